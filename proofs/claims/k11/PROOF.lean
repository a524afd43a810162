import PyProof.Rows.All
import KE.KDictSum
import KE.KDictOf
import KE.LcSums
import KE.KItem
import KE.RegKIsAll
import KE.RegKTryMore
import PySem.Challenge.RW_ownroom_k11_rooms_refused
set_option compiler.extract_closed false
inductive Bv {α β:Type}(p:α->β->Prop):Prop
 |mk (x0:α) (x1:β) (_:p x0 x1):Bv p
inductive Kc {α β γ:Type}(p:α->β->γ->Prop):Prop
 |mk (x0:α) (x1:β) (x2:γ) (_:p x0 x1 x2):Kc p
inductive LP {α β γ δ:Type}(p:α->β->γ->δ->Prop):Prop
 |mk (x0:α) (x1:β) (x2:γ) (x3:δ) (_:p x0 x1 x2 x3):LP p
inductive EK {α β γ δ ε:Type}(p:α->β->γ->δ->ε->Prop):Prop
 |mk (x0:α) (x1:β) (x2:γ) (x3:δ) (x4:ε) (_:p x0 x1 x2 x3 x4):EK p
inductive Kw {α β γ δ ε ζ:Type}(p:α->β->γ->δ->ε->ζ->Prop):Prop
 |mk (x0:α) (x1:β) (x2:γ) (x3:δ) (x4:ε) (x5:ζ) (_:p x0 x1 x2 x3 x4 x5):Kw p
inductive uX (A0 A1 A2:Prop):Prop
 |mk (_:A0) (_:A1) (_:A2):uX A0 A1 A2
inductive Hf (A0 A1 A2 A3:Prop):Prop
 |mk (_:A0) (_:A1) (_:A2) (_:A3):Hf A0 A1 A2 A3
inductive HR (A0 A1 A2 A3 A4:Prop):Prop
 |mk (_:A0) (_:A1) (_:A2) (_:A3) (_:A4):HR A0 A1 A2 A3 A4
inductive Bu (A0 A1 A2 A3 A4 A5:Prop):Prop
 |mk (_:A0) (_:A1) (_:A2) (_:A3) (_:A4) (_:A5):Bu A0 A1 A2 A3 A4 A5
inductive MG (A0 A1 A2 A3 A4 A5 A6:Prop):Prop
 |mk (_:A0) (_:A1) (_:A2) (_:A3) (_:A4) (_:A5) (_:A6):MG A0 A1 A2 A3 A4 A5 A6
inductive LX (A0 A1 A2 A3 A4 A5 A6 A7:Prop):Prop
 |mk (_:A0) (_:A1) (_:A2) (_:A3) (_:A4) (_:A5) (_:A6) (_:A7):LX A0 A1 A2 A3 A4 A5 A6 A7
inductive Kb (A0 A1 A2 A3 A4 A5 A6 A7 A8 A9 A10:Prop):Prop
 |mk (_:A0) (_:A1) (_:A2) (_:A3) (_:A4) (_:A5) (_:A6) (_:A7) (_:A8) (_:A9) (_:A10):Kb A0 A1 A2 A3 A4 A5 A6 A7 A8 A9 A10
inductive Ky (A0 A1 A2 A3 A4 A5 A6 A7 A8 A9 A10 A11 A12:Prop):Prop
 |mk (_:A0) (_:A1) (_:A2) (_:A3) (_:A4) (_:A5) (_:A6) (_:A7) (_:A8) (_:A9) (_:A10) (_:A11) (_:A12):Ky A0 A1 A2 A3 A4 A5 A6 A7 A8 A9 A10 A11 A12
theorem cy {α F G:Sort _}{f:α->F->G}(a:α) (b:F):f a b=f a b:=rfl
theorem IU:0<=PySem.sizeLine:=by(decide)
theorem m6:1<=PySem.sizeLine:=by(decide)
theorem dN:2<=PySem.sizeLine:=by(decide)
theorem m5:3<=PySem.sizeLine:=by(decide)
theorem gC:4<=PySem.sizeLine:=by(decide)
theorem MB:5<=PySem.sizeLine:=by(decide)
theorem MQ:6<=PySem.sizeLine:=by(decide)
theorem Lp:7<=PySem.sizeLine:=by(decide)
theorem MF:8<=PySem.sizeLine:=by(decide)
theorem Dw:(0:Int)<2:=by(decide)
theorem Io:(0:Int)<3:=by(decide)
theorem JG:(0:Int)<4:=by(decide)
theorem xG:(0:Int)<8:=by(decide)
set_option Elab.async false
set_option linter.all false
set_option genSizeOf false
set_option genInjectivity false
set_option tactic.hygienic false
set_option maxRecDepth 100000
open PySem.W (Frag)
set_option maxHeartbeats 0
local macro_rules | `(tactic| omega) => `(tactic| lia)
theorem aq {p:Prop}(h:p:=by decide +kernel):p:=h
theorem ao {p:Prop}(h:p:=by decide):p:=h
theorem ag {p:Prop}(h:p:=by omega):p:=h
open PySem.W (instObj hideAll_get lookIn handedIn isFn plainOver takerIn makesIn emptyDict kitx_list kitx_tuple kitx_dict callWith_K0 excIn exmOne KdlSrc kdl_dict mg_of)
open List (replicate all_cons foldl map_take filter)
open Nat (le_refl log2_lt)
open Int (toNat)
open Option (getD_none bind_some)
open Array (toList)
open PySem
open _root_.PySem renaming Shared->k8,wpAny_bind->nq,FuncData->pa,Program->rn,sizeLine_eq->ti,World->By,Around->Oj,Expr->Ou,mainGlobals->Ov,Stmt->Oz,bootBuiltins->OE,wpAny_mono->OG,wpAny_passesOwn->Pa,Spec->Pf,wpAny_holding->Pm,compareOp->Pq,mem_of_lookup->Pw,lookup_relabel_local->PV,wpAny_truthy_bool->PZ,wpAny_execs_nil->P0,keywordEach->P2,wpAny_Call_Name_kw->P5,tupleKind_room_in1->P7,wpAny_newObj_type->Qa,foldedSetIterable->Qb,sysModules->Qh,Builtin->Ql,call_meetsIn->QA,cLine->QG,attributeBase->QI,Pos->QM,wpAny_rule->QP,holding->QU,getMethod->QV,wpAny_call_entry->QX,behindInMarks->Q0,backToKw->Q1,wpAny_comprehension_free->Q4,call_meets->Ra,swapsWith->Rb,sliceBounds->Rf,codeAny->Rh,wpAny_Call_method->Ro,wpAny_execs_cons->Rt,wpAny_standAt->RC,getItem->RD,binaryOp->RL,wpAny_field->RM,codeAny_call_builtin->RP,Sem->RS,standAt->RZ,codeAny_mono->Sa,tupleKind->Se,Scope->Sf,assignEach->Sg,wpAny_call->Sl,callWith->Sn,Model->SG,wpAny_pyIter_list->SH,seqIndex_of->SJ,Env->SW,wpAny_callSpecial?_slot->S0,wpAny_Call_method0_late->Tf,wpAny_pyNext_range_end->Tj,wpAny_pyIter_rangeiter->Tn,IsPart->Tq,wpAny_typeOf->Tr,wpAny_getItem_list_neg->Tt,wpAny_noteFrame_againW->Tx,valueAt->Tz,letOwnedTupleGo->TC,wpAny_isTrue_Compare1->TF,IsRangeIter->TY,subscripted->TZ,underTheClaimsCaller->Ud,Keyword->Uh,callerA->Ui,codeAny_forLoop_any->Ul,evalArgs_none->Uq,assignInOrder->Ur,wpAny_attempt->Ut,wpAny_newList->Uv,frameOf->Uw,assign->Uz,wpAny_pyIter_range->UA,Within->UL,GenState->UM,wpAny_Return_some->UN,Operator->UO,wpAny_assign_Name->UP,wpAny_Assign_Name->UR,bindName->US,BindsTo->UZ,wpAny_sequenceKey->U1,slot_list_getitem->U2,entryPlaceOf->U8,wpAny_pyIter_enum->U9,PassesOwn->Vc,typeOf->Vd,checkBuiltinCall->Vf,wpAny_pyIter_zip->Vg,atKey->Vo,spliced->Vz,builtinsNs->VF,wpAny_Name->VH,Result->VL,bindArgs->VM,bindL->VN,bindC->VO,typeLookup->VQ,typeIs_int->VS,call->VT,compEnvC->V4,wpAny_For->Wl,cellsFrom->Wn,seqIndex?->Wo,setItem->Wr,Tok->Wx,CmpOp->Wz
open _root_.List renaming length_map->k9,getElem?_eq_some_iff->mu,mem_singleton->oR,mem_append->qj,size_toArray->qs,mem_map->rk,getElem?_map->t4,mem_cons->t7,not_mem_nil->vr,mem_of_getElem?->wh,length_append->G1,map_append->IF,length_cons->K4,getElem?_eq_getElem->L1,mem_append_right->L8,length_take->Om,nodup_cons->Ot,range->Ox,mem_cons_of_mem->Oy,mem_cons_self->OA,getElem?_set_ne->OB,pairwise_append->OD,all_eq_true->OJ,getElem?_set_self->OL,append_assoc->OO,length_set->OR,length_replicate->OS,length_singleton->OT,take_of_length_le->OV,length_eq_zero_iff->OW,take_add_one->OZ,mem_range->O0,mem_append_left->O8,take_length->Pj,map_cons->Pn,idxOf_lt_length_iff->Pp,getElem_mem->Py,pairwise_iff_getElem->Pz,map_map->PB,getElem?_append_right->PF,take_append_drop->PL,mem_reverse->PM,count_pos_iff->PQ,length->PR,replicate_succ->PU,filter_cons->PX,map_congr_left->PY,length_drop->P4,extract_eq_take_drop->P9,getElem?_append_left->Qc,drop_eq_getElem_cons->Qd,length_range->Qf,sum_cons->Qg,nodup_nil->Qr,getElem_of_mem->Qs,drop_eq_nil_of_le->QB,mem_filter->QD,length_filter_le->QK,erase_of_not_mem->QL,pairwise_map->QO,take_sublist->QW,perm_append_comm->QZ,mem_of_mem_take->Q8,lookup->Rc,flatten_cons->Ri,getElem_take->Rl,reverse_append->Rn,nodup_append->Rp,eraseIdxIfInBounds_toArray->Rq,find?_cons->Rw,any_eq_true->Ry,mem_flatMap->RB,mem_of_mem_drop->RO,filterMap_cons->RW,flatMap_append->RX,drop_sublist->Sb,mem_filterMap->Sj,getElem_idxOf->Sv,map_replicate->Sx,filter_eq_self->Sy,perm_ext_iff_of_nodup->Sz,mem_or_eq_of_mem_set->SE,getElem?_zip_eq_some->SF,count_cons_of_ne->TV,any_cons->T8,mem_iff_getElem->Ua,reverse_reverse->Uc,getElem?_of_mem->Ug,take_zero->Uj,append_nil->UB,range_succ->UH,count_eq_zero->UI,any_eq_false->UU,getElem_drop->U4,ext_getElem?->U7,set_set->Va,getElem_set->Vj,nodup_range->Vk,nil_append->Vq,filter_map->Vu,length_zip->Vv,map_nil->VB,of_mem_zip->VP,drop_drop->VX,drop_zero->VY,length_nil->V0,take_succ->V6,map_drop->Wh,all_map->Wv,map_set->Ww,set->WH,map_id->WI
open _root_.PyProof.Rows renaming wpS_bind->qi,wpS_pure->ql,arrOf->vu,Keyed->BY,pendingOf->Oo,SortSt->OM,slot_tuple_getitem->ON,wpS_forRange->OP,callWith_type1->Pe,wpS_mono->PH,numOf->Qt,wpS_modify->Qu,IntsAre->QY,oneType'->Q2,failedOf->Q3,wpS_get->Rj,AllBare->RY,assignInOrder_cons->Si,envOfC->So,wpS_lift->S9,subscriptTail_builtinR->Ts,pairsOf->Tu,pairsOf_size->Tv,entry_tuple_getitem->Um,subscriptTail->Us,listUpdate_at->Uu,args_tuple_getitem->UC,assignInOrder_nil->UQ,seqEpoch_at->Vn,iadd_int->VA,K_congr->VD,boot_range->VI,Subscript_->VR,mirror->VW,size_push'->V2,isInt_at->V5,wpS->Wy,stC->WE,isInt->WG
open _root_.Option renaming map_eq_some_iff->qw,ne_none_iff_exists'->Pu,isSome_iff_exists->Qi,map_eq_none_iff->QC,isSome_map->Rx,bind_some->Rz,not_isSome_iff_eq_none->RQ,getD_some->Vi,none->WD
open _root_.Ne renaming symm->ro
open _root_.Nat renaming le_refl->rr,le_trans->L3,lt_of_lt_of_le->Ow,zero_le->OC,ne_of_lt->OI,le_of_not_lt->OU,lt_of_le_of_ne->Pb,sub_succ_lt_self->Pd,lt_of_lt_of_eq->PN,add_lt_of_lt_sub'->P8,pred_eq_succ_iff->Qe,lt_of_le_of_lt->Qq,le_sub_iff_add_le'->Qx,le_of_add_right_le->Qy,one_le_iff_ne_zero->Qz,eq_of_lt_succ_of_not_lt->QN,lt_irrefl->QT,add_le_add_iff_left->Rg,le_of_lt_succ->Rk,le_of_ble_eq_true->Rr,le_succ->RG,add_sub_of_le->RJ,min_eq_right->Sd,sub_lt_left_of_lt_add->SA,lt_of_succ_lt->SN,le_of_succ_le->SO,min_eq_left->SQ,lt_succ_of_lt->SS,lt_succ_self->SY,eq_zero_of_not_pos->TB,add_sub_self_left->TL,le_sub_of_add_le'->TM,sub_one_lt_of_le->Ub,add_le_add_left->Uo,sub_add_cancel->UD,ne_of_gt->UT,le_of_eq->UW,lt_trans->U3,succ_le_of_lt->U5,zero_lt_of_lt->U6,succ_pos->Vb,sub_lt_of_lt->Ve,le_add_right->Vh,min_le_left->Vx,le_of_lt->VG,zero_add->VZ,add_le_add->V1,sub_le->Wu
open _root_.Option.some renaming inj->sS
open _root_.Sum renaming inl->t6,inr->Ol
open _root_.Bool renaming false_ne_true->vl,false_eq_true->PK,and_eq_true->Qp,eq_iff_iff->QF,and_false->T9,and_eq_true_iff->Ue
open _root_.PySem.W renaming kitOne->DO,Frag->HC,findIn->OQ,kia_one->OY,methodCall_KW->RE,OpenLaw->RN,specialIn->R0,looks_findIn->Sk,callWith_K->Sm,keepIn->To,cellsFrom_some->Tp,takesIn->TH,mroIn->TK,Looks->Uk,kitAny->UG,nsIn->UK,plainGet_of->Vm,WalkO->VC,of_hideAll->VE,plainGet->VJ,methodObj->Wj,hasDictIn->Wm,hideAll->Wq,fnOf->Ws,codeIn->Wt
open _root_.Int renaming emod_lt_of_pos->L0,emod_nonneg->Oq,le_of_lt->OH,le_refl->OX,le_trans->P1,toNat_natCast->Qj,toNat_of_nonneg->Q9,lt_of_lt_of_le->Sq,lt_of_le_of_lt->Sr,natCast_add->Vy
open _root_.PySem.PassesOwn renaming never->NC
open _root_.PySem.F renaming plainAttrs_list->Pc,slot_list_append->Qm,type_list_append->Qn,slot_list_extend->Qo,plainAttrs_dict->QH,slot_dict_get->Q5,slot_dict_itemiterator_iter->Q6,slot_dict_setdefault->RV,entry_dict_get->Sw,plain_extend_loop->SD,slot_dict_values->SU,type_list_remove->SV,slot_list_index->Tc,args_dict_get_2->Td,args_dict_get_3->Te,slot_dict_items->Tg,slot_list_remove->Th,type_list_extend->Ti,slot_dict_pop->TN,type_dict_get->TU
open _root_.False renaming elim->Ph
open _root_.Array renaming length_toList->Pk,toList_append->Po,getElem?_toList->Px,perm_iff_toList_perm->P6,getElem?_eq_some_iff->QS,toList_extract->Ss,toList_reverse->Su,toList_push->SM,size_push->Ta,size_map->V3
open _root_.True renaming intro->Pt
open _root_.Classical renaming byContradiction->PD
open _root_.PySem.SeqAt renaming EqAt->Qk
open _root_.Iff renaming mpr->Qv,mp->WM
open _root_.List.Perm renaming append_right->Qw,append_left->QJ,trans->RU
open _root_.PySem.Sem renaming wp->QR
open _root_.List.Nodup renaming mem_erase_iff->Q7
open _root_.PySem.Data renaming cell->Ru,fields->RK,seq->VU
open _root_.PySem.IsL renaming update->Rv
open _root_.Eq renaming symm->RH
open _root_.Or renaming inl->RT,inr->WL
open _root_.List.Pairwise renaming nil->SK
open _root_.Prod.mk renaming inj->SR
open _root_.PySem.SeqAt.EqAt renaming int_str->Ux,str_int->Uy,of_refs->UJ,same->Vp
open _root_.PyProof.Rows.SortSt renaming mk'->UE
open _root_.PySem.Around renaming under->UX
open _root_.PySem.Code renaming isFrame->UY,frames->WC
open _root_.Prod renaming ext->U0
open _root_.Sum.inl renaming inj->Vl
open _root_.Array.Perm renaming refl->Vr
open _root_.ForInStep renaming yield->Vs
open _root_.PySem.W.Looks renaming ld->Vt,here->WJ
open _root_.PySem.EqMixed renaming eq_bool_str->V7,eq_str_bool->V8,ne_bool_str->V9,ne_str_bool->Wa,eq_int_str->Wc,eq_str_int->Wd,ne_int_str->We,ne_str_int->Wf
open _root_.PySem.SeqAt.RcNeAt renaming tuples->Wb,lists->Wi
open _root_.PyProof.Rows.LSm renaming kept_iter->Wg
open _root_.PyProof.Rows.IsTup renaming new->Wk
open _root_.PySem.Walks renaming range->WA,list->WN
open _root_.PySem.IsRange renaming new->WB
open _root_.PySem.W.WShape renaming has->WK
theorem WO {c:Prop}{h:Decidable c}(n:¬c){α:Sort u}{t e:α}:ite c t e=e:=if_neg n
theorem WQ {c:Prop}{h:Decidable c}(n:c){α:Sort u}{t e:α}:ite c t e=t:=if_pos n
abbrev WR:=Addr->Prop
abbrev WT:=Int->Int->List Int
abbrev WU:=List (Addr×Obj)
abbrev WV:=Value->k8->Prop
abbrev WW:=Str->Option Value
abbrev WX:=List (Int×Addr×Int)
abbrev WY:=Int->List Int
abbrev WZ:=Array Value
abbrev W0:=List Value
abbrev W3:=Option Value
abbrev W4:=Option Addr
theorem XG(n:Nat):(0:Int)<Int.ofNat (n+1):=Int.ofNat_lt.mpr (Nat.succ_pos n)
abbrev XC:=List SW
abbrev XB:=List Ou
abbrev W9:=Array BY
abbrev W8:=Option Int
abbrev W7:=List Addr
abbrev W6:=List Str
abbrev W5:=List Int
section
namespace Hd
open PySem PySem.W PyProof.Rows
def ue:List Obj->List Obj×List Obj
 | []=>([],[])
 | [a]=>([a],[])
 |a::b::r=>(a::(ue r).1,b::(ue r).2)
def build:Nat->List Obj->BT
 |0,_=>.nil
 |_+1,[]=>.nil
 |f+1,o::r=>.node o (build f (ue r).1) (build f (ue r).2)
def topT (tb:String->Option Builtin) (p:Program) (w:World) (m:Nat) (an:Option Value):Nat->SharedT->Thread->Option SharedT
 |0,_,_=>none
 |k+1,x,t=>match through t with
  |true=>some x
  |false=>match stepOk m an t with
   |false=>none
   |true=>match stepT (denote tb) p w x t with
    |some (y,u)=>topT tb p w m an k y u
    |none=>none
theorem topT_of {tb:String->Option Builtin}{p:Program}{w:World}{m:Nat}{an:Option Value}:∀{k:Nat}{x z:SharedT}{t:Thread},topT tb p w m an k x t=some z->topRun tb p w m an k x.abs t=some z.abs:=by
 intro k
 induction k with
 |zero=>intro x z t e;cases e
 |succ k F =>
  intro x z t e;unfold topT at e;unfold topRun;cases a:through t with
  |true=>rw[a]at e;cases e;rfl
  |false =>
   rw[a]at e;cases b:stepOk m an t with
   |false=>rw[b]at e;cases e
   |true =>
    rw[b]at e;cases c:stepT (denote tb) p w x t with
    |none=>rw[c]at e;cases e
    |some r =>
     obtain⟨y,u⟩:=r;rw[c]at e;rw[stepT_spec c];exact F e
def CM (p q:Program) (loose:List Str) (G:Shared->Bool) (F:Bool) (h:Heap) (s:Shared):=
 (staticsOk (importedModules p.main.body) h s.heap&&namesBound p s.heap&&gensDone s&&laidKept h s.heap,openSeen q loose (importedModules p.main.body) G F s)
theorem E3 {p q:Program}{loose:List Str}{O:Shared->Bool}{α:Type}{L:Shared->α}{I:World->α}{N M m:Nat}{J:Bool}{H:Params->Heap}{T:Params->BT}{life:Life}{gs:Array GenState}{d:Drawn}{k:Nat}{an:Option Value}
  (hO:∀w:World,(fencedOpening treeTable p w N).map (λs=>(s.heap,s.gens,s.drawn,s.toks))=some (H w.params,gs,d,k))
  (U:∀P,absHeap (T P) m life=H P)
  (hS:∀w:World,((H w.params).isNs mainGlobals&&gs.size==0,(H w.params).objs.size,(H w.params).nsMap mainGlobals "__annotations__")=(true,m,an))
  (le:Nat.ble M N=true)
  (run:∀(w:World) (os:OsState),(topT treeTable p w m an M ⟨T w.params,m,life,gs,d,k,os⟩ (topStub p)).map (λs=>(CM p q loose O J (H w.params) s.abs,L s.abs))=some ((true,openGood q loose),I w)) :
  LeftO p q loose O L I N J:=by
 intro w;obtain⟨s,a,b⟩:=Option.map_eq_some_iff.mp (hO w);obtain⟨h,F,d',G,os⟩:=s;simp only[Prod.mk.injEq]at b;obtain⟨rfl,rfl,rfl,rfl⟩:=b;have z:=hS w;simp only[Prod.mk.injEq]at z;obtain⟨z1,Y,z3⟩:=z;obtain⟨x,c,e⟩:=Option.map_eq_some_iff.mp (run w os);have r:=topT_of c;have ab:(SharedT.mk (T w.params) m life F d' G os).abs=⟨H w.params,F,d',G,os⟩:=by
  unfold SharedT.abs;rw[U]
 rw[ab]at r;have r:=topRun_mono (N-M) _ _ _ _ r;rw[show M+(N-M)=N from Nat.add_sub_cancel' (Nat.le_of_ble_eq_true le)]at r;simp only[CM,Prod.mk.injEq]at e;obtain⟨⟨S,R⟩,e3⟩:=e;have t:topFrom treeTable p w N ⟨H w.params,F,d',G,os⟩=some x.abs:=by
  unfold topFrom;dsimp only;rw[z1,Y,z3,r];simp only[bind_some,S]
 unfold openEnds;rw[a];simp only[bind_some,t,Option.map_some,R,e3]
theorem both {r:OpenRow}{q:Program}{loose:List Str}{d:DefRec}{F:List (Str×Expr)}{N:Nat}(H:Hook)
  (h1:defOf q r.name=some (d,F)) (h2:r.prog.theDef r.name=some (d.params,d.body,d.scope)) (J:kwWritten? d.params.kwonlyargs d.params.kw_defaults=some F) (L:(!r.writes||r.records.isEmpty)=true)
  (G:r.wellSaid=true) (O:(chainsOk q&&opensWell r.prog&&(frees r.toRowW&&r.within.isEmpty))=true) (I:r.prog.bare) (R:r.toRowW.promised)
  (h:LeftO r.prog q loose (λs=>xlAt q [] s&&recOk r.records s) H.obs H.val N/\WalkO q loose (XL q []) H.says r.toRowW d F λf vs=>PySem.call f vs):r.Holds :=
 holds_open h.1 H.of H.keeps (λs e=>xl_of s (Bool.and_eq_true_iff.mp e).1) XL.keeps h1 h2 J (λs e=>recFacts_of (Bool.and_eq_true_iff.mp e).2) L G O I R h.2
def Gf (s:SharedT) (a:Nat):Option Obj:=match Nat.blt a s.n with
 |true=>match s.tree.get a with
  |some o=>alive o
  |none=>alive default
 |false=>none
theorem Fd (s:SharedT):s.abs.heap.get?=Gf s:=by
 funext a;unfold Gf;cases h:Nat.blt a s.n with
 |true =>
  have h:a<s.n:=Nat.le_of_ble_eq_true h;cases g:s.tree.get a with
  |some o=>exact abs_get h g
  |none =>
   show(absHeap s.tree s.n s.life).get? a=_;unfold Heap.get?;rw[absHeap_at,if_pos h,g];rfl
 |false=>exact abs_get_none λk=>by rw[show Nat.blt a s.n=true from Nat.ble_eq_true_of_le k]at h;cases h
noncomputable def Hb (P:Params):BT:=build 12 (boot_heap P).objs.toList
open PySem.Challenge
def q:Program:=PySem.W.view pw_ownroom_k11_rooms_refused [74]
def loose:List Str:=(pw_ownroom_k11_rooms_refused.main.scope.names.map (·.1)).dropLast
theorem ws:rw_ownroom_k11_rooms_refused.wellSaid=true:=by kernel_rfl
local macro_rules | `(tactic| o_law) => `(tactic| refine PySem.W.holds_law Hd.ws λ said=>?_)
local macro_rules | `(tactic| o_head $H) => `(tactic| refine Hd.both (q:=Hd.q) (loose:=Hd.loose) (N:=100000) $H (by rfl) (by rfl) (by rfl) (by rfl) (by assumption) aq ⟨rfl,rfl,rfl,rfl,rfl,aq⟩ ?$(Lean.mkIdent `hw):ident ?$(Lean.mkIdent `hc):ident)
open_top top for rw_ownroom_k11_rooms_refused
noncomputable def ru (p q:Program) (ls:List Str) (F:_) (f:SharedT->List (Option Obj)) (w:World) (os:OsState):=(topT treeTable p w 11 (some (.ref 6)) 100000 ⟨Hb w.params,11, {},Array.mk [],boot_drawn,boot_toks,os⟩ (topStub p)).map λs=>(CM p q ls (λs=>xlAt q [] s&&recOk F s) true (boot_heap w.params) s.abs,f s)
noncomputable def Nq (p q:Program) (ls:List Str) (F:_) (l:List Addr):=ru p q ls F λs=>l.map (Gf s)
noncomputable def LZ (q:Program) (ls:List Str) (K:Frag):=some ((true,openGood q ls),K.map λp=>some p.2)
theorem BW:Nq=Nq:=rfl
theorem ED:LZ=LZ:=rfl
name_quick hdL for Hd.Nq by Hd.BW
name_quick hdR for Hd.LZ by Hd.ED
theorem run_ {p q:Program}{ls:List Str}{F:_}{l:List Addr}{K:Frag}(w:World) (os:OsState) (h:PySem.W.Fast.hdL p q ls F l w os=PySem.W.Fast.hdR q ls K):ru p q ls F (λs=>l.map s.abs.heap.get?) w os=LZ q ls K:=by
 rw[show(λs:SharedT=>l.map s.abs.heap.get?)=λs=>l.map (Gf s)from funext λs=>by rw[Fd]];exact(congrFun (congrFun (congrFun (congrFun (congrFun (congrFun (congrFun PySem.W.Fast.hdL_eq p) q) ls) F) l) w) os).trans (h.trans (congrFun (congrFun (congrFun PySem.W.Fast.hdR_eq q) ls) K).symm)
def top2:=λh=>Hd.top ⟨E3 (H:=boot_heap) (T:=Hb) (life:={}) (m:=11) (M:=100000) (gs:=Array.mk []) (d:=boot_drawn) (k:=boot_toks) (an:=some (.ref 6)) (boot_open (by kernel_rfl) ao (λs=>by kernel_rfl)) (λP=>by kernel_rfl) (λw=>by kernel_rfl) ao (λw os=>run_ w os (by kernel_rfl)),h⟩
end Hd
local macro_rules|`(tactic|show $t)=>`(tactic|refine $t)
open Lean in
local macro_rules|`(tactic|let $d:letDecl)=>`(tactic|have $d:letDecl)
local macro_rules|`(tactic|rwa $s:rwRuleSeq at $h:ident)=>`(tactic|(rw $s:rwRuleSeq at $h:ident;cases $h:ident))
local macro_rules|`(‹$t›)=>`(by simpa using $t)
local macro_rules|`(tactic|cases $h:ident : $t)=>`(tactic|by_cases $h:ident : $t)
local macro_rules|`($s⁻¹)=>`(Array.size (PySem.Heap.objs (PySem.Shared.heap $s)))
open Lean in
local macro_rules|`(tactic|intros $x*)=>`(tactic|intro $(mkIdent `pins):ident $(mkIdent `s):ident $(mkIdent `σ):ident $(mkIdent `H):ident $(x.map fun y=>⟨y⟩)*)
local macro_rules|`(tactic|intros)=>`(tactic|iterate 10 intro)
open Lean in
local macro_rules|`(~~~$h $x*)=>`($(mkIdent `Inv) $(mkIdent `X) $(mkIdent `pins) $(mkIdent `σ) $h $x*)
open Lean in
local macro_rules|`(↑$f)=>`(wpAny (model $(mkIdent `X.prog) $(mkIdent `X.w)) $(mkIdent `X.A) $f)
open Lean in
local macro_rules|`(#v[$xs,*])=>do
 let y<-xs.getElems.mapM λ(x:Term)=>match x with|`(.$_:ident $_*)=>`(some $x)|_=>pure x
 `([$y,*])
open Lean in
local macro_rules|`(⇑$f)=>`($f $(mkIdent `P) $(mkIdent `w) $(mkIdent `K) $(mkIdent `mg) $(mkIdent `base) ($(mkIdent `fQ) $(mkIdent `P) $(mkIdent `w)))
open Lean in
local macro_rules|`(↥$f)=>`($f $(mkIdent `P) $(mkIdent `w) $(mkIdent `K) $(mkIdent `mg) $(mkIdent `base) $(mkIdent `aU))
open Lean in
local macro_rules|`(#[$xs,*])=>do
 let T:=([← `(⟨_,rfl⟩),← `(⟨rfl,rfl⟩),← `(⟨_,_⟩),← `(⟨?_,?_⟩),← `(⟨rfl,_⟩),← `(⟨rfl,?_⟩)]:List (TSyntax `term))
 let mut r:Array (TSyntax `term):=Array.mk []
 for x in xs.getElems do
  match x.raw.isNatLit? with
  |some k=>
   match T[k]! with
   |`(⟨$ys,*⟩)=>r:=r++ys.getElems
   |_=>r:=r
  |_=>r:=r.push x
 `(⟨$r,*⟩)
open Lean in
local macro_rules|`(tactic|let $p:term:=$e)=>do
 let rec go (n:Nat)(t:Syntax):MacroM (TSyntax `rcasesPat):=do
  match n with
  |0=>Macro.throwUnsupported
  |n+1=>match t with
   |`($i:ident)=>`(rcasesPat|$i:ident)
   |`(_)=>`(rcasesPat|_)
   |`(#[$xs,*])=>do `(rcasesPat|⟨$(←xs.getElems.mapM fun x=>do `(Parser.Tactic.rcasesPatLo|$(←go n x):rcasesPat)),*⟩)
   |_=>Macro.throwUnsupported
 match p with
 |`(#[$_,*])=>do `(tactic|obtain $(←go 99 p):rcasesPat := $e)
 |_=>Macro.throwUnsupported
namespace L2
open PySem PySem.Spec PyProof.Rows
abbrev Key:=Sum Int Str
def oW:Key->Value->Bool
 |.inl k,v=>Value.isInt k v
 |.inr x,v=>Value.isStrOf x v
def My(w:By):Key->Int
 |.inl k=>hashInt k
 |.inr x=>hashStr w x
theorem cM:∀{k:Key}{v:Value},oW k v=true->(∃i t,k=t6 i/\v=Value.int i t)\/(∃x t,k=Ol x/\v=Value.str x t)
 |.inl i,v,h=>by
  let#[t,e]:=Value.isInt_shape (k:=i) (v:=v) h;show .inl #[i,t,rfl,e]
 |.inr x,v,h=>by
  let#[t,e]:=Value.isStrOf_shape (x:=x) (v:=v) h;show .inr #[x,t,rfl,e]
theorem AK(i:Int)(t:Wx):oW (.inl i) (.int i t)=true:=by simp[oW,Value.isInt]
theorem Ak(x:Str)(t:Wx):oW (.inr x) (.str x t)=true:=by simp[oW,Value.isStrOf]
theorem JB(a b:Int):decide ((t6 a:Key)=t6 b)=(a==b):=by
 cases e:a=b
 .subst e;simp
 .let h:¬ (t6 a:Key)=t6 b:=λq=>e (Vl q);rw[decide_eq_false h];show(beq_eq_false_iff_ne.mpr e).symm
theorem IM(a b:Str):decide ((Ol a:Key)=Ol b)=decide (a=b):=by
 cases e:a=b
 .subst e;simp
 .let h:¬ (Ol a:Key)=Ol b:=λq=>e (Sum.inr.inj q);rw[decide_eq_false h,decide_eq_false e]
theorem IJ(a:Int)(b:Str):decide ((t6 a:Key)=Ol b)=false:=decide_eq_false (λq=>nomatch q)
theorem Jr(a:Str)(b:Int):decide ((Ol a:Key)=t6 b)=false:=decide_eq_false (λq=>nomatch q)
def bR(prog:rn)(w:By):PySem.KeyKind prog w Key where
 is:=oW
 hash:=My w
 inj:=λv a b L I=>by
  rcases cM L with⟨i,t,rfl,rfl⟩|⟨x,t,rfl,rfl⟩
  .rcases cM I with⟨j,u,rfl,e⟩|⟨y,u,rfl,e⟩
   .injection e with F _;rw[F]
   .show nomatch e
  .rcases cM I with⟨j,u,rfl,e⟩|⟨y,u,rfl,e⟩
   .show nomatch e
   .injection e with F _;rw[F]
 byValue:=λk v h=>by
  rcases cM h with⟨i,t,rfl,rfl⟩|⟨x,t,rfl,rfl⟩<;>rfl
 pyHash:=λG h=>by
  rcases cM G with⟨i,t,rfl,rfl⟩|⟨x,t,rfl,rfl⟩
  .show wpAny_pyHash_int h
  .show wpAny_pyHash_str h
 eqBool:=λJ G h=>by
  rcases cM J with⟨i,t,rfl,rfl⟩|⟨x,t,rfl,rfl⟩
  .rcases cM G with⟨j,u,rfl,rfl⟩|⟨y,u,rfl,rfl⟩
   .rw[JB]at h;show wpAny_eqBool_int h
   .rw[IJ]at h;show Ux i t y u _ _ _ _ h
  .rcases cM G with⟨j,u,rfl,rfl⟩|⟨y,u,rfl,rfl⟩
   .rw[Jr]at h;show Uy x t j u _ _ _ _ h
   .rw[IM]at h;show wpAny_eqBool_str h
 «strs» := λk x t v h=>by
  rcases cM h with⟨i,u,rfl,e⟩|⟨y,u,rfl,e⟩
  .show nomatch e
  .injection e with F _;subst F;cases v<;>rfl
theorem wt(prog:rn)(w:By)(i:Int)(t:Wx):(bR prog w).is (.inl i) (.int i t)=true:=AK i t
theorem vk(prog:rn)(w:By)(x:Str)(t:Wx):(bR prog w).is (.inr x) (.str x t)=true:=Ak x t
set_option genInjectivity true in
inductive V where
 |non|bl (b:Bool)|int (i:Int)|str (x:Str)|byt (b:Array UInt8)|flt (b:UInt64)|ref (a:Addr)|ty (n:String)
 deriving DecidableEq
abbrev XE:=List (Key×V)
abbrev XD:=List V
def RelV:V->Value->Prop
 |.non,u=>u=Value.none
 |.bl b,u=>u=Value.bool b
 |.int i,u=>∃t,u=Value.int i t
 |.str x,u=>∃t,u=Value.str x t
 |.byt b,u=>∃t,u=Value.bytes b t
 |.flt b,u=>∃t,u=Value.float b t
 |.ref a,u=>u=Value.ref a
 |.ty n,u=>u=Value.type n
abbrev Vals:List V->List Value->Prop:=Paired RelV
theorem Vals.length{xs:XD}{us:W0}(r:Vals xs us):xs.length=us.length:=Paired.length r
theorem Vals.get:∀{xs:XD}{us:W0}{i:Nat}{x:V},Vals xs us->xs[i]?=some x->∃u,us[i]?=some u/\RelV x u
 |_,_,_,_,.nil,e=>by simp at e
 |_,_,0,_,.cons r _,e=>by simp at e;subst e;show#[0,r]
 |_,_,i+1,x,.cons _ t,e=>by
  let#[u,h1,h2]:=Vals.get (i:=i) (x:=x) t ‹e›;show#[u,by simpa using h1,h2]
theorem Vals.set{x:V}{u:Value}(r:RelV x u):∀{xs:XD}{us:W0}(i:Nat),Vals xs us->Vals (xs.set i x) (us.set i u)
 |_,_,_,.nil=>.nil
 |_,_,0,.cons _ t=>.cons r t
 |_,_,i+1,.cons q t=>.cons q (Vals.set r i t)
theorem Vals.append:∀{xs ys:XD}{us ws:W0},Vals xs us->Vals ys ws->Vals (xs++ys) (us++ws)
 |_,_,_,_,.nil,s=>s
 |_,_,_,_,.cons r t,s=>.cons r (Vals.append t s)
theorem Vals.take:∀{xs:XD}{us:W0}(n:Nat),Vals xs us->Vals (xs.take n) (us.take n)
 |_,_,0,_=>.nil
 |_,_,_+1,.nil=>.nil
 |_,_,n+1,.cons r t=>.cons r (Vals.take n t)
theorem Vals.drop:∀{xs:XD}{us:W0}(n:Nat),Vals xs us->Vals (xs.drop n) (us.drop n)
 |_,_,0,r=>r
 |_,_,_+1,.nil=>.nil
 |_,_,n+1,.cons _ t=>Vals.drop n t
def gS:Option V->Option Value->Prop
 |some v,some u=>RelV v u
 |none,none=>True
 |_,_=>False
def KV{κ:Type}:List (κ×V)->List (κ×Value)->Prop:=Paired λ(p:κ×V)(q:κ×Value)=>p.1=q.1/\RelV p.2 q.2
def kV:Key->V
 |.inl i=>.int i
 |.inr x=>.str x
set_option genInjectivity true in
inductive HO where
  |lst(xs:XD)
  |tup(xs:XD)
  |dK(kvs:XE)|dT (kvs:List (List Key×V))
  |set(S:Int->Bool)(n:Nat)
  |ins(C dx:Addr)(fs:List (Str×V))
  |own(x:Addr)
  |xd(fs:List (Str×V))
  |met(f x:Addr)
  |rng(lo hi:Int)
  |frz(o:Obj)(u:HO)
  |tbl(ps:WZ)
  |ext(φ:Heap->Prop)
abbrev Hp:=Addr->Option HO
def upd(H:Hp)(a:Addr)(o:HO):Hp:=λb=>if b=a then some o else H b
theorem ae{H:Hp}{a:Addr}{o:HO}:upd H a o a=some o:=by unfold upd;rw[WQ rfl]
theorem aj{H:Hp}{a b:Addr}{o:HO}(h:b≠a):upd H a o b=H b:=by unfold upd;rw[WO h]
theorem dg{H:Hp}{a b:Addr}{o u:HO}(h:H a=some o)(h':H b=some u)(d:o≠u):a≠b:=by
 intro e;subst e;rw[h]at h';show d (sS h')
theorem av{H:Hp}{a b:Addr}{o:HO}(h:H a=some o)(h':H b=none):a≠b:=by
 intro e;subst e;rwa[h]at h'
section
variable(P:rn)(w:By)
def cn(H:Hp)(h:Heap)(a:Addr):HO->Prop
 |.lst xs=>xs.length<=sizeLine/\∃(its:W0)(n:Nat),Vals xs its/\h.get? a=some { cls:=.type "list",data:=.seq its.toArray n }
 |.tup xs=>xs.length<=sizeLine/\∃its:List Value,Vals xs its/\IsTup h a its.toArray
 |.dK kvs=>kvs.length<=sizeLine/\(a==Qh)=false/\∃vs,KV kvs vs/\h.DictOf (bR P w) a vs
 |.dT kvs=>kvs.length<=sizeLine/\(a==Qh)=false/\∃xs:List (List Key×Addr×Value),
   Paired (λ(p:List Key×V)(q:List Key×Addr×Value)=>p.1=q.1/\H q.2.1=some (.tup (p.1.map kV))/\RelV p.2 q.2.2) kvs xs /\
   ∃o es ep,h.get? a=some o/\o.ExactDict/\o.data=.dict es ep/\es.toList=xs.map (entryOfKey (Se (bR P w)))/\(xs.map (·.1)).Nodup
 |.set S n=>h.SetOf (intKind P w) a S n
 |.ins C dx fs=>H dx=some (.own a)/\fs.length<=1000/\dx≠a/\h.get? a=some (instObj C dx) /\
   ∃mA,h.Ns1 dx mA/\(∀f,gS (fs.lookup f) (mA f))/\UL mA (fs.map (·.1))
 |.own _=>∃o,h.get? a=some o
 |.xd fs=>∃mA,h.Ns1 a mA/\∀f,gS (fs.lookup f) (mA f)
 |.rng lo hi=>∃t u v,h.get? a=some { cls:=.type "range",data:=.fields ([.int lo t,.int hi u,.int 1 v].toArray) }
 |.frz o u=>h.get? a=some o/\cn H h a u
 |.tbl ps=>h.get? a=some { cls:=.none,data:=.fields ps }
 |.met f x=>h.get? a=some (Wj (.ref f) (.ref x))
 |.ext F=>F h/\(∃o,h.get? a=some o)/\∀h1 h2:Heap, F h1->(∀o,h1.get? a=some o->h2.get? a=some o)->F h2
def j4(H:Hp)(h:Heap):Prop:=∀a o,H a=some o->cn P w H h a o
variable{P:rn}{w:By}{H H':Hp}{h h':Heap}{a:Addr}{o:HO}
theorem cn.lt(x:cn P w H h a o):a<h.objs.size:=by
 cases o with
 |lst xs=>let#[_,_,_,_,e]:=x;show Heap.lt_size e
 |tup xs=>let#[_,_,_,p]:=x;show p.lt
 |dK kvs=>let#[_,_,_,_,o,_,_,e,_]:=x;show Heap.lt_size e
 |dT kvs=>let#[_,_,_,_,o,_,_,e,_]:=x;show Heap.lt_size e
 |set S n=>let#[o,_,_,_,e,_]:=x;show Heap.lt_size e
 |ins C dx fs=>let#[_,_,_,e,_]:=x;show Heap.lt_size e
 |own y=>let#[_,e]:=x;show Heap.lt_size e
 |xd fs=>let#[_,#[_,_,_,e,_],_]:=x;show Heap.lt_size e
 |rng lo hi=>let#[_,_,_,e]:=x;show Heap.lt_size e
 |frz G u=>let#[e,_]:=x;show Heap.lt_size e
 |tbl ps=>show Heap.lt_size (show h.get? a=some _ from x)
 |met f y=>show Heap.lt_size (show h.get? a=some _ from x)
 |ext F=>let#[_,#[_,e],_]:=x;show Heap.lt_size e
theorem Paired.DT{α I:Type}{F G:α->I->Prop}:∀{l₁:List α}{l₂:List I},Paired F l₁ l₂->(∀a b,F a b->G a b)->Paired G l₁ l₂
 |_,_,.nil,_=>.nil
 |_,_,.cons r t,f=>.cons (f _ _ r) (Paired.DT t f)
theorem cn.iX(x:cn P w H h a o)(k:∀b u,(b=a\/H b=some (.own a))->h.get? b=some u->h'.get? b=some u)
  (J:∀b,H b=some (.own a)->H' b=some (.own a)) (I:∀b xs,H b=some (.tup xs)->H' b=some (.tup xs)):cn P w H' h' a o:=by
 induction o with
 |lst xs=>let#[z,its,n,r,e]:=x;show#[z,its,n,r,k _ _ (.inl rfl) e]
 |tup xs=>let#[z,its,r,F,e,c]:=x;show#[z,its,r,F,k _ _ (.inl rfl) e,c]
 |dK kvs=>let#[z,y,vs,r,F,es,ep,e,c]:=x;show#[z,y,vs,r,F,es,ep,k _ _ (.inl rfl) e,c]
 |dT kvs =>
  let#[z,y,xs,r,F,es,ep,e,c]:=x;show#[z,y,xs,Paired.DT r λp q z=>#[z.1,I _ _ z.2.1,z.2.2],F,es,ep,k _ _ (.inl rfl) e,c]
 |set S n=>let#[F,es,ep,t,e,c]:=x;show#[F,es,ep,t,k _ _ (.inl rfl) e,c]
 |ins C dx fs =>
  let#[d,z,ne,e,mA,#[od,es,ep,G,c],r]:=x;show#[J _ d,z,ne,k _ _ (.inl rfl) e,mA,#[od,es,ep,k _ _ (.inr d) G,c],r]
 |own y=>let#[F,e]:=x;show#[F,k _ _ (.inl rfl) e]
 |xd fs=>let#[mA,#[od,es,ep,e,c],r]:=x;show#[mA,#[od,es,ep,k _ _ (.inl rfl) e,c],r]
 |rng lo hi=>let#[t,u,v,e]:=x;show#[t,u,v,k _ _ (.inl rfl) e]
 |frz F u L=>let#[e,q]:=x;show#[k _ _ (.inl rfl) e,L q]
 |tbl ps =>
  let e:h.get? a=some { cls:=.none,data:=.fields ps }:=x;change h'.get? a=some { cls:=.none,data:=.fields ps };show k a _ (.inl rfl) e
 |met f y =>
  let e:h.get? a=some (Wj (.ref f) (.ref y)):=x;change h'.get? a=some (Wj (.ref f) (.ref y));show k a _ (.inl rfl) e
 |ext N=>let#[p,#[o,e],st]:=x;show#[st _ _ p λo q=>k _ _ (.inl rfl) q,#[o,k _ _ (.inl rfl) e],st]
theorem j4.lt(x:j4 P w H h)(e:H a=some o):a<h.objs.size:=(x a o e).lt
theorem j4.fresh(x:j4 P w H h)(e:h.objs.size<=a):H a=none:=by
 cases q:H a with
 |none=>rfl
 |some u=>show absurd (Ow (x.lt q) e) (QT _)
theorem j4.kept(x:j4 P w H h)(k:∀b u,h.get? b=some u->h'.get? b=some u):j4 P w H h':=λa o e =>
 (x a o e).iX (λb u _ q=>k b u q) (λ_ q=>q) λ_ _ q=>q
theorem j4.laid(x:j4 P w H h)(k:∀b u,h.get? b=some u->h'.get? b=some u)(I:h.objs.size<=a)(new:cn P w (upd H a o) h' a o):j4 P w (upd H a o) h':=λb u e=>by
 let F:=x.fresh I;cases G:b=a
 .subst G;rwa[ae]at e;show new
 .rw[aj G]at e;show(x b u e).iX (λc v _ q=>k c v q) (λc q=>by rw[aj (av q F)];show q) λc xs q=>by rw[aj (av q F)];show q
end
def Rd(H:Hp)(a:Addr)(u:HO):Prop:=H a=some u\/∃o,H a=some (.frz o u)
theorem Rd.ok{P:rn}{w:By}{H:Hp}{h:Heap}{a:Addr}{u:HO}(r:Rd H a u)(x:j4 P w H h):cn P w H h a u:=by
 rcases r with r|⟨o,r⟩
 .show x a u r
 .let#[_,q]:=x a _ r;show q
def LD:Option HO->Prop
 |some (.lst _)=>True
 |some (.dK _)=>True
 |some (.dT _)=>True
 |some (.set _ _)=>True
 |some (.ins _ _ _)=>True
 |some (.ext _)=>True
 |_=>False
section
variable{P:rn}{w:By}{H:Hp}{h h':Heap}{x e:Addr}{o':HO}
theorem j4.write(ok:j4 P w H h)(I:LD (H x))(O:e=x\/H e=some (.own x))(k:∀b u,b≠e->h.get? b=some u->h'.get? b=some u)(R:∃u,h'.get? e=some u)
  (new:cn P w (upd H x o') h' x o'):j4 P w (upd H x o') h':=λb u q=>by
 let L:∀c y,H c=some (.own y)->c≠x:=λc y r z=>(by subst z;rw[r]at I;show I);let S:∀c xs,H c=some (.tup xs)->c≠x:=λc xs r z=>(by subst z;rw[r]at I;show I);cases G:b=x
 .subst G;rwa[ae]at q;show new
 .rw[aj G]at q;cases J:b=e
  .let N:H b=some (.own x):=by
    rcases O with z|z
    .show absurd (J.trans z) G
    .rw[J];show z
   rwa[q]at N;let#[v,U]:=R;show#[v,by rw[J];show U]
  .show(ok b u q).iX (λc v F r=>k c v ?_ r) (λc r=>by rw[aj (L c b r)];show r) λc xs r=>(by rw[aj (S c xs r)];show r);rcases F with rfl|F
   .show J
   .rintro rfl;rcases O with z|z
    .show L c b F z
    .rw[F]at z;cases z;show G rfl
end
structure Un(fs ex:W7)(H H':Hp)(h h':Heap):Prop where
 keep:∀b o,h.get? b=some o->H b=none->b∉fs->b∉ex->h'.get? b=some o
 slot:∀b o,h.get? b=some o->H b=none->b∈fs->b∉ex->∃sl,h'.get? b=some { o with slots:=sl }
 free:∀b o,h.get? b=some o->H b=none->b∉ex->H' b=none
 there:∀b o,h.get? b=some o->b∉ex->∃o',h'.get? b=some o'
 oH:∀b xs,H b=some (.tup xs)->H' b=some (.tup xs)
 m7:∀b o u,H b=some (.frz o u)->H' b=some (.frz o u)
 qM:∀b ps,H b=some (.tbl ps)->∃more,H' b=some (.tbl (ps++more))
section
variable{fs fs' ex ex':W7}{H H1 H2:Hp}{h h1 h2 h':Heap}{a x e:Addr}{o:HO}
theorem Un.any(u:Un fs ex H H1 h h1){b:Addr}{F:Obj}(q:h.get? b=some F)(n:H b=none)(G:b∉ex):∃sl,h1.get? b=some { F with slots:=sl }:=by
 cases I:b∈fs
 .show u.slot b F q n I G
 .show#[F.slots,u.keep b F q n I G]
theorem Un.kept(k:∀b u,h.get? b=some u->h'.get? b=some u):Un fs ex H H h h' :=
 #[λb F q _ _ _=>k b F q,λb F q _ _ _=>#[F.slots,k b F q],λ_ _ _ n _=>n,λb F q _=>#[F,k b F q],λ_ _ q=>q,λ_ _ _ q=>q,λ_ ps q=>#[([].toArray),by rw[q];simp]]
theorem Un.refl:Un fs ex H H h h:=Un.kept λ_ _ q=>q
theorem Un.laid(k:∀b u,h.get? b=some u->h'.get? b=some u)(G:h.objs.size<=a)(F:H a=none):Un fs ex H (upd H a o) h h' where
 keep:=λb u q _ _ _=>k b u q
 slot:=λb u q _ _ _=>#[u.slots,k b u q]
 free:=λb u q n _=>by rw[aj (OI (Ow (Heap.lt_size q) G))];show n
 there:=λb u q _=>#[u,k b u q]
 oH:=λb xs q=>by rw[aj (av q F)];show q
 m7:=λb u xs q=>by rw[aj (av q F)];show q
 qM:=λb ps q=>#[([].toArray),by rw[aj (av q F),q];simp]
theorem Un.write(F:LD (H x))(O:e=x\/H e=some (.own x))(k:∀b u,b≠e->h.get? b=some u->h'.get? b=some u)(N:∃u,h'.get? e=some u):Un fs ex H (upd H x o) h h':=by
 let I:∀b,H b=none->b≠x:=λb n z=>(by subst z;rw[n]at F;show F);let L:∀b,H b=none->b≠e:=λb n z=>by
  subst z;rcases O with r|r
  .show I b n r
  .rw[n]at r;cases r
 let G:∀b u,H b=some u->¬ LD (some u)->b≠x:=λb u q nm z=>(by subst z;rw[q]at F;show nm F);show#[λb u q n _ _=>k b u (L b n) q,λb u q n _ _=>#[u.slots,k b u (L b n) q],λb u q n _=>by rw[aj (I b n)];show n,λb u q _=>?_,
  λb xs q=>by rw[aj (G b _ q λz=>z)];show q,λb u xs q=>by rw[aj (G b _ q λz=>z)];show q,λb ps q=>#[([].toArray),by rw[aj (G b _ q λz=>z),q];simp]]
 cases J:b=e
 .subst J;show N
 .show#[u,k b u J q]
end
def Mc(h:Heap)(H:Hp):List Addr:=(Ox h.objs.size).filter λa=>(H a).isSome
def uH(h:Heap)(H:Hp):Heap:=Wq h (Mc h H)
theorem z6(h:Heap)(H:Hp):(uH h H).objs.size=h.objs.size:=PySem.W.hideAll_size _ _
theorem BH{h:Heap}{H:Hp}{b:Addr}{o:Obj}(e:h.get? b=some o)(n:H b=none):(uH h H).get? b=some o :=
 hideAll_get _ e λF=>by
  let q:(H b).isSome=true:=(QD.mp F).2;rw[n]at q;simp at q
theorem Ff{h:Heap}{H:Hp}{b:Addr}{o:Obj}(e:(uH h H).get? b=some o):h.get? b=some o/\H b=none:=by
 let F:h.get? b=some o:=VE (Mc h H) e;show#[F,?_];cases q:H b with
 |none=>rfl
 |some x =>
  let G:b∈Mc h H:=QD.mpr #[O0.mpr (Heap.lt_size F),by simp[q]];let z:(uH h H).get? b=none:=PySem.W.hideAll_none (Mc h H) G;rwa[z]at e
structure Mod(K:HC)(mg:WW)(base:Heap):Prop where
 ES:K.In base
 glob:base.Ns Ov mg
 blt:∃mb,base.Ns VF mb/\∀x:Str,x ≠ "__name__" -> mb x=OE x
 nolimit:base.NoLimit
structure Cx where
 prog:rn
 w:By
 K:HC
 mg:Str->Option Value
 base:Heap
 A:Oj
 N:List Str
 s₀:k8
 H₀:Hp
 env:SW
 outer:List SW
 stack:List SW
 ex:List Addr
 fn:Str->Bool
 calm:Bool
 pn:List (Addr×Obj)
 xe:Value->k8->Prop
abbrev XF(X:Cx)(e:Expr)(es:List Expr):=(starEach (e::es) X.env=(false,eval e X.env)::starEach es X.env)
def rj(l:XC):List Addr:=l.filterMap (·.frame)
abbrev Cx.fs(X:Cx):List Addr:=rj X.outer
def LA(F:Sf)(x:Str):Prop:=F.names.lookup x=some .local\/F.names.lookup x=some .cell\/F.names.lookup x=some .free
def Loc(F:Sf)(x:Str):Prop:=F.names.lookup x=some .local\/F.names.lookup x=some .cell
def Look(env:SW)(h:Heap)(m:WW)(x:Str)(u:Value):Prop :=
 (env.kindOf x=some .local/\m x=some u)\/((env.kindOf x=some .cell\/env.kindOf x=some .free)/\∃c,env.cells.lookup x=some c/\h.IsCell c (some u))
structure Cx.Ok(X:Cx):Prop where
 mod:Mod X.K X.mg X.base
 kind:X.env.scope.kind=.function
 glob:X.env.globals=Ov
 blt:X.env.builtins=VF
 above:X.s₀.heap.objs.size<=X.env.locals
 inj:∀x y c,X.env.cells.lookup x=some c->X.env.cells.lookup y=some c->x=y
 has:∀x,(X.env.kindOf x=some .cell\/X.env.kindOf x=some .free)->∃c,X.env.cells.lookup x=some c
 HL:∀x c,X.fn x=true->X.env.cells.lookup x=some c->X.s₀.heap.objs.size<=c
 hd:X.calm=true->X.A.handled=none
 frames:X.A.frames=some X.stack
 JR:X.stack=X.outer\/(X.stack=X.env::X.outer/\X.env.frame=some X.env.locals)
 LU:∀b∈X.ex,b≠X.env.locals/\∀x c,X.env.cells.lookup x=some c->c≠b
 bs:∀b o,X.base.get? b=some o->X.s₀.heap.get? b=some o/\X.H₀ b=none
 BO:X.base.objs.size<=X.s₀.heap.objs.size
 ye:∀b o,X.base.get? b=some o->b∉X.ex
 w9:∀b∈X.ex,b∉X.fs
 ky:X.s₀.heap.FunFrames X.base X.outer
 Ge:∀b∈X.fs,X.H₀ b=none
structure Inv(X:Cx)(pins:WU)(σ:List (Option V))(H:Hp)(s:k8):Prop where
 ok:X.Ok
 os:s.os=X.s₀.os
 bare:RY s.gens
 base:Un X.fs X.ex X.H₀ H X.s₀.heap s.heap
 loc:∃m,s.heap.Ns X.env.locals m/\∀(i:Nat)(x:Str)(v:V),X.N[i]?=some x->σ[i]?=some (some v)->LA X.env.scope x->∃u,RelV v u/\Look X.env s.heap m x u
 cell:∀x c,X.env.cells.lookup x=some c->∃v,s.heap.IsCell c v
 free:H X.env.locals=none
 gx:∀x c,X.env.cells.lookup x=some c->H c=none
 pin:∀p∈X.pn++pins,s.heap.get? p.1=some p.2/\H p.1=none/\p.1≠X.env.locals/\p.1∉X.fs/\∀v,p.2.data≠.cell v
 bV:j4 X.prog X.w H s.heap
 len:σ.length=X.N.length
section
variable{X:Cx}{pins:WU}{σ:List (Option V)}{H H':Hp}{s:k8}{h':Heap}
theorem Cx.Ok.Mp(ok:X.Ok){b:Addr}{o:Obj}(e:X.base.get? b=some o):b∉X.fs:=λF=>by
 have:=(ok.ky.mem F).1;rwa[e]at this
theorem Inv.bs(I: ~~~H s):∀b o,X.base.get? b=some o->s.heap.get? b=some o/\H b=none:=λb o e =>
 #[I.base.keep b o (I.ok.bs b o e).1 (I.ok.bs b o e).2 (I.ok.Mp e) (I.ok.ye b o e),I.base.free b o (I.ok.bs b o e).1 (I.ok.bs b o e).2 (I.ok.ye b o e)]
theorem Inv.bk(I: ~~~H s):∀b o,X.base.get? b=some o->s.heap.get? b=some o:=λb o e=>(I.bs b o e).1
theorem Inv.mod(I: ~~~H s):Mod X.K X.mg X.base:=I.ok.mod
theorem Inv.jX(I: ~~~H s):X.K.In s.heap:=I.ok.mod.ES.keeps I.bk
theorem Inv.lt(I: ~~~H s):X.env.locals<s⁻¹:=let ⟨_,F,_⟩:=I.loc;F.lt
theorem Inv.sz(I: ~~~H s):X.s₀.heap.objs.size<=s⁻¹:=L3 I.ok.above (VG I.lt)
theorem Inv.KI(I: ~~~H s){a:Addr}(h:s⁻¹<=a):a∉X.fs:=λG=>by
 let#[_,o,F,_]:=I.ok.ky.mem G;show absurd (Ow (Heap.lt_size F) (L3 I.sz h)) (QT _)
theorem Inv.C0(I: ~~~H s):∀x c,X.env.cells.lookup x=some c->c≠X.env.locals:=λx c e z=>by
 let#[v,o,F,hd]:=I.cell x c e;let#[m,#[o',es,ep,J,G,_],_]:=I.loc;rwa[z,J]at F;rwa[G]at hd
theorem Inv.ky(I: ~~~H s):s.heap.FunFrames X.base X.outer:=by
 let all:∀(l:XC),(∀b∈rj l,b∈X.fs)->X.s₀.heap.FunFrames X.base l->s.heap.FunFrames X.base l:=by
  intro l
  induction l with
  |nil=>intro _ _;trivial
  |cons env r S =>
   intro hs O;let#[N,#[L,o,J,R,Y,hd],U]:=O;let F:L∈X.fs:=hs L (by unfold rj;rw[RW,J];show OA);let#[sl,e]:=I.base.slot L o Y (I.ok.Ge L F) F λz=>I.ok.w9 L z F;show#[N,#[L,_,J,R,e,hd],S (λb G=>hs b (by unfold rj;rw[RW,J];show Oy _ G)) U]
 show all X.outer (λ_ G=>G) I.ok.ky
theorem Inv.stack(I: ~~~H s):s.heap.FunFrames X.base X.stack:=by
 rcases I.ok.JR with e|⟨e,F⟩
 .rw[e];show I.ky
 .rw[e];let#[m,G,_]:=I.loc;show .cons (by rw[I.ok.kind];decide) F G ?_ I.ky;show Heap.get?_none_of_le (L3 I.ok.BO I.ok.above)
theorem Inv.uf(I: ~~~H s):∀b∈rj X.stack,b∈X.env.locals::X.fs:=λb F=>by
 rcases I.ok.JR with e|⟨e,G⟩
 .rw[e]at F;show Oy _ F
 .rw[e]at F;unfold rj at F;rw[RW,G]at F;show F
theorem Inv.uB(I: ~~~H s):∀b∈rj X.stack,H b=none:=λb F=>by
 rcases t7.mp (I.uf b F)with e|F
 .rw[e];show I.free
 .let#[_,o,G,_]:=I.ok.ky.mem F;show I.base.free b o G (I.ok.Ge b F) λz=>I.ok.w9 b z F
theorem Inv.step{g':Array UM}{t':Nat}{d':Drawn}{ch:W7}(I: ~~~H s)
  (R:∀b∈ch,(b∈X.ex\/X.s₀.heap.objs.size<=b)/\b≠X.env.locals/\(∀x c,X.env.cells.lookup x=some c->c≠b)/\∀p∈X.pn++pins,p.1≠b)
  (keep:∀b o,b≠X.env.locals->b∉X.fs->b∉ch->s.heap.get? b=some o->H b=none->h'.get? b=some o)
  (slot:∀b o,b≠X.env.locals->b∈X.fs->b∉ch->s.heap.get? b=some o->H b=none->∃sl,h'.get? b=some { o with slots:=sl }) (free:∀b o,b∉ch->s.heap.get? b=some o->H b=none->H' b=none)
  (there:∀b o,b∉ch->s.heap.get? b=some o->∃o',h'.get? b=some o')
  (oH:∀b xs,H b=some (.tup xs)->H' b=some (.tup xs)) (m7:∀b o u,H b=some (.frz o u)->H' b=some (.frz o u)) (qM:∀b ps,H b=some (.tbl ps)->∃ad,H' b=some (.tbl (ps++ad)))
  (ns:∀m,s.heap.Ns X.env.locals m->h'.Ns X.env.locals m) (bV:j4 X.prog X.w H' h') (hg:RY g') :
  ~~~H' { s with heap:=h',gens:=g',drawn:=d',toks:=t' }:=by
 let Y:∀b o,X.s₀.heap.get? b=some o->b≠X.env.locals:=λb o e=>OI (Ow (Heap.lt_size e) I.ok.above);let S:∀b o,X.s₀.heap.get? b=some o->b∉X.ex->b∉ch:=λb o e F J=>by
  rcases(R b J).1 with z|z
  .show F z
  .show absurd (Ow (Heap.lt_size e) z) (QT _)
 let U:∀x c,X.env.cells.lookup x=some c->∀v,s.heap.IsCell c v->h'.IsCell c v:=λx c e v ac=>by
  let#[o,L,hd]:=ac;let O:c∉ch:=λz=>(R c z).2.2.1 x c e rfl;cases hc:c∈X.fs
  .let#[sl,q]:=slot c o (I.C0 x c e) hc O L (I.gx x c e);show#[_,q,hd]
  .show#[o,keep c o (I.C0 x c e) hc O L (I.gx x c e),hd]
 show#[I.ok,I.os,hg,#[λb o e n J F=>?_,λb o e n J F=>?_,λb o e n F=>?_,λb o e F=>?_,λb xs e=>oH b xs (I.base.oH b xs e),λb o xs e=>m7 b o xs (I.base.m7 b o xs e),λb ps e=>?_],?_,λx c e=>?_,?_,λx c e=>?_,λp hp=>?_,bV,I.len]
 .show keep b o (Y b o e) J (S b o e F) (I.base.keep b o e n J F) (I.base.free b o e n F)
 .let#[sl,G]:=I.base.slot b o e n J F;let#[ab,N]:=slot b _ (Y b o e) J (S b o e F) G (I.base.free b o e n F);show#[ab,N]
 .let#[o',G]:=I.base.there b o e F;show free b o' (S b o e F) G (I.base.free b o e n F)
 .let#[o',G]:=I.base.there b o e F;show there b o' (S b o e F) G
 .let#[m1,G]:=I.base.qM b ps e;let#[m2,N]:=qM b _ G;show#[m1++m2,by rw[N,Array.append_assoc]]
 .let#[m,hn,hl]:=I.loc;show#[m,ns m hn,λi x v G N e3=>?_];let#[u,r,l]:=hl i x v G N e3;show#[u,r,?_];rcases l with l|⟨k,c,e,z⟩
  .show .inl l
  .show .inr #[k,c,e,U x c e _ z]
 .let#[v,z]:=I.cell x c e;show#[v,U x c e v z]
 .let#[m,#[o,_,_,L,_],_]:=I.loc;show free _ o (λz=>(R _ z).2.1 rfl) L I.free
 .let#[v,o,L,hd]:=I.cell x c e;show free c o (λz=>(R c z).2.2.1 x c e rfl) L (I.gx x c e)
 .let#[e,n,ne,nf,d]:=I.pin p hp;let O:p.1∉ch:=λz=>(R p.1 z).2.2.2 p hp rfl;show#[keep p.1 p.2 ne nf O e n,free p.1 p.2 O e n,ne,nf,d]
theorem Inv.un{t':Nat}(I: ~~~H s)(u:Un X.fs [] H H' s.heap h')(S:j4 X.prog X.w H' h'): ~~~H' { s with heap:=h',toks:=t' }:=by
 let#[m,#[o,es,ep,J,r],_]:=id I.loc;let#[sl,N]:=u.any J I.free (by simp);show I.step (g':=s.gens) (d':=s.drawn) (ch:=[]) (λ_ z=>nomatch z) (λb o _ F _ e n=>u.keep b o e n F (by simp)) (λb o _ F _ e n=>u.slot b o e n F (by simp)) (λb o _ e n=>u.free b o e n (by simp)) (λb o _ e=>u.there b o e (by simp)) u.oH u.m7 u.qM (λY U=>by
  let#[o',O,R,G,L]:=U;rwa[J]at G;show#[_,O,R,N,L]) S I.bare
theorem Inv.call{g':Array UM}{t':Nat}{d':Drawn}{ch:W7}(I: ~~~H s)(u:Un (rj X.stack) ch H H' s.heap h')(bV:j4 X.prog X.w H' h')(S:RY g')
  (L:∀b∈ch,(b∈X.ex\/X.s₀.heap.objs.size<=b)/\b≠X.env.locals/\(∀x c,X.env.cells.lookup x=some c->c≠b)/\∀p∈X.pn++pins,p.1≠b) :
  ~~~H' { s with heap:=h',gens:=g',drawn:=d',toks:=t' }:=by
 let#[m,#[o,es,ep,N,r],_]:=id I.loc;let#[sl,G]:=u.any N I.free λz=>(L _ z).2.1 rfl;show I.step (ch:=ch) L (λb o G Y F e n=>u.keep b o e n (λz=>(t7.mp (I.uf b z)).elim G Y) F) (λb o _ _ F e n=>u.any e n F) (λb o F e n=>u.free b o e n F) (λb o F e=>u.there b o e F) u.oH u.m7 u.qM (λm' hm=>by
  let#[o',O,R,J,U]:=hm;rwa[N]at J;show#[_,O,R,G,U]) bV S
theorem Inv.turned{t':Nat}{it:Addr}(I: ~~~H s)(k:∀b o,b≠it->s.heap.get? b=some o->h'.get? b=some o)(S:H it=none)(G:it≠X.env.locals)
  (h1:it∈X.ex\/X.s₀.heap.objs.size<=it) (h2:∀x c,X.env.cells.lookup x=some c->c≠it) (N:∀p∈X.pn++pins,p.1≠it): ~~~H { s with heap:=h',toks:=t' }:=by
 let J:∀b u,H b=some u->b≠it:=λb u e z=>(by rwa[z,S]at e);show I.step (g':=s.gens) (d':=s.drawn) (ch:=[it]) (λb L=>?_) (λb o _ _ F e _=>k b o (λz=>F (by simp[z])) e) (λb o _ _ F e _=>#[o.slots,k b o (λz=>F (by simp[z])) e]) (λ_ _ _ _ n=>n)
  (λb o F e=>#[o,k b o (λz=>F (by simp[z])) e]) (λ_ _ e=>e) (λ_ _ _ e=>e) (λb ps e=>#[([].toArray),by rw[e];simp]) (λm O=>?_) (λb u e=>?_) I.bare
 .let e:b=it:=‹L›;subst e;show#[h1,G,h2,N]
 .let#[o,es,ep,R,r]:=O;show#[o,es,ep,k _ o (ro G) R,r]
 .show(I.bV b u e).iX (λc v F q=>k c v ?_ q) (λ_ q=>q) λ_ _ q=>q;rcases F with z|z
  .rw[z];show J b u e
  .show J c _ z
theorem Inv.tok(I: ~~~H s)(t:Nat): ~~~H { s with toks:=t }:=I.un (h':=s.heap) (t':=t) Un.refl I.bV
theorem Inv.kept{t':Nat}(I: ~~~H s)(k:∀b u,s.heap.get? b=some u->h'.get? b=some u): ~~~H { s with heap:=h',toks:=t' }:=I.un (Un.kept k) (I.bV.kept k)
theorem Inv.laid{a:Addr}{o:HO}{t':Nat}(I: ~~~H s)(k:∀b u,s.heap.get? b=some u->h'.get? b=some u)(F:s⁻¹<=a)(new:cn X.prog X.w (upd H a o) h' a o) :
  ~~~(upd H a o) { s with heap:=h',toks:=t' }:=I.un (Un.laid k F (I.bV.fresh F)) (I.bV.laid k F new)
theorem Inv.write{x e:Addr}{o:HO}{t':Nat}(I: ~~~H s)(J:LD (H x))(G:e=x\/H e=some (.own x))(k:∀b u,b≠e->s.heap.get? b=some u->h'.get? b=some u)(F:∃u,h'.get? e=some u)
  (new:cn X.prog X.w (upd H x o) h' x o): ~~~(upd H x o) { s with heap:=h',toks:=t' }:=I.un (Un.write J G k F) (I.bV.write J G k F new)
theorem Inv.nK{F:WU}(I: ~~~H s)(h:∀p∈F,s.heap.get? p.1=some p.2/\H p.1=none/\p.1≠X.env.locals/\p.1∉X.fs/\∀v,p.2.data≠.cell v):Inv X F σ H s :=
 #[I.ok,I.os,I.bare,I.base,I.loc,I.cell,I.free,I.gx,λp G=>(qj.mp G).elim (λz=>I.pin p (O8 _ z)) (h p),I.bV,I.len]
theorem qz{N:W6}(I:N.Nodup){i j:Nat}{x:Str}(a:N[i]?=some x)(b:N[j]?=some x):i=j:=by
 let#[h1,G]:=mu.mp a;let#[h2,F]:=mu.mp b;show(List.getElem_inj I).mp (G.trans F.symm)
theorem sf{M:SG}{A:Oj}{E:WV}{i:Nat}{x:Str}{v:V}{u:Value}{Q:Unit->k8->Prop}(I: ~~~H s)(hN:X.N.Nodup)(hi:X.N[i]?=some x)(J:Loc X.env.scope x)(r:RelV v u)
  (h:∀s',Inv X pins (σ.set i (some v)) H s'->(∃a,Heap.SameBut a s.heap s'.heap/\(a=X.env.locals\/X.env.cells.lookup x=some a))->Q () s') (hf:X.fn x=true\/X.env.scope.names.lookup x=some .local:=by first|show .inl rfl|show .inr rfl|assumption):wpAny M A (storeName X.env x u) Q E s:=by
 let#[m,hn,hl]:=id I.loc;let aT:(X.env.scope.kind == .class||(X.env.scope.kind == .module&&X.env.locals != X.env.globals))=false:=(by rw[I.ok.kind];rfl);let am:i<σ.length:=(by rw[I.len];show(mu.mp hi).1);let C0:=I.C0;let as:∀{a:Addr}{h':Heap},(∃o,s.heap.get? a=some o/\H a=none)->Heap.SameBut a s.heap h'->j4 X.prog X.w H h':=λ{a h'} ha hs b ob e=>by
  let#[_,_,ad]:=ha;show(I.bV b ob e).iX (λc Y G q=>(hs.2 c ?_).trans q) (λ_ q=>q) λ_ _ q=>q;rintro rfl;rcases G with rfl|G
  .rw[ad]at e;cases e
  .rw[ad]at G;cases G
 rcases J with O|O
 .show wpAny_storeName_local O hn (λh' a0 hs=>?_) aT;let#[oL,_,_,aD,_]:=id hn;show h _ #[I.ok,I.os,I.bare,#[λb o e n S J=>?_,λb o e n S J=>?_,I.base.free,λb o e J=>?_,I.base.oH,I.base.m7,I.base.qM],#[_,a0,λj y v' F L e3=>?_],λy c e=>?_,I.free,I.gx,λp hp=>?_,as #[oL,aD,I.free] hs,by simpa using I.len] #[_,hs,.inl rfl]
  .show(hs.2 b (OI (Ow (Heap.lt_size e) I.ok.above))).trans (I.base.keep b o e n S J)
  .let#[sl,F]:=I.base.slot b o e n S J;show#[sl,(hs.2 b (OI (Ow (Heap.lt_size e) I.ok.above))).trans F]
  .let#[o',F]:=I.base.there b o e J;show#[o',(hs.2 b (OI (Ow (Heap.lt_size e) I.ok.above))).trans F]
  .by_cases R:j=i
   .subst R;rwa[hi]at F;rwa[OL am]at L;show#[u,r,.inl #[O,by simp]]
   .rw[OB (ro R)]at L;let#[u',r',q]:=hl j y v' F L e3;show#[u',r',?_];rcases q with⟨k,e⟩|⟨k,c,e,z⟩
    .show .inl #[k,?_];have:y≠x:=λe=>R (qz hN F (e▸hi));simp[this,e]
    .show .inr #[k,c,e,z.sameBut hs (C0 y c e)]
  .let#[Y,z]:=I.cell y c e;show#[Y,z.sameBut hs (C0 y c e)]
  .let#[e,n,ne,nf,d]:=I.pin p hp;show#[(hs.2 p.1 ne).trans e,n,ne,nf,d]
 .let ab:X.fn x=true:=by
   rcases hf with z|z
   .show z
   .rw[z]at O;cases O
  let#[c,G]:=I.ok.has x (.inl O);let#[Y,z]:=I.cell x c G;show wpAny_storeName_cell I.ok.kind O G z (λh' ac hs=>?_);let#[oc,aB,a1]:=id z;show h { s with heap:=h' } #[I.ok,I.os,I.bare,#[λb o e n S J=>?_,λb o e n S J=>?_,I.base.free,λb o e J=>?_,I.base.oH,I.base.m7,I.base.qM],#[m,hn.sameBut hs (ro (C0 x c G)),λj y v' F L e3=>?_],λy U e=>?_,I.free,I.gx,λp hp=>?_,as #[oc,aB,I.gx x c G] hs,by simpa using I.len] #[c,hs,.inr G]
  .show(hs.2 b (OI (Ow (Heap.lt_size e) (I.ok.HL x c ab G)))).trans (I.base.keep b o e n S J)
  .let#[sl,F]:=I.base.slot b o e n S J;show#[sl,(hs.2 b (OI (Ow (Heap.lt_size e) (I.ok.HL x c ab G)))).trans F]
  .let#[o',F]:=I.base.there b o e J;show#[o',(hs.2 b (OI (Ow (Heap.lt_size e) (I.ok.HL x c ab G)))).trans F]
  .by_cases R:j=i
   .subst R;rwa[hi]at F;rwa[OL am]at L;show#[u,r,.inr #[.inl O,c,G,ac]]
   .rw[OB (ro R)]at L;let#[u',r',q]:=hl j y v' F L e3;show#[u',r',?_];rcases q with q|⟨k,U,e,z'⟩
    .show .inl q
    .show .inr #[k,U,e,z'.sameBut hs ?_];rintro rfl;show R (qz hN F (I.ok.inj _ _ _ e G▸hi))
  .by_cases ap:U=c
   .subst ap;show#[_,ac]
   .let#[w2,z2]:=I.cell y U e;show#[w2,z2.sameBut hs ap]
  .let#[e,n,ne,nf,d]:=I.pin p hp;show#[(hs.2 p.1 ?_).trans e,n,ne,nf,d];intro q;rw[q,aB]at e;let q':oc=p.2:=sS e;show d Y (by rw[<-q'];show a1)
theorem iy{M:SG}{A:Oj}{E:WV}{i:Nat}{x:Str}{v:V}{u:Value}{Q:Unit->k8->Prop}(I: ~~~H s)(L:X.N.Nodup)(hi:X.N[i]?=some x)(G:Loc X.env.scope x)(r:RelV v u)
  (h:∀s',Inv X pins (σ.set i (some v)) H s'->Q () s') (J:X.fn x=true\/X.env.scope.names.lookup x=some .local:=by first|show .inl rfl|show .inr rfl|assumption):wpAny M A (storeName X.env x u) Q E s :=
 sf I L hi G r (λs' F _=>h s' F) J
theorem Inv.DX{s':k8}{ch:W7}(I: ~~~H s)(L:s'.os=s.os)(u:Un (rj X.stack) ch H H' s.heap s'.heap)(G:j4 X.prog X.w H' s'.heap)(J:RY s'.gens)
  (F:∀b∈ch,(b∈X.ex\/X.s₀.heap.objs.size<=b)/\b≠X.env.locals/\(∀x c,X.env.cells.lookup x=some c->c≠b)/\∀p∈X.pn++pins,p.1≠b): ~~~H' s':=by
 let#[h',g',d',t',o']:=s';let e:o'=s.os:=L;subst e;show I.call (g':=g') (t':=t') (d':=d') u G J F
end
abbrev XK:=Value->Option Addr->Hp->Prop
abbrev St:=List (Option V)
abbrev VK:=V->Hp->Prop
abbrev TE:=St->Hp->VK->Prop
abbrev TT:=St->Hp->(Bool->Hp->Prop)->Prop
abbrev TA:=St->Hp->(List V->Hp->Prop)->Prop
structure Ends where
 nx:St->Hp->Prop
 rt:VK
 bk:St->Hp->Prop:=λ_ _=>False
 ct:St->Hp->Prop:=λ_ _=>False
abbrev TS:=Ends->St->Hp->Prop
def EP(X:Cx)(pins:WU)(σ:St)(Q:VK)(u:Value)(s':k8):Prop:=∃v H',~~~H' s'/\RelV v u/\Q v H'
def TP(X:Cx)(pins:WU)(σ:St)(Q:Bool->Hp->Prop)(b:Bool)(s':k8):Prop:=∃H',~~~H' s'/\Q b H'
def AP(X:Cx)(pins:WU)(σ:St)(Q:List V->Hp->Prop)(us:W0)(s':k8):Prop:=∃vs H',~~~H' s'/\Vals vs us/\Q vs H'
def SP(X:Cx)(pins:WU)(D:Ends)(f:Flow)(s':k8):Prop :=
 match f with
 |.next=>∃F H',Inv X pins F H' s'/\D.nx F H'
 |.brk=>∃F H',Inv X pins F H' s'/\D.bk F H'
 |.cont=>∃F H',Inv X pins F H' s'/\D.ct F H'
 |.ret u=>∃v F H',Inv X pins F H' s'/\RelV v u/\D.rt v H'
def PE(X:Cx)(e:Ou)(t:TE):Prop :=
 ∀(pins:WU)(s:k8)(σ:St)(H:Hp)(Q:VK),~~~H s->t σ H Q->↑(eval e X.env) (EP X pins σ Q) X.xe s
def PT(X:Cx)(e:Ou)(t:TT):Prop :=
 ∀(pins:WU)(s:k8)(σ:St)(H:Hp)(Q:Bool->Hp->Prop),~~~H s->t σ H Q->↑(isTrue e X.env (eval e X.env)) (TP X pins σ Q) X.xe s
def PW(X:Cx)(e:Ou)(t:TT):Prop :=
 ∀(F:RS Value)(pins:WU)(s:k8)(σ:St)(H:Hp)(Q:Bool->Hp->Prop),~~~H s->t σ H Q->↑(isTrue e X.env F) (TP X pins σ Q) X.xe s
theorem PW.pt{X:Cx}{e:Ou}{t:TT}(h:PW X e t):PT X e t:=h _
def PA(X:Cx)(es:XB)(t:TA):Prop :=
 ∀(pos:QM)(pins:WU)(s:k8)(σ:St)(H:Hp)(Q:List V->Hp->Prop),~~~H s->t σ H Q->↑(Vz (backTo pos (starEach es X.env))) (AP X pins σ Q) X.xe s
def PS(X:Cx)(st:Oz)(t:TS):Prop :=
 ∀(pins:WU)(s:k8)(σ:St)(H:Hp)(D:Ends),~~~H s->t D σ H->↑(exec st X.env) (SP X pins D) X.xe s
def wI(X:Cx)(st:List Oz)(t:TS):Prop :=
 ∀(pins:WU)(s:k8)(σ:St)(H:Hp)(D:Ends),~~~H s->t D σ H->↑(execs st X.env) (SP X pins D) X.xe s
theorem cp{α:Type}{t:RS α}{Q F:α->k8->Prop}{M:SG}{A:Oj}{E:WV}{s:k8}(h:wpAny M A t Q E s)(G:∀a s,Q a s->F a s):wpAny M A t F E s:=OG h G λ_ _ x=>x
section
variable{X:Cx}
inductive vX(i:Nat)(σ:St)(H:Hp)(Q:VK):Prop
 |mk(v:_)(_:σ[i]?=some (some v))(_:Q v H)
def tC(v:V):TE:=λ_ H Q=>Q v H
theorem I0{i:Nat}{x:Str}{pos:QM}(hN:X.N[i]?=some x)(S:LA X.env.scope x)(hd:(x==("__debug__" : Str))=false:=by decide)(O:(x==("__classdict__" : Str))=false:=by decide):PE X (.Name x pos) (vX i):=by
 intros Q I h;let#[v,e,h]:=h;let#[m,Y,R]:=I.loc;let#[u,r,l]:=R i x v hN e S;let G:EP X pins σ Q u s:=#[v,H,I,r,h];rcases l with⟨F,U⟩|⟨F,c,J,L⟩
 .show VH (wpAny_loadName_local I.ok.kind F Y U G) hd
 .rcases F with F|F
  .show VH (wpAny_loadName_cell I.ok.kind F J L G) hd
  .show VH (wpAny_loadName_free I.ok.kind F J L G O) hd
theorem ah{i j pos}:PE X (.Constant (.int i) j pos) (tC (.int i)):=λ_ _ _ H _ I h=>wpAny_Constant_int #[.int i,H,I.tok _,#[0],h]
theorem qx{b j pos}:PE X (.Constant (.bool b) j pos) (tC (.bl b)):=λ_ _ _ H _ I h=>Constant_bool #[.bl b,H,I,rfl,h]
theorem lY{j pos}:PE X (.Constant .none j pos) (tC .non):=λ_ _ _ H _ I h=>Constant_none #[.non,H,I,rfl,h]
theorem ay{x j pos}:PE X (.Constant (.str x) j pos) (tC (.str x)):=λ_ _ _ H _ I h=>Calls.Constant_str #[.str x,H,I.tok _,#[0],h]
def Gl(X:Cx)(x:Str):Prop:=X.env.kindOf x=some .globalImplicit
theorem iI{E:WV}{pins:WU}{s:k8}{σ:St}{H:Hp}{x:Str}{u:Value}{pos:QM}{Q:WV}(I: ~~~H s)(G:Gl X x)(F:X.mg x=some u)(h:Q u s)
  (hd:(x==("__debug__" : Str))=false:=by decide):↑(eval (.Name x pos) X.env) Q E s :=
 Calls.Name_function_global I.ok.kind G (Calls.loadGlobal_global (by rw[I.ok.glob];show I.mod.glob.keeps I.bk) F h) hd
theorem jj{E:WV}{pins:WU}{s:k8}{σ:St}{H:Hp}{x:Str}{u:Value}{pos:QM}{Q:WV}(I: ~~~H s)(G:Gl X x)(F:X.mg x=none)(L:OE x=some u)(h:Q u s)
  (J:x ≠ "__name__" := by decide) (hd:(x==("__debug__" : Str))=false:=by decide):↑(eval (.Name x pos) X.env) Q E s:=by
 let#[N,h1,h2]:=I.mod.blt;show Calls.Name_function_global I.ok.kind G (Calls.loadGlobal_builtin (by rw[I.ok.glob];show I.mod.glob.keeps I.bk) F (by rw[I.ok.blt];show h1.keeps I.bk) ((h2 x J).trans L) h) hd
theorem aR{x:Str}{v:V}{u:Value}{pos:QM}(G:Gl X x)(F:X.mg x=some u)(r:RelV v u)(hd:(x==("__debug__" : Str))=false:=by decide):PE X (.Name x pos) (tC v):=
 λ_ _ _ H _ I h=>iI I G F #[v,H,I,r,h] hd
theorem gN{x:Str}{v:V}{u:Value}{pos:QM}(G:Gl X x)(F:X.mg x=none)(L:OE x=some u)(r:RelV v u)(J:x ≠ "__name__" := by decide)(hd:(x==("__debug__" : Str))=false:=by decide):PE X (.Name x pos) (tC v):=
 λ_ _ _ H _ I h=>jj I G F L #[v,H,I,r,h] J hd
variable{a b:Ou}{ta tb:TE}{pos:QM}
def PC(X:Cx)(I:Wz)(a b:Ou)(t:TE):Prop :=
 ∀(pins:WU)(s:k8)(σ:St)(H:Hp)(Q:VK),~~~H s->t σ H Q ->
  ↑(eval a X.env) (λv F=>↑(eval b X.env) (λu G=>↑(Pq I v u) (EP X pins σ Q) X.xe G) X.xe F) X.xe s
inductive NK(t:TE)(Q:Bool->Hp->Prop)(x:V)(H1:Hp):Prop
 |mk(c:_)(_:x=.bl c)(_:Q c H1)
def tB(t:TE):TT:=λσ H Q=>t σ H λx H1=>NK t Q x H1
theorem xN{F:Wz}{t:TE}(h:PC X F a b t)(h1:Q0 F b=false:=by first|show nobehind _ ao ao|rfl):PE X (.Compare a [F] [b] pos) t:=λpins s σ H Q I G=>wpAny_Compare1 (h pins s σ H Q I G) h1
theorem jm{F:Wz}{t:TE}(h:PC X F a b t)(h1:Q0 F b=false:=by first|show nobehind _ ao ao|rfl):PT X (.Compare a [F] [b] pos) (tB t):=by
 intros Q I L;show TF (cp (h pins s σ H _ I L) λv S h1=>cp h1 λu s2 h2=>cp h2 λc R N=>?_) h1;let#[x,H1,J,O,G]:=N;let#[d,rfl,q]:=G;cases O;show PZ #[H1,J,q]
theorem fE{e:Ou}{t:TE}(h:PE X e t)(L:∀F,isTrue e X.env F=(do let v <-F;RZ e.pos;QU [v] (truthy v)):=by intro _;rfl):PT X e (tB t):=by
 intros Q I O;show isTrue_plain (cp (h pins s σ H _ I O) λv S G=>?_) (L _);let#[x,H1,N,R,J]:=G;let#[d,rfl,q]:=J;cases R;show PZ #[H1,N,q]
variable{tA tB':TT}{rest:XB}
def Ng(t u:TT):TT:=λσ H Q=>t σ H λc H1=>if c=true then u σ H1 Q else Q false H1
def N8(t u:TT):TT:=λσ H Q=>t σ H λc H1=>if c=true then Q true H1 else u σ H1 Q
def Mq(t:TT):TT:=λσ H Q=>t σ H λc H1=>Q (!c) H1
theorem oo(F:PT X a tA):PW X (.BoolOp .And [a] pos) tA:=by
 intro G pins s σ H Q I h;show isTrue_and (cp (F pins s σ H Q I h) λc J e=>?_);cases c with
 |true=>show isTrue_and_nil e
 |false=>show e
theorem gT(F:PT X a tA):PW X (.BoolOp .Or [a] pos) tA:=by
 intro G pins s σ H Q I h;show isTrue_or (cp (F pins s σ H Q I h) λc J e=>?_);cases c with
 |false=>show isTrue_or_nil e
 |true=>show e
theorem tP(L:PT X a tA)(J:PW X (.BoolOp .And (b::rest) pos) tB'):PW X (.BoolOp .And (a::b::rest) pos) (Ng tA tB'):=by
 intro O pins s σ H Q I h;show isTrue_and (cp (L pins s σ H _ I h) λc R N=>?_);let#[H1,G,F]:=N;cases c with
 |true=>show J O pins R σ H1 Q G F
 |false=>show#[H1,G,F]
theorem ie(N:PT X a tA)(L:PW X (.BoolOp .Or (b::rest) pos) tB'):PW X (.BoolOp .Or (a::b::rest) pos) (N8 tA tB'):=by
 intro O pins s σ H Q I h;show isTrue_or (cp (N pins s σ H _ I h) λc R J=>?_);let#[H1,G,F]:=J;cases c with
 |true=>show#[H1,G,F]
 |false=>show L O pins R σ H1 Q G F
theorem Cj(F:PT X a tA):PT X (.UnaryOp .Not a pos) (Mq tA):=by
 intros Q I h;show isTrue_not (F pins s σ H (λc H1=>Q (!c) H1) I h)
inductive Ep(ta tb:TE)(σ:St)(Q:VK)(x:V)(H1:Hp):Prop
 |mk(c:_)(_:x=.bl c)(_:if c=true then tb σ H1 Q else Q (.bl false) H1)
def LL(ta tb:TE):TE:=λσ H Q=>ta σ H λx H1=>Ep ta tb σ Q x H1
inductive Gv(ta tb:TE)(σ:St)(Q:VK)(x:V)(H1:Hp):Prop
 |mk(c:_)(_:x=.bl c)(_:if c=true then Q (.bl true) H1 else tb σ H1 Q)
def NA(ta tb:TE):TE:=λσ H Q=>ta σ H λx H1=>Gv ta tb σ Q x H1
theorem Dm{op}{t:TE}(h:PE X a t):PE X (.BoolOp op [a] pos) t:=λpins s σ H Q I F=>BoolOp_one (h pins s σ H Q I F)
theorem IP(N:PE X a ta)(L:PE X (.BoolOp .And (b::rest) pos) tb):PE X (.BoolOp .And (a::b::rest) pos) (LL ta tb):=by
 intros Q I h;show BoolOp_and (cp (N pins s σ H _ I h) λv O J=>?_);let#[x,H1,G,R,F]:=J;let#[c,rfl,F]:=F;cases R;show PZ ?_;cases c with
 |true=>show L pins O σ H1 Q G F
 |false=>show#[.bl false,H1,G,rfl,F]
theorem Kg(N:PE X a ta)(L:PE X (.BoolOp .Or (b::rest) pos) tb):PE X (.BoolOp .Or (a::b::rest) pos) (NA ta tb):=by
 intros Q I h;show BoolOp_or (cp (N pins s σ H _ I h) λv O J=>?_);let#[x,H1,G,R,F]:=J;let#[c,rfl,F]:=F;cases R;show PZ ?_;cases c with
 |false=>show L pins O σ H1 Q G F
 |true=>show#[.bl true,H1,G,rfl,F]
end
def bD(K:HC)(H:Hp)(a:Addr)(xs:XD):Prop :=
 Rd H a (.lst xs) \/
  ∃(o:Obj)(its:WZ)(n:Nat),K.lookup a=some o/\o.cls=.type "list" /\ o.dict=none/\o.data=.seq its n/\its.size<=sizeLine/\Vals xs its.toList
def cu(K:HC)(H:Hp)(a:Addr)(xs:XD):Prop :=
 Rd H a (.tup xs) \/
  ∃(o:Obj)(its:WZ)(n:Nat),K.lookup a=some o/\o.cls=.type "tuple" /\ o.data=.seq its n/\its.size<=sizeLine/\Vals xs its.toList
def Mz:Value->Option V
 |.none=>some .non
 |.bool b=>some (.bl b)
 |.int i _=>some (.int i)
 |.str x _=>some (.str x)
 |.bytes b _=>some (.byt b)
 |.float b _=>some (.flt b)
 |.ref a=>some (.ref a)
 |.type n=>some (.ty n)
 |_=>none
theorem RelV.abs{x:V}{u:Value}(r:RelV x u):Mz u=some x:=by
 cases x with
 |non=>cases r;rfl
 |bl _=>cases r;rfl
 |int _=>let#[t,rfl]:=r;rfl
 |str _=>let#[t,rfl]:=r;rfl
 |byt _=>let#[t,rfl]:=r;rfl
 |flt _=>let#[t,rfl]:=r;rfl
 |ref _=>cases r;rfl
 |ty _=>cases r;rfl
theorem RelV.inj{x y:V}{u:Value}(r:RelV x u)(q:RelV y u):x=y:=sS (r.abs.symm.trans q.abs)
theorem Vals.inj:∀{xs ys:XD}{us:W0},Vals xs us->Vals ys us->xs=ys
 |_,_,_,.nil,.nil=>rfl
 |_,_,_,.cons r t,.cons F t'=>by rw[r.inj F,Vals.inj t t']
section
variable{X:Cx}{pins:WU}{σ:St}{H:Hp}{s:k8}{a:Addr}{xs ys:XD}
theorem bD.of{K:HC}(h:H a=some (.lst xs)):bD K H a xs:=.inl (.inl h)
theorem cu.of{K:HC}(h:H a=some (.tup xs)):cu K H a xs:=.inl (.inl h)
theorem Inv.list(I: ~~~H s)(h:bD X.K H a xs):∃its:List Value,Vals xs its/\PlainL s.heap a its.toArray/\xs.length<=sizeLine:=by
 rcases h with h|⟨o,its,n,F,G,hd,hs,J,r⟩
 .let#[z,its,n,r,e]:=h.ok I.bV;show#[its,r,#[_,n,e,1,rfl],z]
 .show#[its.toList,r,#[o,n,I.jX a o F,G,hd,by simpa using hs],?_];let e:=r.length;simp only[Pk]at e;omega
theorem Inv.tuple(I: ~~~H s)(h:cu X.K H a xs):∃its:List Value,Vals xs its/\IsTup s.heap a its.toArray/\xs.length<=sizeLine:=by
 rcases h with h|⟨o,its,n,F,G,hs,J,r⟩
 .let#[z,its,r,p]:=h.ok I.bV;show#[its,r,p,z]
 .show#[its.toList,r,#[o,I.jX a o F,G,n,by simpa using hs],?_];let e:=r.length;simp only[Pk]at e;omega
theorem Inv.lJ(I: ~~~H s)(h:bD X.K H a xs)(h':bD X.K H a ys):xs=ys:=by
 let#[its,r,#[o,n,e,_,_,d],_]:=I.list h;let#[its',G,#[o',L,F,_,_,d'],_]:=I.list h';rwa[e]at F;rw[d]at d';injection d' with J _;have:its=its':=‹congrArg toList J›;subst this;show r.inj G
theorem Inv.Be(I: ~~~H s)(h:cu X.K H a xs)(h':cu X.K H a ys):xs=ys:=by
 let#[its,r,#[o,e,_,n,d],_]:=I.tuple h;let#[its',G,#[o',F,_,L,d'],_]:=I.tuple h';rwa[e]at F;rw[d]at d';injection d' with J _;have:its=its':=‹congrArg toList J›;subst this;show r.inj G
end
abbrev Cx.ix(X:Cx)(E:WV):Cx:={ X with xe:=E }
abbrev Cx.nE(X:Cx):Cx:=X.ix λ_ _=>False
theorem Cx.Ok.ix{X:Cx}(ok:X.Ok)(E:WV):(X.ix E).Ok :=
 #[ok.mod,ok.kind,ok.glob,ok.blt,ok.above,ok.inj,ok.has,ok.HL,ok.hd,ok.frames,ok.JR,ok.LU,ok.bs,ok.BO,ok.ye,ok.w9,ok.ky,ok.Ge]
theorem Cx.Ok.cE{X:Cx}{E:WV}(ok:(X.ix E).Ok):X.Ok :=
 #[ok.mod,ok.kind,ok.glob,ok.blt,ok.above,ok.inj,ok.has,ok.HL,ok.hd,ok.frames,ok.JR,ok.LU,ok.bs,ok.BO,ok.ye,ok.w9,ok.ky,ok.Ge]
section
variable{X:Cx}{pins:WU}{σ:St}{H:Hp}{s:k8}{E:WV}
theorem Inv.ix(I: ~~~H s)(E:WV):Inv (X.ix E) pins σ H s:=#[I.ok.ix E,I.os,I.bare,I.base,I.loc,I.cell,I.free,I.gx,I.pin,I.bV,I.len]
theorem Inv.cE(I:Inv (X.ix E) pins σ H s): ~~~H s:=#[I.ok.cE,I.os,I.bare,I.base,I.loc,I.cell,I.free,I.gx,I.pin,I.bV,I.len]
theorem SP.cE{D:Ends}{f:Flow}{s':k8}(h:SP (X.ix E) pins D f s'):SP X pins D f s':=by
 cases f with
 |next=>let#[F,H',I,q]:=h;show#[F,H',I.cE,q]
 |brk=>let#[F,H',I,q]:=h;show#[F,H',I.cE,q]
 |cont=>let#[F,H',I,q]:=h;show#[F,H',I.cE,q]
 |ret u=>let#[v,F,H',I,r,q]:=h;show#[v,F,H',I.cE,r,q]
theorem wI.nE{st:List Oz}{t:TS}(h:wI X.nE st t):wI X st t:=λpins s σ H D I F =>
 OG (h pins s σ H D (I.ix _) F) (λ_ _ q=>q.cE) λ_ _ z=>Ph z
variable{st:Oz}{rest:List Oz}{t u:TS}{e:Ou}{te:TE}{pos:QM}
def pI:TS:=λD σ H=>D.nx σ H
def cB(t u:TS):TS:=λD σ H=>t { D with nx:=u D } σ H
theorem aK:wI X [] pI:=λ_ _ σ H _ I h=>P0 #[σ,H,I,h]
theorem ai(h1:PS X st t)(h2:wI X rest u):wI X (st::rest) (cB t u):=by
 intros D I h;show Rt (cp (h1 pins s σ H { D with nx:=u D } I h) λf J q=>?_);cases f with
 |next =>
  let#[G,H',F,q]:=q;show h2 pins J G H' D F q
 |ret v=>show q
 |brk=>show q
 |cont=>show q
theorem ak(h1:PS X st t):wI X [st] t:=by
 intros D I h;show Rt (cp (h1 pins s σ H D I h) λf F q=>?_);cases f with
 |next=>show P0 q
 |ret v=>show q
 |brk=>show q
 |cont=>show q
theorem Inv.quiet{pins:WU}{σ:St}{H:Hp}{s:k8}(I: ~~~H s):interactive X.env=false:=by simp[interactive,I.ok.kind]
def LK(te:TE):TS:=λD σ H=>te σ H λ_ H1=>D.nx σ H1
theorem aQ(J:PE X e te)(hs:Rb e none pos.line X.env=pure false:=by rfl):PS X (.Expr e pos) (LK te):=by
 intros D I h;show wpAny_Expr_any (cp (J pins s σ H _ I h) λv O G=>by let#[x,H1,L,N,F]:=G;show#[σ,H1,L,F]) I.quiet hs
def CQ(te:TE):TS:=λD σ H=>te σ H D.rt
theorem aG(G:PE X e te):PS X (.Return (some e) pos) (CQ te):=by
 intros D I h;show UN (cp (G pins s σ H _ I h) λv O F=>by let#[x,H1,L,N,J]:=F;show#[x,σ,H1,L,N,J])
def Ls:TS:=λD _ H=>D.rt .non H
theorem sI:PS X (.Return none pos) Ls:=λ_ _ σ H _ I h=>wpAny_Return_none #[.non,σ,H,I,rfl,h]
def rA(c:TT)(t u:TS):TS:=λD σ H=>c σ H λb H1=>if b=true then t D σ H1 else u D σ H1
theorem bo{c:Ou}{a b:List Oz}{tc:TT}(L:PT X c tc)(O:wI X a t)(N:wI X b u):PS X (.If c a b pos) (rA tc t u):=by
 intros D I h;show wpAny_If (cp (L pins s σ H _ I h) λd J R=>?_);let#[H1,G,F]:=R;cases d with
 |true=>show O pins J σ H1 D G F
 |false=>show N pins J σ H1 D G F
def Et:TS:=λ_ _ _=>False
theorem fO:PS X st Et:=λ_ _ _ _ _ _ h=>h.elim
theorem cN{sts:List Oz}:wI X sts Et:=λ_ _ _ _ _ _ h=>h.elim
end
abbrev TG:=V->St->Hp->(St->Hp->Prop)->Prop
abbrev JU:=List V->St->Hp->(St->Hp->Prop)->Prop
def PG(X:Cx)(G:Ou)(t:TG):Prop :=
 ∀(pins:WU)(s:k8)(σ:St)(H:Hp)(v:V)(u:Value)(Q:St->Hp->Prop),~~~H s->RelV v u->t v σ H Q ->
  ↑(Uz G X.env u) (λ_ s'=>∃F H',Inv X pins F H' s'/\Q F H') X.xe s
def Ma(X:Cx)(ts:XB)(t:JU):Prop :=
 ∀(pins:WU)(s:k8)(σ:St)(H:Hp)(vs:XD)(us:W0)(Q:St->Hp->Prop),~~~H s->Vals vs us->t vs σ H Q ->
  ↑(Ur ((Sg ts X.env).map (·.2)) us) (λ_ s'=>∃F H',Inv X pins F H' s'/\Q F H') X.xe s
abbrev z9:=V->V->V->Hp->(Hp->Prop)->Prop
def FA(X:Cx)(t:z9):Prop :=
 ∀(pins:WU)(s:k8)(σ:St)(H:Hp)(o i v:V)(ov F u:Value)(Q:Hp->Prop),~~~H s->RelV o ov->RelV i F->RelV v u->t o i v H Q ->
  ↑(Wr ov F u) (λ_ s'=>∃H',~~~H' s'/\Q H') X.xe s
abbrev L4:=V->V->Hp->VK->Prop
def ME(X:Cx)(F:UO)(t:L4):Prop :=
 ∀(pins:WU)(s:k8)(σ:St)(H:Hp)(x y:V)(v u:Value)(Q:VK),~~~H s->RelV x v->RelV y u->t x y H Q ->
  ↑(inplaceOp F v u) (EP X pins σ Q) X.xe s
section
variable{X:Cx}{pos:QM}
def lI(i:Nat):TG:=λv σ H Q=>Q (σ.set i (some v)) H
theorem iA{i:Nat}{x:Str}(L:X.N.Nodup)(hi:X.N[i]?=some x)(G:Loc X.env.scope x)(J:X.fn x=true\/X.env.scope.names.lookup x=some .local:=by first|show .inl rfl|show .inr rfl|assumption):PG X (.Name x pos) (lI i):=by
 intros v u Q I r h;show UP (iy I L hi G r (λs' F=>#[_,H,F,h]) J)
theorem iW(i:Nat){x:Str}(F:X.N.Nodup)(hi:X.N[i]?=some x:=by rfl)(G:Loc X.env.scope x:=by first|show .inl rfl|show .inr rfl)(I:X.fn x=true\/X.env.scope.names.lookup x=some .local:=by first|show .inl rfl|show .inr rfl|assumption):PG X (.Name x pos) (lI i):=iA F hi G I
def Ka:JU:=λvs σ H Q=>vs=[]/\Q σ H
inductive wx(t:TG)(u:JU)(vs:XD)(σ:St)(H:Hp)(Q:St->Hp->Prop):Prop
 |mk (v:_) (r:_) (_:vs=v::r) (_:t v σ H λσ' H'=>u r σ' H' Q):wx t u vs σ H Q
theorem dX:Ma X [] Ka:=by
 intros vs us Q I r h;let#[e,h]:=h;subst e;cases r;show UQ #[σ,H,I,h]
theorem bL{e:Ou}{es:XB}{t:TG}{u:JU}(h1:PG X e t)(h2:Ma X es u)
  (hs:(Sg (e::es) X.env).map (·.2)=Uz e X.env::(Sg es X.env).map (·.2):=by rfl):Ma X (e::es) (wx t u):=by
 intros vs us Q I r h;let#[v,S,J,h]:=h;subst J;cases r with
 |cons r O =>
  rw[hs];show Si (cp (h1 pins s σ H _ _ _ I r h) λ_ R F=>?_);let#[N,H1,L,G]:=F;show h2 pins R N H1 _ _ Q L O G
inductive JM(K:HC)(n:Nat)(t:JU)(v:V)(σ:St)(H:Hp)(Q:St->Hp->Prop):Prop
 |mk(a:_)(xs:_)(_:v=.ref a)(_:cu K H a xs)(_:xs.length=n)(_:t xs σ H Q)
theorem fJ{es:XB}{k:Nat}{t:JU}{n:Nat}(O:X.calm=true)(h:Ma X es t)
  (Y:(Sg es X.env).length=n:=by rfl) (ab:(Sg es X.env).findIdx? (·.1)=none:=by rfl):PG X (.Tuple es k pos) (JM X.K n t):=by
 intros v u Q I r F;let#[a,xs,R,N,J,F]:=F;subst R;cases r;let#[its,G,L,hz]:=I.tuple N;show assign_Tuple_tuple (I.ok.hd O) L (by simp[Y, <-J,G.length]) ab λh' U=>?_;let S: ~~~H { s with heap:=h' }:=I.kept (t':=s.toks) λb o e=>U b o (OI (Heap.lt_size e)) e;show h pins _ σ H xs _ Q S ‹G› F
def Nm(to G:TE)(t:z9):TG:=λv σ H Q=>to σ H λo H1=>G σ H1 λi H2=>t o i v H2 λF=>Q σ F
theorem fZ{o i:Ou}{to G:TE}{t:z9}(U:PE X o to)(hi:PE X i G)(hs:FA X t)
  (ha:∀v,Uz (.Subscript o i pos) X.env v=(do
   let ov <-QU [v] (eval o X.env)
   let F <-QU [v,ov] (eval i X.env)
   RZ pos
   QU [v,ov,F] (Wr ov F v)
   release [v,ov,F] []):=by intro _;rfl):PG X (.Subscript o i pos) (Nm to G t):=by
 intros v u Q I r h;rw[ha];show nq (Pm (cp (U pins s σ H _ I h) λov R ad=>?_));let#[x,H1,O,S,N]:=ad;show nq (Pm (cp (hi pins R σ H1 _ O N) λF s2 ab=>?_));let#[y,H2,Y,J,q2]:=ab;show nq (RC (nq (Pm (cp (hs pins s2 σ H2 x y v ov F u _ Y S J r q2) λ_ s3 ac=>?_))));let#[H3,I3,L]:=ac;show wpAny_release #[σ,H3,I3,L]
def De(te:TE)(g:TG):TS:=λD σ H=>te σ H λx H1=>g x σ H1 D.nx
theorem dP{tg e:Ou}{te:TE}{g:TG}(G:PE X e te)(R:PG X tg g)(hs:swapsWithSole [tg] e pos.line X.env=pure false:=by rfl)(N:swappedStores [tg] e X.env=pure none:=by rfl)
  (h1:(Sg [tg] X.env).map (·.2)=[Uz tg X.env]:=by rfl):PS X (.Assign [tg] e pos) (De te g):=by
 intros D I h;show wpAny_Assign_stores (cp (G pins s σ H _ I h) λv S O=>?_) hs N;let#[x,H1,L,J,F]:=O;rw[h1];show cp (R pins S σ H1 x v _ L J F) λ_ s2 q=>q
theorem sP{i:Nat}{x:Str}{e:Ou}{te:TE}{pos':QM}(F:X.N.Nodup)(hi:X.N[i]?=some x)(R:Loc X.env.scope x)(J:PE X e te)(hs:Rb e (some (.Name x pos')) pos.line X.env=pure false:=by rfl)(S:X.fn x=true\/X.env.scope.names.lookup x=some .local:=by first|show .inl rfl|show .inr rfl|assumption) :
  PS X (.Assign [.Name x pos'] e pos) (De te (lI i)):=by
 intros D I h;show UR (cp (J pins s σ H _ I h) λv s1 U=>?_) hs;let#[y,H1,O,L,G]:=U;show iy O F hi R L (λs2 Y=>#[_,H1,Y,G]) S
theorem cK(i:Nat){x:Str}{e:Ou}{te:TE}{pos':QM}(J:X.N.Nodup)(I:PE X e te)(hi:X.N[i]?=some x:=by rfl)(F:Loc X.env.scope x:=by first|show .inl rfl|show .inr rfl)(hs:Rb e (some (.Name x pos')) pos.line X.env=pure false:=by rfl)(G:X.fn x=true\/X.env.scope.names.lookup x=some .local:=by first|show .inl rfl|show .inr rfl|assumption):PS X (.Assign [.Name x pos'] e pos) (De te (lI i)):=sP J hi F I hs G
def Mv(i j:Nat)(ta:TA):TS:=λD σ H=>ta σ H λvs H1=>Bv λv w=>vs=[v,w]/\D.nx ((σ.set i (some v)).set j (some w)) H1
theorem Ib{i j:Nat}{x y:Str}{a b:Ou}{ta:TA}{px O pt:QM}{kt k2 pt2}(hc:X.calm=true)(Y:X.N.Nodup)(hi:X.N[i]?=some x)(hj:X.N[j]?=some y)(ab:i≠j)
  (R:X.env.scope.names.lookup x=some .local) (U:X.env.scope.names.lookup y=some .local) (ha:PA X [a,b] ta)
  (hw:swappedStores [.Tuple [.Name x px,.Name y O] kt pt] (.Tuple [a,b] k2 pt2) X.env=pure (some [x,y]))
  (hs:swapsWithSole [.Tuple [.Name x px,.Name y O] kt pt] (.Tuple [a,b] k2 pt2) pos.line X.env=pure false:=by rfl) :
  PS X (.Assign [.Tuple [.Name x px,.Name y O] kt pt] (.Tuple [a,b] k2 pt2) pos) (Mv i j ta):=by
 intros D I h;rw[exec_Assign_arm];show nq (RC ?_);rw[hs];show nq (wpAny_pure ?_);rw[WO ao];show nq (Tuple_ (cp (ha _ pins s σ H _ I h) λus G am=>?_));let#[vs,H1,I1,r1,L]:=am;let#[v,w,e1,L]:=L;subst e1;obtain⟨J,F,rfl,rv,ac⟩:∃J F,us=[J,F]/\RelV v J/\RelV w F:=by
  cases r1 with
  |cons p q =>
   cases q with
   |cons p' q' =>
    cases q';show#[_,0,p,p']
 show Qa ?_ dN;let I2: ~~~H1 { G with heap:=G.heap.push { cls:=.type "tuple",data:=.seq [J,F].toArray } }:=I1.kept (t':=G.toks) λb o e=>Heap.get?_push_of_some _ e;rw[hw];show nq (wpAny_pure ?_);change ↑(do rule "assign.swapped-stores";let items <-unpackItems (.ref G⁻¹) 2 none;Ur [λv=>US X.env y v,λv=>US X.env x v] items.reverse;pure Flow.next) _ _ _;show nq (QP (nq (unpackItems_tuple (items := ([J,F].toArray)) (I.ok.hd hc) (Wk G.heap _) λh' ad=>?_)));let I3:=I2.kept (h':=h') (t':=G.toks) λb o e=>ad b o (OI (Heap.lt_size e)) e;change wpAny _ _ (Ur [λv=>US X.env y v,λv=>US X.env x v] [F,J]>>=λ_=>pure Flow.next) _ _ _;show nq (Si (wpAny_bindName (iy I3 Y hj (.inl U) ac (λs2 I4=>?_) (.inr U))));show Si (wpAny_bindName (iy I4 Y hi (.inl R) rv (λs3 S=>UQ (wpAny_pure ?_)) (.inr R)));rw[List.set_comm _ _ (ro ab)]at S;show#[_,H1,S,L]
def Kf(to N te:TE)(R:V->V->Hp->VK->Prop)(I:L4)(O:z9):TS:=λD σ H=>to σ H λo H1=>N σ H1 λi H2=>R o i H2 λx F=>te σ F λy J=>I x y J λz G=>O o i z G λL=>D.nx σ L
def J7(X:Cx)(t:V->V->Hp->VK->Prop):Prop :=
 ∀(pins:WU)(s:k8)(σ:St)(H:Hp)(o i:V)(ov F:Value)(Q:VK),~~~H s->RelV o ov->RelV i F->t o i H Q ->
  ↑(RD ov F) (EP X pins σ Q) X.xe s
theorem zJ{o i e:Ou}{to N te:TE}{Y:V->V->Hp->VK->Prop}{L:L4}{U:z9}{J:UO}{tpos:QM}(ho:PE X o to)(hi:PE X i N)(hg:J7 X Y)(he:PE X e te)(hp:ME X J L)(hs:FA X U)
  (ha:∀ov F new,augStore i ov F new=(do QU [new,ov,F] (Wr ov F new);release [new,ov,F] [];pure .next):=by intros;rfl):PS X (.AugAssign (.Subscript o i tpos) J e pos) (Kf to N te Y L U):=by
 intros D I h;show wpAny_AugAssign_SubscriptAny (cp (ho pins s σ H _ I h) λov s1 ab=>?_) ha;let#[S,H1,I1,R,q1]:=ab;show cp (hi pins s1 σ H1 _ I1 q1) λF s2 ap=>?_;let#[O,H2,I2,G,q2]:=ap;show cp (hg pins s2 σ H2 S O ov F _ I2 R G q2) λaB s3 ad=>?_;let#[x3,H3,I3,r3,q3]:=ad;show cp (he pins s3 σ H3 _ I3 q3) λv s4 am=>?_;let#[x4,H4,I4,r4,q4]:=am;show cp (hp pins s4 σ H4 x3 x4 aB v _ I4 r3 r4 q4) λnew s5 as=>?_;let#[x5,H5,I5,r5,q5]:=as;show cp (hs pins s5 σ H5 S O x5 ov F new _ I5 R G r5 q5) λ_ s6 ac=>by let#[H6,I6,q6]:=ac;show#[σ,H6,I6,q6]
def NT(f:Int->Int->Int):L4:=λx y H Q=>∃i j,x=.int i/\y=.int j/\Q (.int (f i j)) H
theorem Ja:ME X .Add (NT λi j=>i+j):=by
 intros x y v u Q I L G h;let#[i,j,J,F,q]:=h;subst J;subst F;let#[t,rfl]:=L;let#[t',rfl]:=G;show VA #[.int _,H,I.tok _,#[0],q]
theorem Ho:ME X .Sub (NT λi j=>i-j):=by
 intros x y v u Q I L G h;let#[i,j,J,F,q]:=h;subst J;subst F;let#[t,rfl]:=L;let#[t',rfl]:=G;show isub_int #[.int _,H,I.tok _,#[0],q]
def Hm(c:TT)(tb:TS):TS:=λD σ H=>∃W:Nat->St->Hp->Prop,(∃m,W m σ H)/\∀m σ H,W m σ H ->
 c σ H λb H1=>if b=true then ∃N:St->Hp->Prop,(∀F H',N F H'->∃G,G<m/\W G F H')/\tb { D with nx:=N,ct:=N,bk:=D.nx } σ H1 else D.nx σ H1
theorem vH{c:Ou}{body:List Oz}{tc:TT}{tb:TS}(hp:Vc (model X.prog X.w) X.A X.env X.xe)(hc:PT X c tc)(hb:wI X body tb):PS X (.While c body [] pos) (Hm tc tb):=by
 intros D I h;let#[W,#[m0,w0],ac]:=h;show wpAny_While (codeAny_whileLoop (λn s'=>∃ab H',Inv X pins ab H' s'/\W n ab H') ?_ m0 #[σ,H,I,w0]);rintro n s1 ⟨L,H1,I1,w1⟩;show Pa hp (cp (hc pins s1 L H1 _ I1 (ac n L H1 w1)) λb s2 ad=>?_);let#[H2,I2,O]:=ad;cases b with
 |true =>
  let#[N,hN,O]:=O;rw[WQ rfl];show Pa hp (cp (hb pins s2 L H2 _ I2 O) λf s3 J=>?_);cases f with
  |next =>
   let#[F,G,Y,U]:=J;let#[S,hm,R]:=hN F G U;show#[S,hm,F,G,Y,R]
  |cont =>
   let#[F,G,Y,U]:=J;let#[S,hm,R]:=hN F G U;show#[S,hm,F,G,Y,R]
  |brk=>show J
  |ret v=>show J
 |false =>
  rw[WO vl];show P0 #[L,H2,I2,O]
end
structure It where
 go:Nat->Hp->Prop
 Ex:Nat->Hp->V->Hp->Prop
 stop:Nat->Hp->Prop
def gA(X:Cx)(pins:WU)(H:Hp)(b:Addr):Prop :=
 H b=none/\b≠X.env.locals/\b∉X.fs/\(b∈X.ex\/X.s₀.heap.objs.size<=b)/\(∀x c,X.env.cells.lookup x=some c->c≠b)/\∀p∈X.pn++pins,p.1≠b
theorem Inv.kP{X:Cx}{pins:WU}{σ:St}{H H':Hp}{s:k8}{b:Addr}(I: ~~~H s)(F:s⁻¹<=b)(J:H' b=none):gA X pins H' b:=by
 show#[J,UT (Ow I.lt F),I.KI F,.inr (L3 I.sz F),λx c e z=>?_,λp G z=>?_]
 .let#[v,q]:=I.cell x c e;show absurd (Ow q.lt (by rw[z];show F)) (QT _)
 .show absurd (Ow (Heap.lt_size (I.pin p G).1) (by rw[z];show F)) (QT _)
structure Turn(P:rn)(w:By)(K:HC)(tg:Ou)(J:It)(fp:W7)(it:Addr)(tn:Nat->Heap->Prop):Prop where
 mem:it∈fp
 obj:∀i h,tn i h->∀b∈fp,∃o,h.get? b=some o/\∀v,o.data≠.cell v
 keep:∀i h h',tn i h->(∀b∈fp,∀o,h.get? b=some o->h'.get? b=some o)->tn i h'
 item:∀(X:Cx),X.prog=P->X.w=w->X.K=K->X.calm=true->∀(i:Nat)(pins:WU)(s:k8)(σ:St)(H:Hp)(E:WV),~~~H s->(∀b∈fp,gA X pins H b)->tn i s.heap->J.go i H ->
  wpAny (model P w) X.A (pyNext (.ref it)) (λr s1=>∃u,r=some u /\
   wpAny (model P w) X.A (TC tg (.ref it) u) (λ_ s2=>∃x H',~~~H' s2/\RelV x u/\J.Ex i H x H'/\tn (i+1) s2.heap/\∀b∈fp,H' b=none) E s1) E s
 done:∀(X:Cx),X.prog=P->X.w=w->X.K=K->X.calm=true->∀(i:Nat)(pins:WU)(s:k8)(σ:St)(H:Hp)(E:WV),~~~H s->(∀b∈fp,gA X pins H b)->tn i s.heap->J.stop i H ->
  wpAny (model P w) X.A (pyNext (.ref it)) (λr s1=>r=none/\~~~H s1) E s
 self:∀(A:Oj)(i:Nat)(s:k8)(Q:WV)(E:WV),tn i s.heap->Q (.ref it) s->wpAny (model P w) A (pyIter (.ref it)) Q E s
abbrev TI:=St->Hp->(It->Hp->Prop)->Prop
def NM(X:Cx)(pins:WU)(σ:St)(tg:Ou)(R:It->Hp->Prop)(G:Value)(s2:k8):Prop :=
 ∃(it:Addr)(fp:W7)(F:Nat->Heap->Prop)(J:It)(H':Hp),G=.ref it/\~~~H' s2/\Turn X.prog X.w X.K tg J fp it F/\F 0 s2.heap/\(∀b∈fp,gA X pins H' b)/\R J H'
def PI(X:Cx)(tg iter:Ou)(wi:TI):Prop :=
 ∀(pins:WU)(s:k8)(σ:St)(H:Hp)(R:It->Hp->Prop),~~~H s->wi σ H R ->
  ↑(eval iter X.env) (λv F=>↑(pyIter v) (NM X pins σ tg R) X.xe F) X.xe s
theorem sv{M:SG}{A:Oj}{E:WV}{s:k8}{tg:Ou}{it:Addr}{u:Value}{o:Obj}{n:String}{vs:WZ}{Q:Unit->k8->Prop}(J:s.heap.get? it=some o)(I:o.cls=.type n)(hd:o.data=.fields vs)
  (G:["enumerate","zip","dict_itemiterator","dict_reverseitemiterator","odict_iterator","itertools.zip_longest","itertools.pairwise"].contains n=false) (F:Q () s):wpAny M A (TC tg (.ref it) u) Q E s:=by
 unfold TC;cases tg<;>first
  |show wpAny_pure F
  |(cases u<;>first
    |show wpAny_pure F
    |(show nq (wpAny_load J ?_)
      rw[I,hd];change wpAny M A (if (["enumerate","zip","dict_itemiterator","dict_reverseitemiterator","odict_iterator","itertools.zip_longest","itertools.pairwise"].contains n&&vs[0]?==some (rawInt _))=true then _ else _) Q E s;rw[WO (by intro h;rwa[G,Bool.false_and]at h)];show wpAny_pure F))
def EI(K:HC)(a:Addr):It :=
 #[λi H=>∃xs x,bD K H a xs/\xs[i]?=some x,λi H x H'=>H'=H/\∀xs,bD K H a xs->xs[i]?=some x,λi H=>∃xs,bD K H a xs/\xs.length<=i]
def LW(K:HC)(a:Addr):It :=
 #[λi H=>∃xs x,cu K H a xs/\xs[i]?=some x,λi H x H'=>H'=H/\∀xs,cu K H a xs->xs[i]?=some x,λi H=>∃xs,cu K H a xs/\xs.length<=i]
def FJ(lo:Int)(n:Nat):It:=#[λi _=>i<n,λi H x H'=>H'=H/\x=.int (lo+i),λi _=>n<=i]
theorem AO{P:rn}{w:By}{K:HC}{tg:Ou}(a it:Addr):Turn P w K tg (EI K a) [it] it (λi h=>h.IsListIter it a i) where
 mem:=by simp
 obj:=λi h st b F=>by
  let e:b=it:=‹F›;subst e;let#[o,e,c,d]:=st;show#[o,e,λv z=>by rwa[d]at z]
 keep:=λi h h' st k=>st.at λo e=>k it (by simp) o e
 item:=by
  intro X O hw L hc i pins s σ H E I J st U;subst O hw L;let#[xs,x,G,N]:=U;let#[its,R,p,hz]:=I.list G;let#[u,hu,ru]:=R.get N;let#[S,f1,f2,f3,f4,Y]:=J it (by simp);show wpAny_pyNext_list_item st p.isList (x:=u) ‹hu› λh' ab sb=>?_;let I1: ~~~H { s with heap:=h' }:=I.turned (t':=s.toks) (λb o F e=>(sb.2 b F).trans e) S f1 f3 f4 Y;let#[o,e,c,d]:=id ab;show#[u,rfl,sv (s:={ s with heap:=h' }) e c d ao #[x,H,I1,ru,#[rfl,λys hy=>by rw[I.lJ hy G];show N],ab,λb F=>(J b F).1]]
 done:=by
  intro X O hw L hc i pins s σ H E I J st U;subst O hw L;let#[xs,G,N]:=U;let#[its,R,p,hz]:=I.list G;let#[S,f1,f2,f3,f4,Y]:=J it (by simp);let hl:=R.length;show wpAny_pyNext_list_end (I.ok.hd hc) st p.isList (by simp;omega) λh' eb=>#[rfl,I.turned (t':=s.toks) (λb o F e=>eb b o F e) S f1 f3 f4 Y]
 self:=λ_ _ _ _ _ st h=>wpAny_pyIter_listiter st h
theorem xS{P:rn}{w:By}{K:HC}{tg:Ou}(a it:Addr):Turn P w K tg (LW K a) [it] it (λi h=>h.IsTupleIter it a i) where
 mem:=by simp
 obj:=λi h st b F=>by
  let e:b=it:=‹F›;subst e;let#[o,e,c,d]:=st;show#[o,e,λv z=>by rwa[d]at z]
 keep:=λi h h' st k=>st.at λo e=>k it (by simp) o e
 item:=by
  intro X O hw L hc i pins s σ H E I J st U;subst O hw L;let#[xs,x,G,N]:=U;let#[its,R,p,hz]:=I.tuple G;let#[u,hu,ru]:=R.get N;let#[S,f1,f2,f3,f4,Y]:=J it (by simp);show wpAny_pyNext_tuple_item st (show s.heap.IsTuple a its.toArray from p) (x:=u) ‹hu› λh' ab sb=>?_;let I1: ~~~H { s with heap:=h' }:=I.turned (t':=s.toks) (λb o F e=>(sb.2 b F).trans e) S f1 f3 f4 Y;let#[o,e,c,d]:=id ab;show#[u,rfl,sv (s:={ s with heap:=h' }) e c d ao #[x,H,I1,ru,#[rfl,λys hy=>by rw[I.Be hy G];show N],ab,λb F=>(J b F).1]]
 done:=by
  intro X O hw L hc i pins s σ H E I J st U;subst O hw L;let#[xs,G,N]:=U;let#[its,R,p,hz]:=I.tuple G;let#[S,f1,f2,f3,f4,Y]:=J it (by simp);let hl:=R.length;show wpAny_pyNext_tuple_end (I.ok.hd hc) st (show s.heap.IsTuple a its.toArray from p) (by simp;omega) λh' eb=>#[rfl,I.turned (t':=s.toks) (λb o F e=>eb b o F e) S f1 f3 f4 Y]
 self:=λ_ _ _ _ _ st h=>wpAny_pyIter_tupleiter st h
theorem yC{P:rn}{w:By}{K:HC}{tg:Ou}(it:Addr)(lo:Int)(n:Nat):Turn P w K tg (FJ lo n) [it] it (λi h=>TY h it (lo+(i:Nat)*1) ((n:Int)-(i:Nat)) 1) where
 mem:=by simp
 obj:=λi h st b F=>by
  let e:b=it:=‹F›;subst e;show#[_,st,λv z=>by
   let z':RK _=Ru v:=z;cases z']
 keep:=λi h h' st k=>k it (by simp) _ st
 item:=by
  intro X L U J S i pins s σ H E I G st N;subst L U J;let#[O,f1,f2,Y,f4,R]:=G it (by simp);let W:=WA (prog:=X.prog) (w:=X.w) (I.ok.hd S) it lo 1 n;show W.item i s _ _ N st λv h' tk hv ab kk=>?_;let#[t,rfl]:=hv;let I1: ~~~H { s with heap:=h',toks:=tk }:=I.turned (λb o F e=>kk b o ‹F› e) O f1 Y f4 R;show#[0,sv (s:={ s with heap:=h',toks:=tk }) (n := "range_iterator") ab rfl rfl ao #[.int (lo+i),H,I1,#[t,?_],#[1],ab,λb F=>(G b F).1]];rw[Int.mul_one]
 done:=by
  intro X L U J S i pins s σ H E I G st N;subst L U J;let#[O,f1,f2,Y,f4,R]:=G it (by simp);show Tj (I.ok.hd S) st (by have:n<=i:=N;omega) λh' eb=>#[rfl,I.turned (t':=s.toks) (λb o F e=>eb b o F e) O f1 Y f4 R]
 self:=λ_ _ _ _ _ st h=>Tn st h
section
variable{X:Cx}{tg:Ou}
def La(K:HC)(tl:TE):TI:=λσ H R=>tl σ H λx H1=>∃a,x=.ref a/\(∃xs,bD K H1 a xs)/\R (EI K a) H1
def MW(K:HC)(tl:TE):TI:=λσ H R=>tl σ H λx H1=>∃a,x=.ref a/\(∃xs,cu K H1 a xs)/\R (LW K a) H1
theorem eE{l:Ou}{tl:TE}(J:PE X l tl):PI X tg l (La X.K tl):=by
 intros R I h;show cp (J pins s σ H _ I h) λv G U=>?_;let#[x,H1,F,N,L]:=U;let#[a,e,#[xs,O],q]:=L;subst e;cases N;let#[its,rv,p,Y]:=F.list O;show SH p.isList ?_;show#[G⁻¹,[G⁻¹],2,H1,rfl,F.kept (t':=G.toks) λb o e=>Heap.get?_push_of_some _ e,AO a _,#[_,Heap.get?_push_size _ rfl,1],λb S=>?_,q];let e:b=G⁻¹:=‹S›;subst e;show F.kP (rr _) (F.bV.fresh (rr _))
theorem HS{l:Ou}{tl:TE}(J:PE X l tl):PI X tg l (MW X.K tl):=by
 intros R I h;show cp (J pins s σ H _ I h) λv F U=>?_;let#[x,H1,G,N,L]:=U;let#[a,e,#[xs,O],q]:=L;subst e;cases N;let#[its,rv,p,Y]:=G.tuple O;show wpAny_pyIter_tuple (show F.heap.IsTuple a its.toArray from p) ?_;show#[F⁻¹,[F⁻¹],2,H1,rfl,G.kept (t':=F.toks) λb o e=>Heap.get?_push_of_some _ e,xS a _,#[_,Heap.get?_push_size _ rfl,1],λb S=>?_,q];let e:b=F⁻¹:=‹S›;subst e;show G.kP (rr _) (G.bV.fresh (rr _))
theorem vT{pins:WU}{σ:St}{H:Hp}{s:k8}{R:It->Hp->Prop}{E:WV}{lo hi:Int}{t u v:Wx}{tk:Nat}(I: ~~~H s)(h1 : -(2^62)<=lo)(h2:lo<2^62)(N : -(2^62)<=hi)(O:hi<2^62)
  (q:R (FJ lo (hi-lo).toNat) H):↑(pyIter (.ref s⁻¹)) (NM X pins σ tg R) E { s with heap:=s.heap.push { cls:=.type "range",data:=.fields ([.int lo t,.int hi u,.int 1 v].toArray) },toks:=tk }:=by
 show UA (WB ..) (small_one h1 h2 N O) ?_;let F: ~~~H { s with heap:=s.heap.push { cls:=.type "range",data:=.fields ([.int lo t,.int hi u,.int 1 v].toArray) },toks:=tk }:=I.kept λb o e=>Heap.get?_push_of_some _ e;show#[(s.heap.push { cls:=.type "range",data:=.fields ([.int lo t,.int hi u,.int 1 v].toArray) }).objs.size,[(s.heap.push { cls:=.type "range",data:=.fields ([.int lo t,.int hi u,.int 1 v].toArray) }).objs.size],2,H,rfl,
  F.kept (t':=tk) λb o e=>Heap.get?_push_of_some _ e,yC _ lo (hi-lo).toNat,?_,λb L=>?_,q]
 .let J:lo+((0:Nat):Int)*1=lo:=(by simp);let G:(((hi-lo).toNat:Nat):Int)-((0:Nat):Int)=Builtin.Range.rangeSize lo hi 1:=(by rw[rangeSize_one];split<;>omega);change TY _ _ (lo+((0:Nat):Int)*1) ((((hi-lo).toNat:Nat):Int)-((0:Nat):Int)) 1;rw[J,G];show Heap.get?_push_size _ rfl
 .let e:b=(s.heap.push { cls:=.type "range",data:=.fields ([.int lo t,.int hi u,.int 1 v].toArray) }).objs.size:=‹L›;subst e;show F.kP (rr _) (F.bV.fresh (rr _))
def Lk(ta:TA):TI:=λσ H R=>ta σ H λvs H1=>∃j:Int,vs=[.int j] /\ -(2^62)<=j/\j<2^62/\R (FJ 0 j.toNat) H1
def Lf(ta:TA):TI:=λσ H R=>ta σ H λvs H1=>Bv λ(i j:Int)=>uX (vs=[.int i,.int j]) ((-(2^62)<=i/\i<2^62 /\ -(2^62)<=j/\j<2^62)) (R (FJ i (j-i).toNat) H1)
theorem zU{a:Ou}{ta:TA}{p pos:QM}(Y:Gl X "range")(U:X.mg "range" = none)(O:PA X [a] ta)(hs:starEach [a] X.env=[(false,eval a X.env)]:=by rfl):PI X tg (.Call (.Name "range" p) [a] [] pos) (Lk ta):=by
 intros R I h;show Call_ (jj I Y U VI (Pe (cp (O pos pins s σ H _ I h) λus s1 L=>?_) hs rfl));let#[vs,H1,N,J,F]:=L;let#[j,e,F,G,q]:=F;subst e;cases J with
 |cons r S =>
  cases S;let#[t,rfl]:=r;show call_range_1 (vT N ag ag F G ‹q›)
theorem ff{a b:Ou}{ta:TA}{p pos:QM}(O:Gl X "range")(hm:X.mg "range" = none)(ha:PA X [a,b] ta)(hs:starEach [a,b] X.env=[(false,eval a X.env),(false,eval b X.env)]:=by rfl)(J:starEach [b] X.env=[(false,eval b X.env)]:=by rfl) :
  PI X tg (.Call (.Name "range" p) [a,b] [] pos) (Lf ta):=by
 intros R I h;show Call_ (jj I O hm VI (Pe (cp (ha pos pins s σ H _ I h) λus s1 ⟨vs,H1,N,S,F⟩=>?_) (by rw[hs,J]) (by rw[J];rfl)));let#[i,j,e,#[F,Y,L,q4],q]:=F;subst e;cases S with
 |cons r G =>
  cases G with
  |cons U G =>
   cases G;let#[t,rfl]:=r;let#[t',rfl]:=U;show call_range_2 (vT N F Y L q4 q)
def KA(wi:TI)(g:TG)(tb:TS):TS:=λD σ H=>wi σ H λJ H1=>∃W:Nat->Nat->St->Hp->Prop,(∃m,W 0 m σ H1)/\∀i m σ H,W i m σ H ->
 (J.stop i H/\D.nx σ H)\/(J.go i H/\∃N:St->Hp->Prop,(∀F H',N F H'->∃G,G<m/\W (i+1) G F H')/\∀x H',J.Ex i H x H'->g x σ H' λI H2=>tb { D with nx:=N,ct:=N,bk:=D.nx } I H2)
def lT(fp:W7)(h:Heap):List (Addr×Obj):=fp.filterMap λb=>(h.get? b).map λo=>(b,o)
theorem fY{fp:W7}{h:Heap}{b:Addr}{o:Obj}(F:b∈fp)(e:h.get? b=some o):(b,o)∈lT fp h:=Sj.mpr #[b,F,by rw[e];rfl]
theorem AX{fp:W7}{h:Heap}{p:Addr×Obj}(G:p∈lT fp h):p.1∈fp/\h.get? p.1=some p.2:=by
 let#[b,I,e]:=Sj.mp G;cases q:h.get? b with
 |none=>rwa[q]at e
 |some o =>
  rw[q]at e;let F:(b,o)=p:=sS e;subst F;show#[I,q]
theorem Inv.pinned{pins:WU}{σ:St}{H:Hp}{s:k8}{fp:W7}(I: ~~~H s)(L:∀b∈fp,gA X pins H b)(S:∀b∈fp,∃o,s.heap.get? b=some o/\∀v,o.data≠.cell v):Inv X (pins++lT fp s.heap) σ H s :=
 I.nK λp J=>(qj.mp J).elim (λz=>I.pin p (L8 _ z)) λz=>by
  let#[G,e]:=AX z;let#[O,R,N,_]:=L p.1 G;let#[o,F,d]:=S p.1 G;rwa[e]at F;show#[e,O,R,N,d]
theorem Inv.fL{pins pl:WU}{σ:St}{H:Hp}{s:k8}(I:Inv X (pins++pl) σ H s): ~~~H s:=I.nK λp F=>I.pin p (L8 _ (O8 _ F))
theorem dy{iter:Ou}{body:List Oz}{wi:TI}{g:TG}{tb:TS}{pos:QM}(S:Vc (model X.prog X.w) X.A X.env X.xe)(hc:X.calm=true)(hi:PI X tg iter wi)(hg:PG X tg g)(G:wI X body tb)
  (hs:∀x,Qb iter X.env x=pure x:=by intro _;rfl):PS X (.For tg iter body [] pos) (KA wi g tb):=by
 intros D I h;show Wl (cp (hi pins s σ H _ I h) λv s1 h1=>cp h1 λa5 s2 h2=>?_) hs;let#[it,fp,tn,J,H2,e,I2,T,a3,f2,W,#[m0,w0],a1]:=h2;subst e;let ab:∀{H':Hp},(∀b∈fp,H' b=none)->∀b∈fp,gA X pins H' b:=λhn b G=>#[hn b G,(f2 b G).2];show Ul (λn s'=>∃i U H',Inv X pins U H' s'/\tn i s'.heap/\(∀b∈fp,H' b=none)/\W i n U H') ?_ m0 #[(0),σ,H2,I2,a3,λb G=>(f2 b G).1,w0];rintro n s3 ⟨i,Y,H3,I3,am,ad,w3⟩;rcases a1 i n Y H3 w3 with⟨as,qn⟩|⟨go,N,hN,step⟩
 .show Pa S (cp (T.done X rfl rfl rfl hc i pins s3 Y H3 X.xe I3 (ab ad) am as) λr s4 ap=>?_);let#[hr,I4]:=ap;subst hr;show P0 #[Y,H3,I4,qn]
 .show Pa S (cp (T.item X rfl rfl rfl hc i pins s3 Y H3 X.xe I3 (ab ad) am go) λr s4 aT=>?_);let#[u,hr,h4]:=aT;subst hr;show Pa S (cp h4 λ_ s5 a2=>?_);let#[x,H5,I5,r5,y5,ac,aB]:=a2;let a0:=I5.pinned (ab aB) (T.obj _ _ ac);show Pa S (cp (hg _ s5 Y H5 x u _ a0 r5 (step x H5 y5)) λ_ s6 a4=>?_);let#[aD,H6,I6,q6]:=a4;show Pa S (cp (G _ s6 aD H6 _ I6 q6) λf s7 R=>?_);let again:∀{L:St}{O:Hp},Inv X (pins++lT fp s5.heap) L O s7->N L O->∃m,m<n/\∃i U H',Inv X pins U H' s7/\tn i s7.heap/\(∀b∈fp,H' b=none)/\W i m U H':=λ{L O} F n7=>by
   let#[m',hm,w7]:=hN L O n7;show#[m',hm,i+1,L,O,F.fL,T.keep _ _ _ ac λb G o e=>(F.pin (b,o) (L8 _ (L8 _ (fY G e)))).1,λb G=>?_,w7];let#[o,e,d]:=T.obj _ _ ac b G;show(F.pin (b,o) (L8 _ (L8 _ (fY G e)))).2.1
  cases f with
  |next=>let#[L,O,F,n7]:=R;show again F n7
  |cont=>let#[L,O,F,n7]:=R;show again F n7
  |brk=>let#[L,O,F,R]:=R;show#[L,O,F.fL,R]
  |ret v=>let#[x7,L,O,F,r7,R]:=R;show#[x7,L,O,F.fL,r7,R]
end
theorem er{K:HC}{a:Addr}{xs:XD}{g:TG}{tb:TS}{D:Ends}{σ:St}{H:Hp}(Pv:Nat->St->Hp->Prop)(O:Pv 0 σ H)(L:∀i σ H,i<=xs.length->Pv i σ H->bD K H a xs)
  (hs:∀i x σ H,xs[i]?=some x->Pv i σ H->g x σ H λG H2=>tb { D with nx:=Pv (i+1),ct:=Pv (i+1),bk:=D.nx } G H2) (hd:∀σ H,Pv xs.length σ H->D.nx σ H) :
  ∃W:Nat->Nat->St->Hp->Prop,(∃m,W 0 m σ H)/\∀i m σ H,W i m σ H ->
   ((EI K a).stop i H/\D.nx σ H)\/((EI K a).go i H/\∃N:St->Hp->Prop,(∀F H',N F H'->∃J,J<m/\W (i+1) J F H')/\∀x H',(EI K a).Ex i H x H'->g x σ H' λG H2=>tb { D with nx:=N,ct:=N,bk:=D.nx } G H2):=by
 show#[λi m σ H=>m=xs.length-i/\i<=xs.length/\Pv i σ H,#[xs.length,by simp,OC _,O],?_];rintro i m σ H ⟨rfl,hi,p⟩;let q:=L i σ H hi p;cases I:i<xs.length
 .show .inr #[#[xs,xs[i],q,by simp[I]],Pv (i+1),λF H' R=>#[xs.length-(i+1),ag,rfl,I,R],λx H' y=>?_];let#[e,y]:=y;subst e;show hs i x σ _ (y xs q) p
 .let e:i=xs.length:=ag;subst e;show .inl #[#[xs,q,rr _],hd σ H p]
theorem jE{lo:Int}{n:Nat}{g:TG}{tb:TS}{D:Ends}{σ:St}{H:Hp}(Pv:Nat->St->Hp->Prop)(L:Pv 0 σ H)
  (hs:∀i σ H,i<n->Pv i σ H->g (.int (lo+i)) σ H λI H2=>tb { D with nx:=Pv (i+1),ct:=Pv (i+1),bk:=D.nx } I H2) (hd:∀σ H,Pv n σ H->D.nx σ H) :
  ∃W:Nat->Nat->St->Hp->Prop,(∃m,W 0 m σ H)/\∀i m σ H,W i m σ H ->
   ((FJ lo n).stop i H/\D.nx σ H)\/((FJ lo n).go i H/\∃N:St->Hp->Prop,(∀G H',N G H'->∃J,J<m/\W (i+1) J G H')/\∀x H',(FJ lo n).Ex i H x H'->g x σ H' λI H2=>tb { D with nx:=N,ct:=N,bk:=D.nx } I H2):=by
 show#[λi m σ H=>m=n-i/\i<=n/\Pv i σ H,#[n,by simp,OC _,L],?_];rintro i m σ H ⟨rfl,hi,p⟩;cases F:i<n
 .show .inr #[F,Pv (i+1),λG H' O=>#[n-(i+1),ag,rfl,F,O],λx H' y=>?_];let#[e,y]:=y;subst e y;show hs i σ _ F p
 .let e:i=n:=ag;subst e;show .inl #[rr _,hd σ H p]
abbrev R2:=V->V->Hp->VK->Prop
def mh(X:Cx)(f:Value->Value->RS Value)(r:R2):Prop :=
 ∀(pins:WU)(s:k8)(σ:St)(H:Hp)(x y:V)(v u:Value)(Q:VK),~~~H s->RelV x v->RelV y u->r x y H Q ->
  ↑(f v u) (EP X pins σ Q) X.xe s
def Nl(X:Cx)(f:Value->RS Value)(r:V->Hp->VK->Prop):Prop :=
 ∀(pins:WU)(s:k8)(σ:St)(H:Hp)(x:V)(v:Value)(Q:VK),~~~H s->RelV x v->r x H Q ->
  ↑(f v) (EP X pins σ Q) X.xe s
def dS(X:Cx)(f:Value)(r:List V->Hp->VK->Prop):Prop :=
 ∀(pins:WU)(s:k8)(σ:St)(H:Hp)(xs:XD)(us:W0)(Q:VK),~~~H s->Vals xs us->r xs H Q ->
  ↑(call f us) (EP X pins σ Q) X.xe s
def EL(r:R2)(ta tb:TE):TE:=λσ H Q=>ta σ H λx H1=>tb σ H1 λy H2=>r x y H2 Q
def N2(r:V->Hp->VK->Prop)(ta:TE):TE:=λσ H Q=>ta σ H λx H1=>r x H1 Q
inductive rI(C:Int->Int->Prop)(g:Int->Int->V)(x:V)(y:V)(H:Hp)(Q:VK):Prop
 |mk(i:_)(j:_)(_:x=.int i)(_:y=.int j)(_:C i j)(_:Q (g i j) H)
inductive Gi(g:Int->Int->V)(x:V)(y:V)(H:Hp)(Q:VK):Prop
 |mk(i:_)(j:_)(_:x=.int i)(_:y=.int j)(_:Q (g i j) H)
inductive rU(g:Int->V)(x:V)(H:Hp)(Q:VK):Prop
 |mk(i:_)(_:x=.int i)(_:Q (g i) H)
section
variable{X:Cx}{a b c:Ou}{ta tb tc:TE}{pos:QM}
theorem IB(ha:PE X a ta)(S:PE X b tb){pins:WU}{s:k8}{σ:St}{H:Hp}{R:V->V->Hp->Prop}(I: ~~~H s)
  (h:ta σ H λx H1=>tb σ H1 λy H2=>R x y H2) {Q:WV}{f:Value->Value->RS Value}
  (U:∀v u s2 x y H2,~~~H2 s2->RelV x v->RelV y u->R x y H2->↑(f v u) Q X.xe s2) :
  ↑(eval a X.env) (λv J=>↑(eval b X.env) (λu Y=>↑(f v u) Q X.xe Y) X.xe J) X.xe s:=by
 show cp (ha pins s σ H _ I h) λv s1 ab=>?_;let#[x,H1,O,r1,N]:=ab;show cp (S pins s1 σ H1 _ O N) λu s2 F=>?_;let#[y,H2,I2,G,L]:=F;show U v u s2 x y H2 I2 r1 G L
theorem ar{F:UO}{r:R2}(N:mh X (RL F) r)(L:PE X a ta)(J:PE X b tb):PE X (.BinOp a F b pos) (EL r ta tb):=by
 intros Q I h;show wpAny_BinOp (IB L J I h λv u s2 x y H2 R O G q=>N pins s2 σ H2 x y v u Q R O G q)
theorem mS{F:UnaryOp}{r:V->Hp->VK->Prop}(R:Nl X (unaryOp F) r)(O:PE X a ta):PE X (.UnaryOp F a pos) (N2 r ta):=by
 intros Q I h;show UnaryOp_ (cp (O pins s σ H _ I h) λv L N=>by let#[x,H1,J,S,G]:=N;show R pins L σ H1 x v Q J S G)
theorem Me{f:Value->Value->RS Value}{C:Int->Int->Prop}{g:Int->Int->Int}
  (rule:∀(i j:Int)(t u:Wx)(s:k8)(Q:WV)(E:WV),C i j->Q (.int (g i j) s.toks) { s with toks:=s.toks+1 }->↑(f (.int i t) (.int j u)) Q E s) :
  mh X f (rI C λi j=>.int (g i j)):=by
 intros x y v u Q I J F h;let#[i,j,rfl,rfl,G,q]:=h;let#[t,rfl]:=J;let#[t',rfl]:=F;show rule i j t t' s _ _ G #[.int (g i j),H,I.tok _,#[0],q]
theorem J5{f:Value->Value->RS Value}{g:Int->Int->Int}
  (rule:∀(i j:Int)(t u:Wx)(s:k8)(Q:WV)(E:WV),Q (.int (g i j) s.toks) { s with toks:=s.toks+1 }->↑(f (.int i t) (.int j u)) Q E s) :
  mh X f (Gi λi j=>.int (g i j)):=by
 intros x y v u Q I G F h;let#[i,j,rfl,rfl,q]:=h;let#[t,rfl]:=G;let#[t',rfl]:=F;show rule i j t t' s _ _ #[.int (g i j),H,I.tok _,#[0],q]
theorem Ih{f:Value->Value->RS Value}{g:Int->Int->Bool}
  (rule:∀(i j:Int)(t u:Wx)(s:k8)(Q:WV)(E:WV),Q (.bool (g i j)) s->↑(f (.int i t) (.int j u)) Q E s) :
  mh X f (Gi λi j=>.bl (g i j)):=by
 intros x y v u Q I G F h;let#[i,j,rfl,rfl,q]:=h;let#[t,rfl]:=G;let#[t',rfl]:=F;show rule i j t t' s _ _ #[.bl (g i j),H,I,rfl,q]
def Mh(i j:Int):Prop:=0<j/\j<1073741824
def Mn(i j:Int):Prop:=0<=j/\j<=1000000/\i.natAbs<2^64
def DW(i j:Int):Prop:=(-(2^64)<i/\i<2^64)\/(-(2^64)<j/\j<2^64)
theorem DW.ok{i j:Int}(h:DW i j):IntMulOk i j:=by
 rcases h with⟨h1,h2⟩|⟨h1,h2⟩
 .show .of_left (intBits_le_64 h1 h2)
 .show .of_right (intBits_le_64 h1 h2)
theorem aZ:mh X (RL .Add) (Gi λi j=>.int (i+j)):=J5 λ_ _ _ _ _ _ _ q=>add_int q
theorem du:mh X (RL .Sub) (Gi λi j=>.int (i-j)):=J5 λ_ _ _ _ _ _ _ q=>sub_int q
theorem eO:mh X (RL .Mult) (rI DW λi j=>.int (i*j)):=Me λ_ _ _ _ _ _ _ F q=>mul_int q F.ok
theorem aV:mh X (RL .FloorDiv) (rI Mh λi j=>.int (i/j)):=Me λi j _ _ _ _ _ F q=>by
 let h1:(0:Int)<j:=F.1;let h2:j<1073741824:=F.2;show floordiv_int ag (by rw[Int.fdiv_eq_ediv_of_nonneg i ag];show q) (.inl (PyProof.noPylong_small ag))
theorem aM:mh X (RL .Mod) (rI (λ_ j=>0<j) λi j=>.int (i%j)):=Me λi j _ _ _ _ _ F q=>by
 let h1:(0:Int)<j:=F;show mod_int' ag (by rw[Int.fmod_eq_emod_of_nonneg i ag];show q)
theorem eX:mh X (RL .Pow) (rI Mn λi j=>.int (i^j.toNat)):=Me λ_ _ _ _ _ _ _ F q=>pow_int_small F.1 F.2.1 F.2.2 q
theorem Oc{f:Value->RS Value}{g:Int->Int}
  (rule:∀(i:Int)(t:Wx)(s:k8)(Q:WV)(E:WV),Q (.int (g i) s.toks) { s with toks:=s.toks+1 }->↑(f (.int i t)) Q E s) :
  Nl X f (rU λi=>.int (g i)):=by
 intros x v Q I F h;let#[i,rfl,q]:=h;let#[t,rfl]:=F;show rule i t s _ _ #[.int (g i),H,I.tok _,#[0],q]
theorem jh:Nl X (unaryOp .USub) (rU λi=>.int (-i)):=Oc λ_ _ _ _ _ q=>neg_int q
end
def vS:V->V->Bool
 |.non,.non=>true|.non,.int _=>true|.int _,.non=>true|.non,.bl _=>true|.bl _,.non=>true|.non,.str _=>true|.str _,.non=>true
 |.int _,.int _=>true|.bl _,.bl _=>true|.str _,.str _=>true|.byt _,.byt _=>true
 |.int _,.str _=>true|.str _,.int _=>true|.bl _,.str _=>true|.str _,.bl _=>true
 |_,_=>false
def Ic:R2:=λx y H Q=>vS x y=true/\Q (.bl (decide (x=y))) H
def N6:R2:=λx y H Q=>vS x y=true/\Q (.bl (!decide (x=y))) H
theorem zv{i j:Int}:decide (V.int i=V.int j)=(i==j):=by
 rw[QF];simp
theorem Es{i j:Bool}:decide (V.bl i=V.bl j)=(i==j):=by
 rw[QF];simp
theorem za{i j:Str}:decide (V.str i=V.str j)=(i==j):=by
 rw[QF];simp
theorem zg{i j:Array UInt8}:decide (V.byt i=V.byt j)=(i.toList==j.toList):=by
 rw[QF];cases i;cases j;simp
section
variable{X:Cx}{a b c:Ou}{ta tb tc:TE}{pos:QM}
theorem ck{pins:WU}{σ:St}{H:Hp}{s:k8}{Q:VK}{k F:Bool}(I: ~~~H s)(q:Q (.bl k) H)(e:k=F):EP X pins σ Q (.bool F) s:=by
 subst e;show#[.bl k,H,I,rfl,q]
theorem bZ:mh X (Pq .Eq) Ic:=by
 intros x y v u Q I G F h;let#[hs,q]:=h;cases x with
 |non =>
  cases G;cases y with
  |non=>cases F;show PySem.EqNone.eq_none_none (ck I q (by simp))
  |bl j=>cases F;show PySem.EqNone.eq_none_bool (ck I q (by simp))
  |int j=>let#[t',rfl]:=F;show PySem.EqNone.eq_none_int (ck I q (by simp))
  |str j=>let#[t',rfl]:=F;show PySem.EqNone.eq_none_str (ck I q (by simp))
  |_=>show absurd (show false=true from hs) vl
 |bl i =>
  cases G;cases y with
  |non=>cases F;show PySem.EqNone.eq_bool_none (ck I q (by simp))
  |bl j=>cases F;show eq_bool (ck I q Es)
  |str j=>let#[t',rfl]:=F;show V7 (ck I q (by simp))
  |_=>show absurd (show false=true from hs) vl
 |int i =>
  let#[t,rfl]:=G;cases y with
  |non=>cases F;show PySem.EqNone.eq_int_none (ck I q (by simp))
  |int j=>let#[t',rfl]:=F;show eq_int (ck I q zv)
  |str j=>let#[t',rfl]:=F;show Wc (ck I q (by simp))
  |_=>show absurd (show false=true from hs) vl
 |str i =>
  let#[t,rfl]:=G;cases y with
  |non=>cases F;show PySem.EqNone.eq_str_none (ck I q (by simp))
  |bl j=>cases F;show V8 (ck I q (by simp))
  |int j=>let#[t',rfl]:=F;show Wd (ck I q (by simp))
  |str j=>let#[t',rfl]:=F;show eq_str (ck I q za)
  |_=>show absurd (show false=true from hs) vl
 |byt i =>
  let#[t,rfl]:=G;cases y with
  |byt j=>let#[t',rfl]:=F;show PySem.W.eq_bytes (ck I q zg)
  |_=>show absurd (show false=true from hs) vl
 |_=>cases y<;>show absurd (show false=true from hs) vl
theorem zK:mh X (Pq .NotEq) N6:=by
 intros x y v u Q I G F h;let#[hs,q]:=h;cases x with
 |non =>
  cases G;cases y with
  |non=>cases F;show PySem.EqNone.ne_none_none (ck I q (by simp))
  |bl j=>cases F;show PySem.EqNone.ne_none_bool (ck I q (by simp))
  |int j=>let#[t',rfl]:=F;show PySem.EqNone.ne_none_int (ck I q (by simp))
  |str j=>let#[t',rfl]:=F;show PySem.EqNone.ne_none_str (ck I q (by simp))
  |_=>show absurd (show false=true from hs) vl
 |bl i =>
  cases G;cases y with
  |non=>cases F;show PySem.EqNone.ne_bool_none (ck I q (by simp))
  |bl j=>cases F;show ne_bool (ck I q (congrArg not Es))
  |str j=>let#[t',rfl]:=F;show V9 (ck I q (by simp))
  |_=>show absurd (show false=true from hs) vl
 |int i =>
  let#[t,rfl]:=G;cases y with
  |non=>cases F;show PySem.EqNone.ne_int_none (ck I q (by simp))
  |int j=>let#[t',rfl]:=F;show ne_int (ck I q (congrArg not zv))
  |str j=>let#[t',rfl]:=F;show We (ck I q (by simp))
  |_=>show absurd (show false=true from hs) vl
 |str i =>
  let#[t,rfl]:=G;cases y with
  |non=>cases F;show PySem.EqNone.ne_str_none (ck I q (by simp))
  |bl j=>cases F;show Wa (ck I q (by simp))
  |int j=>let#[t',rfl]:=F;show Wf (ck I q (by simp))
  |str j=>let#[t',rfl]:=F;show ne_str (ck I q (congrArg not za))
  |_=>show absurd (show false=true from hs) vl
 |byt i =>
  let#[t,rfl]:=G;cases y with
  |byt j=>let#[t',rfl]:=F;show PySem.W.ne_bytes (ck I q (congrArg not zg))
  |_=>show absurd (show false=true from hs) vl
 |_=>cases y<;>show absurd (show false=true from hs) vl
theorem gp:mh X (Pq .Lt) (Gi λi j=>.bl (decide (i<j))):=Ih λ_ _ _ _ _ _ _ q=>lt_int q
theorem gY:mh X (Pq .Gt) (Gi λi j=>.bl (decide (j<i))):=Ih λ_ _ _ _ _ _ _ q=>gt_int q
theorem LJ:mh X (Pq .GtE) (Gi λi j=>.bl (decide (j<=i))):=Ih λ_ _ _ _ _ _ _ q=>ge_int q
theorem Hq:mh X (Pq .Is) (λx y H Q=>y=.non/\Q (.bl (decide (x=.non))) H):=by
 intros x y v u Q I F G h;let#[rfl,q]:=h;cases G;show is_none_gen (ck I q ?_);cases x<;>first
  |(cases F;rfl)
  |(let#[t,rfl]:=F;rfl)
theorem FW:mh X (Pq .IsNot) (λx y H Q=>y=.non/\Q (.bl (!decide (x=.non))) H):=by
 intros x y v u Q I F G h;let#[rfl,q]:=h;cases G;show isnot_none_gen (ck I q ?_);cases x<;>first
  |(cases F;rfl)
  |(let#[t,rfl]:=F;rfl)
theorem aH(b:Ou){F:Wz}(h:F≠.In:=by decide)(h2:F≠.NotIn:=by decide):Q0 F b=false:=by
 let I:(F==CmpOp.In)=false:=by cases F<;>first|rfl|show absurd rfl h
 let G:(F==CmpOp.NotIn)=false:=by cases F<;>first|rfl|show absurd rfl h2
 cases b<;>simp[Q0,I,G]
theorem jL{F:Wz}{r:R2}(O:mh X (Pq F) r)(L:PE X a ta)(J:PE X b tb)(N:Q0 F b=false):PE X (.Compare a [F] [b] pos) (EL r ta tb):=by
 intros Q I h;show wpAny_Compare1 (IB L J I h λv u s2 x y H2 S R G q=>O pins s2 σ H2 x y v u Q S R G q) N
inductive Er(t:TE)(Q:Bool->Hp->Prop)(x:V)(H':Hp):Prop
 |mk(k:_)(_:x=.bl k)(_:Q k H')
def pW(t:TE):TT:=λσ H Q=>t σ H λx H'=>Er t Q x H'
theorem aA{F:Wz}{r:R2}(ho:mh X (Pq F) r)(ha:PE X a ta)(Y:PE X b tb)(hm:Q0 F b=false):PT X (.Compare a [F] [b] pos) (pW (EL r ta tb)):=by
 intros Q I h;show TF (cp (ha pins s σ H _ I h) λv U ⟨x,H1,S,r1,O⟩=>cp (Y pins U σ H1 _ S O) λu s2 ⟨y,H2,I2,G,J⟩ =>
  cp (ho pins s2 σ H2 x y v u _ I2 r1 G J) λc s3 ⟨z,N,I3,R,k,e,L⟩=>?_) hm
 subst e;cases R;show PZ #[N,I3,L]
theorem qy:(sizeLine:Nat)<2^63:=by rw[ti];decide
theorem vals1{x:V}{us:W0}(r:Vals [x] us):∃u,us=[u]/\RelV x u:=by
 cases r with
 |cons G F=>cases F;show#[0,G]
theorem vals2{x y:V}{us:W0}(r:Vals [x,y] us):∃u F,us=[u,F]/\RelV x u/\RelV y F:=by
 cases r with
 |cons L G =>
  cases G with
  |cons J I=>cases I;show#[_,0,L,J]
theorem mz(G:X.calm=true):dS X (.builtin "max") (λxs H Q=>∃i j,xs=[.int i,.int j]/\Q (.int (if j>i then j else i)) H):=by
 intros xs us Q I r h;let#[i,j,rfl,q]:=h;let#[u,J,rfl,#[t,rfl],#[t',rfl]]:=vals2 r;show max_two_ints (I.ok.hd G) λh' tk k=>#[_,H,I.kept k,?_,q];cases F:j>i
 .rw[WQ F,WQ F];show#[0]
 .rw[WO F,WO F];show#[0]
theorem Ah(G:X.calm=true):dS X (.builtin "min") (λxs H Q=>∃i j,xs=[.int i,.int j]/\Q (.int (if j<i then j else i)) H):=by
 intros xs us Q I r h;let#[i,j,rfl,q]:=h;let#[u,J,rfl,#[t,rfl],#[t',rfl]]:=vals2 r;show min_two_ints (I.ok.hd G) λh' tk k=>#[_,H,I.kept k,?_,q];cases F:j<i
 .rw[WQ F,WQ F];show#[0]
 .rw[WO F,WO F];show#[0]
theorem fm:dS X (.type "int") (λxs H Q=>(∃i,xs=[.int i]/\Q (.int i) H)\/∃k,xs=[.bl k]/\Q (.int (if k then 1 else 0)) H):=by
 intros xs us Q I r h;rcases h with⟨i,rfl,q⟩|⟨k,rfl,q⟩
 .let#[u,rfl,t,rfl]:=vals1 r;show call_int_int #[.int i,H,I,#[0],q]
 .let#[u,rfl,F]:=vals1 r;cases F;show call_int_bool #[.int (if k then 1 else 0),H,I.tok _,#[0],q]
end
structure yM(h:Heap)(x dx C:Addr)(mA:WW):Prop where
 obj:h.get? x=some (instObj C dx)
 ns:h.Ns1 dx mA
 ne:dx≠x
theorem AU{h:Heap}{dx:Addr}{mA:WW}(n:h.Ns1 dx mA):∃od,h.get? dx=some od/\∀name,lookIn name od=some (mA name):=by
 let#[o,es,ep,N,hd,F,_,L]:=n;show#[o,N,λname=>?_];let e:=L name;unfold nsFind findBy at e;rw[<-Array.find?_toList]at e;unfold lookIn;rw[hd];dsimp only
 set_option tactic.hygienic true in split
 .rename_i y q;rw[q]at e;show congrArg some e
 .rename_i q;rw[q]at e;let a:es.toList.any (·.refKey)=false:=by
   rw[UU];intro y J;let#[z,t,I]:=F y (Array.mem_toList_iff.mp J);simp[DictEntry.refKey,I]
  let G:¬ es.toList.any (·.refKey)=true:=(by rw[a];show vl);rw[WO G];show congrArg some e
theorem yM.look{h:Heap}{x dx C:Addr}{mA:WW}(I:yM h x dx C mA):∃od,PySem.W.InstAt h x (instObj C dx) C (some od)/\∀name,lookIn name od=some (mA name):=
 let ⟨od,G,F⟩:=AU I.ns
 #[od,#[I.obj,1,G],F]
section
variable{prog:rn}{w:By}{A:Oj}{E:WV}{s:k8}{K:HC}{x dx C f:Addr}{mA:WW}{name:Str}{v:Value}
theorem get_map{F:Bool}{Q:WV}(X:K.In s.heap)(I:yM s.heap x dx C mA)(R:VJ K C name=true)(O:Wm K C=true)
  (L:OQ K (.ref C) name=some none) (S:mA name=some v) (N:handedIn v=true) (h:Q v { s with toks:=s.toks+1 }) :
  wpAny (model prog w) A (getAttr (.ref x) name F) Q E s:=by
 let#[od,J,G]:=I.look;show PySem.W.get_value X J (Vm R).1 (PySem.W.findObj_own O L rfl (by rw[G,S])) N h
theorem BP{pl:RS Bool}{Q:Value×List Value->k8->Prop}(X:K.In s.heap)(I:yM s.heap x dx C mA)(F:VJ K C name=true)
  (G:OQ K (.ref C) name=some (some (.ref f))) (N:isFn K (.ref f)=true) (O:mA name=none) (h:Q (.ref f,[.ref x]) s) :
  wpAny (model prog w) A (QV (.ref x) name pl) Q E s:=by
 let#[od,J,L]:=I.look;show PySem.W.method_fn X J (Vm F).1 (Vm F).2 G (beq_iff_eq.mp N) (by change(lookIn name od).map (·.isSome)=some false;rw[L,O];rfl) h
theorem Fc{ns:W6}{Q:Unit->k8->Prop}(X:K.In s.heap)(I:yM s.heap x dx C mA)
  (hs:OQ K (.ref C) "__setattr__" = some (some (.builtin "object.__setattr__"))) (O:plainOver K C=true) (L:takerIn K C name=some none) (hh:Wm K C=true)
  (U:UL mA ns) (hsz:ns.length<=sizeLine)
  (h:∀h',yM h' x dx C (λy=>if y=name then some v else mA y)->Heap.SameBut dx s.heap h'->Q () { s with heap:=h',toks:=s.toks+2 }) :
  wpAny (model prog w) A (setAttr (.ref x) name v) Q E s:=by
 let#[od,J,hl]:=I.look;show PySem.W.set_plain X J hs (PySem.W.osa_open (s:={ s with toks:=s.toks+1 }) (r:=none) X J O L λb=>?_);let#[cd,R,N]:=PySem.W.any_some hh;let Y:s.heap.get? x=some #[.ref C,some dx,.plain, ([].toArray)]:=I.obj;show nq (wpAny_pure (nq (nq (wpAny_loadPart Y (nq (WJ (s:={ s with toks:=s.toks+1 }) (PySem.W.looks_clsIn X R) ?_))))));rw[N];show wpAny_pure (a:=some dx) (nq (wpAny_pure (nq ?_)));show wpAny_nsSet1 (s:={ s with toks:=s.toks+1 }) I.ns λh' F G=>?_;let#[oD,am,ad,ab,S,ac]:=F.count (PySem.Within.cons name v U);show nq (wpAny_lookBehind ab (by rw[S];show pastItsLine_dict (L3 ac (by rw[K4];omega))) ?_);show wpAny_pure (h _ #[(G.2 _ (ro I.ne)).trans I.obj,F,I.ne] G)
theorem Ek{R:VL->k8->Prop}{vs:W0}{F:List (Str×Value)}(X:K.In s.heap)(I:makesIn K C=true)
  (hi:OQ K (.ref C) "__init__" = some (some (.ref f))) (G:PySem.W.typeIn K (.ref f)=some (.type "function"))
  (h:Rh (model prog w) (A.under (.builtin "type.__call__" #[.ref C::vs,F])) (.call (.ref f) #[.ref (s⁻¹+1)::vs,F]) (PySem.W.InitBack (s⁻¹+1) R)
   { s with heap:=(s.heap.push emptyDict).push (instObj C s⁻¹) }) :
  Rh (model prog w) A (.call (.ref C) #[vs,F]) R s:=by
 let#[J,g,d,t,os]:=s;show PySem.W.make_core (PySem.W.makes_of X I) (Sk X hi) (λself=>PySem.W.bind_fn X self G) (.inl rfl) h
end
def bM(f:Str)(v:V):List (Str×V)->List (Str×V)
 | []=>[(f,v)]
 |(g,x)::r=>if g=f then(g,v)::r else(g,x)::bM f v r
theorem aJ(f g:Str)(v:V):∀fs:List (Str×V),(bM f v fs).lookup g=if g=f then some v else fs.lookup g
 | []=>by
  change Rc g [(f,v)]=_;cases h:g=f
  .let F:(g==f)=true:=beq_iff_eq.mpr h;simp only[Rc,F,WQ h]
  .let F:(g==f)=false:=beq_eq_false_iff_ne.mpr h;simp only[Rc,F,WO h]
 |(k,x)::r=>by
  let I:=aJ f g v r;rw[show bM f v ((k,x)::r)=(if k=f then(k,v)::r else(k,x)::bM f v r)from rfl];cases G:k=f
  .rw[WQ G];cases h:g=k
   .let F:(g==k)=true:=beq_iff_eq.mpr h;simp only[Rc,F,WQ (h.trans G)]
   .let F:(g==k)=false:=beq_eq_false_iff_ne.mpr h;simp only[Rc,F,WO (λe:g=f=>h (e.trans G.symm))]
  .rw[WO G];cases h:g=k
   .let F:(g==k)=true:=beq_iff_eq.mpr h;simp only[Rc,F,WO (λe:g=f=>G (h.symm.trans e))]
   .let F:(g==k)=false:=beq_eq_false_iff_ne.mpr h;simp only[Rc,F];show I
theorem mM(f:Str)(v:V):∀fs:List (Str×V),f∈(bM f v fs).map (·.1)/\∀g,g∈fs.map (·.1)->g∈(bM f v fs).map (·.1)
 | []=>#[by simp[bM],λg h=>by simp at h]
 |(k,x)::r=>by
  let#[G,I]:=mM f v r;rw[show bM f v ((k,x)::r)=(if k=f then(k,v)::r else(k,x)::bM f v r)from rfl];cases F:k=f
  .rw[WQ F];subst F;show#[by simp,λg h=>by simpa using h]
  .rw[WO F];show#[?_,λg h=>?_]
   .rw[Pn];show Oy _ G
   .rw[Pn]at h ⊢;rcases t7.mp h with e|e
    .show t7.mpr (.inl e)
    .show Oy _ (I g e)
theorem mV(f:Str)(v:V):∀fs:List (Str×V),(bM f v fs).length<=fs.length+1
 | []=>by simp[bM]
 |(k,x)::r=>by
  let G:=mV f v r;rw[show bM f v ((k,x)::r)=(if k=f then(k,v)::r else(k,x)::bM f v r)from rfl];cases F:k=f
  .rw[WQ F,K4,K4];omega
  .rw[WO F,K4,K4];omega
theorem gS.some_of{v:V}{o:W3}(r:gS (some v) o):∃u,o=some u/\RelV v u:=by
 cases o with
 |none=>show(show False from r).elim
 |some u=>show#[u,rfl,r]
theorem gS.none_of{o:W3}(r:gS none o):o=none:=by
 cases o with
 |none=>rfl
 |some u=>show(show False from r).elim
theorem zY{v:V}{u:Value}(r:RelV v u):handedIn u=true:=by
 cases v with
 |non=>cases(show u=Value.none from r);rfl
 |bl b=>cases(show u=Value.bool b from r);rfl
 |int i=>let#[t,e]:=(show ∃t,u=Value.int i t from r);cases e;rfl
 |str x=>let#[t,e]:=(show ∃t,u=Value.str x t from r);cases e;rfl
 |byt b=>let#[t,e]:=(show ∃t,u=Value.bytes b t from r);cases e;rfl
 |flt b=>let#[t,e]:=(show ∃t,u=Value.float b t from r);cases e;rfl
 |ref a=>cases(show u=Value.ref a from r);rfl
 |ty n=>cases(show u=Value.type n from r);rfl
section
variable{P:rn}{w:By}{H H':Hp}{h h':Heap}{a C dx:Addr}{fs fs':List (Str×V)}
theorem oj(F:j4 P w H h)(e:H a=some (.ins C dx fs)):∃mA,yM h a dx C mA/\(∀f,gS (fs.lookup f) (mA f))/\UL mA (fs.map (·.1))/\fs.length<=1000/\H dx=some (.own a):=by
 let#[d,z,ne,G,mA,n,r,q]:=(show cn P w H h a (.ins C dx fs)from F a _ e);show#[mA,#[G,n,ne],r,q,z,d]
end
structure qQ(K:HC)(C:Addr):Prop where
 pg:VJ K C Str.empty=true
 hd:Wm K C=true
 po:plainOver K C=true
 sa:OQ K (.ref C) "__setattr__" = some (some (.builtin "object.__setattr__"))
theorem qQ.get{K:HC}{C:Addr}(c:qQ K C)(f:Str):VJ K C f=true:=c.pg
def dQ(K:HC)(C:Addr)(f:Str):Prop:=OQ K (.ref C) f=some none
theorem dQ.KY{K:HC}{C:Addr}{f:Str}(n:dQ K C f):takerIn K C f=some none:=by
 unfold takerIn;rw[show OQ K (.ref C) f=some none from n];rfl
structure Meth(K:HC)(C:Addr)(m:Str)(f:Addr):Prop where
 at_:OQ K (.ref C) m=some (some (.ref f))
 fn:isFn K (.ref f)=true
 kp:To K (.ref f)=true
section
variable{X:Cx}{pins:WU}{σ:St}{H:Hp}{s:k8}{a C dx:Addr}{fs:List (Str×V)}{f:Str}{v:V}{A:Oj}{E:WV}
theorem pU{b:Bool}{Q:WV}(I: ~~~H s)(e:H a=some (.ins C dx fs))(c:qQ X.K C)(n:dQ X.K C f)(l:fs.lookup f=some v)
  (h:∀u s',~~~H s'->RelV v u->Q u s'):wpAny (model X.prog X.w) A (getAttr (.ref a) f b) Q E s:=by
 let#[mA,O,r,_,_,_]:=oj I.bV e;let#[u,F,ru]:=gS.some_of (v:=v) (o:=mA f) (by rw[<-l];show r f);show get_map I.jX O (c.get f) c.hd n F (zY ru) (h u _ (I.tok _) ru)
theorem iD{m:Str}{g:Addr}{pl:RS Bool}{Q:Value×List Value->k8->Prop}(I: ~~~H s)(e:H a=some (.ins C dx fs))(c:qQ X.K C)(k:Meth X.K C m g)(l:fs.lookup m=none)
  (h:Q (.ref g,[.ref a]) s):wpAny (model X.prog X.w) A (QV (.ref a) m pl) Q E s:=by
 let#[mA,O,r,_,_,_]:=oj I.bV e;let F:mA m=none:=gS.none_of (by rw[<-l];show r m);show BP I.jX O (c.get m) k.at_ k.fn F h
theorem o8{y:V}{u:Value}{Q:Unit->k8->Prop}(I: ~~~H s)(e:H a=some (.ins C dx fs))(c:qQ X.K C)(n:dQ X.K C f)(Y:fs.length<1000)(J:RelV y u)
  (h:∀s',~~~(upd H a (.ins C dx (bM f y fs))) s'->Q () s'):wpAny (model X.prog X.w) A (setAttr (.ref a) f u) Q E s:=by
 let#[mA,O,r,wi,_,G]:=oj I.bV e;let S:(fs.map (·.1)).length<=sizeLine:=(by rw[k9,ti];omega);show Fc I.jX O c.sa c.po n.KY c.hd wi S λh' F N=>h _ ?_;let hd:∃o,h'.get? dx=some o:=let ⟨o,_,_,L,_⟩:=F.ns;#[o,L];show I.write (x:=a) (e:=dx) (by rw[e];show Pt) (.inr G) (λb q R z=>(N.2 b R).trans z) hd ?_;show#[by rw[aj O.ne];show G,?_,O.ne,F.obj,_,F.ns,λg=>?_,λg U=>?_]
 .have:=mV f y fs;omega
 .change gS ((bM f y fs).lookup g) (if g=f then some u else mA g);rw[aJ];cases q:g=f
  .rw[WQ q,WQ q];show J
  .rw[WO q,WO q];show r g
 .by_cases q:g=f
  .rw[q];show(mM f y fs).1
  .show(mM f y fs).2 g (wi g λz=>U ?_);change(if g=f then some u else mA g)=none;rw[WO q];show z
theorem Inv.made(I: ~~~H s): ~~~(upd (upd H s⁻¹ (.own (s⁻¹+1))) (s⁻¹+1) (.ins C s⁻¹ []))
  { s with heap:=(s.heap.push emptyDict).push (instObj C s⁻¹) }:=by
 let F:(s.heap.push emptyDict).get? s⁻¹=some emptyDict:=Heap.get?_push_size s.heap rfl;let G:((s.heap.push emptyDict).push (instObj C s⁻¹)).get? (s⁻¹+1)=some (instObj C s⁻¹):=by
  have:=Heap.get?_push_size (s.heap.push emptyDict) (o:=instObj C s⁻¹) rfl
  rwa [Heap.size_push]at this
 let L:(s.heap.push emptyDict).Ns s⁻¹ (λ_=>none):=#[emptyDict, ([].toArray),_,F,rfl,(λe N=>absurd N (by simp)),λ_=>rfl];let J:=I.laid (a:=s⁻¹) (o:=.own (s⁻¹+1)) (h':=s.heap.push emptyDict) (t':=s.toks) (λb u q=>Heap.get?_push_of_some _ q) (rr _) #[_,F];show J.laid (a:=s⁻¹+1) (o:=.ins C s⁻¹ []) (t':=s.toks) (λb u q=>Heap.get?_push_of_some _ q) (UW (Heap.size_push _ _)) ?_;let ne:s⁻¹≠s⁻¹+1:=OI (SY _);show#[by rw[aj ne,ae],OC _,ne,G,λ_=>none,(Heap.Ns1.of_empty L).at λo q=>Heap.get?_push_of_some _ q,λ_=>Pt,λy O=>absurd rfl O]
theorem Fn{prog:rn}{w:By}{env:SW}{e:Ou}{f:Str}{pos:QM}{s:k8}{Q:WV}(G:QI e f env (eval e env)=eval e env)
  (h:wpAny (model prog w) A (eval e env) (λo F=>wpAny (model prog w) A (getAttr o f true) Q E F) E s):wpAny (model prog w) A (eval (.Attribute e f pos) env) Q E s :=
 Attribute_any_ h (by rw[arm_eval_Attribute,G])
end
inductive Gy(K:HC)(ta:TE)(f:Str)(Q:VK)(x:V)(H1:Hp):Prop
 |mk(a:_)(C:_)(dx:_)(fs:_)(v:_)(_:x=.ref a)(_:H1 a=some (.ins C dx fs))(_:qQ K C)(_:dQ K C f)(_:fs.lookup f=some v)(_:Q v H1)
def Fh(K:HC)(ta:TE)(f:Str):TE:=λσ H Q=>ta σ H λx H1=>Gy K ta f Q x H1
def MJ(K:HC)(ta tv:TE)(f:Str):TS:=λD σ H=>tv σ H λy H1=>ta σ H1 λx H2=>LP λa C dx fs=>Bu (x=.ref a) (H2 a=some (.ins C dx fs)) (qQ K C) (dQ K C f) (fs.length<1000) (D.nx σ (upd H2 a (.ins C dx (bM f y fs))))
def Lb(X:Cx)(F:UO)(rd:V->V->Hp->VK->Prop):Prop :=
 ∀(pins:WU)(s:k8)(σ:St)(H:Hp)(x y:V)(u v:Value)(Q:VK),~~~H s->RelV x u->RelV y v->rd x y H Q->↑(inplaceOp F u v) (EP X pins σ Q) X.xe s
def Fl(K:HC)(ta tv:TE)(rd:V->V->Hp->VK->Prop)(f:Str):TS:=λD σ H=>ta σ H λx H1=>EK λa C dx fs v=>Bu (x=.ref a) (H1 a=some (.ins C dx fs)) (qQ K C) (dQ K C f) (fs.lookup f=some v) (tv σ H1 λy H2=>rd v y H2 λz F=>∃G fs',F a=some (.ins C G fs')/\fs'.length<1000/\D.nx σ (upd F a (.ins C G (bM f z fs'))))
section
variable{X:Cx}{o e value:Ou}{f:Str}{pos pos' tpos:QM}{ta tv:TE}
theorem aI(G:PE X e ta)(L:QI e f X.env (eval e X.env)=eval e X.env):PE X (.Attribute e f pos) (Fh X.K ta f):=by
 intros Q I h;show Fn L (cp (G pins s σ H _ I h) λu U N=>?_);let#[x,H1,J,O,a,C,dx,fs,v,ex,F,c,n,l,q]:=N;subst ex;obtain rfl:u=Value.ref a:=O;show pU J F c n l λS s2 R ru=>#[v,H1,R,ru,q]
theorem gK(ha:PE X o ta)(R:PE X value tv)(hs:Rb value (some (.Attribute o f pos')) pos.line X.env=pure false):PS X (.Assign [.Attribute o f pos'] value pos) (MJ X.K ta tv f):=by
 intros D I h;show plainObj_wpAny_Assign_Attribute (cp (R pins s σ H _ I h) λu N ab=>?_) hs;let#[y,H1,G,S,q]:=ab;show cp (ha pins N σ H1 _ G q) λov s2 J=>?_;let#[x,H2,L,O,a,C,dx,fs,ex,F,c,n,l,U]:=J;subst ex;obtain rfl:ov=Value.ref a:=O;show o8 L F c n l S λs3 Y=>#[σ,_,Y,U]
theorem AL{F:UO}{rd:V->V->Hp->VK->Prop}(ha:PE X o ta)(hv:PE X value tv)(R:Lb X F rd):PS X (.AugAssign (.Attribute o f tpos) F value pos) (Fl X.K ta tv rd f):=by
 intros D I h;show wpAny_AugAssign_AttributeAny (cp (ha pins s σ H _ I h) λov s1 ab=>?_);let#[x,H1,N,rx,a,C,dx,fs,v,ex,J,c,n,l,q]:=ab;subst ex;obtain rfl:ov=Value.ref a:=rx;show pU N J c n l λu s2 Y ru=>cp (hv pins s2 σ H1 _ Y q) λL s3 S=>?_;let#[y,H2,I3,ry,G]:=S;show cp (R pins s3 σ H2 v y u L _ I3 ru ry G) λw4 s4 ac=>?_;let#[z,H3,U,rz,am,fs',ad,l',q4]:=ac;show o8 U ad c n l' rz λs5 O=>#[σ,_,O,q4]
inductive LF(x:V)(y:V)(H:Hp)(Q:VK):Prop
 |mk(i:_)(j:_)(_:x=.int i)(_:y=.int j)(_:Q (.int (i+j)) H)
theorem IS:Lb X .Add LF:=by
 rintro pins s σ H x y u v Q I G F ⟨i,j,rfl,rfl,q⟩;let#[t,rfl]:=(show ∃t,u=Value.int i t from G);let#[t',rfl]:=(show ∃t',v=Value.int j t' from F);show VA #[.int (i+j),H,I.tok _,#[0],q]
variable{pins:WU}{σ:St}{H:Hp}{s:k8}{A:Oj}{E:WV}{Q:WV}{c:Value}{b:Bool}
inductive lC(K:HC)(H:Hp):V->Value->Prop where
 |non:lC K H .non (.type "NoneType")
 |bl(x:Bool):lC K H (.bl x) (.type "bool")
 |int(i:Int):lC K H (.int i) (.type "int")
 |str(x:Str):lC K H (.str x) (.type "str")
 |flt(x:UInt64):lC K H (.flt x) (.type "float")
 |lst {a:Addr}{xs:XD}(e:H a=some (.lst xs)):lC K H (.ref a) (.type "list")
 |frz {a:Addr}{o:Obj}{xs:XD}(e:H a=some (.frz o (.lst xs))):lC K H (.ref a) (.type "list")
 |tup {a:Addr}{xs:XD}(e:H a=some (.tup xs)):lC K H (.ref a) (.type "tuple")
 |dK {a:Addr}{kvs:XE}(e:H a=some (.dK kvs)):lC K H (.ref a) (.type "dict")
 |dT {a:Addr}{kvs:List (List Key×V)}(e:H a=some (.dT kvs)):lC K H (.ref a) (.type "dict")
 |ins {a C dx:Addr}{fs:List (Str×V)}(e:H a=some (.ins C dx fs)) (cl:qQ K C) (ha:OQ K (.ref C) "__class__" = some (some (.builtin "object.__class__")))
   (hn:R0 K (.builtin "object.__class__") "__get__" = some (some (.builtin "getset_descriptor.__get__"))) (htk:TH K (.builtin "object.__class__")=some true)
   (hm:TK K C (.type "object")=some true):lC K H (.ref a) (.ref C)
theorem Bi{x:V}{u t:Value}(I: ~~~H s)(G:RelV x u)(ty:lC X.K H x t)(e:DO X.K t c=some b)(h:∀tk,Q (.bool b) { s with toks:=tk }) :
  wpAny (model X.prog X.w) A (call (.builtin "isinstance") [u,c]) Q E s:=by
 cases ty with
 |non=>cases(show u=Value.none from G);show OY PySem.W.kitx_none I.jX Pt e (λz=>nomatch z) h
 |bl y=>cases(show u=Value.bool y from G);show OY PySem.W.kitx_bool I.jX Pt e (λz=>nomatch z) h
 |int i=>let#[t,q]:=(show ∃t,u=Value.int i t from G);cases q;show OY PySem.W.kitx_int I.jX Pt e (λz=>nomatch z) h
 |str y=>let#[t,q]:=(show ∃t,u=Value.str y t from G);cases q;show OY PySem.W.kitx_str I.jX Pt e (λz=>nomatch z) h
 |flt y=>let#[t,q]:=(show ∃t,u=Value.float y t from G);cases q;show OY PySem.W.kitx_float I.jX Pt e (λz=>nomatch z) h
 | @lst a xs F =>
  cases(show u=Value.ref a from G);let#[_,_,n,_,h1]:=(show cn X.prog X.w H s.heap a (.lst xs)from I.bV a _ F);show OY kitx_list I.jX #[_,h1,rfl] e (λz=>nomatch z) h
 | @frz a R xs F =>
  cases(show u=Value.ref a from G);let#[_,_,_,n,_,h1]:=(show cn X.prog X.w H s.heap a (.frz R (.lst xs))from I.bV a _ F);show OY kitx_list I.jX #[_,h1,rfl] e (λz=>nomatch z) h
 | @tup a xs F =>
  cases(show u=Value.ref a from G);let#[_,_,_,p]:=(show cn X.prog X.w H s.heap a (.tup xs)from I.bV a _ F);let#[o,h1,h2,_]:=p;show OY kitx_tuple I.jX #[o,h1,h2] e (λz=>nomatch z) h
 | @dK a kvs F =>
  cases(show u=Value.ref a from G);let#[_,_,vs,_,p]:=(show cn X.prog X.w H s.heap a (.dK kvs)from I.bV a _ F);let#[o,es,ep,h1,h2,_]:=p;show OY kitx_dict I.jX #[o,h1,h2.1] e (λz=>nomatch z) h
 | @dT a kvs F =>
  cases(show u=Value.ref a from G);let#[_,_,xs,_,o,es,ep,h1,h2,_]:=(show cn X.prog X.w H s.heap a (.dT kvs)from I.bV a _ F);show OY kitx_dict I.jX #[o,h1,h2.1] e (λz=>nomatch z) h
 | @ins a C dx fs F cl S N L U =>
  cases(show u=Value.ref a from G);let#[mA,O,_]:=oj I.bV F;let#[od,J,_]:=O.look;show OY (PySem.W.kitx_own (cl.get _) cl.hd S N L U) I.jX J e (λz=>nomatch z) h
end
structure dG(k:Nat)(A:Oj):Prop where
 hd:A.handled=none
 dp:A.depth+3*k+5<recursionLimit
 un:A.units+16*k+200<QG
theorem dG.mono{j k:Nat}{A:Oj}(r:dG k A)(h:j<=k):dG j A:=#[r.hd,by have:=r.dp;omega,by have:=r.un;omega]
theorem dG.deeper{k:Nat}{A:Oj}(r:dG (k+1) A)(env:SW):dG k (A.deeper env):=
 #[r.hd,by have:=r.dp;change A.depth+1+3*k+5<_;omega,by have:=r.un;change A.units+3+16*k+200<_;omega]
theorem yZ{A:Oj}{C:Addr}{us:W0}{F:List (Str×Value)}:(A.under (.builtin "type.__call__" #[.ref C::us,F])).depth=A.depth+1:=by
 first|rfl|simp[UX,Code.weight,Code.isCreation,Code.isGuard,Code.isCaller,WC,UY,guardIds]
theorem yK{A:Oj}{C:Addr}{us:W0}{F:List (Str×Value)}:(A.under (.builtin "type.__call__" #[.ref C::us,F])).units=A.units+1:=by
 first|rfl|simp[UX,Code.cUnits,WC,UY]
theorem dG.make{k:Nat}{A:Oj}(r:dG (k+1) A)(C:Addr)(us:W0)(F:List (Str×Value)):dG k (A.under (.builtin "type.__call__" #[.ref C::us,F])):=
 #[r.hd,by have:=r.dp;rw[yZ];omega,by have:=r.un;rw[yK];omega]
theorem dG.depth{k:Nat}{A:Oj}(r:dG k A):A.depth<recursionLimit:=by have:=r.dp;omega
theorem dG.units{k:Nat}{A:Oj}(r:dG k A):A.units+64<QG:=by have:=r.un;omega
theorem dG.j8{k:Nat}{A:Oj}(r:dG k A):A.units<QG:=by have:=r.un;omega
def Fo:TA:=λ_ H Q=>Q [] H
def K6(ta:TE)(F:TA):TA:=λσ H Q=>ta σ H λx H1=>F σ H1 λxs H2=>Q (x::xs) H2
section
variable{X:Cx}{e:Ou}{es:XB}{te:TE}{t:TA}{pos:QM}
theorem af:PA X [] Fo:=λ_ _ _ _ H Q I h=>Calls.spliced_nil #[[],H,I,.nil,h]
theorem aa(R:PE X e te)(S:PA X es t)(hs:XF X e es:=by rfl):PA X (e::es) (K6 te t):=by
 intro pos pins s σ H Q I h;rw[hs];change wpAny _ _ (Vz ((false,eval e X.env)::backTo pos (starEach es X.env))) _ _ s;show Calls.spliced_cons (cp (R pins s σ H _ I h) λu s1 F=>?_);let#[x,H1,O,N,L]:=F;show cp (S pos pins s1 σ H1 _ O L) λus s2 U=>by let#[xs,H2,Y,G,J]:=U;show#[x::xs,H2,Y,.cons N G,J]
def Nt(t:TA):TE:=λσ H Q=>t σ H λxs H1=>xs.length<=sizeLine/\∀p,H1 p=none->Q (.ref p) (upd H1 p (.tup xs))
def Lh(t:TA):TE:=λσ H Q=>t σ H λxs H1=>xs.length<=sizeLine/\∀p,H1 p=none->Q (.ref p) (upd H1 p (.lst xs))
theorem bK{x1}(h:PA X es t):PE X (.Tuple es x1 pos) (Nt t):=by
 intros Q I J;show wpAny_Tuple_spliced (cp (h pos pins s σ H _ I J) λus F L=>?_);let#[xs,H1,G,r,z,q]:=L;show#[by rw[<-r.length];show z,?_];let N:H1 F⁻¹=none:=G.bV.fresh (rr _);show#[.ref F⁻¹,upd H1 F⁻¹ (.tup xs),G.laid (t':=F.toks) (λb u e=>Heap.get?_push_of_some _ e) (rr _) ?_,rfl,q _ N];show#[z,us,r,#[_,Heap.get?_push_size _ rfl,rfl,0]]
theorem bz(h:PA X es t):PE X (.List es pos) (Lh t):=by
 intros Q I J;show wpAny_List_spliced (cp (h pos pins s σ H _ I J) λus F N=>?_);let#[xs,H1,G,r,z,q]:=N;show#[by rw[<-r.length];show z,?_];let L:H1 F⁻¹=none:=G.bV.fresh (rr _);show#[.ref F⁻¹,upd H1 F⁻¹ (.lst xs),G.laid (t':=F.toks) (λb u e=>Heap.get?_push_of_some _ e) (rr _) ?_,rfl,q _ L];show#[z,us,(0),r,Heap.get?_push_size _ rfl]
end
abbrev Sp:=List V->Hp->VK->XK->Prop
abbrev uq:=List SW->Hp->k8->XK->Value->k8->Prop
structure yf(P:rn)(w:By)(K:HC)(mg:WW)(base:Heap)(A:Oj)(outer:XC)(s:k8)(H:Hp):Prop where
 frames:A.frames=some outer
 mod:Mod K mg base
 bs:∀b o,base.get? b=some o->s.heap.get? b=some o/\H b=none
 BO:base.objs.size<=s⁻¹
 ky:s.heap.FunFrames base outer
 Ge:∀b∈rj outer,H b=none
 bV:j4 P w H s.heap
 bare:RY s.gens
def CE(outer:XC)(P:rn)(w:By)(H:Hp)(s:k8)(Q:VK)(u:Value)(s':k8):Prop :=
 ∃v H',s'.os=s.os/\RY s'.gens/\Un (rj outer) [] H H' s.heap s'.heap/\j4 P w H' s'.heap/\RelV v u/\Q v H'
def CR(CX:uq)(outer:XC)(P:rn)(w:By)(H:Hp)(s:k8)(Q:VK)(E:XK)(r:VL)(s':k8):Prop :=
 match r with
 |.ok (.ret u)=>CE outer P w H s Q u s'
 |.ok _=>False
 |.error e=>CX outer H s E e s'
structure aX(P:rn)(w:By)(K:HC)(mg:WW)(base:Heap)(CX:uq)(k:Nat)(f:Addr)(fd:pa)(ps:W6)(sp:Sp):Prop where
 len:∀vs H Q E,sp vs H Q E->vs.length=ps.length
 run:∀(A:Oj)(outer:XC)(s:k8)(H:Hp)(args:Args)(us:W0)(vs:XD)(Q:VK)(E:XK),dG k A->yf P w K mg base A outer s H->UZ s fd args (ps.zip us)->Vals vs us->sp vs H Q E ->
  Rh (model P w) A (.call (.ref f) args) (CR CX outer P w H s Q E) s
theorem yf.make{P:rn}{w:By}{K:HC}{mg:WW}{base:Heap}{A:Oj}{outer:XC}{s:k8}{H:Hp}(e:yf P w K mg base A outer s H)(C:Addr)(us:W0)(F:List (Str×Value)) :
  yf P w K mg base (A.under (.builtin "type.__call__" #[.ref C::us,F])) outer s H:=#[by first|show e.frames|(simpa[UX,Code.envs,UY,pushEnvs]using e.frames),e.mod,e.bs,e.BO,e.ky,e.Ge,e.bV,e.bare]
section
variable{X:Cx}{pins:WU}{σ:St}{H:Hp}{s s':k8}
theorem Inv.Jx(I: ~~~H s):yf X.prog X.w X.K X.mg X.base X.A X.stack s H :=
 #[I.ok.frames,I.ok.mod,I.bs,L3 I.ok.BO I.sz,I.stack,I.uB,I.bV,I.bare]
theorem Inv.after{Q:VK}{u:Value}(I: ~~~H s)(h:CE X.stack X.prog X.w H s Q u s'):EP X pins σ Q u s':=by
 let#[v,H',os,bare,un,G,r,q]:=h;let#[J,g,d,t,F]:=s';obtain rfl:F=s.os:=os;show#[v,H',I.call (h':=J) (g':=g) (d':=d) (t':=t) (ch:=[]) un G bare (λb z=>absurd z (by simp)),r,q]
end
def Hg(sp:Sp)(dvs:XD)(E:XK)(t:TA):TE:=λσ H Q=>t σ H λvs H1=>sp (vs++dvs) H1 Q E
inductive Cq(C:Addr)(m:Str)(sp:Sp)(dvs:XD)(E:XK)(ta:TE)(t:TA)(σ:St)(Q:VK)(x:V)(H1:Hp):Prop
 |mk (a:_) (dx:_) (fs:_) (_:x=.ref a) (_:H1 a=some (.ins C dx fs)) (_:fs.lookup m=none) (_:t σ H1 λvs H2=>sp (x::(vs++dvs)) H2 Q E):Cq C m sp dvs E ta t σ Q x H1
def zB(C:Addr)(m:Str)(sp:Sp)(dvs:XD)(E:XK)(ta:TE)(t:TA):TE:=λσ H Q=>ta σ H λx H1=>Cq C m sp dvs E ta t σ Q x H1
def Gu(C:Addr)(sp:Sp)(dvs:XD)(E:XK)(t:TA):TE:=λσ H Q=>t σ H λvs H1=>∀x dx,H1 x=none->H1 dx=none->dx≠x ->
 sp (.ref x::(vs++dvs)) (upd (upd H1 dx (.own x)) x (.ins C dx [])) (λv H2=>v=.non/\Q (.ref x) H2) E
def Binds(K:HC)(fd:pa)(ps:W6)(ds:W0):Prop :=
 ∀(s:k8)(us:W0),K.In s.heap->(us++ds).length=ps.length->UZ s fd #[us,[]] (ps.zip (us++ds))
theorem Binds.all{K:HC}{fd:pa}{ps:W6}(h:∀us:List Value,us.length=ps.length->VM fd #[us,[]]=pure (ps.zip us)):Binds K fd ps []:=λs us _ F=>by
 rw[UB]at F ⊢;show .of_eq (h us F)
def Passes(CX:uq)(X:Cx)(E:XK):Prop:=∀(pins:WU)(σ:St)(H:Hp)(s:k8)(e:Value)(s':k8),~~~H s->CX X.stack H s E e s'->X.xe e s'
section
variable{X:Cx}{CX:uq}{k:Nat}{f C:Addr}{fd:pa}{ps:W6}{sp:Sp}{dvs:XD}{ds:W0}{E:XK}{x m:Str}{p pos apos:QM}{e o:Ou}{es:XB}{ta:TE}{t:TA}
theorem xy{pins:WU}{σ:St}{H:Hp}{s:k8}{Q:VK}{us:W0}{vs:XD}(F:aX X.prog X.w X.K X.mg X.base CX k f fd ps sp)(S:dG k X.A)(O:Binds X.K fd ps ds)(hd:Vals dvs ds)(R:Passes CX X E)
  (I: ~~~H s) (r:Vals vs us) (h:sp (vs++dvs) H Q E):↑(call (.ref f) us) (EP X pins σ Q) X.xe s:=by
 let J:Vals (vs++dvs) (us++ds):=r.append hd;let L:(us++ds).length=ps.length:=(by rw[<-J.length];show F.len _ _ _ _ h);show Sl (Sa (F.run X.A X.stack s H #[us,[]] (us++ds) (vs++dvs) Q E S I.Jx (O s us I.jX L) J h) λr s' G=>?_);cases r with
 |error e=>show R pins σ H s e s' I G
 |ok N =>
  cases N with
  |ret u=>show I.after G
  |next=>show Ph G
  |brk=>show Ph G
  |cont=>show Ph G
theorem E9(F:aX X.prog X.w X.K X.mg X.base CX k f fd ps sp)(Y:dG k X.A)(hg:Gl X x)(hm:X.mg x=some (.ref f))(J:To X.K (.ref f)=true)(R:Binds X.K fd ps ds)(hd:Vals dvs ds)(S:Passes CX X E)
  (U:PA X (e::es) t) (ab:(x==("__debug__" : Str))=false:=by decide) (L:XF X e es:=by rfl) (N:(backTo pos (starEach es X.env)).any (·.1)=false:=by rfl) :
  PE X (.Call (.Name x p) (e::es) [] pos) (Hg sp dvs E t):=by
 intros Q I h;show P5 (iI I hg hm ?_ ab);show Sm (h₀:=X.base) I.ok.mod.ES J (cp (U pos pins s σ H _ I h) λus s1 O=>?_) L N;let#[vs,H1,G,r,q]:=O;show#[G.jX,?_];show xy F Y R hd S G r q
theorem FV{pl:RS Bool}(he:PE X o ta)(c:qQ X.K C)(L:Meth X.K C m f)(F:aX X.prog X.w X.K X.mg X.base CX k f fd ps sp)(hr:dG k X.A)(hb:Binds X.K fd ps ds)(hd:Vals dvs ds)(R:Passes CX X E)(ha:PA X (e::es) t)
  (ac:XF X e es:=by rfl) (Y:(backTo pos (starEach es X.env)).any (·.1)=false:=by rfl)
  (N:eval (.Call (.Attribute o m apos) (e::es) [] pos) X.env=(do
   let ov <-eval o X.env
   RZ apos.atName
   let (f,first) <-QU [ov] (QV ov m pl)
   Sn pos f first (backTo pos (starEach (e::es) X.env)) (Q1 pos (P2 [] X.env))):=by rfl) :
  PE X (.Call (.Attribute o m apos) (e::es) [] pos) (zB C m sp dvs E ta t):=by
 intros Q I h;show RE (pl:=pl) (cp (he pins s σ H _ I h) λu U S=>?_) N;let#[x,H1,G,rx,a,dx,fs,ex,O,l,q]:=S;subst ex;obtain rfl:u=Value.ref a:=rx;show iD G O c L l ?_;show Sm (first:=[.ref a]) (h₀:=X.base) I.ok.mod.ES L.kp (cp (ha pos pins U σ H1 _ G q) λus s2 ab=>?_) ac Y;let#[vs,H2,J,r,q2]:=ab;show#[J.jX,?_];show xy (us:=.ref a::us) (vs:=.ref a::vs) F hr hb hd R J (.cons rfl r) q2
theorem Ci{pl:RS Bool}(O:PE X o ta)(c:qQ X.K C)(J:Meth X.K C m f)(F:aX X.prog X.w X.K X.mg X.base CX k f fd ps sp)(U:dG k X.A)(R:Binds X.K fd ps ds)(hd:Vals dvs ds)(S:Passes CX X E)
  (L:eval (.Call (.Attribute o m apos) [] [] pos) X.env=(do
   let ov <-eval o X.env
   RZ apos.atName
   let (f,first) <-QU [ov] (QV ov m pl)
   Sn pos f first (backTo pos (starEach [] X.env)) (Q1 pos (P2 [] X.env))):=by rfl) :
  PE X (.Call (.Attribute o m apos) [] [] pos) (zB C m sp dvs E ta Fo):=by
 intros Q I h;show RE (pl:=pl) (cp (O pins s σ H _ I h) λu s1 Y=>?_) L;let#[x,H1,G,rx,a,dx,fs,ex,N,l,q]:=Y;subst ex;obtain rfl:u=Value.ref a:=rx;show iD G N c J l ?_;show callWith_K0 (first:=[.ref a]) G.jX J.kp (xy (us:=[.ref a]) (vs:=[.ref a]) F U R hd S G (.cons rfl .nil) q)
structure Mk(K:HC)(C f:Addr):Prop where
 makes:makesIn K C=true
 init:OQ K (.ref C) "__init__" = some (some (.ref f))
 fn:isFn K (.ref f)=true
 kp:To K (.ref C)=true
theorem vO{pins:WU}{σ:St}{H:Hp}{s:k8}{Q:VK}{us:W0}{vs:XD}(M:Mk X.K C f)(F:aX X.prog X.w X.K X.mg X.base CX k f fd ps sp)(hr:dG (k+1) X.A)(S:Binds X.K fd ps ds)(hd:Vals dvs ds)
  (R:Passes CX X E) (I: ~~~H s) (r:Vals vs us)
  (h:∀x dx,H x=none->H dx=none->dx≠x->sp (.ref x::(vs++dvs)) (upd (upd H dx (.own x)) x (.ins C dx [])) (λv H2=>v=.non/\Q (.ref x) H2) E) :
  ↑(call (.ref C) us) (EP X pins σ Q) X.xe s:=by
 let N:=h (s⁻¹+1) s⁻¹ (I.bV.fresh (RG _)) (I.bV.fresh (rr _)) (OI (SY _));let J:=Inv.made (C:=C) I;let L:Vals (V.ref (s⁻¹+1)::(vs++dvs)) (Value.ref (s⁻¹+1)::(us++ds)):=.cons rfl (r.append hd);let Y:(Value.ref (s⁻¹+1)::us++ds).length=ps.length:=by
  let e:=L.length;rw[F.len _ _ _ _ N]at e;show e.symm
 show Sl (Ek (f:=f) I.jX M.makes M.init (beq_iff_eq.mp M.fn) (Sa (F.run _ X.stack _ _ #[Value.ref (s⁻¹+1)::us,[]] (Value.ref (s⁻¹+1)::(us++ds)) _ _ E (hr.make C us [])
  (J.Jx.make C us []) (S _ (Value.ref (s⁻¹+1)::us) J.jX Y) L N) λr s' G=>?_))
 cases r with
 |error e=>show R pins σ _ _ e s' J G
 |ok U =>
  cases U with
  |ret u =>
   let#[v,H',I3,rv,ev,O]:=J.after G;subst ev;show#[rv,#[V.ref (s⁻¹+1),H',I3,rfl,O]]
  |next=>show Ph G
  |brk=>show Ph G
  |cont=>show Ph G
theorem oz(M:Mk X.K C f)(F:aX X.prog X.w X.K X.mg X.base CX k f fd ps sp)(U:dG (k+1) X.A)(hg:Gl X x)(Y:X.mg x=some (.ref C))(N:Binds X.K fd ps ds)(hd:Vals dvs ds)(R:Passes CX X E)
  (S:PA X (e::es) t) (ab:(x==("__debug__" : Str))=false:=by decide) (J:XF X e es:=by rfl) (L:(backTo pos (starEach es X.env)).any (·.1)=false:=by rfl) :
  PE X (.Call (.Name x p) (e::es) [] pos) (Gu C sp dvs E t):=by
 intros Q I h;show P5 (iI I hg Y ?_ ab);show Sm (h₀:=X.base) I.ok.mod.ES M.kp (cp (S pos pins s σ H _ I h) λus s1 O=>?_) J L;let#[vs,H1,G,r,q]:=O;show#[G.jX,?_];show vO M F U N hd R G r q
theorem vF(M:Mk X.K C f)(F:aX X.prog X.w X.K X.mg X.base CX k f fd ps sp)(J:dG (k+1) X.A)(N:Gl X x)(L:X.mg x=some (.ref C))(O:Binds X.K fd ps ds)(hd:Vals dvs ds)(G:Passes CX X E)
  (R:(x==("__debug__" : Str))=false:=by decide):PE X (.Call (.Name x p) [] [] pos) (Gu C sp dvs E Fo):=by
 intros Q I h;show P5 (iI I N L ?_ R);show callWith_K0 I.jX M.kp (vO (us:=[]) M F J O hd G I .nil h)
variable{ks:W6}{kpos:QM}{kws:List Uh}{te:TE}{tk:TA}{nm:Option Str}
variable{g:List Value->List Value->List Value}{gV:List V->List V->List V}
end
structure aE(N P:W6)(sc:Sf):Prop where
 kind:sc.kind=.function
 co:sc.isCoroutine=false
 gen:sc.isGenerator=false
 nd:N.Nodup
 pre:N.take P.length=P
 par:∀x∈P,sc.names.lookup x=some .local\/sc.names.lookup x=some .cell
 Iy:∀y∈sc.names,y.2≠.free
theorem bW{N P:W6}{F:Sf}(a:F.kind=.function:=by exact rfl)(b:F.isCoroutine=false:=by exact rfl)(c:F.isGenerator=false:=by exact rfl)(d:N.Nodup:=by decide +kernel)(e:N.take P.length=P:=by exact rfl)(f:∀x∈P,F.names.lookup x=some .local\/F.names.lookup x=some .cell:=by decide +kernel)(g:∀y∈F.names,y.2≠.free:=by decide +kernel):aE N P F:=#[a,b,c,d,e,f,g]
theorem r6{kindOf:Str->Option NameKind}{x:Str}:∀{binds:List (Str×Value)}{m:WW},(∀v,(x,v)∉binds)->VN kindOf binds m x=m x
 | [],_,_=>rfl
 |(n,v)::r,m,h=>by
  unfold VN;rw[r6 λw F=>h w (Oy _ F)];split
  .have:x≠n:=(by rintro rfl;show h v OA);simp[this]
  .rfl
theorem rV{kindOf:Str->Option NameKind}{x:Str}:∀{binds:List (Str×Value)}{m:WW},(∀v,(x,v)∉binds)->VO kindOf binds m x=m x
 | [],_,_=>rfl
 |(n,v)::r,m,h=>by
  unfold VO;rw[rV λw F=>h w (Oy _ F)];split
  .rfl
  .have:x≠n:=(by rintro rfl;show h v OA);simp[this]
theorem sE{kindOf:Str->Option NameKind}{x:Str}{v:Value}:∀{P:W6}{vs:W0}{i:Nat}{m:WW},P.Nodup->P[i]?=some x->vs[i]?=some v->kindOf x=some .local ->
  VN kindOf (P.zip vs) m x=some v
 | [],_,_,_,_,h,_,_=>by simp at h
 |_::_,[],_,_,_,_,h,_=>by simp at h
 |p::P,w::vs,0,m,G,h1,h2,F=>by
  simp at h1 h2;subst h1;subst h2;change VN kindOf ((p,w)::P.zip vs) m p=_;unfold VN;rw[r6 λv I=>(Ot.mp G).1 (VP I).1,WQ F];simp
 |p::P,w::vs,i+1,m,G,h1,h2,F=>by
  change VN kindOf ((p,w)::P.zip vs) m x=_;unfold VN;show sE (i:=i) (Ot.mp G).2 ‹h1› ‹h2› F
theorem rL{kindOf:Str->Option NameKind}{x:Str}{v:Value}:∀{P:W6}{vs:W0}{i:Nat}{m:WW},P.Nodup->P[i]?=some x->vs[i]?=some v->kindOf x≠some .local ->
  VO kindOf (P.zip vs) m x=some v
 | [],_,_,_,_,h,_,_=>by simp at h
 |_::_,[],_,_,_,_,h,_=>by simp at h
 |p::P,w::vs,0,m,G,h1,h2,F=>by
  simp at h1 h2;subst h1;subst h2;change VO kindOf ((p,w)::P.zip vs) m p=_;unfold VO;rw[rV λv I=>(Ot.mp G).1 (VP I).1,WO F];simp
 |p::P,w::vs,i+1,m,G,h1,h2,F=>by
  change VO kindOf ((p,w)::P.zip vs) m x=_;unfold VO;show rL (i:=i) (Ot.mp G).2 ‹h1› ‹h2› F
def start(N:W6)(vs:XD):St:=vs.map some++replicate (N.length-vs.length) none
def sJ(CX:uq)(P:rn)(w:By)(K:HC)(mg:WW)(base:Heap)(N:W6)(F:Str)(scope:Sf)(f:Addr)(cd:Value)(A:Oj)(outer:XC)(s:k8)(H:Hp)(E:XK):Cx where
 prog:=P
 w:=w
 K:=K
 mg:=mg
 base:=base
 A:=A.deeper (So F scope s⁻¹ f cd)
 N:=N
 s₀:=s
 H₀:=H
 env:=So F scope s⁻¹ f cd
 outer:=outer
 stack:=So F scope s⁻¹ f cd::outer
 ex:=[]
 calm:=true
 fn:=λ_=>true
 pn:=[]
 xe:=λe s'=>wpAny (model P w) (A.deeper (So F scope s⁻¹ f cd)) (leaving (So F scope s⁻¹ f cd) e) (λ_ G=>CX outer H s E e G) (λI G=>CX outer H s E I G) s'
theorem vm{F:Sf}{n:Nat}{x:Str}(h:F.names.lookup x=some .cell):∃c,(Wn n F.names []).lookup x=some c:=by
 let q:=Tp F.names n [] (.inl h);show Qi.mp q
theorem zT{CX:uq}{P:rn}{w:By}{K:HC}{mg:WW}{base:Heap}{N ps:W6}{J:Str}{scope:Sf}{f:Addr}{cd:Value}{A:Oj}{outer:XC}{s O:k8}{H:Hp}{E:XK}{us:W0}{vs:XD}
  (S:aE N ps scope) (hd:A.handled=none) (F:yf P w K mg base A outer s H) (hl:vs.length=ps.length) (r:Vals vs us)
  (x:InCallC s s⁻¹ (VN (So J scope s⁻¹ f cd).kindOf (ps.zip us) λ_=>none) (Wn (s⁻¹+1) scope.names []) (VO (So J scope s⁻¹ f cd).kindOf (ps.zip us) λ_=>none) O) :
  Inv (sJ CX P w K mg base N J scope f cd A outer s H E) [] (start N vs) H O:=by
 let ab:ps.length<=N.length:=(by have:=congrArg PR S.pre;rw[Om]at this;omega);let#[h1,tk,rfl,R]:=x.done;let L:∀b:Addr,b∉(sJ CX P w K mg base N J scope f cd A outer s H E).ex:=λb z=>absurd (show b∈([]:W7)from z) (by simp);show#[#[F.mod,S.kind,1,rr _,λy z c h1 h2=>?_,λy G=>?_,λy c _ h=>?_,λ_=>hd,Around.frames_deeper F.frames,.inr #[1],λb z=>absurd z (L b),F.bs,F.BO,λb _ _=>L b,λb z=>absurd z (L b),F.ky,F.Ge],
  rfl,F.bare,Un.kept R,#[_,x.toInCall.ns,λi y v h1 h2 h3=>?_],λy c h=>#[_,x.cell y c h],F.bV.fresh (rr _),λy c h=>?_,λp I=>absurd (show p∈([]:WU)from I) (by simp),F.bV.kept R,?_]
 .show name_of_addr x.apart (Pw h1) (Pw h2)
 .let G:scope.names.lookup y=some .cell\/scope.names.lookup y=some .free:=G;rcases G with G|G
  .show vm G
  .show absurd rfl (S.Iy _ (Pw G))
 .show VG (x.above y c (Pw h))
 .let hi:i<vs.length:=by
   unfold start at h2;cases hi:i<vs.length
   .show hi
   .rw[PF ‹hi›]at h2;rw[List.getElem?_replicate]at h2;split at h2<;>cases h2
  let ha:vs[i]?=some v:=by
   unfold start at h2;rw[Qc ‹hi›,t4]at h2;cases e:vs[i]? with
   |none=>rwa[e]at h2
   |some a=>rwa[e]at h2;rfl
  let#[u,U,rv]:=r.get ha;let I:ps[i]?=some y:=by
   rw[<-S.pre,List.getElem?_take_of_lt ag];show h1
  let Y:ps.Nodup:=(by rw[<-S.pre];show S.nd.sublist (QW _ _));show#[u,rv,?_];rcases S.par y (wh I)with k|k
  .show .inl #[k,sE Y I U k]
  .let#[c,e]:=vm (n:=s⁻¹+1) k;show .inr #[.inl k,c,e,?_];let q:=x.cell y c e;rw[rL Y I U (by change scope.names.lookup y≠_;rw[k];decide)]at q;show q
 .show F.bV.fresh (VG (x.above y c (Pw h)))
 .unfold start;change _=N.length;rw[G1,k9,OS];omega
theorem GY{CX:uq}{P:rn}{w:By}{K:HC}{mg:WW}{base:Heap}{k:Nat}{f:Addr}{name G:Str}{ab:Arguments}{body:List Oz}{scope:Sf}{dV kV ac pm F ct oc:Value}{an od:W4}
  {aD:Array (Option Value)}{N ps:W6}{sp:Sp}(lk:K.lookup f=some #[oc,od,.func (Ws name G ab body scope dV kV ac pm an F ct),aD]) (am:Wt K F G=true) (S:aE N ps scope)
  (len:∀vs H Q E,sp vs H Q E->vs.length=ps.length)
  (as:∀(A:Oj)(outer:XC)(s:k8)(H:Hp)(vs:XD)(Q:VK)(E:XK),dG k (A.deeper (So G scope s⁻¹ f F))->sp vs H Q E ->
   ∃t,wI (sJ CX P w K mg base N G scope f F A outer s H E) body t/\t { nx:=λ_ H'=>Q .non H',rt:=Q } (start N vs) H) :
  aX P w K mg base CX (k+1) f (Ws name G ab body scope dV kV ac pm an F ct) ps sp:=by
 show#[len,λA outer s H args us vs Q E U L hb r Y=>?_];let hl:=len _ _ _ _ Y;let KX:K.In s.heap:=L.mod.ES.keeps λb o e=>(L.bs b o e).1;let ap:s.heap.NoLimit:=L.mod.nolimit.keeps λb o e=>(L.bs b o e).1;let aT:∀y∈ps.zip us,scope.names.lookup y.1=some .local\/(scope.names.lookup y.1=some .cell/\((Wn (s⁻¹+1) scope.names []).lookup y.1).isSome=true):=λaB hy=>by
  let#[n,v]:=aB;rcases S.par n (VP hy).1 with q|q
  .show .inl q
  .show .inr #[q,Tp _ _ _ (.inl q)]
 show codeAny_call_function U.depth (KX _ _ lk) rfl S.co S.gen rfl (PySem.W.codeRec_of KX am) (hb _ _ _ _ ?_);show wpAny_newFunctionEnv_cells S.kind aT λenv he s1 x=>?_;subst he;show#[ap.keeps x.toInCall.keep,codeAny_func ?_];let#[t,ht,hq]:=as A outer s H vs Q E (U.deeper _) Y;let I:Inv (sJ CX P w K mg base N G scope f F A outer s H E) [] (start N vs) H s1:=zT S U.hd L hl r x;show OG (ht [] s1 (start N vs) H _ I hq) (λfl s' hs=>?_) λe s' hs=>hs;let ad:∀{O:St}{H':Hp}{v:V}{u:Value},Inv (sJ CX P w K mg base N G scope f F A outer s H E) [] O H' s'->RelV v u->Q v H'->CE outer P w H s Q u s' :=
  λ{O H' v u} J R q=>#[v,H',J.os,J.bare,J.base,J.bV,R,q]
 cases fl with
 |ret u =>
  let#[v,O,H',J,R,q]:=hs;show ad J R q
 |next =>
  let#[O,H',J,q]:=hs;show ad (v:=V.non) (u:=Value.none) J rfl q
 |brk =>
  let#[_,_,_,q]:=hs;show Ph q
 |cont =>
  let#[_,_,_,q]:=hs;show Ph q
section
variable{X:Cx}{x:Str}{p pos:QM}{e:Ou}{es:XB}{t:TA}{id T:String}{r:List V->Hp->VK->Prop}
def NJ(r:List V->Hp->VK->Prop)(t:TA):TE:=λσ H Q=>t σ H λvs H1=>r vs H1 Q
theorem aL(J:dS X (.builtin id) r)(Y:Gl X x)(S:X.mg x=none)(hv:OE x=some (.builtin id))(R:PA X (e::es) t)(hn:x ≠ "__name__" := by decide)(ab:(x==("__debug__" : Str))=false:=by decide)
  (G:XF X e es:=by rfl) (L:(backTo pos (starEach es X.env)).any (·.1)=false:=by rfl):PE X (.Call (.Name x p) (e::es) [] pos) (NJ r t):=by
 intros Q I h;show P5 (jj I Y S hv ?_ hn ab);show PyProof.Rows.callWith_builtin1 (cp (R pos pins s σ H _ I h) λus N U=>by let#[vs,H1,O,r1,F]:=U;show J pins N σ H1 vs us Q O r1 F) G L
theorem bU(J:dS X (.type T) r)(Y:Gl X x)(U:X.mg x=none)(hv:OE x=some (.type T))(R:PA X (e::es) t)(hn:x ≠ "__name__" := by decide)(ab:(x==("__debug__" : Str))=false:=by decide)
  (G:XF X e es:=by rfl) (L:(backTo pos (starEach es X.env)).any (·.1)=false:=by rfl):PE X (.Call (.Name x p) (e::es) [] pos) (NJ r t):=by
 intros Q I h;show P5 (jj I Y U hv ?_ hn ab);show Pe (cp (R pos pins s σ H _ I h) λus N S=>by let#[vs,H1,O,r1,F]:=S;show J pins N σ H1 vs us Q O r1 F) G L
end
end L2
namespace HT
open PySem PyProof.Rows
section
open PySem.SeqAt
open PySem.AutoSeq1 (wpAny_loadPart')
open PySem.MeetsSeq PySem.MeetsSeq2 PySem.MeetsSeq3
variable{prog:rn}{w:By}{A:Oj}{E:WV}{s:k8}
def dY(n d:Nat):Option Int->Nat
 |none=>d
 |some v=>if v<0 then(v+(n:Int)).toNat else min v.toNat n
theorem nZ(n d k:Nat):dY n d (some (k:Int))=min k n:=by
 change(if (k:Int)<0 then((k:Int)+(n:Int)).toNat else min (k:Int).toNat n)=min k n;rw[WO ag,Qj]
theorem Hs(n d:Nat)(hd:d<=n)(o:W8):dY n d o<=n:=by
 cases o with
 |none=>show hd
 |some v =>
  change(if v<0 then(v+(n:Int)).toNat else min v.toNat n)<=n;cases F:v<0
  .rw[WQ F];omega
  .rw[WO F];show Nat.min_le_right _ _
theorem zt(v:Int)(n d:Nat):(if v<0 then max (v+(n:Int)) 0 else min v (n:Int))=((dY n d (some v):Nat):Int):=by
 change(if v<0 then max (v+(n:Int)) 0 else min v (n:Int))=(((if v<0 then(v+(n:Int)).toNat else min v.toNat n):Nat):Int);cases F:v<0
 .simp only[WQ F];omega
 .simp only[WO F];omega
theorem yI(lo hi:W8)(n:Nat):Builtin.Slice.sliceAdjust lo hi 1 (n:Int)=(((dY n 0 lo:Nat):Int),((dY n n hi:Nat):Int)):=by
 let h1:¬ ((1:Int)<0):=ag;unfold Builtin.Slice.sliceAdjust;simp only[h1,if_false];show U0 ?_ ?_
 .cases lo with
  |none=>rfl
  |some v=>show zt v n 0
 .cases hi with
  |none=>rfl
  |some v=>show zt v n n
theorem yl(i j:Nat):Builtin.Slice.slicePlaces (i:Int) (j:Int) 1=j-i:=by
 unfold Builtin.Slice.slicePlaces;let h1:(1:Int)>0:=ag;simp only[h1,if_true,Int.ediv_one];split<;>omega
theorem pZ{v:Value}{o:W8}{Q:Option Int->k8->Prop}(p:Tq v o)(h:Q o s):wpAny (model prog w) A (Builtin.Slice.slicePartIndex v) Q E s:=by
 cases p with
 |none=>show slicePart_none h
 |int i t=>show slicePart_int h
theorem ip{sl:Addr}{J F:Value}{lo hi:W8}{n:Nat}{Q:Int×Int×Nat->k8->Prop}(hs:s.heap.IsSliceOf sl J F .none)(pl:Tq J lo)(L:Tq F hi)
  (h:Q (((dY n 0 lo:Nat):Int),1,dY n n hi-dY n 0 lo) s):wpAny (model prog w) A (Builtin.Slice.sliceApplied (.ref sl) (pure (n:Int))) Q E s:=by
 let#[os,G,N,I]:=id hs;unfold Builtin.Slice.sliceApplied Builtin.Slice.sliceFields;show nq (nq (RM G I (x:=J) rfl (nq (RM G I (x:=F) rfl (nq (RM G I (x:=.none) rfl (wpAny_pure ?_)))))));show nq (slicePart_none ?_);change wpAny _ _ (if ((1:Int)==0)=true then _ else _) _ _ s;rw[WO ao];show nq (pZ pl (nq (pZ L (nq (wpAny_pure ?_)))));change wpAny _ _ (match Builtin.Slice.sliceAdjust lo hi 1 (n:Int)with|(lo,hi)=>pure (lo,(1:Int),Builtin.Slice.slicePlaces lo hi 1)) _ _ s;rw[yI lo hi n];change wpAny _ _ (pure (((dY n 0 lo:Nat):Int),(1:Int),Builtin.Slice.slicePlaces ((dY n 0 lo:Nat):Int) ((dY n n hi:Nat):Int) 1)) _ _ s;rw[yl];show wpAny_pure h
theorem B9(xs:WZ)(i k:Nat):((Ox k).filterMap λ(m:Nat)=>xs[((i:Int)+(m:Int)*1).toNat]?).toArray=((xs.toList.drop i).take k).toArray:=by
 let e:(λ(m:Nat)=>xs[((i:Int)+(m:Int)*1).toNat]?)=λm=>xs[i+m]?:=by
  funext m;have:((i:Int)+(m:Int)*1).toNat=i+m:=ag;rw[this]
 rw[e];have:=pick_run xs i k;rw[List.filterMap_map]at this;let F:((λx=>xs[x]?)∘λx=>i+x)=λm=>xs[i+m]?:=rfl;rw[F]at this;rw[this]
theorem lD{t sl:Addr}{items:WZ}{I J:Value}{lo hi:W8}{Q:WV}(F:IsTup s.heap t items)(hs:s.heap.IsSliceOf sl I J .none)(pl:Tq I lo)(L:Tq J hi)
  (O:¬ (dY items.size 0 lo=0/\dY items.size items.size hi=items.size))
  (h:Q (.ref s⁻¹) { s with heap:=s.heap.push { cls:=.type "tuple",data:=.seq ((items.toList.drop (dY items.size 0 lo)).take (dY items.size items.size hi-dY items.size 0 lo)).toArray } })
  (hsz:items.size<=sizeLine):wpAny (model prog w) A (RD (.ref t) (.ref sl)) Q E s:=by
 let G:sizeOk (.seq ((items.toList.drop (dY items.size 0 lo)).take (dY items.size items.size hi-dY items.size 0 lo)).toArray):=by
  change((items.toList.drop (dY items.size 0 lo)).take (dY items.size items.size hi-dY items.size 0 lo)).toArray.size<=sizeLine;rw[qs,Om,P4,Pk];omega
 let hj:dY items.size items.size hi<=items.size:=Hs _ _ (rr _) hi;let#[os,N,U,ab]:=id hs;let S:s.TypeIs (.ref sl) "slice" := #[os,N,U];unfold RD
 try with_reducible show Pm ?_
 first|show nq (wpAny_pure ?_)|skip
 show nq (U1 F.typeIs ao ?_);show nq (S0 (name:=Str.ofString "__getitem__") F.typeIs ON
  (QX ON F.typeIs Um ?_ (UC _ _)))
 change wpAny _ _ (Builtin.Tuple.tupleItemsOf (.ref t)>>=_) _ _ s;show nq (tupleItemsOf_ F ?_);show nq (Tr S ?_);rw[WQ ao];show nq (ip hs pl L ?_);let R:¬ ((((dY items.size 0 lo:Nat):Int)==0&&(1:Int)==1&&(dY items.size items.size hi-dY items.size 0 lo)==items.size)=true):=by
  intro q;rw[Qp,Qp]at q;let Y:((dY items.size 0 lo:Nat):Int)=0:=eq_of_beq q.1.1;let q2:dY items.size items.size hi-dY items.size 0 lo=items.size:=eq_of_beq q.2;show O #[ag,ag]
 change wpAny _ _ (if (((dY items.size 0 lo:Nat):Int)==0&&(1:Int)==1&&(dY items.size items.size hi-dY items.size 0 lo)==items.size)=true then _ else _) _ _ s;rw[WO R,B9]
 first
  |show nq (m:=Builtin.Tuple.tupleExact _) (Qa (wpAny_pure #[0,wpAny_pure h]) G)
  |show nq (m:=Builtin.Tuple.tupleExact _) (Qa (nq (wpAny_pure (wpAny_pure #[0,wpAny_pure h]))) G)
  |show nq (nq (m:=Builtin.Tuple.tupleExact _) (Qa (wpAny_pure (wpAny_pure #[0,wpAny_pure h])) G))
  |show nq (nq (m:=Builtin.Tuple.tupleExact _) (Qa (wpAny_pure #[0,wpAny_pure h]) G))
end
end HT
namespace L2
open PySem PySem.Spec PyProof.Rows
abbrev TO:=St->Hp->(Option Int->Hp->Prop)->Prop
def PO(X:Cx)(e:Option Ou)(t:TO):Prop :=
 ∀(pins:WU)(s:k8)(σ:St)(H:Hp)(Q:Option Int->Hp->Prop),~~~H s->t σ H Q ->
  ↑(evalPart e X.env) (λu s'=>∃o H',~~~H' s'/\Tq u o/\Q o H') X.xe s
def E1:TO:=λ_ H Q=>Q none H
def K9(t:TE):TO:=λσ H Q=>t σ H λx H1=>∃i,x=.int i/\Q (some i) H1
theorem intsAre_of{ns:W5}:∀{us:W0},Vals (ns.map V.int) us->QY us ns:=by
 induction ns with
 |nil=>intro us r;rwa[VB]at r;show .nil
 |cons n ns I =>
  intro us r;rw[Pn]at r;cases r with
  |cons G F =>
   let#[t,e]:=G;subst e;show .cons n t (I F)
section
variable{X:Cx}{e:Ou}{te:TE}{lo hi:Option Ou}{tl th:TO}{pos p2:QM}
theorem fw:PO X none E1:=by
 intros Q I h;rw[evalPart_none];show wpAny_pure #[none,H,I,.none,h]
theorem de(h:PE X e te):PO X (some e) (K9 te):=by
 intros Q I J;rw[evalPart_some];show cp (h pins s σ H _ I J) λu O L=>?_;let#[x,H1,G,N,F]:=L;let#[i,rfl,q]:=F;let#[t,rfl]:=N;show#[some i,H1,G,.int i t,q]
def Ln(X:Cx)(r:V->Option Int->Option Int->Hp->VK->Prop):Prop :=
 ∀(pins:WU)(s:k8)(σ:St)(H:Hp)(x:V)(v G F:Value)(lo hi:W8)(sl:Addr)(Q:VK),~~~H s->RelV x v->s.heap.IsSliceOf sl G F .none->Tq G lo->Tq F hi->r x lo hi H Q ->
  ∃T id,VQ (.type T) "__getitem__" = pure (some (.builtin id))/\s.TypeIs v T/\↑(RD v (.ref sl)) (EP X pins σ Q) X.xe s
def N4(r:V->Option Int->Option Int->Hp->VK->Prop)(te:TE)(tl th:TO):TE:=λσ H Q=>te σ H λx H1=>tl σ H1 λl H2=>th σ H2 λu F=>r x l u F Q
theorem cZ{r:V->Option Int->Option Int->Hp->VK->Prop}(hr:Ln X r)(he:PE X e te)(N:PO X lo tl)(hu:PO X hi th):PE X (.Subscript e (.Slice lo hi none p2) pos) (N4 r te tl th):=by
 intros Q I h;show VR (cp (he pins s σ H _ I h) λv s1 ab=>?_);let#[x,H1,U,r1,S]:=ab;show wpAny_Slice (cp (N pins s1 σ H1 _ U S) λG s2 ad=>?_);let#[l,H2,I2,pl,q2]:=ad;show cp (hu pins s2 σ H2 _ I2 q2) λJ F ac=>?_;let#[u,L,I3,pu,O]:=ac;rw[evalPart_none];show wpAny_pure ?_;let I4: ~~~L { F with heap:=F.heap.push { cls:=.type "slice",data:=.fields ([G,J,.none].toArray) } }:=I3.kept (t':=F.toks) λb ob q=>Heap.get?_push_of_some _ q;let#[T,id,Y,R,hg]:=hr pins { F with heap:=F.heap.push { cls:=.type "slice",data:=.fields ([G,J,.none].toArray) } } σ L x v G J l u F⁻¹ Q I4 r1 (Heap.IsSliceOf.new ..) pl pu O;change ↑(Us e (.Slice lo hi none p2) v (.ref F⁻¹)) (EP X pins σ Q) X.xe { F with heap:=F.heap.push { cls:=.type "slice",data:=.fields ([G,J,.none].toArray) } };show tail_any (ops:=[.ref F⁻¹,v]) R Y hg (by with_unfolding_all rfl)
def gv(xs:XD)(lo hi:W8):List V:=(xs.drop (HT.dY xs.length 0 lo)).take (HT.dY xs.length xs.length hi-HT.dY xs.length 0 lo)
theorem mU(xs:XD)(lo hi:W8):(gv xs lo hi).length<=xs.length:=by
 unfold gv;rw[Om,P4];omega
inductive JV(K:HC)(x:V)(lo:W8)(hi:W8)(H:Hp)(Q:VK):Prop
 |mk(a:_)(xs:_)(_:x=.ref a)(_:cu K H a xs)(_:¬ (HT.dY xs.length 0 lo=0/\HT.dY xs.length xs.length hi=xs.length))(_:∀p,H p=none->Q (.ref p) (upd H p (.tup (gv xs lo hi))))
theorem Jo:Ln X (JV X.K):=by
 intros x v S U lo hi sl Q I R hs pl L h;let#[a,xs,rfl,O,N,q]:=h;cases R;let#[its,r,G,J]:=I.tuple O;let F:its.toArray.size=xs.length:=(by rw[qs];show r.length.symm);show#["tuple",_,ON.lookup,G.typeIs,?_];show HT.lD G hs pl L (by rw[F];show N) ?_ (by rw[F];show J);rw[F];show#[.ref s⁻¹,_,I.laid (t':=s.toks) (o:=.tup (gv xs lo hi)) (λb Y q=>Heap.get?_push_of_some _ q) (rr _) ?_,rfl,q _ (I.bV.fresh (rr _))];show#[L3 (mU xs lo hi) J,_,(r.drop (HT.dY xs.length 0 lo)).take (HT.dY xs.length xs.length hi-HT.dY xs.length 0 lo),Wk _ _]
end
def zi(n:Nat)(i:Int):Option Nat:=if 0<=i then(if i<n then some i.toNat else none)else if -(n:Int)<=i then some (i+n).toNat else none
def xA{α:Type}(xs:List α)(i:Int):Option α:=(zi xs.length i).bind λj=>xs[j]?
theorem zM{n:Nat}{i:Int}{j:Nat}(h:zi n i=some j):Wo i n=some j/\j<n /\ -(n:Int)<=i/\i<n:=by
 unfold zi at h;cases F:0<=i
 .rw[WQ F]at h;cases h1:i<n
  .rw[WQ h1]at h;let e:i.toNat=j:=sS h;show#[by rw[SJ F h1,e],ag,ag,h1]
  .rw[WO h1]at h;cases h
 .rw[WO F]at h;by_cases h1 : -(n:Int)<=i
  .rw[WQ h1]at h;let e:(i+n).toNat=j:=sS h;show#[by rw[seqIndex_neg ag h1,e],ag,h1,ag]
  .rw[WO h1]at h;cases h
theorem tH{α:Type}{xs:List α}{i:Int}{v:α}(h:xA xs i=some v):∃j,Wo i xs.length=some j/\xs[j]?=some v/\j<xs.length /\ -(xs.length:Int)<=i/\i<xs.length:=by
 unfold xA at h;cases e:zi xs.length i with
 |none=>rwa[e]at h
 |some j =>
  rw[e]at h;let#[h1,h2,F,G]:=zM e;show#[j,h1,h,h2,F,G]
theorem jT{α:Type}{xs:List α}{j:Nat}{v:α}(h:xs[j]?=some v):xA xs (j:Int)=some v:=by
 let F:j<xs.length:=(mu.mp h).1;let e:zi xs.length (j:Int)=some j:=by
  unfold zi;rw[WQ ag,WQ ag];simp
 unfold xA;rw[e];show h
def FD(b:Ou):Prop:=∀o i,TZ b false o i=operate [o,i] (RD o i)
def LS(X:Cx)(r:R2):Prop :=
 ∀(value F:Ou)(pins:WU)(s:k8)(σ:St)(H:Hp)(x y:V)(v u:Value)(Q:VK),~~~H s->RelV x v->RelV y u->r x y H Q ->
  TZ F false v u=operate [v,u] (RD v u)->↑(Us value F v u) (EP X pins σ Q) X.xe s
def NS(X:Cx)(id:String)(r:V->List V->Hp->VK->Prop):Prop :=
 ∀(pins:WU)(s:k8)(σ:St)(H:Hp)(x:V)(xs:XD)(v:Value)(us:W0)(Q:VK),~~~H s->RelV x v->Vals xs us->r x xs H Q ->
  ↑(call (.builtin id) (v::us)) (EP X pins σ Q) X.xe s
section
variable{X:Cx}{a b:Ou}{ta tb:TE}{pos:QM}
theorem aS{r:R2}(L:LS X r)(J:PE X a ta)(G:PE X b tb)(hs:FD b):PE X (.Subscript a b pos) (EL r ta tb):=by
 intros Q I h;show VR (IB J G I h λv u s2 x y H2 N O F q=>L a b pins s2 σ H2 x y v u Q N O F q (hs _ _))
inductive Fx(K:HC)(x:V)(y:V)(H:Hp)(Q:VK):Prop
 |mk(p:_)(xs:_)(i:_)(v:_)(_:x=.ref p)(_:y=.int i)(_:bD K H p xs)(_:xA xs i=some v)(_:Q v H)
inductive KL(K:HC)(x:V)(y:V)(H:Hp)(Q:VK):Prop
 |mk(p:_)(xs:_)(i:_)(v:_)(_:x=.ref p)(_:y=.int i)(_:cu K H p xs)(_:xA xs i=some v)(_:Q v H)
theorem bX:LS X (Fx X.K):=by
 intro value ab pins s σ H x y v u Q I U Y h hs;let#[p,xs,i,z,rfl,rfl,R,he,q]:=h;cases U;let#[t,rfl]:=Y;let#[its,r,pl,hz]:=I.list R;let#[j,h1,h2,h3,h4,N]:=tH he;let#[w,G,S]:=r.get h2;let O:=r.length;let hn:=qy;let J:EP X pins σ Q w s:=#[z,H,I,S,q];cases L:0<=i
 .let F:i.toNat=j:=by
   rw[SJ L N]at h1;show sS h1
  show item_listR pl.isList L ag (by rw[F];simpa using G) J hs
 .let F:(i+(its.toArray.size:Int)).toNat=j:=by
   rw[seqIndex_neg ag h4]at h1;rw[qs, <-O];show sS h1
  show Ts (x:=w) pl.isList.typeIs U2.lookup
   (Tt (Q:=λr s'=>r=w/\EP X pins σ Q r s') pl.isList ag (by rw[qs]<;>omega) ag (by rw[F];simpa using G) #[rfl,J]) hs
theorem bw:LS X (KL X.K):=by
 intro value ab pins s σ H x y v u Q I L N h hs;let#[p,xs,i,z,rfl,rfl,G,O,q]:=h;cases L;let#[t,rfl]:=N;let#[its,r,pl,hz]:=I.tuple G;let#[j,h1,h2,Y,h4,U]:=tH O;let#[w,R,J]:=r.get h2;let F:=r.length;let hn:=qy;let S:EP X pins σ Q w s:=#[z,H,I,J,q];show Ts (x:=w) pl.typeIs ON.lookup
  (getItem_tuple (j:=j) (Q:=λr s'=>r=w/\EP X pins σ Q r s') pl ag ag (by rw[qs, <-F];show h1) ‹R› #[rfl,S]) hs
theorem xi(its:W0)(n j:Nat)(u:Value):Obj.mapSeq (·.setIfInBounds j u) { cls:=.type "list",data:=.seq its.toArray n }={ cls:=.type "list",data:=.seq (its.set j u).toArray n }:=by
 simp[Obj.mapSeq]
theorem Inv.lst{pins:WU}{σ:St}{H:Hp}{s:k8}{p:Addr}{xs:XD}(I: ~~~H s)(h:H p=some (.lst xs)) :
  ∃(its:W0)(n:Nat),Vals xs its/\s.heap.get? p=some { cls:=.type "list",data:=.seq its.toArray n }/\xs.length<=sizeLine:=by
 let#[z,its,n,r,e]:=I.bV p _ h;show#[its,n,r,e,z]
theorem Inv.Jk{pins:WU}{σ:St}{H:Hp}{s:k8}{p:Addr}{xs ys:XD}{its its':W0}{n F:Nat}{f:Obj->Obj}(I: ~~~H s)(h:H p=some (.lst xs))
  (N:s.heap.get? p=some { cls:=.type "list",data:=.seq its.toArray n }) (G:f { cls:=.type "list",data:=.seq its.toArray n }={ cls:=.type "list",data:=.seq its'.toArray F }) (r:Vals ys its') (J:ys.length<=sizeLine) (t:Nat) :
  ~~~(upd H p (.lst ys)) { s with heap:=s.heap.update p f,toks:=t }:=by
 let e:(s.heap.update p f).get? p=some { cls:=.type "list",data:=.seq its'.toArray F }:=by
  rw[Heap.get?_update_self f N (by rw[G]<;>rfl),G]
 show I.write (x:=p) (e:=p) (by rw[h];trivial) (.inl rfl) (λb u L q=>(Heap.get?_update_other _ _ (ro L)).trans q) #[_,e] ?_;show#[J,its',F,r,e]
inductive GB(o:V)(i:V)(v:V)(H:Hp)(Q:(Hp->Prop)):Prop
 |mk(p:_)(xs:_)(k:_)(j:_)(_:o=.ref p)(_:i=.int k)(_:H p=some (.lst xs))(_:zi xs.length k=some j)(_:Q (upd H p (.lst (xs.set j v))))
theorem set_list:FA X GB:=by
 intros o i v ov iv u Q I U ri Y h;let#[p,xs,k,j,rfl,rfl,O,hj,q]:=h;cases U;let#[t,rfl]:=ri;let#[its,n,r,G,hz]:=I.lst O;let#[h1,h2,L,R]:=zM hj;let F:=r.length;let hn:=qy;let N: ~~~(upd H p (.lst (xs.set j v))) { s with heap:=s.heap.update p (Obj.mapSeq (·.setIfInBounds j u)) }:=
  I.Jk O G (xi its n j u) (r.set Y j) (by rw[OR];show hz) s.toks
 cases S:0<=k
 .let J:k.toNat=j:=by
   rw[SJ S R]at h1;show sS h1
  show PySem.W.ki_setAt G S ag (by rw[qs, <-F];show R) (by rw[J];show#[_,N,q])
 .let J:(k+(its.toArray.size:Int)).toNat=j:=by
   rw[seqIndex_neg ag L]at h1;rw[qs, <-F];show sS h1
  show PySem.W.ki_setBack G ag (by rw[qs, <-F];show L) ag (by rw[J];show#[_,N,q])
theorem tD(lo hi:W8)(n:Nat):(Rf lo hi none n).1=((HT.dY n 0 lo:Nat):Int)/\(Rf lo hi none n).2.1=((HT.dY n n hi:Nat):Int)/\(Rf lo hi none n).2.2=1:=by
 show#[3,rfl]
 .cases lo with
  |none=>simp[Rf,HT.dY]
  |some i =>
   simp only[Rf,HT.dY,getD_none,show(1:Int)>0 by decide,if_true];cases h:i<0
   .simp only[h,if_true]<;>omega
   .simp only[h,if_false]<;>omega
 .cases hi with
  |none=>simp[Rf,HT.dY]
  |some i =>
   simp only[Rf,HT.dY,getD_none,show(1:Int)>0 by decide,if_true];cases h:i<0
   .simp only[h,if_true]<;>omega
   .simp only[h,if_false]<;>omega
theorem qX(its:W0)(lo hi:W8):slicePick its.toArray lo hi none=((its.drop (HT.dY its.length 0 lo)).take (HT.dY its.length its.length hi-HT.dY its.length 0 lo)).toArray:=by
 let#[h1,h2,F]:=tD lo hi its.toArray.size;unfold slicePick;rw[h1,h2,F];simp only[sliceRange_one,pick_run,qs]<;>rfl
inductive JA(K:HC)(x:V)(lo:W8)(hi:W8)(H:Hp)(Q:VK):Prop
 |mk(a:_)(xs:_)(_:x=.ref a)(_:bD K H a xs)(_:∀p,H p=none->Q (.ref p) (upd H p (.lst (gv xs lo hi))))
theorem gD:Ln X (JA X.K):=by
 intros x v R S lo hi sl Q I O hs pl G h;let#[a,xs,rfl,L,q]:=h;cases O;let#[its,r,F,J]:=I.list L;let N:=r.length;show#["list",_,U2.lookup,F.isList.typeIs,?_];show wpAny_getItem_list_slice F.isList hs pl G .none (by simp) ?_ (by rw[qs]<;>omega);rw[qX, <-N];show#[.ref s⁻¹,_,I.laid (t':=s.toks) (o:=.lst (gv xs lo hi)) (λb U q=>Heap.get?_push_of_some _ q) (rr _) ?_,rfl,q _ (I.bV.fresh (rr _))];show#[L3 (mU xs lo hi) J,_,(0),(r.drop (HT.dY xs.length 0 lo)).take (HT.dY xs.length xs.length hi-HT.dY xs.length 0 lo),Heap.get?_push_size _ rfl]
def eK:V->Bool
 |.non=>true
 |.bl _=>true
 |.int _=>true
 |.str _=>true
 |_=>false
def ny:V->V->Bool
 |.non,.non=>true
 |.bl a,.bl b=>a==b
 |.bl a,.int b=>(if a then 1 else 0)==b
 |.int a,.bl b=>a==(if b then 1 else 0)
 |.int a,.int b=>a==b
 |.str a,.str b=>a==b
 |_,_=>false
theorem oV{A:Oj}{s:k8}{y x:V}{u v:Value}(G:RelV y u)(F:RelV x v)(J:eK y=true)(I:eK x=true):Qk A s u v (ny y x):=by
 cases y with
 |non =>
  cases G;cases x with
  |non=>cases F;show Vp _
  |bl b=>cases F;show SeqAt.EqAt.none_bool b
  |int b=>let#[t,rfl]:=F;show SeqAt.EqAt.none_int b t
  |str b=>let#[t,rfl]:=F;show SeqAt.EqAt.none_str b t
  |_=>show absurd (show false=true from I) vl
 |bl a =>
  cases G;cases x with
  |non=>cases F;show SeqAt.EqAt.bool_none a
  |bl b=>cases F;show SeqAt.EqAt.bool_bool a b
  |int b=>let#[t,rfl]:=F;show SeqAt.EqAt.bool_int a b t
  |str b=>let#[t,rfl]:=F;show SeqAt.EqAt.bool_str a b t
  |_=>show absurd (show false=true from I) vl
 |int a =>
  let#[t',rfl]:=G;cases x with
  |non=>cases F;show SeqAt.EqAt.int_none a t'
  |bl b=>cases F;show SeqAt.EqAt.int_bool a t' b
  |int b=>let#[t,rfl]:=F;show SeqAt.EqAt.int_int a t' b t
  |str b=>let#[t,rfl]:=F;show Ux a t' b t
  |_=>show absurd (show false=true from I) vl
 |str a =>
  let#[t',rfl]:=G;cases x with
  |non=>cases F;show SeqAt.EqAt.str_none a t'
  |bl b=>cases F;show SeqAt.EqAt.str_bool a t' b
  |int b=>let#[t,rfl]:=F;show Uy a t' b t
  |str b=>let#[t,rfl]:=F;show SeqAt.EqAt.str_str a t' b t
  |_=>show absurd (show false=true from I) vl
 |_=>show absurd (show false=true from J) vl
def wQ(x:V)(u:Value):Bool:=match u with
 |.none=>ny .non x
 |.bool b=>ny (.bl b) x
 |.int i _=>ny (.int i) x
 |.str z _=>ny (.str z) x
 |_=>false
theorem B4{x y:V}{u:Value}(r:RelV y u)(f:eK y=true):wQ x u=ny y x:=by
 cases y with
 |non=>cases r;rfl
 |bl b=>cases r;rfl
 |int i=>let#[t,rfl]:=r;rfl
 |str z=>let#[t,rfl]:=r;rfl
 |_=>show absurd (show false=true from f) vl
theorem kX{x:V}:∀{xs:XD}{us:W0},Vals xs us->xs.all eK=true->us.any (wQ x)=xs.any λy=>ny y x
 |_,_,.nil,_=>rfl
 |y::xs,u::us,.cons r t,f=>by
  rw[all_cons,Qp]at f;rw[T8,T8,B4 r f.1,kX t f.2]
theorem jq{A:Oj}{s:k8}{x:V}{v:Value}(I:RelV x v)(G:eK x=true):∀{xs:XD}{us:W0},Vals xs us->xs.all eK=true->∀u∈us,Qk A s u v (wQ x u)
 |_,_,.nil,_=>λu F=>by cases F
 |y::xs,u::us,.cons r t,f=>λJ F=>by
  rw[all_cons,Qp]at f;rcases t7.mp F with rfl|F
  .rw[B4 r f.1];show oV r I f.1 G
  .show jq I G t f.2 J F
def IV(x:V)(xs:XD):Bool:=xs.any λy=>ny y x
inductive Nc(K:HC)(neg:Bool)(x:V)(y:V)(H:Hp)(Q:VK):Prop
 |mk(p:_)(xs:_)(_:y=.ref p)(_:(bD K H p xs\/cu K H p xs))(_:eK x=true)(_:xs.all eK=true)(_:Q (.bl (if neg then !IV x xs else IV x xs)) H)
theorem rO:mh X (Pq .In) (Nc X.K false):=by
 intros x y v u Q I L N h;let#[p,xs,rfl,F,J,fs,q]:=h;cases N;rcases F with F|F
 .let#[its,r,pl,O]:=I.list F;show SeqAt.in_listAt (wQ x) pl.isList (λw G=>jq L J r fs w ‹G›) #[.bl _,H,I,5];rw[show its.toArray.any (wQ x)=its.any (wQ x)by simp,kX r fs];show q
 .let#[its,r,pl,O]:=I.tuple F;show SeqAt.in_tupleAt (wQ x) pl (λw G=>jq L J r fs w ‹G›) #[.bl _,H,I,5];rw[show its.toArray.any (wQ x)=its.any (wQ x)by simp,kX r fs];show q
theorem iR:mh X (Pq .NotIn) (Nc X.K true):=by
 intros x y v u Q I L N h;let#[p,xs,rfl,F,J,fs,q]:=h;cases N;rcases F with F|F
 .let#[its,r,pl,O]:=I.list F;show SeqAt.notIn_listAt (wQ x) pl.isList (λw G=>jq L J r fs w ‹G›) #[.bl _,H,I,5];rw[show its.toArray.any (wQ x)=its.any (wQ x)by simp,kX r fs];show q
 .let#[its,r,pl,O]:=I.tuple F;show SeqAt.notIn_tupleAt (wQ x) pl (λw G=>jq L J r fs w ‹G›) #[.bl _,H,I,5];rw[show its.toArray.any (wQ x)=its.any (wQ x)by simp,kX r fs];show q
theorem bu:dS X (.builtin "len") (λxs H Q=>∃p ys,xs=[.ref p]/\(bD X.K H p ys\/cu X.K H p ys)/\Q (.int ys.length) H):=by
 intros xs us Q I r h;let#[p,ys,rfl,F,q]:=h;let#[u,rfl,N]:=vals1 r;cases N;let O:=qy;rcases F with F|F
 .let#[its,G,pl,L]:=I.list F;let J:=G.length;show Calls.call_len_list pl.isList (by simp only[qs]<;>omega) #[.int ys.length,H,I.tok _,#[s.toks+1,by rw[qs,J]],q]
 .let#[its,G,pl,L]:=I.tuple F;let J:=G.length;show len_tuple pl (by simp only[qs]<;>omega) #[.int ys.length,H,I.tok _,#[s.toks+1,by rw[qs,J]],q]
theorem dE:dS X (.type "list") (λxs H Q=>∃p ys,xs=[.ref p]/\(bD X.K H p ys\/cu X.K H p ys)/\∀l,H l=none->Q (.ref l) (upd H l (.lst ys))):=by
 intros xs us Q I r h;let#[p,ys,rfl,J,q]:=h;let#[u,rfl,Y]:=vals1 r;cases Y;let S:∀(its:W0),Vals ys its->ys.length<=sizeLine->∀(h':Heap)(F:Nat),(∀b o',s.heap.get? b=some o'->h'.get? b=some o') ->
   h'.get? s⁻¹=some { cls:=.type "list",dict:=none,data:=.seq its.toArray F,slots := ([].toArray) }->EP X pins σ Q (.ref s⁻¹) { s with heap:=h' }:=λits G N h' F L e =>
  #[.ref s⁻¹,_,I.laid (t':=s.toks) L (rr _) (show cn X.prog X.w _ h' _ (.lst ys)from#[N,its,F,G,e]),rfl,q _ (I.bV.fresh (rr _))]
 rcases J with J|J
 .let#[its,G,pl,N]:=I.list J;let U:=G.length;let#[o,O,R,n,hd]:=pl.isList;show call_list_seq p (.inl rfl) O R hd (λh' F L e=>S its G N h' F L e) (by simp only[qs]<;>omega)
 .let#[its,G,pl,N]:=I.tuple J;let U:=G.length;let#[o,O,R,n,hd]:=pl;show call_list_seq p (.inr rfl) O R hd (λh' F L e=>S its G N h' F L e) (by simp only[qs]<;>omega)
theorem qU:dS X (.type "tuple") (λxs H Q=>∃p ys,xs=[.ref p]/\((bD X.K H p ys/\∀l,H l=none->Q (.ref l) (upd H l (.tup ys)))\/(cu X.K H p ys/\Q (.ref p) H))):=by
 intros xs us Q I r h;let#[p,ys,rfl,h]:=h;let#[u,rfl,N]:=vals1 r;cases N;rcases h with⟨G,q⟩|⟨G,q⟩
 .let#[its,F,pl,L]:=I.list G;let S:=F.length;show call_tuple_list pl.isList (λh' O=>?_) (by simp only[qs]<;>omega);let J: ~~~H { s with heap:=h' }:=I.kept (t':=s.toks) O;let R: ~~~(upd H h'.objs.size (.tup ys)) { s with heap:=h'.push { cls:=.type "tuple",data:=.seq its.toArray } }:=
   J.laid (t':=s.toks) (λb o e=>Heap.get?_push_of_some _ e) (rr _) (show cn X.prog X.w _ _ _ (.tup ys)from#[L,its,F,Wk _ _])
  show#[.ref h'.objs.size,_,R,rfl,q _ (J.bV.fresh (rr _))]
 .let#[its,F,pl,L]:=I.tuple G;show call_tuple_same pl #[.ref p,H,I,rfl,q]
def NQ(K:HC)(T:String)(x:V)(H:Hp):Prop:=match x with
 |.str _=>T = "str"
 |.int _=>T = "int"
 |.ref p=>(T = "list" /\ ∃xs,bD K H p xs)\/(T = "tuple" /\ ∃o,K.lookup p=some o/\o.cls=.type "tuple" /\ o.dict=none) \/
   (T = "dict" /\ ((∃kvs,H p=some (.dK kvs))\/∃kvs,H p=some (.dT kvs)))\/(T = "set" /\ ∃S n,H p=some (.set S n))
 |_=>False
theorem Ig{pins:WU}{σ:St}{H:Hp}{s:k8}{T:String}{x:V}{v:Value}(I: ~~~H s)(r:RelV x v)(ty:NQ X.K T x H) :
  s.TypeIs v T/\∀a,v=.ref a->∃J,s.heap.get? a=some J/\J.dict=none:=by
 cases x with
 |str z =>
  let#[t,rfl]:=r;cases(show T = "str" from ty);show#[typeIs_str s z t,λ_ e=>nomatch e]
 |int i =>
  let#[t,rfl]:=r;cases(show T = "int" from ty);show#[VS s i t,λ_ e=>nomatch e]
 |ref p =>
  cases r;rcases ty with⟨rfl,xs,L⟩|⟨rfl,o,F,N,hd⟩|⟨rfl,F⟩|⟨rfl,S,n,F⟩
  .let#[its,_,pl,_]:=I.list L;show#[pl.isList.typeIs,λa e=>?_];cases e;let#[o,n,e,c,hd,_]:=pl;show#[o,e,hd]
  .show#[#[o,I.jX p o F,N],λa e=>?_];cases e;show#[o,I.jX _ o F,hd]
  .let z:∃o,s.heap.get? p=some o/\o.ExactDict:=by
    rcases F with⟨kvs,F⟩|⟨kvs,F⟩
    .let#[_,_,_,_,o,_,_,e,ex,_]:=I.bV p _ F;show#[o,e,ex]
    .let#[_,_,_,_,o,_,_,e,ex,_]:=I.bV p _ F;show#[o,e,ex]
   let#[o,e,ex]:=z;show#[#[o,e,ex.1],λa G=>?_];cases G;show#[o,e,ex.2.1]
  .let#[o,_,_,_,e,ex,_]:=I.bV p _ F;show#[#[o,e,ex.1],λa G=>?_];cases G;show#[o,e,ex.2.1]
 |_=>show Ph ty
def N9(K:HC)(T:String)(r:V->List V->Hp->VK->Prop)(to:TE)(t:TA):TE:=λσ H Q=>to σ H λx H1=>NQ K T x H1/\t σ H1 λxs H2=>r x xs H2 Q
variable{o e:Ou}{es:XB}{to:TE}{t:TA}{name:Str}{apos cpos:QM}{T id:String}{r:V->List V->Hp->VK->Prop}
theorem hU(U:PlainAttrs T)(slot:Slot T name id)(ad:Vd (.builtin id)=pure (.type "method_descriptor"))(hm:NS X id r)(Y:PE X o to)(ha:PA X (e::es) t)
  (am:QI o name X.env (eval o X.env)=eval o X.env:=by rfl)
  (ab:((backTo cpos (starEach (e::es) X.env)).all (λx => !x.1)&&(Q1 cpos (P2 [] X.env)).all (λx=>x.1.isSome)
   && decide ((e::es).length+([]:List Uh).length+(if ([]:List Uh).isEmpty then 0 else 1)<30))=true:=by rfl)
  (S:(apos.endLine==cpos.line)=true:=by rfl) (hs:XF X e es:=by rfl) (R:(backTo cpos (starEach es X.env)).any (·.1)=false:=by rfl) :
  PE X (.Call (.Attribute o name apos) (e::es) [] cpos) (N9 X.K T r to t):=by
 intros Q I h;show wpAny_Call_method_late am ab S rfl (cp (Y pins s σ H _ I h) λv s1 ac=>?_);let#[x,H1,F,G,ty,O]:=ac;let#[h1,h2]:=Ig F G ty;show#[T,id,U,slot,ad,h1,h2,?_];let J:=ha cpos pins s1 σ H1 _ F O;rw[hs]at J ⊢;show Calls.callWith_builtin (by change(false||(backTo cpos (starEach es X.env)).any (·.1))=false;rw[R]<;>rfl) (Calls.evalArgs_plain ?_);show cp J λus s2 L=>by let#[vs,H2,I2,N,q2]:=L;show hm pins s2 σ H2 x vs v us Q I2 G N q2
end
def IG(X:Cx)(id:String)(r:V->List V->Hp->VK->Prop):Prop :=
 ∀(pins:WU)(s:k8)(σ:St)(H:Hp)(x:V)(xs:XD)(v:Value)(us:W0)(Q:VK),~~~H s->RelV x v->Vals xs us->r x xs H Q ->
  ↑(call (.builtin id) (v::us)) (EP X pins σ Q) X.xe s
theorem Vals.one:∀{x:V}{us:W0},Vals [x] us->∃u,us=[u]/\RelV x u
 |_,_,.cons r .nil=>#[0,r]
theorem Vals.eraseIdx:∀{xs:XD}{us:W0}(i:Nat),Vals xs us->Vals (xs.eraseIdx i) (us.eraseIdx i)
 |_,_,_,.nil=>.nil
 |_,_,0,.cons _ t=>t
 |_,_,i+1,.cons r t=>.cons r (Vals.eraseIdx i t)
theorem Vals.rep{xs:XD}{us:W0}(h:Vals xs us):∀k:Nat,Vals (replicate k xs).flatten (replicate k us).flatten
 |0=>.nil
 |k+1=>by
  rw[PU,PU,Ri,Ri];show Vals.append h (Vals.rep h k)
theorem rS{α:Type}:∀(l:List α)(i:Nat),(l.eraseIdx i).length<=l.length
 | [],_=>rr _
 |_::_,0=>RG _
 |_::r,i+1=>Nat.succ_le_succ (rS r i)
theorem foldl_rep(its:W0):∀(k:Nat)(F:W0),
  foldl (λG J=>G++J) F.toArray (replicate k its.toArray)=(F++(replicate k its).flatten).toArray
 |0,F=>by simp
 |k+1,F=>by
  let e:F.toArray++its.toArray=(F++its).toArray:=(by simp);let I:(F++its)++(replicate k its).flatten=F++(replicate (k+1) its).flatten:=by
   rw[PU,Ri,OO]
  rw[<-I, <-foldl_rep its k (F++its), <-e,PU,List.foldl_cons]
section
variable{X:Cx}{pins:WU}{σ:St}{H:Hp}{s:k8}{l b:Addr}{xs ys zs:XD}
theorem Inv.Fb{its its':W0}{n:Nat}{f:Array Value->Array Value}{t':Nat}(I: ~~~H s)(G:H l=some (.lst xs))
  (e:s.heap.get? l=some { cls:=.type "list",data:=.seq its.toArray n }) (N:f its.toArray=its'.toArray) (O:Vals ys its') (L:ys.length<=sizeLine) :
  ~~~(upd H l (.lst ys)) { s with heap:=s.heap.update l (Obj.mapSeq f),toks:=t' }:=by
 let q:=Rv e f;rw[N]at q;show I.write (x:=l) (e:=l) (by rw[G];show trivial) (.inl rfl) (λR u J F=>(Heap.get?_update_other s.heap (Obj.mapSeq f) (ro J)).trans F) #[_,q] ?_;show#[L,its',_,O,q]
theorem Inv.J6{its:W0}{t':Nat}(I: ~~~H s)(G:Vals ys its)(F:ys.length<=sizeLine) :
  ~~~(upd H s⁻¹ (.lst ys)) { s with heap:=s.heap.push { cls:=.type "list",data:=.seq its.toArray },toks:=t' }:=
 I.laid (λ_ _ q=>Heap.get?_push_of_some _ q) (rr _) #[F,its,(0),G,Heap.get?_push_size _ rfl]
theorem Inv.fresh(I: ~~~H s):H s⁻¹=none:=I.bV.fresh (rr _)
theorem Inv.qr(I: ~~~H s)(F:H l=some (.lst xs)):xs.length<=sizeLine/\∃(its:W0)(n:Nat),Vals xs its/\xs.length=its.length/\s.heap.get? l=some { cls:=.type "list",data:=.seq its.toArray n }:=by
 let#[z,its,n,r,e]:=I.bV l _ F;show#[z,its,n,r,r.length,e]
theorem vW{n:Nat}(h:n<=sizeLine):Builtin.List.listTooLong n=false:=by
 unfold Builtin.List.listTooLong;show decide_eq_false ag
inductive y4(x:V)(vs:XD)(H:Hp)(Q:VK):Prop
 |mk(l:_)(xs:_)(y:_)(_:x=.ref l)(_:vs=[y])(_:H l=some (.lst xs))(_:xs.length<sizeLine)(_:Q .non (upd H l (.lst (xs++[y]))))
theorem jI:IG X "list.append" y4:=by
 intros x vs v us Q I L J h;let#[l,xs,y,rfl,rfl,G,O,q]:=h;cases L;let#[u,rfl,ru]:=J.one;let#[z,its,n,r,N,e]:=I.qr G;show Ra F.slot_list_append #[_,e,rfl] F.entry_list_append (F.args_list_append_2 _ _) (list_append l its.toArray n u (by rw[qs];omega)) #[e,?_];show#[.non,_,I.Fb (its':=its++[u]) G e (by simp) (r.append (.cons ru .nil)) ?_,rfl,q];rw[G1,OT];omega
inductive zq(x:V)(vs:XD)(H:Hp)(Q:VK):Prop
 |mk(l:_)(b:_)(xs:_)(zs:_)(_:x=.ref l)(_:vs=[.ref b])(_:H l=some (.lst xs))(_:H b=some (.lst zs))(_:xs.length+zs.length<=sizeLine)(_:Q .non (upd H l (.lst (xs++zs))))
theorem sk:IG X "list.extend" zq:=by
 intros x vs v us Q I Y U h;let#[l,b,xs,zs,rfl,rfl,J,S,hz,q]:=h;cases Y;let#[u,rfl,ru]:=U.one;cases ru;let#[z,its,n,r,hl,e]:=I.qr J;let#[z2,G,N,R,ab,L]:=I.qr S;let hsz:its.toArray.size+G.toArray.size<=sizeLine:=(by rw[qs,qs];omega);let O:¬ (!its.toArray.isEmpty&&Builtin.List.listTooLong (its.toArray.size+G.toArray.size))=true:=by
  rw[vW hsz,T9];show vl
 show Ra F.slot_list_extend #[_,e,rfl] F.entry_list_extend (F.args_list_extend_2 _ _)
  (AutoSeq1.list_extend_list_list_0 l its.toArray n b G.toArray N O (by rw[qs];omega) ag) #[e,L,?_]
 show#[.non,_,I.Fb (its':=its++G) J e (by simp) (r.append R) ?_,rfl,q];rw[G1];omega
inductive Eu(x:V)(vs:XD)(H:Hp)(Q:VK):Prop
 |mk(l:_)(xs:_)(i:_)(k:_)(y:_)(_:x=.ref l)(_:vs=[.int i])(_:H l=some (.lst xs))(_ : -(2^63)<=i)(_:i<2^63)(_:Wo i xs.length=some k)(_:xs[k]?=some y)(_:Q y (upd H l (.lst (xs.eraseIdx k))))
theorem BU:IG X "list.pop" Eu:=by
 intros x vs v us Q I U O h;let#[l,xs,i,k,y,rfl,rfl,G,h1,h2,J,R,q]:=h;cases U;let#[u,rfl,ru]:=O.one;let#[t,rfl]:=ru;let#[z,its,n,r,L,e]:=I.qr G;let#[w,N,S]:=r.get R;show Ra F.slot_list_pop #[_,e,rfl] F.entry_list_pop (F.args_list_pop_2 _ _)
  (MeetsSeq.list_pop_at l its.toArray n i t k w (fitsIndex_both h1 h2) (by rw[qs, <-L];show J) (by rw[<-Px];show N) (by rw[qs];omega)) #[e,?_]
 show#[y,_,I.Fb (its':=its.eraseIdx k) G e ?_ (r.eraseIdx k) ?_,S,q]
 .change its.toArray.eraseIdxIfInBounds k=(its.eraseIdx k).toArray;rw[Rq]
 .have:=rS xs k;omega
inductive Lg(x:V)(y:V)(H:Hp)(Q:VK):Prop
 |mk(l:_)(b:_)(xs:_)(zs:_)(_:x=.ref l)(_:y=.ref b)(_:H l=some (.lst xs))(_:H b=some (.lst zs))(_:xs.length+zs.length<=sizeLine)(_:∀p,H p=none->Q (.ref p) (upd H p (.lst (xs++zs))))
theorem fK:mh X (RL .Add) Lg:=by
 intros x y v u Q I S J h;let#[l,b,xs,zs,rfl,rfl,O,R,hz,q]:=h;cases S;cases J;let#[z,its,n,r,U,e]:=I.qr O;let#[z2,F,Y,L,ab,G]:=I.qr R;show PySem.P.add_list e G ?_ (by rw[qs,qs];omega);let N:its.toArray++F.toArray=(its++F).toArray:=(by simp);rw[N];show#[.ref _,_,I.J6 (t':=s.toks) (r.append L) (by rw[G1];omega),rfl,q _ I.fresh]
inductive Ld(x:V)(y:V)(H:Hp)(Q:VK):Prop
 |mk(l:_)(k:_)(xs:_)(_:x=.ref l)(_:y=.int k)(_:H l=some (.lst xs))(_ : -(2^63)<=k)(_:k<2^63)(_:xs.length*k.toNat<=sizeLine)(_:∀p,H p=none->Q (.ref p) (upd H p (.lst (replicate k.toNat xs).flatten)))
theorem len_rep{α:Type}(xs:List α)(k:Nat):(replicate k xs).flatten.length=k*xs.length:=by
 induction k with
 |zero=>simp
 |succ k F=>rw[PU,Ri,G1,F,Nat.succ_mul,Nat.add_comm]
theorem kg:mh X (RL .Mult) Ld:=by
 intros x y v u Q I rx ry h;let#[l,k,xs,rfl,rfl,hH,h1,h2,L,q]:=h;cases rx;let#[t,rfl]:=ry;let#[z,its,n,r,N,e]:=I.qr hH;let S:its.toArray.size*k.toNat<=sizeLine:=(by rw[qs, <-N];show L);let R:¬ its.toArray.size*k.toNat>(2^63-1)/8:=by
  have:(sizeLine:Nat)<=(2^63-1)/8:=ao;omega
 let ab:¬ (!Builtin.List.listFitsIndex k)=true:=by
  rw[fitsIndex_both h1 h2];show vl
 let O:¬ Builtin.List.listTooLong (its.toArray.size*k.toNat)=true:=by
  rw[vW S];show vl
 let ac:foldl (λJ G=>J++G) ([].toArray) (replicate (if its.toArray.isEmpty=true then 0 else k.toNat) its.toArray)=(replicate k.toNat its).flatten.toArray:=by
  let Y:∀m:Nat,foldl (λJ G=>J++G) ([].toArray) (replicate m its.toArray)=(replicate m its).flatten.toArray:=λm=>by
   have:=foldl_rep its m [];rw[Vq]at this;show this
  rw[Y];cases its with
  |nil=>simp
  |cons a r'=>rw[WO (by simp)]
 show wpAny_binaryOp_repeat_ref (T := "list") (U := "int") ao #[_,e,rfl] (λs'=>VS s' k t) noFill_list_mul F.fills_int_mul F.slot_int_rmul repeat_list F.slot_int_index.lookup
  (Ra F.slot_int_rmul (VS s k t) F.entry_int_rmul (F.args_int_rmul_2 _ _) (int___rmul___int_list k t l its.toArray n)
   #[e,rfl,#[_,e,rfl],Ra F.slot_list_mul #[_,e,rfl] F.entry_list_mul (F.args_list_mul_2 _ _) (AutoListH.list___mul___list_int_3 l its.toArray n k t ab R O) #[e,?_]])
 rw[ac];show#[.ref _,_,I.J6 (t':=s.toks) (r.rep k.toNat) (by rw[len_rep,Nat.mul_comm];show L),rfl,q _ I.fresh]
variable{prog:rn}{w:By}{A:Oj}{E:WV}
end
end L2
namespace Att
open PySem PySem.W PySem.Calls PyProof.Rows
theorem ng{P:Params}{h:Heap}:∀(ns:W5)(vs:W0),WellAll P h vs (ns.map WData.int)->QY vs ns:=by
 intro ns
 induction ns with
 |nil =>
  intro vs w;rwa[VB]at w;show .nil
 |cons n ns F =>
  intro vs w;rw[Pn]at w;cases w with
  |cons a b =>
   cases a;show .cons _ _ (F _ b)
theorem Bk{l:RN}{n:Nat}(hn:l.most=some n){P:Params}{h:Heap}{args:List WData}{L:W0}
  (J:l.row.toRowW.claim.pre args=true) (N:WellAll P h L args) :
  ∃a vs ns,L=[Value.ref a]/\args=[WData.list (ns.map WData.int)]/\h.get? a=some { cls:=.type "list",data:=.seq vs.toArray }/\QY vs ns/\ns.length<=n:=by
 let ab:WShape.hasAll [] args [.list .int]=true:=(pre_splitW J).1;let I:l.pre.holds [] { args:=args }=true:=(pre_splitW J).2;let#[d,r,rfl,h1,h2]:=hasAllW_cons ab;obtain rfl:=hasAllW_nil h2;let#[xs,rfl,R]:=hasW_list h1;let#[ns,rfl]:=items_int R;let U:ns.length<=n:=by
  unfold OpenLaw.pre at I;let G:(WTm.not (.lt (.lit (.int (n:Int))) (.len (.arg 0)))).holds [] { args:=[.list (ns.map .int)] }=true:=by
   let G:=(holds_andW I).1;rw[hn]at G;show G
  let F:=condW_of G (w_not (w_lt w_lit (w_len_list (w_arg rfl))));rw[k9]at F;show OU λq=>?_;let O:(n:Int)<((ns.length:Nat):Int):=ag
  first
   |(rw[decide_eq_true O]at F;show absurd F ao)
   |(simp at F;omega)
 cases N with
 |cons S Y =>
  cases Y;cases S with
  |list ho ac=>show#[2,ns,1,ho,ng ns _ ac,U]
theorem Bb(l:RN)(args:List WData):l.row.toRowW.claim.post args (.bool true) args=true :=
 postW_of (r:=l.row.toRowW) (X:=(true==true))
  (show WK [] (.bool true) .bool=true by first|rfl|decide|simp[WK,WShape.arms,WShape.armsAll])
  (show(WTm.eq .res (.lit (.bool true))).value [] { args:=args,res:=some (.bool true),after:=args }=some (.bool (true==true))from w_eq_bool (w_res rfl) w_lit) rfl
theorem vI{l:RN}{n:Nat}{q:rn}{loose:W6}{XP:(Str->Option Value)->Heap->Prop}{O:By->Heap->Prop}{d:DefRec}
  (hn:l.most=some n) (aB:d.params.defaults=[])
  (call:∀(w:By)(s₀ F:k8)(mg L:WW)(I:Addr)(o:Obj)(pm cd J:Value)(a:Addr)(vs:W0)(ns:W5),
   Ground q loose [] XP w s₀ mg L F.heap->O w F.heap ->
   F.heap.get? I=some o->o.data=.func (docDef d.name d.params d.body d.scope pm cd J)->F.heap.CodeRec cd d.name->mg d.name=some (.ref I) ->
   F.heap.get? a=some { cls:=.type "list",data:=.seq vs.toArray }->QY vs ns->ns.length<=n->F.gens = ([].toArray) ->
   Rh (model l.prog w) Ui (.call (.ref I) #[[.ref a],[]]) (λr s'=>r=.ok (.ret (.bool true))/\OldK F.heap s'.heap/\s'.os=F.os/\RY s'.gens) F) :
  VC q loose XP O l.row.toRowW d [] (λf vs=>VT f vs):=by
 intro w s₀ F mg L G Y I o pm cd J dV kV ho hd am N ab hg args aT as ap a0 a1 R aD;obtain rfl:dV=.none:=Dflts.none N aB;obtain rfl:kV=.none:=Dflts.noKw N;let#[a,vs,ns,rfl,rfl,U,ad,ac]:=Bk hn ap R;show enter_call (Sa (call w s₀ F mg L I o pm cd J a vs ns G Y ho (fd_plain hd) am ab U ad ac hg) λr s' S=>?_);let#[rfl,h2,h3,h4]:=S;show#[.inl #[.bool true,.bool true,[],rfl,λ_=>rfl,.bool true,Bb l _,λ_=>#[SK,λ_ hm=>(nomatch hm)]],h2,h3,h4]
section
variable{prog:rn}{w:By}{A:Oj}{E:WV}{s:k8}{K:HC}
end
end Att
namespace L2
open PySem PySem.Spec PyProof.Rows
theorem jO:∀{vs:W0}{ns:W5},QY vs ns->Vals (ns.map V.int) vs
 |_,_,.nil=>.nil
 |_,_,.cons n t h=>.cons #[t,rfl] (jO h)
def IE(H:Hp):Prop:=∀b,H b=none\/∃o xs,H b=some (.frz o (.lst xs))
theorem DQ{P:rn}{w:By}{K:HC}{mg O:WW}{CX:uq}{k:Nat}{U a:Addr}{fd:pa}{x:Str}{sp:Sp}{G:k8}{vs:W0}{ns:W5}
  (Y:K.In G.heap) (am:G.heap.Ns Ov mg) (I:G.heap.Ns VF O) (ap:∀x:Str,x ≠ "__name__" -> O x=OE x) (a3:G.heap.NoLimit) (hg:G.gens = ([].toArray))
  (L:G.heap.get? a=some { cls:=.type "list",data:=.seq vs.toArray }) (hi:QY vs ns) (hl:ns.length<=sizeLine) (hr:dG k Ui)
  (F:∀base:Heap,K.In base->base.Ns Ov mg->aX P w K mg base CX k U fd [x] sp) (a1:∀(s:k8)(u:Value),UZ s fd #[[u],[]] [(x,u)])
  (as:∀H:Hp,IE H->bD K H a (ns.map V.int)->sp [.ref a] H (λv _=>v=.bl true) λ_ _ _=>False)
  (a2:∀H e s',CX [] H G (λ_ _ _=>False) e s'->False) :
  Rh (model P w) Ui (.call (.ref U) #[[.ref a],[]]) (λr s'=>r=.ok (.ret (.bool true))/\OldK G.heap s'.heap/\s'.os=G.os/\RY s'.gens) G:=by
 let rv:=jO hi;let aT:=hi.length;let ad:∀H:Hp,IE H->bD K H a (ns.map V.int)->j4 P w H G.heap->(∀b,H b≠none->b=a)->(H a≠none->K.lookup a=none) ->
   Rh (model P w) Ui (.call (.ref U) #[[.ref a],[]]) (λr s'=>r=.ok (.ret (.bool true))/\OldK G.heap s'.heap/\s'.os=G.os/\RY s'.gens) G:=by
  intro H hO hS bV hA hK;let ac:∀{b:Addr}{o:Obj},G.heap.get? b=some o->H b=none->(uH G.heap H).get? b=some o:=λe n=>BH e n;let a0:∀{b:Addr}{o:Obj}{es:Array DictEntry}{ep:Nat},G.heap.get? b=some o->o.data=.dict es ep->H b=none:=λ{b o es ep} e d=>by
   cases q:H b with
   |none=>rfl
   |some u =>
    let R:b=a:=hA b (by rw[q];simp);subst R;rwa[L]at e;let d':VU vs.toArray _=Data.dict es ep:=d;cases d'
  let N:∀{b:Addr}{m:WW},G.heap.Ns b m->(uH G.heap H).Ns b m:=λ{b m} aB=>(by let#[o,es,ep,e,d,r]:=aB;show#[o,es,ep,ac e (a0 e d),d,r]);let ab:K.In (uH G.heap H):=λb o e=>ac (Y b o e) (by
   cases q:H b with
   |none=>rfl
   |some u =>
    let R:b=a:=hA b (by rw[q];simp);subst R;rwa[hK (by rw[q];simp)]at e)
  let hM:Mod K mg (uH G.heap H):=#[ab,N am,#[O,N I,ap],let ⟨mc,h1,h2⟩:=a3;#[mc,N h1,h2]];let e0:yf P w K mg (uH G.heap H) Ui [] G H:=#[rfl,hM,λb o e=>Ff e,UW (z6 _ _),trivial,λb I=>absurd (show b∈([]:W7)from I) (by simp),bV,.of_eq hg];show Sa ((F _ ab (N am)).run Ui [] G H #[[.ref a],[]] [.ref a] [.ref a] _ _ hr e0 (a1 G (.ref a)) (.cons rfl .nil) (as H hO hS)) λr s' h=>?_;cases r with
  |error e=>show(a2 H e s' h).elim
  |ok fl =>
   cases fl with
   |next=>show Ph h
   |brk=>show Ph h
   |cont=>show Ph h
   |ret u =>
    let#[v,H',os,bare,un,aD,r',q]:=h;let q':v=.bl true:=q;subst q';obtain rfl:u=Value.bool true:=r';show#[rfl,OldK.of_keep λb o e=>?_,os,bare];cases q:H b with
    |none=>show un.keep b o e q (by intro z;show absurd (show b∈([]:W7)from z) (by simp)) (by simp)
    |some u =>
     rcases hO b with z|⟨ob,xs,z⟩
     .rw[q]at z;cases z
     .let z2:=un.m7 b ob _ z;let#[e1,_]:=bV b _ z;let#[e2,_]:=aD b _ z2;rwa[e]at e1;show e2
 cases S:K.lookup a with
 |some o =>
  let e:=Y a o S;rwa[L]at e;show ad (λ_=>none) (λ_=>.inl rfl) (.inr #[_,vs.toArray,_,S,1,rfl,by rw[qs,aT];show hl,by simpa using rv]) (λb u z=>by let J:(none:Option HO)=some u:=z;cases J) (λb z=>absurd rfl z) λz=>absurd rfl z
 |none =>
  show ad (λb=>if b=a then some (.frz { cls:=.type "list",data:=.seq vs.toArray } (.lst (ns.map V.int)))else none) (λb=>?_) (.inl (.inr #[{ cls:=.type "list",data:=.seq vs.toArray },WQ rfl])) (λb u z=>?_) (λb z=>?_) λ_=>S
  .by_cases I:b=a
   .show .inr #[2,WQ I]
   .show .inl (WO I)
  .by_cases I:b=a
   .let J:=(WQ I).symm.trans z;cases J;subst I;show#[L,by rw[k9];show hl,vs,_,rv,L]
   .let J:=(WO I).symm.trans z;cases J
  .by_cases I:b=a
   .show I
   .show absurd (WO I) z
theorem FC{l:RN}{n k:Nat}{q:rn}{loose:W6}{XP:(Str->Option Value)->Heap->Prop}{J:By->Heap->Prop}{d:DefRec}{K:Params->HC}{CX:By->uq}{sp:By->Sp}{x:Str}
  (hn:l.most=some n) (ad:n<=sizeLine) (ap:d.params.defaults=[]) (hr:dG k Ui)
  (U:∀(w:By)(h:Heap),J w h->(K w.params).In h)
  (F:∀(w:By)(mg:WW)(I:Addr)(h:Heap),(K w.params).In h->h.Ns Ov mg->mg d.name=some (.ref I) ->
   ∃fd:pa,(∀(s:k8)(u:Value),UZ s fd #[[u],[]] [(x,u)]) /\
    ∀base:Heap,(K w.params).In base->base.Ns Ov mg->aX l.prog w (K w.params) mg base (CX w) k I fd [x] (sp w))
  (S:∀(w:By)(H:Hp)(a:Addr)(ns:W5),ns.length<=n->IE H->bD (K w.params) H a (ns.map V.int)->sp w [.ref a] H (λv _=>v=.bl true) λ_ _ _=>False)
  (am:∀(w:By)(H:Hp)(s:k8)(e:Value)(s':k8),CX w [] H s (λ_ _ _=>False) e s'->False) :
  VC q loose XP J l.row.toRowW d [] (λf vs=>VT f vs):=by
 show Att.vI hn ap λw s₀ O mg mb I o pm cd as a vs ns G Y ho hd aB ab R ac N hg=>?_;let L:=U w _ Y;let#[fd,hb,hF]:=F w mg I _ L G.T.g ab;show DQ L G.T.g G.T.b G.T.builtins G.T.nolimit hg R ac (L3 N ad) hr hF hb (λH hO hS=>S w H a ns N hO hS) λH e s'=>am w H O e s'
def inClass(s:Oz)(j:Nat):Oz:=match s with
 |.ClassDef _ _ _ body _ _ _ _ _ _ _=>body.getD j (.Pass #[(0),(0),(0),(0)])
 |_=>.Pass #[(0),(0),(0),(0)]
def gP(s:Oz):Arguments:=match s with
 |.FunctionDef _ a _ _ _ _ _ _ _ _=>a
 |_=>{ posonlyargs:=[],args:=[],vararg:=none,kwonlyargs:=[],kw_defaults:=[],kwarg:=none,defaults:=[] }
def eT(s:Oz):List Oz:=match s with
 |.FunctionDef _ _ b _ _ _ _ _ _ _=>b
 |_=>[]
def aw(s:Oz):Sf:=match s with
 |.FunctionDef _ _ _ _ _ _ F _ _ _=>F
 |_=>{ kind:=.function,names:=[],isGenerator:=false,isCoroutine:=false }
abbrev aU:uq:=λ_ _ _ _ _ _=>False
abbrev E0:XK:=λ_ _ _=>False
theorem ax{X:Cx}:Passes aU X E0:=λ_ _ _ _ _ _ _ h=>h.elim
structure cD(K:HC)(x qual:Str)(st:Oz)(f:Addr)(fd:pa):Prop where
 ex:∃(oc:Value)(od:W4)(kV doc pm:Value)(an:W4)(cdv ct:Value)(osl:Array (Option Value)),
  fd=Ws x qual (gP st) (eT st) (aw st) .none kV doc pm an cdv ct/\K.lookup f=some #[oc,od,.func fd,osl]/\Wt K cdv qual=true
 kp:To K (.ref f)=true
section
variable{P:rn}{w:By}{K:HC}{mg:WW}{base:Heap}
theorem cD.ok{x I:Str}{st:Oz}{f:Addr}{fd:pa}{N ps:W6}{k:Nat}{sp:Sp}(F:cD K x I st f fd)(S:aE N ps (aw st))(len:∀vs H Q E,sp vs H Q E->vs.length=ps.length)
  (L:∀(G:Value)(A:Oj)(outer:XC)(s:k8)(H:Hp)(vs:XD)(Q:VK)(E:XK),dG k (A.deeper (So I (aw st) s⁻¹ f G))->sp vs H Q E ->
   ∃t,wI (sJ aU P w K mg base N I (aw st) f G A outer s H E).nE (eT st) t/\t { nx:=λ_ H'=>Q .non H',rt:=Q } (start N vs) H):↥aX (k+1) f fd ps sp:=by
 let#[oc,od,kV,Y,pm,an,G,ct,ab,rfl,R,O]:=F.ex;show GY R O S len λA outer s H vs Q E U J=>?_;let#[t,h,q]:=L G A outer s H vs Q E U J;show#[t,h.nE,q]
theorem cD.dU{x qual:Str}{st:Oz}{f:Addr}{fd:pa}{N ps:W6}{k:Nat}{sp:Sp}(F:cD K x qual st f fd)(S:aE N ps (aw st))
  (hb:∀(cdv:Value)(A:Oj)(outer:XC)(s:k8)(H:Hp)(vs:XD)(Q:VK)(E:XK)(hr:dG k (A.deeper (So qual (aw st) s⁻¹ f cdv)))(h:sp vs H Q E),∃t,wI (sJ aU P w K mg base N qual (aw st) f cdv A outer s H E).nE (eT st) t/\t { nx:=λ_ H'=>Q .non H',rt:=Q } (start N vs) H) (len:∀vs H Q E,sp vs H Q E->vs.length=ps.length:=by intro vs H Q E h;cases h<;>subst_vars<;>rfl):↥aX (k+1) f fd ps sp:=F.ok S len hb
theorem cD.binds{x J:Str}{st:Oz}{f:Addr}{fd:pa}{ps:W6}(F:cD K x J st f fd)
  (h:∀(kV G pm:Value)(an:W4)(I ct:Value)(us:W0),us.length=ps.length->VM (Ws x J (gP st) (eT st) (aw st) .none kV G pm an I ct) #[us,[]]=pure (ps.zip us)):Binds K fd ps []:=by
 let#[oc,od,kV,G,pm,an,I,ct,O,rfl,N,L]:=F.ex;show .all (h kV G pm an I ct)
theorem uR{x G:Str}{st:Oz}{f:Addr}{oc:Value}{od an:W4}{J:Array (Option Value)}{kV I pm F ct:Value}(l:K.lookup f=some #[oc,od,.func (Ws x G (gP st) (eT st) (aw st) .none kV I pm an F ct),J])
  (c:Wt K F G=true) (k:To K (.ref f)=true):cD K x G st f (Ws x G (gP st) (eT st) (aw st) .none kV I pm an F ct):=#[#[oc,od,kV,I,pm,an,F,ct,J,rfl,l,c],k]
end
theorem bG{A:Oj}{k:Nat}(F:dG k A):A.units+1<QG:=Qq (Uo (by decide:1<=64) _) F.units
section
variable{X:Cx}
theorem pv(i:Nat){x:Str}{pos:QM}(F:X.N[i]?=some x:=by rfl)(I:LA X.env.scope x:=by first|show RT rfl|show WL (RT rfl)|show WL (WL rfl))(hd:(x==("__debug__" : Str))=false:=by decide)
  (G:(x==("__classdict__" : Str))=false:=by decide):PE X (.Name x pos) (vX i):=I0 F I hd G
end
theorem cq{A B:Prop}(h:B):if false=true then A else B:=by
 rw[WO vl];show h
theorem dR{A B:Prop}(h:A):if true=true then A else B:=by
 rw[WQ rfl];show h
theorem hV{c A B:Prop}[Decidable c](h1:c->A)(h2:¬ c->B):if c then A else B:=by
 cases h:c
 .rw[WQ h];show h1 h
 .rw[WO h];show h2 h
def aO(H H':Hp):Prop:=∀b o,H b=some o->H' b=some o
theorem aO.refl(H:Hp):aO H H:=λ_ _ h=>h
theorem aO.trans{H H1 H2:Hp}(a:aO H H1)(b:aO H1 H2):aO H H2:=λc o h=>b c o (a c o h)
theorem aO.free{H H':Hp}(e:aO H H'){l:Addr}(h:H' l=WD):H l=WD:=by
 cases q:H l with
 |none=>rfl
 |some o =>
  rwa[e l o q]at h
end L2
namespace PySem
open PySem.Sem (wp)
section
variable{prog:rn}{w:By}{A:Oj}{E:WV}{h:Heap}{g:Array UM}{d:Drawn}{t:Nat}{os:OsState}{a:Addr}{its:WZ}{n:Nat}
end
end PySem
namespace Srt
open PySem PyProof.Rows
structure SI(a₀:W9)(st:OM):Prop where
 perm:(vu st).Perm a₀
 kind:kindOf st=Q2
 failed:Q3 st=none
structure Ks(a₀:W9):Prop where
 ik:IntKeys a₀
 nd:(a₀.toList.map λp=>Qt p.1).Nodup
def mE(xs:W9)(lo hi:Nat):Prop:=∀i j,lo<=i->i<=j->j<hi->K xs i<=K xs j
theorem SI.size{a₀:W9}{st:OM}(h:SI a₀ st):(vu st).size=a₀.size:=h.perm.size_eq
theorem yY{a₀ xs:W9}(I:xs.Perm a₀)(k:Ks a₀){i:Nat}(hi:i<xs.size):∃t q,xs[i]?=some (.int (K xs i) t,q):=by
 let G:xs[i]∈a₀.toList:=(P6.mp I).mem_iff.mp (by simp);let#[n,t,J]:=k.ik _ G;let e:xs[i]?=some xs[i]:=getElem?_pos _ i hi;let F:xs[i]=(.int n t,xs[i].2):=U0 J rfl;show#[t,xs[i].2,?_];unfold K;rw[e,F];rfl
theorem key_ne{a₀ xs:W9}(I:xs.Perm a₀)(k:Ks a₀){i j:Nat}(hi:i<j)(F:j<xs.size):K xs i≠K xs j:=by
 let G:=(P6.mp I).map λp:BY=>Qt p.1;let J:(xs.toList.map λp=>Qt p.1).Nodup:=G.nodup_iff.mpr k.nd;let h1:i<xs.size:=U3 hi F;let a:=Pz.mp J i j ‹h1› ‹F› hi;unfold K;rw[getElem?_pos xs i h1,getElem?_pos xs j F];simpa using a
theorem SI.setArr{a₀:W9}{st:OM}(h:SI a₀ st){xs:W9}(F:xs.Perm (vu st)):SI a₀ (setArr st xs):=#[F.trans h.perm,h.kind,h.failed]
section
variable{prog:rn}{w:By}{A:Oj}{E:WV}{s:k8}{a₀:W9}
theorem tG{st:OM}{x y:BY}{a b:Int}{t u:Wx}{Q:Option Bool->OM->Prop}(F:kindOf st=Q2)(G:x.1=.int a t)(I:y.1=.int b u)(h:Q (some (decide (a<b))) st) :
  Wy (model prog w) A E s (lt' x y) Q st:=by
 rw[lt'_eq];show qi (Rj ?_);rw[F,keyLt'_oneType,G,I];show qi (S9 (Ut (oneLt_int #[rfl,ql h])))
theorem bT{st:OM}{xs:W9}{i:Nat}{p:BY}{Q:BY->OM->Prop}(hi:xs[i]?=some p)(h:Q p st):Wy (model prog w) A E s (elem' xs i) Q st:=by
 rw[elem'_eq,hi];show ql h
theorem si{st:OM}{i j:Nat}{Q:Option Bool->OM->Prop}(S:SI a₀ st)(k:Ks a₀)(hi:i<a₀.size)(G:j<a₀.size)(h:Q (some (decide (K (vu st) i<K (vu st) j))) st) :
  Wy (model prog w) A E s (ltAt' i j) Q st:=by
 let#[t,p,I]:=yY S.perm k (by rw[S.size];show hi);let#[u,q,F]:=yY S.perm k (by rw[S.size];show G);show wpS_ltAt S.kind I F h
structure Cut(a₀:W9)(st st':OM)(lo:Nat):Prop where
 S:SI a₀ st'
 pre:∀i,i<lo->(vu st')[i]?=(vu st)[i]?
 pend:Oo st'=Oo st
theorem DS{st:OM}{lo nrem:Nat}{Q:Option Nat->OM->Prop}(S:SI a₀ st)(k:Ks a₀)(hn:lo+nrem<=a₀.size)(h1:1<=nrem)
  (h:∀m F,Cut a₀ st F lo->1<=m->m<=nrem->mE (vu F) lo (lo+m)->Q (some m) F):Wy (model prog w) A E s (countRun' lo nrem) Q st:=by
 rw[countRun'_eq];show qi (PH (OP (I:=λx c F=>uX (F=st) (c=(none,x)) (mE (vu st) lo (lo+x))) (Q:=λc F=>F=st/\∃n,c=(none,n)/\1<=n/\n<=nrem/\mE (vu st) lo (lo+n)/\(n=nrem\/K (vu st) (lo+n)<K (vu st) (lo+n-1))) ?_ ?_ ?_) ?_)
 .rintro x c F Y ab ⟨rfl,rfl,hs⟩;dsimp only;show qi (si S k ag ag ?_);cases c:K (vu F) (lo+x)<K (vu F) (lo+x-1)
  .simp only[c,decide_true,if_true];show ql #[rfl,x,rfl,Y,ag,hs,.inr c]
  .simp only[c,decide_false,PK,if_false];show ql #[1,λi j hi J N=>?_];cases z:j<lo+x
   .show hs i j hi J z
   .by_cases R:i=j
    .rw[R];show OX _
    .have:=hs i (lo+x-1) hi ag ag;let O:j=lo+x:=QN N z;rw[O];omega
 .rintro c F ⟨rfl,rfl,hs⟩;rw[show max 1 nrem=nrem by omega]at hs ⊢;show#[rfl,nrem,rfl,h1,rr _,hs,.inl rfl]
 .show#[1,λi j hi J N=>by rw[show i=j by omega];show OX _]
 .rintro c F ⟨rfl,n,rfl,n1,n2,hs,ad⟩;dsimp only;cases e:n=nrem
  .rw[WQ ‹e›];show ql (h n F #[S,λ_ _=>rfl,rfl] n1 n2 hs)
  .rw[WO ‹e›];let am:=ad.resolve_left e;cases g:n>1
   .rw[WQ g];show qi (si S k ag ag ?_);let r:K (vu F) lo<K (vu F) (lo+n-1):=by
     let a:=hs lo (lo+n-1) (rr _) ag ag;let b:=key_ne S.perm k (i:=lo) (j:=lo+n-1) ag (by rw[S.size];omega);omega
    simp only[r,decide_true,if_true];show ql (h n F #[S,λ_ _=>rfl,rfl] n1 n2 hs)
   .rw[WO g];let e1:n=1:=ag;subst e1;show qi (S9 (QP #[5]));let ap:∀i j,lo<=i->i<=j->j<lo+2->K (vu F) j<=K (vu F) i:=λi j hi J N=>by
     cases z:i=j
     .rw[z];show OX _
     .let ei:i=lo:=ag;let O:j=lo+1:=ag;rw[ei,O];show OH am
    show qi (PH (OP (I:=λx c G=>uX (G=F) (c=(none,x,0)) (∀i j,lo<=i->i<=j->j<lo+x->K (vu F) j<=K (vu F) i)) (Q:=λc G=>G=F/\∃n,c=(none,n,0)/\2<=n/\n<=nrem/\∀i j,lo<=i->i<=j->j<lo+n->K (vu F) j<=K (vu F) i) ?_ ?_ ?_) ?_)
    .rintro x c G Y ab ⟨rfl,rfl,hd⟩;dsimp only;show qi (si S k ag ag ?_);cases c:K (vu G) (lo+x)<K (vu G) (lo+x-1)
     .simp only[c,decide_true,if_true];rw[WO ag];show ql #[1,λi j hi J N=>?_];cases z:j<lo+x
      .show hd i j hi J z
      .by_cases R:i=j
       .rw[R];show OX _
       .have:=hd i (lo+x-1) hi ag ag;let O:j=lo+x:=QN N z;rw[O];omega
     .simp only[c,decide_false,PK,if_false];show qi (si S k ag ag ?_);let r:K (vu G) (lo+x-1)<K (vu G) (lo+x):=by
       let b:=key_ne S.perm k (i:=lo+x-1) (j:=lo+x) ag (by rw[S.size];omega);omega
      simp only[r,decide_true,if_true];show ql #[rfl,x,rfl,Y,ag,hd]
    .rintro c G ⟨rfl,rfl,hd⟩;rw[show max (1+1) nrem=nrem by omega]at hd ⊢;show#[rfl,nrem,rfl,ag,rr _,hd]
    .show#[1,ap]
    .rintro c G ⟨rfl,n,rfl,m1,m2,hd⟩;dsimp only;rw[WO ag];show qi (wpS_reverse ?_);let hsz:lo+n<=(vu G).size:=(by rw[S.size];omega);let S3:=S.setArr (mirror_perm (vu G) lo (lo+n) ((lo+n-lo)/2));let C3:Cut a₀ G (setArr G (VW (vu G) lo (lo+n) ((lo+n-lo)/2))) lo:=by
      show#[S3,λi hi=>?_,rfl];change(VW (vu G) lo (lo+n) ((lo+n-lo)/2))[i]?=_;rw[getElem?_mirror_all hsz,WO ag]
     let ac:mE (vu (setArr G (VW (vu G) lo (lo+n) ((lo+n-lo)/2)))) lo (lo+n):=λi j hi J N=>by
      change K (VW (vu G) lo (lo+n) ((lo+n-lo)/2)) i<=K (VW (vu G) lo (lo+n) ((lo+n-lo)/2)) j;rw[K_mirror hsz,K_mirror hsz,WQ ag,WQ ag];show hd _ _ ag (Nat.sub_le_sub_left J (lo+(lo+n)-1)) ag
     generalize setArr G (VW (vu G) lo (lo+n) ((lo+n-lo)/2))=U at S3 C3 ac ⊢;show qi (PH (OP (I:=λx c L=>uX (L=U) (c=(none,x)) (mE (vu U) lo (lo+x))) (Q:=λc L=>L=U/\∃m,c=(none,m)/\1<=m/\m<=nrem/\mE (vu U) lo (lo+m)) ?_ ?_ ?_) ?_)
     .rintro x c L Y ab ⟨rfl,rfl,hs⟩;dsimp only;show qi (si S3 k ag ag ?_);cases c:K (vu L) (lo+x)<K (vu L) (lo+x-1)
      .simp only[c,decide_true,if_true];show ql #[rfl,x,rfl,ag,ag,hs]
      .simp only[c,decide_false,PK,if_false];show ql #[1,λi j hi J N=>?_];cases z:j<lo+x
       .show hs i j hi J z
       .by_cases R:i=j
        .rw[R];show OX _
        .have:=hs i (lo+x-1) hi ag ag;let O:j=lo+x:=QN N z;rw[O];omega
     .rintro c L ⟨rfl,rfl,hs⟩;rw[show max n nrem=nrem by omega]at hs ⊢;show#[rfl,nrem,rfl,h1,rr _,hs]
     .show#[1,ac]
     .rintro c L ⟨rfl,m,rfl,q1,q2,hs⟩;show ql (h m L C3 q1 q2 hs)
theorem Dp{st:OM}{lo n ok:Nat}{Q:Bool->OM->Prop}(S:SI a₀ st)(k:Ks a₀)(hn:lo+n<=a₀.size)(h1:1<=ok)(bV:ok<=n)(hs:mE (vu st) lo (lo+ok))
  (h:∀F,Cut a₀ st F lo->mE (vu F) lo (lo+n)->Q true F):Wy (model prog w) A E s (binarySort' lo n ok) Q st:=by
 rw[binarySort'_eq];show qi (PH (OP (I:=λx c F=>uX (c=(none,())) (Cut a₀ st F lo) (mE (vu F) lo (lo+x))) (Q:=λc F=>uX (c=(none,())) (Cut a₀ st F lo) (mE (vu F) lo (lo+n))) ?_ ?_ ?_) ?_)
 .rintro x c F ap as ⟨rfl,C,J⟩;let U:lo+x<(vu F).size:=(by rw[C.S.size];omega);show qi (PH (OP (I:=λy c G=>G=F/\∃l r,c=(none,l,r)/\l<=r/\r<=x/\r-l<=x-y/\(∀i,lo<=i->i<lo+l->K (vu F) i<=K (vu F) (lo+x))/\∀i,lo+r<=i->i<lo+x->K (vu F) (lo+x)<K (vu F) i)
   (Q:=λc G=>G=F/\∃l,c=(none,l,l)/\l<=x/\(∀i,lo<=i->i<lo+l->K (vu F) i<=K (vu F) (lo+x))/\∀i,lo+l<=i->i<lo+x->K (vu F) (lo+x)<K (vu F) i) ?_ ?_ ?_) ?_)
  .rintro y c G am aB ⟨rfl,l,r,rfl,lr,R,hm,L,N⟩;dsimp only;cases g:l>=r
   .rw[WQ g];obtain rfl:l=r:=ag;show ql #[rfl,l,rfl,R,L,N]
   .rw[WO g];show qi (si C.S k ag ag ?_);cases c:K (vu G) (lo+x)<K (vu G) (lo+(l+r)/2)
    .simp only[c,decide_true,if_true];show ql #[rfl,l,(l+r)/2,rfl,ag,ag,ag,L,λi hi ab=>?_];have:=J (lo+(l+r)/2) i ag hi ag;show Sq c this
    .simp only[c,decide_false,PK,if_false];show ql #[rfl,(l+r)/2+1,r,rfl,ag,ag,ag,λi hi ab=>?_,N];have:=J i (lo+(l+r)/2) hi (Rk ab) ag;omega
  .rintro c G ⟨rfl,l,r,rfl,lr,R,hm,L,N⟩;obtain rfl:l=r:=ag;show#[rfl,l,rfl,R,L,N]
  .show#[rfl,(0),x,rfl,ag,ag,ag,λi hi ad=>by omega,λi hi ad=>by omega]
  .rintro c G ⟨rfl,l,rfl,lx,L,N⟩;dsimp only;rw[moveDown'_eq];show qi (Qu (ql #[rfl,#[C.S.setArr (bubble_perm _ _ _),λi hi=>?_,C.pend],λi j hi ac hj=>?_]))
   .change(bubble (vu G) (lo+x) (lo+x-(lo+l)))[i]?=_;rw[getElem?_bubble U _ (Wu (lo+x) (lo+l)),WO ag,WO ag];show C.pre i hi
   .change K (bubble (vu G) (lo+x) (lo+x-(lo+l))) i<=K (bubble (vu G) (lo+x) (lo+x-(lo+l))) j;rw[K_bubble U (Wu (lo+x) (lo+l)),K_bubble U (Wu (lo+x) (lo+l)),show lo+x-(lo+x-(lo+l))=lo+l by omega];cases c1:i=lo+l
    .rw[WQ c1];cases O:j=lo+l
     .rw[WQ O];show OX _
     .rw[WO O,WQ ag];have:=N (j-1) ag ag;show OH this
    .rw[WO c1];cases O:j=lo+l
     .rw[WQ O,WO ag];show L i hi ag
     .rw[WO O];cases c3:lo+l<i/\i<=lo+x
      .rw[WQ c3,WQ ag];show J _ _ ag (Nat.sub_le_sub_right ac 1) ag
      .rw[WO c3];cases Y:lo+l<j/\j<=lo+x
       .rw[WQ Y];show J _ _ ag ag ag
       .rw[WO Y];show J _ _ ag ag ag
 .rintro c F ⟨rfl,C,J⟩;rw[show max (max ok 1) n=n by omega]at J;show#[rfl,C,J]
 .rw[show max ok 1=ok by show Nat.max_eq_left h1];show#[rfl,#[S,λ_ _=>rfl,rfl],hs]
 .rintro c F ⟨rfl,C,J⟩;show ql (h F C J)
end
def FQ:Bool->BY->Array BY->Nat->Nat->Nat->StateT OM RS (Option Nat):=sortPriv% PySem.Builtin.gallop
def gX(left:Bool)(a:Int)(xs:W9)(base i:Nat):Bool:=if left then decide (K xs (base+i)<a)else !decide (a<K xs (base+i))
section
variable{prog:rn}{w:By}{A:Oj}{E:WV}{s:k8}{a₀:W9}
def uF(left:Bool)(F:BY)(xs:W9)(base i:Nat):StateT OM RS (Option Bool):=
 bind (elem' xs (base+i)) λx=>ite (left=true) (lt' x F) (bind (lt' F x) λr=>pure (Option.map (λb => !b) r))
theorem Hy{st:OM}{left:Bool}{G:BY}{a:Int}{t u:Wx}{q:Value}{xs:W9}{base i:Nat}{Q:Option Bool->OM->Prop}(F:kindOf st=Q2)(I:G.1=.int a t)(J:xs[base+i]?=some (.int (K xs (base+i)) u,q))
  (h:Q (some (gX left a xs base i)) st):Wy (model prog w) A E s (uF left G xs base i) Q st:=by
 unfold uF;show qi (bT J ?_);unfold gX at h;cases left with
 |true=>show tG F rfl I h
 |false=>show qi (tG F I rfl (ql h))
theorem jw{left:Bool}{a:Int}{xs:W9}{base n i j:Nat}(hs:mE xs base (base+n))(F:i<=j)(G:j<n)(h:gX left a xs base j=true):gX left a xs base i=true:=by
 have:=hs (base+i) (base+j) ag (Qv Rg F) (Nat.add_lt_add_left G base);unfold gX at h ⊢;cases left with
 |true =>
  let z:K xs (base+j)<a:=of_decide_eq_true h;show decide_eq_true (Sr this z)
 |false =>
  let z:¬ a<K xs (base+j):=of_decide_eq_false ‹h›;change(!decide (a<K xs (base+i)))=true;rw[decide_eq_false ag];rfl
theorem jP{left:Bool}{a:Int}{xs:W9}{base n i j:Nat}(hs:mE xs base (base+n))(F:i<=j)(G:j<n)(h:gX left a xs base i=false):gX left a xs base j=false:=by
 cases e:gX left a xs base j with
 |false=>rfl
 |true=>rwa[jw hs F G e]at h
theorem eZ{st:OM}{left:Bool}{ac:BY}{a:Int}{t:Wx}{xs:W9}{base n hint:Nat}{Q:Option Nat->OM->Prop}(hk:kindOf st=Q2)(aB:ac.1=.int a t)(hx:∀i,i<n->∃t q,xs[base+i]?=some (.int (K xs (base+i)) t,q))
  (hs:mE xs base (base+n)) (hh:hint<n) (h:∀r,r<=n->(∀i,i<r->gX left a xs base i=true)->(∀i,r<=i->i<n->gX left a xs base i=false)->Q (some r) st) :
  Wy (model prog w) A E s (FQ left ac xs base n hint) Q st:=by
 let B:∀{i:Nat}{Q:Option Bool->OM->Prop},i<n->Q (some (gX left a xs base i)) st->Wy (model prog w) A E s (uF left ac xs base i) Q st:=λhi q=>by
  let#[u,v,e]:=hx _ hi;show Hy hk aB e q
 show qi (B hh ?_);cases c:gX left a xs base hint with
 |true =>
  dsimp only;rw[WQ rfl];show qi (PH (OP (I:=λx c F=>F=st/\∃l o,c=(none,l,o)/\l<o/\x+1<=o/\hint+l<n/\gX left a xs base (hint+l)=true) (Q:=λc F=>F=st/\∃l o,c=(none,l,o)/\l<o/\hint+l<n/\gX left a xs base (hint+l)=true/\(n-hint<=o\/(hint+o<n/\gX left a xs base (hint+o)=false))) ?_ ?_ ?_) ?_)
  .rintro x c F ad am ⟨rfl,l,o,rfl,lo,xo,R,L⟩;dsimp only;cases g:o>=n-hint
   .rw[WQ g];show ql #[rfl,l,o,rfl,lo,R,L,.inl g]
   .rw[WO g];show qi (B (i:=hint+o) ag ?_);cases S:gX left a xs base (hint+o)with
    |true=>show ql #[rfl,o,2*o+1,rfl,ag,ag,ag,S]
    |false=>show ql #[rfl,l,o,rfl,lo,R,L,.inr #[ag,S]]
  .rintro c F ⟨rfl,l,o,rfl,lo,xo,R,L⟩;show#[rfl,l,o,rfl,lo,R,L,.inl ag]
  .show#[rfl,(0),(1),rfl,ag,ag,hh,c]
  .rintro c F ⟨rfl,l,o,rfl,lo,R,L,ab⟩;dsimp only;let f1:∀i,i<hint+l+1->gX left a xs base i=true:=λi hi=>jw hs (j:=hint+l) (Rk hi) R L;let f2:∀i,hint+min o (n-hint)<=i->i<n->gX left a xs base i=false:=λi hi Y=>by
    rcases ab with g|⟨g1,g2⟩
    .omega
    .show jP hs (i:=hint+o) ag Y g2
   let U:hint+l+1<=hint+min o (n-hint):=ag;let f4:hint+min o (n-hint)<=n:=ag;generalize hint+l+1=ap at f1 U ⊢;generalize hint+min o (n-hint)=as at f2 U f4 ⊢;show qi (PH (OP (I:=λx c N=>N=F/\∃l r,c=(none,l,r)/\l<=r/\r<=n/\r-l<=n-x/\(∀i,i<l->gX left a xs base i=true)/\∀i,r<=i->i<n->gX left a xs base i=false) (Q:=λc N=>N=F/\∃r,c=(none,r,r)/\r<=n/\(∀i,i<r->gX left a xs base i=true)/\∀i,r<=i->i<n->gX left a xs base i=false) ?_ ?_ ?_) ?_)
   .rintro x c N ad am ⟨rfl,l,r,rfl,lr,O,hm,G,J⟩;dsimp only;cases g:l>=r
    .rw[WQ g];obtain rfl:l=r:=ag;show ql #[rfl,l,rfl,O,G,J]
    .rw[WO g];show qi (B (i:=l+(r-l)/2) ag ?_);cases S:gX left a xs base (l+(r-l)/2)with
     |true=>show ql #[rfl,l+(r-l)/2+1,r,rfl,ag,O,ag,λi hi=>jw hs (j:=l+(r-l)/2) (Rk hi) ag S,J]
     |false=>show ql #[rfl,l,l+(r-l)/2,rfl,ag,ag,ag,G,λi hi Y=>jP hs hi Y S]
   .rintro c N ⟨rfl,l,r,rfl,lr,O,hm,G,J⟩;obtain rfl:l=r:=ag;show#[rfl,l,rfl,O,G,J]
   .show#[rfl,ap,as,rfl,U,f4,ag,f1,f2]
   .rintro c N ⟨rfl,r,rfl,O,G,J⟩;show ql (h r O G J)
 |false =>
  dsimp only;rw[WO ao];show qi (PH (OP (I:=λx c F=>F=st/\∃l o,c=(none,l,o)/\l<o/\x+1<=o/\l<=hint/\gX left a xs base (hint-l)=false) (Q:=λc F=>F=st/\∃l o,c=(none,l,o)/\l<o/\l<=hint/\gX left a xs base (hint-l)=false/\(hint+1<=o\/(o<=hint/\gX left a xs base (hint-o)=true))) ?_ ?_ ?_) ?_)
  .rintro x c F ad am ⟨rfl,l,o,rfl,lo,xo,R,L⟩;dsimp only;cases g:o>=hint+1
   .rw[WQ g];show ql #[rfl,l,o,rfl,lo,R,L,.inl g]
   .rw[WO g];show qi (B (i:=hint-o) (Ve hh) ?_);cases S:gX left a xs base (hint-o)with
    |true=>show ql #[rfl,l,o,rfl,lo,R,L,.inr #[OU g,S]]
    |false=>show ql #[rfl,o,2*o+1,rfl,ag,ag,OU g,S]
  .rintro c F ⟨rfl,l,o,rfl,lo,xo,R,L⟩;show#[rfl,l,o,rfl,lo,R,L,.inl ag]
  .show#[rfl,(0),(1),rfl,ag,ag,OC _,c]
  .rintro c F ⟨rfl,l,o,rfl,lo,R,L,ab⟩;dsimp only;let f1:∀i,i<hint+1-min o (hint+1)->gX left a xs base i=true:=λi hi=>by
    rcases ab with g|⟨g1,g2⟩
    .omega
    .show jw hs (j:=hint-o) ag (Ve hh) g2
   let f2:∀i,hint-l<=i->i<n->gX left a xs base i=false:=λi hi Y=>jP hs hi Y L;let U:hint+1-min o (hint+1)<=hint-l:=ag;let f4:hint-l<=n:=ag;generalize hint+1-min o (hint+1)=ap at f1 U ⊢;generalize hint-l=as at f2 U f4 ⊢;show qi (PH (OP (I:=λx c N=>N=F/\∃l r,c=(none,l,r)/\l<=r/\r<=n/\r-l<=n-x/\(∀i,i<l->gX left a xs base i=true)/\∀i,r<=i->i<n->gX left a xs base i=false) (Q:=λc N=>N=F/\∃r,c=(none,r,r)/\r<=n/\(∀i,i<r->gX left a xs base i=true)/\∀i,r<=i->i<n->gX left a xs base i=false) ?_ ?_ ?_) ?_)
   .rintro x c N ad am ⟨rfl,l,r,rfl,lr,O,hm,G,J⟩;dsimp only;cases g:l>=r
    .rw[WQ g];obtain rfl:l=r:=ag;show ql #[rfl,l,rfl,O,G,J]
    .rw[WO g];show qi (B (i:=l+(r-l)/2) ag ?_);cases S:gX left a xs base (l+(r-l)/2)with
     |true=>show ql #[rfl,l+(r-l)/2+1,r,rfl,ag,O,ag,λi hi=>jw hs (j:=l+(r-l)/2) (Rk hi) ag S,J]
     |false=>show ql #[rfl,l,l+(r-l)/2,rfl,ag,ag,ag,G,λi hi Y=>jP hs hi Y S]
   .rintro c N ⟨rfl,l,r,rfl,lr,O,hm,G,J⟩;obtain rfl:l=r:=ag;show#[rfl,l,rfl,O,G,J]
   .show#[rfl,ap,as,rfl,U,f4,ag,f1,f2]
   .rintro c N ⟨rfl,r,rfl,O,G,J⟩;show ql (h r O G J)
end
def le(p q:BY):Prop:=Qt p.1<=Qt q.1
structure Up(a:W9):Prop where
 ik:IntKeys a
 up:a.toList.Pairwise le
theorem Up.at{a:W9}(u:Up a){i:Nat}(hi:i<a.size):∃t q,a[i]?=some (.int (K a i) t,q):=by
 let#[n,t,G]:=u.ik a[i] (by simp);let e:a[i]?=some a[i]:=getElem?_pos _ i hi;let F:a[i]=(.int n t,a[i].2):=U0 G rfl;show#[t,a[i].2,?_];unfold K;rw[e,F];rfl
theorem Up.LY{a:W9}(u:Up a):mE a 0 a.size:=λi j _ G F=>by
 cases e:i=j
 .rw[e];show OX _
 .let hi:i<a.size:=Qq G F;let z:=Pz.mp u.up i j ‹hi› ‹F› (Pb G e);rw[K_eq hi,K_eq F];simpa[le]using z
theorem mE.sub{a:W9}{lo hi F G:Nat}(h:mE a lo hi)(h1:lo<=F)(h2:G<=hi):mE a F G:=λi j hi I J=>h i j (L3 h1 hi) I (Ow J h2)
structure MI(a b out:W9)(ia ib:Nat):Prop where
 la:ia<=a.size
 lb:ib<=b.size
 pm:(out.toList++a.toList.drop ia++b.toList.drop ib).Perm (a.toList++b.toList)
 up:out.toList.Pairwise le
 ba:∀p∈out.toList,∀q∈a.toList.drop ia,le p q
 bb:∀p∈out.toList,∀q∈b.toList.drop ib,le p q
theorem MI.sz{a b out:W9}{F G:Nat}(m:MI a b out F G):out.size+(a.size-F)+(b.size-G)=a.size+b.size:=by
 have:=m.pm.length_eq;simp at this;omega
theorem MI.vz{a b out O:W9}{F N:Nat}(m:MI a b out F N)(ua:Up a){k:Nat}(S:F+k<=a.size)(J:O.toList=out.toList++(a.toList.drop F).take k)(h:∀p∈(a.toList.drop F).take k,∀q∈b.toList.drop N,le p q):MI a b O (F+k) N:=by
 let hd:a.toList.drop (F+k)=(a.toList.drop F).drop k:=(by rw[VX]);let L:(a.toList.drop F).Pairwise le:=ua.up.sublist (Sb _ _);let R:=L;rw[<-PL k (a.toList.drop F)]at R;let#[U,p2,Y]:=OD.mp R;show#[S,m.lb,3,λp I q G=>?_,λp I q G=>?_]
 .rw[J,hd,OO out.toList,PL];show m.pm
 .rw[J,OD];show#[m.up,U,λp L q G=>m.ba p L q (Q8 G)]
 .rw[hd]at G;rw[J]at I;rcases qj.mp I with z|z
  .show m.ba p z q (RO G)
  .show Y p z q G
 .rw[J]at I;rcases qj.mp I with z|z
  .show m.bb p z q G
  .show h p z q G
theorem MI.wF{a b out O:W9}{N F:Nat}(m:MI a b out N F)(Y:Up b){k:Nat}(S:F+k<=b.size)(J:O.toList=out.toList++(b.toList.drop F).take k)(h:∀p∈(b.toList.drop F).take k,∀q∈a.toList.drop N,le p q):MI a b O N (F+k):=by
 let hd:b.toList.drop (F+k)=(b.toList.drop F).drop k:=(by rw[VX]);let L:(b.toList.drop F).Pairwise le:=Y.up.sublist (Sb _ _);let R:=L;rw[<-PL k (b.toList.drop F)]at R;let#[U,p2,p3]:=OD.mp R;show#[m.la,S,3,λp I q G=>?_,λp I q G=>?_]
 .show RU ?_ m.pm;rw[J,hd];let e:b.toList.drop F=(b.toList.drop F).take k++(b.toList.drop F).drop k:=(PL _ _).symm
  conv=>rhs;rw[e]
  generalize (b.toList.drop F).take k=T;generalize (b.toList.drop F).drop k=D;rw[OO,OO,OO];show QJ _ ?_;rw[<-OO, <-OO];show Qw _ QZ
 .rw[J,OD];show#[m.up,U,λp L q G=>m.bb p L q (Q8 G)]
 .rw[J]at I;rcases qj.mp I with z|z
  .show m.ba p z q G
  .show h p z q G
 .rw[hd]at G;rw[J]at I;rcases qj.mp I with z|z
  .show m.bb p z q (RO G)
  .show p3 p z q G
def Good(a b R:W9):Prop:=R.toList.Perm (a.toList++b.toList)/\R.toList.Pairwise le
theorem fg{a:W9}{i:Nat}{q:BY}(h:q∈a.toList.drop i):∃j,i<=j/\j<a.size/\Qt q.1=K a j:=by
 let#[n,F,e]:=Ua.mp h;let G:i+n<a.size:=by
  rw[P4]at F;simp at F;show P8 F
 show#[i+n,ag,G,?_];rw[K_eq G, <-e,U4];simp
theorem fh{a:W9}{i k:Nat}{q:BY}(h:q∈(a.toList.drop i).take k):∃j,j<k/\i+j<a.size/\Qt q.1=K a (i+j):=by
 let#[n,G,e]:=Ua.mp h;rw[Om,P4]at G;simp at G;let F:i+n<a.size:=ag;show#[n,ag,F,?_];rw[K_eq F, <-e,Rl,U4];simp
theorem MI.iT{a b out:W9}{F G:Nat}(m:MI a b out F G)(S:Up a)(U:Up b)(hi:F<a.size){p:BY}(I:a[F]?=some p)(h:∀j,G<=j->j<b.size->K a F<=K b j):MI a b (out.push p) (F+1) G:=by
 let ep:a[F]=p:=(by rw[getElem?_pos a F hi]at I;show sS I);show m.vz S (k:=1) (U5 hi) ?_ λx O q L=>?_
 .rw[SM,Qd ‹hi›];simp[ep]
 .let#[j,Y,_,e]:=fh O;let#[R,h2,N,J]:=fg L;have:j=0:=ag;subst this;change Qt x.1<=Qt q.1;rw[e,J];show h R h2 N
theorem MI.mW{a b out:W9}{G F:Nat}(m:MI a b out G F)(Y:Up a)(S:Up b)(hi:F<b.size){p:BY}(I:b[F]?=some p)(h:∀j,G<=j->j<a.size->K b F<=K a j):MI a b (out.push p) G (F+1):=by
 let ep:b[F]=p:=(by rw[getElem?_pos b F hi]at I;show sS I);show m.wF S (k:=1) (U5 hi) ?_ λx O q L=>?_
 .rw[SM,Qd ‹hi›];simp[ep]
 .let#[j,U,_,e]:=fh O;let#[R,h2,N,J]:=fg L;have:j=0:=ag;subst this;change Qt x.1<=Qt q.1;rw[e,J];show h R h2 N
theorem wD{a:W9}{i k:Nat}:(a.extract i (i+k)).toList=(a.toList.drop i).take k:=by
 rw[Ss,P9];congr 1;show TL i k
theorem lG{a:W9}{i:Nat}:(a.extract i a.size).toList=a.toList.drop i:=by
 rw[Ss,P9];show OV ?_;rw[P4];simp
theorem MI.rG{a b out:W9}{G F:Nat}(m:MI a b out G F)(J:Up a)(h:F=b.size):Good a b (out++a.extract G a.size++b.extract F b.size):=by
 let e:(out++a.extract G a.size++b.extract F b.size).toList=out.toList++a.toList.drop G++b.toList.drop F:=by
  rw[Po,Po,lG,lG]
 show#[by rw[e];show m.pm,?_];rw[e,h,List.drop_of_length_le (l:=b.toList) (by simp),UB,OD];show#[m.up,J.up.sublist (Sb _ _),λp L q I=>m.ba p L q I]
theorem MI.last{a b out:W9}{F G:Nat}(m:MI a b out F G)(S:Up a)(R:Up b)(hi:F+1=a.size)(h:∀j,G<=j->j<b.size->K b j<=K a F):Good a b (out++b.extract G b.size++a.extract F a.size):=by
 let e:(out++b.extract G b.size++a.extract F a.size).toList=out.toList++b.toList.drop G++a.toList.drop F:=by
  rw[Po,Po,lG,lG]
 show#[3]
 .rw[e];show RU ?_ m.pm;rw[OO,OO];show QJ _ QZ
 .rw[e,OD,OD];show#[#[m.up,R.up.sublist (Sb _ _),λp J q I=>m.bb p J q I],S.up.sublist (Sb _ _),λp J q I=>?_];rcases qj.mp J with z|z
  .show m.ba p z q I
  .let#[j,h1,h2,N]:=fg z;let#[O,U,Y,L]:=fg I;have:O=F:=ag;subst this;change Qt p.1<=Qt q.1;rw[N,L];show h j h1 h2
theorem MI.Je{a b out:W9}{F G:Nat}(m:MI a b out F G)(Y:Up a){k:Nat}(I:F+k<=a.size)(h:∀i j,i<k->G<=j->j<b.size->K a (F+i)<=K b j):MI a b (out++a.extract F (F+k)) (F+k) G :=
 m.vz Y I (by rw[Po,wD]) λp N q L=>by
  let#[j,h1,h2,O]:=fh N;let#[S,R,U,J]:=fg L;change Qt p.1<=Qt q.1;rw[O,J];show h j S h1 R U
theorem MI.Ck{a b out:W9}{G F:Nat}(m:MI a b out G F)(U:Up b){k:Nat}(I:F+k<=b.size)(h:∀i j,i<k->G<=j->j<a.size->K b (F+i)<=K a j):MI a b (out++b.extract F (F+k)) G (F+k):=
 m.wF U I (by rw[Po,wD]) λp N q L=>by
  let#[j,h1,h2,O]:=fh N;let#[S,R,Y,J]:=fg L;change Qt p.1<=Qt q.1;rw[O,J];show h j S h1 R Y
theorem C1{a:Int}{xs:W9}{base n r:Nat}(I:∀i,i<r->gX false a xs base i=true)(F:∀i,r<=i->i<n->gX false a xs base i=false):(∀i,i<r->K xs (base+i)<=a)/\∀j,base+r<=j->j<base+n->a<K xs j:=by
 show#[λi hi=>?_,λj G J=>?_]
 .have:=I i hi;unfold gX at this;simpa using this
 .have:=F (j-base) (TM G) ag;unfold gX at this;rw[show base+(j-base)=j by omega]at this;simpa using this
theorem vt{a:Int}{xs:W9}{base n r:Nat}(I:∀i,i<r->gX true a xs base i=true)(F:∀i,r<=i->i<n->gX true a xs base i=false):(∀i,i<r->K xs (base+i)<a)/\∀j,base+r<=j->j<base+n->a<=K xs j:=by
 show#[λi hi=>?_,λj G J=>?_]
 .have:=I i hi;unfold gX at this;simpa using this
 .have:=F (j-base) (TM G) ag;unfold gX at this;rw[show base+(j-base)=j by omega]at this;simpa using this
theorem MI.grow{a b out O:W9}{G J I B:Nat}(m:MI a b out G J)(F:MI a b O I B)(h1:G<=I)(h2:J<=B):out.size<=O.size:=by
 let N:=m.sz;let L:=F.sz;have:=F.la;have:=F.lb;omega
def Cp:Array BY->Array BY->StateT OM RS (Array BY):=sortPriv% PySem.Builtin.mergeLo
structure wJ(st st':OM):Prop where
 arr:vu st'=vu st
 kind:kindOf st'=kindOf st
 failed:Q3 st'=Q3 st
 pend:Oo st'=Oo st
section
variable{prog:rn}{w:By}{A:Oj}{E:WV}{s:k8}{a₀:W9}
theorem bf{α:Type}{c:Prop}[Decidable c]{m n:StateT OM RS α}{Q:α->OM->Prop}{st:OM}(h1:c->Wy (model prog w) A E s m Q st)(h2:¬ c->Wy (model prog w) A E s n Q st):Wy (model prog w) A E s (if c then m else n) Q st:=by
 cases z:c
 .rw[WQ z];show h1 z
 .rw[WO z];show h2 z
def Iq:Nat->StateT OM RS Unit:=sortPriv% PySem.Builtin.setMinGallop
theorem zL{F st:OM}{g:Nat}{Q:Unit->OM->Prop}(k:wJ F st)(h:∀G,wJ F G->Q () G):Wy (model prog w) A E s (Iq g) Q st :=
 Qu (h _ #[k.arr,k.kind,k.failed,k.pend])
theorem yw{st:OM}{a b:W9}{Q:Array BY->OM->Prop}(hk:kindOf st=Q2)(L:Up a)(N:Up b)(na:1<=a.size)(nb:1<=b.size)(h0:K b 0<K a 0)(hl:∀j,j<b.size->K b j<K a (a.size-1))
  (h:∀R ad,Good a b R->wJ st ad->Q R ad):Wy (model prog w) A E s (Cp a b) Q st:=by
 show qi (S9 (QP #[5]));let#[t0,q0,e0]:=N.at (i:=0) (U6 nb);show qi (bT e0 ?_);let sa:=L.LY;let sb:=N.LY;let M0:MI a b ([(Value.int (K b 0) t0,q0)].toArray) 0 1:=by
  let M:MI a b ([].toArray) 0 0:=#[OC _,OC _,by simp,SK,(λp hp=>by cases hp),(λp hp=>by cases hp)];show M.mW L N (U6 nb) e0 λj _ hj=>by
   have:=sa 0 j ag ag hj;omega
 show bf (λg=>?_) (λg=>?_)
 .show ql (h _ _ (M0.rG L ‹g›) #[1,1])
 let g1:¬ 1=b.size:=‹g›;show bf (λg=>?_) (λg=>?_)
 .let g':0+1=a.size:=‹g›;show ql (h _ _ (M0.last L N g' λj _ hj=>?_) #[1,1]);have:=hl j hj;rw[<-g']at this;show OH this
 let g2:¬ 0+1=a.size:=‹g›;show qi (Rj ?_);show qi (PH (OP (I:=λx c ad=>LP λout F G mg=>Bu (c=(none,out,F,G,mg)) (MI a b out F G) (F+1<a.size) (G<b.size) (x+1<=out.size) (wJ st ad)) (Q:=λc ad=>∃R,uX (Good a b R) (c.1=some R) (wJ st ad)) ?_ ?_ ?_) ?_)
 .rintro x c aT bl bg ⟨out,F,G,mg,rfl,M,U,J,lo,K1⟩;show qi (PH (OP (I:=λy c ad=>EK λS F G ac bc=>Bu (c=(none,S,F,G,ac,bc)) (MI a b S F G) (F+1<a.size) (G<b.size) (out.size+y<=S.size) (wJ st ad))
   (Q:=λc ad=>wJ st ad/\((∃R,Good a b R/\c.1=some R)\/(EK λS F G ac bc=>HR (c=(none,S,F,G,ac,bc)) (MI a b S F G) (F+1<a.size) (G<b.size) (out.size+1<=S.size)))) ?_ ?_ ?_) ?_)
  .rintro y c a4 bb ba ⟨S,F,G,ac,bc,rfl,M,U,J,a7,K2⟩;let a9:kindOf a4=Q2:=K2.kind.trans hk;let#[tb,qb,eb]:=N.at J;let#[ta,qa,ea]:=L.at (i:=F) (SN U);show qi (bT eb (qi (bT ea (qi (tG a9 rfl rfl ?_)))));cases c:K b G<K a F
   .rw[decide_eq_true c];show qi (bT eb ?_);let M2:=M.mW L N J eb λj h1 h2=>by
     have:=sa F j ag h1 h2;omega
    show bf (λg=>?_) (λg=>?_)
    .show ql #[K2,.inl #[_,M2.rG L ‹g›,rfl]]
    .let g':¬ G+1=b.size:=‹g›;let sz:(S.push (Value.int (K b G) tb,qb)).size=S.size+1:=Ta ..;show bf (λg=>?_) (λg=>?_)
     .show ql #[K2,.inr #[S.push (Value.int (K b G) tb,qb),F,G+1,_,0,M2,U,Pb J g',ag]]
     .show ql #[S.push (Value.int (K b G) tb,qb),F,G+1,_,0,M2,U,Pb J g',ag,K2]
   .rw[decide_eq_false c];show qi (bT ea ?_);let M2:=M.iT L N (SN U) ea λj h1 h2=>by
     have:=sb G j ag h1 h2;omega
    show bf (λg=>?_) (λg=>?_)
    .let g':F+1+1=a.size:=‹g›;show ql #[K2,.inl #[_,M2.last L N g' (λj h1 h2=>?_),rfl]];have:=hl j h2;rw[show a.size-1=F+1 by show Qv Qe (id (RH g'))]at this;show OH this
    .let g':¬ F+1+1=a.size:=‹g›;let sz:(S.push (Value.int (K a F) ta,qa)).size=S.size+1:=Ta ..;show bf (λg=>?_) (λg=>?_)
     .show ql #[K2,.inr #[S.push (Value.int (K a F) ta,qa),F+1,G,_,0,M2,Pb U g',J,ag]]
     .show ql #[S.push (Value.int (K a F) ta,qa),F+1,G,_,0,M2,Pb U g',J,ag,K2]
  .rintro c a4 ⟨S,F,G,ac,bc,rfl,M,U,J,a7,K2⟩;show#[K2,.inr #[2,2,0,M,U,J,ag]]
  .show#[out,F,G,_,0,M,U,J,ag,K1]
  .rintro c a4 ⟨K2,⟨R,hR,e⟩|⟨S,F,G,ac,bc,rfl,M,U,J,a7⟩⟩
   .let#[c1,c2]:=c;cases e;show ql #[R,hR,rfl,K2]
   .show qi (S9 (QP #[5]));show qi (PH (OP (I:=λy c ad=>Kw λam F G mg ac bc=>Bu (c=(none,am,F,G,mg,ac,bc)) (MI a b am F G) (F+1<a.size) (G<b.size) (S.size<=am.size) (wJ st ad))
     (Q:=λc ad=>wJ st ad/\((∃R,Good a b R/\c.1=some R)\/(Kw λam F G mg ac bc=>HR (c=(none,am,F,G,mg,ac,bc)) (MI a b am F G) (F+1<a.size) (G<b.size) (S.size<=am.size)))) ?_ ?_ ?_) ?_)
    .rintro y c a6 bb ba ⟨am,F,G,a8,ac,bc,rfl,M,U,J,ap,K3⟩;show bf (λg=>?_) (λg=>?_)
     all_goals
      show qi (zL K3 λa5 Y=>?_);let aB:kindOf a5=Q2:=Y.kind.trans hk;let#[tb,qb,eb]:=N.at J;show qi (bT eb (qi (eZ (base:=F) (n:=a.size-F) (hint:=0) aB rfl (λi hi=>L.at (P8 hi)) (sa.sub (OC _) ag) ag λr hr r1 r2=>?_)));let#[R1,R2]:=C1 r1 r2;rw[show F+(a.size-F)=a.size by omega]at R2;let be:F+r<a.size:=by
       cases z:F+r<a.size
       .show z
       .let a1:=R1 (a.size-1-F) ag;rw[show F+(a.size-1-F)=a.size-1 by omega]at a1;have:=hl G J;omega
      let M1:=M.Je L (k:=r) (SO be) λi j hi h1 h2=>P1 (R1 i hi) (sb G j (OC _) h1 h2);show bf (λg2=>?_) (λg2=>?_)
      .show bf (λg3=>?_) (λg3=>?_)
       .let g':F+r+1=a.size:=‹g3›;show ql #[Y,.inl #[_,M1.last L N g' (λj h1 h2=>?_),rfl]];have:=hl j h2;rw[show a.size-1=F+r by omega]at this;show OH this
       .let bi:¬ F+r+1=a.size:=‹g3›;show bf (λg4=>?_) (λg4=>?_)
        .let g':F+r=a.size:=‹g4›;omega
        .clear g4;let M2:=M1.mW L N J eb λj h1 h2=>OH (R2 j ag h2);show qi (bT eb ?_);show bf (λg5=>ql #[Y,.inl #[_,M2.rG L ‹g5›,rfl]]) (λg5=>?_);let as:¬ G+1=b.size:=‹g5›;let#[ta,qa,ea]:=L.at (i:=F+r) ag;show qi (bT ea (qi (eZ (base:=G+1) (n:=b.size-(G+1)) (hint:=0) aB rfl (λi hi=>N.at (P8 hi)) (sb.sub (OC _) ag) ag λr' a3 a2 a0=>?_)));let#[T1,T2]:=vt a2 a0;rw[show G+1+(b.size-(G+1))=b.size by show RJ J]at T2;let M3:=M2.Ck N (k:=r') (WM (Qx J) a3) λi j hi h1 h2=>OH (Sq (T1 i hi) (sa _ j (OC _) h1 h2));show bf (λg6=>?_) (λg6=>?_)
         .show bf (λg7=>ql #[Y,.inl #[_,M3.rG L ‹g7›,rfl]]) (λg7=>?_);let bd:¬ G+1+r'=b.size:=‹g7›;show qi (bT ea ?_);let O:=M3.iT L N ag ea λj h1 h2=>T2 j ag h2;show bf (λg8=>?_) (λg8=>?_)
          .let ab:F+r+1+1=a.size:=‹g8›;show ql #[Y,.inl #[_,O.last L N ab (λj h1 h2=>?_),rfl]];have:=hl j h2;rw[show a.size-1=F+r+1 by show Qv Qe (id (RH ab))]at this;show OH this
          .let ab:¬ F+r+1+1=a.size:=‹g8›;show bf (λg9=>ql #[Y,.inr #[_,F+r+1,G+1+r',2,0,O,ag,ag,L3 ap (M.grow O ag ag)]]) (λg9=>ql #[_,F+r+1,G+1+r',2,0,O,ag,ag,L3 ap (M.grow O ag ag),Y])
         .let aD:r'=0:=ag;subst aD;show qi (bT ea ?_);let O:=M2.iT L N ag ea λj h1 h2=>T2 j ag h2;show bf (λg8=>?_) (λg8=>?_)
          .let ab:F+r+1+1=a.size:=‹g8›;show ql #[Y,.inl #[_,O.last L N ab (λj h1 h2=>?_),rfl]];have:=hl j h2;rw[show a.size-1=F+r+1 by show Qv Qe (id (RH ab))]at this;show OH this
          .let ab:¬ F+r+1+1=a.size:=‹g8›;show bf (λg9=>ql #[Y,.inr #[_,F+r+1,G+1,2,0,O,ag,Pb J as,L3 ap (M.grow O ag ag)]]) (λg9=>ql #[_,F+r+1,G+1,2,0,O,ag,Pb J as,L3 ap (M.grow O ag ag),Y])
      .let r0:r=0:=ag;subst r0;let M2:=M.mW L N J eb λj h1 h2=>OH (R2 j ag h2);show qi (bT eb ?_);show bf (λg5=>ql #[Y,.inl #[_,M2.rG L ‹g5›,rfl]]) (λg5=>?_);let as:¬ G+1=b.size:=‹g5›;let#[ta,qa,ea]:=L.at (i:=F) ag;show qi (bT ea (qi (eZ (base:=G+1) (n:=b.size-(G+1)) (hint:=0) aB rfl (λi hi=>N.at (P8 hi)) (sb.sub (OC _) ag) ag λr' a3 a2 a0=>?_)));let#[T1,T2]:=vt a2 a0;rw[show G+1+(b.size-(G+1))=b.size by show RJ J]at T2;let M3:=M2.Ck N (k:=r') (WM (Qx J) a3) λi j hi h1 h2=>OH (Sq (T1 i hi) (sa _ j (OC _) h1 h2));show bf (λg6=>?_) (λg6=>?_)
       .show bf (λg7=>ql #[Y,.inl #[_,M3.rG L ‹g7›,rfl]]) (λg7=>?_);let bd:¬ G+1+r'=b.size:=‹g7›;show qi (bT ea ?_);let O:=M3.iT L N ag ea λj h1 h2=>T2 j ag h2;show bf (λg8=>?_) (λg8=>?_)
        .let ab:F+1+1=a.size:=‹g8›;show ql #[Y,.inl #[_,O.last L N ab (λj h1 h2=>?_),rfl]];have:=hl j h2;rw[show a.size-1=F+1 by show Qv Qe (id (RH ab))]at this;show OH this
        .let ab:¬ F+1+1=a.size:=‹g8›;show bf (λg9=>ql #[Y,.inr #[_,F+1,G+1+r',2,0,O,Pb U ab,ag,L3 ap (M.grow O ag ag)]]) (λg9=>ql #[_,F+1,G+1+r',2,0,O,Pb U ab,ag,L3 ap (M.grow O ag ag),Y])
       .let aD:r'=0:=ag;subst aD;show qi (bT ea ?_);let O:=M2.iT L N ag ea λj h1 h2=>T2 j ag h2;show bf (λg8=>?_) (λg8=>?_)
        .let ab:F+1+1=a.size:=‹g8›;show ql #[Y,.inl #[_,O.last L N ab (λj h1 h2=>?_),rfl]];have:=hl j h2;rw[show a.size-1=F+1 by show Qv Qe (id (RH ab))]at this;show OH this
        .let ab:¬ F+1+1=a.size:=‹g8›;show bf (λg9=>ql #[Y,.inr #[_,F+1,G+1,2,0,O,Pb U ab,Pb J as,L3 ap (M.grow O ag ag)]]) (λg9=>ql #[_,F+1,G+1,2,0,O,ag,ag,L3 ap (M.grow O ag ag),Y])
    .rintro c a6 ⟨am,F,G,a8,ac,bc,rfl,M,U,J,ap,K3⟩;show#[K3,.inr #[2,2,_,0,M,U,J,ap]]
    .show#[S,F,G,2,0,M,U,J,rr _,K2]
    .rintro c a6 ⟨K3,⟨R,hR,e⟩|⟨am,F,G,a8,ac,bc,rfl,M,U,J,ap⟩⟩
     .let#[c1,c2]:=c;cases e;show ql #[R,hR,rfl,K3]
     .show qi (zL K3 λa5 Y=>?_);show ql #[am,F,G,0,M,U,J,ag,Y]
 .rintro c aT ⟨out,F,G,mg,rfl,M,U,J,lo,K1⟩;exfalso;have:=M.sz;omega
 .show#[2,_,0,M0,Pb na g2,Pb nb g1,rr _,#[1,1]]
 .rintro c aT ⟨R,hR,e,K1⟩;let#[c1,c2]:=c;cases e;show ql (h R aT hR K1)
end
def seg(a:W9)(k n:Nat):List BY:=(a.toList.drop k).take (n-k)
theorem jF{a:W9}{k n:Nat}(h:k<=n):a.toList.take n=a.toList.take k++seg a k n:=by
 unfold seg;let e:a.toList.take k=(a.toList.take n).take k:=(by rw[List.take_take,SQ h]);rw[e, <-List.drop_take,PL]
theorem oq{a:W9}{k n:Nat}{q:BY}(h:q∈seg a k n):∃j,k<=j/\j<n/\j<a.size/\Qt q.1=K a j:=by
 let#[j,h1,h2,e]:=fh h;show#[k+j,ag,P8 h1,h2,e]
theorem oi{a:W9}{n:Nat}{q:BY}(h:q∈a.toList.take n):∃j,j<n/\j<a.size/\Qt q.1=K a j:=by
 have:q∈(a.toList.drop 0).take n:=(by rw[VY];show h);let#[j,h1,h2,e]:=fh this;rw[VZ]at h2 e;show#[j,h1,h2,e]
theorem iB{a:W9}{k n:Nat}:(a.extract k n).toList=seg a k n:=by
 unfold seg;rw[Ss,P9]
theorem nW{a:W9}{n:Nat}:(a.extract 0 n).toList=a.toList.take n:=by
 rw[Ss,P9];simp
theorem y0{a:W9}{k:Nat}(h:k<a.size):seg a k (k+1)=[a[k]]:=by
 unfold seg;rw[Qd ‹h›];simp
structure MH(a b out:W9)(na nb:Nat):Prop where
 la:na<=a.size
 lb:nb<=b.size
 pm:(a.toList.take na++b.toList.take nb++out.toList.reverse).Perm (a.toList++b.toList)
 up:out.toList.reverse.Pairwise le
 ab:∀p∈a.toList.take na,∀q∈out.toList,le p q
 bb:∀p∈b.toList.take nb,∀q∈out.toList,le p q
theorem MH.sz{a b out:W9}{G F:Nat}(m:MH a b out G F):out.size+G+F=a.size+b.size:=by
 have:=m.pm.length_eq;let h1:=m.la;let h2:=m.lb;simp at this;omega
theorem MH.grow{a b out O:W9}{F G I B:Nat}(m:MH a b out F G)(J:MH a b O I B)(h1:I<=F)(h2:B<=G):out.size<=O.size:=by
 let N:=m.sz;let L:=J.sz;omega
theorem nN{out:W9}{l r:List BY}{q:BY}(h:out.toList.reverse=l++r.reverse)(F:q∈out.toList):q∈l\/q∈r:=by
 have:q∈out.toList.reverse:=PM.mpr F;rw[h]at this;rcases qj.mp this with z|z
 .show .inl z
 .show .inr (PM.mp z)
theorem MH.vz{a b out S:W9}{F J k:Nat}(m:MH a b out F J)(ua:Up a)(R:k<=F)(O:S.toList.reverse=seg a k F++out.toList.reverse)(h:∀i j,i<J->i<b.size->k<=j->j<F->K b i<=K a j):MH a b S k J:=by
 let N:=jF (a:=a) R;let L:(a.toList.take F).Pairwise le:=ua.up.sublist (QW _ _);rw[N]at L;let#[p1,p2,p3]:=OD.mp L;let ac:=m.la;show#[L3 R ac,m.lb,3,λp I q G=>?_,λp I q G=>?_]
 .show RU ?_ m.pm;rw[O,N];generalize seg a k F=T;generalize a.toList.take k=D;generalize b.toList.take J=B;rw[OO,OO,OO];show QJ _ ?_;rw[<-OO, <-OO];show Qw _ QZ
 .rw[O,OD];show#[p2,m.up,λp L q G=>m.ab p ?_ q (PM.mp G)];rw[N];show L8 _ L
 .rcases nN O G with z|z
  .show p3 p I q z
  .show m.ab p ?_ q z;rw[N];show O8 _ I
 .rcases nN O G with z|z
  .let#[i,Y,i2,e1]:=oi I;let#[j,j1,j2,j3,U]:=oq z;change Qt p.1<=Qt q.1;rw[e1,U];show h i j Y i2 j1 j2
  .show m.bb p I q z
theorem MH.wF{a b out S:W9}{O F k:Nat}(m:MH a b out O F)(ub:Up b)(R:k<=F)(N:S.toList.reverse=seg b k F++out.toList.reverse)(h:∀i j,i<O->i<a.size->k<=j->j<F->K a i<=K b j):MH a b S O k:=by
 let L:=jF (a:=b) R;let J:(b.toList.take F).Pairwise le:=ub.up.sublist (QW _ _);rw[L]at J;let#[p1,p2,p3]:=OD.mp J;let ac:=m.lb;show#[m.la,L3 R ac,3,λp I q G=>?_,λp I q G=>?_]
 .show RU ?_ m.pm;rw[N,L];generalize seg b k F=T;generalize b.toList.take k=D;generalize a.toList.take O=B;rw[OO,OO,OO]
 .rw[N,OD];show#[p2,m.up,λp J q G=>m.bb p ?_ q (PM.mp G)];rw[L];show L8 _ J
 .rcases nN N G with z|z
  .let#[i,Y,i2,e1]:=oi I;let#[j,j1,j2,j3,U]:=oq z;change Qt p.1<=Qt q.1;rw[e1,U];show h i j Y i2 j1 j2
  .show m.ab p I q z
 .rcases nN N G with z|z
  .show p3 p I q z
  .show m.bb p ?_ q z;rw[L];show O8 _ I
theorem MH.iT{a b out:W9}{F G:Nat}(m:MH a b out F G)(L:Up a)(I:1<=F){p:BY}(J:a[F-1]?=some p)(h:∀i,i<G->i<b.size->K b i<=K a (F-1)):MH a b (out.push p) (F-1) G:=by
 let N:=m.la;let hi:F-1<a.size:=Ub I N;let ep:a[F-1]=p:=(by rw[getElem?_pos a _ hi]at J;show sS J);show m.vz L (Wu F 1) ?_ λi j h1 h2 O R=>?_
 .have:=y0 hi;rw[show F-1+1=F by show UD I]at this;rw[this,SM,Rn,ep];rfl
 .rw[show j=F-1 by omega];show h i h1 h2
theorem MH.mW{a b out:W9}{G F:Nat}(m:MH a b out G F)(N:Up b)(I:1<=F){p:BY}(J:b[F-1]?=some p)(h:∀i,i<G->i<a.size->K a i<=K b (F-1)):MH a b (out.push p) G (F-1):=by
 let L:=m.lb;let hi:F-1<b.size:=Ub I L;let ep:b[F-1]=p:=(by rw[getElem?_pos b _ hi]at J;show sS J);show m.wF N (Wu F 1) ?_ λi j h1 h2 O R=>?_
 .have:=y0 hi;rw[show F-1+1=F by show UD I]at this;rw[this,SM,Rn,ep];rfl
 .rw[show j=F-1 by omega];show h i h1 h2
theorem MH.Je{a b out:W9}{F G k:Nat}(m:MH a b out F G)(J:Up a)(I:k<=F)(h:∀i j,i<G->i<b.size->k<=j->j<F->K b i<=K a j):MH a b (out++(a.extract k F).reverse) k G :=
 m.vz J I (by rw[Po,Rn,Su,Uc,iB]) h
theorem MH.Ck{a b out:W9}{G F k:Nat}(m:MH a b out G F)(J:Up b)(I:k<=F)(h:∀i j,i<G->i<a.size->k<=j->j<F->K a i<=K b j):MH a b (out++(b.extract k F).reverse) G k :=
 m.wF J I (by rw[Po,Rn,Su,Uc,iB]) h
theorem MH.done{a b out:W9}{G F:Nat}(m:MH a b out G F)(N:Up a)(L:Up b)(h:G=0\/F=0):Good a b (a.extract 0 G++b.extract 0 F++out.reverse):=by
 let e:(a.extract 0 G++b.extract 0 F++out.reverse).toList=a.toList.take G++b.toList.take F++out.toList.reverse:=by
  rw[Po,Po,nW,nW,Su]
 show#[by rw[e];show m.pm,?_];rw[e];rcases h with h|h
 .rw[h,Uj,Vq,OD];show#[L.up.sublist (QW _ _),m.up,λp J q I=>m.bb p J q (PM.mp I)]
 .rw[h,Uj,UB,OD];show#[N.up.sublist (QW _ _),m.up,λp J q I=>m.ab p J q (PM.mp I)]
theorem MH.first{a b out:W9}{I F:Nat}(m:MH a b out I F)(S:Up a)(R:Up b)(hn:F=1)(h:∀j,j<a.size->K b 0<=K a j):Good a b (b.extract 0 F++a.extract 0 I++out.reverse):=by
 let e:(b.extract 0 F++a.extract 0 I++out.reverse).toList=b.toList.take F++a.toList.take I++out.toList.reverse:=by
  rw[Po,Po,nW,nW,Su]
 show#[3]
 .rw[e];show(Qw _ QZ).trans m.pm
 .rw[e,OD,OD];show#[#[R.up.sublist (QW _ _),S.up.sublist (QW _ _),λp J q G=>?_],m.up,λp J q G=>?_]
  .let#[i,U,Y,N]:=oi J;let#[j,j1,O,L]:=oi G;change Qt p.1<=Qt q.1;rw[N,L,show i=0 by omega];show h j O
  .rcases qj.mp J with z|z
   .show m.bb p z q (PM.mp G)
   .show m.ab p z q (PM.mp G)
def Ct:Array BY->Array BY->StateT OM RS (Array BY):=sortPriv% PySem.Builtin.mergeHi
section
variable{prog:rn}{w:By}{A:Oj}{E:WV}{s:k8}{a₀:W9}
theorem ym{st:OM}{a b:W9}{Q:Array BY->OM->Prop}(hk:kindOf st=Q2)(J:Up a)(L:Up b)(G:1<=a.size)(F:1<=b.size)(h0:K b 0<K a 0)(hl:∀j,j<b.size->K b j<K a (a.size-1))
  (h:∀R ab,Good a b R->wJ st ab->Q R ab):Wy (model prog w) A E s (Ct a b) Q st:=by
 show qi (S9 (QP #[5]));let sa:=J.LY;let sb:=L.LY;let as:∀j,j<a.size->K b 0<=K a j:=λj hj=>by
  have:=sa 0 j (OC _) (OC _) hj;omega
 let#[t0,q0,e0]:=J.at (i:=a.size-1) ag;show qi (bT e0 ?_);let M0:MH a b ([(Value.int (K a (a.size-1)) t0,q0)].toArray) (a.size-1) b.size:=by
  let M:MH a b ([].toArray) a.size b.size:=#[rr _,rr _,(by rw[OV (l:=a.toList) (by simp),OV (l:=b.toList) (by simp)];simp),SK,(λp _ q hq=>by cases hq),(λp _ q hq=>by cases hq)];show M.iT J G e0 λi h1 h2=>OH (hl i h2)
 show bf (λg=>ql (h _ _ (M0.done J L (.inl ‹g›)) #[1,1])) (λg=>?_);let g1:¬ a.size-1=0:=‹g›;show bf (λg=>ql (h _ _ (M0.first J L ‹g› as) #[1,1])) (λg=>?_);let g2:¬ b.size=1:=‹g›;show qi (Rj ?_);show qi (PH (OP (I:=λx c ab=>LP λG F out mg=>Bu (c=(none,G,F,out,mg)) (MH a b out G F) (1<=G) (2<=F) (x+1<=out.size) (wJ st ab)) (Q:=λc ab=>∃R,uX (Good a b R) (c.1=some R) (wJ st ab)) ?_ ?_ ?_) ?_)
 .rintro x c aT bp bm ⟨G,F,out,mg,rfl,M,la,lb,lo,K1⟩;show qi (PH (OP (I:=λy c ab=>EK λG F S ac bc=>Bu (c=(none,G,F,S,ac,bc)) (MH a b S G F) (1<=G) (2<=F) (out.size+y<=S.size) (wJ st ab))
   (Q:=λc ab=>wJ st ab/\((∃R,Good a b R/\c.1=some R)\/(EK λG F S ac bc=>HR (c=(none,G,F,S,ac,bc)) (MH a b S G F) (1<=G) (2<=F) (out.size+1<=S.size)))) ?_ ?_ ?_) ?_)
  .rintro y c a3 be bd ⟨G,F,S,ac,bc,rfl,M,la,lb,a6,K2⟩;let ba:kindOf a3=Q2:=K2.kind.trans hk;let lA:=M.la;let lB:=M.lb;let#[tb,qb,eb]:=L.at (i:=F-1) ag;let#[ta,qa,Y]:=J.at (i:=G-1) ag;show qi (bT eb (qi (bT Y (qi (tG ba rfl rfl ?_)))));cases c:K b (F-1)<K a (G-1)
   .rw[decide_eq_true c];show qi (bT Y ?_);let M2:=M.iT J ag Y λi h1 h2=>OH (Sr (sb i (F-1) (OC _) ag ag) c);show bf (λg=>ql #[K2,.inl #[_,M2.done J L (.inl ‹g›),rfl]]) (λg=>?_);let g':¬ G-1=0:=‹g›;let sz:(S.push (Value.int (K a (G-1)) ta,qa)).size=S.size+1:=Ta ..;show bf (λg=>ql #[K2,.inr #[G-1,F,S.push (Value.int (K a (G-1)) ta,qa),_,0,M2,ag,lb,ag]]) (λg=>ql #[G-1,F,S.push (Value.int (K a (G-1)) ta,qa),_,0,M2,ag,lb,ag,K2])
   .rw[decide_eq_false c];show qi (bT eb ?_);let M2:=M.mW L ag eb λi h1 h2=>P1 (sa i (G-1) (OC _) ag ag) (Int.not_lt.mp c);show bf (λg=>ql #[K2,.inl #[_,M2.first J L ‹g› as,rfl]]) (λg=>?_);let g':¬ F-1=1:=‹g›;let sz:(S.push (Value.int (K b (F-1)) tb,qb)).size=S.size+1:=Ta ..;show bf (λg=>ql #[K2,.inr #[G,F-1,S.push (Value.int (K b (F-1)) tb,qb),_,0,M2,la,ag,ag]]) (λg=>ql #[G,F-1,S.push (Value.int (K b (F-1)) tb,qb),_,0,M2,la,ag,ag,K2])
  .rintro c a3 ⟨G,F,S,ac,bc,rfl,M,la,lb,a6,K2⟩;show#[K2,.inr #[G,F,S,_,0,M,la,lb,ag]]
  .show#[G,F,out,_,0,M,la,lb,ag,K1]
  .rintro c a3 ⟨K2,⟨R,hR,e⟩|⟨G,F,S,ac,bc,rfl,M,la,lb,a6⟩⟩
   .let#[c1,c2]:=c;cases e;show ql #[R,hR,rfl,K2]
   .show qi (S9 (QP #[5]));show qi (PH (OP (I:=λy c ab=>Kw λG F ad mg ac bc=>Bu (c=(none,G,F,ad,mg,ac,bc)) (MH a b ad G F) (1<=G) (2<=F) (S.size<=ad.size) (wJ st ab))
     (Q:=λc ab=>wJ st ab/\((∃R,Good a b R/\c.1=some R)\/(Kw λG F ad mg ac bc=>HR (c=(none,G,F,ad,mg,ac,bc)) (MH a b ad G F) (1<=G) (2<=F) (S.size<=ad.size)))) ?_ ?_ ?_) ?_)
    .rintro y c a5 be bd ⟨G,F,ad,a7,ac,bc,rfl,M,la,lb,am,K3⟩;show bf (λg=>?_) (λg=>?_)
     all_goals
      show qi (zL K3 λa4 O=>?_);let aB:kindOf a4=Q2:=O.kind.trans hk;let lA:=M.la;let lB:=M.lb;let#[tb,qb,eb]:=L.at (i:=F-1) ag;show qi (bT eb (qi (eZ (base:=0) (n:=G) (hint:=G-1) aB rfl (λi hi=>J.at ag) (sa.sub (OC _) ag) ag λr hr r1 r2=>?_)));let#[R1,R2]:=C1 r1 r2;simp only[VZ]at R1 R2;let M1:=M.Je J (k:=r) ag λi j h1 h2 h3 h4=>OH (Sr (sb i (F-1) (OC _) ag ag) (R2 j h3 h4));show bf (λg2=>?_) (λg2=>?_)
      .show bf (λg3=>ql #[O,.inl #[_,M1.done J L (.inl ‹g3›),rfl]]) (λg3=>?_);let bn:¬ r=0:=‹g3›;let M2:=M1.mW L ag eb λi h1 h2=>R1 i ag;show qi (bT eb ?_);show bf (λg5=>ql #[O,.inl #[_,M2.first J L ‹g5› as,rfl]]) (λg5=>?_);let a8:¬ F-1=1:=‹g5›;let#[ta,qa,Y]:=J.at (i:=r-1) ag;show qi (bT Y (qi (eZ (base:=0) (n:=F-1) (hint:=F-1-1) aB rfl (λi hi=>L.at ag) (sb.sub (OC _) ag) ag λU bi a2 a0=>?_)));let#[T1,T2]:=vt a2 a0;simp only[VZ]at T1 T2;let M3:=M2.Ck L (k:=U) ag λi j h1 h2 h3 h4=>P1 (sa i (r-1) (OC _) ag ag) (T2 j h3 h4);show bf (λg6=>?_) (λg6=>?_)
       .show bf (λg7=>ql #[O,.inl #[_,M3.first J L ‹g7› as,rfl]]) (λg7=>?_);let bg:¬ U=1:=‹g7›;show bf (λap=>ql #[O,.inl #[_,M3.done J L (.inr ‹ap›),rfl]]) (λap=>?_);let bb:¬ U=0:=‹ap›;show qi (bT Y ?_);let N:=M3.iT J ag Y λi h1 h2=>OH (T1 i ag);show bf (λg8=>ql #[O,.inl #[_,N.done J L (.inl ‹g8›),rfl]]) (λg8=>?_);let a1:¬ r-1=0:=‹g8›;show bf (λg9=>ql #[O,.inr #[r-1,U,2,_,0,N,ag,ag,L3 am (M.grow N ag ag)]]) (λg9=>ql #[r-1,U,2,_,0,N,ag,ag,L3 am (M.grow N ag ag),O])
       .let a9:¬ F-1-U>0:=g6;let aD:U=F-1:=ag;subst aD;show qi (bT Y ?_);let N:=M2.iT J ag Y λi h1 h2=>OH (T1 i ag);show bf (λg8=>ql #[O,.inl #[_,N.done J L (.inl ‹g8›),rfl]]) (λg8=>?_);let a1:¬ r-1=0:=‹g8›;show bf (λg9=>ql #[O,.inr #[r-1,F-1,2,_,0,N,ag,ag,L3 am (M.grow N ag ag)]]) (λg9=>ql #[r-1,F-1,2,_,0,N,ag,ag,L3 am (M.grow N ag ag),O])
      .let bl:¬ G-r>0:=g2;let r0:r=G:=ag;subst r0;let M2:=M.mW L ag eb λi h1 h2=>R1 i ag;show qi (bT eb ?_);show bf (λg5=>ql #[O,.inl #[_,M2.first J L ‹g5› as,rfl]]) (λg5=>?_);let a8:¬ F-1=1:=‹g5›;let#[ta,qa,Y]:=J.at (i:=r-1) ag;show qi (bT Y (qi (eZ (base:=0) (n:=F-1) (hint:=F-1-1) aB rfl (λi hi=>L.at ag) (sb.sub (OC _) ag) ag λU bi a2 a0=>?_)));let#[T1,T2]:=vt a2 a0;simp only[VZ]at T1 T2;let M3:=M2.Ck L (k:=U) ag λi j h1 h2 h3 h4=>P1 (sa i (r-1) (OC _) ag ag) (T2 j h3 h4);show bf (λg6=>?_) (λg6=>?_)
       .show bf (λg7=>ql #[O,.inl #[_,M3.first J L ‹g7› as,rfl]]) (λg7=>?_);let bg:¬ U=1:=‹g7›;show bf (λap=>ql #[O,.inl #[_,M3.done J L (.inr ‹ap›),rfl]]) (λap=>?_);let bb:¬ U=0:=‹ap›;show qi (bT Y ?_);let N:=M3.iT J ag Y λi h1 h2=>OH (T1 i ag);show bf (λg8=>ql #[O,.inl #[_,N.done J L (.inl ‹g8›),rfl]]) (λg8=>?_);let a1:¬ r-1=0:=‹g8›;show bf (λg9=>ql #[O,.inr #[r-1,U,2,_,0,N,ag,ag,L3 am (M.grow N ag ag)]]) (λg9=>ql #[r-1,U,2,_,0,N,ag,ag,L3 am (M.grow N ag ag),O])
       .let a9:¬ F-1-U>0:=g6;let aD:U=F-1:=ag;subst aD;show qi (bT Y ?_);let N:=M2.iT J ag Y λi h1 h2=>OH (T1 i ag);show bf (λg8=>ql #[O,.inl #[_,N.done J L (.inl ‹g8›),rfl]]) (λg8=>?_);let a1:¬ r-1=0:=‹g8›;show bf (λg9=>ql #[O,.inr #[r-1,F-1,2,_,0,N,ag,ag,L3 am (M.grow N ag ag)]]) (λg9=>ql #[r-1,F-1,2,_,0,N,ag,ag,L3 am (M.grow N ag ag),O])
    .rintro c a5 ⟨G,F,ad,a7,ac,bc,rfl,M,la,lb,am,K3⟩;show#[K3,.inr #[G,F,ad,2,0,M,la,lb,am]]
    .show#[G,F,S,2,0,M,la,lb,rr _,K2]
    .rintro c a5 ⟨K3,⟨R,hR,e⟩|⟨G,F,ad,a7,ac,bc,rfl,M,la,lb,am⟩⟩
     .let#[c1,c2]:=c;cases e;show ql #[R,hR,rfl,K3]
     .show qi (zL K3 λa4 O=>?_);show ql #[G,F,ad,0,M,la,lb,ag,O]
 .rintro c aT ⟨G,F,out,mg,rfl,M,la,lb,lo,K1⟩;exfalso;have:=M.sz;omega
 .show#[2,_,0,M0,ag,ag,rr _,#[1,1]]
 .rintro c aT ⟨R,hR,e,K1⟩;let#[c1,c2]:=c;cases e;show ql (h R aT hR K1)
end
def putAll(a:W9)(o n:Nat)(l:List BY):Array BY:=(l.zipIdx n).foldl (λa (p,j)=>a.setIfInBounds (o+j) p) a
theorem kA(o:Nat):∀(l:List BY)(n:Nat)(a:W9),o+n+l.length<=a.size->∀i,(putAll a o n l)[i]?=if o+n<=i/\i<o+n+l.length then l[i-(o+n)]? else a[i]?
 | [],n,a,_,i=>by
  rw[WO (by rw[V0];omega)];rfl
 |p::l,n,a,h,i=>by
  rw[K4]at h;change(putAll (a.setIfInBounds (o+n) p) o (n+1) l)[i]?=_;rw[kA o l (n+1) _ (by rw[Array.size_setIfInBounds];omega),K4,Array.getElem?_setIfInBounds];cases c:o+(n+1)<=i/\i<o+(n+1)+l.length
  .rw[WQ c,WQ ag,show i-(o+n)=(i-(o+(n+1)))+1 by omega];simp
  .rw[WO c];cases d:o+n=i
   .rw[WQ d,WQ (Nat.lt_of_add_right_lt h),WQ ag, <-d];simp
   .rw[WO d,WO ag]
theorem vc{a:W9}{o:Nat}{l:List BY}(h:o+l.length<=a.size):(putAll a o 0 l).toList=a.toList.take o++l++a.toList.drop (o+l.length):=by
 apply U7;intro i;let e:=kA o l 0 a ag i;rw[Px,e,OO];cases G:i<o
 .rw[WO ag,Qc (by rw[Om];simp;omega),List.getElem?_take];simp[G]
 .rw[PF (by rw[Om];omega)];let F:(a.toList.take o).length=o:=(by rw[Om];simp;omega);rw[F];cases I:i<o+l.length
  .rw[WQ ag,Qc ag];rfl
  .rw[WO ag,PF ag,List.getElem?_drop,Px];congr 1;omega
theorem vd{a:W9}{lo hi i:Nat}(h:i<hi-lo)(hs:hi<=a.size):K (a.extract lo hi) i=K a (lo+i):=by
 show VD ?_;rw[Array.getElem?_extract];rw[WQ ag]
theorem qG{a:W9}{lo hi:Nat}(hs:hi<=a.size):(a.extract lo hi).size=hi-lo:=by
 rw[Array.size_extract];omega
theorem Ew{a₀ a:W9}(O:a.Perm a₀)(k:Ks a₀){lo hi:Nat}(hs:hi<=a.size)(h:mE a lo hi):Up (a.extract lo hi):=by
 show#[λp I=>k.ik p ((P6.mp O).mem_iff.mp ?_),Pz.mpr λi j L N S=>?_]
 .rw[iB]at I;show RO (Q8 I)
 .let sz:=qG (a:=a) (lo:=lo) hs;let R:i<(a.extract lo hi).size:=(by rw[<-Pk];show L);let J:j<(a.extract lo hi).size:=(by rw[<-Pk];show N);let G:=K_eq R;let F:=K_eq J;rw[vd ag hs]at G F;let z:=h (lo+i) (lo+j) ag ag ag;rw[G,F]at z;simpa[le]using z
theorem parts{a:W9}{lo mid hi:Nat}(h1:lo<=mid)(h2:mid<=hi):a.toList=a.toList.take lo++(seg a lo mid++seg a mid hi)++a.toList.drop hi:=by
 let G:=jF (a:=a) h1;let F:=jF (a:=a) h2;rw[<-OO, <-G, <-F,PL]
theorem zA{a R:W9}{lo mid hi:Nat}(h1:lo<=mid)(h2:mid<=hi)(Y:hi<=a.size)(G:Good (a.extract lo mid) (a.extract mid hi) R) :
  R.size=hi-lo/\(putAll a lo 0 R.toList).Perm a/\(∀i,¬ (lo<=i/\i<hi)->(putAll a lo 0 R.toList)[i]?=a[i]?)/\mE (putAll a lo 0 R.toList) lo hi/\∀i,lo<=i->i<hi->∃j,lo<=j/\j<hi/\K (putAll a lo 0 R.toList) i=K a j:=by
 let#[L,g2]:=G;let sz:R.size=hi-lo:=by
  have:=L.length_eq;simp only[G1,Pk]at this;rw[qG (L3 h2 Y),qG Y]at this;omega
 let hl:R.toList.length=hi-lo:=(by rw[Pk];show sz);let get:=kA lo R.toList 0 a ag;let F:∀i,lo<=i->i<hi->∃(h:i-lo<R.size),K (putAll a lo 0 R.toList) i=Qt (R[i-lo]).1:=λi ac U=>by
  let O:i-lo<R.size:=ag;show#[O,?_];let e:=get i;rw[WQ ag]at e;unfold K;rw[e,Px,Nat.add_zero,getElem?_pos R (i-lo) O]
 show#[sz,?_,λi hi=>?_,λi j hi ab hj=>?_,λi ac U=>?_]
 .rw[P6,vc ag]
  conv=>rhs;rw[parts (a:=a) h1 h2]
  rw[hl,show lo+(hi-lo)=hi by omega];show Qw _ (QJ _ ?_);rw[<-iB, <-iB];show L
 .rw[get i,WO ag]
 .let#[S,J]:=F i hi (Qq ab hj);let#[a2,e2]:=F j (L3 hi ab) hj;rw[J,e2];cases z:i=j
  .subst z;show OX _
  .have:=Pz.mp g2 (i-lo) (j-lo) ‹S› ‹a2› ag;simpa[le]using this
 .let#[S,J]:=F i ac U;let hm:R[i-lo]∈(a.extract lo mid).toList++(a.extract mid hi).toList:=L.mem_iff.mp (by simp);rw[J];rcases qj.mp hm with z|z
  .rw[iB]at z;let#[j,I,N,j3,e]:=oq z;show#[j,I,Ow N h2,e]
  .rw[iB]at z;let#[j,I,N,j3,e]:=oq z;show#[j,L3 h1 I,N,e]
structure Jm(a₀:W9)(st st':OM)(i lo n:Nat)(pw:Nat):Prop where
 S:SI a₀ st'
 out:∀j,¬ (lo<=j/\j<lo+n)->(vu st')[j]?=(vu st)[j]?
 up:mE (vu st') lo (lo+n)
 pend:Oo st'=((Oo st).setIfInBounds i (lo,n,pw)).eraseIdxIfInBounds (i+1)
section
variable{prog:rn}{w:By}{A:Oj}{E:WV}{s:k8}{a₀:W9}
theorem IL{st x:OM}{Q:PUnit->OM->Prop}(h:Q #[] x):Wy (model prog w) A E s (set x:StateT OM RS PUnit) Q st:=by
 unfold Wy;rw[StateT.run_set];show wpAny_pure #[rfl,h]
theorem Cm{st:OM}{i F I pw nb ad:Nat}{Q:Bool->OM->Prop}(S:SI a₀ st)(k:Ks a₀)(h1:(Oo st)[i]?=some (F,I,pw))(h2:(Oo st)[i+1]?=some (F+I,nb,ad))(n1:1<=I)(n2:1<=nb)(hsz:F+I+nb<=a₀.size)
  (u1:mE (vu st) F (F+I)) (u2:mE (vu st) (F+I) (F+I+nb)) (h:∀ac,Jm a₀ st ac i F (I+nb) pw->Q true ac):Wy (model prog w) A E s (mergeAt' i) Q st:=by
 show qi (Rj ?_);let hs:=S.size;let ka:∀{j:Nat},j<(vu st).size->∃t q,(vu st)[j]?=some (.int (K (vu st) j) t,q):=λY=>yY S.perm k Y;rw[h1,h2];show qi (IL ?_);let#[tb,qb,eb]:=ka (j:=F+I) ag;show qi (bT eb (qi (eZ (base:=F) (n:=I) (hint:=0) S.kind rfl (λi hi=>ka ag) u1 ag λr hr r1 r2=>?_)));let#[R1,R2]:=C1 r1 r2;show bf (λg=>?_) (λg=>?_)
 .let g':I-r=0:=‹g›;show ql (h _ #[#[S.perm,S.kind,S.failed],λ_ _=>rfl,λi j hi N Y=>?_,rfl]);change K (vu st) i<=K (vu st) j;cases O:j<F+I
  .show u1 i j hi N O
  .by_cases L:i<F+I
   .let U:=R1 (i-F) ag;rw[show F+(i-F)=i by show RJ hi]at U;show P1 U (u2 (F+I) j (rr _) (OU O) ag)
   .show u2 i j (OU L) N ag
 let g':¬ I-r=0:=‹g›;let#[ta,qa,ea]:=ka (j:=F+r+(I-r)-1) ag;show qi (bT ea (qi (eZ (base:=F+I) (n:=nb) (hint:=nb-1) S.kind rfl (λi hi=>ka ag) u2 (Nat.sub_one_lt_of_lt n2) λJ as am ap=>?_)));let#[T1,T2]:=vt am ap;show bf (λg=>?_) (λg=>?_)
 .let aB:J=0:=‹g›;show ql (h _ #[#[S.perm,S.kind,S.failed],λ_ _=>rfl,λi j hi N Y=>?_,rfl]);change K (vu st) i<=K (vu st) j;cases O:j<F+I
  .show u1 i j hi N O
  .by_cases L:i<F+I
   .show P1 (u1 i (F+r+(I-r)-1) hi ag ag) (T2 j ag ag)
   .show u2 i j (OU L) N ag
 let g2:¬ J=0:=‹g›;let ux:Up ((vu st).extract (F+r) (F+I)):=Ew S.perm k ag λi j hi N Y=>u1 i j (Qy hi) N Y;let uy:Up ((vu st).extract (F+I) (F+I+J)):=Ew S.perm k ag λi j hi N Y=>u2 i j hi N ag;let sx:((vu st).extract (F+r) (F+I)).size=I-r:=(by rw[qG ag];show Nat.add_sub_add_left F I r);let sy:((vu st).extract (F+I) (F+I+J)).size=J:=(by rw[qG ag];show TL (F+I) J);let x0:K ((vu st).extract (F+I) (F+I+J)) 0<K ((vu st).extract (F+r) (F+I)) 0:=by
  rw[vd ag ag,vd ag ag];show R2 (F+r) (rr _) ag
 let xl:∀j,j<((vu st).extract (F+I) (F+I+J)).size->K ((vu st).extract (F+I) (F+I+J)) j<K ((vu st).extract (F+r) (F+I)) (((vu st).extract (F+r) (F+I)).size-1):=λj Y=>by
  rw[vd ag ag,vd ag ag,sx,show F+r+(I-r-1)=F+r+(I-r)-1 by omega];show T1 j (PN Y sy)
 show bf (λg=>?_) (λg=>?_)
 .show qi (yw S.kind ux uy (by rw[sx];show Qv Qz g') (by rw[sy];show Qv Qz g2) x0 xl λR WE G KC=>?_);let#[z1,z2,z3,z4,z5]:=zA (a:=vu st) (lo:=F+r) (mid:=F+I) (hi:=F+I+J) (Qv Rg hr) ag ag G;show qi (Qu (qi (Rj (ql ?_))));let hf:Q3 WE=none:=KC.failed.trans S.failed;let hc:vu WE=vu st:=KC.arr;change Q (Q3 WE).isNone (UE (kindOf WE) (putAll (vu WE) (F+r) 0 R.toList) (Oo WE) (gallopOf WE) (Q3 WE));rw[hf,hc];show h _ #[#[z2.trans S.perm,KC.kind.trans S.kind,rfl],λj Y=>z3 j ag,λi j hi N Y=>?_,KC.pend];change K (putAll (vu st) (F+r) 0 R.toList) i<=K (putAll (vu st) (F+r) 0 R.toList) j;let out:∀i,¬ (F+r<=i/\i<F+I+J)->K (putAll (vu st) (F+r) 0 R.toList) i=K (vu st) i:=λi hi=>VD (z3 i hi);cases O:i<F+r
  .rw[out i ag];let ab:∀j,F+r<=j->j<F+I+nb->K (vu st) i<=K (vu st) j:=λj h1 h2=>by
    cases c:j<F+I
    .show u1 i j hi ag c
    .let U:=R1 (i-F) (SA hi O);rw[show F+(i-F)=i by show RJ hi]at U;show P1 U (u2 (F+I) j (rr _) (OU c) h2)
   cases L:F+r<=j/\j<F+I+J
   .let#[j',q1,q2,e]:=z5 j L.1 L.2;rw[e];show ab j' q1 ag
   .rw[out j L];cases c3:j<F+r
    .show u1 i j hi N ag
    .show ab j (OU c3) ag
  .by_cases L:i<F+I+J
   .by_cases c3:j<F+I+J
    .show z4 i j (OU O) N c3
    .rw[out j (Qv not_and λa=>c3)];let#[i',q1,q2,e]:=z5 i (OU O) L;rw[e];cases c4:i'<F+I
     .let U:=T2 j (OU c3) ag;show P1 (u1 i' (F+r+(I-r)-1) (Qy q1) ag ag) U
     .show u2 i' j (OU c4) ag ag
   .rw[out i (Qv not_and λa=>L),out j ag];show u2 i j ag N ag
 .show qi (ym S.kind ux uy (by rw[sx];show Qv Qz g') (by rw[sy];show Qv Qz g2) x0 xl λR WE G KC=>?_);let#[z1,z2,z3,z4,z5]:=zA (a:=vu st) (lo:=F+r) (mid:=F+I) (hi:=F+I+J) (Qv Rg hr) ag ag G;show qi (Qu (qi (Rj (ql ?_))));let hf:Q3 WE=none:=KC.failed.trans S.failed;let hc:vu WE=vu st:=KC.arr;change Q (Q3 WE).isNone (UE (kindOf WE) (putAll (vu WE) (F+r) 0 R.toList) (Oo WE) (gallopOf WE) (Q3 WE));rw[hf,hc];show h _ #[#[z2.trans S.perm,KC.kind.trans S.kind,rfl],λj Y=>z3 j ag,λi j hi N Y=>?_,KC.pend];change K (putAll (vu st) (F+r) 0 R.toList) i<=K (putAll (vu st) (F+r) 0 R.toList) j;let out:∀i,¬ (F+r<=i/\i<F+I+J)->K (putAll (vu st) (F+r) 0 R.toList) i=K (vu st) i:=λi hi=>VD (z3 i hi);cases O:i<F+r
  .rw[out i ag];let ab:∀j,F+r<=j->j<F+I+nb->K (vu st) i<=K (vu st) j:=λj h1 h2=>by
    cases c:j<F+I
    .show u1 i j hi ag c
    .let U:=R1 (i-F) (SA hi O);rw[show F+(i-F)=i by show RJ hi]at U;show P1 U (u2 (F+I) j (rr _) (OU c) h2)
   cases L:F+r<=j/\j<F+I+J
   .let#[j',q1,q2,e]:=z5 j L.1 L.2;rw[e];show ab j' q1 ag
   .rw[out j L];cases c3:j<F+r
    .show u1 i j hi N ag
    .show ab j (OU c3) ag
  .by_cases L:i<F+I+J
   .by_cases c3:j<F+I+J
    .show z4 i j (OU O) N c3
    .rw[out j (Qv not_and λa=>c3)];let#[i',q1,q2,e]:=z5 i (OU O) L;rw[e];cases c4:i'<F+I
     .let U:=T2 j (OU c3) ag;show P1 (u1 i' (F+r+(I-r)-1) (Qy q1) ag ag) U
     .show u2 i' j (OU c4) ag ag
   .rw[out i (Qv not_and λa=>L),out j ag];show u2 i j ag N ag
end
def Chain(xs:W9):Nat->List (Nat×Nat×Nat)->Nat->Prop
 |s,[],e=>s=e
 |s,(t,n,_)::r,e=>t=s/\1<=n/\mE xs s (s+n)/\Chain xs (s+n) r e
theorem Chain.le{xs:W9}:∀{s:Nat}{l:List (Nat×Nat×Nat)}{e:Nat},Chain xs s l e->s+l.length<=e
 |s,[],e,h=>UW h
 |s,(t,n,p)::r,e,⟨_,h2,_,F⟩=>by
  have:=Chain.le F;rw[K4];omega
theorem Chain.app{xs:W9}:∀{s:Nat}{l F:List (Nat×Nat×Nat)}{e:Nat},Chain xs s (l++F) e↔∃m,Chain xs s l m/\Chain xs m F e
 |s,[],F,e=>#[λh=>#[s,rfl,h],λ⟨m,h1,h2⟩=>by rw[show s=m from h1];show h2]
 |s,(t,n,p)::r,F,e=>by
  constructor
  .rintro⟨h1,h2,J,L⟩;let#[m,I,G]:=Chain.app.mp L;show#[m,#[h1,h2,J,I],G]
  .rintro⟨m,⟨h1,h2,J,I⟩,G⟩;show#[h1,h2,J,Chain.app.mpr #[m,I,G]]
theorem mE.congr{xs ys:W9}{lo hi:Nat}(h:mE xs lo hi)(e:∀i,lo<=i->i<hi->ys[i]?=xs[i]?):mE ys lo hi:=λi j hi F G=>by
 rw[VD (e i hi (Qq F G)),VD (e j (L3 hi F) G)];show h i j hi F G
theorem Chain.congr{xs ys:W9}:∀{s:Nat}{l:List (Nat×Nat×Nat)}{e:Nat},Chain xs s l e->(∀i,s<=i->i<e->ys[i]?=xs[i]?)->Chain ys s l e
 |s,[],e,h,_=>h
 |s,(t,n,p)::r,e,⟨h1,h2,G,F⟩,q=>by
  have:=Chain.le F;show#[h1,h2,G.congr λi a b=>q i a ag,F.congr λi a b=>q i (Qy a) b]
structure RI(a₀:W9)(st:OM)(lo:Nat):Prop where
 S:SI a₀ st
 ch:Chain (vu st) 0 (Oo st).toList lo
 le:lo<=a₀.size
theorem HU{α:Type}{l:List α}{i:Nat}(h:i+1<l.length):∃F x y G,l=F++x::y::G/\F.length=i:=by
 show#[l.take i,l[i],l[i+1],l.drop (i+2),3]
 .rw[<-Qd ag, <-Qd (SN h),PL]
 .rw[Om];omega
theorem su{p:Array (Nat×Nat×Nat)}{F G:List (Nat×Nat×Nat)}{x y z:Nat×Nat×Nat}{i:Nat}(h:p.toList=F++x::y::G)(hi:F.length=i):((p.setIfInBounds i z).eraseIdxIfInBounds (i+1)).toList=F++z::G:=by
 let#[l]:=p;subst h;subst hi;simp;rw[List.eraseIdx_append_of_length_le ag];simp
theorem EY{c:Bool}{n:Nat}(h:¬ n<=1):(if c=true then n-2-1 else n-2)+1<n:=by
 cases c
 .rw[WO ao];omega
 .rw[WQ rfl];omega
theorem wW{α F:Type}{l:List α}{i:Nat}{f:α->α}{g:α->F}(h:∀x,g (f x)=g x):(l.modify i f).map g=l.map g:=by
 apply U7;intro j;rw[t4,t4,List.getElem?_modify];cases l[j]? with
 |none=>rfl
 |some x =>
  cases c:i=j
  .simp[c,h]
  .simp[c]
theorem Chain.same{xs:W9}:∀{s:Nat}{l F:List (Nat×Nat×Nat)}{e:Nat},Chain xs s l e->F.map (λx=>(x.1,x.2.1))=l.map (λx=>(x.1,x.2.1))->Chain xs s F e
 |s,[],F,e,h,q=>by
  cases F with
  |nil=>show h
  |cons x r=>cases q
 |s,(t,n,p)::r,F,e,⟨h1,h2,O,R⟩,q=>by
  cases F with
  |nil=>cases q
  |cons x S =>
   let#[t',J,U]:=x;rw[Pn,Pn]at q;let#[N,L]:=List.cons.inj q;let#[G,I]:=SR N;let G:t'=t:=G;let I:J=n:=I;subst G;subst I;show#[h1,h2,O,R.same L]
theorem RI.push{a₀:W9}{st:OM}{lo n p:Nat}(R:RI a₀ st lo)(G:1<=n)(F:lo+n<=a₀.size)(u:mE (vu st) lo (lo+n)):RI a₀ (setPending st ((Oo st).push (lo,n,p))) (lo+n):=by
 show#[#[R.S.perm,R.S.kind,R.S.failed],?_,F];change Chain (vu st) 0 ((Oo st).push (lo,n,p)).toList (lo+n);rw[SM];show Chain.app.mpr #[lo,R.ch,rfl,G,u,rfl]
theorem RI.last{a₀:W9}{st:OM}{lo:Nat}(R:RI a₀ st lo){f:Nat×Nat×Nat->Nat×Nat×Nat}(F:∀x,((f x).1,(f x).2.1)=(x.1,x.2.1))(i:Nat):RI a₀ (setPending st ((Oo st).modify i f)) lo:=by
 show#[#[R.S.perm,R.S.kind,R.S.failed],?_,R.le];change Chain (vu st) 0 ((Oo st).modify i f).toList lo;show R.ch.same ?_;rw[Array.toList_modify];show wW F
section
variable{prog:rn}{w:By}{A:Oj}{E:WV}{s:k8}{a₀:W9}
theorem j6{st:OM}{lo i:Nat}{Q:Bool->OM->Prop}(R:RI a₀ st lo)(k:Ks a₀)(hi:i+1<(Oo st).size)
  (h:∀I,RI a₀ I lo->(∀j,lo<=j->(vu I)[j]?=(vu st)[j]?)->(Oo I).size+1=(Oo st).size->Q true I):Wy (model prog w) A E s (mergeAt' i) Q st:=by
 let#[U,x,y,l2,e,L]:=HU (l:=(Oo st).toList) (i:=i) ‹hi›;let#[F,G,N]:=x;let#[sb,J,ab]:=y;let ch:=R.ch;rw[e]at ch;let#[m,O,e1,n1,u1,e2,n2,u2,c2]:=Chain.app.mp ch;subst e1;subst e2;let b1:=O.le;let b2:=c2.le;let ac:=R.le;let g1:(Oo st)[i]?=some (F,G,N):=by
  rw[<-Px,e, <-L];simp
 let g2:(Oo st)[i+1]?=some (F+G,J,ab):=by
  rw[<-Px,e, <-L];simp
 show Cm R.S k g1 g2 n1 n2 ag u1 u2 λI M=>h I #[M.S,?_,R.le] (λj Y=>M.out j ag) ?_
 .rw[M.pend,su e L];show Chain.app.mpr #[F,O.congr λj _ Y=>M.out j ag,rfl,Nat.le_add_right_of_le n1,M.up,?_];rw[show F+(G+J)=F+G+J by omega];show c2.congr λj Y _=>M.out j ag
 .let p1:(Oo I).toList.length=(U++(F,G+J,N)::l2).length:=(by rw[M.pend,su e L]);let p2:(Oo st).toList.length=(U++(F,G,N)::(F+G,J,ab)::l2).length:=(by rw[e]);simp only[Pk,G1,K4]at p1 p2;omega
theorem AZ{st:OM}{Q:Unit->OM->Prop}(k:Ks a₀)(S:SI a₀ st)(hp:Oo st = ([].toArray))(h2:2<=a₀.size)(h:∀N,(vu N).Perm a₀->Q3 N=none->SortedTo (vu N) a₀.size->Q () N):Wy (model prog w) A E s sortRuns' Q st:=by
 rw[sortRuns'_eq];show qi (Rj ?_);let hsz:=S.size;let a0:(vu st).size=a₀.size:=hsz;dsimp only;rw[hsz];show qi (PH (OP (I:=λx c N=>∃lo,uX (c=(none,lo)) (RI a₀ N lo) (x<=lo)) (Q:=λc N=>c=(none,a₀.size)/\RI a₀ N a₀.size) ?_ ?_ ?_) ?_)
 .rintro x c a2 as aB ⟨lo,rfl,R,hx⟩;let ac:=R.le;show bf (λg=>?_) (λg=>?_)
  .let g':a₀.size<=lo:=g;obtain rfl:lo=a₀.size:=ag;show ql #[rfl,R]
  let g':¬ a₀.size<=lo:=g;show qi (DS R.S k (lo:=lo) (nrem:=a₀.size-lo) ag ag λm G C m1 m2 us=>?_);dsimp only;show bf (λgm=>?_) (λgm=>?_)
  .show qi (S9 (QP #[5]));generalize hf:min (a₀.size-lo) (minRun' a₀.size a₀.size 0)=n;show qi (Dp C.S k (lo:=lo) (n:=n) (ok:=m) ag m1 ag us λab C3 ad=>?_);let U:RI a₀ ab lo:=#[C3.S,by
    rw[C3.pend,C.pend];show R.ch.congr λi _ hi=>(C3.pre i hi).trans (C.pre i hi),R.le]
   show qi (Rj ?_);cases e:(Oo ab).back? with
   |none=>show qi (Qu (ql #[lo+n,rfl,U.push ag ag ad,ag]))
   |some t =>
    let#[s1,Y,p1]:=t;show qi (PH (OP (I:=λy c F=>uX (c=(none,())) (RI a₀ F lo) (∀j,lo<=j->(vu F)[j]?=(vu ab)[j]?)) (Q:=λc F=>uX (c=(none,())) (RI a₀ F lo) (∀j,lo<=j->(vu F)[j]?=(vu ab)[j]?)) ?_ ?_ ?_) ?_)
    .rintro y c F am aT ⟨rfl,L,J⟩;show qi (Rj ?_);cases g:(Oo F).size>1
     .rw[WQ g,getElem?_pos (Oo F) ((Oo F).size-2) ag];show bf (λ_=>ql #[rfl,L,J]) (λ_=>?_);show qi (j6 L k ag λaD R5 o5 _=>ql #[rfl,R5,λj O=>(o5 j O).trans (J j O)])
     .rw[WO g];show ql #[rfl,L,J]
    .show λc F q=>q
    .show#[rfl,U,λ_ _=>rfl]
    .rintro c F ⟨rfl,L,J⟩;show qi (Qu (qi (Qu (ql #[lo+n,5,ag]))));show RI.push (L.last (f:=λx=>(x.fst,x.2.fst,power' a₀.size (2*s1+Y) (2*s1+Y+Y+n) a₀.size)) (λx=>rfl) _) ag ag (ad.congr λi h1 _=>J i h1)
  .let U:RI a₀ G lo:=#[C.S,by
    rw[C.pend];show R.ch.congr λi _ hi=>C.pre i hi,R.le]
   show qi (Rj ?_);cases e:(Oo G).back? with
   |none=>show qi (Qu (ql #[lo+m,rfl,U.push ag (WM (Qx ac) m2) us,V1 hx m1]))
   |some t =>
    let#[s1,Y,p1]:=t;show qi (PH (OP (I:=λy c F=>uX (c=(none,())) (RI a₀ F lo) (∀j,lo<=j->(vu F)[j]?=(vu G)[j]?)) (Q:=λc F=>uX (c=(none,())) (RI a₀ F lo) (∀j,lo<=j->(vu F)[j]?=(vu G)[j]?)) ?_ ?_ ?_) ?_)
    .rintro y c F am aT ⟨rfl,L,J⟩;show qi (Rj ?_);cases g:(Oo F).size>1
     .rw[WQ g,getElem?_pos (Oo F) ((Oo F).size-2) ag];show bf (λ_=>ql #[rfl,L,J]) (λ_=>?_);show qi (j6 L k ag λaD R5 o5 _=>ql #[rfl,R5,λj O=>(o5 j O).trans (J j O)])
     .rw[WO g];show ql #[rfl,L,J]
    .show λc F q=>q
    .show#[rfl,U,λ_ _=>rfl]
    .rintro c F ⟨rfl,L,J⟩;show qi (Qu (qi (Qu (ql #[lo+m,5,V1 hx m1]))));show RI.push (L.last (f:=λx=>(x.fst,x.2.fst,power' a₀.size (2*s1+Y) (2*s1+Y+Y+m) a₀.size)) (λx=>rfl) _) ag (WM (Qx ac) m2) (us.congr λi h1 _=>J i h1)
 .rintro c N ⟨lo,rfl,R,hx⟩;have:=R.le;obtain rfl:lo=a₀.size:=Nat.le_antisymm this hx;show#[rfl,R]
 .show#[(0),rfl,#[S,by rw[hp];rfl,OC _],rr _]
 .rintro c N ⟨rfl,R⟩;dsimp only;show qi (PH (OP (I:=λx c G=>uX (c=(none,())) (RI a₀ G a₀.size) ((Oo G).size+x<=a₀.size)) (Q:=λc G=>uX (c=(none,())) (RI a₀ G a₀.size) ((Oo G).size<=1)) ?_ ?_ ?_) ?_)
  .rintro x c G as aB ⟨rfl,R2,ac⟩;show qi (Rj ?_);show bf (λg=>ql #[rfl,R2,g]) (λg=>?_);show qi (j6 R2 k ?_ λab U _ a1=>?_)
   .show EY g
   .show ql #[rfl,U,ag]
  .rintro c G ⟨rfl,R2,ac⟩;show#[rfl,R2,ag]
  .show#[rfl,R,?_];have:=R.ch.le;simpa using this
  .rintro c G ⟨rfl,R2,ac⟩;show ql (h G R2.S.perm R2.S.failed ?_);let ch:=R2.ch;cases e:(Oo G).toList with
   |nil =>
    rw[e]at ch;have:0=a₀.size:=ch;omega
   |cons x r =>
    let hr:r=[]:=by
     let z:(Oo G).toList.length=r.length+1:=(by rw[e];rfl);rw[Pk]at z;show OW.mp ag
    subst hr;let#[t,n,p]:=x;rw[e]at ch;let#[_,_,u,e2]:=ch;let e3:0+n=a₀.size:=e2;rw[e3]at u;show λi j ap O=>u i j (OC _) ap O
end
theorem Lu{vs:W0}{ns:W5}(F:QY vs ns)(G:ns.Nodup):Ks (Tu vs):=by
 show#[F.intKeys,?_];let e:((Tu vs).toList.map λp=>Qt p.1)=ns:=by
  rw[pairsOf_toList, <-F.nums]
  conv=>rhs;rw[<-List.map_fst_zip (l₁:=vs) (l₂:=vs) (rr _)]
  rw[PB];rfl
 rw[e];show G
section
variable{prog:rn}{w:By}{A:Oj}{E:WV}{s:k8}
theorem rX{a:Addr}{vs:W0}{ns:W5}{n:Nat}{P:Fin->k8->Prop}(O:s.heap.get? a=some (seqObj "list" vs.toArray n))(S:QY vs ns)(hn:ns.Nodup)(hz:vs.length<=1000)
  (k:∀(out:WZ)(ns':W5),QY out.toList ns'->ns'.Perm ns->ns'.Pairwise (· <= ·)->P (.done (.ret .none)) { s with heap:=sortedHeap s.heap a vs out }):wpAny (model prog w) A (Builtin.«list.sort» #[[.ref a],[]]) P E s:=by
 let lz:sizeLine=16777216:=ti;rw[list_sort_plain];let lt:=Heap.lt_size O;show nq (listItems_at O rfl (nq (Uu O rfl ?_ (by simp only[qs];omega))));obtain⟨ep,U⟩:∃ep,(s.heap.update a (Obj.mapSeq λ_ => ([].toArray))).get? a=some (seqObj "list" ([].toArray) ep):=#[_,get?_update_seq O λ_ => ([].toArray)];show nq (Vn U rfl (nq (wpAny_newTuple (nq (Uv (Pm ?_))))));let at2:(((s.heap.update a (Obj.mapSeq λ_ => ([].toArray))).push (seqObj "tuple" vs.toArray 0)).push (seqObj "list" ([].toArray) 0)).get? a=some (seqObj "list" ([].toArray) ep):=by
  let l1:a<((s.heap.update a (Obj.mapSeq λ_ => ([].toArray))).push (seqObj "tuple" vs.toArray 0)).objs.size:=(by rw[V2,Heap.size_update];show SS lt);rw[Heap.get?_push_ne _ _ _ (OI l1),Heap.get?_push_ne _ _ _ (by rw[Heap.size_update];show OI lt)];show U
 let done:∀F:OM,(vu F).Perm (Tu vs)->SortedTo (vu F) (Tu vs).size->P (.done (.ret .none)) { s with heap:=sortedHeap s.heap a vs ((vu F).map (·.2)) }:=λF L N=>by
  let#[ns',w1,w2,Y]:=sorted_out S L N;show k _ ns' w1 w2 Y
 change wpAny (model prog w) A _ P E { s with heap:=((s.heap.update a (Obj.mapSeq λ_ => ([].toArray))).push (seqObj "tuple" vs.toArray 0)).push (seqObj "list" ([].toArray) 0) };dsimp only;cases J:vs.toArray.size<2
 .rw[WQ J,WQ J];show nq (wpAny_pure ?_);rw[StateT.run_pure];show nq (wpAny_pure (nq (Vn at2 rfl (nq (Uu at2 rfl ?_ (OC _) ?_)))))
  .simp only[bne_self_eq_false,PK,if_false];show wpAny_pure (done (UE general' (vs.toArray.zip vs.toArray) ([].toArray) 7 none) (Vr _) λi j ab hj=>?_);rw[Tv]at hj;rw[qs]at J;rw[show i=j by omega];show OX _
  .change(Array.map (λx:BY=>x.2) (vs.toArray.zip vs.toArray)).size<=sizeLine+1;rw[V3];change(Tu vs).size<=sizeLine+1;rw[Tv];omega
 .rw[WO J,WO J];rw[qs]at J;obtain⟨G,v2,I,rfl⟩:∃G v2 I,vs=G::v2::I:=by
   match vs,J with
   | [],z=>show absurd ao z
   | [_],z=>show absurd (by rw[OT];decide) z
   |G::v2::I,_=>show#[G,v2,I,rfl]
  rw[keyKind_ints S];let sr:=AZ (prog:=prog) (w:=w) (A:=A) (E:=E) (s:={ s with heap:=((s.heap.update a (Obj.mapSeq λ_ => ([].toArray))).push (seqObj "tuple" (G::v2::I).toArray 0)).push (seqObj "list" ([].toArray) 0) }) (Lu S hn)
   (st:=UE Q2 (Tu (G::v2::I)) ([].toArray) 7 none) (Q:=λ_ F=>uX ((vu F).Perm (Tu (G::v2::I))) (Q3 F=none) (SortedTo (vu F) (Tu (G::v2::I)).size)) #[Vr _,1] rfl (by rw[Tv];show Rr rfl) λF L N R=>#[L,N,R]
  show nq (wpAny_pure (nq (OG sr ?_ λ_ _ e=>e)));rintro⟨⟨⟩,F⟩ s' ⟨rfl,L,N,R⟩;dsimp only;show nq (Vn at2 rfl (nq (Uu at2 rfl ?_ (OC _) ?_)))
  .rw[N];simp only[bne_self_eq_false,PK,if_false];show wpAny_pure (done F L R)
  .change(Array.map (λx:BY=>x.2) (vu F)).size<=sizeLine+1;rw[V3,L.size_eq,Tv];omega
theorem xg{l:Addr}{vs:W0}{ns:W5}{Q:WV}(O:s.heap.IsList l vs.toArray)(I:QY vs ns)(S:ns.Nodup)(L:vs.length<=1000)
  (k:∀(out:WZ)(ns':W5),QY out.toList ns'->ns'.Perm ns->ns'.Pairwise (· <= ·)->Q (.ref (s⁻¹+1)) { s with heap:=sortedAll s.heap vs out }):wpAny (model prog w) A (call (.builtin "sorted") [.ref l]) Q E s:=by
 let U:sizeLine=16777216:=ti;show Calls.call_function_entry kind_sorted plain_sorted entry_sorted (args_sorted1 _) ?_;show nq (m:=checkCount "sorted" 1 1 _) (wpAny_pure (nq (collect_list O (nq (Uv ?_)) ag)));let G:((s.heap.push (seqObj "list" ([].toArray) 0)).update s⁻¹ (Obj.mapSeq (· ++ vs.toArray))).objs.size=s⁻¹+1:=(by rw[Heap.size_update,V2]);let F:=Heap.get?_push_size ((s.heap.push (seqObj "list" ([].toArray) 0)).update s⁻¹ (Obj.mapSeq (· ++ vs.toArray))) (o:=seqObj "list" vs.toArray 0) rfl;rw[G]at F;change wpAny _ _ _ _ _ { s with heap:=((s.heap.push (seqObj "list" ([].toArray) 0)).update s⁻¹ (Obj.mapSeq (· ++ vs.toArray))).push (seqObj "list" vs.toArray 0) };rw[G];show nq (Pm (QX slot_list_sort #[_,F,rfl] entry_list_sort (rX F I S L λout ns' N R J=>#[0,wpAny_pure #[0,k out ns' N R J]]) (args_list_sort _)))
end
end Srt
namespace L2
open PySem PySem.Spec PyProof.Rows
def nY(X:Cx)(F:W6)(scope:Sf)(cl:List (Str×Addr))(C:Addr)(s₀:k8)(H₀:Hp)(ex:W7):Cx where
 prog:=X.prog
 w:=X.w
 K:=X.K
 mg:=X.mg
 base:=X.base
 A:=X.A
 N:=F
 s₀:=s₀
 H₀:=H₀
 env:=V4 scope cl C X.env
 outer:=X.stack
 stack:=X.stack
 ex:=ex
 fn:=λ_=>false
 calm:=X.calm
 pn:=[]
 xe:=λ_ _=>False
def xF(t:Str)(caps:List (Str×Nat)):List Str:=t::caps.map (·.1)
def lF(caps:List (Str×Nat))(σ:St)(v:Option V):St:=v::caps.map λp=>(σ[p.2]?).join
def gw(ts:W6)(caps:List (Str×Nat)):List Str:=ts++caps.map (·.1)
def qN(caps:List (Str×Nat))(σ vs:St):St:=vs++caps.map λp=>(σ[p.2]?).join
structure sM(X:Cx)(scope:Sf)(cl:List (Str×Addr))(ts:W6)(caps:List (Str×Nat)):Prop where
 kind:scope.kind=.function
 xP:∀y∈scope.names,y.2≠.cell
 names:∀y∈scope.names,y.2=.local->scope.names.lookup y.1=some .local
 Eb:closureFor scope X.env=pure cl
 sub:∀p∈cl,X.env.cells.lookup p.1=some p.2
 has:((relabel scope X.env).names.all λy => !(y.2 == .cell||y.2 == .free)||(cl.lookup y.1).isSome)=true
 NH:∀p∈caps,X.N[p.2]?=some p.1/\(X.env.kindOf p.1=some .cell\/X.env.kindOf p.1=some .free)/\((relabel scope X.env).names.lookup p.1=some .cell\/(relabel scope X.env).names.lookup p.1=some .free)
 nd:(gw ts caps).Nodup
structure wo(X:Cx)(scope:Sf)(cl:List (Str×Addr))(t:Str)(caps:List (Str×Nat)):Prop where
 kind:scope.kind=.function
 xP:∀y∈scope.names,y.2≠.cell
 names:∀y∈scope.names,y.2=.local->scope.names.lookup y.1=some .local
 NW:scope.names.lookup t=some .local
 Eb:closureFor scope X.env=pure cl
 sub:∀p∈cl,X.env.cells.lookup p.1=some p.2
 has:((relabel scope X.env).names.all λy => !(y.2 == .cell||y.2 == .free)||(cl.lookup y.1).isSome)=true
 NH:∀p∈caps,X.N[p.2]?=some p.1/\(X.env.kindOf p.1=some .cell\/X.env.kindOf p.1=some .free)/\((relabel scope X.env).names.lookup p.1=some .cell\/(relabel scope X.env).names.lookup p.1=some .free)
 nd:(xF t caps).Nodup
section
variable{X:Cx}{scope:Sf}{cl:List (Str×Addr)}{ts:W6}{t:Str}{caps:List (Str×Nat)}{pins:WU}{σ:St}{H:Hp}{s:k8}{C:Addr}{fp:W7}
theorem sM.look(K:sM X scope cl ts caps){x:Str}{c:Addr}(h:cl.lookup x=some c):X.env.cells.lookup x=some c:=K.sub (x,c) (Pw h)
theorem sM.hs(K:sM X scope cl ts caps){x:Str}(h:(relabel scope X.env).names.lookup x=some .cell\/(relabel scope X.env).names.lookup x=some .free):∃c,cl.lookup x=some c:=by
 let F:∀k,(relabel scope X.env).names.lookup x=some k->(k==NameKind.cell||k==NameKind.free)=true->∃c,cl.lookup x=some c:=λk e G=>by
  have:=OJ.mp K.has (x,k) (Pw e);dsimp only at this;rw[G]at this;show Qi.mp ‹this›
 rcases h with h|h
 .show F _ h rfl
 .show F _ h rfl
theorem NL(I: ~~~H s)(K:sM X scope cl ts caps)(G:∀b∈fp,gA X pins H b)(O:∀b∈fp,b<s⁻¹)(J:s⁻¹<=C):(nY X (gw ts caps) scope cl C s H fp).Ok where
 mod:=I.ok.mod
 kind:=K.kind
 glob:=I.ok.glob
 blt:=I.ok.blt
 above:=J
 inj:=λx y c h1 h2=>I.ok.inj x y c (K.look h1) (K.look h2)
 has:=λx N=>K.hs N
 HL:=λx c h=>nomatch (show false=true from h)
 hd:=I.ok.hd
 frames:=I.ok.frames
 JR:=.inl rfl
 LU:=λb F=>#[OI (Ow (O b F) J),λx c e=>(G b F).2.2.2.2.1 x c (K.look e)]
 bs:=I.bs
 BO:=L3 I.ok.BO I.sz
 ye:=λb o e F=>by
  rcases(G b F).2.2.2.1 with z|z
  .show I.ok.ye b o e z
  .show absurd (Ow (Heap.lt_size e) (L3 I.ok.BO z)) (QT _)
 w9:=λb F L=>by
  rcases t7.mp (I.uf b L)with e|e
  .show(G b F).2.1 e
  .show(G b F).2.2.1 e
 ky:=I.stack
 Ge:=I.uB
theorem Ni{N:Heap}{m:WW}{tk:Nat}(I: ~~~H s)(K:sM X scope cl ts caps)(hf:∀b∈fp,gA X pins H b)(ho:∀b∈fp,b<s⁻¹)(hC:s⁻¹<=C)
  (R:∀b o,s.heap.get? b=some o->N.get? b=some o) (ns:N.Ns C m):Inv (nY X (gw ts caps) scope cl C s H fp) [] (qN caps σ (ts.map λ_=>none)) H { s with heap:=N,toks:=tk }:=by
 let Y:∀c v,s.heap.IsCell c v->N.IsCell c v:=λc v ap=>(by let#[o,e,d]:=ap;show#[o,R c o e,d]);show#[NL I K hf ho hC,rfl,I.bare,Un.kept R,#[m,ns,λi x v e1 e2 e3=>?_],λx c e=>?_,I.bV.fresh hC,λx c e=>I.gx x c (K.look e),λp J=>absurd (show p∈([]:WU)from J) (by simp),I.bV.kept R,by simp[qN,gw,nY]]
 .let O:(ts.map λ_=>(none:Option V)).length=ts.length:=k9 ..;let G:(ts.map (λ_=>(none:Option V))++caps.map λp=>(σ[p.2]?).join)[i]?=some (some v):=e2;rcases Nat.lt_or_ge i ts.length with hi|hi
  .rw[Qc (by rw[O];show hi),t4]at G;let#[_,_,z]:=qw.mp G;cases z
  .let F:(ts++caps.map (·.1))[i]?=some x:=e1;rw[PF hi,t4]at F;rw[PF (by rw[O];show hi),t4,O]at G;generalize i-ts.length=j at F G;cases J:caps[j]? with
   |none=>rwa[J]at F
   |some p =>
    rw[J]at F G;let ex:p.1=x:=sS F;let L:(σ[p.2]?).join=some v:=sS G;let ac:σ[p.2]?=some (some v):=by
     cases q:σ[p.2]? with
     |none=>rwa[q]at L
     |some z=>rw[q]at L;show congrArg some L
    let#[hN,U,ab]:=K.NH p (wh J);subst ex;let#[m',_,hl]:=I.loc;let am:LA X.env.scope p.1:=by
     rcases U with z|z
     .show .inr (.inl z)
     .show .inr (.inr z)
    let#[u,r,l]:=hl p.2 p.1 v hN ac am;let#[c,hc]:=K.hs ab;rcases l with⟨z,_⟩|⟨_,c',S,ad⟩
    .rcases U with y|y<;>(rwa[y]at z)
    .rw[K.look hc]at S;cases S;show#[u,r,.inr #[ab,c,hc,Y c _ ad]]
 .let#[v,z]:=I.cell x c (K.look e);show#[v,Y c v z]
theorem wo.g(K:wo X scope cl t caps):sM X scope cl [t] caps:=#[K.kind,K.xP,K.names,K.Eb,K.sub,K.has,K.NH,K.nd]
theorem Inv.JW{D:Addr}{ys:XD}{its:W0}{n:Nat}(I: ~~~H s)(f:gA X pins H D)(e:s.heap.get? D=some { cls:=.type "list",data:=.seq its.toArray n })(r:Vals ys its)(L:ys.length<=sizeLine) :
  ~~~(upd H D (.lst ys)) s:=by
 let#[G,S,Y,N,R,J]:=f;let#[U,g,d,tk,os]:=s;show I.step (g':=g) (d':=d) (t':=tk) (h':=U) (ch:=[D]) (λb F=>?_) (λb o _ _ _ e _=>e) (λb o _ _ _ e _=>#[o.slots,e]) (λb o F _ n=>?_) (λb o _ e=>#[o,e]) (λb xs q=>?_) (λb o u q=>?_) (λb ps q=>#[([].toArray),?_]) (λm O=>O) (λb u q=>?_) I.bare
 .let z:b=D:=‹F›;subst z;show#[N,S,R,J]
 .rw[aj (λz=>F (by simp[z]))];show n
 .rw[aj (av q G)];show q
 .rw[aj (av q G)];show q
 .rw[aj (av q G),q];simp
 .by_cases F:b=D
  .subst F;rwa[ae]at q;show#[L,its,n,r,e]
  .rw[aj F]at q;show(I.bV b u q).iX (λ_ _ _ z=>z) (λc z=>by rw[aj (av z G)];show z) λc xs z=>by rw[aj (av z G)];show z
end
def HW(X:Cx)(ifs:XB)(t:TT):Prop :=
 ∀(pins:WU)(s:k8)(σ:St)(H:Hp)(Q:Bool->Hp->Prop),~~~H s->t σ H Q ->
  ↑(forIn ifs true λc r=>if r=true then do let ok <-isTrue c X.env (eval c X.env);pure (Vs ok)else pure (Vs r)) (TP X pins σ Q) X.xe s
def qY:TT:=λ_ H Q=>Q true H
theorem gg{X:Cx}:HW X [] qY:=λ_ _ _ H _ I h=>wpAny_tests_nil #[H,I,h]
theorem Gb{X:Cx}{c:Ou}{t:TT}(h:PT X c t):HW X [c] t:=λpins s σ H Q I q=>wpAny_tests_one (h pins s σ H Q I q)
def Gj(n:Nat)(caps:List (Str×Nat))(g:TG)(tt:TT)(te:TE)(σ:St)(J:It)(Q:List V->Hp->Prop)(W:Nat->Nat->List V->Hp->Prop):Prop :=
 ∀i m ys H,W i m ys H->(J.stop i H/\Q ys H)\/(J.go i H/\∃N:List V->Hp->Prop,(∀G H',N G H'->∃I,I<m/\W (i+1) I G H')/\∀x H',J.Ex i H x H'->∀vs:St,vs.length=n->g x (qN caps σ vs) H' λF H1=>∃us:St,us.length=n/\F=qN caps σ us/\tt F H1 λc H2 =>
  if c=true then te F H2 (λy L=>ys.length<sizeLine/\N (ys++[y]) L)else N ys H2)
def jv(caps:List (Str×Nat))(tt:TT)(te:TE)(σ:St)(J:It)(Q:List V->Hp->Prop)(W:Nat->Nat->List V->Hp->Prop):Prop :=
 ∀i m ys H,W i m ys H->(J.stop i H/\Q ys H)\/(J.go i H/\∃N:List V->Hp->Prop,(∀F H',N F H'->∃G,G<m/\W (i+1) G F H')/\∀x H',J.Ex i H x H'->tt (lF caps σ (some x)) H' λb H2 =>
  if b=true then te (lF caps σ (some x)) H2 (λy I=>ys.length<sizeLine/\N (ys++[y]) I)else N ys H2)
def Gm(caps:List (Str×Nat))(wi:TI)(tt:TT)(te:TE):TE:=λσ H Q=>wi σ H λJ H1 =>
 ∃W:Nat->Nat->List V->Hp->Prop,(∃m,W 0 m [] H1)/\jv caps tt te σ J (λys H2=>∀p,H2 p=none->Q (.ref p) (upd H2 p (.lst ys))) W
section
variable{X:Cx}{scope:Sf}{cl:List (Str×Addr)}{t:Str}{caps:List (Str×Nat)}{elt iter:Ou}{ifs:XB}{px pos:QM}{wi:TI}{tt:TT}{te:TE}
section
variable{ts:W6}{tg:Ou}{g:TG}
theorem mX{pins:WU}{σ:St}{H:Hp}{s:k8}{J:It}{fp:W7}{it:Addr}{tn:Nat->Heap->Prop}{W:Nat->Nat->List V->Hp->Prop}{QE:List V->Hp->Prop}{E:WV}{RR:Value->Addr->VL->k8->Prop}{m0:Nat}
  (K:sM X scope cl ts caps) (hc:X.calm=true)
  (b0:∀C s₀ H₀ ex,PG (nY X (gw ts caps) scope cl C s₀ H₀ ex) tg g)
  (ht:∀C s₀ H₀ ex,HW (nY X (gw ts caps) scope cl C s₀ H₀ ex) ifs tt) (he:∀C s₀ H₀ ex,PE (nY X (gw ts caps) scope cl C s₀ H₀ ex) elt te)
  (I: ~~~H s) (T:Turn X.prog X.w X.K tg J fp it tn) (st:tn 0 s.heap) (U:∀b∈fp,gA X pins H b) (w0:W 0 m0 [] H) (hW:Gj ts.length caps g tt te σ J QE W)
  (b3:∀D C ys H' s' m,H' D=none->~~~(upd H' D (.lst ys)) s'->s'.heap.Ns C m->gA X pins (upd H' D (.lst ys)) C->QE ys H'->RR (.ref D) C (.ok .next) s') :
  ↑(newList []) (λbc ab=>↑(newFunctionEnv scope X.env.globals cl [] X.env.qual none .none (some X.env)) (λa8 bB =>
   Rh (model X.prog X.w) X.A (.compStart (.ListComp elt [#[tg,iter,ifs,(0)]] scope pos) 0 (.ref it) bc { a8 with scope:=relabel scope X.env }) (RR bc a8.locals) bB) E ab) E s:=by
 show Qa (wpAny_newFunctionEnv K.xP (by intro y hy;simp at hy) (λap a5 am=>?_) K.kind);dsimp only at a5 am ⊢;generalize aT:s.heap.push { cls:=.type "list",dict:=none,data:=.seq ([]:W0).toArray }=H2 at a5 am ⊢;let hC:H2.objs.size=s⁻¹+1:=(by rw[<-aT,Heap.size_push]);let ad:s⁻¹≠H2.objs.size:=(by rw[hC];show OI (SY _));let aB:s⁻¹<=H2.objs.size:=(by rw[hC];show RG _);let below:∀b,b<s⁻¹->b≠H2.objs.size:=λb G=>(by rw[hC];show OI (SS G));let bi:∀b o,s.heap.get? b=some o->ap.get? b=some o:=λb o e=>am.extBut b o (below b (Heap.lt_size e)) (Heap.get?_push_of_some _ (aT▸Heap.get?_push_of_some _ e));let bv:ap.get? s⁻¹=some { cls:=.type "list",data:=.seq ([]:W0).toArray }:=am.extBut _ _ ad (Heap.get?_push_of_some _ (aT▸Heap.get?_push_size _ rfl));let ho:∀b∈fp,b<s⁻¹:=λb G=>let ⟨_,e,_⟩:=T.obj 0 _ st b G;Heap.lt_size e;let ba:s⁻¹∉fp:=λhm=>QT _ (ho _ hm);let a7:tn 0 ap:=T.keep 0 _ _ st λb _ o e=>bi b o e;let bN:s⁻¹∉rj X.stack:=λz=>by
  rcases t7.mp (I.uf _ z)with e|e
  .show absurd (e▸I.lt) (QT _)
  .show I.KI (rr _) e
 let bY:∀x c,cl.lookup x=some c->c≠s⁻¹:=λx c e z=>by
  let#[v,q]:=I.cell x c (K.look e);show absurd (z▸q.lt) (QT _)
 let aD:∀{pl:WU}{L:Hp},(∀b∈fp,L b=none)->(∀p∈pl,p.1∉fp)->∀b∈fp,gA (nY X (gw ts caps) scope cl H2.objs.size s H fp) pl L b:=λ{pl L} hn S b G =>
  #[hn b G,below b (ho b G),(NL I K U ho aB).w9 b G,.inl G,λx c e=>(U b G).2.2.2.2.1 x c (K.look e),λp bA z=>by
   let b2:p∈pl:=bA;show S p b2 (z▸G)]
 let bb:∀ab:k8,ab={ s with heap:=ap,toks:=s.toks+([]:List (Str×Value)).length } ->
   Rh (model X.prog X.w) X.A (.compLoop (.ListComp elt [#[tg,iter,ifs,(0)]] scope pos) 0 (.ref it) (.ref s⁻¹) (V4 scope cl H2.objs.size X.env)) (RR (.ref s⁻¹) H2.objs.size) ab:=by
  rintro ab rfl;show codeAny_loop rfl (λn s'=>∃i ys its O L vs,vs.length=ts.length/\Inv (nY X (gw ts caps) scope cl H2.objs.size s H fp) [] (qN caps σ vs) L s'/\tn i s'.heap/\(∀b∈fp,L b=none)/\L s⁻¹=none /\
   s'.heap.get? s⁻¹=some { cls:=.type "list",data:=.seq its.toArray O }/\Vals ys its/\ys.length<=sizeLine/\W i n ys L) (λn s' hI=>?_) m0
   #[(0),[],[],(0),H,_,k9 ..,Ni I K U ho aB bi a5,a7,λb G=>(U b G).1,I.bV.fresh (rr _),bv,.nil,OC _,w0]
  let#[i,ys,its,O,L,vs,lv,I3,be,bd,as,e3,r3,z3,w3]:=hI;change wpAny _ X.A ((compTurn (.ListComp elt [#[tg,iter,ifs,(0)]] scope pos) 0 (.ref it) (.ref s⁻¹) (V4 scope cl H2.objs.size X.env)).onRaise (λx=>do noteFrame x (V4 scope cl H2.objs.size X.env);theTreesLotGoes x)) _ _ s';show wpAny_noted ?_;rw[compTurn_list];let a9:Inv (nY X (gw ts caps) scope cl H2.objs.size s H fp) [(s⁻¹, { cls:=.type "list",data:=.seq its.toArray O })] (qN caps σ vs) L s':=I3.nK λp S=>by
   let ep:p=(s⁻¹, { cls:=.type "list",data:=.seq its.toArray O }):=‹S›;subst ep;show#[e3,as,ad,bN,λv z=>by cases(show VU its.toArray O=Ru v from z)]
  let pD:∀p∈[((s⁻¹:Addr),({ cls:=.type "list",data:=.seq its.toArray O }:Obj))],p.1∉fp:=λp S=>by
   let ep:p=(s⁻¹, { cls:=.type "list",data:=.seq its.toArray O }):=‹S›;subst ep;show ba
  rcases hW i n ys L w3 with⟨bx,q⟩|⟨go,N,hN,step⟩
  .show nq (RC (nq (cp (T.done (nY X (gw ts caps) scope cl H2.objs.size s H fp) rfl rfl rfl hc i _ s' _ L _ a9 (aD bd pD) be bx) λr s4 bI=>?_)));let#[hr,Y]:=bI;subst hr;show wpAny_pure ?_;let I5: ~~~L s4:=I.DX (ch:=fp) Y.os Y.base Y.bV Y.bare λb G=>#[(U b G).2.2.2.1,(U b G).2.1,(U b G).2.2.2.2.1,(U b G).2.2.2.2.2];let e4:=(Y.pin _ (L8 _ OA)).1;let fD:gA X pins L s⁻¹:=I.kP (rr _) as;let I6:=I5.JW fD e4 r3 z3;let#[m,hn,_]:=Y.loc;show b3 _ _ ys L s4 m as I6 hn (I.kP aB ?_) q;rw[aj (ro ad)];show Y.free
  .show nq (RC (nq (cp (T.item (nY X (gw ts caps) scope cl H2.objs.size s H fp) rfl rfl rfl hc i _ s' _ L _ a9 (aD bd pD) be go) λr s4 bt=>?_)));let#[u,hr,h4]:=bt;subst hr;show nq (cp h4 λ_ s5 bn=>?_);let#[x,H5,I5,r5,y5,a6,bl]:=bn;let b7:=(I5.pin _ (L8 _ OA)).2.1;let bp:=I5.pinned (aD bl pD) (T.obj _ _ a6);let nE:∀{α:Type}{tr:RS α}{Q:α->k8->Prop}{E':WV}{R:k8},↑tr Q (λ_ _=>False) R->↑tr Q E' R:=λh=>OG h (λ_ _ z=>z) λ_ _ z=>z.elim;show nq (nE (cp (b0 _ _ _ _ _ s5 _ H5 x u _ bp r5 (step x H5 y5 vs lv)) λ_ s6 b1=>?_));let#[τ,H6,I6,us,lu,br,q6]:=b1;subst br;show nq (nE (cp (ht _ _ _ _ _ s6 _ H6 _ I6 q6) λok s7 bm=>?_));let#[H7,I7,q7]:=bm;let bg:∀{ac:St}{H':Hp}{R:k8},Inv (nY X (gw ts caps) scope cl H2.objs.size s H fp) ([(s⁻¹, { cls:=.type "list",data:=.seq its.toArray O })]++lT fp s5.heap) ac H' R ->
     R.heap.get? s⁻¹=some { cls:=.type "list",data:=.seq its.toArray O }/\H' s⁻¹=none/\tn (i+1) R.heap/\(∀b∈fp,H' b=none):=λ{ac H' R} Ix=>by
    let a:=Ix.pin _ (L8 _ (O8 _ OA));show#[a.1,a.2.1,T.keep _ _ _ a6 λb G o e=>(Ix.pin (b,o) (L8 _ (L8 _ (fY G e)))).1,λb G=>?_];let#[o,e,d]:=T.obj _ _ a6 b G;show(Ix.pin (b,o) (L8 _ (L8 _ (fY G e)))).2.1
   let bare:∀{pl:WU}{ac:St}{H':Hp}{R:k8},Inv (nY X (gw ts caps) scope cl H2.objs.size s H fp) pl ac H' R->Inv (nY X (gw ts caps) scope cl H2.objs.size s H fp) [] ac H' R:=λIx=>Ix.nK λp S=>absurd S (by simp);cases ok with
   |false =>
    rw[WO vl]at q7;let#[m',hm,w7]:=hN _ _ q7;let#[a1,a2,a3,a4]:=bg I7;show wpAny_pure #[rfl,m',hm,i+1,ys,its,O,H7,us,lu,bare I7,a3,a4,a2,a1,r3,z3,w7]
   |true =>
    rw[WQ rfl]at q7;show nq (nq (nE (cp (he _ _ _ _ _ s7 _ H7 _ I7 q7) λy s8 b4=>?_)));let#[yv,H8,I8,r8,b6,n8]:=b4;let#[m',hm,w8]:=hN _ _ n8;let#[a1,a2,a3,a4]:=bg I8;let b5:=r3.length;show nq (Ra F.slot_list_append #[_,a1,rfl] F.entry_list_append (F.args_list_append_2 _ _) (list_append s⁻¹ its.toArray O y (by rw[qs];omega)) #[a1,?_]);obtain⟨a0,q⟩:∃a0:Nat,(s8.heap.update s⁻¹ (Obj.mapSeq (·.push y))).get? s⁻¹=some { cls:=.type "list",data:=.seq (its++[y]).toArray a0 }:=by
     let q:=Rv a1 (·.push y);let ea:its.toArray.push y=(its++[y]).toArray:=(by simp);rw[ea]at q;show#[_,q]
    let I9:Inv (nY X (gw ts caps) scope cl H2.objs.size s H fp) [] (qN caps σ us) H8 { s8 with heap:=s8.heap.update s⁻¹ (Obj.mapSeq (·.push y)) }:=
     (bare I8).turned (t':=s8.toks) (λb o G e=>(Heap.get?_update_other _ _ (ro G)).trans e) a2 ad (.inr (rr _)) bY (λp S=>absurd (show p∈([]:WU)from S) (by simp))
    show wpAny_pure (wpAny_pure #[rfl,m',hm,i+1,ys++[yv],its++[y],a0,H8,us,lu,I9,T.keep _ _ _ a3 λb G o e=>(Heap.get?_update_other _ _ (show s⁻¹≠b from λz=>ba (by rw[z];show G))).trans e,a4,a2,q,r3.append (.cons r8 .nil),?_,w8])
    .rw[G1,OT];omega
 show codeAny_compStart_list (bb _ rfl) (T.self _ 0 _ _ _ a7 (bb _ rfl))
end
theorem qB{pins:WU}{σ:St}{H:Hp}{s:k8}{J:It}{fp:W7}{it:Addr}{F:Nat->Heap->Prop}{W:Nat->Nat->List V->Hp->Prop}{L:List V->Hp->Prop}{E:WV}{RR:Value->Addr->VL->k8->Prop}{R:Nat}
  (K:wo X scope cl t caps) (hc:X.calm=true)
  (U:∀C s₀ H₀ ex,HW (nY X (xF t caps) scope cl C s₀ H₀ ex) ifs tt) (he:∀C s₀ H₀ ex,PE (nY X (xF t caps) scope cl C s₀ H₀ ex) elt te)
  (I: ~~~H s) (T:Turn X.prog X.w X.K (.Name t px) J fp it F) (st:F 0 s.heap) (hf:∀b∈fp,gA X pins H b) (Y:W 0 R [] H) (hW:jv caps tt te σ J L W)
  (ac:∀D C ys H' s' m,H' D=none->~~~(upd H' D (.lst ys)) s'->s'.heap.Ns C m->gA X pins (upd H' D (.lst ys)) C->L ys H'->RR (.ref D) C (.ok .next) s') :
  ↑(newList []) (λG ab=>↑(newFunctionEnv scope X.env.globals cl [] X.env.qual none .none (some X.env)) (λO ad =>
   Rh (model X.prog X.w) X.A (.compStart (.ListComp elt [#[.Name t px,iter,ifs,(0)]] scope pos) 0 (.ref it) G { O with scope:=relabel scope X.env }) (RR G O.locals) ad) E ab) E s :=
 mX K.g hc (λC s₀ H₀ ex=>iA (i:=0) K.nd rfl (.inl (PV K.NW)) (.inr (PV K.NW))) U he I T st hf Y (λi m ys H h=>(hW i m ys H h).imp id λh=>by
  let#[go,N,S,step]:=h;show#[go,N,S,λx H' y vs l=>?_];let#[v,rfl]:=List.length_eq_one_iff.mp l;show#[[some x],1,step x H' y]) ac
theorem gO(K:wo X scope cl t caps)(hc:X.calm=true)(hi:PI X (.Name t px) iter wi)
  (G:∀C s₀ H₀ ex,HW (nY X (xF t caps) scope cl C s₀ H₀ ex) ifs tt) (he:∀C s₀ H₀ ex,PE (nY X (xF t caps) scope cl C s₀ H₀ ex) elt te)
  (hs:∀x,Qb iter X.env x=pure x:=by intro _;rfl):PE X (.ListComp elt [#[.Name t px,iter,ifs,(0)]] scope pos) (Gm caps wi tt te):=by
 intros Q I h;rw[eval_ListComp];show Q4 (use:=none) rfl hs K.Eb K.kind K.names (cp (hi pins s σ H _ I h) λv s1 h1=>cp h1 λam s2 h2=>?_);let#[it,fp,tn,J,H2,e,Y,T,ad,S,W,#[m0,N],hW]:=h2;subst e;show qB (RR:=λab C=>compPost (model X.prog X.w) X.A X.xe none (EP X pins σ Q) ab C) K hc G he Y T ad S N hW ?_;intro D C ys H' s' m F I' U hC q;show#[m,U,λh' ac=>?_];let#[c0,R,c2,c3,O,L]:=hC;show#[.ref D,_,I'.turned (t':=s'.toks) (λb o hb e=>(ac.2 b hb).trans e) c0 R c3 O L,rfl,q D F]
theorem zS{i:Nat}{y:Str}{F O:QM}(hN:X.N.Nodup)(ac:X.N[i]?=some y)(hy:Loc X.env.scope y)(K:wo X scope cl t caps)(hc:X.calm=true)(hi:PI X (.Name t px) iter wi)
  (ht:∀C s₀ H₀ ex,HW (nY X (xF t caps) scope cl C s₀ H₀ ex) ifs tt) (Y:∀C s₀ H₀ ex,PE (nY X (xF t caps) scope cl C s₀ H₀ ex) elt te)
  (ap:Rb (.ListComp elt [#[.Name t px,iter,ifs,(0)]] scope pos) (some (.Name y F)) O.line X.env=pure true:=by rfl)
  (hs:∀x,Qb iter X.env x=pure x:=by intro _;rfl) (R:X.fn y=true\/X.env.scope.names.lookup y=some .local:=by first|show .inl rfl|show .inr rfl|assumption) :
  PS X (.Assign [.Name y F] (.ListComp elt [#[.Name t px,iter,ifs,(0)]] scope pos) O) (De (Gm caps wi tt te) (lI i)):=by
 intros D I h;rw[exec_Assign_Name_used _ _ _ _ ap];show nq (RC (nq ?_));change wpAny _ X.A (do let _ <-comprehension (.ListComp elt [#[.Name t px,iter,ifs,(0)]] scope pos) scope X.env _ (newList []) false (eval iter X.env) (some (Uz (.Name y F) X.env))) _ _ s;show nq (cp (Q4 (use:=some (Uz (.Name y F) X.env)) (Q:=λ_ s'=>SP X pins D .next s') rfl hs K.Eb K.kind K.names
  (cp (hi pins s σ H _ I h) λv s1 h1=>cp h1 λaD s2 h2=>?_)) λ_ s' hq=>wpAny_pure (wpAny_pure hq))
 let#[it,fp,tn,J,H2,e,S,T,as,f2,W,#[m0,w0],hW]:=h2;subst e;show qB (RR:=λU C=>compPost (model X.prog X.w) X.A X.xe (some (Uz (.Name y F) X.env)) (λ_ s'=>SP X pins D .next s') U C) K hc ht Y S T as f2 w0 hW ?_;intro DD C ys H' s' m hD I' hn hC q;let#[c0,L,c2,c3,G,c5]:=hC;change wpAny _ X.A (Uz (.Name y F) X.env (.ref DD)) _ _ s';show UP (sf (v:=.ref DD) I' hN ac hy rfl (λs3 I3 ad=>?_) R);let#[a,ab,ha]:=ad;let aB:C≠a:=by
  rcases ha with z|z
  .rw[z];show L
  .show λw=>G y a z w.symm
 show#[m,hn.sameBut ab aB,λh' am=>?_];show#[2,I3.turned (t':=s3.toks) (λb o hb e=>(am.2 b hb).trans e) c0 L c3 G c5,q DD hD]
end
theorem yF{caps:List (Str×Nat)}{tt:TT}{te:TE}{σ:St}{H:Hp}{lo:Int}{n:Nat}{G:List V->Hp->Prop}(Pv:Nat->List V->Hp->Prop)(J:Pv 0 [] H)
  (hs:∀i ys H,i<n->Pv i ys H->tt (lF caps σ (some (.int (lo+i)))) H λb H2=>if b=true then te (lF caps σ (some (.int (lo+i)))) H2 (λy I=>ys.length<sizeLine/\Pv (i+1) (ys++[y]) I)else Pv (i+1) ys H2)
  (hd:∀ys H,Pv n ys H->G ys H):∃W:Nat->Nat->List V->Hp->Prop,(∃m,W 0 m [] H)/\jv caps tt te σ (FJ lo n) G W:=by
 show#[λi m ys H=>m=n-i/\i<=n/\Pv i ys H,#[n,by simp,OC _,J],?_];rintro i m ys H ⟨rfl,hi,p⟩;cases F:i<n
 .show .inr #[F,Pv (i+1),λN H' L=>#[n-(i+1),Pd n i F,rfl,F,L],λx H' y=>?_];let#[e,y]:=y;subst e y;show hs i ys _ F p
 .let e:i=n:=ag;subst e;show .inl #[rr _,hd ys H p]
theorem Ai{K:HC}{a:Addr}{xs:XD}{caps:List (Str×Nat)}{tt:TT}{te:TE}{σ:St}{H:Hp}{G:List V->Hp->Prop}(Pv:Nat->List V->Hp->Prop)(L:Pv 0 [] H)(I:∀i ys H,i<=xs.length->Pv i ys H->bD K H a xs)
  (hs:∀i x ys H,xs[i]?=some x->Pv i ys H->tt (lF caps σ (some x)) H λb H2=>if b=true then te (lF caps σ (some x)) H2 (λy J=>ys.length<sizeLine/\Pv (i+1) (ys++[y]) J)else Pv (i+1) ys H2)
  (hd:∀ys H,Pv xs.length ys H->G ys H):∃W:Nat->Nat->List V->Hp->Prop,(∃m,W 0 m [] H)/\jv caps tt te σ (EI K a) G W:=by
 show#[λi m ys H=>m=xs.length-i/\i<=xs.length/\Pv i ys H,#[xs.length,by simp,OC _,L],?_];rintro i m ys H ⟨rfl,hi,p⟩;let q:=I i ys H hi p;cases F:i<xs.length
 .show .inr #[#[xs,xs[i],q,by simp[F]],Pv (i+1),λO H' N=>#[xs.length-(i+1),Pd (PR xs) i F,rfl,F,N],λx H' y=>?_];let#[e,y]:=y;subst e;show hs i x ys _ (y xs q) p
 .let e:i=xs.length:=ag;subst e;show .inl #[#[xs,q,rr _],hd ys H p]
theorem DZ{K:HC}{a:Addr}{xs:XD}{caps:List (Str×Nat)}{tt:TT}{te:TE}{σ:St}{H:Hp}{G:List V->Hp->Prop}(Pv:Nat->List V->Hp->Prop)(L:Pv 0 [] H)(I:∀i ys H,i<=xs.length->Pv i ys H->cu K H a xs)
  (hs:∀i x ys H,xs[i]?=some x->Pv i ys H->tt (lF caps σ (some x)) H λb H2=>if b=true then te (lF caps σ (some x)) H2 (λy J=>ys.length<sizeLine/\Pv (i+1) (ys++[y]) J)else Pv (i+1) ys H2)
  (hd:∀ys H,Pv xs.length ys H->G ys H):∃W:Nat->Nat->List V->Hp->Prop,(∃m,W 0 m [] H)/\jv caps tt te σ (LW K a) G W:=by
 show#[λi m ys H=>m=xs.length-i/\i<=xs.length/\Pv i ys H,#[xs.length,by simp,OC _,L],?_];rintro i m ys H ⟨rfl,hi,p⟩;let q:=I i ys H hi p;cases F:i<xs.length
 .show .inr #[#[xs,xs[i],q,by simp[F]],Pv (i+1),λO H' N=>#[xs.length-(i+1),Pd (PR xs) i F,rfl,F,N],λx H' y=>?_];let#[e,y]:=y;subst e;show hs i x ys _ (y xs q) p
 .let e:i=xs.length:=ag;subst e;show .inl #[#[xs,q,rr _],hd ys H p]
theorem fj{caps:List (Str×Nat)}{te:TE}{σ:St}{H:Hp}{lo:Int}{n:Nat}{F:List V->Hp->Prop}(Pv:Nat->List V->Hp->Prop)(I:Pv 0 [] H)
  (hs:∀i ys H,i<n->Pv i ys H->te (lF caps σ (some (.int (lo+i)))) H (λy G=>ys.length<sizeLine/\Pv (i+1) (ys++[y]) G))
  (hd:∀ys H,Pv n ys H->F ys H):∃W:Nat->Nat->List V->Hp->Prop,(∃m,W 0 m [] H)/\jv caps qY te σ (FJ lo n) F W :=
 yF Pv I (λi ys H hi p=>by
  change if true=true then _ else Pv (i+1) ys H
  rw[WQ rfl];show hs i ys H hi p) hd
theorem yH{K:HC}{a:Addr}{xs:XD}{caps:List (Str×Nat)}{te:TE}{σ:St}{H:Hp}{F:List V->Hp->Prop}(Pv:Nat->List V->Hp->Prop)(J:Pv 0 [] H)(G:∀i ys H,i<=xs.length->Pv i ys H->bD K H a xs)
  (hs:∀i x ys H,xs[i]?=some x->Pv i ys H->te (lF caps σ (some x)) H (λy I=>ys.length<sizeLine/\Pv (i+1) (ys++[y]) I))
  (hd:∀ys H,Pv xs.length ys H->F ys H):∃W:Nat->Nat->List V->Hp->Prop,(∃m,W 0 m [] H)/\jv caps qY te σ (EI K a) F W :=
 Ai Pv J G (λi x ys H hi p=>by
  change if true=true then _ else Pv (i+1) ys H
  rw[WQ rfl];show hs i x ys H hi p) hd
theorem AJ{K:HC}{a:Addr}{xs:XD}{caps:List (Str×Nat)}{te:TE}{σ:St}{H:Hp}{F:List V->Hp->Prop}(Pv:Nat->List V->Hp->Prop)(J:Pv 0 [] H)(G:∀i ys H,i<=xs.length->Pv i ys H->cu K H a xs)
  (hs:∀i x ys H,xs[i]?=some x->Pv i ys H->te (lF caps σ (some x)) H (λy I=>ys.length<sizeLine/\Pv (i+1) (ys++[y]) I))
  (hd:∀ys H,Pv xs.length ys H->F ys H):∃W:Nat->Nat->List V->Hp->Prop,(∃m,W 0 m [] H)/\jv caps qY te σ (LW K a) F W :=
 DZ Pv J G (λi x ys H hi p=>by
  change if true=true then _ else Pv (i+1) ys H
  rw[WQ rfl];show hs i x ys H hi p) hd
theorem eI:OE "list" = some (.type "list"):=aq
theorem p5:OE "tuple" = some (.type "tuple"):=aq
theorem jn:OE "int" = some (.type "int"):=aq
theorem uG:OE "dict" = some (.type "dict"):=aq
theorem yA:OE "max" = some (.builtin "max"):=aq
theorem bF:OE "isinstance" = some (.builtin "isinstance"):=aq
theorem sj:OE "sorted" = some (.builtin "sorted"):=aq
section
variable{X:Cx}
inductive EF(x:V)(vs:XD)(H:Hp)(Q:VK):Prop
 |mk(l:Addr)(ns:W5)(k:Int)(_:x=.ref l)(_:vs=[.int k])(_:H l=some (.lst (ns.map V.int)))(_:k∈ns)(_:Q (.int (ns.idxOf k:Nat)) H)
theorem Ef:IG X "list.index" EF:=by
 intros x vs v us Q I S R h;let#[l,ns,k,rfl,rfl,Y,U,q]:=h;cases S;let#[u,rfl,ru]:=R.one;let#[t,rfl]:=ru;let#[z,its,n,r,J,e]:=I.qr Y;let hi:=intsAre_of r;let O:=hi.length;rw[k9]at J z;let hs:=ti;let G:ns.idxOf k<ns.length:=Pp.mpr U;show Ra Tc #[_,e,rfl] PySem.F.entry_list_index (PySem.F.args_list_index_2 _ _)
  (SeqAt.list_indexAt l its.toArray n none ([].toArray) (.int k t) (WG k) (ns.idxOf k) (by simpa[O]using G) ag ?_ ?_) #[e,λy hy=>(eq_isInt k t hi y ‹hy›).at _ _,#[.int (ns.idxOf k:Nat),H,I.tok _,#[0],q]]
 .change WG k its[ns.idxOf k]=true;rw[V5 k hi _ (PN G J) G];simpa using Sv G
 .intro j N L;change WG k its[j]=false;rw[V5 k hi j ‹N› (U3 L G)];show ne_of_lt_idxOf L _
inductive DH(x:V)(vs:XD)(H:Hp)(Q:VK):Prop
 |mk(l:Addr)(ns:W5)(k:Int)(_:x=.ref l)(_:vs=[.int k])(_:H l=some (.lst (ns.map V.int)))(_:Q (.int (ns.count k:Nat)) H)
theorem Cg:IG X "list.count" DH:=by
 intros x vs v us Q I J G h;let#[l,ns,k,rfl,rfl,F,q]:=h;cases J;let#[u,rfl,ru]:=G.one;let#[t,rfl]:=ru;let#[z,its,n,r,L,e]:=I.qr F;show count_list_ints (PySem.IsL.isList e) (intsAre_of r) #[.int (ns.count k:Nat),H,I.tok _,#[0],q]
end
def mL:List V->List V->Bool
 | [],[]=>true
 |x::xs,y::ys=>ny x y&&mL xs ys
 |_,_=>false
theorem qL:∀{xs ys:XD},xs.length≠ys.length->mL xs ys=false
 | [],[],h=>absurd rfl h
 | [],_::_,_=>rfl
 |_::_,[],_=>rfl
 |x::xs,y::ys,h=>by
  let F:=qL (xs:=xs) (ys:=ys) λe=>h (by simp[e]);change(ny x y&&mL xs ys)=false;rw[F,T9]
theorem kf:∀{xs ys:XD},xs.length=ys.length->(Ox xs.length).all (λj=>ny (xs.getD j .non) (ys.getD j .non))=mL xs ys
 | [],[],_=>rfl
 |x::xs,y::ys,h=>by
  let F:=kf (xs:=xs) (ys:=ys) ‹h›;rw[K4,List.range_succ_eq_map,all_cons,Wv];change(ny x y&&_)=(ny x y&&mL xs ys);rw[<-F];rfl
 | [],_::_,h=>by simp at h
 |_::_,[],h=>by simp at h
theorem gZ(xs:W5):(xs.map V.int).all eK=true:=by
 rw[Wv];show OJ.mpr λ_ _=>rfl
section
variable{X:Cx}
inductive Kh(K:HC)(x:V)(y:V)(H:Hp)(Q:VK):Prop
 |mk(p:_)(q:_)(xs:_)(ys:_)(_:x=.ref p)(_:y=.ref q)(_:bD K H p xs)(_:bD K H q ys)(_:xs.all eK=true)(_:ys.all eK=true)(_:Q (.bl (mL xs ys)) H)
theorem HP(O:X.A.units<QG):mh X (Pq .Eq) (Kh X.K):=by
 intros x y v u Q I rx ry h;let#[p,q,xs,ys,rfl,rfl,hx,hy,Y,fy,N]:=h;cases rx;cases ry;let#[its,r,pl,hz]:=I.list hx;let#[U,L,S,ad]:=I.list hy;let F:=r.length;let R:=L.length;cases e:xs.length=ys.length
 .show SeqAt.eq_listAt (e:=λj=>ny (xs.getD j .non) (ys.getD j .non)) pl.isList S.isList (by rw[qs,qs];omega) O (λj h1 h2=>?_) #[.bl (mL xs ys),H,I,?_,N]
  .let G:j<xs.length:=(by rw[qs]at h1;show PN h1 (id (RH F)));let J:j<ys.length:=PN h2 (id (RH R));let#[a,ea,ra]:=r.get (i:=j) (x:=xs[j]) (by simp[G]);let#[b,eb,rb]:=L.get (i:=j) (x:=ys[j]) (by simp[J]);let#[_,ac]:=mu.mp ea;let#[_,ab]:=mu.mp eb;let g1:xs.getD j .non=xs[j]:=(by simp[G]);let g2:ys.getD j .non=ys[j]:=(by simp[J]);change Qk _ _ its.toArray[j] U.toArray[j] (ny (xs.getD j .non) (ys.getD j .non));rw[g1,g2];let f1:eK xs[j]=true:=OJ.mp Y _ (Py G);let f2:eK ys[j]=true:=OJ.mp fy _ (Py J);let z:=oV (A:=X.A.in1) (s:=s) ra rb f1 f2;let a1:its.toArray[j]=a:=‹ac›;let a2:U.toArray[j]=b:=‹ab›;rw[a1,a2];show z
  .change Value.bool _=Value.bool _;rw[qs, <-F,kf e]
 .show SeqAt.eq_list_lengthsAt pl.isList S.isList ?_ O #[.bl (mL xs ys),H,I,?_,N]
  .rw[qs,qs, <-F, <-R];show bne_iff_ne.mpr e
  .change Value.bool _=Value.bool _;rw[qL e]
theorem vQ:J7 X (Fx X.K):=by
 intros o i ov iv Q I S Y h;let#[p,xs,k,z,rfl,rfl,U,O,q]:=h;cases S;let#[t,rfl]:=Y;let#[its,r,pl,hz]:=I.list U;let#[j,h1,h2,h3,h4,N]:=tH O;let#[w,G,ab]:=r.get h2;let R:=r.length;let hn:=qy;let J:EP X pins σ Q w s:=#[z,H,I,ab,q];cases L:0<=k
 .let F:k.toNat=j:=by
   rw[SJ L N]at h1;show sS h1
  show wpAny_getItem_list pl.isList L ag (by rw[F];simpa using G) J
 .let F:(k+(its.toArray.size:Int)).toNat=j:=by
   rw[seqIndex_neg ag h4]at h1;rw[qs, <-R];show sS h1
  show Tt pl.isList ag (by rw[qs]<;>omega) ag (by rw[F];simpa using G) J
theorem gH:dS X (.builtin "isinstance") (λxs H Q=>∃x n t b,xs=[x,.ty n]/\lC X.K H x t/\DO X.K t (.type n)=some b/\Q (.bl b) H):=by
 intros xs us Q I r h;let#[x,n,t,b,rfl,ty,e,q]:=h;let#[u,c,rfl,ru,F]:=vals2 r;obtain rfl:c=Value.type n:=F;show Bi I ru ty e λtk=>#[.bl b,H,I.tok _,rfl,q]
theorem JK(K:HC):DO K (.type "list") (.type "list")=some true:=rfl
end
theorem Ce:OE "range" = some (.type "range"):=aq
section
variable{X:Cx}
end
end L2
namespace PySem.W
open PySem PySem.Spec PySem.Calls PyProof.Rows Builtin Builtin.ObjectAttr Builtin.Getset_descriptor
section
variable{prog:rn}{w:By}{A:Oj}{E:WV}{s:k8}{K:HC}{x C:Addr}
theorem FX{M:SG}{h:Heap}{v a g:Value}{name:Str}(X:K.In h)(G:OQ K (.ref C) name=some (some a))(J:R0 K a "__get__" = some (some g))(I:TH K a=some true) :
  Uk M h (find v (.ref C) name) (.bind g a):=by
 let L:=Sk (M:=M) X G;let L2:Uk M h (getOf (some a)) (some g):=looks_specialIn X J;let F:=looks_takesIn (M:=M) X I;show L.andThen (L2.andThen ((show Uk M h (dataDescriptor? (some a) (some g)) (some (g,a))from F.andThen .now).andThen (Looks.tag .now)))
theorem tF{R:VL->k8->Prop}{F:Value}(X:K.In s.heap)(I:Uk (model prog w) s.heap (Vd (.ref x)) (.ref C))(G:TK K C (.type "object")=some true)
  (h:R (.ok (.ret (.ref C))) s):Rh (model prog w) A (.call (.builtin "getset_descriptor.__get__") #[[.builtin "object.__class__",.ref x,F],[]]) R s:=by
 let#[J,g,L,t,os]:=s;let N:=looks_mroIn (M:=model prog w) X G;show RP KF.slot_gs.plain KF.entry_gs (KF.slot_gs.check _ _ _ _ _ _ _ _ KF.type_class (KF.args_gs _ _ _) ?_);unfold Builtin.«getset_descriptor.__get__» descrGet;rw[dga_obj];show nq (wpAny_pure ?_);unfold descrGetter descrCheckInstance descrNameAndClass isInstance;simp only[KF.owner_class]
 repeat lk
 show#[Code.quiet_builtin _ aq,codeAny_builtin KF.entry_class ?_];unfold Builtin.«object.__class__» shownTypeOf
 repeat lk
 show h
theorem B1{tk:Wx}{Q:Fin->k8->Prop}(X:K.In s.heap)(F:Uk (model prog w) s.heap (Vd (.ref x)) (.ref C))(I:TK K C (.type "object")=some true)
  (G:OQ K (.ref C) "__class__" = some (some (.builtin "object.__class__"))) (J:R0 K (.builtin "object.__class__") "__get__" = some (some (.builtin "getset_descriptor.__get__"))) (N:TH K (.builtin "object.__class__")=some true)
  (h:Q (.done (.ret (.ref C))) s):wpAny (model prog w) A (Builtin.«object.__getattribute__» #[[.ref x,.str "__class__" tk],[]]) Q E s:=by
 let#[O,g,R,t,os]:=s;let L:=FX (M:=model prog w) (v:=.ref x) X G J N;show nq (wpAny_pure (nq (wpAny_pure (nq (F.at (nq (L.at ?_)))))));change wpAny _ _ (QU [.builtin "object.__class__"] (call (.builtin "getset_descriptor.__get__") [.builtin "object.__class__",.ref x,.ref C])>>=ret) _ _ _;show nq (Pm (Sl (tF X F I (wpAny_pure h))))
theorem AN(self:Value):bindSpecial (.builtin "BaseException.__getattribute__") self=pure (.builtin "BaseException.__getattribute__",[self]):=F.excAttr_ValueError.ga.bind self
theorem yt{M:SG}{Q:Unit->k8->Prop}(X:K.In s.heap)(N:Uk M s.heap (Vd (.ref x)) (.ref C))(L:TK K C (.type "BaseException")=some true)(b:Value)
  (I:Q () s):wpAny M A (Vf "BaseException.__getattribute__" #[[.ref x,b],[]]) Q E s:=by
 let#[R,g,S,t,os]:=s;let U:=looks_mroIn (M:=M) X L;let G:builtinKind "BaseException.__getattribute__" = some .slot:=aq;let J:splitId "BaseException.__getattribute__" = some ("BaseException","__getattribute__"):=aq;let O:=F.args_bexc_ga (.ref x) b;simp only[Vf,G,J];unfold isInstance
 repeat lk
 show I
theorem vJ{tk:Wx}{Q:WV}(X:K.In s.heap)(G:Uk (model prog w) s.heap (Vd (.ref x)) (.ref C))(S:TK K C (.type "object")=some true)(O:TK K C (.type "BaseException")=some true)
  (I:OQ K (.ref C) "__getattribute__" = some (some (.builtin "BaseException.__getattribute__"))) (N:OQ K (.ref C) "__getattr__" = some none)
  (R:OQ K (.ref C) "__class__" = some (some (.builtin "object.__class__"))) (L:R0 K (.builtin "object.__class__") "__get__" = some (some (.builtin "getset_descriptor.__get__"))) (J:TH K (.builtin "object.__class__")=some true)
  (h:Q (.ref C) s):wpAny (model prog w) A (getAttrBy (.ref x) (.str "__class__" tk) false) Q E s:=by
 let#[hh,g,Y,t,os]:=s;let U:=Sk (M:=model prog w) X I;let L2:=Sk (M:=model prog w) X N;unfold getAttrBy;show Pm (nq (G.at (nq (U.at ?_))));change wpAny _ _ (getAttrByItsOwn _ _ _ _ _ _) _ _ _;unfold getAttrByItsOwn;show nq (show wpAny _ _ (VQ (.ref C) "__getattr__") _ _ _ from L2.at (nq (Ut (Pm ?_))));change wpAny _ _ (boundAndCalled _ _ _) _ _ _;unfold boundAndCalled;rw[AN];show nq (wpAny_pure ?_);change wpAny _ _ (call (.builtin "BaseException.__getattribute__") [.ref x,.str "__class__" tk]) _ _ _;show Sl (RP F.excAttr_ValueError.ga.plain F.entry_bexc_ga (yt X G O _ (B1 X G S R L J ?_)));show wpAny_pure h
theorem CZ{Q:Option Value->k8->Prop}(X:K.In s.heap)(F:Uk (model prog w) s.heap (Vd (.ref x)) (.ref C))(O:TK K C (.type "object")=some true)(J:TK K C (.type "BaseException")=some true)
  (I:OQ K (.ref C) "__getattribute__" = some (some (.builtin "BaseException.__getattribute__"))) (G:OQ K (.ref C) "__getattr__" = some none)
  (N:OQ K (.ref C) "__class__" = some (some (.builtin "object.__class__"))) (R:R0 K (.builtin "object.__class__") "__get__" = some (some (.builtin "getset_descriptor.__get__"))) (L:TH K (.builtin "object.__class__")=some true)
  (h:Q (some (.ref C)) { s with toks:=s.toks+1 }):wpAny (model prog w) A (getAttr? (.ref x) "__class__") Q E s:=by
 unfold getAttr? getAttrBy?;show nq (wpAny_mkText (nq (Ut (vJ (s:={ s with toks:=s.toks+1 }) X F O J I G N R L (wpAny_pure h)))))
end
structure yX(K:HC)(C:Addr):Prop where
 ob:TK K C (.type "object")=some true
 be:TK K C (.type "BaseException")=some true
 ga:OQ K (.ref C) "__getattribute__" = some (some (.builtin "BaseException.__getattribute__"))
 gb:OQ K (.ref C) "__getattr__" = some none
 cc:OQ K (.ref C) "__class__" = some (some (.builtin "object.__class__"))
 cg:R0 K (.builtin "object.__class__") "__get__" = some (some (.builtin "getset_descriptor.__get__"))
 ct:TH K (.builtin "object.__class__")=some true
theorem yX.cl{K:HC}{C:Addr}(c:yX K C):(clsIn K C).isSome=true:=by
 let#[cd,h,_]:=Option.bind_eq_some_iff.mp c.ob;rw[h];rfl
theorem uZ{K:HC}{x C:Addr}(c:yX K C):KitX K (.ref x) (.ref C) (λh=>∃o,h.get? x=some o/\o.cls=.ref C) where
 ty:=λM h _ ⟨o,h1,h2⟩=>h2▸(Vt h1).andThen .now
 it:=λ_ _ X _=>by
  let#[I,F]:=Qi.mp c.cl;unfold clsIn at F
  set_option tactic.hygienic true in split at F
  .rename_i L d' R J G;intro U S Y s' k q;unfold isType loadHead;show nq (wpAny_loadPart (k _ _ (X _ _ G)) (wpAny_pure q))
  .cases F
 ne:=λh N dd its n sl X O=>by
  let#[I,F]:=Qi.mp c.cl;show Bool.eq_false_iff.mpr λq=>?_;let e:C=N:=Value.ref.inj (beq_iff_eq.mp q);subst e;unfold clsIn at F
  set_option tactic.hygienic true in split at F
  .rename_i L d' R J G;let z:=(X _ _ G).symm.trans O;cases z
  .cases F
 ca:=λX ⟨o,h1,h2⟩ k=>CZ X (h2▸(Vt h1).andThen .now) c.ob c.be c.ga c.gb c.cc c.cg c.ct k
end PySem.W
namespace L2
open PySem PySem.Spec PyProof.Rows PySem.W
def xo(e:Addr)(cls:Value):HO:=.ext λh=>∃o,h.get? e=some o/\o.cls=cls
theorem K8{P:rn}{w:By}{H:Hp}{h:Heap}{e:Addr}{cls:Value}(x:∃o,h.get? e=some o/\o.cls=cls):cn P w H h e (xo e cls):=
 #[x,let ⟨o,F,_⟩:=x;#[o,F],λh1 h2 ⟨o,F,G⟩ k=>#[o,k o F,G]]
theorem iq{X:Cx}:dS X (.builtin "isinstance") (λxs H Q=>∃(e C:Addr)(c:V)(cv:Value)(b:Bool),xs=[.ref e,c]/\((∃D,c=.ref D/\cv=.ref D)\/∃n,c=.ty n/\cv=.type n)/\yX X.K C/\H e=some (xo e (.ref C))/\DO X.K (.ref C) cv=some b/\Q (.bl b) H):=by
 intros xs us Q I r h;let#[e,C,c,cv,b,rfl,O,R,N,G,q]:=h;let#[u,L,rfl,ru,F]:=vals2 r;obtain rfl:u=Value.ref e:=ru;let J:L=cv:=by
  rcases O with⟨D,rfl,rfl⟩|⟨n,rfl,rfl⟩
  .show F
  .show F
 subst J;let#[p,_]:=(show cn X.prog X.w H s.heap e (xo e (.ref C))from I.bV e _ N);show OY (uZ R) I.jX p G (λz=>nomatch z) λtk=>#[.bl b,H,I.tok _,rfl,q]
def C2(e:Addr)(h:Heap):Prop:=∃o vs,h.get? e=some o/\o.data=.fields vs/\vs[2]?=some .none
def Nx(f:Obj->Obj):Prop:=∀o vs,o.data=.fields vs->vs[2]?=some .none->∃F,(f o).data=.fields F/\F[2]?=some .none
inductive Pl{α:Type}:RS α->Prop
 |pure(a:α):Pl (.pure a)
 |raise(e:Value):Pl (.raise e)
 |unsupported(x:String):Pl (.unsupported x)
 |finish(x:Ending):Pl (.finish x)
 |rule(tag:String)(k:Unit->RS α)(h:∀u,Pl (k u)):Pl (.rule tag k)
 |at_(p:QM)(k:Unit->RS α)(h:∀u,Pl (k u)):Pl (.at p k)
 |load(a:Addr)(part:W3)(k:Obj->RS α)(h:∀o,Pl (k o)):Pl (.load a part k)
 |update(a:Addr)(part:W3)(f:Obj->Obj)(k:Unit->RS α)(hf:Nx f)(h:∀u,Pl (k u)):Pl (.update a part f k)
 |alloc(o:Obj)(k:Addr->RS α)(h:∀a,Pl (k a)):Pl (.alloc o k)
 |loadIfAlive(a:Addr)(k:Option Obj->RS α)(h:∀o,Pl (k o)):Pl (.loadIfAlive a k)
 |point(l:W0)(k:Unit->RS α)(h:∀u,Pl (k u)):Pl (.point l k)
 |register(a:Addr)(k:Unit->RS α):Pl (.register a k)
 |fresh(k:Wx->RS α)(h:∀t,Pl (k t)):Pl (.fresh k)
 |ask(k:Setting->RS α)(h:∀t,Pl (k t)):Pl (.ask k)
 |handled(own:Bool)(k:Option Value->RS α)(h:∀t,Pl (k t)):Pl (.handled own k)
 |stack(k:List (Code×QM)->RS α)(h:∀t,Pl (k t)):Pl (.stack k)
theorem Pl.bind{α J:Type}{t:RS α}{k:α->RS J}(h:Pl t)(L:∀a,Pl (k a)):Pl (t>>=k):=by
 change Pl (Sem.bind t k)
 induction h with
 |pure a=>show L a
 |raise e=>show .raise e
 |unsupported x=>show .unsupported x
 |finish x=>show .finish x
 |rule N G _ F=>show .rule _ _ F
 |at_ p G _ F=>show .at_ _ _ F
 |load a part G _ F=>show .load _ _ _ F
 |update a part f G I _ F=>show .update _ _ _ _ I F
 |alloc o G _ F=>show .alloc _ _ F
 |loadIfAlive a G _ F=>show .loadIfAlive _ _ F
 |point l G _ F=>show .point _ _ F
 |register a G=>show .register _ _
 |fresh G _ F=>show .fresh _ F
 |ask G _ F=>show .ask _ F
 |handled own G _ F=>show .handled _ _ F
 |stack G _ F=>show .stack _ F
theorem C2.push{e:Addr}{h:Heap}{o:Obj}(c:C2 e h):C2 e (h.push o):=let ⟨x,vs,h1,h2⟩:=c;#[x,vs,Heap.get?_push_of_some _ h1,h2]
theorem C2.update{e a:Addr}{h:Heap}{f:Obj->Obj}(c:C2 e h)(I:Nx f):C2 e (h.update a f):=by
 let#[x,vs,h1,h2,F]:=c;cases q:a=e
 .subst q;let#[J,G,g2]:=I x vs h2 F;show#[f x,J,Heap.get?_update_self _ h1 (Obj.isFreed_of_fields G),G,g2]
 .show#[x,vs,(Heap.get?_update_other _ _ q).trans h1,h2,F]
theorem Pl.wp{α:Type}{M:SG}{G:PySem.Ctx}{t:RS α}{e:Addr}{Q:α->QM->k8->Prop}{E:Value->QM->k8->Prop}(h:Pl t):∀(p:QM)(s:k8),QR M G t Q E p s->C2 e s.heap ->
  QR M G t (λa p s=>Q a p s/\C2 e s.heap) (λx p s=>E x p s/\C2 e s.heap) p s:=by
 induction h with
 |pure a=>intro p s q c;rw[QR]at q ⊢;show#[q,c]
 |raise e=>intro p s q c;rw[QR]at q ⊢;show#[q,c]
 |unsupported x=>intro p s q c;rw[QR]at q;show q.elim
 |finish x=>intro p s q c;rw[QR]at q;show q.elim
 |rule N k _ F=>intro p s q c;rw[QR]at q ⊢;show F () p s q c
 |at_ L k _ F=>intro p s q c;rw[QR]at q ⊢;show F () L s q c
 |load a part k _ F=>intro p s q c;rw[QR]at q ⊢;let#[o,J,q]:=q;show#[o,J,F o p s q c]
 |update a part f k I _ F=>intro p s q c;rw[QR]at q ⊢;show#[q.1,F () p _ q.2 (c.update I)]
 |alloc o k _ F=>intro p s q c;rw[QR]at q ⊢;show F _ p _ q c.push
 |loadIfAlive a k _ F=>intro p s q c;rw[QR]at q ⊢;show F _ p s q c
 |point l k _ F=>intro p s q c;rw[QR]at q ⊢;show F () p s q c
 |register a k=>intro p s q c;rw[QR]at q;show q.elim
 |fresh k _ F=>intro p s q c;rw[QR]at q ⊢;show F _ p _ q c
 |ask k _ F=>intro p s q c;rw[QR]at q ⊢;show F _ p s q c
 |handled own k _ F=>intro p s q c;rw[QR]at q ⊢;show F _ p s q c
 |stack k _ F=>intro p s q c;rw[QR]at q ⊢;show F _ p s q c
theorem Pl.any{α:Type}{M:SG}{A:Oj}{t:RS α}{e:Addr}{Q:α->k8->Prop}{E:WV}{s:k8}(h:Pl t)(q:wpAny M A t Q E s)(c:C2 e s.heap):wpAny M A t (λa s=>Q a s/\C2 e s.heap) (λx s=>E x s/\C2 e s.heap) s :=
 λG p F=>h.wp p s (q G p F) c
theorem IQ{i:Nat}{v:Value}(h:i≠2):Nx (Obj.mapFields (·.setIfInBounds i v)):=λo vs hd h2=>#[_,Obj.data_mapFields hd _,by rw[Array.getElem?_setIfInBounds_ne h];show h2]
theorem uQ(a:Addr):Pl (load a):=.load _ _ _ λo=>.pure o
theorem Bh(v:Value):Pl (fieldsOf v):=by
 unfold fieldsOf;split
 .show Pl.bind (uQ _) λo=>?_;split
  .show .pure _
  .show .unsupported _
 .show .unsupported _
theorem kN(v:Value)(i:Nat):Pl (field v i):=by
 unfold field;show Pl.bind (Bh v) λvs=>?_;split
 .show .pure _
 .show .unsupported _
theorem jf(v:Value)(i:Nat)(x:Value)(h:i≠2):Pl (setField v i x):=by
 unfold setField;split
 .unfold updateField;show Pl.bind (uQ _) λo=>?_;split
  .split
   .show .update _ _ _ _ (IQ h) λu=>.pure u
   .show .unsupported _
  .show .unsupported _
 .show .unsupported _
theorem pJ:Pl stack:=.stack _ λl=>.pure l
theorem uD(ty:String)(vs:W0):Pl (newFields ty vs):=by
 let F:Pl (newObjAsIs (Value.type ty) (RK vs.toArray)):=Pl.bind (.alloc _ _ λa=>.pure a) λa=>.pure _;unfold newFields newObj;dsimp only;split
 .show Pl.bind (.unsupported _) λ_=>F
 .show F
theorem FH:Pl frameEnvs:=by
 unfold frameEnvs;show Pl.bind pJ λl=>.pure _
theorem Ao(env:SW)(outer:XC):Pl (behindIsImport env outer):=by
 unfold behindIsImport;split
 .show .pure _
 .split
  .show .pure _
  .show Pl.bind (kN _ _) λ_=>.pure _
theorem EG:Pl Ud:=by
 unfold Ud;show Pl.bind pJ λ_=>.pure _
theorem EW(env:SW)(i:Bool)(l:XC):Pl (keptBack env i l):=by
 unfold keptBack;split
 .split
  .show .pure _
  .show Pl.bind EG λ_=>.pure _
 .show .pure _
theorem vP:∀l:List SW,Pl (readyFrames l)
 | []=>.pure _
 |env::outer=>by
  unfold readyFrames;split
  .show Pl.bind (uQ _) λo=>?_;split
   .show .pure _
   .show Pl.bind (Ao _ _) λi=>Pl.bind (EW _ _ _) λb=>Pl.bind (.update _ _ _ _ (λo vs h1 h2=>#[vs,h1,h2]) λu=>.pure u) λ_=>vP outer
  .show .unsupported _
theorem qA(l:XC):Pl (frameObject l):=by
 cases l with
 |nil=>show .pure _
 |cons env outer =>
  unfold frameObject;show Pl.bind (vP _) λ_=>.pure _
theorem xI(env:SW):Pl (Uw env):=by
 unfold Uw;show Pl.bind FH λl=>Pl.bind (qA _) λo=>?_;split
 .show .pure _
 .show .unsupported _
theorem Ej(f:Addr)(b:Bool):Pl (U8 f b):=by
 unfold U8;show Pl.bind pJ λl=>?_;split
 .show .pure _
 .show .pure _
theorem l9(v:Value)(f:W4):Pl (setFlight v f):=by
 unfold setFlight;show Pl.bind (kN _ _) λtb=>?_;split
 .show jf _ _ _ ao
 .show .pure _
theorem zw(v:Value)(env:SW):Pl (noteFrame v env):=by
 unfold noteFrame;split
 .show Pl.bind (kN _ _) λhd=>?_;let rest:∀f:Addr,Pl (do
    let a <-Uw env
    let pl <-U8 f (hd != .none)
    let b <-EntryCells.newEntry hd a .none (rawInt f) .none pl
    setField v 1 b):=λf=>Pl.bind (xI _) λa=>Pl.bind (Ej _ _) λq=>Pl.bind (uD _ _) λb=>jf _ _ _ ao
  split
  .show Pl.bind (kN _ _) λx=>?_;split
   .show .pure _
   .show Pl.bind (jf _ _ _ ao) λ_=>rest _
  .show rest _
 .show .unsupported _
theorem yg(env:SW)(v:Value):Pl (leaving env v):=by
 unfold leaving;show Pl.bind (zw _ _) λ_=>l9 _ _
def vv(B:Heap)(l:XC)(e:Addr)(cls G:Value)(h:Heap):Prop :=
 B.StaysIn h/\B.get? e=none/\h.FunFrames B l/\∃F vs,h.get? e=some F/\F.cls=cls/\F.data=.fields vs/\vs[0]?=some G/\vs[1]?=some .none
def DY(X:Cx)(pins:WU)(σ:St)(H:Hp)(B:Heap)(s:k8):Prop :=
 ∀(h':Heap)(tk:Nat),B.StaysIn h'->s.heap.UpToSlots h'->~~~H { s with heap:=h',toks:=tk }
structure DN(X:Cx)(pins:WU)(H:Hp)(e:Addr):Prop where
 old:X.s₀.heap.get? e=none
 loc:e≠X.env.locals
 fs:e∉X.fs
 cell:∀x c,X.env.cells.lookup x=some c->c≠e
 pin:∀p∈X.pn++pins,p.1≠e
 free:H e=none
abbrev XR:=St->Value->Hp->Prop
def XP(X:Cx)(pins:WU)(R:XR)(x:Value)(s':k8):Prop :=
 ∃(e:Addr)(cls F:Value)(B:Heap)(σ:St)(H:Hp),x=.ref e/\(vv B X.stack e cls F s'.heap\/Heap.FlyingW B X.stack e cls F s'.heap\/∃L,X.env.frame=some L/\Heap.HeldW B X.stack e cls F L s'.heap)/\C2 e s'.heap/\DY X pins σ H B s'/\DN X pins H e/\R σ cls H
def fQ(P:rn)(w:By):uq:=λouter H s E x s' =>
 ∃(e:Addr)(cls F:Value)(B:Heap)(H':Hp),x=.ref e/\s'.os=s.os/\RY s'.gens/\s.heap.get? e=none/\H' e=none/\Heap.FlyingW B outer e cls F s'.heap/\C2 e s'.heap /\
  (∀h',B.StaysIn h'->s'.heap.UpToSlots h'->Un (rj outer) [] H H' s.heap h'/\j4 P w H' h')/\E cls none H'
section
variable{X:Cx}{pins:WU}{σ:St}{H H':Hp}{s s':k8}
theorem Inv.Hl(I: ~~~H s)(hex:X.ex=[]){e:Addr}(h:s.heap.get? e=none)(L:H' e=none):DN X pins H' e:=by
 let G:X.s₀.heap.get? e=none:=by
  cases q:X.s₀.heap.get? e with
  |none=>rfl
  |some o =>
   let#[o',z]:=I.base.there e o q (by rw[hex];simp);rwa[h]at z
 show#[G,λz=>?_,λz=>?_,λx c q z=>?_,λp J z=>?_,L]
 .let#[m,#[o,_,_,F,_],_]:=I.loc;rwa[<-z,h]at F
 .let#[_,o,F,_]:=I.ok.ky.mem z;rwa[G]at F
 .let#[v,o,F,_]:=I.cell x c q;rwa[z,h]at F
 .have:=(I.pin p J).1;rwa[z,h]at this
theorem Inv.comes{E:XK}{x:Value}(I: ~~~H s)(hex:X.ex=[])(h:fQ X.prog X.w X.stack H s E x s'):XP X pins (λF cls H'=>F=σ/\E cls none H') x s':=by
 let#[e,cls,J,B,H',rfl,os,bare,new,free,N,G,keep,q]:=h;show#[e,cls,J,B,σ,H',rfl,.inr (.inl N),G,λh' tk k u=>?_,I.Hl hex new free,rfl,q];let#[un,L]:=keep h' k u;show I.DX (s':={ s' with heap:=h',toks:=tk }) (ch:=[]) os un L bare (λb z=>absurd z (by simp))
theorem XP.imp{R F:XR}{x:Value}(h:XP X pins R x s')(S:∀σ cls H,R σ cls H->F σ cls H):XP X pins F x s':=by
 let#[e,cls,L,B,σ,H,O,G,I,J,N,q]:=h;show#[e,cls,L,B,σ,H,O,G,I,J,N,S _ _ _ q]
theorem DY.now{B:Heap}(b:DY X pins σ H B s)(k:B.StaysIn s.heap): ~~~H s:=b s.heap s.toks k (Heap.UpToSlots.refl _)
end
abbrev EM:=St->Hp->VK->(Value->Hp->Prop)->Prop
abbrev qO:=Ends->XR->St->Hp->Prop
def AD(X:Cx)(e:Ou)(t:EM):Prop :=
 ∀(pins:WU)(s:k8)(σ:St)(H:Hp)(Q:VK)(R:Value->Hp->Prop),~~~H s->t σ H Q R ->
  ↑(eval e X.env) (EP X pins σ Q) (XP X pins λF cls H'=>F=σ/\R cls H') s
def Cn(X:Cx)(st:Oz)(t:qO):Prop :=
 ∀(pins:WU)(s:k8)(σ:St)(H:Hp)(D:Ends)(R:XR),~~~H s->t D R σ H->↑(exec st X.env) (SP X pins D) (XP X pins R) s
def pH(X:Cx)(st:List Oz)(t:qO):Prop :=
 ∀(pins:WU)(s:k8)(σ:St)(H:Hp)(D:Ends)(R:XR),~~~H s->t D R σ H->↑(execs st X.env) (SP X pins D) (XP X pins R) s
section
variable{X:Cx}{e:Ou}{te:TE}{tx:EM}{t:TS}{ts us:qO}{st:Oz}{sts rest:List Oz}{pos:QM}
theorem dD(h:PS X.nE st t):Cn X st (λD _ σ H=>t D σ H):=λpins s σ H D R I q =>
 OG (h pins s σ H D (I.ix _) q) (λ_ _ z=>z.cE) λ_ _ z=>z.elim
def zh(t u:qO):qO:=λD R σ H=>t { D with nx:=u D R } R σ H
theorem aF(h1:Cn X st ts)(h2:pH X rest us):pH X (st::rest) (zh ts us):=by
 intros D R I h;show Rt (cp (h1 pins s σ H _ R I h) λf L F=>?_);cases f with
 |next =>
  let#[J,H',G,q]:=F;show h2 pins L J H' D R G q
 |brk=>show F
 |cont=>show F
 |ret u=>show F
theorem cf(h1:Cn X st ts):pH X [st] ts:=by
 intros D R I h;show Rt (cp (h1 pins s σ H D R I h) λf F q=>?_);cases f with
 |next=>show P0 q
 |ret v=>show q
 |brk=>show q
 |cont=>show q
def Cc:qO:=λD _ σ H=>D.nx σ H
theorem cz:pH X [] Cc:=λ_ _ σ H _ _ I h=>P0 #[σ,H,I,h]
theorem nx{α:Type}{M:SG}{A:Oj}{F:RS α}{Q G:α->k8->Prop}{E:WV}{s:k8}(h:wpAny M A F Q (λ_ _=>False) s)(I:∀a s,Q a s->G a s):wpAny M A F G E s :=
 OG h I λ_ _ z=>z.elim
def Js(te:EM):qO:=λD R σ H=>te σ H (λ_ H1=>D.nx σ H1) (R σ)
theorem XP.at{pins:WU}{σ:St}{R:XR}{x:Value}{s':k8}(h:XP X pins (λF cls H'=>F=σ/\R σ cls H') x s'):XP X pins R x s':=h.imp λ_ _ _ ⟨e,q⟩=>e▸q
theorem fP(G:AD X e tx)(hs:Rb e none pos.line X.env=pure false:=by rfl):Cn X (.Expr e pos) (Js tx):=by
 intros D R I h;show wpAny_Expr_any (OG (G pins s σ H _ _ I h) (λv L ⟨x,H1,J,N,F⟩=>#[σ,H1,J,F]) λ_ _ z=>z.at) I.quiet hs
def J8(te:EM):qO:=λD R σ H=>te σ H D.rt (R σ)
theorem iJ(G:AD X e tx):Cn X (.Return (some e) pos) (J8 tx):=by
 intros D R I h;show UN (OG (G pins s σ H _ _ I h) (λv N ⟨x,H1,J,L,F⟩=>#[x,σ,H1,J,L,F]) λ_ _ z=>z.at)
def Gp(te:EM)(i:Nat):qO:=λD R σ H=>te σ H (λv H1=>D.nx (σ.set i (some v)) H1) (R σ)
theorem FN{i:Nat}{x:Str}{pos':QM}(F:X.N.Nodup)(hi:X.N[i]?=some x)(O:Loc X.env.scope x)(J:AD X e tx)(hs:Rb e (some (.Name x pos')) pos.line X.env=pure false:=by rfl)(S:X.fn x=true\/X.env.scope.names.lookup x=some .local:=by first|show .inl rfl|show .inr rfl|assumption) :
  Cn X (.Assign [.Name x pos'] e pos) (Gp tx i):=by
 intros D R I h;show UR (OG (J pins s σ H _ _ I h) (λv s1 ⟨y,H1,L,U,G⟩=>?_) λ_ _ z=>z.at) hs;show iy L F hi O U (λs2 Y=>#[_,H1,Y,G]) S
theorem Bw(i:Nat){x:Str}{pos':QM}(J:X.N.Nodup)(I:AD X e tx)(hi:X.N[i]?=some x:=by rfl)(F:Loc X.env.scope x:=by first|show .inl rfl|show .inr rfl)(hs:Rb e (some (.Name x pos')) pos.line X.env=pure false:=by rfl)(G:X.fn x=true\/X.env.scope.names.lookup x=some .local:=by first|show .inl rfl|show .inr rfl|assumption):Cn X (.Assign [.Name x pos'] e pos) (Gp tx i):=FN J hi F I hs G
def FU(c:TT)(t u:qO):qO:=λD R σ H=>c σ H λb H1=>if b=true then t D R σ H1 else u D R σ H1
theorem dF{c:Ou}{a b:List Oz}{tc:TT}(L:PT X.nE c tc)(O:pH X a ts)(N:pH X b us):Cn X (.If c a b pos) (FU tc ts us):=by
 intros D R I h;show wpAny_If (nx (L pins s σ H _ (I.ix _) h) λd J ⟨H1,G,F⟩=>?_);cases d with
 |true=>show O pins J σ H1 D R G.cE F
 |false=>show N pins J σ H1 D R G.cE F
variable{k:Nat}{f C:Addr}{fd:pa}{ps:W6}{sp:Sp}{dvs:XD}{ds:W0}{x m:Str}{p apos:QM}{o:Ou}{es:XB}{ta:TE}{t:TA}
theorem zc{pins:WU}{σ:St}{H:Hp}{s:k8}{Q:VK}{R:Value->Hp->Prop}{us:W0}{vs:XD}(F:aX X.prog X.w X.K X.mg X.base (fQ X.prog X.w) k f fd ps sp)(U:dG k X.A)(S:Binds X.K fd ps ds)(hd:Vals dvs ds)(hex:X.ex=[])
  (I: ~~~H s) (r:Vals vs us) (h:sp (vs++dvs) H Q λcls _ H'=>R cls H'):↑(call (.ref f) us) (EP X pins σ Q) (XP X pins λN cls H'=>N=σ/\R cls H') s:=by
 let J:Vals (vs++dvs) (us++ds):=r.append hd;let L:(us++ds).length=ps.length:=(by rw[<-J.length];show F.len _ _ _ _ h);show Sl (Sa (F.run X.A X.stack s H #[us,[]] (us++ds) (vs++dvs) Q _ U I.Jx (S s us I.jX L) J h) λr s' G=>?_);cases r with
 |error e=>show I.comes (E:=λcls _ H'=>R cls H') hex (show fQ X.prog X.w X.stack H s (λcls _ H'=>R cls H') e s' from G)
 |ok O =>
  cases O with
  |ret u=>show I.after G
  |next=>show Ph G
  |brk=>show Ph G
  |cont=>show Ph G
def Co(sp:Sp)(dvs:XD)(t:TA):EM:=λσ H Q R=>t σ H λvs H1=>sp (vs++dvs) H1 Q λcls _ H'=>R cls H'
def DA(C:Addr)(m:Str)(sp:Sp)(dvs:XD)(ta:TE)(t:TA):EM:=λσ H Q R=>ta σ H λx H1=>∃a dx fs,x=.ref a/\H1 a=some (.ins C dx fs)/\fs.lookup m=none /\
 t σ H1 λvs H2=>sp (x::(vs++dvs)) H2 Q λcls _ H'=>R cls H'
theorem EE(F:aX X.prog X.w X.K X.mg X.base (fQ X.prog X.w) k f fd ps sp)(S:dG k X.A)(hex:X.ex=[])(Y:Gl X x)(U:X.mg x=some (.ref f))(J:To X.K (.ref f)=true)(N:Binds X.K fd ps ds)(hd:Vals dvs ds)
  (O:PA X.nE (e::es) t) (ac:(x==("__debug__" : Str))=false:=by decide) (L:XF X e es:=by rfl) (ab:(backTo pos (starEach es X.env)).any (·.1)=false:=by rfl) :
  AD X (.Call (.Name x p) (e::es) [] pos) (Co sp dvs t):=by
 intros Q R I h;show P5 (iI I Y U ?_ ac);show Sm (h₀:=X.base) I.ok.mod.ES J (nx (O pos pins s σ H _ (I.ix _) h) λus s1 ⟨vs,H1,G,r,q⟩=>#[G.cE.jX,?_]) L ab;show zc F S N hd hex G.cE r q
theorem CJ{pl:RS Bool}(he:PE X.nE o ta)(c:qQ X.K C)(L:Meth X.K C m f)(F:aX X.prog X.w X.K X.mg X.base (fQ X.prog X.w) k f fd ps sp)(hr:dG k X.A)(hex:X.ex=[])(hb:Binds X.K fd ps ds)(hd:Vals dvs ds)(ha:PA X.nE (e::es) t)
  (ab:XF X e es:=by rfl) (Y:(backTo pos (starEach es X.env)).any (·.1)=false:=by rfl)
  (N:eval (.Call (.Attribute o m apos) (e::es) [] pos) X.env=(do
   let ov <-eval o X.env
   RZ apos.atName
   let (f,first) <-QU [ov] (QV ov m pl)
   Sn pos f first (backTo pos (starEach (e::es) X.env)) (Q1 pos (P2 [] X.env))):=by rfl) :
  AD X (.Call (.Attribute o m apos) (e::es) [] pos) (DA C m sp dvs ta t):=by
 intros Q R I h;show RE (pl:=pl) (nx (he pins s σ H _ (I.ix _) h) λu S ⟨x,H1,G,U,a,dx,fs,ex,O,l,q⟩=>?_) N;subst ex;obtain rfl:u=Value.ref a:=U;show iD G.cE O c L l ?_;show Sm (first:=[.ref a]) (h₀:=X.base) I.ok.mod.ES L.kp (nx (ha pos pins S σ H1 _ G q) λus s2 ⟨vs,H2,J,r,q2⟩=>#[J.cE.jX,?_]) ab Y;show zc (us:=.ref a::us) (vs:=.ref a::vs) F hr hb hd hex J.cE (.cons rfl r) q2
end
def BE:List Value:=[.type "ValueError",.type "Exception",.type "BaseException",.type "object"]
theorem F5{K:HC}{h:Heap}{C:Addr}{J:W0}{G:String}(X:K.In h)(q:excIn K C J G=true) :
  ∃bm N nm q bs hdct sn sub ab col dd k0 k1 k2 k3 k5 mN,h.get? C=some (excClassObj nm q C N bs bm hdct sn sub ab col dd k0 k1 k2 k3 k5 G)/\h.Ns N mN/\mN "__init__" = none/\OwnTail h J bm:=by
 unfold excIn at q
 set_option tactic.hygienic true in split at q
 .rename_i dd cd sl Y
  set_option tactic.hygienic true in split at q
  .rename_i C' bm k0 k1 k2 k3 n k5 L hs;simp only[Qp,beq_iff_eq,Bool.not_eq_true']at q;let#[#[#[#[#[rfl,rfl],I],R],F],O]:=q;let#[nm,bs,ac,ns,S,hd,sn,sub,ab,col,del]:=cd;dsimp only at L I F O;subst L I;let U:sl = ([k0,k1,k2,k3,some (.builtin n),k5].toArray):=by
    let#[l]:=sl;simp only at hs;rw[hs]
   subst U;show#[bm,ns,nm,S,bs,hd,sn,sub,ab,col,dd,k0,k1,k2,k3,k5,_,X _ _ Y,.of_isNs (PySem.W.isNs_of_in X F),PySem.W.nsMap_none_of_in X F O,PySem.W.tail_of_in X R]
  .cases q
 .cases q
theorem vb{P:rn}{w:By}{H:Hp}{h:Heap}{a:Addr}{o:HO}(x:cn P w H h a o):∃F,h.get? a=some F:=by
 cases o with
 |lst xs=>let#[_,_,_,_,e]:=x;show#[_,e]
 |tup xs=>let#[_,_,_,p]:=x;let#[o,e,_]:=p;show#[_,e]
 |dK kvs=>let#[_,_,_,_,o,_,_,e,_]:=x;show#[_,e]
 |dT kvs=>let#[_,_,_,_,o,_,_,e,_]:=x;show#[_,e]
 |set S n=>let#[o,_,_,_,e,_]:=x;show#[_,e]
 |ins C dx fs=>let#[_,_,_,e,_]:=x;show#[_,e]
 |own y=>let#[_,e]:=x;show#[_,e]
 |xd fs=>let#[_,#[_,_,_,e,_],_]:=x;show#[_,e]
 |rng lo hi=>let#[_,_,_,e]:=x;show#[_,e]
 |frz F u=>let#[e,_]:=x;show#[_,e]
 |tbl ps=>show#[_,(show h.get? a=some _ from x)]
 |met f y=>show#[_,(show h.get? a=some _ from x)]
 |ext G=>let#[_,e,_]:=x;show e
section
variable{X:Cx}{pins:WU}{σ:St}{H:Hp}{s:k8}
theorem Inv.raised{h':Heap}{e:Addr}{cls:Value}{vs:W0}(I: ~~~H s)(hex:X.ex=[])(G:Heap.MadeExcOf s.heap h' e cls vs):XP X pins (λS c H'=>S=σ/\c=cls/\H'=H) (.ref e) { s with heap:=h' }:=by
 let#[t,J,ad,ht]:=G.there;let ab:∀env∈X.stack,∀a,env.frame=some a->a∈rj X.stack:=λenv J a hf=>Sj.mpr #[env,J,hf];let nf:∀b u,H b=some u->b∉rj X.stack:=λb u q z=>(by rwa[I.uB b z]at q);let hB:∀b,s.heap.get? b=none->(Wq s.heap (rj X.stack)).get? b=none:=λb q=>by
  cases z:(Wq s.heap (rj X.stack)).get? b with
  |none=>rfl
  |some o=>rwa[VE _ z]at q
 show#[e,cls,.ref t,Wq s.heap (rj X.stack),σ,H,rfl,.inl #[λb o q=>G.keeps b o (VE _ q),hB e G.new,?_,2,J,1,1],#[2,J,1],λN tk k u=>?_,I.Hl hex G.new ?_,1,rfl]
 .show(PySem.W.funFrames_hide I.stack ab).of_keeps λb o q _=>#[o,G.keeps b o q,rfl]
 .let L:∀b o,s.heap.get? b=some o->b∉rj X.stack->N.get? b=some o:=λb o q Y=>k b o (hideAll_get _ q Y);let sl:∀b o,s.heap.get? b=some o->b∈rj X.stack->∃sl,N.get? b=some { o with slots:=sl }:=λb o q F=>by
   let#[_,o',R,hd]:=I.stack.mem F;rwa[q]at R;show u b o (G.keeps b o q) hd
  show I.DX (s':={ s with heap:=N,toks:=tk }) (ch:=[]) rfl #[λb o q n F _=>L b o q F,λb o q n F _=>sl b o q F,λb o q n _=>n,λb o q _=>?_,λb xs q=>q,λb o u q=>q,λb ps q=>#[([].toArray),by rw[q];simp]] (λa o q=>?_) I.bare (λb z=>absurd z (by simp))
  .by_cases F:b∈rj X.stack
   .let#[ac,U]:=sl b o q F;show#[_,U]
   .show#[o,L b o q F]
  .show(I.bV a o q).iX (λc v hc qc=>L c v qc ?_) (λ_ z=>z) λ_ _ z=>z;rcases hc with z|z
   .rw[z];show nf a o q
   .show nf c _ z
 .cases z:H e with
  |none=>rfl
  |some o =>
   let#[ob,O]:=vb (I.bV e o z);rwa[G.new]at O
end
abbrev TJ:=Str->St->Hp->(Str->Hp->Prop)->Prop
def PJ(X:Cx)(vs:XB)(t:TJ):Prop :=
 ∀(pins:WU)(s:k8)(σ:St)(H:Hp)(F:Str)(Q:Str->Hp->Prop),~~~H s->t F σ H Q->Joins (model X.prog X.w) X.A X.xe (evalEach vs X.env) F (λout G=>∃H',~~~H' G/\Q out H') s
section
variable{X:Cx}{v v2:Ou}{vs:XB}{te:TE}{t:TJ}{pos:QM}
def LI:TJ:=λacc _ H Q=>Q acc H
def JE(te:TE)(t:TJ):TJ:=λF σ H Q=>te σ H λx H1=>∃y,x=.str y/\(F++y).length<=sizeLine/\t (F++y) σ H1 Q
theorem kl:PJ X [] LI:=λ_ s _ H _ _ I h=>show ∃H',_ from#[H,I,h]
theorem cL(G:PE X v te)(L:PJ X vs t):PJ X (v::vs) (JE te t):=by
 intros R Q I h;change wpAny _ _ (eval v X.env) _ _ s;show cp (G pins s σ H _ I h) λu N ⟨x,H1,J,O,y,ex,F,q⟩=>?_;subst ex;let#[tk,rfl]:=O;show#[y,tk,rfl,F,L pins N σ H1 _ Q J q]
theorem iK(h:PJ X (v::v2::vs) t):PE X (.JoinedStr (v::v2::vs) pos) (λσ H Q=>t Str.empty σ H λout H'=>out.length<=sizeLine/\Q (.str out) H'):=by
 intros Q I q;show wpAny_JoinedStr ?_;let z:=h pins s σ H Str.empty _ I q;let O:∀(l:List (RS Value))(G:Str)(s:k8),Joins (model X.prog X.w) X.A X.xe l G (λout F=>∃H',~~~H' F/\out.length<=sizeLine/\Q (.str out) H') s ->
   Joins (model X.prog X.w) X.A X.xe l G (λout F=>out.length<=sizeLine/\EP X pins σ Q (.str out F.toks) { F with toks:=F.toks+1 }) s:=by
  intro l
  induction l with
  |nil =>
   intro G s ⟨H',N,J,L⟩;show#[J,.str G,H',N.tok _,#[0],L]
  |cons a r R =>
   intro G s S;show cp S λu F ⟨y,tk,e,J,L⟩=>#[y,tk,e,J,R _ _ L]
 show O _ _ _ z
theorem kU(G:PE X v te):PE X (.FormattedValue v (-1) none pos) (λσ H Q=>te σ H λx H1=>∃i:Int,x=.int i/\i.natAbs.log2<1920/\Q (.str (toString i)) H1):=by
 intros Q I h;show wpAny_FormattedValue_plain (cp (G pins s σ H _ I h) λu N ⟨x,H1,J,L,i,ex,F,q⟩=>?_);subst ex;let#[tk,rfl]:=L;show wpAny_formatField_int F #[.str (toString i),H1,J.tok _,#[0],q]
end
theorem len_app(a b:Str):(a++b).length=a.length+b.length:=strLen_append a b
theorem E7{i:Int}(h:i.natAbs.log2<1920):(toString i:Str).length<=1921:=by
 let e:=int_text_length_le (k:=1920) ao h;change(Str.ofString (toString i)).length<=1921;rw[PySem.ofString_length];show e
section
variable{X:Cx}{C:Addr}{x:Str}{np cpos pos:QM}{e₀:Ou}{es:XB}{t:TA}
theorem fX(hg:Gl X x)(hm:X.mg x=some (.ref C))(U:excIn X.K C BE "ValueError.__new__" = true)(hc:X.calm=true)(hex:X.ex=[])(ha:PA X.nE (e₀::es) t)
  (J:starEach (e₀::es) X.env=(false,eval e₀ X.env)::starEach es X.env:=by rfl) (ac:(backTo cpos (starEach es X.env)).any (·.1)=false:=by rfl) (hd:(x==("__debug__" : Str))=false:=by decide) :
  Cn X (.Raise (some (.Call (.Name x np) (e₀::es) [] cpos)) none pos) (λD R σ H=>t σ H λvs H1=>vs.length<=sizeLine/\R σ (.ref C) H1):=by
 intros D R I h;let#[tl,N,nm,q,bs,hdct,sn,sub,ab,col,dd,k0,k1,k2,k3,k5,mN,hC,O,ad,T]:=F5 I.ok.mod.ES U;show wpAny_Raise_call_subT (C:=C) (nm:=nm) (q:=q) (N:=N) (bs:=bs) (bm:=tl) (hdct:=hdct) (sn:=sn) (sub:=sub) (ab:=ab) (col:=col) (dd:=dd) (k0:=k0) (k1:=k1) (k2:=k2) (k3:=k3) (k5:=k5)
  F.excBase_ValueError (mN:=mN) (T.hasType F.excBase_ValueError.hasBase) (I.ok.hd hc) (by rw[J];change(false||(backTo cpos (starEach es X.env)).any (·.1))=false;rw[ac];rfl) ad (iI I hg hm #[5] hd)
 let h2:=ha cpos pins s σ H _ (I.ix _) h;rw[J]at h2 ⊢;show Calls.evalArgs_plain (nx h2 λus s2 ⟨vs,H1,G,r,L,S⟩=>#[5,G.cE.bk _ _ hC,O.keeps G.cE.bk,T.keeps G.cE.bk,λh' e Y=>?_])
 .change us.length<=sizeLine;rw[<-r.length];show L
 .show(G.cE.raised hex Y).imp λ_ _ _ ⟨a,b,c⟩=>by subst a b c;show S
variable{P:rn}{w:By}{K:HC}{mg:WW}{base:Heap}
theorem sW{M:SG}{A:Oj}{E:WV}{s:k8}{B:Heap}{env:SW}{outer:XC}{L e:Addr}{cls F:Value}{Q:Unit->k8->Prop}
  (O:A.frames=some (env::outer)) (G:env.frame=some L) (h:vv B (env::outer) e cls F s.heap\/Heap.FlyingW B (env::outer) e cls F s.heap\/∃L,env.frame=some L/\Heap.HeldW B (env::outer) e cls F L s.heap)
  (J:∀h',Heap.FlyingW B outer e cls F h'->s.heap.UpToSlots h'->Q () { s with heap:=h' }):wpAny M A (leaving env (.ref e)) Q E s:=by
 rcases h with⟨h1,h2,U,oe,vs,Y,hc,hd,h0,S⟩|h|⟨L',N,R⟩
 .subst hc;show wpAny_leaving_firstW O U G Y h1 h2 hd S h0 λh' ⟨k1,⟨_,_,k2⟩,k3,k4⟩=>J h' #[k1,h2,k2,k3] k4
 .show wpAny_leaves_onW O G h J
 .rw[G]at N;cases N;let#[g1,g2,g3,g4]:=id R;show nq (Tx G g4 (wpAny_landsW R λh' I up=>J h' #[I.1,I.2.1,?_,I.2.2.2] up));show(show h'.FunFrames B (env::outer)from I.2.2.1).2.2
theorem vG{M:SG}{A:Oj}{E:WV}{s:k8}{B:Heap}{env:SW}{outer:XC}{L e:Addr}{cls F:Value}{Q:Unit->k8->Prop}
  (O:A.frames=some (env::outer)) (N:env.frame=some L) (h:vv B (env::outer) e cls F s.heap\/Heap.FlyingW B (env::outer) e cls F s.heap\/∃L,env.frame=some L/\Heap.HeldW B (env::outer) e cls F L s.heap) (c:C2 e s.heap)
  (G:∀h',Heap.FlyingW B outer e cls F h'->s.heap.UpToSlots h'->C2 e h'->Q () { s with heap:=h' }):wpAny M A (leaving env (.ref e)) Q E s :=
 OG ((yg env (.ref e)).any (E:=λ_ _=>False) (sW (Q:=λ_ s'=>∃h',s'={ s with heap:=h' }/\Heap.FlyingW B outer e cls F h'/\s.heap.UpToSlots h') O N h λh' f u=>#[h',rfl,f,u]) c)
  (λ_ s' ⟨⟨h',J,f,u⟩,I⟩=>by subst J;show G h' f u I) λ_ _ z=>z.1.elim
theorem cD.Od{x R:Str}{st:Oz}{f:Addr}{fd:pa}{N ps:W6}{k:Nat}{sp:Sp}(F:cD K x R st f fd)(S:aE N ps (aw st))(len:∀vs H Q E,sp vs H Q E->vs.length=ps.length)
  (ac:∀(G:Value)(A:Oj)(outer:XC)(s:k8)(H:Hp)(vs:XD)(Q:VK)(E:XK),dG k (A.deeper (So R (aw st) s⁻¹ f G))->sp vs H Q E ->
   ∃t,pH (sJ (fQ P w) P w K mg base N R (aw st) f G A outer s H E) (eT st) t/\t { nx:=λ_ H'=>Q .non H',rt:=Q } (λ_ cls H'=>E cls none H') (start N vs) H):⇑aX (k+1) f fd ps sp:=by
 let#[oc,od,kV,as,pm,an,G,ct,aD,rfl,lk,ad]:=F.ex;show GY lk ad S len λA outer s H vs Q E hr ab=>?_;let#[t,h,q]:=ac G A outer s H vs Q E hr ab;show#[λD σ H'=>t D (λ_ cls H'=>E cls none H') σ H',λpins s1 σ H1 D I q1=>?_,q];show OG (h pins s1 σ H1 D _ I q1) (λ_ _ z=>z) λv s2 hx=>?_;let#[e,cls,a0,B,aB,H2,rfl,U,c2,Y,new,hE]:=hx;let iX:B.StaysIn s2.heap:=by
  rcases U with z|z|⟨_,_,z⟩
  .show z.1
  .show z.1
  .show z.1
 let O:=Y.now iX;show vG (L:=s⁻¹) O.ok.frames rfl U c2 λh' am up c3=>?_;show#[e,cls,a0,B,H2,rfl,O.os,O.bare,new.old,new.free,am,c3,λap k u=>(λJ=>#[J.base,J.bV]) (Y ap s2.toks k (up.trans u)),hE]
theorem cD.jl{x qual:Str}{st:Oz}{f:Addr}{fd:pa}{N ps:W6}{k:Nat}{sp:Sp}(F:cD K x qual st f fd)(S:aE N ps (aw st))
  (hb:∀(cdv:Value)(A:Oj)(outer:XC)(s:k8)(H:Hp)(vs:XD)(Q:VK)(E:XK)(hr:dG k (A.deeper (So qual (aw st) s⁻¹ f cdv)))(h:sp vs H Q E),∃t,pH (sJ (fQ P w) P w K mg base N qual (aw st) f cdv A outer s H E) (eT st) t/\t { nx:=λ_ H'=>Q .non H',rt:=Q } (λ_ cls H'=>E cls none H') (start N vs) H) (len:∀vs H Q E,sp vs H Q E->vs.length=ps.length:=by intro vs H Q E h;cases h<;>subst_vars<;>rfl):⇑aX (k+1) f fd ps sp:=F.Od S len hb
end
abbrev Cx.hand(X:Cx)(e:Addr):Cx:={ X with A:=X.A.mark (some (.ref e)),calm:=false }
section
variable{X:Cx}{pins:WU}{σ:St}{H:Hp}{s:k8}
theorem Cx.Ok.hand(ok:X.Ok)(e:Addr):(X.hand e).Ok :=
 #[ok.mod,ok.kind,ok.glob,ok.blt,ok.above,ok.inj,ok.has,ok.HL,(λz=>Bool.noConfusion z),ok.frames,ok.JR,ok.LU,ok.bs,ok.BO,ok.ye,ok.w9,ok.ky,ok.Ge]
theorem Inv.hand(I: ~~~H s)(e:Addr):Inv (X.hand e) pins σ H s:=#[I.ok.hand e,I.os,I.bare,I.base,I.loc,I.cell,I.free,I.gx,I.pin,I.bV,I.len]
theorem Inv.Ii{e:Addr}(I:Inv (X.hand e) pins σ H s)(ok:X.Ok): ~~~H s:=#[ok,I.os,I.bare,I.base,I.loc,I.cell,I.free,I.gx,I.pin,I.bV,I.len]
theorem Inv.Hr{e:Addr}{cls:Value}(I: ~~~H s)(n:DN X pins H e)(x:∃o,s.heap.get? e=some o/\o.cls=cls): ~~~(upd H e (xo e cls)) s:=by
 let ne:∀b o,H b=some o->b≠e:=λb o q=>av q n.free;show#[I.ok,I.os,I.bare,#[I.base.keep,I.base.slot,λb o q J R=>?_,I.base.there,λb xs q=>?_,λb o u q=>?_,λb ps q=>?_],I.loc,I.cell,?_,λy c q=>?_,λp F=>?_,λb u q=>?_,I.len]
 .rw[aj (λz=>by rwa[z,n.old]at q)];show I.base.free b o q J R
 .let z:=I.base.oH b xs q;rw[aj (ne _ _ z)];show z
 .let z:=I.base.m7 b o u q;rw[aj (ne _ _ z)];show z
 .let#[L,z]:=I.base.qM b ps q;show#[L,by rw[aj (ne _ _ z)];show z]
 .rw[aj (ro n.loc)];show I.free
 .rw[aj (n.cell y c q)];show I.gx y c q
 .let#[N,O,S]:=I.pin p F;show#[N,by rw[aj (n.pin p F)];show O,S]
 .by_cases G:b=e
  .subst G;rwa[ae]at q;show K8 x
  .rw[aj G]at q;show(I.bV b u q).iX (λ_ _ _ z=>z) (λc z=>by rw[aj (ne _ _ z)];show z) λc xs z=>by rw[aj (ne _ _ z)];show z
theorem Inv.unset{i:Nat}{n:Str}{m:WW}{h':Heap}{v:W3}{tk:Nat}(I: ~~~H s)(hN:X.N.Nodup)(hi:X.N[i]?=some n)(hl:X.env.kindOf n=some .local)
  (hm:s.heap.Ns X.env.locals m) (Y:∀(i:Nat)(x:Str)(v:V),X.N[i]?=some x->σ[i]?=some (some v)->LA X.env.scope x->∃u,RelV v u/\Look X.env s.heap m x u)
  (hn:h'.Ns X.env.locals (λx=>if x=n then v else m x)) (hs:Heap.SameBut X.env.locals s.heap h'):Inv X pins (σ.set i none) H { s with heap:=h',toks:=tk }:=by
 let ab:i<σ.length:=(by rw[I.len];show(mu.mp hi).1);let C0:=I.C0;let R:∀b o,X.s₀.heap.get? b=some o->b≠X.env.locals:=λb o e=>OI (Ow (Heap.lt_size e) I.ok.above);show#[I.ok,I.os,I.bare,#[λb o e n S J=>?_,λb o e n S J=>?_,I.base.free,λb o e J=>?_,I.base.oH,I.base.m7,I.base.qM],#[_,hn,λj y v' F L e3=>?_],λy c e=>?_,I.free,I.gx,λp hp=>?_,λb ob e=>?_,by simpa using I.len]
 .show(hs.2 b (R b o e)).trans (I.base.keep b o e n S J)
 .let#[sl,F]:=I.base.slot b o e n S J;show#[sl,(hs.2 b (R b o e)).trans F]
 .let#[o',F]:=I.base.there b o e J;show#[o',(hs.2 b (R b o e)).trans F]
 .by_cases O:j=i
  .subst O;rwa[OL ab]at L
  .rw[OB (ro O)]at L;let#[u',r',q]:=Y j y v' F L e3;show#[u',r',?_];rcases q with⟨k,e⟩|⟨k,c,e,z⟩
   .show .inl #[k,?_];have:y≠n:=λe=>O (qz hN F (e▸hi));simp[this,e]
   .show .inr #[k,c,e,z.sameBut hs (C0 y c e)]
 .let#[U,z]:=I.cell y c e;show#[U,z.sameBut hs (C0 y c e)]
 .let#[e,n,ne,nf,d]:=I.pin p hp;show#[(hs.2 p.1 ne).trans e,n,ne,nf,d]
 .show(I.bV b ob e).iX (λc U G q=>(hs.2 c ?_).trans q) (λ_ q=>q) λ_ _ q=>q;rintro rfl;rcases G with G|G
  .rw[<-G,I.free]at e;cases e
  .rw[I.free]at G;cases G
end
theorem vp{M:SG}{A:Oj}{E:WV}{s:k8}{B:Heap}{env:SW}{outer:XC}{L e:Addr}{cls G:Value}{Q:Unit->k8->Prop}
  (O:A.frames=some (env::outer)) (F:env.frame=some L) (h:vv B (env::outer) e cls G s.heap\/Heap.FlyingW B (env::outer) e cls G s.heap\/∃L,env.frame=some L/\Heap.HeldW B (env::outer) e cls G L s.heap)
  (I:∀h',Heap.HeldW B (env::outer) e cls G L h'->s.heap.UpToSlots h'->Q () { s with heap:=h' }):wpAny M A (noteFrame (.ref e) env) Q E s:=by
 rcases h with⟨h1,h2,U,oe,vs,R,hc,hd,h0,N⟩|h|⟨L',J,S⟩
 .subst hc;unfold noteFrame;simp only[F];show nq (RM R hd N ?_);rw[WO ao];show wpAny_entryW O U F R h1 h2 hd (QS.mp N).1 h0 λh' ⟨k1,k2,k3,Y⟩=>I h' #[k1,h2,k2,k3] Y
 .show wpAny_looks_onW O F h I
 .rw[F]at J;cases J;show Tx F S.2.2.2 (I s.heap S (Heap.UpToSlots.refl _))
theorem pz{M:SG}{A:Oj}{E:WV}{s:k8}{B:Heap}{env:SW}{outer:XC}{L e:Addr}{cls F:Value}{Q:Unit->k8->Prop}
  (O:A.frames=some (env::outer)) (N:env.frame=some L) (h:vv B (env::outer) e cls F s.heap\/Heap.FlyingW B (env::outer) e cls F s.heap\/∃L,env.frame=some L/\Heap.HeldW B (env::outer) e cls F L s.heap) (c:C2 e s.heap)
  (G:∀h',Heap.HeldW B (env::outer) e cls F L h'->s.heap.UpToSlots h'->C2 e h'->Q () { s with heap:=h' }):wpAny M A (noteFrame (.ref e) env) Q E s :=
 OG ((zw (.ref e) env).any (E:=λ_ _=>False) (vp (Q:=λ_ s'=>∃h',s'={ s with heap:=h' }/\Heap.HeldW B (env::outer) e cls F L h'/\s.heap.UpToSlots h') O N h λh' f u=>#[h',rfl,f,u]) c)
  (λ_ s' ⟨⟨h',J,f,u⟩,I⟩=>by subst J;show G h' f u I) λ_ _ z=>z.1.elim
theorem Fi{M:SG}{A:Oj}{E:WV}{s:k8}{B:Heap}{l:XC}{e L:Addr}{cls F:Value}{Q:Unit->k8->Prop}(N:Heap.HeldW B l e cls F L s.heap)(c:C2 e s.heap)
  (G:∀h',Heap.FlyingW B l e cls F h'->s.heap.UpToSlots h'->C2 e h'->Q () { s with heap:=h' }):wpAny M A (setFlight (.ref e) none) Q E s :=
 OG ((l9 (.ref e) none).any (E:=λ_ _=>False) (wpAny_landsW (Q:=λ_ s'=>∃h',s'={ s with heap:=h' }/\Heap.FlyingW B l e cls F h'/\s.heap.UpToSlots h') N λh' f u=>#[h',rfl,f,u]) c)
  (λ_ s' ⟨⟨h',J,f,u⟩,I⟩=>by subst J;show G h' f u I) λ_ _ z=>z.1.elim
theorem BR{M:SG}{A:Oj}{E:WV}{s:k8}{B:Heap}{l:XC}{e:Addr}{cls F:Value}{Q:Unit->k8->Prop}(L:Heap.FlyingW B l e cls F s.heap)(c:C2 e s.heap)
  (G:∀h',Heap.FlyingW B l e cls F h'->s.heap.UpToSlots h'->C2 e h'->Q () { s with heap:=h' }):wpAny M A (setFlight (.ref e) none) Q E s :=
 OG ((l9 (.ref e) none).any (E:=λ_ _=>False) (lands_againW (Q:=λ_ s'=>∃h',s'={ s with heap:=h' }/\Heap.FlyingW B l e cls F h'/\s.heap.UpToSlots h') L λh' f u=>#[h',rfl,f,u]) c)
  (λ_ s' ⟨⟨h',J,f,u⟩,I⟩=>by subst J;show G h' f u I) λ_ _ z=>z.1.elim
def GV(i:Nat)(D:Ends):Ends:={ nx:=λσ H=>D.nx (σ.set i none) H,rt:=D.rt,bk:=λσ H=>D.bk (σ.set i none) H,ct:=λσ H=>D.ct (σ.set i none) H }
def Lz(K:HC)(C:Addr)(i:Nat)(tb:qO)(ts:TS):TS:=λD σ H=>tb D (λF cls H'=>exmOne K cls (.ref C)=some true/\∀e,H' e=none->ts (GV i D) (F.set i (some (.ref e))) (upd H' e (xo e cls))) σ H
section
variable{X:Cx}{C:Addr}{i:Nat}{x n:Str}{np hpos pos:QM}{body suite:List Oz}{b₀:Oz}{tb:qO}{ts:TS}
theorem Iv(hex:X.ex=[])(a8:X.stack=X.env::X.outer)(hf:X.env.frame=some X.env.locals)(hg:Gl X x)(hm:X.mg x=some (.ref C))(hN:X.N.Nodup)(hi:X.N[i]?=some n)(S:X.env.scope.names.lookup n=some .local)
  (hb:pH X body tb) (hs:∀e,wI (X.hand e).nE (b₀::suite) ts) (hd:(x==("__debug__" : Str))=false:=by decide) :
  PS X (.Try body [.ExceptHandler (some (.Name x np)) (some n) (b₀::suite) hpos] [] [] pos) (Lz X.K C i tb ts):=by
 intros D I h;show wpAny_Try_except (OG (hb pins s σ H D _ I h) (λf R q=>?_) λv R hx=>?_)
 .cases f with
  |next=>show P0 q
  |ret v=>show q
  |brk=>show q
  |cont=>show q
 let#[e,cls,a0,B,a9,H1,rfl,fl,c2,be,new,a7,hk]:=hx;let iX:B.StaysIn R.heap:=by
  rcases fl with z|z|⟨_,_,z⟩
  .show z.1
  .show z.1
  .show z.1
 let I1:=be.now iX;let ap:=I1.ok.frames;rw[a8]at fl ap;let a1:=I1.ok;show pz ap hf fl c2 λh4 held a3 c4=>?_;show Fi held c4 λh5 ab as c5=>?_;let ad:=a3.trans as;let I5:=(be h5 R.toks ab.1 ad).hand e;let#[ob,aD,aT]:=ab.there;show wpAny_handleBy_cons (codeAny_handlers_test (iI (X:=X.hand e) I5 hg hm ?_ hd)) (by intro q;cases q);let LT:Uk (model X.prog X.w) h5 (Vd (.ref e)) cls:=aT▸(Vt aD).andThen .now;show(PySem.W.exm_one I5.jX LT a7).here (s:={ R with heap:=h5 }) ?_;show codeAny_handlers_suite_as ?_;show BR ab c5 λh6 am aB c6=>?_;let I6:=be h6 R.toks am.1 (ad.trans aB);let a2:=(I6.Hr (cls:=cls) new am.there).hand e;show iy (X:=X.hand e) (v:=.ref e) a2 hN hi (.inl S) rfl (λs7 I7=>?_) (.inr S);show nx (hs e pins s7 _ _ _ (I7.ix _) (hk e new.free)) λf s8 U=>?_;let Y:∀{G:St}{L:Hp}{Q:k8->Prop},Inv (X.hand e).nE pins G L s8->(∀J,Inv X pins (G.set i none) L J->Q J) ->
   ↑(do US X.env n .none;unbindBehindTheSuite X.env n hpos) (λ_ J=>Q J) X.xe s8:=λ{G L Q} F k=>by
  let ac:Inv X pins G L s8:=(F.cE).Ii a1;let#[m,hn,a4]:=ac.loc;show wpAny_nameGoes_keeps S hn (by rw[ac.ok.kind];rfl) λh' v a5 a6=>k _ (ac.unset hN hi S hn a4 a5 a6)
 cases f with
 |next =>
  let#[G,L,F,q]:=U;show Y F λJ O=>#[2,O,q]
 |brk =>
  let#[G,L,F,q]:=U;show Y F λJ O=>#[2,O,q]
 |cont =>
  let#[G,L,F,q]:=U;show Y F λJ O=>#[2,O,q]
 |ret u =>
  let#[v,G,L,F,rv,q]:=U;show Y F λJ O=>#[v,2,O,rv,q]
variable{κ:Type}[DecidableEq κ]
def fq(kvs:List (κ×V))(k:κ):Option V:=(kvs.find? λF=>decide (F.1=k)).map (·.2)
def putK(kvs:List (κ×V))(k:κ)(v:V):List (κ×V):=
 if (kvs.any λF=>decide (F.1=k))=true then kvs.map (λF=>if F.1=k then(F.1,v)else F)else kvs++[(k,v)]
def oU(kvs:List (κ×V))(k:κ):List (κ×V):=kvs.filter λF=>decide (F.1≠k)
theorem gq{p:κ×V}{r:List (κ×V)}{k:κ}(e:p.1=k):fq (p::r) k=some p.2:=by simp[fq,Rw,e]
theorem cJ{p:κ×V}{r:List (κ×V)}{k:κ}(e:¬ p.1=k):fq (p::r) k=fq r k:=by simp[fq,Rw,e]
theorem kJ(k:κ):∀kvs:List (κ×V),(kvs.any λF=>decide (F.1=k))=(fq kvs k).isSome
 | []=>rfl
 |p::r=>by
  rw[T8];cases e:p.1=k
  .simp only[gq e,decide_eq_true e,Bool.true_or,Option.isSome_some]
  .rw[cJ e,decide_eq_false e,Bool.false_or];show kJ k r
theorem gM(kvs:List (κ×V))(k:κ)(v:V):(putK kvs k v).length<=kvs.length+1:=by
 unfold putK;split
 .rw[k9];omega
 .rw[G1,K4,V0];omega
theorem kR{kvs:List (κ×V)}{k:κ}(v:V)(h:fq kvs k=none):putK kvs k v=kvs++[(k,v)]:=by
 unfold putK;rw[kJ,h];show WO ao
theorem gS.hZ{o:Option V}{u:W3}(r:gS o u):o.isSome=u.isSome:=by
 cases o with
 |none=>cases u with
  |none=>rfl
  |some _=>show(show False from r).elim
 |some _=>cases u with
  |none=>show(show False from r).elim
  |some _=>rfl
theorem gS.getD{o:Option V}{u:W3}{d:V}{d':Value}(r:gS o u)(rd:RelV d d'):RelV (o.getD d) (u.getD d'):=by
 cases o with
 |none=>cases u with
  |none=>show rd
  |some _=>show(show False from r).elim
 |some _=>cases u with
  |none=>show(show False from r).elim
  |some _=>show r
theorem KV.val{kvs:List (κ×V)}{vs:List (κ×Value)}(r:KV kvs vs)(k:κ):gS (fq kvs k) (Tz vs k):=by
 unfold KV at r
 induction r with
 |nil=>show Pt
 | @cons p q ps G h t I =>
  let#[h1,h2]:=h;cases e:p.1=k
  .let F:q.1=k:=h1.symm.trans e;let b:Tz (q::G) k=some q.2:=(by simp[Tz,Rw,F]);rw[gq e,b];show h2
  .let F:¬ q.1=k:=λz=>e (h1.trans z);let b:Tz (q::G) k=Tz G k:=(by simp[Tz,Rw,F]);rw[cJ e,b];show I
theorem KV.any{kvs:List (κ×V)}{vs:List (κ×Value)}(r:KV kvs vs)(k:κ):(kvs.any λF=>decide (F.1=k))=vs.any λF=>decide (F.1=k):=by
 unfold KV at r
 induction r with
 |nil=>rfl
 |cons h t G=>rw[T8,T8,G,h.1]
theorem KV.Ir{kvs:List (κ×V)}{vs:List (κ×Value)}(r:KV kvs vs)(k:κ){y:V}{u:Value}(G:RelV y u) :
  KV (kvs.map λF=>if F.1=k then(F.1,y)else F) (vs.map λF=>if F.1=k then(F.1,u)else F):=by
 unfold KV at r ⊢
 induction r with
 |nil=>show .nil
 | @cons p q ps J h t I =>
  rw[Pn,Pn];show .cons ?_ I;let#[h1,h2]:=h;cases e:p.1=k
  .rw[WQ e,WQ (h1.symm.trans e)];show#[h1,G]
  .rw[WO e,WO (λz=>e (h1.trans z))];show#[h1,h2]
theorem KV.put{kvs:List (κ×V)}{vs:List (κ×Value)}(r:KV kvs vs)(k:κ){y:V}{u:Value}(F:RelV y u):KV (putK kvs k y) (stored vs k u):=by
 unfold putK stored;rw[r.any k];cases e:(vs.any λG=>decide (G.1=k))=true
 .rw[WQ e,WQ e];show r.Ir k F
 .rw[WO e,WO e];show Paired.snoc r #[rfl,F]
theorem KV.drop{kvs:List (κ×V)}{vs:List (κ×Value)}(r:KV kvs vs)(k:κ):KV (oU kvs k) (without vs k):=by
 unfold KV at r ⊢;unfold oU without
 induction r with
 |nil=>show .nil
 | @cons p q ps I h t F =>
  let#[h1,h2]:=h;rw[PX,PX];cases e:p.1=k
  .let a:¬ decide (p.1≠k)=true:=(by simp[e]);let b:¬ decide (q.1≠k)=true:=(by simp[h1.symm.trans e]);rw[WO a,WO b];show F
  .let G:¬ q.1=k:=λz=>e (h1.trans z);let a:decide (p.1≠k)=true:=(by simp[e]);let b:decide (q.1≠k)=true:=(by simp[G]);rw[WQ a,WQ b];show .cons #[h1,h2] F
theorem KV.keys{kvs:List (κ×V)}{vs:List (κ×Value)}(r:KV kvs vs):kvs.map (·.1)=vs.map (·.1):=by
 unfold KV at r
 induction r with
 |nil=>rfl
 |cons h t F=>rw[Pn,Pn,F,h.1]
theorem KV.length{kvs:List (κ×V)}{vs:List (κ×Value)}(r:KV kvs vs):kvs.length=vs.length:=Paired.length r
theorem D0(kvs:List (κ×V))(k:κ):(oU kvs k).length<=kvs.length:=QK _ _
end
theorem j5{P:rn}{w:By}{k:Key}{u:Value}(r:RelV (kV k) u):(bR P w).is k u=true:=by
 cases k with
 |inl i=>let#[t,e]:=(show ∃t,u=Value.int i t from r);subst e;show wt P w i t
 |inr x=>let#[t,e]:=(show ∃t,u=Value.str x t from r);subst e;show vk P w x t
theorem rZ{P:rn}{w:By}:∀{ks:List Key}{us:W0},Vals (ks.map kV) us->ItemsAre (bR P w) ks us
 | [],_,r=>by rwa[VB]at r;show .nil
 |k::ks,_,r=>by
  rw[Pn]at r;cases r with
  |cons h t=>show .cons (j5 h) (rZ t)
abbrev KT(H:Hp):List (List Key×V)->List (List Key×Addr×Value)->Prop:=Paired λp q=>p.1=q.1/\H q.2.1=some (.tup (p.1.map kV))/\RelV p.2 q.2.2
theorem KT.val{H:Hp}{kvs:List (List Key×V)}{xs:List (List Key×Addr×Value)}(r:KT H kvs xs)(k:List Key):gS (fq kvs k) ((Vo xs k).map (·.2)):=by
 induction r with
 |nil=>show Pt
 | @cons p q ps G h t I =>
  let#[h1,_,h2]:=h;cases e:p.1=k
  .let F:q.1=k:=h1.symm.trans e;let b:Vo (q::G) k=some q.2:=(by simp[Vo,Rw,F]);rw[gq e,b];show h2
  .let F:¬ q.1=k:=λz=>e (h1.trans z);let b:Vo (q::G) k=Vo G k:=(by simp[Vo,Rw,F]);rw[cJ e,b];show I
theorem KT.Ir{H:Hp}{kvs:List (List Key×V)}{xs:List (List Key×Addr×Value)}(r:KT H kvs xs)(k:List Key){y:V}{u:Value}(G:RelV y u) :
  KT H (kvs.map λF=>if F.1=k then(F.1,y)else F) (xs.map (putAt k u)):=by
 induction r with
 |nil=>show .nil
 | @cons p q ps L h t I =>
  rw[Pn,Pn];show .cons ?_ I;let#[h1,h2,J]:=h;unfold putAt;cases e:p.1=k
  .rw[WQ e,WQ (h1.symm.trans e)];show#[h1,h2,G]
  .rw[WO e,WO (λz=>e (h1.trans z))];show#[h1,h2,J]
theorem KT.put{H:Hp}{kvs:List (List Key×V)}{xs:List (List Key×Addr×Value)}(r:KT H kvs xs)(k:List Key){b:Addr}{y:V}{u:Value}(I:H b=some (.tup (k.map kV)))(F:RelV y u) :
  KT H (putK kvs k y) (storedH xs k b u):=by
 let e:(kvs.any λG=>decide (G.1=k))=(Vo xs k).isSome:=by
  rw[kJ,(r.val k).hZ,Rx]
 unfold putK storedH;rw[e];cases q:(Vo xs k).isSome=true
 .rw[WQ q,WQ q];show r.Ir k F
 .rw[WO q,WO q];show Paired.snoc r #[rfl,I,F]
theorem KT.keeps{H H':Hp}{kvs:List (List Key×V)}{xs:List (List Key×Addr×Value)}(r:KT H kvs xs)(F:∀b ys,H b=some (.tup ys)->H' b=some (.tup ys)):KT H' kvs xs :=
 Paired.DT r λ_ _ z=>#[z.1,F _ _ z.2.1,z.2.2]
section
variable{P:rn}{w:By}{H:Hp}{h:Heap}{a:Addr}
theorem He{u:HO}(ok:j4 P w H h)(e:Rd H a u):cn P w H h a u:=e.ok ok
theorem kS{kvs:XE}(ok:j4 P w H h)(e:Rd H a (.dK kvs)):kvs.length<=sizeLine/\(a==Qh)=false/\∃vs,KV kvs vs/\h.DictOf (bR P w) a vs :=
 show cn P w H h a (.dK kvs)from He ok e
theorem iu{kvs:XE}(ok:j4 P w H h)(e:H a=some (.dK kvs)):kvs.length<=sizeLine/\(a==Qh)=false/\∃vs,KV kvs vs/\h.DictOf (bR P w) a vs:=kS ok (.inl e)
theorem j7{ks:List Key}(ok:j4 P w H h)(e:H a=some (.tup (ks.map kV))):(Se (bR P w)).is h ks a:=by
 let#[_,its,r,o,h1,h2,n,F]:=(show cn P w H h a (.tup (ks.map kV))from ok a _ e);show#[o,its.toArray,n,h1,h2,F,by simpa using rZ r]
theorem mT{kvs:List (List Key×V)}(ok:j4 P w H h)(e:Rd H a (.dT kvs)):kvs.length<=sizeLine/\(a==Qh)=false /\
  ∃xs,KT H kvs xs/\h.DictOfH (Se (bR P w)) a xs:=by
 let#[z,y,xs,r,o,es,ep,h1,h2,L,N,I]:=(show cn P w H h a (.dT kvs)from He ok e);show#[z,y,xs,r,o,es,ep,h1,h2,L,N,λx F=>?_,I];let all:∀{l:List (List Key×V)}{m:List (List Key×Addr×Value)},KT H l m->∀x∈m,(Se (bR P w)).is h x.1 x.2.1:=by
  intro l m q
  induction q with
  |nil=>intro x F;show nomatch F
  | @cons p q ps O G t J =>
   intro x F;rcases t7.mp F with e|F
   .subst e;show j7 ok (by rw[<-G.1];show G.2.1)
   .show J x F
 show all r x F
theorem KN{kvs:List (List Key×V)}(ok:j4 P w H h)(e:H a=some (.dT kvs)):kvs.length<=sizeLine/\(a==Qh)=false /\
  ∃xs,KT H kvs xs/\h.DictOfH (Se (bR P w)) a xs:=mT ok (.inl e)
end
def eV(H:Hp)(a:Addr)(y:V)(r:Option V):Prop :=
 (∃kvs k,Rd H a (.dK kvs)/\y=kV k/\r=fq kvs k)\/∃kvs k b,Rd H a (.dT kvs)/\y=.ref b/\H b=some (.tup (k.map kV))/\r=fq kvs k
def iz(H:Hp)(a:Addr)(y v:V)(H':Hp):Prop :=
 (∃kvs k,H a=some (.dK kvs)/\y=kV k/\kvs.length<sizeLine/\H'=upd H a (.dK (putK kvs k v))) \/
 ∃kvs k b,H a=some (.dT kvs)/\y=.ref b/\H b=some (.tup (k.map kV))/\kvs.length<sizeLine/\H'=upd H a (.dT (putK kvs k v))
theorem eV.k{H:Hp}{a:Addr}{kvs:XE}{k:Key}(e:H a=some (.dK kvs)):eV H a (kV k) (fq kvs k):=.inl #[kvs,k,.inl e,1]
theorem iz.k{H:Hp}{a:Addr}{kvs:XE}{k:Key}{v:V}(e:H a=some (.dK kvs))(F:kvs.length<sizeLine):iz H a (kV k) v (upd H a (.dK (putK kvs k v))):=.inl #[kvs,k,e,rfl,F,rfl]
section
variable{X:Cx}{pins:WU}{σ:St}{H:Hp}{s:k8}{a:Addr}{y v:V}{u r:Value}{o:Option V}{A:Oj}{E:WV}
theorem Inv.big(I: ~~~H s):Qh<s⁻¹:=by
 let h:Ov<s⁻¹:=(I.mod.glob.keeps I.bk).lt;show U3 ao h
theorem AS{Q:WV}(R:A.units+1<QG)(I: ~~~H s)(g:eV H a y (some v))(O:RelV y u)(h:∀F s',~~~H s'->RelV v F->Q F s') :
  wpAny (model X.prog X.w) A (RD (.ref a) u) Q E s:=by
 rcases g with⟨kvs,k,e,G,l⟩|⟨kvs,k,b,e,G,Y,l⟩
 .subst G;let#[z,hd,vs,L,dd]:=kS I.bV e;let#[F,J,N]:=gS.some_of (v:=v) (o:=Tz vs k) (by rw[l];show L.val k);show wpAny_getItem_of (j5 O) dd.mapOf J (h F _ (I.tok _) N)
 .subst G;cases(show u=Value.ref b from O);let#[z,hd,xs,L,dd]:=mT I.bV e;let#[F,J,N]:=gS.some_of (v:=v) (o:=(Vo xs k).map (·.2)) (by rw[l];show L.val k);let#[p,U,S]:=qw.mp J;show wpAny_getItem_heap (P7 R) (j7 I.bV Y) dd U ?_;rw[S];show h F _ (I.tok _) N
theorem Ml{Q:WV}(L:A.units+1<QG)(I: ~~~H s)(g:eV H a y o)(J:RelV y u)(h:∀s',~~~H s'->Q (.bool o.isSome) s') :
  wpAny (model X.prog X.w) A (Pq .In u (.ref a)) Q E s:=by
 rcases g with⟨kvs,k,e,F,l⟩|⟨kvs,k,b,e,F,N,l⟩
 .subst F;let#[z,hd,vs,G,dd]:=kS I.bV e;show wpAny_in_of (j5 J) hd dd.mapOf ?_;rw[<-(G.val k).hZ, <-l];show h _ (I.tok _)
 .subst F;cases(show u=Value.ref b from J);let#[z,hd,xs,G,dd]:=mT I.bV e;show wpAny_in_heap (P7 L) (j7 I.bV N) hd dd ?_;let q:=(G.val k).hZ;rw[Rx]at q;rw[<-q, <-l];show h _ (I.tok _)
theorem E6{Q:WV}(L:A.units+1<QG)(I: ~~~H s)(g:eV H a y o)(J:RelV y u)(h:∀s',~~~H s'->Q (.bool (!o.isSome)) s') :
  wpAny (model X.prog X.w) A (Pq .NotIn u (.ref a)) Q E s:=by
 rcases g with⟨kvs,k,e,F,l⟩|⟨kvs,k,b,e,F,N,l⟩
 .subst F;let#[z,hd,vs,G,dd]:=kS I.bV e;show wpAny_notIn_of (j5 J) hd dd.mapOf ?_;rw[<-(G.val k).hZ, <-l];show h _ (I.tok _)
 .subst F;cases(show u=Value.ref b from J);let#[z,hd,xs,G,dd]:=mT I.bV e;show wpAny_notIn_heap (P7 L) (j7 I.bV N) hd dd ?_;let q:=(G.val k).hZ;rw[Rx]at q;rw[<-q, <-l];show h _ (I.tok _)
theorem kG{h':Heap}{t':Nat}{F:HO}(I: ~~~H s)(G:LD (H a))(hs:Heap.SameBut a s.heap h')(J:∃q,h'.get? a=some q)(new:cn X.prog X.w (upd H a F) h' a F) :
  ~~~(upd H a F) { s with heap:=h',toks:=t' }:=
 I.write (x:=a) (e:=a) G (.inl rfl) (λb q L z=>(hs.2 b L).trans z) J new
theorem pG{P:rn}{w:By}{H':Hp}{h':Heap}{kvs:XE}{vs:List (Key×Value)}(z:kvs.length<=sizeLine)(hd:(a==Qh)=false)(F:KV kvs vs)(dd:h'.DictOf (bR P w) a vs) :
  cn P w H' h' a (.dK kvs):=#[z,hd,vs,F,dd]
theorem rF{H':Hp}{Q:Unit->k8->Prop}(hu:A.units+1<QG)(I: ~~~H s)(g:iz H a y v H')(Y:RelV y u)(U:RelV v r)(h:∀s',~~~H' s'->Q () s') :
  wpAny (model X.prog X.w) A (Wr (.ref a) u r) Q E s:=by
 rcases g with⟨kvs,k,e,N,l,O⟩|⟨kvs,k,b,e,N,eb,l,O⟩
 .subst N O;let#[z,hd,vs,F,dd]:=iu I.bV e;let R:vs.length<=sizeLine:=(by rw[<-F.length];show z);let L:(putK kvs k v).length<=sizeLine:=(by have:=gM kvs k v;omega);show wpAny_setItem_pairs (hsz:=R) (j5 Y) dd λh' J hs=>h _ ?_;let he:∃q,h'.get? a=some q:=let ⟨q,_,_,G,_⟩:=J;#[q,G];show kG I (by rw[e];show Pt) hs he (pG L hd (F.put k U) J)
 .subst N O;cases(show u=Value.ref b from Y);let#[z,hd,xs,F,dd]:=KN I.bV e;let R:xs.length<=sizeLine:=(by rw[<-Paired.length F];show z);let L:(putK kvs k v).length<=sizeLine:=(by have:=gM kvs k v;omega);show wpAny_setItem_heap (hsz:=R) (P7 hu) (j7 I.bV eb) dd λh' J hs=>h _ ?_;let#[q,es,ep,G,h2,h3,h4,_,h5]:=J;show kG I (by rw[e];show Pt) hs #[q,G] #[L,hd,_,(F.put k eb U).keeps λc ys S=>?_,q,es,ep,G,h2,h3,h4,h5];rw[aj (dg S e (λz=>nomatch z))];show S
variable{kvs:XE}{k:Key}
theorem KG{v:V}{J:W0}{Q:WV}(I: ~~~H s)(e:H a=some (.dK kvs))(L:RelV (kV k) u)(l:fq kvs k=some v)(R:J=[]\/∃x,J=[x])
  (h:∀G s',~~~(upd H a (.dK (oU kvs k))) s'->RelV v G->Q G s'):wpAny (model X.prog X.w) A (call (.builtin "dict.pop") (.ref a::u::J)) Q E s:=by
 let#[z,hd,vs,N,dd]:=iu I.bV e;let#[G,hw,ab]:=gS.some_of (v:=v) (o:=Tz vs k) (by rw[<-l];show N.val k);let Y:(keyPart u).isSome=true:=by
  cases k with
  |inl i=>let#[t,q]:=(show ∃t,u=Value.int i t from L);subst q;rfl
  |inr x=>let#[t,q]:=(show ∃t,u=Value.str x t from L);subst q;rfl
 let ha:argsOk "dict.pop" #[.ref a::u::J,[]]:=by
  rcases R with q|⟨x,q⟩
  .subst q;show PySem.F.args_dict_pop_2 _ _
  .subst q;show PySem.F.args_dict_pop_3 _ _ _
 show QA TN dd.typeIs PySem.F.entry_dict_pop ha (meets_dict_pop_there (bR X.prog X.w) a (j5 L) J R Y)
  #[vs,G,dd,by rw[<-N.length];show z,hw,λh' O hs=>h G _ ?_ ab]
 let S:∃q,h'.get? a=some q:=let ⟨q,_,_,U,_⟩:=O;#[q,U];show kG I (by rw[e];show Pt) hs S (pG (L3 (D0 kvs k) z) hd (N.drop k) O)
theorem KP{Q:WV}(I: ~~~H s)(e:Rd H a (.dK kvs))(h:∀t s',~~~H s'->Q (.int kvs.length t) s'):wpAny (model X.prog X.w) A (call (.builtin "len") [.ref a]) Q E s:=by
 let#[z,hd,vs,F,dd]:=kS I.bV e;show call_len_dict hd dd (by rw[<-F.length];rw[ti]at z;omega) ?_;rw[<-F.length];show h _ _ (I.tok _)
end
def Kr(i:Ou):Prop:=∀ov F,TZ i false ov F=operate [ov,F] (RD ov F)
theorem Fp{prog:rn}{w:By}{A:Oj}{E:WV}{s:k8}{env:SW}{value F:Ou}{pos:QM}{T id:String}{Q:WV}
  (R:VQ (.type T) "__getitem__" = pure (some (.builtin id))) (hs:Kr F)
  (h:wpAny (model prog w) A (eval value env) (λo L=>wpAny (model prog w) A (eval F env) (λi G=>G.TypeIs o T/\wpAny (model prog w) A (RD o i) Q E G) E L) E s) :
  wpAny (model prog w) A (eval (.Subscript value F pos) env) Q E s:=by
 show VR (OG h (λo L U=>OG U (λi G I=>?_) λ_ _ x=>x) λ_ _ x=>x);let#[O,I]:=I;unfold Us;show nq ?_;rw[getitemInPython_of_ne O.not_modules];show nq (wpAny_specialOf O R ?_);let J:wpAny (model prog w) A (TZ F false o i) (λr N=>wpAny (model prog w) A (letTemporaryGo value o r>>=λ_=>pure r) Q E N) E G:=by
  rw[hs o i];show wpAny_operating (OG I (λr N S=>nq (wpAny_letTemporaryGo (wpAny_pure S))) λ_ _ x=>x)
 first
  |show wpAny_pure (nq J)
  |show nq (wpAny_pure (nq J))
  |show nq J
theorem vy{X:Cx}{pins:WU}{σ:St}{H:Hp}{s:k8}{a:Addr}{y:V}{o:Option V}(I: ~~~H s)(g:eV H a y o):s.TypeIs (.ref a) "dict" := by
 rcases g with⟨kvs,k,e,_,_⟩|⟨kvs,k,b,e,_,_,_⟩
 .let#[_,_,vs,_,dd]:=kS I.bV e;show dd.typeIs
 .let#[_,_,xs,_,dd]:=mT I.bV e;show dd.typeIs
inductive Dz(td ty:TE)(Q:VK)(x:V)(y:V)(H2:Hp):Prop
 |mk(a:_)(v:_)(_:x=.ref a)(_:eV H2 a y (some v))(_:Q v H2)
def Lm(td ty:TE):TE:=λσ H Q=>td σ H λx H1=>ty σ H1 λy H2=>Dz td ty Q x y H2
inductive Ha(ty td:TE)(Q:VK)(y:V)(x:V)(H2:Hp):Prop
 |mk(a:_)(o:_)(_:x=.ref a)(_:eV H2 a y o)(_:Q (.bl o.isSome) H2)
def Mu(ty td:TE):TE:=λσ H Q=>ty σ H λy H1=>td σ H1 λx H2=>Ha ty td Q y x H2
inductive wy(ty td:TE)(Q:VK)(y:V)(x:V)(H2:Hp):Prop
 |mk(a:_)(o:_)(_:x=.ref a)(_:eV H2 a y o)(_:Q (.bl (!o.isSome)) H2)
def EU(ty td:TE):TE:=λσ H Q=>ty σ H λy H1=>td σ H1 λx H2=>wy ty td Q y x H2
def Lq(td ty tv:TE):TS:=λD σ H=>tv σ H λv H1=>td σ H1 λx H2=>ty σ H2 λy G=>Bv λa F=>uX (x=.ref a) (iz G a y v F) (D.nx σ F)
section
variable{X:Cx}{o i e value:Ou}{pos pos' tpos:QM}{td ty tv:TE}
theorem bP(Y:X.A.units+1<QG)(S:PE X o td)(hi:PE X i ty)(hs:Kr i):PE X (.Subscript o i pos) (Lm td ty):=by
 intros Q I h;show Fp PySem.F.slot_dict_getitem.lookup hs (cp (S pins s σ H _ I h) λu R ab=>?_);let#[x,H1,N,U,J]:=ab;show cp (hi pins R σ H1 _ N J) λiv s2 L=>?_;let#[y,H2,G,ry,a,v,ex,g,q2]:=L;subst ex;obtain rfl:u=Value.ref a:=U;show#[vy G g,AS Y G g ry λw' s3 I3 O=>#[v,H2,I3,O,q2]]
theorem mG(F:X.A.units+1<QG)(hi:PE X i ty)(Y:PE X o td):PC X .In i o (Mu ty td):=by
 intros Q I h;show cp (hi pins s σ H _ I h) λiv R N=>?_;let#[y,H1,O,G,L]:=N;show cp (Y pins R σ H1 _ O L) λu s2 U=>?_;let#[x,H2,I2,rx,a,ov,ex,g,J]:=U;subst ex;obtain rfl:u=Value.ref a:=rx;show Ml F I2 g G λs3 S=>#[.bl ov.isSome,H2,S,rfl,J]
theorem hX(F:X.A.units+1<QG)(hi:PE X i ty)(Y:PE X o td):PC X .NotIn i o (EU ty td):=by
 intros Q I h;show cp (hi pins s σ H _ I h) λiv R N=>?_;let#[y,H1,O,G,L]:=N;show cp (Y pins R σ H1 _ O L) λu s2 U=>?_;let#[x,H2,I2,rx,a,ov,ex,g,J]:=U;subst ex;obtain rfl:u=Value.ref a:=rx;show E6 F I2 g G λs3 S=>#[.bl (!ov.isSome),H2,S,rfl,J]
theorem lh(hu:X.A.units+1<QG)(ho:PE X o td)(hi:PE X i ty)(hv:PE X value tv)(hs:Rb value (some (.Subscript o i pos')) pos.line X.env=pure false) :
  PS X (.Assign [.Subscript o i pos'] value pos) (Lq td ty tv):=by
 intros D I h;show wpAny_Assign_Subscript (cp (hv pins s σ H _ I h) λr U S=>?_) hs;let#[v,H1,L,R,J]:=S;show cp (ho pins U σ H1 _ L J) λu s2 ab=>?_;let#[x,H2,Y,rx,q2]:=ab;show cp (hi pins s2 σ H2 _ Y q2) λiv s3 F=>?_;let#[y,H3,I3,ry,a,N,ex,g,G]:=F;subst ex;obtain rfl:u=Value.ref a:=rx;show rF hu I3 g ry R λs4 O=>#[σ,N,O,G]
end
theorem vZ{P:rn}{w:By}{H:Hp}(h:Heap)(F:Qh<h.objs.size):cn P w H (h.push { cls:=.type "dict",data:=.dict ([].toArray) }) h.objs.size (.dK []):=
 #[OC _,beq_eq_false_iff_ne.mpr (ro (OI F)),[],.nil,Heap.DictOf.new h]
def Hw:TE:=λ_ H Q=>∀p,H p=none->Q (.ref p) (upd H p (.dK []))
section
variable{X:Cx}{pos:QM}
theorem dJ:PE X (.Dict [] [] pos) Hw:=λpins s σ H Q I h =>
 wpAny_Dict_empty #[.ref s⁻¹,_,I.laid (a:=s⁻¹) (o:=.dK []) (t':=s.toks) (λ_ _ q=>Heap.get?_push_of_some _ q) (rr _) (vZ s.heap I.big),rfl,h _ (I.bV.fresh (rr _))]
end
def yj:List (TE×TE)->St->Hp->(List (V×V)->Hp->Prop)->Prop
 | [],_,H,Q=>Q [] H
 |(tk,tv)::r,σ,H,Q=>tk σ H λx H1=>tv σ H1 λy H2=>yj r σ H2 λps F=>Q ((x,y)::ps) F
abbrev VV:List (V×V)->List (Value×Value)->Prop:=Paired λp q=>RelV p.1 q.1/\RelV p.2 q.2
def LR(X:Cx)(pos:QM)(keys:List (Option Ou))(values:XB)(F:List (TE×TE)):Prop :=
 ∀(pins:WU)(s:k8)(σ:St)(H:Hp)(Q:List (V×V)->Hp->Prop),~~~H s->yj F σ H Q ->
  ↑(evalPairs (pairTrees keys values X.env pos)) (λvs s'=>∃ps H',~~~H' s'/\VV ps vs/\Q ps H') X.xe s
theorem FR{X:Cx}{pos:QM}:LR X pos [] [] []:=λpins s σ H Q I h=>pairTrees_nil_walk #[[],H,I,.nil,h]
theorem kO{X:Cx}{pos:QM}{k v:Ou}{ks:List (Option Ou)}{vs:XB}{tk tv:TE}{F:List (TE×TE)}(U:PE X k tk)(S:PE X v tv)(hr:LR X pos ks vs F) :
  LR X pos (some k::ks) (v::vs) ((tk,tv)::F):=λpins s σ H Q I h =>
 pairTrees_cons_walk (cp (U pins s σ H _ I h) λu O ⟨x,H1,L,R,J⟩=>cp (S pins O σ H1 _ L J) λw2 s2 ⟨y,H2,N,Y,q2⟩ =>
  cp (hr pins s2 σ H2 _ N q2) λws s3 ac=>by let#[ps,H3,I3,ab,G]:=ac;show#[(x,y)::ps,H3,I3,.cons #[R,Y] ab,G])
def mC(kvs I:XE):List (Key×V):=I.foldl (λG F=>putK G F.1 F.2) kvs
theorem KV.merge:∀{F:XE}{rs:List (Key×Value)}{kvs:XE}{vs:List (Key×Value)},KV F rs->KV kvs vs->KV (mC kvs F) (merged vs rs):=by
 intro F rs kvs vs r;unfold KV at r
 induction r generalizing kvs vs with
 |nil=>intro q;show q
 | @cons p q ps J h t I =>
  intro G;let e:KV (putK kvs p.1 p.2) (stored vs q.1 q.2):=by
   have:=G.put p.1 h.2;rw[<-h.1];show this
  show I e
theorem jZ:∀(F kvs:XE),(mC kvs F).length<=kvs.length+F.length
 | [],kvs=>by change kvs.length<=kvs.length+0;omega
 |p::r,kvs=>by
  let h1:=jZ r (putK kvs p.1 p.2);let h2:=gM kvs p.1 p.2;change(mC (putK kvs p.1 p.2) r).length<=_;rw[K4];omega
theorem pq{P:rn}{w:By}:∀{kvs:XE}{ws:List (Value×Value)},VV (kvs.map λF=>(kV F.1,F.2)) ws->∃rs,Carries (bR P w) ws rs/\KV kvs rs
 | [],_,r=>by rwa[VB]at r;show#[[],Pt,.nil]
 |p::kvs,_,r=>by
  rw[Pn]at r;cases r with
  | @cons a b J bs h t =>
   let#[rs,c,q]:=pq (P:=P) (w:=w) t;let#[I,G]:=b;show#[(p.1,G)::rs,#[j5 h.1,rfl,c],.cons #[rfl,h.2] q]
def Kd(G:List (TE×TE)):TE:=λσ H Q=>∀p,H p=none->yj G σ (upd H p (.dK [])) λps H2=>H2 p=some (.dK [])/\∃kvs:List (Key×V),ps=kvs.map (λF=>(kV F.1,F.2))/\kvs.length<=15/\Q (.ref p) (upd H2 p (.dK (mC [] kvs)))
theorem Fz{X:Cx}{pos:QM}{keys:List (Option Ou)}{values:XB}{J:List (TE×TE)}(h:LR X pos keys values J)(Y:keys.all (·.isSome)=true)(L:keys.length=values.length)(h0:keys≠[])
  (U:keys.length<=15):PE X (.Dict keys values pos) (Kd J):=by
 intros Q I q;let hn:=I.bV.fresh (rr s⁻¹);let R:=I.laid (a:=s⁻¹) (o:=.dK []) (h':=s.heap.push { cls:=.type "dict",data:=.dict ([].toArray) }) (t':=s.toks) (λ_ _ q=>Heap.get?_push_of_some _ q) (rr _) (vZ s.heap I.big);show wpAny_Dict_walk (knd:=bR X.prog X.w) Y L h0 U (cp (h pins _ σ _ _ R (q _ hn)) λws s2 ab=>?_);let#[ps,H2,F,ac,e,kvs,ep,lk,q2]:=ab;subst ep;let#[rs,c,S]:=pq (P:=X.prog) (w:=X.w) ac;let#[z,hd,ad,N,dd]:=iu F.bV e;cases N;show#[rs,c,dd,λh' G hs=>#[.ref s⁻¹,_,?_,rfl,q2]];let hz:(mC [] kvs).length<=sizeLine:=by
  let h1:=jZ kvs [];rw[V0]at h1;rw[ti];omega
 let he:∃q,h'.get? s⁻¹=some q:=let ⟨q,_,_,O,_⟩:=G;#[q,O];show kG F (by rw[e];show Pt) hs he (pG hz hd (S.merge .nil) G)
structure M1(X:Cx)(o:Ou)(m:Str)(apos:QM)(e:Ou)(cpos:QM):Prop where
 base:QI o m X.env (eval o X.env)=eval o X.env
 KW:((backTo cpos (starEach [e] X.env)).all (λx => !x.1)&&(Q1 cpos (P2 [] X.env)).all (λx=>x.1.isSome)
  && decide (([e]:XB).length+([]:List Uh).length+(if ([]:List Uh).isEmpty then 0 else 1)<30))=true
 line:(apos.endLine==cpos.line)=true
 trees:backTo cpos (starEach [e] X.env)=[(false,eval e X.env)]
structure M2(X:Cx)(o:Ou)(m:Str)(apos:QM)(e f:Ou)(cpos:QM):Prop where
 base:QI o m X.env (eval o X.env)=eval o X.env
 KW:((backTo cpos (starEach [e,f] X.env)).all (λx => !x.1)&&(Q1 cpos (P2 [] X.env)).all (λx=>x.1.isSome)
  && decide (([e,f]:XB).length+([]:List Uh).length+(if ([]:List Uh).isEmpty then 0 else 1)<30))=true
 line:(apos.endLine==cpos.line)=true
 trees:backTo cpos (starEach [e,f] X.env)=[(false,eval e X.env),(false,eval f X.env)]
def Kj(H:Hp)(a:Addr):Prop:=(∃kvs,Rd H a (.dK kvs))\/∃kvs,Rd H a (.dT kvs)
theorem lW{X:Cx}{pins:WU}{σ:St}{H:Hp}{s:k8}{a:Addr}(I: ~~~H s)(d:Kj H a) :
  s.TypeIs (.ref a) "dict" /\ (∀b,Value.ref a=.ref b->∃F,s.heap.get? b=some F/\F.dict=none)/\(a==Qh)=false:=by
 rcases d with⟨kvs,e⟩|⟨kvs,e⟩
 .let#[_,hd,vs,_,dd]:=kS I.bV e;show#[dd.typeIs,λb q=>?_,hd];cases q;let#[F,_,_,h1,h2,_]:=dd;show#[F,h1,h2.2.1]
 .let#[_,hd,xs,_,dd]:=mT I.bV e;show#[dd.typeIs,λb q=>?_,hd];cases q;let#[F,_,_,h1,h2,_]:=dd;show#[F,h1,h2.2.1]
section
variable{X:Cx}{pins:WU}{σ:St}{H:Hp}{s:k8}{a:Addr}{y d:V}{u r:Value}{o:Option V}{A:Oj}{E:WV}
theorem JI{Q:WV}(O:A.units+1<QG)(I: ~~~H s)(g:eV H a y o)(L:RelV y u)(h:∀N s',~~~H s'->RelV (o.getD .non) N->Q N s') :
  wpAny (model X.prog X.w) A (call (.builtin "dict.get") [.ref a,u]) Q E s:=by
 rcases g with⟨kvs,k,e,G,l⟩|⟨kvs,k,b,e,G,R,l⟩
 .subst G;let#[z,hd,vs,J,dd]:=kS I.bV e;show QA Q5 dd.typeIs Sw (Td _ _) (meets_dict_get (bR X.prog X.w) a (j5 L) hd) #[_,dd.mapOf,h _ _ (I.tok _) ?_];rw[l];show(J.val k).getD rfl
 .subst G;cases(show u=Value.ref b from L);let#[z,hd,xs,J,dd]:=mT I.bV e;show QA Q5 dd.typeIs Sw (Td _ _) (meetsH_dict_get (Se (bR X.prog X.w)) a b hd) #[P7 O,k,xs,j7 I.bV R,dd,h _ _ (I.tok _) ?_];rw[l];show(J.val k).getD rfl
theorem JH{Q:WV}(O:A.units+1<QG)(I: ~~~H s)(g:eV H a y o)(L:RelV y u)(rd:RelV d r)(h:∀N s',~~~H s'->RelV (o.getD d) N->Q N s') :
  wpAny (model X.prog X.w) A (call (.builtin "dict.get") [.ref a,u,r]) Q E s:=by
 rcases g with⟨kvs,k,e,G,l⟩|⟨kvs,k,b,e,G,R,l⟩
 .subst G;let#[z,hd,vs,J,dd]:=kS I.bV e;show QA Q5 dd.typeIs Sw (Te _ _ _) (meets_dict_get_default (bR X.prog X.w) a (j5 L) hd r) #[_,dd.mapOf,h _ _ (I.tok _) ?_];rw[l];show(J.val k).getD rd
 .subst G;cases(show u=Value.ref b from L);let#[z,hd,xs,J,dd]:=mT I.bV e;show QA Q5 dd.typeIs Sw (Te _ _ _) (meetsH_dict_get_default (Se (bR X.prog X.w)) a b hd r) #[P7 O,k,xs,j7 I.bV R,dd,h _ _ (I.tok _) ?_];rw[l];show(J.val k).getD rd
end
inductive zf(td ty:TE)(σ:St)(Q:VK)(x:V)(H1:Hp):Prop
 |mk (a:_) (_:x=.ref a) (_:Kj H1 a) (_:ty σ H1 λy H2=>∃o,eV H2 a y o/\Q (o.getD .non) H2):zf td ty σ Q x H1
def JL(td ty:TE):TE:=λσ H Q=>td σ H λx H1=>zf td ty σ Q x H1
inductive zC(td ty tx:TE)(σ:St)(Q:VK)(x:V)(H1:Hp):Prop
 |mk (a:_) (_:x=.ref a) (_:Kj H1 a) (_:ty σ H1 λy H2=>tx σ H2 λz H3=>∃o,eV H3 a y o/\Q (o.getD z) H3):zC td ty tx σ Q x H1
def Jq(td ty tx:TE):TE:=λσ H Q=>td σ H λx H1=>zC td ty tx σ Q x H1
inductive ze(td ty:TE)(σ:St)(Q:VK)(x:V)(H1:Hp):Prop
 |mk (a:_) (_:x=.ref a) (_:Kj H1 a) (_:ty σ H1 λy H2=>∃kvs k v,H2 a=some (.dK kvs)/\y=kV k/\fq kvs k=some v/\Q v (upd H2 a (.dK (oU kvs k)))):ze td ty σ Q x H1
def ID(td ty:TE):TE:=λσ H Q=>td σ H λx H1=>ze td ty σ Q x H1
section
variable{X:Cx}{o e f:Ou}{apos cpos:QM}{td ty tx:TE}
theorem Dv(Y:X.A.units+1<QG)(R:PE X o td)(he:PE X e ty)(m:M1 X o "get" apos e cpos):PE X (.Call (.Attribute o "get" apos) [e] [] cpos) (JL td ty):=by
 intros Q I h;show Ro m.base m.KW m.line QH Q5 TU (cp (R pins s σ H _ I h) λu O ac=>?_);let#[x,H1,G,S,a,ex,d,J]:=ac;subst ex;obtain rfl:u=Value.ref a:=S;let#[L,t2,_]:=lW G d;show#[L,t2,?_];rw[m.trees];show Calls.callWith_builtin rfl (Calls.evalArgs_plain (Calls.spliced_cons (cp (he pins O σ H1 _ G J) λiv s2 ab=>?_)));let#[y,H2,U,ry,ov,g,q2]:=ab;show Calls.spliced_nil ?_;show JI Y U g ry λw' s3 I3 N=>#[_,H2,I3,N,q2]
theorem qE(hu:X.A.units+1<QG)(Y:PE X o td)(he:PE X e ty)(N:PE X f tx)(m:M2 X o "get" apos e f cpos):PE X (.Call (.Attribute o "get" apos) [e,f] [] cpos) (Jq td ty tx):=by
 intros Q I h;show Ro m.base m.KW m.line QH Q5 TU (cp (Y pins s σ H _ I h) λu U ab=>?_);let#[x,H1,G,rx,a,ex,d,L]:=ab;subst ex;obtain rfl:u=Value.ref a:=rx;let#[R,t2,_]:=lW G d;show#[R,t2,?_];rw[m.trees];show Calls.callWith_builtin rfl (Calls.evalArgs_plain (Calls.spliced_cons (cp (he pins U σ H1 _ G L) λiv s2 ⟨y,H2,I2,ry,q2⟩ =>
  Calls.spliced_cons (cp (N pins s2 σ H2 _ I2 q2) λfv s3 ⟨z,H3,I3,rz,ov,g,J⟩=>Calls.spliced_nil ?_))))
 show JH hu I3 g ry rz λw' s4 O S=>#[_,H3,O,S,J]
theorem gh(Y:PE X o td)(he:PE X e ty)(m:M1 X o "pop" apos e cpos):PE X (.Call (.Attribute o "pop" apos) [e] [] cpos) (ID td ty):=by
 intros Q I h;show Ro m.base m.KW m.line QH TN PySem.F.type_dict_pop (cp (Y pins s σ H _ I h) λu U ab=>?_);let#[x,H1,G,rx,a,ex,d,N]:=ab;subst ex;obtain rfl:u=Value.ref a:=rx;let#[R,t2,_]:=lW G d;show#[R,t2,?_];rw[m.trees];show Calls.callWith_builtin rfl (Calls.evalArgs_plain (Calls.spliced_cons (cp (he pins U σ H1 _ G N) λiv s2 O=>?_)));let#[y,H2,I2,ry,kvs,k,v,L,J,l,q2]:=O;show Calls.spliced_nil ?_;subst J;show KG I2 L ry l (.inl rfl) λw' s3 I3 S=>#[v,_,I3,S,q2]
variable{pins:WU}{σ:St}{H:Hp}{s:k8}{a:Addr}{kvs:XE}{A:Oj}{E:WV}
variable{y:V}{u:Value}
theorem jK:dS X (.builtin "len") (λxs H Q=>∃a kvs,xs=[V.ref a]/\H a=some (.dK kvs)/\Q (.int kvs.length) H):=by
 intros xs us Q I r h;let#[a,kvs,rfl,G,q]:=h;let#[u,rfl,ru]:=vals1 r;cases ru;show KP I (.inl G) λt s' F=>#[.int kvs.length,H,F,#[t,rfl],q]
variable{κ:Type}[DecidableEq κ]
theorem iE:∀{l:List κ}{k:κ},l.Nodup->¬ k∈l->(l++[k]).Nodup
 | [],k,_,_=>by simp
 |a::r,k,h,F=>by
  let#[h1,h2]:=Ot.mp h;change(a::(r++[k])).Nodup;show Ot.mpr #[λm=>?_,iE h2 λm=>F (t7.mpr (WL m))];rcases qj.mp m with q|q
  .show h1 q
  .show F (t7.mpr (RT (oR.mp q).symm))
variable{k:Key}{r:Value}{d:V}
theorem IH{Q:WV}(I: ~~~H s)(e:H a=some (.dK kvs))(S:RelV (kV k) u)(rd:RelV d r)(R:kvs.length<sizeLine)
  (h1:∀v J s',fq kvs k=some v->~~~H s'->RelV v J->Q J s') (h2:∀s',fq kvs k=none->~~~(upd H a (.dK (putK kvs k d))) s'->Q r s') :
  wpAny (model X.prog X.w) A (call (.builtin "dict.setdefault") [.ref a,u,r]) Q E s:=by
 let#[z,hd,vs,G,dd]:=iu I.bV e;show QA RV dd.typeIs PySem.F.entry_dict_setdefault (PySem.F.args_dict_setdefault_3 _ _ _) (kt_meets_setdefault (bR X.prog X.w) a (j5 S) hd r)
  #[vs,dd,by rw[<-G.length];show z,λv L=>?_,λhn h' N hs=>?_]
 .let q:=G.val k;cases l:fq kvs k with
  |none=>rw[l]at q;rwa[gS.none_of q]at L
  |some y =>
   rw[l]at q;let#[J,O,ab]:=gS.some_of q;rwa[L]at O;show h1 y v _ l (I.tok _) ab
 .let l:fq kvs k=none:=by
   cases l:fq kvs k with
   |none=>rfl
   |some y =>
    let q:=G.val k;rwa[l,hn]at q
  let U:∃q,h'.get? a=some q:=let ⟨q,_,_,Y,_⟩:=N;#[q,Y];show h2 _ l (kG I (by rw[e];show Pt) hs U (pG (by have:=gM kvs k d;show L3 this R) hd (G.put k rd) N))
end
inductive zE(td ty tx:TE)(σ:St)(Q:VK)(x:V)(H1:Hp):Prop
 |mk (a:_) (_:x=.ref a) (_:Kj H1 a) (_:ty σ H1 λy H2=>tx σ H2 λz H3=>∃kvs k,H3 a=some (.dK kvs)/\y=kV k/\kvs.length<sizeLine/\(∀v,fq kvs k=some v->Q v H3)/\(fq kvs k=none->Q z (upd H3 a (.dK (putK kvs k z))))):zE td ty tx σ Q x H1
def Jv(td ty tx:TE):TE:=λσ H Q=>td σ H λx H1=>zE td ty tx σ Q x H1
section
variable{X:Cx}{o e f:Ou}{apos cpos:QM}{td ty tx:TE}
theorem Dj(ho:PE X o td)(he:PE X e ty)(hf:PE X f tx)(m:M2 X o "setdefault" apos e f cpos):PE X (.Call (.Attribute o "setdefault" apos) [e,f] [] cpos) (Jv td ty tx):=by
 intros Q I h;show Ro m.base m.KW m.line QH RV PySem.F.type_dict_setdefault (cp (ho pins s σ H _ I h) λu s1 ac=>?_);let#[x,H1,J,rx,a,ex,d,Y]:=ac;subst ex;obtain rfl:u=Value.ref a:=rx;let#[t1,t2,_]:=lW J d;show#[t1,t2,?_];rw[m.trees];show Calls.callWith_builtin rfl (Calls.evalArgs_plain (Calls.spliced_cons (cp (he pins s1 σ H1 _ J Y) λiv s2 ⟨y,H2,I2,ry,q2⟩ =>
  Calls.spliced_cons (cp (hf pins s2 σ H2 _ I2 q2) λfv s3 ⟨z,H3,I3,L,kvs,k,U,R,N,S,q4⟩=>Calls.spliced_nil ?_))))
 subst R;show IH I3 U ry L N (λv w' O l G ab=>#[v,_,G,ab,S v l]) λO l G=>#[z,_,G,L,q4 l]
variable{pins:WU}{σ:St}{H:Hp}{s:k8}{a:Addr}{o:Obj}{u:HO}{kvs:XE}
theorem Inv.swap{w:HO}(I: ~~~H s)(h:H a=some u)(h1:∀o F,X.H₀ a≠some (.frz o F))(h2:∀xs,u≠.tup xs)(S:∀ps,u≠.tbl ps)(h4:∀x,u≠.own x)(new:cn X.prog X.w (upd H a w) s.heap a w): ~~~(upd H a w) s:=by
 let ne:∀b,H b=none->b≠a:=λb q z=>(by rwa[z,h]at q);show#[I.ok,I.os,I.bare,#[I.base.keep,I.base.slot,λb o q L U=>?_,I.base.there,λb xs q=>?_,λb o F q=>?_,λb ps q=>?_],I.loc,I.cell,?_,λy c q=>?_,λp R=>?_,λb v q=>?_,I.len]
 .let z:=I.base.free b o q L U;rw[aj (ne b z)];show z
 .let z:=I.base.oH b xs q;rw[aj (λe=>h2 xs (by rw[e,h]at z;show sS z))];show z
 .let z:=I.base.m7 b o F q;rw[aj (λe=>h1 o F (by rw[<-e];show q))];show z
 .let#[N,z]:=I.base.qM b ps q;show#[N,by rw[aj (λe=>S _ (by rw[e,h]at z;show sS z))];show z]
 .rw[aj (ne _ I.free)];show I.free
 .rw[aj (ne _ (I.gx y c q))];show I.gx y c q
 .let#[O,J,Y]:=I.pin p R;show#[O,by rw[aj (ne _ J)];show J,Y]
 .by_cases G:b=a
  .subst G;rwa[ae]at q;show new
  .rw[aj G]at q;show(I.bV b v q).iX (λ_ _ _ z=>z) (λc z=>by rw[aj (λe=>h4 b (by rw[e,h]at z;show sS z))];show z) λc xs z=>by rw[aj (λe=>h2 xs (by rw[e,h]at z;show sS z))];show z
theorem Inv.freeze(I: ~~~H s)(h:H a=some (.dK kvs))(G:s.heap.get? a=some o)(h1:∀o F,X.H₀ a≠some (.frz o F)): ~~~(upd H a (.frz o (.dK kvs))) s :=
 I.swap h h1 (λ_ z=>nomatch z) (λ_ z=>nomatch z) (λ_ z=>nomatch z) #[G,(show cn X.prog X.w H s.heap a (.dK kvs)from I.bV a _ h)]
theorem Inv.HQ(I: ~~~H s)(h:H a=some (.frz o (.dK kvs)))(h1:∀o F,X.H₀ a≠some (.frz o F)): ~~~(upd H a (.dK kvs)) s :=
 I.swap h h1 (λ_ z=>nomatch z) (λ_ z=>nomatch z) (λ_ z=>nomatch z) (show cn X.prog X.w H s.heap a (.frz o (.dK kvs))from I.bV a _ h).2
end
def Bx(o:Obj):Nat:=match o.data with
 |.dict _ ep=>ep
 |_=>0
def Ik(a:Addr)(o:Obj)(kvs:XE):It :=
 #[λi H=>H a=some (.frz o (.dK kvs))/\i<kvs.length,λi H x H'=>H'=H/\∃k v,kvs[i]?=some (k,v)/\x=kV k,λi H=>H a=some (.frz o (.dK kvs))/\kvs.length<=i]
theorem qF{P:rn}{w:By}{k:Key}{u:Value}(h:(bR P w).is k u=true):RelV (kV k) u:=by
 rcases cM (show oW k u=true from h)with⟨i,t,rfl,rfl⟩|⟨x,t,rfl,rfl⟩
 .show#[t,rfl]
 .show#[t,rfl]
theorem lZ{P:rn}{w:By}{H:Hp}{h:Heap}{a:Addr}{o:Obj}{kvs:XE}(ok:j4 P w H h)(e:H a=some (.frz o (.dK kvs))):(a==Qh)=false/\∃vs,KV kvs vs/\h.DictAt (bR P w) a vs (Bx o):=by
 let#[G,_,hd,vs,r,o',es,ep,h1,h2,F,J]:=(show cn P w H h a (.frz o (.dK kvs))from ok a _ e);rwa[G]at h1;let I:Bx o=ep:=(by unfold Bx;rw[F]);show#[hd,vs,r,o,es,G,h2,by rw[I];show F,J]
theorem zZ{P:rn}{w:By}{K:HC}{tg:Ou}(a it:Addr)(aB:a≠it)(o:Obj)(kvs:XE):Turn P w K tg (Ik a o kvs) [it] it (λi h=>h.IsKeyIter it a i kvs.length (Bx o)) where
 mem:=by simp
 obj:=λi h st b F=>by
  let e:b=it:=‹F›;subst e;let#[ob,h1,_,R]:=st;show#[ob,h1,λv z=>by rwa[R]at z]
 keep:=λi h h' st k=>st.at λo e=>k it (by simp) o e
 item:=by
  intro X S hw N hc i pins s σ H E I J st Y;subst S hw N;let#[ab,L]:=Y;let#[U,f1,f2,f3,f4,f5]:=J it (by simp);let#[hd,vs,r,O]:=lZ I.bV ab;let G:=r.length;obtain⟨⟨k,x⟩,hx⟩:∃p,vs[i]?=some p:=#[vs[i]'(PN L G),by simp];let am:∃v,kvs[i]?=some (k,v):=by
   let hi:i<kvs.length:=L;show#[(kvs[i]).2,?_];let e:=r.keys;let e1:(kvs.map (·.1))[i]?=(vs.map (·.1))[i]?:=(by rw[e]);rw[t4,t4,hx,L1 hi]at e1;let e2:kvs[i].1=k:=sS e1;rw[L1 hi, <-e2]
  let#[v,hv]:=am;rw[G]at st ⊢;show wpAny_pyNext_dict_item st O hx λas h' ap ac ad=>?_;let I1: ~~~H { s with heap:=h',toks:=s.toks }:=I.turned (λb o F e=>(ad.2 b F).trans e) U f1 f3 f4 f5;let#[ob,h1,h2,R]:=id ac;show#[0,sv (s:={ s with heap:=h' }) (n := "dict_keyiterator") h1 h2 R ao #[kV k,H,I1,qF ap,#[rfl,k,v,hv,rfl],ac,λb F=>(J b F).1]]
 done:=by
  intro X S hw N hc i pins s σ H E I J st Y;subst S hw N;let#[ab,L]:=Y;let#[U,f1,f2,f3,f4,f5]:=J it (by simp);let#[hd,vs,r,O]:=lZ I.bV ab;let G:=r.length;rw[G]at st;show wpAny_pyNext_dict_end (I.ok.hd hc) st O (by simp;show le_of_eq_of_le (id (RH G)) L) λh' eb=>#[rfl,I.turned (t':=s.toks) (λb o F e=>eb b o F e) U f1 f3 f4 f5]
 self:=λ_ _ _ _ _ st h=>wpAny_pyIter_keyiter st h
def Kk(H₀:Hp)(td:TE):TI:=λσ H R=>td σ H λx H1=>Bv λa kvs=>Hf (x=.ref a) (H1 a=some (.dK kvs)) ((∀o F,H₀ a≠some (.frz o F))) (∀o,R (Ik a o kvs) (upd H1 a (.frz o (.dK kvs))))
section
variable{X:Cx}{tg:Ou}
theorem ug{l:Ou}{td:TE}(O:PE X l td):PI X tg l (Kk X.H₀ td):=by
 intros R I h;show cp (O pins s σ H _ I h) λv F Y=>?_;let#[x,H1,L,r1,a,kvs,e,N,hn,q]:=Y;subst e;cases r1;let#[_,hd,vs,ab,dd]:=iu L.bV N;let#[G,es,ep,h1,h2,U,h4]:=id dd;let J:=L.freeze N h1 hn;let lt:a<F⁻¹:=Heap.lt_size h1;let S:F.heap.DictAt (bR X.prog X.w) a vs (Bx G):=#[G,es,h1,h2,by unfold Bx;rw[U],h4];show wpAny_pyIter_dict hd S ?_;show#[F⁻¹,[F⁻¹],_,Ik a G kvs,0,J.kept (t':=F.toks) λb o e=>Heap.get?_push_of_some _ e,zZ a _ (OI lt) G kvs,#[_,Heap.get?_push_size _ rfl,5],λb hb=>?_,q G]
 .rw[ab.length];rfl
 .let e:b=F⁻¹:=‹hb›;subst e;show J.kP (rr _) (J.bV.fresh (rr _))
def KD(H₀:Hp)(t:TS):TS:=λD σ H=>t { D with
 nx:=λG H'=>∃a o kvs,H' a=some (.frz o (.dK kvs))/\(∀o F,H₀ a≠some (.frz o F))/\D.nx G (upd H' a (.dK kvs))
 rt:=λv H'=>∃a o kvs,H' a=some (.frz o (.dK kvs))/\(∀o F,H₀ a≠some (.frz o F))/\D.rt v (upd H' a (.dK kvs)) } σ H
theorem tN{st:Oz}{t:TS}(h:PS X st t):PS X st (KD X.H₀ t):=by
 intros D I q;show cp (h pins s σ H _ I q) λf R F=>?_;cases f with
 |next =>
  let#[J,H',G,a,o,kvs,O,N,L]:=F;show#[J,_,G.HQ O N,L]
 |ret u =>
  let#[v,J,H',G,r,a,o,kvs,O,N,L]:=F;show#[v,J,_,G.HQ O N,r,L]
 |brk=>show F
 |cont=>show F
end
theorem wj{a:Addr}{o:Obj}{kvs:XE}{g:TG}{tb:TS}{D:Ends}{σ:St}{H:Hp}(Pv:Nat->St->Hp->Prop)(R:Pv 0 σ H)(L:∀i σ H,i<=kvs.length->Pv i σ H->H a=some (.frz o (.dK kvs)))
  (hs:∀i k v σ H,kvs[i]?=some (k,v)->Pv i σ H->g (kV k) σ H λI H2=>tb { D with nx:=Pv (i+1),ct:=Pv (i+1),bk:=D.nx } I H2) (hd:∀σ H,Pv kvs.length σ H->D.nx σ H) :
  ∃W:Nat->Nat->St->Hp->Prop,(∃m,W 0 m σ H)/\∀i m σ H,W i m σ H ->
   ((Ik a o kvs).stop i H/\D.nx σ H)\/((Ik a o kvs).go i H/\∃N:St->Hp->Prop,(∀G H',N G H'->∃J,J<m/\W (i+1) J G H')/\∀x H',(Ik a o kvs).Ex i H x H'->g x σ H' λI H2=>tb { D with nx:=N,ct:=N,bk:=D.nx } I H2):=by
 show#[λi m σ H=>m=kvs.length-i/\i<=kvs.length/\Pv i σ H,#[kvs.length,by simp,OC _,R],?_];rintro i m σ H ⟨rfl,hi,p⟩;let q:=L i σ H hi p;cases F:i<kvs.length
 .show .inr #[#[q,F],Pv (i+1),λG H' S=>#[kvs.length-(i+1),Pd (PR kvs) i F,rfl,F,S],λx H' y=>?_];let#[e,k,v,O,ex]:=y;subst e ex;show hs i k v σ _ O p
 .let e:i=kvs.length:=ag;subst e;show .inl #[#[q,rr _],hd σ H p]
section
variable{X:Cx}
end
def HM(lo st:Int)(n:Nat):It:=#[λi _=>i<n,λi H x H'=>H'=H/\x=.int (lo+i*st),λi _=>n<=i]
theorem wc{P:rn}{w:By}{K:HC}{tg:Ou}(it:Addr)(lo st:Int)(n:Nat):Turn P w K tg (HM lo st n) [it] it (λi h=>TY h it (lo+(i:Nat)*st) ((n:Int)-(i:Nat)) st) where
 mem:=by simp
 obj:=λi h st b F=>by
  let e:b=it:=‹F›;subst e;show#[_,st,λv z=>by
   let z':RK _=Ru v:=z;cases z']
 keep:=λi h h' st k=>k it (by simp) _ st
 item:=by
  intro X L U J S i pins s σ H E I G ab N;subst L U J;let#[O,f1,f2,Y,f4,R]:=G it (by simp);let W:=WA (prog:=X.prog) (w:=X.w) (I.ok.hd S) it lo st n;show W.item i s _ _ N ab λv h' tk hv ac kk=>?_;let#[t,rfl]:=hv;let I1: ~~~H { s with heap:=h',toks:=tk }:=I.turned (λb o F e=>kk b o ‹F› e) O f1 Y f4 R;show#[0,sv (s:={ s with heap:=h',toks:=tk }) (n := "range_iterator") ac rfl rfl ao #[.int (lo+i*st),H,I1,#[t,rfl],#[1],ac,λb F=>(G b F).1]]
 done:=by
  intro X L U J S i pins s σ H E I G ab N;subst L U J;let#[O,f1,f2,Y,f4,R]:=G it (by simp);show Tj (I.ok.hd S) ab (by have:n<=i:=N;omega) λh' eb=>#[rfl,I.turned (t':=s.toks) (λb o F e=>eb b o F e) O f1 Y f4 R]
 self:=λ_ _ _ _ _ st h=>Tn st h
def Lr(ta:TA):TI:=λσ H R=>ta σ H λvs H1=>∃(i j st:Int)(n:Nat),vs=[.int i,.int j,.int st]/\Builtin.Range.small i j st=true/\Builtin.Range.rangeSize i j st=(n:Int)/\st≠0/\Builtin.divisionGoesByPylong (j-i) st=false/\R (HM i st n) H1
section
variable{X:Cx}{tg:Ou}
theorem Aq{a b c:Ou}{ta:TA}{p pos:QM}(hg:Gl X "range")(hm:X.mg "range" = none)(ha:PA X [a,b,c] ta)(hs:starEach [a,b,c] X.env=[(false,eval a X.env),(false,eval b X.env),(false,eval c X.env)]:=by rfl)(N:starEach [b,c] X.env=[(false,eval b X.env),(false,eval c X.env)]:=by rfl) :
  PI X tg (.Call (.Name "range" p) [a,b,c] [] pos) (Lr ta):=by
 intros R I h;show Call_ (jj I hg hm VI (Pe (cp (ha pos pins s σ H _ I h) λus G ⟨vs,H1,I1,r1,J⟩=>?_) (by rw[hs,N]) (by rw[N];rfl)));let#[i,j,st,n,e,J,q2,S,q4,q]:=J;subst e;cases r1 with
 |cons r F =>
  cases F with
  |cons r' F =>
   cases F with
   |cons U F =>
    cases F;let#[t,rfl]:=r;let#[t',rfl]:=r';let#[ab,rfl]:=U;show call_range_3 S ?_ (.inl q4);show UA (WB ..) J ?_;let L: ~~~H1 { G with heap:=G.heap.push { cls:=.type "range",data:=.fields ([.int i t,.int j t',.int st ab].toArray) },toks:=G.toks }:=I1.kept λb o e=>Heap.get?_push_of_some _ e;show#[_,[_],2,H1,rfl,L.kept (t':=G.toks) λb o e=>Heap.get?_push_of_some _ e,wc _ i st n,?_,λb hb=>?_,q]
    .let Y:i+((0:Nat):Int)*st=i:=(by simp);let O:(n:Int)-((0:Nat):Int)=Builtin.Range.rangeSize i j st:=(by rw[q2];omega);change TY _ _ (i+((0:Nat):Int)*st) ((n:Int)-((0:Nat):Int)) st;rw[Y,O];show Heap.get?_push_size _ rfl
    .let e:=oR.mp hb;subst e;show L.kP (rr _) (L.bV.fresh (rr _))
end
theorem Dt(K:HC):DO K (.type "int") (.type "tuple")=some false:=by with_unfolding_all rfl
theorem Dh(K:HC):DO K (.type "int") (.type "list")=some false:=by with_unfolding_all rfl
theorem B8(K:HC):DO K (.type "int") (.type "dict")=some false:=by with_unfolding_all rfl
theorem B0(K:HC):DO K (.type "str") (.type "tuple")=some false:=by with_unfolding_all rfl
theorem DV(K:HC):DO K (.type "str") (.type "list")=some false:=by with_unfolding_all rfl
theorem CH(K:HC):DO K (.type "str") (.type "dict")=some false:=by with_unfolding_all rfl
theorem Cs(K:HC):DO K (.type "NoneType") (.type "tuple")=some false:=by with_unfolding_all rfl
theorem C8(K:HC):DO K (.type "NoneType") (.type "list")=some false:=by with_unfolding_all rfl
theorem Dg(K:HC):DO K (.type "NoneType") (.type "dict")=some false:=by with_unfolding_all rfl
theorem HH(K:HC):DO K (.type "tuple") (.type "tuple")=some true:=rfl
end L2
namespace Srt
open PySem PyProof.Rows
theorem zd:∀{vs:W0}{ns:W5},vs.length=ns.length->(∀(j:Nat)(v:Value),vs[j]?=some v->∃(m:Int)(t:Wx),ns[j]?=some m/\v=.int m t)->QY vs ns
 | [],[],_,_=>.nil
 |v::vs,n::ns,F,h=>by
  let#[m,t,e,rfl]:=h 0 v rfl;cases e;show .cons n t (zd ‹F› λj u G=>by simpa using h (j+1) u ‹G›)
 | [],_::_,F,_=>by simp at F
 |_::_,[],F,_=>by simp at F
section
variable{prog:rn}{w:By}{A:Oj}{E:WV}{s:k8}{T:String}{r d:Addr}{n:Nat}{P:Nat->Value->Prop}{OK:Heap->Prop}
theorem yT{ns:W5}{Q:WV}(S:KdlSrc prog w T r d n P OK)(hh:A.handled=none)(bV:OK s.heap)(N:∀(i:Nat)(v:Value),P i v->∃(m:Int)(t:Wx),ns[i]?=some m/\v=.int m t)(hl:ns.length=n)(R:ns.Nodup)(hz:n<=1000)
  (k:∀(h1 h':Heap)(tk:Nat)(out:WZ)(ns':W5)(e:Nat),(∀b o,s.heap.get? b=some o->h1.get? b=some o)->(∀b o,h1.get? b=some o->h'.get? b=some o)->h'.get? h1.objs.size=some (seqObj "list" out e)->QY out.toList ns'->ns'.Perm ns->ns'.Pairwise (· <= ·)->Q (.ref h1.objs.size) { s with heap:=h',toks:=tk }) :
  wpAny (model prog w) A (call (.builtin "sorted") [.ref r]) Q E s:=by
 let lz:sizeLine=16777216:=ti;show Calls.call_function_entry kind_sorted plain_sorted entry_sorted (args_sorted1 _) ?_;show nq (m:=checkCount "sorted" 1 1 _) (wpAny_pure (nq (PySem.W.kdu_collect (A:=A.in1) S hh bV ag λh1 tk F k1 J=>?_)));let ln:F.toList.length=n:=(by rw[Pk];show J.1);show nq (Uv ?_ ag);let Y:QY F.toList ns:=zd ag λj v e=>N j v (J.2 j v (by rw[<-Px];show e));let G:=Heap.get?_push_size h1 (o:=seqObj "list" F.toList.toArray 0) rfl;change wpAny _ _ _ _ _ { s with heap:=h1.push (seqObj "list" F.toList.toArray 0),toks:=tk };show nq (Pm (QX slot_list_sort #[_,G,rfl] entry_list_sort (rX G Y R ag λout ns' O w2 L=>#[0,wpAny_pure #[0,?_]]) (args_list_sort _)));let#[e,U]:=sortedHeap_at (vs:=F.toList) (out:=out) G;show k h1 _ tk out ns' e k1 (λb o I=>?_) U O w2 L;let lt:=Heap.lt_size I;rw[sortedHeap_old (OI lt) (by rw[V2];show SS lt),Heap.get?_push_ne _ _ _ (OI lt)];show I
end
end Srt
namespace L2
open PySem PySem.Spec PyProof.Rows
section
variable{X:Cx}
theorem uA:dS X (.builtin "sorted") (λxs H Q=>∃(p:Addr)(ns:W5),xs=[.ref p]/\bD X.K H p (ns.map V.int)/\ns.Nodup/\ns.length<=1000/\∀(l:Addr)(ns':W5),H l=none->ns'.Perm ns->ns'.Pairwise (· <= ·)->Q (.ref l) (upd H l (.lst (ns'.map V.int)))):=by
 intros xs us Q I r h;let#[p,ns,rfl,R,S,Y,q]:=h;let#[u,rfl,ru]:=vals1 r;cases ru;let#[its,G,pl,hz]:=I.list R;let O:=intsAre_of G;let J:=G.length;rw[k9]at J;show Srt.xg pl.isList O S ag λout ns' L F U=>?_;let#[e,N]:=sortedAll_at s.heap its out;let hs:=ti;show#[.ref (s⁻¹+1),_,I.laid (t':=s.toks) (λb o e=>sortedAll_old e) (RG _) (show cn X.prog X.w _ _ _ (.lst (ns'.map V.int))from#[by rw[k9,F.length_eq];omega,out.toList,e,jO L,by simpa using N]),rfl,q _ ns' (I.bV.fresh (RG _)) F U]
end
end L2
namespace Srt
open PySem PyProof.Rows
theorem wg{prog:rn}{w:By}{A:Oj}{I:Addr}{fp wr:W7}{G:Array UM->Array UM->Prop}{n:Nat}{P:Nat->Value->Prop}{St:Nat->k8->Prop}(W:WalksS prog w A I fp wr G n P St)(m:Nat)(N:Nat->Value->Prop) :
  WalksS prog w A I fp wr G (m+n) (λj v=>(j<m/\N j v)\/(m<=j/\P (j-m) v)) (λi s=>m<=i/\St (i-m) s) where
 sub:=W.sub
 grefl:=W.grefl
 gtrans:=W.gtrans
 frame:=λi s h' tk st J F=>#[st.1,W.frame (i-m) s h' tk st.2 J F]
 item:=λi s Q E hi st h=>W.item (i-m) s Q E (by have:=st.1;omega) st.2 λv s' L R O=>h v s' (.inr #[st.1,L]) #[by have:=st.1;omega,by rw[show i+1-m=i-m+1 by have:=st.1;omega];show R] O
 done:=λs Q E st h=>W.done s Q E (by have:=st.2;rwa [show m+n-m=n by omega]at this) h
 self:=λi s Q E st h=>W.self (i-m) s Q E st.2 h
section
variable{prog:rn}{w:By}{A:Oj}{s:k8}{T:String}{r d:Addr}{n:Nat}{P:Nat->Value->Prop}{OK:Heap->Prop}
theorem yy{R:VL->k8->Prop}(Z:KdlSrc prog w T r d n P OK)(hh:A.handled=none)(bV:OK s.heap)(S:Addr)(sr:S≠r)(sd:S≠d)(res:Value)(G:WZ)(c:Nat)(hS:s.heap.get? S=some { cls:=.type "list",data:=.seq G c })(hz:G.size+n<sizeLine)
  (k:∀h' tk N J,(∀b o,b≠S->s.heap.get? b=some o->h'.get? b=some o)->h'.get? S=some { cls:=.type "list",data:=.seq N J }->ItemsOf (λj v=>(j<G.size/\G[j]?=some v)\/(G.size<=j/\P (j-G.size) v)) N (G.size+n)->R (.ok (.ret res)) { s with heap:=h',toks:=tk }) :
  wpAny (model prog w) A.in1 (Builtin.List.listExtendWith (.ref S) (.ref r) res) (λas s'=>match as with|.done f=>R (.ok f) s' |.again J=>J.quiet=true/\Rh (model prog w) A J R s') (λe s'=>R (.error e) s') s:=by
 let nI:S≠s⁻¹:=OI (Heap.lt_size hS);let#[oI,St,ap,W,ad]:=Z.iter A.in1 s hh bV;let ab:S∉[s⁻¹,d]:=λz=>by
  rcases t7.mp z with e|z
  .show nI e
  .show sd (oR.mp z)
 let ac:∀(h:Heap)(U tk:Nat),St 0 h->(∀b o,b≠S->s.heap.get? b=some o->h.get? b=some o)->h.get? S=some { cls:=.type "list",data:=.seq G U } ->
   Rh (model prog w) A (.builtin "list.extend.loop" #[[.ref S,.ref s⁻¹,res],[]]) R { s with heap:=h,toks:=tk }:=by
  intro h U tk q0 L O;let WS:=wg W.toS G.size λj v=>G[j]?=some v;show codeAny_extend_loopS WS (VG hz) S ab res n G.size _ G U ag ag #[rr _,by rw[Nat.sub_self];show q0] O #[rfl,λj v e=>.inl #[?_,e]] λs' N J mv e1 e2=>?_
  .show(QS.mp e).1
  .rw[Moved.eq_with mv];show k s'.heap s'.toks N J (λb o I e=>mv.heap b o (λz=>?_) (L b o I e)) e1 e2;rcases t7.mp z with z|z
   .show I z
   .show QT _ (oR.mp z▸Heap.lt_size e)
 unfold Builtin.List.listExtendWith;show nq (Tr (T:=T) (Z.type s bV) ?_);let ns:Builtin.List.listSameRef (.ref S) (.ref r)=false:=(by simp[Builtin.List.listSameRef,sr]);simp only[ns,Z.notList,Z.notTuple,Bool.or_false,PK,if_false];show nq (ap _ _ ?_);let Y:=Heap.get?_push_of_some oI hS;show nq (Pm (Z.hint _ _ _ _ (Z.keep _ _ bV λb _ o e=>Heap.get?_push_of_some _ e) ?_));show wpAny_ite_split (λ_=>?_) (λ_=>wpAny_pure #[plainId_quiet SD _,ac _ c _ ad (λb o _ e=>Heap.get?_push_of_some _ e) Y]);show nq (QP (nq ?_));change wpAny _ _ (updateSeq S (·.push .none)>>=λ_=>updateSeq S (·.pop)) _ _ _;let L:=Rv Y (·.push Value.none);let O:=Rv L (·.pop);let ep:(G.push Value.none).pop=G:=Array.pop_push ..;show nq (wpAny_updateSeq Y rfl (wpAny_updateSeq L rfl (wpAny_pure #[plainId_quiet SD _,?_]) ?_ ?_) ?_ ?_)
 .rw[ep]at O;show ac _ _ _ (W.frame 0 _ _ ad λb I o e=>?_) (λb o I e=>?_) O
  .let am:b≠S:=λz=>ab (z▸I);show(Heap.get?_update_other _ _ (ro am)).trans ((Heap.get?_update_other _ _ (ro am)).trans e)
  .show(Heap.get?_update_other _ _ (ro I)).trans ((Heap.get?_update_other _ _ (ro I)).trans (Heap.get?_push_of_some _ e))
 .change(G.push Value.none).size<=sizeLine;rw[Ta];omega
 .change((G.push Value.none).pop).size<=sizeLine+1;rw[ep];omega
 .omega
 .change(G.push Value.none).size<=sizeLine+1;rw[Ta];omega
end
end Srt
namespace L2
open PySem PySem.Spec PyProof.Rows
theorem nh:∀{xs:XD}{vs:W0},xs.length=vs.length->(∀(j:Nat)(x:V)(v:Value),xs[j]?=some x->vs[j]?=some v->RelV x v)->Vals xs vs
 | [],[],_,_=>.nil
 |x::xs,v::vs,F,h=>.cons (h 0 x v rfl rfl) (nh ‹F› λj a b G I=>h (j+1) a b ‹G› ‹I›)
 | [],_::_,F,_=>by simp at F
 |_::_,[],F,_=>by simp at F
section
variable{X:Cx}
inductive wk(x:V)(vs:XD)(H:Hp)(Q:VK):Prop
 |mk (l:_) (d:_) (xs:_) (kvs:_) (_:x=.ref l) (_:vs=[.ref d]) (_:H l=some (.lst xs)) (_:H d=some (.dK kvs)) (_:xs.length+kvs.length<sizeLine) (_:Q .non (upd H l (.lst (xs++kvs.map λkv=>kV kv.1)))):wk x vs H Q
theorem yU(hc:X.calm=true):IG X "list.extend" wk:=by
 intros x vs v us Q I rx rv h;let#[l,d,xs,kvs,rfl,rfl,O,U,hz,q]:=h;cases rx;let#[u,rfl,ru]:=rv.one;cases ru;let#[z,its,n,r,hl,e]:=I.qr O;let#[_,hd,vs,ab,dd]:=iu I.bV U;let#[ep,am]:=dd.dictAt;let ap:=ab.length;let ac:l≠d:=λz=>(by rwa[z,U]at O);show Sl (RP Qo.plain PySem.F.entry_list_extend (Qo.check _ _ _ _ _ _ _ _ #[_,e,rfl] (PySem.F.args_list_extend_2 _ _) ?_));change wpAny _ _ (Builtin.List.listExtendWith (.ref l) (.ref d) .none) _ _ s;show Srt.yy (R:=λr s'=>match r with|.ok (.ret v)=>EP X pins σ Q v s' |.ok _=>False|.error e=>X.xe e s') (kdl_dict (knd:=bR X.prog X.w) (kvs:=vs) (ep:=ep) hd) (I.ok.hd hc) am l ac ac .none its.toArray n e (by rw[qs];omega) λh' tk J c' k1 k2 k3=>#[.non,_,?_,rfl,q];let#[sz,it]:=k3;let sz:J.size=its.length+vs.length:=(by rw[sz,qs]);show I.write (x:=l) (e:=l) (by rw[O];show trivial) (.inl rfl) k1 #[_,k2] (show cn X.prog X.w _ _ _ (.lst _)from#[?_,J.toList,c',nh ?_ λj x v G hv=>?_,by simpa using k2])
 .rw[G1,k9];omega
 .let al:J.toList.length=J.size:=Pk;rw[G1,k9];omega
 .let ad:J[j]?=some v:=(by rw[<-Px];show hv);rcases it j v ad with⟨S,N⟩|⟨S,N⟩
  .rw[qs]at S;rw[Qc ag]at G;let#[b,eb,rb]:=r.get G;have:its[j]?=some v:=‹N›;rwa[this]at eb;show rb
  .rw[qs]at S N;let#[k,y,e1,e2]:=N;rw[PF ag,t4]at G;let L:(vs.map (·.1))[j-its.length]?=some k:=(by rw[t4,e1];rfl);rw[<-ab.keys,t4]at L;rw[show j-xs.length=j-its.length by omega]at G;cases e4:kvs[j-its.length]? with
   |none=>rwa[e4]at L
   |some Y =>
    rw[e4]at L G;obtain rfl:Y.1=k:=sS L;obtain rfl:kV Y.1=x:=sS G;show qF e2
def MN(K:HC):R2:=λx y H Q=>∃p q xs ys,x=.ref p/\y=.ref q/\cu K H p xs/\cu K H q ys/\xs.all eK=true/\ys.all eK=true/\Q (.bl (mL xs ys)) H
theorem rW:∀{xs ys:XD},((Ox (min xs.length ys.length)).all (λj=>ny (xs.getD j .non) (ys.getD j .non))&&xs.length==ys.length)=mL xs ys:=by
 intro xs ys;cases e:xs.length=ys.length
 .rw[e,Nat.min_self,beq_self_eq_true,Bool.and_true, <-kf e,e]
 .rw[qL e,beq_eq_false_iff_ne.mpr e,T9]
theorem x6(hu:X.A.units<QG):mh X (Pq .Eq) (MN X.K):=by
 intros x y v u Q I rx ry h;let#[p,q,xs,ys,rfl,rfl,hx,hy,O,fy,U]:=h;cases rx;cases ry;let#[its,r,pl,hz]:=I.tuple hx;let#[L,J,ac,am]:=I.tuple hy;let N:=r.length;let ab:=J.length;show SeqAt.eq_tupleAt (e:=λj=>ny (xs.getD j .non) (ys.getD j .non)) pl ac hu (λj h1 h2=>?_) #[.bl (mL xs ys),H,I,?_,U]
 .rw[qs]at h1 h2;let F:j<xs.length:=ag;let G:j<ys.length:=ag;let#[a,R,ra]:=r.get (i:=j) (x:=xs[j]) (by simp[F]);let#[b,eb,rb]:=J.get (i:=j) (x:=ys[j]) (by simp[G]);let#[_,ad]:=mu.mp R;let#[_,Y]:=mu.mp eb;let g1:xs.getD j .non=xs[j]:=(by simp[F]);let g2:ys.getD j .non=ys[j]:=(by simp[G]);change Qk _ _ its.toArray[j] L.toArray[j] (ny (xs.getD j .non) (ys.getD j .non));let S:its.toArray[j]=a:=‹ad›;let a2:L.toArray[j]=b:=‹Y›;rw[g1,g2,S,a2];show oV ra rb (OJ.mp O _ (Py F)) (OJ.mp fy _ (Py G))
 .change Value.bool _=Value.bool _;rw[qs,qs, <-N, <-ab,rW]
end
theorem BK:∀{x:V},eK x=true->ny x x=true:=by
 intro x h;cases x<;>first|(simp[ny];done)|show nomatch h
theorem jC{α G:Type}{F:α->G->Prop}:∀{xs:List α}{ys:List G},Paired F xs ys->xs.length=ys.length
 |_,_,.nil=>rfl
 |_,_,.cons _ t=>by rw[K4,K4,jC t]
theorem Ca{α G:Type}{F:α->G->Prop}:∀{xs:List α}{ys:List G},Paired F xs ys->∀(j:Nat)(x:α)(y:G),xs[j]?=some x->ys[j]?=some y->F x y
 |_,_,.nil,j,_,_,h,_=>by simp at h
 |_,_,.cons r t,0,x,y,h1,h2=>by simp at h1 h2;subst h1;subst h2;show r
 |_,_,.cons r t,j+1,x,y,h1,h2=>Ca t j x y ‹h1› ‹h2›
theorem GZ{α I:Type}{F:α->I->Prop}:∀{xs:List α}{ys:List I},xs.length=ys.length->(∀(j:Nat)(x:α)(y:I),xs[j]?=some x->ys[j]?=some y->F x y)->Paired F xs ys
 | [],[],_,_=>.nil
 |x::xs,y::ys,G,h=>.cons (h 0 x y rfl rfl) (GZ ‹G› λj a b L J=>h (j+1) a b ‹L› ‹J›)
 | [],_::_,G,_=>by simp at G
 |_::_,[],G,_=>by simp at G
section
variable{X:Cx}{pins:WU}{σ:St}{H:Hp}{s:k8}
end
end L2
namespace PySem
open PyProof.Rows
namespace F
end F
section
variable{prog:rn}{w:By}{K:Type}[DecidableEq K]{knd:KeyKind prog w K}{A:Oj}{E:WV}
end
end PySem
namespace L2
open PySem PySem.Spec PyProof.Rows
def wq(t:Str×Str)(caps:List (Str×Nat)):List Str:=t.1::t.2::caps.map (·.1)
def Gx(caps:List (Str×Nat))(σ:St)(v F:Option V):St:=v::F::caps.map λp=>(σ[p.2]?).join
abbrev IW(X:Cx)(scope:Sf)(cl:List (Str×Addr))(t:Str×Str)(caps:List (Str×Nat)):Prop:=sM X scope cl [t.1,t.2] caps
theorem Ny{α:Type}:∀{l:List α},l.length=2->∃a b,l=[a,b]
 | [a,b],_=>#[a,b,rfl]
abbrev C9:=Gj 2
def HD(caps:List (Str×Nat))(g:TG)(wi:TI)(tt:TT)(te:TE):TE:=λσ H Q=>wi σ H λJ H1 =>
 ∃W:Nat->Nat->List V->Hp->Prop,(∃m,W 0 m [] H1)/\C9 caps g tt te σ J (λys H2=>∀p,H2 p=none->Q (.ref p) (upd H2 p (.lst ys))) W
section
variable{X:Cx}{scope:Sf}{cl:List (Str×Addr)}{t:Str×Str}{caps:List (Str×Nat)}{elt iter:Ou}{ifs:XB}{px pos:QM}{es:XB}{kx:Nat}{g:TG}{wi:TI}{tt:TT}{te:TE}
theorem B6(K:IW X scope cl t caps)(hc:X.calm=true)(hi:PI X (.Tuple es kx px) iter wi)
  (U:∀C s₀ H₀ ex,PG (nY X (wq t caps) scope cl C s₀ H₀ ex) (.Tuple es kx px) g)
  (G:∀C s₀ H₀ ex,HW (nY X (wq t caps) scope cl C s₀ H₀ ex) ifs tt) (he:∀C s₀ H₀ ex,PE (nY X (wq t caps) scope cl C s₀ H₀ ex) elt te)
  (hs:∀x,Qb iter X.env x=pure x:=by intro _;rfl):PE X (.ListComp elt [#[.Tuple es kx px,iter,ifs,(0)]] scope pos) (HD caps g wi tt te):=by
 intros Q I h;rw[eval_ListComp];show Q4 (use:=none) rfl hs K.Eb K.kind K.names (cp (hi pins s σ H _ I h) λv s1 h1=>cp h1 λam s2 h2=>?_);let#[it,fp,tn,J,H2,e,I2,T,ad,S,W,#[m0,N],hW]:=h2;subst e;show mX (RR:=λab C=>compPost (model X.prog X.w) X.A X.xe none (EP X pins σ Q) ab C) K hc U G he I2 T ad S N hW ?_;intro D C ys H' s' m F I' Y hC q;show#[m,Y,λh' ac=>?_];let#[c0,R,c2,c3,O,L]:=hC;show#[.ref D,_,I'.turned (t':=s'.toks) (λb o hb e=>(ac.2 b hb).trans e) c0 R c3 O L,rfl,q D F]
end
theorem Jb:OE "zip" = some (.type "zip"):=aq
theorem sN:OE "enumerate" = some (.type "enumerate"):=aq
theorem Eo:OE "all" = some (.builtin "all"):=aq
theorem Jd:OE "min" = some (.builtin "min"):=aq
section
variable{X:Cx}{pins:WU}{σ:St}{H:Hp}{s:k8}{h':Heap}
theorem Inv.lN{t':Nat}{ch:W7}(I: ~~~H s)(k:∀b o,b∉ch->s.heap.get? b=some o->h'.get? b=some o)(G:∀b∈ch,gA X pins H b): ~~~H { s with heap:=h',toks:=t' }:=by
 let J:∀b u,H b=some u->b∉ch:=λb u e z=>(by rwa[(G b z).1]at e);show I.step (g':=s.gens) (d':=s.drawn) (ch:=ch) (λb N=>?_) (λb o _ _ F e _=>k b o F e) (λb o _ _ F e _=>#[o.slots,k b o F e]) (λ_ _ _ _ n=>n)
  (λb o F e=>#[o,k b o F e]) (λ_ _ e=>e) (λ_ _ _ e=>e) (λb ps e=>#[([].toArray),by rw[e];simp]) (λm R=>?_) (λb u e=>?_) I.bare
 .let#[_,U,f2,O,S,L]:=G b N;show#[O,U,S,L]
 .let#[o,es,ep,Y,r]:=R;show#[o,es,ep,k _ o (λz=>(G _ z).2.1 rfl) Y,r]
 .show(I.bV b u e).iX (λc v F q=>k c v ?_ q) (λ_ q=>q) λ_ _ q=>q;rcases F with z|z
  .rw[z];show J b u e
  .show J c _ z
theorem Inv.yh{D:Addr}{ys:XD}{its:W0}(I: ~~~H s)(f:gA X pins H D)(e:IsTup s.heap D its.toArray)(r:Vals ys its)(L:ys.length<=sizeLine) :
  ~~~(upd H D (.tup ys)) s:=by
 let#[G,S,Y,N,R,J]:=f;let#[U,g,d,tk,os]:=s;show I.step (g':=g) (d':=d) (t':=tk) (h':=U) (ch:=[D]) (λb F=>?_) (λb o _ _ _ e _=>e) (λb o _ _ _ e _=>#[o.slots,e]) (λb o F _ n=>?_) (λb o _ e=>#[o,e]) (λb xs q=>?_) (λb o u q=>?_) (λb ps q=>#[([].toArray),?_]) (λm O=>O) (λb u q=>?_) I.bare
 .let z:b=D:=‹F›;subst z;show#[N,S,R,J]
 .rw[aj (λz=>F (by simp[z]))];show n
 .rw[aj (av q G)];show q
 .rw[aj (av q G)];show q
 .rw[aj (av q G),q];simp
 .by_cases F:b=D
  .subst F;rwa[ae]at q;show#[L,its,r,e]
  .rw[aj F]at q;show(I.bV b u q).iX (λ_ _ _ z=>z) (λc z=>by rw[aj (av z G)];show z) λc xs z=>by rw[aj (av z G)];show z
end
def JQ(K:HC)(F G:Addr):It :=
 #[λi H=>∃xs ys x y,bD K H F xs/\bD K H G ys/\xs[i]?=some x/\ys[i]?=some y,
  λi H v H'=>∃T x y,v=.ref T/\H T=none/\H'=upd H T (.tup [x,y])/\(∀xs,bD K H F xs->xs[i]?=some x)/\∀ys,bD K H G ys->ys[i]?=some y,
  λi H=>∃xs ys,bD K H F xs/\bD K H G ys/\(xs.length<=i\/ys.length<=i)]
def Of(z TI TO F G I J:Addr)(i:Nat)(h:Heap):Prop:=IsZip h z TI TO .none/\IsPair h TI (.ref F) (.ref G)/\(∃a b,IsPair h TO a b)/\h.IsListIter F I i/\h.IsListIter G J i
theorem xJ:2<=sizeLine:=by rw[ti];decide
theorem BC{P:rn}{w:By}{K:HC}{es:XB}{kx:Nat}{px:QM}{z TI TO J L l1 l2:Addr}(D:ZipApart z TI TO J L l1 l2):Turn P w K (.Tuple es kx px) (JQ K l1 l2) [z,TI,TO,J,L] z (Of z TI TO J L l1 l2) where
 mem:=by simp
 obj:=by
  rintro i h ⟨O,G,⟨a,b',R⟩,h1,h2⟩ b F;simp only[t7,vr,or_false]at F;rcases F with rfl|rfl|rfl|rfl|rfl
  .show#[_,O,λv q=>by cases(show RK _=Ru v from q)]
  .show#[_,G,λv q=>by cases(show VU _ _=Ru v from q)]
  .show#[_,R,λv q=>by cases(show VU _ _=Ru v from q)]
  .let#[o,e,c,d]:=h1;show#[o,e,λv q=>by rwa[d]at q]
  .let#[o,e,c,d]:=h2;show#[o,e,λv q=>by rwa[d]at q]
 keep:=λi h h' ⟨O,G,⟨a,b,R⟩,h1,h2⟩ k=>#[k z (by simp) _ O,k TI (by simp) _ G,#[a,b,k TO (by simp) _ R],h1.at λo e=>k J (by simp) o e,h2.at λo e=>k L (by simp) o e]
 item:=by
  intro X hP hw hK hc i pins s σ H E I S st hg;subst hP hw hK;let#[O,G,#[a,b,R],h1,h2]:=st;let#[xs,ys,x,y,Y,q2,e1,e2]:=hg;let#[aD,ab,p1,_]:=I.list Y;let#[a4,ad,p2,_]:=I.list q2;let#[u1,aT,a5]:=ab.get e1;let#[u2,ap,aB]:=ad.get e2;let f4:∀b∈[z,TO,J,L],gA X pins H b:=λb F=>S b (by simp only[t7,vr,or_false]at F ⊢;rcases F with h|h|h|h<;>simp[h]);show wpAny_pyNext_zip_item D O G R h1 h2 p1.isList p2.isList (x:=u1) (y:=u2) ‹aT› ‹ap› λh' z' as a1 a2 pT sz kk=>?_;let I1: ~~~H { s with heap:=h' }:=I.lN (t':=s.toks) (ch:=[z,TO,J,L]) (λb o F e=>kk b o (λq=>F (by simp[q])) (λq=>F (by simp[q])) (λq=>F (by simp[q])) (λq=>F (by simp[q])) e) f4;show#[0,wpAny_letOwnedTupleGo_zip z' λU z2 N=>?_];replace N:Heap.SameBut z h' U:=N;let I2: ~~~H { s with heap:=U }:=I1.lN (s:={ s with heap:=h' }) (h':=U) (t':=s.toks) (ch:=[z]) (λb o F e=>(N.2 b (λq=>F (by simp[q]))).trans e) λb F=>S b (by simp only[oR]at F;simp[F]);let fT:gA X pins H s⁻¹:=I.kP (rr _) (I.bV.fresh (rr _));let nz:s⁻¹≠z:=UT (Heap.lt_size O);let am:IsPair U s⁻¹ u1 u2:=N.extBut _ _ nz pT;let I3: ~~~(upd H s⁻¹ (.tup [x,y])) { s with heap:=U }:=I2.yh (its:=[u1,u2]) fT #[_,am,rfl,0] (.cons a5 (.cons aB .nil)) xJ;show#[.ref s⁻¹,_,I3,rfl,#[_,x,y,rfl,fT.1,rfl,λzs ac=>by rw[I.lJ ac Y];show e1,λzs ac=>by rw[I.lJ ac q2];show e2],#[z2,N.extBut _ _ D.TIz (kk _ _ D.TIz D.TITO D.TIi1 D.TIi2 G),#[2,N.extBut _ _ D.TOz as],a1.extBut N.extBut D.i1z,a2.extBut N.extBut D.i2z],λb F=>?_];let nb:b≠s⁻¹:=by
   intro q;simp only[t7,vr,or_false]at F;let#[o1,g1,_]:=h1;let#[o2,g2,_]:=h2;rcases F with e|e|e|e|e<;>rw[e]at q
   .show nz q.symm
   .show OI (Heap.lt_size G) q
   .show OI (Heap.lt_size R) q
   .show OI (Heap.lt_size g1) q
   .show OI (Heap.lt_size g2) q
  rw[aj nb];show(S b F).1
 done:=by
  intro X hP hw hK hc i pins s σ H E I S st hg;subst hP hw hK;let#[O,G,#[a,b,R],h1,h2]:=st;let#[xs,ys,Y,q2,e]:=hg;let#[aD,ab,p1,_]:=I.list Y;let#[a4,ad,p2,_]:=I.list q2;let a0:=ab.length;let a3:=ad.length;let f4:∀b∈[z,TO,J,L],gA X pins H b:=λb F=>S b (by simp only[t7,vr,or_false]at F ⊢;rcases F with h|h|h|h<;>simp[h]);show wpAny_pyNext_zip_end (I.ok.hd hc) D O G R h1 h2 p1.isList p2.isList (e.elim (λe=>.inl (by simp;show le_of_eq_of_le (id (RH a0)) e)) λe=>.inr (by simp;show le_of_eq_of_le (id (RH a3)) e)) λh' kk=>#[rfl,I.lN (t':=s.toks) (ch:=[z,TO,J,L]) (λb o F e=>kk b o (λq=>F (by simp[q])) (λq=>F (by simp[q])) (λq=>F (by simp[q])) (λq=>F (by simp[q])) e) f4]
 self:=λ_ _ _ _ _ st h=>Vg st.1 h
section
variable{X:Cx}
def Nf(K:HC)(ta:TA):TI:=λσ H R=>ta σ H λvs H1=>Bv λF G=>Hf (vs=[.ref F,.ref G]) ((∃xs,bD K H1 F xs)) ((∃ys,bD K H1 G ys)) (R (JQ K F G) H1)
theorem xT{es:XB}{kx:Nat}{px:QM}{a b:Ou}{ta:TA}{p pos:QM}(hg:Gl X "zip")(hm:X.mg "zip" = none)(ha:PA X [a,b] ta)(hs:starEach [a,b] X.env=[(false,eval a X.env),(false,eval b X.env)]:=by rfl)(N:starEach [b] X.env=[(false,eval b X.env)]:=by rfl) :
  PI X (.Tuple es kx px) (.Call (.Name "zip" p) [a,b] [] pos) (Nf X.K ta):=by
 intros R I h;show Call_ (jj I hg hm Jb (Pe (cp (ha pos pins s σ H _ I h) λus F ⟨vs,H1,G,r1,q1⟩=>?_) (by rw[hs,N]) (by rw[N];rfl)));let#[J,L,rfl,#[xs,g1],#[ys,g2],q]:=q1;let#[u1,u2,rfl,e1,Y]:=vals2 r1;obtain rfl:u1=Value.ref J:=e1;obtain rfl:u2=Value.ref L:=Y;let#[aD,aB,U,_]:=G.list g1;let#[a0,aT,p2,_]:=G.list g2;let am:J<F⁻¹:=let ⟨_,e,_⟩:=U.isList;Heap.lt_size e;let ap:L<F⁻¹:=let ⟨_,e,_⟩:=p2.isList;Heap.lt_size e;show call_zip_2 U.isList p2.isList λh' S ac as ab ad hsz hk=>?_;show Vg S ?_;show#[F⁻¹+4,[F⁻¹+4,F⁻¹+2,F⁻¹+3,F⁻¹,F⁻¹+1],2,H1,rfl,G.kept (t':=F.toks) hk,BC (zipApart_new am ap),#[S,ac,#[2,as],ab,ad],λb O=>?_,q];let le:F⁻¹<=b:=by
  simp only[t7,vr,or_false]at O;rcases O with e|e|e|e|e<;>rw[e]<;>first|show rr _|show Vh _ _
 show G.kP le (G.bV.fresh le)
def Ko(K:HC)(l:Addr):It :=
 #[λi H=>∃xs x,bD K H l xs/\xs[i]?=some x,
  λi H v H'=>∃T x,v=.ref T/\H T=none/\H'=upd H T (.tup [.int i,x])/\∀xs,bD K H l xs->xs[i]?=some x,
  λi H=>∃xs,bD K H l xs/\xs.length<=i]
def Oe(e it l:Addr)(i:Nat)(h:Heap):Prop:=(∃F,IsEnum h e it i F)/\h.IsListIter it l i
theorem Ba{P:rn}{w:By}{K:HC}{es:XB}{kx:Nat}{px:QM}{e it l:Addr}(D:e≠it):Turn P w K (.Tuple es kx px) (Ko K l) [e,it] e (Oe e it l) where
 mem:=by simp
 obj:=by
  rintro i h ⟨⟨S,G⟩,h1⟩ b F;simp only[t7,vr,or_false]at F;rcases F with rfl|rfl
  .show#[_,G,λv q=>by cases(show RK _=Ru v from q)]
  .let#[o,e,c,d]:=h1;show#[o,e,λv q=>by rwa[d]at q]
 keep:=λi h h' ⟨⟨S,G⟩,h1⟩ k=>#[#[S,k e (by simp) _ G],h1.at λo q=>k it (by simp) o q]
 item:=by
  intro X Y hw hK hc i pins s σ H E I J st hg;subst Y hw hK;let#[#[S,G],h1]:=st;let#[xs,x,R,N]:=hg;let#[ad,U,p1,_]:=I.list R;let#[u1,am,as]:=U.get N;show wpAny_pyNext_enum_item G h1 p1.isList (x:=u1) ‹am› D λh' eo a1 pT sz kk=>?_;let I1: ~~~H { s with heap:=h',toks:=s.toks+1 }:=I.lN (t':=s.toks+1) (ch:=[e,it]) (λb o F q=>kk b o (λz=>F (by simp[z])) (λz=>F (by simp[z])) q) J;show#[0,wpAny_letOwnedTupleGo_enum eo λO e2 L=>?_];replace L:Heap.SameBut e h' O:=L;let I2: ~~~H { s with heap:=O,toks:=s.toks+1 }:=I1.lN (s:={ s with heap:=h',toks:=s.toks+1 }) (h':=O) (t':=s.toks+1) (ch:=[e]) (λb o F q=>(L.2 b (λz=>F (by simp[z]))).trans q) λb F=>J b (by simp only[oR]at F;simp[F]);let fT:gA X pins H s⁻¹:=I.kP (rr _) (I.bV.fresh (rr _));let ne:s⁻¹≠e:=UT (Heap.lt_size G);let ab:=L.extBut _ _ ne pT;let I3: ~~~(upd H s⁻¹ (.tup [.int i,x])) { s with heap:=O,toks:=s.toks+1 }:=I2.yh (its:=[.int i s.toks,u1]) fT #[_,ab,rfl,0] (.cons #[0] (.cons as .nil)) xJ;show#[.ref s⁻¹,_,I3,rfl,#[_,x,rfl,fT.1,rfl,λzs ac=>by rw[I.lJ ac R];show N],#[#[u1,?_],a1.extBut L.extBut (ro D)],λb F=>?_]
  .let ec:((i+1:Nat):Int)=(i:Int)+1:=(by push_cast;rfl);rw[ec];show e2
  .let nb:b≠s⁻¹:=by
    intro q;simp only[t7,vr,or_false]at F;let#[o1,g1,_]:=h1;rcases F with z|z<;>rw[z]at q
    .show ne q.symm
    .show OI (Heap.lt_size g1) q
   rw[aj nb];show(J b F).1
 done:=by
  intro X Y hw hK hc i pins s σ H E I J st hg;subst Y hw hK;let#[#[S,G],h1]:=st;let#[xs,R,N]:=hg;let#[ad,U,p1,_]:=I.list R;let ap:=U.length;let#[f0,f1,f2,f3,f4,f5]:=J it (by simp);show wpAny_pyNext_enum_end (I.ok.hd hc) G h1 p1.isList (by simp;show le_of_eq_of_le (id (RH ap)) N) λh' eb=>#[rfl,I.turned (t':=s.toks) (λb o F q=>eb b o F q) f0 f1 f3 f4 f5]
 self:=λ_ _ _ _ _ st h=>let ⟨⟨_,G⟩,_⟩:=st;U9 G h
def J9(K:HC)(ta:TA):TI:=λσ H R=>ta σ H λvs H1=>∃l,vs=[.ref l]/\(∃xs,bD K H1 l xs)/\R (Ko K l) H1
theorem FI{es:XB}{kx:Nat}{px:QM}{a:Ou}{ta:TA}{p pos:QM}(U:Gl X "enumerate")(hm:X.mg "enumerate" = none)(ha:PA X [a] ta)(hs:starEach [a] X.env=[(false,eval a X.env)]:=by rfl) :
  PI X (.Tuple es kx px) (.Call (.Name "enumerate" p) [a] [] pos) (J9 X.K ta):=by
 intros R I h;show Call_ (jj I U hm sN (Pe (cp (ha pos pins s σ H _ I h) λus F S=>?_) hs rfl));let#[vs,H1,G,Y,N]:=S;let#[l,rfl,#[xs,g1],q]:=N;let#[u1,rfl,O]:=vals1 Y;obtain rfl:u1=Value.ref l:=O;let#[ac,ab,p1,_]:=G.list g1;show call_enumerate_list p1.isList λh' J hi hsz hk=>?_;show U9 J ?_;show#[F⁻¹+1,[F⁻¹+1,F⁻¹],2,H1,rfl,G.kept (t':=F.toks) hk,Ba (l:=l) (Nat.succ_ne_self _),#[#[_,J],hi],λb L=>?_,q];let le:F⁻¹<=b:=by
  simp only[t7,vr,or_false]at L;rcases L with e|e<;>rw[e]<;>first|show rr _|show Vh _ _
 show G.kP le (G.bV.fresh le)
theorem tX:∀{bs:List Bool}{its:W0},Vals (bs.map V.bl) its->its=bs.map Value.bool
 | [],_,.nil=>rfl
 |b::bs,_,.cons r t=>by rw[tX t,show _=Value.bool b from r];rfl
theorem rK(S:X.calm=true):dS X (.builtin "all") (λxs H Q=>∃(l:Addr)(bs:List Bool),xs=[.ref l]/\bD X.K H l (bs.map V.bl)/\Q (.bl (bs.all id)) H):=by
 intros xs us Q I r h;let#[l,bs,rfl,Y,q]:=h;let#[u,rfl,ru]:=vals1 r;obtain rfl:u=Value.ref l:=ru;let#[its,rv,p,_]:=I.list Y;let U:=tX rv;subst U;let J:=p.isList;let ab:l<s⁻¹:=let ⟨_,e,_⟩:=J;Heap.lt_size e;show call_all_walk (SH J ?_);show#[s⁻¹,[s⁻¹,l],[s⁻¹],(bs.map Value.bool).toArray.size,2,λi=>(bs[i]?).getD true,rfl,WN (A:=X.A.in1) (I.ok.hd S) _ l (OI ab) (bs.map Value.bool).toArray,
  #[#[_,Heap.get?_push_size _ rfl,1],J.push _],λi v s' Q' E' R L=>?_,λh' tk hk=>?_]
 .let O:(bs.map Value.bool).toArray[i]?=some v:=R;let F:(bs.map Value.bool)[i]?=some v:=‹O›;rw[t4]at F;cases G:bs[i]? with
  |none=>rwa[G]at F
  |some b =>
   rw[G]at F;let N:Value.bool b=v:=sS F;subst N;simp only[G,Vi]at L;show PZ L
 .let e:((Ox (bs.map Value.bool).toArray.size).all λi=>(bs[i]?).getD true)=bs.all id:=by
   rw[qs,k9];show LSm.range_all bs
  rw[e];show#[.bl _,H,I.kept (Wg hk),rfl,q]
theorem lV:dS X (.builtin "isinstance") (λxs H Q=>∃(e C F:Addr)(cs:W7)(b:Bool),xs=[.ref e,.ref F]/\H F=some (.tup (cs.map V.ref))/\PySem.W.yX X.K C/\H e=some (xo e (.ref C))/\UG X.K (.ref C) (cs.map Value.ref)=some b/\Q (.bl b) H):=by
 intros xs us Q I r h;let#[e,C,F,cs,b,rfl,L,xc,Y,U,q]:=h;let#[u,N,rfl,ru,O]:=vals2 r;obtain rfl:u=Value.ref e:=ru;obtain rfl:N=Value.ref F:=O;let#[p,_]:=(show cn X.prog X.w H s.heap e (xo e (.ref C))from I.bV e _ Y);let#[_,its,R,#[c0,d0,dt,sl],g1,g2,n,G]:=(show cn X.prog X.w H s.heap F (.tup (cs.map V.ref))from I.bV F _ L);let ei:its=cs.map Value.ref:=by
  let go:∀(cs:W7)(its:W0),Vals (cs.map V.ref) its->its=cs.map Value.ref:=by
   intro cs
   induction cs with
   |nil=>intro its r;cases r;rfl
   |cons c cs ih =>
    intro its r;cases r with
    |cons S J=>rw[ih _ J,show _=Value.ref c from S];rfl
  show go cs its R
 subst ei;replace g2:c0=.type "tuple" := g2;replace G:dt=.seq (cs.map Value.ref).toArray n:=G;subst g2 G;show PySem.W.kia_tup (PySem.W.uZ xc) I.jX p g1 U (λz=>nomatch z) λtk=>#[.bl b,H,I.tok _,rfl,q]
end
abbrev g2(K:HC):TG:=JM K 2 (wx (lI 0) (wx (lI 1) Ka))
theorem Eh{K:HC}{a:Addr}{xs:XD}{g:TG}{tb:TS}{D:Ends}{σ:St}{H:Hp}(Pv:Nat->St->Hp->Prop)(U:Pv 0 σ H)(O:∀i σ H,i<=xs.length->Pv i σ H->bD K H a xs)
  (hs:∀i x σ H T,xs[i]?=some x->H T=none->Pv i σ H->g (.ref T) σ (upd H T (.tup [.int i,x])) λJ H2=>tb { D with nx:=Pv (i+1),ct:=Pv (i+1),bk:=D.nx } J H2) (hd:∀σ H,Pv xs.length σ H->D.nx σ H) :
  ∃W:Nat->Nat->St->Hp->Prop,(∃m,W 0 m σ H)/\∀i m σ H,W i m σ H ->
   ((Ko K a).stop i H/\D.nx σ H)\/((Ko K a).go i H/\∃N:St->Hp->Prop,(∀G H',N G H'->∃L,L<m/\W (i+1) L G H')/\∀x H',(Ko K a).Ex i H x H'->g x σ H' λJ H2=>tb { D with nx:=N,ct:=N,bk:=D.nx } J H2):=by
 show#[λi m σ H=>m=xs.length-i/\i<=xs.length/\Pv i σ H,#[xs.length,by simp,OC _,U],?_];rintro i m σ H ⟨rfl,hi,p⟩;let I:=O i σ H hi p;cases F:i<xs.length
 .show .inr #[#[xs,xs[i],I,by simp[F]],Pv (i+1),λG H' Y=>#[xs.length-(i+1),Pd (PR xs) i F,rfl,F,Y],?_];rintro v H' ⟨T,x,rfl,S,rfl,R⟩;show hs i x σ H T (R xs I) S p
 .let e:i=xs.length:=ag;subst e;show .inl #[#[xs,I,rr _],hd σ H p]
section
variable{X:Cx}
theorem uN(hc:X.calm=true):dS X (.builtin "sorted") (λxs H Q=>∃(a:Addr)(kvs:XE)(ns:W5),xs=[.ref a]/\H a=some (.dK kvs)/\kvs.map (·.1)=ns.map t6/\ns.Nodup/\ns.length<=1000 /\
  ∀(l:Addr)(ns':W5),H l=none->ns'.Perm ns->ns'.Pairwise (· <= ·)->Q (.ref l) (upd H l (.lst (ns'.map V.int)))):=by
 intros xs us Q I r h;let#[a,kvs,ns,rfl,ha,Y,ac,hn,q]:=h;let#[u,rfl,ru]:=vals1 r;cases ru;let#[_,hd,vs,ad,dd]:=iu I.bV ha;let#[ep,ab]:=dd.dictAt;let L:vs.map (·.1)=ns.map t6:=(by rw[<-ad.keys];show Y);let U:ns.length=vs.length:=by
  have:=congrArg PR L;simpa using this.symm
 let hs:=ti;show Srt.yT (kdl_dict (knd:=bR X.prog X.w) (kvs:=vs) (ep:=ep) (d:=a) hd) (I.ok.hd hc) ab (ns:=ns) (λi w' hw=>?_) U ac ag λh1 h' tk out ns' e k1 k2 he R J a3=>?_
 .let#[k,x,S,O]:=hw;let F:(vs.map (·.1))[i]?=some k:=(by rw[t4,S];rfl);rw[L,t4]at F;cases N:ns[i]? with
  |none=>rwa[N]at F
  |some m =>
   rw[N]at F;obtain rfl:t6 m=k:=sS F;let#[t,rfl]:=qF O;show#[m,t,1]
 .let G: ~~~H { s with heap:=h1,toks:=tk }:=I.kept k1;show#[.ref h1.objs.size,_,G.laid (t':=tk) k2 (rr _) (show cn X.prog X.w _ _ _ (.lst (ns'.map V.int))from#[by rw[k9,J.length_eq];omega,out.toList,e,jO R,by simpa using he]),rfl,q _ ns' (G.bV.fresh (rr _)) J a3]
inductive zI(H₀:Hp)(t:TE)(Q:VK)(v:V)(H':Hp):Prop
 |mk(a:_)(o:_)(kvs:_)(_:H' a=some (.frz o (.dK kvs)))(_:(∀o u',H₀ a≠some (.frz o u')))(_:Q v (upd H' a (.dK kvs)))
def Il(H₀:Hp)(t:TE):TE:=λσ H Q=>t σ H λv H'=>zI H₀ t Q v H'
theorem zN{e:Ou}{t:TE}(h:PE X e t):PE X e (Il X.H₀ t):=by
 intros Q I q;show cp (h pins s σ H _ I q) λu O J=>?_;let#[v,H',F,r,a,o,kvs,N,L,G]:=J;show#[v,_,F.HQ N L,r,G]
end
theorem pC:entryFor table "dict_itemiterator.__iter__" = some Builtin.«dict_keyiterator.__iter__» :=
 entryFor_alias (id' := "dict_keyiterator.__iter__") (by kernel_rfl) (by first|rfl|decide +kernel|(unfold String.splitOn;simp +decide [String.splitOnAux])) aq (by kernel_rfl)
theorem iV{prog:rn}{w:By}{A:Oj}{E:WV}{s:k8}{it d:Addr}{i n ep:Nat}{ok ov:Value}{Q:WV}(I:IsItemIter s.heap it d i n ep ok ov)(h:Q (.ref it) s):wpAny (model prog w) A (pyIter (.ref it)) Q E s:=by
 let G:s.TypeIs (.ref it) "dict_itemiterator" := #[_,I,rfl];show wpAny_pyIter_slot G Q6 (QX Q6 G pC ?_ (PySem.F.args_dict_itemiterator_iter_1 _));change wpAny _ _ (ret (.ref it)) _ _ s;show wpAny_pure #[0,"dict_itemiterator",_,G,PySem.F.slot_dict_itemiterator_next.lookup,h]
def JP(a:Addr)(o:Obj)(kvs:XE):It :=
 #[λi H=>H a=some (.frz o (.dK kvs))/\i<kvs.length,λi H x H'=>∃T k v,x=.ref T/\H T=none/\kvs[i]?=some (k,v)/\H'=upd H T (.tup [kV k,v]),λi H=>H a=some (.frz o (.dK kvs))/\kvs.length<=i]
theorem Ei:∀{kvs:XE}{vs:List (Key×Value)},Paired (λ(p:Key×V)(q:Key×Value)=>p.1=q.1/\RelV p.2 q.2) kvs vs->∀{i:Nat},i<kvs.length->∃k v x,kvs[i]?=some (k,v)/\vs[i]?=some (k,x)/\RelV v x
 |_,_,.nil,_,h=>by simp at h
 |p::_,I::_,.cons q _,0,_=>#[p.1,p.2,I.2,rfl,by rw[q.1];rfl,q.2]
 |_::_,_::_,.cons _ t,i+1,h=>by
  let#[k,v,x,G,F,J]:=Ei t (i:=i) ‹h›;show#[k,v,x,by simpa using G,by simpa using F,J]
theorem Gs{kvs:XE}{vs:List (Key×Value)}(r:KV kvs vs){i:Nat}(hi:i<kvs.length):∃k v x,kvs[i]?=some (k,v)/\vs[i]?=some (k,x)/\RelV v x:=Ei r hi
theorem wU{P:rn}{w:By}{K:HC}{es:XB}{kx:Nat}{px:QM}(a it:Addr)(aB:a≠it)(o:Obj)(kvs:XE):Turn P w K (.Tuple es kx px) (JP a o kvs) [it] it (λi h=>∃ok ov,IsItemIter h it a i kvs.length (Bx o) ok ov) where
 mem:=by simp
 obj:=λi h st b F=>by
  let e:b=it:=‹F›;subst e;let#[ok,ov,st]:=st;show#[_,st,λv q=>by cases(show RK _=Ru v from q)]
 keep:=λi h h' st k=>let ⟨ok,ov,st⟩:=st;#[ok,ov,k it (by simp) _ st]
 item:=by
  intro X hP hw hK hc i pins s σ H E I G st hg;subst hP hw hK;let#[ac,ad]:=hg;let#[R,O,f2,N,U,S]:=G it (by simp);let#[hd,vs,r,Y]:=lZ I.bV ac;let ab:=r.length;let#[k,v,x,e1,e2,e3]:=Gs r ad;let#[ok,ov,st]:=st;rw[ab]at st ⊢;show wpAny_pyNext_items_item st Y e2 λap h' as ho hT hsz hk=>?_;let I1: ~~~H { s with heap:=h',toks:=s.toks }:=I.turned (λb o F e=>hk b o F e) R O N U S;show#[0,wpAny_letOwnedTupleGo_items ho λJ e4 L=>?_];replace L:Heap.SameBut it h' J:=L;let I2: ~~~H { s with heap:=J,toks:=s.toks }:=I1.turned (s:={ s with heap:=h',toks:=s.toks }) (h':=J) (t':=s.toks) (λb o F e=>(L.2 b F).trans e) R O N U S;let fT:gA X pins H s⁻¹:=I.kP (rr _) (I.bV.fresh (rr _));let ne:s⁻¹≠it:=UT (Heap.lt_size st);let am:=L.extBut _ _ ne hT;let I3: ~~~(upd H s⁻¹ (.tup [kV k,v])) { s with heap:=J,toks:=s.toks }:=I2.yh (its:=[ap,x]) fT #[_,am,rfl,0] (.cons (qF as) (.cons e3 .nil)) xJ;show#[.ref s⁻¹,_,I3,rfl,#[_,k,v,rfl,fT.1,e1,rfl],#[2,e4],λb F=>?_];let nb:b≠s⁻¹:=λq=>ne (by rw[<-q];simpa using F);rw[aj nb];show(G b F).1
 done:=by
  intro X hP hw hK hc i pins s σ H E I G st hg;subst hP hw hK;let#[ac,ad]:=hg;let#[R,O,f2,N,U,S]:=G it (by simp);let#[hd,vs,r,Y]:=lZ I.bV ac;let ab:=r.length;let#[ok,ov,st]:=st;rw[ab]at st;show wpAny_pyNext_items_end (I.ok.hd hc) st Y (by simp;omega) λh' eb=>#[rfl,I.turned (t':=s.toks) (λb o F e=>eb b o F e) R O N U S]
 self:=λ_ _ _ _ _ st h=>by
  let#[ok,ov,st]:=st;show iV st h
section
variable{X:Cx}
def HE(H₀:Hp)(td:TE):TI:=λσ H R=>td σ H λx H1=>Bv λa kvs=>Hf (x=.ref a) (H1 a=some (.dK kvs)) ((∀o F,H₀ a≠some (.frz o F))) (∀o,R (JP a o kvs) (upd H1 a (.frz o (.dK kvs))))
theorem Em{es:XB}{kx:Nat}{px:QM}{o:Ou}{apos cpos:QM}{td:TE}(ho:PE X o td)(am:QI o "items" X.env (eval o X.env)=eval o X.env:=by rfl)(ab:(apos.endLine==cpos.line)=true:=by rfl):PI X (.Tuple es kx px) (.Call (.Attribute o "items" apos) [] [] cpos) (HE X.H₀ td):=by
 intros R I h;show Tf am ab (cp (ho pins s σ H _ I h) λu G ad=>?_);let#[x,H1,N,rx,a,kvs,ex,L,hn,q]:=ad;subst ex;obtain rfl:u=Value.ref a:=rx;let#[t1,t2,hd]:=lW N (.inl #[kvs,.inl L]);let#[_,_,vs,aB,dd]:=iu N.bV L;show#["dict","dict.items",QH,Tg,PySem.F.type_dict_items,t1,t2,Calls.callWith_builtin rfl (Uq ?_)];show QA Tg dd.typeIs PySem.F.entry_dict_items (PySem.F.args_dict_items_1 _) (meets_dict_items (bR X.prog X.w) a hd) #[#[vs,dd],?_];let nw:=Heap.get?_push_size G.heap (o:={ cls:=.type "dict_items",data:=.fields ([.ref a].toArray) }) rfl;let U: ~~~H1 { G with heap:=G.heap.push { cls:=.type "dict_items",data:=.fields ([.ref a].toArray) },toks:=G.toks }:=N.kept λb o e=>Heap.get?_push_of_some _ e;let#[_,as,Y,ap,Br]:=iu U.bV L;let#[J,ac,ep,O,g2,g3,g4]:=id Br;let S:=U.freeze L O hn;let lt:a<(G.heap.push { cls:=.type "dict_items",data:=.fields ([.ref a].toArray) }).objs.size:=Heap.lt_size O;let da:(G.heap.push { cls:=.type "dict_items",data:=.fields ([.ref a].toArray) }).DictAt (bR X.prog X.w) a Y (Bx J):=#[J,ac,O,g2,by unfold Bx;rw[g3],g4];show wpAny_pyIter_items #[_,nw,1] da ?_;show#[(G.heap.push { cls:=.type "dict_items",data:=.fields ([.ref a].toArray) }).objs.size,[(G.heap.push { cls:=.type "dict_items",data:=.fields ([.ref a].toArray) }).objs.size],_,JP a J kvs,0,S.kept (t':=G.toks) λb o e=>Heap.get?_push_of_some _ e,wU a _ (OI lt) J kvs,#[.none,.none,?_],λb hb=>?_,q J]
 .rw[ap.length];show Heap.get?_push_size _ rfl
 .let e:b=(G.heap.push { cls:=.type "dict_items",data:=.fields ([.ref a].toArray) }).objs.size:=‹hb›;subst e;show S.kP (rr _) (S.bV.fresh (rr _))
end
def LO(a:Addr)(o:Obj)(kvs:XE):It :=
 #[λi H=>H a=some (.frz o (.dK kvs))/\i<kvs.length,λi H x H'=>H'=H/\∃k,kvs[i]?=some (k,x),λi H=>H a=some (.frz o (.dK kvs))/\kvs.length<=i]
theorem z7{P:rn}{w:By}{K:HC}{tg:Ou}(a it:Addr)(ap:a≠it)(o:Obj)(kvs:XE):Turn P w K tg (LO a o kvs) [it] it (λi h=>h.IsValIter it a i kvs.length (Bx o)) where
 mem:=by simp
 obj:=λi h st b F=>by
  let e:b=it:=‹F›;subst e;let#[L,h1,_,G]:=st;show#[L,h1,λv z=>by rwa[G]at z]
 keep:=λi h h' ⟨L,h1,h2,G⟩ k=>#[L,k it (by simp) _ h1,h2,G]
 item:=by
  intro X R hw N hc i pins s σ H E I J st Y;subst R hw N;let#[ab,ac]:=Y;let#[U,f1,f2,f3,f4,f5]:=J it (by simp);let#[hd,vs,r,O]:=lZ I.bV ab;let S:=r.length;let#[k,v,x,e1,e2,e3]:=Gs r ac;rw[S]at st ⊢;show wpAny_pyNext_values_item st O e2 λh' ad am=>?_;let I1: ~~~H { s with heap:=h',toks:=s.toks }:=I.turned (λb o F e=>(am.2 b F).trans e) U f1 f3 f4 f5;let#[L,h1,h2,G]:=id ad;show#[0,sv (s:={ s with heap:=h' }) (n := "dict_valueiterator") h1 h2 G ao #[v,H,I1,e3,#[rfl,k,e1],ad,λb F=>(J b F).1]]
 done:=by
  intro X R hw N hc i pins s σ H E I J st Y;subst R hw N;let#[ab,ac]:=Y;let#[U,f1,f2,f3,f4,f5]:=J it (by simp);let#[hd,vs,r,O]:=lZ I.bV ab;let S:=r.length;rw[S]at st;show wpAny_pyNext_values_end (I.ok.hd hc) st O (by simp;omega) λh' eb=>#[rfl,I.turned (t':=s.toks) (λb o F e=>eb b o F e) U f1 f3 f4 f5]
 self:=λ_ _ _ _ _ st h=>wpAny_pyIter_valiter st h
section
variable{X:Cx}{tg:Ou}
def K5(H₀:Hp)(td:TE):TI:=λσ H R=>td σ H λx H1=>Bv λa kvs=>Hf (x=.ref a) (H1 a=some (.dK kvs)) ((∀o F,H₀ a≠some (.frz o F))) (∀o,R (LO a o kvs) (upd H1 a (.frz o (.dK kvs))))
theorem FP{o:Ou}{apos cpos:QM}{td:TE}(ho:PE X o td)(am:QI o "values" X.env (eval o X.env)=eval o X.env:=by rfl)(ab:(apos.endLine==cpos.line)=true:=by rfl):PI X tg (.Call (.Attribute o "values" apos) [] [] cpos) (K5 X.H₀ td):=by
 intros R I h;show Tf am ab (cp (ho pins s σ H _ I h) λu G ad=>?_);let#[x,H1,N,rx,a,kvs,ex,L,hn,q]:=ad;subst ex;obtain rfl:u=Value.ref a:=rx;let#[t1,t2,hd]:=lW N (.inl #[kvs,.inl L]);let#[_,_,vs,aB,dd]:=iu N.bV L;show#["dict","dict.values",QH,SU,PySem.F.type_dict_values,t1,t2,Calls.callWith_builtin rfl (Uq ?_)];show QA SU dd.typeIs PySem.F.entry_dict_values (PySem.F.args_dict_values_1 _) (meets_dict_values (bR X.prog X.w) a hd) #[#[vs,dd],?_];let nw:=Heap.get?_push_size G.heap (o:={ cls:=.type "dict_values",data:=.fields ([.ref a].toArray) }) rfl;let U: ~~~H1 { G with heap:=G.heap.push { cls:=.type "dict_values",data:=.fields ([.ref a].toArray) },toks:=G.toks }:=N.kept λb o e=>Heap.get?_push_of_some _ e;let#[_,as,Y,ap,Br]:=iu U.bV L;let#[J,ac,ep,O,g2,g3,g4]:=id Br;let S:=U.freeze L O hn;let lt:a<(G.heap.push { cls:=.type "dict_values",data:=.fields ([.ref a].toArray) }).objs.size:=Heap.lt_size O;let da:(G.heap.push { cls:=.type "dict_values",data:=.fields ([.ref a].toArray) }).DictAt (bR X.prog X.w) a Y (Bx J):=#[J,ac,O,g2,by unfold Bx;rw[g3],g4];show wpAny_pyIter_values #[_,nw,1] da ?_;show#[(G.heap.push { cls:=.type "dict_values",data:=.fields ([.ref a].toArray) }).objs.size,[(G.heap.push { cls:=.type "dict_values",data:=.fields ([.ref a].toArray) }).objs.size],_,LO a J kvs,0,S.kept (t':=G.toks) λb o e=>Heap.get?_push_of_some _ e,z7 a _ (OI lt) J kvs,?_,λb hb=>?_,q J]
 .rw[ap.length];show#[_,Heap.get?_push_size _ rfl,1]
 .let e:b=(G.heap.push { cls:=.type "dict_values",data:=.fields ([.ref a].toArray) }).objs.size:=‹hb›;subst e;show S.kP (rr _) (S.bV.fresh (rr _))
theorem XP.passes{pins:WU}{R:XR}(ab:X.stack=X.env::X.outer)(F:X.env.frame=some X.env.locals):Vc (model X.prog X.w) X.A X.env (XP X pins R):=by
 intro x J hx;let#[e,cls,a0,B,ac,H1,rfl,G,c2,S,new,q]:=hx;let iX:B.StaysIn J.heap:=by
  rcases G with z|z|⟨_,_,z⟩
  .show z.1
  .show z.1
  .show z.1
 let I1:=S.now iX;let I:=I1.ok.frames;rw[ab]at G I;show pz I F G c2 λU held ad c4=>?_;let#[g1,g2,g3,oe,vs,T,oT,ts,k1,#[k2,k3],O,k5,k6,k7,Y,N,L]:=id held;change wpAny _ _ _ _ _ _;rw[F];show nq (RM k1 O k5 ?_);rw[WO (by simp)];unfold setFlight;show nq (RM k1 O k5 ?_);rw[WQ (by simp)];show wpAny_setField Y N (QS.mp L).1 ?_;let eu:=Heap.update_setField_same U T oT ts 3 (rawInt X.env.locals) Y N L;change XP X pins R (.ref e) { J with heap:=U.update T (Obj.mapFields λx=>x.setIfInBounds 3 (rawInt X.env.locals)) };rw[eu];show#[e,cls,a0,B,ac,H1,rfl,.inr (.inr #[X.env.locals,F,by rw[ab];show held]),c4,λh' tk k u=>S h' tk k (ad.trans u),new,q]
theorem XP.fL{pins pl:WU}{R:XR}{x:Value}{s':k8}(h:XP X (pins++pl) R x s'):XP X pins R x s':=by
 let#[e,cls,G,B,L,H1,rfl,N,F,J,new,q]:=h;show#[e,cls,G,B,L,H1,rfl,N,F,λh' tk k u=>(J h' tk k u).fL,#[new.old,new.loc,new.fs,new.cell,λp I=>new.pin p ?_,new.free],q];rcases qj.mp I with m|m
 .show O8 _ m
 .show L8 _ (O8 _ m)
def Lj(wi:TI)(g:TG)(tb:qO):qO:=λD R σ H=>KA wi g (λG F H'=>tb G R F H') D σ H
theorem zm{iter:Ou}{body:List Oz}{wi:TI}{g:TG}{tb:qO}{pos:QM}(a4:X.stack=X.env::X.outer)(hf:X.env.frame=some X.env.locals)(hc:X.calm=true)(hi:PI X.nE tg iter wi)(hg:PG X.nE tg g)(F:pH X body tb)
  (hs:∀x,Qb iter X.env x=pure x:=by intro _;rfl):Cn X (.For tg iter body [] pos) (Lj wi g tb):=by
 intros D R I h;let U:Vc (model X.prog X.w) X.A X.env (XP X pins R):=XP.passes a4 hf;show Wl (nx (hi pins s σ H _ (I.ix _) h) λv s1 h1=>nx h1 λa5 s2 h2=>?_) hs;let#[it,fp,tn,J,H2,e,aT,T,a3,as,W,#[m0,w0],a2]:=h2;let I2:=aT.cE;let f2:∀b∈fp,gA X pins H2 b:=λb F=>as b F;subst e;let ac:∀{H':Hp},(∀b∈fp,H' b=none)->∀b∈fp,gA X pins H' b:=λhn b F=>#[hn b F,(f2 b F).2];show Ul (λn s'=>∃i Y H',Inv X pins Y H' s'/\tn i s'.heap/\(∀b∈fp,H' b=none)/\W i n Y H') ?_ m0 #[(0),σ,H2,I2,a3,λb F=>(f2 b F).1,w0];rintro n s3 ⟨i,ab,H3,I3,ap,am,w3⟩;rcases a2 i n ab H3 w3 with⟨aB,qn⟩|⟨go,N,hN,step⟩
 .show Pa U (cp (T.done X rfl rfl rfl hc i pins s3 ab H3 _ I3 (ac am) ap aB) λr s4 ⟨hr,I4⟩=>?_);subst hr;show P0 #[ab,H3,I4,qn]
 .show Pa U (cp (T.item X rfl rfl rfl hc i pins s3 ab H3 _ I3 (ac am) ap go) λr s4 ⟨u,hr,h4⟩=>?_);subst hr;show Pa U (cp h4 λ_ s5 ⟨x,H5,I5,r5,y5,ad,aD⟩=>?_);let a1:=I5.pinned (ac aD) (T.obj _ _ ad);show Pa U (nx (hg _ s5 ab H5 x u _ (a1.ix _) r5 (step x H5 y5)) λ_ s6 ⟨a0,H6,I6,q6⟩=>?_);show Pa U (OG (F _ s6 a0 H6 _ R I6.cE q6) (λf s7 S=>?_) λ_ _ z=>z.fL);let again:∀{L:St}{O:Hp},Inv X (pins++lT fp s5.heap) L O s7->N L O->∃m,m<n/\∃i Y H',Inv X pins Y H' s7/\tn i s7.heap/\(∀b∈fp,H' b=none)/\W i m Y H':=λ{L O} G n7=>by
   let#[m',hm,w7]:=hN L O n7;show#[m',hm,i+1,L,O,G.fL,T.keep _ _ _ ad λb F o e=>(G.pin (b,o) (L8 _ (L8 _ (fY F e)))).1,λb F=>?_,w7];let#[o,e,d]:=T.obj _ _ ad b F;show(G.pin (b,o) (L8 _ (L8 _ (fY F e)))).2.1
  cases f with
  |next=>let#[L,O,G,n7]:=S;show again G n7
  |cont=>let#[L,O,G,n7]:=S;show again G n7
  |brk=>let#[L,O,G,S]:=S;show#[L,O,G.fL,S]
  |ret v=>let#[x7,L,O,G,r7,S]:=S;show#[x7,L,O,G.fL,r7,S]
variable{C:Addr}{x:Str}{np hpos pos:QM}{body suite:List Oz}{b₀:Oz}{tb:qO}{ts:TS}
end
end L2
namespace Srt
open PySem PyProof.Rows
section
variable{prog:rn}{w:By}{A:Oj}{E:WV}{s:k8}{a₀:W9}
variable{T:String}{r d:Addr}{n:Nat}{P:Nat->Value->Prop}{OK:Heap->Prop}
end
end Srt
variable{P:rn}{w:By}{K:HC}{mg:WW}{base:Heap}{f:Addr}{fd:pa}
namespace L2
open PySem PySem.Spec PyProof.Rows
section
variable{X:Cx}
end
theorem rQ{K:HC}{a:Addr}{xs:XD}{g:TG}{tb:qO}{R:XR}{D:Ends}{σ:St}{H:Hp}(Pv:Nat->St->Hp->Prop)(L:Pv 0 σ H)(J:∀i σ H,i<=xs.length->Pv i σ H->bD K H a xs)
  (hs:∀i x σ H,xs[i]?=some x->Pv i σ H->g x σ H λF H2=>tb { D with nx:=Pv (i+1),ct:=Pv (i+1),bk:=D.nx } R F H2) (hd:∀σ H,Pv xs.length σ H->D.nx σ H) :
  ∃W:Nat->Nat->St->Hp->Prop,(∃m,W 0 m σ H)/\∀i m σ H,W i m σ H ->
   ((EI K a).stop i H/\D.nx σ H)\/((EI K a).go i H/\∃N:St->Hp->Prop,(∀G H',N G H'->∃I,I<m/\W (i+1) I G H')/\∀x H',(EI K a).Ex i H x H'->g x σ H' λF H2=>tb { D with nx:=N,ct:=N,bk:=D.nx } R F H2):=
 er (tb:=λD σ H=>tb D R σ H) Pv L J hs hd
end L2
namespace Sp
open PySem PySem.StrLaws PySem.Builtin PySem.Builtin.Str
end Sp
namespace L2
open PySem PySem.Spec PyProof.Rows PySem.Builtin PySem.Builtin.Str
section
variable{X:Cx}
inductive rJoin(K:HC)(x:V)(vs:XD)(H:Hp)(Q:VK):Prop
 |mk(a:_)(p:_)(ss:_)(_:x=.str a)(_:vs=[.ref p])(_:bD K H p (ss.map V.str))(_:JoinOk a ss=true)(_:Q (.str (Txt.join a ss)) H)
theorem zF:∀{F:W6}{vs:W0},Vals (F.map V.str) vs->∃l:List (Str×Wx),strValues l=vs/\l.map (·.1)=F
 | [],_,h=>by
  cases h;show#[[],1]
 |x::F,_,h=>by
  cases h with
  |cons q t =>
   let#[k,rfl]:=q;let#[l,I,G]:=zF t;show#[(x,k)::l,by rw[<-I];rfl,by rw[<-G];rfl]
theorem Fw:NS X "str.join" (rJoin X.K):=by
 intros x vs v us Q I G N h;let#[a,p,R,rfl,rfl,J,O,q]:=h;let#[t,rfl]:=G;let#[u,rfl,ru]:=N.one;cases ru;let#[its,r,pl,S]:=I.list J;let#[l,L,F]:=zF r;show SC.join (l:=l) (by rw[L];show pl.isList) F O λt' k=>#[.str (Txt.join a R),H,I.tok _,#[0],q]
theorem pY(N:X.calm=true):dS X (.builtin "sum") (λxs H Q=>∃(p:Addr)(ns:W5),xs=[.ref p]/\bD X.K H p (ns.map V.int)/\Q (.int ns.sum) H):=by
 intros xs us Q I r h;let#[p,ns,rfl,O,q]:=h;let#[u,rfl,ru]:=vals1 r;cases ru;let#[its,R,pl,S]:=I.list O;let G:=intsAre_of R;let L:=G.numsOf;let#[ys,e]:=G.allInts.items;let F:=pl.isList;rw[e]at F;show sum_intListG (I.ok.hd N) F λh' tk t' J=>?_;let hs:preSum (numAt ys) ys.size=ns.sum:=by
  rw[preSum_eq,OV (by simp), <-nums_intItems, <-e];rw[show its.toArray.toList=its from rfl,L]
 show#[.int ns.sum,H,I.kept J,#[_,by rw[hs]],q]
theorem Bl:dS X (.type "range") (λxs H Q=>∃i j:Int,xs=[.int i,.int j]/\∀p,H p=none->Q (.ref p) (upd H p (.rng i j))):=by
 intros xs us Q I r h;let#[i,j,rfl,q]:=h;let#[u,F,rfl,#[t,rfl],#[t',rfl]]:=vals2 r;show call_range_2 #[.ref s⁻¹,_,I.laid (λb o e=>Heap.get?_push_of_some _ e) (rr _) ?_,rfl,q _ (I.bV.fresh (rr _))];show#[2,_,Heap.get?_push_size s.heap rfl]
def zD(K:HC):List V->Hp->VK->Prop:=λxs H Q=>∃p ys,xs=[.ref p]/\(bD K H p ys\/cu K H p ys)/\Q (.int (ys.length:Nat)) H
theorem Bo:dS X (.builtin "len") (zD X.K):=bu
variable{t u r:TS}{D:Ends}{σ:St}{H:Hp}
abbrev Le(u F:TS):Prop:=∀D σ H,u D σ H->F D σ H
theorem Le.rfl:Le u u:=λ_ _ _ h=>h
theorem Oi{c:TT}(k:∀t' F,Le t t'->Le u F->rA c t' F D σ H):rA c t u D σ H:=k t u Le.rfl Le.rfl
theorem dv{te:TE}{i:Nat}(k:∀Q:V->Hp->Prop,(∀x H1,u D (σ.set i (some x)) H1->Q x H1)->te σ H Q):cB (De te (lI i)) u D σ H:=k _ λ_ _ h=>h
theorem Mt{te:TE}(k:∀Q:V->Hp->Prop,(∀x H1,D.rt x H1->Q x H1)->te σ H Q):CQ te D σ H:=k _ λ_ _ h=>h
theorem bQ{A B:Hp->Prop}{Q:Bool->Hp->Prop}(e:Q=λb H1=>if b=true then A H1 else B H1):(∀H1,A H1->Q true H1)/\∀H1,B H1->Q false H1:=by
 subst e;show#[λ_ h=>dR h,λ_ h=>cq h]
theorem gc{c:TT}(k:∀Q:Bool->Hp->Prop,(∀H1,t { D with nx:=r D } σ H1->Q true H1)->(∀H1,r D σ H1->Q false H1)->c σ H Q):cB (rA c t pI) r D σ H:=k _ (bQ rfl).1 (bQ (A:=λH1=>t { D with nx:=r D } σ H1) rfl).2
theorem B5{c:TT}(k:∀Q:Bool->Hp->Prop,(∀H1,t D σ H1->Q true H1)->(∀H1,D.nx σ H1->Q false H1)->c σ H Q):rA c t pI D σ H:=k _ (bQ rfl).1 (bQ (A:=λH1=>t D σ H1) rfl).2
theorem Bj{Q:Bool->Hp->Prop}{b:Bool}{H:Hp}(t:b=true->Q true H)(f:¬ b=true->Q false H):Q b H:=by
 cases b
 .show f (by intro z;cases z)
 .show t rfl
theorem cR{t r:qO}{R:XR}{c:TT}(k:∀Q:Bool->Hp->Prop,(∀H1,t { D with nx:=r D R } R σ H1->Q true H1)->(∀H1,r D R σ H1->Q false H1)->c σ H Q):zh (FU c t Cc) r D R σ H:=k _ (bQ rfl).1 (bQ (A:=λH1=>t { D with nx:=r D R } R σ H1) rfl).2
theorem Jn{c:TT}(Pr:St->Hp->Prop)(mk:(∀σ H,Pr σ H->r D σ H)->∀Q:Bool->Hp->Prop,(∀H1,t { D with nx:=r D } σ H1->Q true H1)->(∀H1,Pr σ H1->Q false H1)->c σ H Q)(h:∀σ H,Pr σ H->r D σ H):cB (rA c t pI) r D σ H:=mk h _ (bQ rfl).1 λH1 p=>(bQ (A:=λH1=>t { D with nx:=r D } σ H1) rfl).2 H1 (h _ _ p)
def Ev(te:TE)(σ:St)(H:Hp)(v:V):Prop:=∀Q:V->Hp->Prop,Q v H->te σ H Q
theorem cV{i:Nat}{v:V}(h:σ[i]?=some (some v)):Ev (vX i) σ H v:=λ_ q=>#[_,h,q]
theorem cW{v:V}:Ev (tC v) σ H v:=λ_ q=>q
theorem iY{ta tb:TE}{x y:V}{Q:Bool->Hp->Prop}(a:Ev ta σ H x)(b:Ev tb σ H y)(s:vS x y=true)(n:¬ x=y)(q:Q false H):pW (EL Ic ta tb) σ H Q:=a _ (b _ #[s,0,by rw[decide_eq_false n];show q])
theorem eqT{ta tb:TE}{x:V}{Q:Bool->Hp->Prop}(a:Ev ta σ H x)(b:Ev tb σ H x)(s:vS x x=true)(q:Q true H):pW (EL Ic ta tb) σ H Q:=a _ (b _ #[s,0,by rw[decide_eq_true rfl];show q])
theorem share(Pr:St->Hp->Prop)(mk:∀F,(∀σ H,Pr σ H->F D σ H)->cB t F D σ H)(h:∀σ H,Pr σ H->u D σ H):cB t u D σ H:=mk u h
theorem pj(U:X.calm=true):dS X (.type "list") (λxs H Q=>∃(p:Addr)(i:Int)(n:Nat),xs=[.ref p]/\H p=some (.rng i (i+n))/\n<=1000 /\ -1000<=i/\i<=1000/\∀l,H l=none->Q (.ref l) (upd H l (.lst ((Ox n).map λk:Nat=>V.int (i+k))))):=by
 intros xs us Q I r h;let#[p,i,n,rfl,Y,hn,i0,i1,q]:=h;let#[u,rfl,ru]:=vals1 r;cases ru;let hs:=ti;let#[t,u,v,e]:=(show cn X.prog X.w H s.heap p (.rng i (i+n))from I.bV p _ Y);show call_list_range (n:=n) (I.ok.hd U) e (small_one ag ag ag ag) (by rw[rangeSize_one];split<;>omega) ag λh' tk G J N L it=>?_;let O:Vals ((Ox n).map λk:Nat=>V.int (i+k)) G.toList:=by
  let#[h1,h2]:=it;show nh ?_ λj x v F R=>?_
  .rw[k9,Qf];simpa using h1.symm
  .rw[t4]at F;let#[k,S,rfl]:=qw.mp F;let ab:k=j:=by
    have:=mu.mp S;let#[_,e]:=this;simpa using e.symm
   let#[t,e]:=h2 j v ‹R›;show#[t,by rw[e,ab];congr 1;omega]
 show#[.ref s⁻¹,_,I.laid N (rr _) (show cn X.prog X.w _ h' _ (.lst ((Ox n).map λk:Nat=>V.int (i+k)))from#[by rw[k9,Qf];omega,G.toList,J,O,by simpa using L]),rfl,q _ (I.bV.fresh (rr _))]
theorem oP(hc:X.calm=true):dS X (.type "list") (λxs H Q=>∃(d:Addr)(kvs:XE),xs=[.ref d]/\H d=some (.dK kvs)/\kvs.length<=1000/\∀l,H l=none->Q (.ref l) (upd H l (.lst (kvs.map λF=>kV F.1)))):=by
 intros xs us Q I r h;let#[d,kvs,rfl,R,hn,q]:=h;let#[u,rfl,ru]:=vals1 r;cases ru;let hs:=ti;let#[_,hd,vs,N,dd]:=iu I.bV R;let#[ep,ab]:=dd.dictAt;let ac:=N.length;show PySem.W.kdl_call (kdl_dict (knd:=bR X.prog X.w) (kvs:=vs) (ep:=ep) hd) (I.ok.hd hc) ab ag λh' tk G S k1 k2 k3=>?_;let#[sz,it]:=k3;let rv:Vals (kvs.map λF=>kV F.1) G.toList:=by
  show nh ?_ λj x v J hv=>?_
  .let al:G.toList.length=G.size:=Pk;rw[k9];omega
  .rw[t4]at J;let#[F,hk,rfl]:=qw.mp J;let Y:G[j]?=some v:=(by rw[<-Px];show hv);let#[k,y,U,O]:=it j v Y;let L:(vs.map (·.1))[j]?=some k:=(by rw[t4,U];rfl);rw[<-N.keys,t4,hk]at L;obtain rfl:F.1=k:=sS L;show qF O
 show#[.ref s⁻¹,_,I.laid k1 (rr _) (show cn X.prog X.w _ h' _ (.lst (kvs.map λF=>kV F.1))from#[by rw[k9];omega,G.toList,S,rv,by simpa using k2]),rfl,q _ (I.bV.fresh (rr _))]
end
theorem yP{a:Addr}{o:Obj}{kvs:XE}{caps:List (Str×Nat)}{te:TE}{σ:St}{H:Hp}{I:List V->Hp->Prop}(Pv:Nat->List V->Hp->Prop)(O:Pv 0 [] H)
  (L:∀i zs H,i<=kvs.length->Pv i zs H->H a=some (.frz o (.dK kvs)))
  (hs:∀i k v zs H,kvs[i]?=some (k,v)->Pv i zs H->te (lF caps σ (some (kV k))) H (λz N=>zs.length<sizeLine/\Pv (i+1) (zs++[z]) N))
  (hd:∀zs H,Pv kvs.length zs H->I zs H):∃W:Nat->Nat->List V->Hp->Prop,(∃m,W 0 m [] H)/\jv caps qY te σ (Ik a o kvs) I W:=by
 show#[λi m zs H=>m=kvs.length-i/\i<=kvs.length/\Pv i zs H,#[kvs.length,by simp,OC _,O],?_];rintro i m zs H ⟨rfl,hi,p⟩;let G:=L i zs H hi p;cases F:i<kvs.length
 .show .inr #[#[G,F],Pv (i+1),λS H' R=>#[kvs.length-(i+1),Pd (PR kvs) i F,rfl,F,R],?_];rintro x H' ⟨rfl,k,v,J,rfl⟩;unfold qY;dsimp only;rw[WQ rfl];show hs i k v zs _ J p
 .let e:i=kvs.length:=ag;subst e;show .inl #[#[G,rr _],hd zs H p]
theorem ud{caps:List (Str×Nat)}{te:TE}{σ:St}{H:Hp}{lo st:Int}{n:Nat}{G:List V->Hp->Prop}(Pv:Nat->List V->Hp->Prop)(J:Pv 0 [] H)
  (hs:∀i ys H,i<n->Pv i ys H->te (lF caps σ (some (.int (lo+i*st)))) H (λy I=>ys.length<sizeLine/\Pv (i+1) (ys++[y]) I))
  (hd:∀ys H,Pv n ys H->G ys H):∃W:Nat->Nat->List V->Hp->Prop,(∃m,W 0 m [] H)/\jv caps qY te σ (HM lo st n) G W:=by
 show#[λi m ys H=>m=n-i/\i<=n/\Pv i ys H,#[n,by simp,OC _,J],?_];rintro i m ys H ⟨rfl,hi,p⟩;cases F:i<n
 .show .inr #[F,Pv (i+1),λN H' L=>#[n-(i+1),Pd n i F,rfl,F,L],λx H' y=>?_];let#[e,y]:=y;subst e y;unfold qY;dsimp only;rw[WQ rfl];show hs i ys _ F p
 .let e:i=n:=ag;subst e;show .inl #[rr _,hd ys H p]
theorem zG{K:HC}{a b:Addr}{xs ys:XD}{g:TG}{tb:TS}{D:Ends}{σ:St}{H:Hp}(Pv:Nat->St->Hp->Prop)(h0:Pv 0 σ H)(he:xs.length=ys.length)
  (S:∀i σ H,i<=xs.length->Pv i σ H->bD K H a xs/\bD K H b ys)
  (hs:∀i x y σ H T,xs[i]?=some x->ys[i]?=some y->H T=none->Pv i σ H->g (.ref T) σ (upd H T (.tup [x,y])) λJ H2=>tb { D with nx:=Pv (i+1),ct:=Pv (i+1),bk:=D.nx } J H2)
  (hd:∀σ H,Pv xs.length σ H->D.nx σ H) :
  ∃W:Nat->Nat->St->Hp->Prop,(∃m,W 0 m σ H)/\∀i m σ H,W i m σ H ->
   ((JQ K a b).stop i H/\D.nx σ H)\/((JQ K a b).go i H/\∃N:St->Hp->Prop,(∀G H',N G H'->∃O,O<m/\W (i+1) O G H')/\∀x H',(JQ K a b).Ex i H x H'->g x σ H' λJ H2=>tb { D with nx:=N,ct:=N,bk:=D.nx } J H2):=by
 show#[λi m σ H=>m=xs.length-i/\i<=xs.length/\Pv i σ H,#[xs.length,by simp,OC _,h0],?_];rintro i m σ H ⟨rfl,hi,p⟩;let#[I,L]:=S i σ H hi p;cases F:i<xs.length
 .let ab:i<ys.length:=PN F he;show .inr #[#[xs,ys,xs[i],ys[i],I,L,by simp[F],by simp[ab]],Pv (i+1),λG H' p'=>#[xs.length-(i+1),Pd (PR xs) i F,rfl,F,p'],?_];rintro v H' ⟨T,x,y,rfl,Y,rfl,U,R⟩;show hs i x y σ H T (U _ I) (R _ L) Y p
 .let e:i=xs.length:=ag;subst e;show .inl #[#[xs,ys,I,L,.inl (rr _)],hd σ H p]
inductive Md(P:rn)(w:By)(K:HC)(mg:WW)(base:Heap)(cx:uq)(k:Nat)(C:Addr)(m:Str)(sp:Sp):Prop
 |mk(f:Addr)(fd:pa)(ps:W6)(_:aX P w K mg base cx k f fd ps sp)(_:Binds K fd ps [])(_:Meth K C m f)
inductive Df(P:rn)(w:By)(K:HC)(mg:WW)(base:Heap)(cx:uq)(k:Nat)(x:Str)(sp:Sp):Prop
 |mk(f:Addr)(fd:pa)(ps:W6)(_:aX P w K mg base cx k f fd ps sp)(_:Binds K fd ps [])(_:mg x=some (.ref f))(_:To K (.ref f)=true)
section
variable{X:Cx}{CX:uq}{k j:Nat}{C:Addr}{sp:Sp}{E:XK}{x m:Str}{p pos apos:QM}{e o:Ou}{es:XB}{ta:TE}{t:TA}
theorem pm{pl:RS Bool}(O:PE X o ta)(c:qQ X.K C)(F:Md X.prog X.w X.K X.mg X.base CX k C m sp)(L:dG j X.A)(I:Passes CX X E)(J:PA X (e::es) t)(G:k<=j:=by decide)
  (S:XF X e es:=by rfl) (R:(backTo pos (starEach es X.env)).any (·.1)=false:=by rfl)
  (N:eval (.Call (.Attribute o m apos) (e::es) [] pos) X.env=(do
   let ov <-eval o X.env
   RZ apos.atName
   let (f,first) <-QU [ov] (QV ov m pl)
   Sn pos f first (backTo pos (starEach (e::es) X.env)) (Q1 pos (P2 [] X.env))):=by rfl) :
  PE X (.Call (.Attribute o m apos) (e::es) [] pos) (zB C m sp [] E ta t):=by
 let#[f,fd,_,g,b,q]:=F;show FV O c q g (L.mono G) b .nil I J S R N
theorem mR{pl:RS Bool}(N:PE X o ta)(c:qQ X.K C)(F:Md X.prog X.w X.K X.mg X.base CX k C m sp)(J:dG j X.A)(I:Passes CX X E)(G:k<=j:=by decide)
  (L:eval (.Call (.Attribute o m apos) [] [] pos) X.env=(do
   let ov <-eval o X.env
   RZ apos.atName
   let (f,first) <-QU [ov] (QV ov m pl)
   Sn pos f first (backTo pos (starEach [] X.env)) (Q1 pos (P2 [] X.env))):=by rfl) :
  PE X (.Call (.Attribute o m apos) [] [] pos) (zB C m sp [] E ta Fo):=by
 let#[f,fd,_,g,b,q]:=F;show Ci N c q g (J.mono G) b .nil I L
theorem pc(F:Df X.prog X.w X.K X.mg X.base CX k x sp)(L:dG j X.A)(I:Passes CX X E)(J:PA X (e::es) t)(O:Gl X x:=by rfl)(G:k<=j:=by decide)
  (S:(x==("__debug__" : Str))=false:=by decide) (N:XF X e es:=by rfl) (R:(backTo pos (starEach es X.env)).any (·.1)=false:=by rfl) :
  PE X (.Call (.Name x p) (e::es) [] pos) (Hg sp [] E t):=by
 let#[f,fd,_,g,b,q,r]:=F;show E9 g (L.mono G) O q r b .nil I J S N R
end
end L2
namespace St
open PySem L2
def top(i:Nat):Oz:=PySem.Challenge.pw_ownroom_k11_rooms_refused.main.body.getD i (.Pass #[(0),(0),(0),(0)])
abbrev oJ:Oz:=inClass (top 31) 0
abbrev D8:Oz:=inClass (top 31) 1
abbrev CF:Oz:=inClass (top 31) 3
abbrev EB:Oz:=inClass (top 31) 2
abbrev Ey:Oz:=inClass (top 31) 7
abbrev xO:Oz:=inClass (top 31) 4
abbrev xj:Oz:=inClass (top 31) 5
abbrev IK:Oz:=inClass (top 31) 6
abbrev tM:Oz:=inClass (top 31) 8
theorem kc:¬ (("owners" : Str) = "contents"):=aq
def lL(ow co:Addr):List (Str×V):=bM "contents" (.ref co) (bM "owners" (.ref ow) [])
theorem gf(ow co:Addr):(lL ow co).lookup ("owners" : Str)=some (.ref ow):=by
 unfold lL;rw[aJ,WO kc,aJ,WQ rfl]
theorem sO(ow co:Addr):(lL ow co).lookup ("contents" : Str)=some (.ref co):=by
 unfold lL;rw[aJ,WQ rfl]
theorem aW(ow co:Addr){m:Str}(h1:¬ m = "contents")(h2:¬ m = "owners"):(lL ow co).lookup m=none:=by
 unfold lL;rw[aJ,WO h1,aJ,WO h2]
 all_goals rfl
def fB(H:Hp)(M:WR):V->Option (List Int)->Prop
 |.non,none=>True
 |.ref a,some ns=>¬ M a/\H a=some (.lst (ns.map V.int))
 |_,_=>False
structure bj(C:Addr)(H:Hp)(M:WR)(p ow co:Addr)(os:W5)(pg:List (Option (List Int))):Prop where
 ob:∃dx,H p=some (.ins C dx (lL ow co))
 hw:H ow=some (.lst (os.map V.int))
 hc:∃cs,H co=some (.lst cs)/\Paired (fB H M) cs pg
def Off(B:WR)(H H':Hp):Prop:=∀b o,H b=some o->¬ B b->H' b=some o
theorem fB.off{B M:WR}{H H':Hp}(h:Off B H H')(F:∀b,B b->M b):∀{v:V}{x:Option (List Int)},fB H M v x->fB H' M v x
 |.non,none,_=>trivial
 |.ref a,some ns,⟨h1,h2⟩=>#[h1,h a _ h2 λz=>h1 (F a z)]
theorem jQ{B M:WR}{H H':Hp}(h:Off B H H')(F:∀b,B b->M b){cs:XD}{pg:List (Option (List Int))}(q:Paired (fB H M) cs pg):Paired (fB H' M) cs pg :=
 Paired.DT q λ_ _ z=>z.off h F
theorem pA{α G:Type}{F:α->G->Prop}:∀{xs:List α}{ys:List G}{i:Nat}{y:G},Paired F xs ys->ys[i]?=some y->∃x,xs[i]?=some x/\F x y
 |_,_,_,_,.nil,e=>by simp at e
 |_,_,0,_,.cons r _,e=>by simp at e;subst e;show#[0,r]
 |_,_,i+1,y,.cons _ t,e=>by
  let#[u,h1,h2]:=pA (i:=i) (y:=y) t ‹e›;show#[u,by simpa using h1,h2]
theorem km{α G:Type}{F:α->G->Prop}{x:α}{y:G}(r:F x y):∀{xs:List α}{ys:List G}(i:Nat),Paired F xs ys->Paired F (xs.set i x) (ys.set i y)
 |_,_,_,.nil=>.nil
 |_,_,0,.cons _ t=>.cons r t
 |_,_,i+1,.cons q t=>.cons q (km r i t)
theorem ph{α G:Type}{F:α->G->Prop}{x:α}{y:G}(r:F x y):∀n:Nat,Paired F (replicate n x) (replicate n y)
 |0=>.nil
 |n+1=>.cons r (ph r n)
structure Txt(K:HC)(mg:WW)(C:Addr):Prop where
 cl:qQ K C
 nO:dQ K C "owners"
 nC:dQ K C "contents"
 len:mg "len" = none
 list:mg "list" = none
 pc:∃u,mg "PAGE_CELLS" = some u/\RelV (.int 8) u
inductive ja(C:Addr)(v:XD)(H:Hp)(Q:VK)(e:XK):Prop
 |mk(p dx:Addr)(n:Nat)(_:v=[.ref p,.int n])(_:n<=60)(_:H p=some (.ins C dx []))(_:∀(ow co:Addr)(H':Hp),H ow=none->H co=none->ow≠co->(∀M,bj C H' M p ow co (replicate n 0) (replicate n none))->Off (· = p) H H'->Q .non H')
def fA(os:W5)(n:Int):Int:=if n<0\/(os.length:Int)<=n then 0 else os.getD n.toNat 0
theorem oy{os:W5}{n:Int}(h:fA os n≠0):0<=n/\n.toNat<os.length/\n<os.length/\n=(n.toNat:Int):=by
 unfold fA at h;cases z:n<0\/(os.length:Int)<=n
 .rw[WQ z]at h;show absurd rfl h
 .omega
theorem ya{os:W5}{j:Nat}(h:j<os.length):fA os (j:Int)=os.getD j 0:=by
 unfold fA;rw[WO ag];simp
inductive iC(C:Addr)(v:XD)(H:Hp)(Q:VK)(e:XK):Prop
 |mk(p ow co:Addr)(M:WR)(os:W5)(pg:List (Option (List Int)))(n:Int)(_:v=[.ref p,.int n])(_:bj C H M p ow co os pg)(_:os.length<=60)(_:Q (.int (fA os n)) H)
inductive ij(C:Addr)(v:XD)(H:Hp)(Q:VK)(e:XK):Prop
 |mk(p ow co:Addr)(M:WR)(os:W5)(pg:List (Option (List Int)))(n:Int)(_:v=[.ref p,.int n])(_:bj C H M p ow co os pg)(_:os.length<=60)(_:fA os n≠0)(_:Q .non H)
inductive xp(C:Addr)(v:XD)(H:Hp)(Q:VK)(e:XK):Prop
 |mk (p ow co:Addr) (M:WR) (os:W5) (pg:List (Option (List Int))) (_:v=[.ref p]) (_:bj C H M p ow co os pg) (_:M ow) (_:M co) (_:(∀b,M b->H b≠none)) (_:ow≠co) (_:os.length=pg.length) (_:os.length<=60) (_:(¬ (0:Int)∈os->Q .non H)) (_:((0:Int)∈os->∀H',bj C H' M p ow co (os.set (os.idxOf 0) 1) (pg.set (os.idxOf 0) (some (replicate 8 0)))->Off (λb=>b=ow\/b=co) H H'->Q (.int (os.idxOf 0:Nat)) H')):xp C v H Q e
inductive tV(C:Addr)(v:XD)(H:Hp)(Q:VK)(e:XK):Prop
 |mk (p ow co:Addr) (M:WR) (os:W5) (pg:List (Option (List Int))) (n:Int) (_:v=[.ref p,.int n]) (_:bj C H M p ow co os pg) (_:M ow) (_:M co) (_:ow≠co) (_:os.length<=60) (_:fA os n≠0) (_:∀H',bj C H' M p ow co (os.set n.toNat (fA os n-1)) pg->Off (λb=>b=ow\/b=co) H H'->Q .non H'):tV C v H Q e
inductive tZ(C:Addr)(v:XD)(H:Hp)(Q:VK)(e:XK):Prop
 |mk (p ow co:Addr) (M:WR) (os:W5) (pg:List (Option (List Int))) (n:Int) (_:v=[.ref p,.int n]) (_:bj C H M p ow co os pg) (_:M ow) (_:M co) (_:ow≠co) (_:os.length<=60) (_:fA os n≠0) (_:∀H',bj C H' M p ow co (os.set n.toNat (fA os n+1)) pg->Off (λb=>b=ow\/b=co) H H'->Q .non H'):tZ C v H Q e
inductive sH(C:Addr)(v:XD)(H:Hp)(Q:VK)(e:XK):Prop
 |mk(p ow co:Addr)(M:WR)(os:W5)(pg:List (Option (List Int)))(_:v=[.ref p])(_:bj C H M p ow co os pg)(_:Q (.int (os.count 0:Nat)) H)
inductive oh(C:Addr)(v:XD)(H:Hp)(Q:VK)(e:XK):Prop
 |mk(p ow co:Addr)(M:WR)(os:W5)(pg:List (Option (List Int)))(n:Int)(ns:W5)(_:v=[.ref p,.int n])(_:bj C H M p ow co os pg)(_:os.length<=60)(_:fA os n≠0)(_:pg[n.toNat]?=some (some ns))(_:∀l,H l=none->Q (.ref l) (upd H l (.lst (ns.map V.int))))
inductive zj(K:HC)(C:Addr)(v:XD)(H:Hp)(Q:VK)(e:XK):Prop
 |mk (p ow co c:Addr) (M:WR) (os:W5) (pg:List (Option (List Int))) (n:Int) (ns:W5) (_:v=[.ref p,.int n,.ref c]) (_:bj C H M p ow co os pg) (_:M ow) (_:M co) (_:(∀b,M b->H b≠none)) (_:ow≠co) (_:os.length=pg.length) (_:os.length<=60) (_:fA os n≠0) (_:bD K H c (ns.map V.int)) (_:∀H',bj C H' M p ow co os (pg.set n.toNat (some ns))->Off (λb=>b=ow\/b=co) H H'->Q .non H'):zj K C v H Q e
theorem rep1{α:Type}(x:α)(n:Nat):(replicate n [x]).flatten=replicate n x:=by
 induction n with
 |zero=>rfl
 |succ n F=>rw[PU,Ri,F,PU];rfl
theorem MY:aE ["self","many"] ["self","many"] (aw oJ):=L2.bW
theorem uJ{C:Addr}(F:cD K "__init__" "Store.__init__" oJ f fd)(T:Txt K mg C):↥aX 1 f fd ["self","many"] (ja C):=by
 show F.dU MY ?_;intros;let#[p,dx,n,rfl,hn,S,k]:=h;show#[_,ai (gK (pv 0) (ar kg (bz (aa ah af)) (pv 1)) rfl) (ak (gK (pv 0) (ar kg (bz (aa lY af)) (pv 1)) rfl)),?_];let hs:=ti;show#[ao,λL ad=>?_];let am:p≠L:=av S ad;show#[0,L,n,0,rfl,ae,ag,ag,by rw[OT];omega,λow J=>?_];let as:ow≠L:=λz=>(by rwa[z,ae]at J);rw[aj as]at J;let R:p≠ow:=av S J;show#[0,p,C,dx,[],rfl,by rw[aj R,aj am];show S,T.cl,T.nO,ao,?_];show#[ao,λN I=>?_];let ab:N≠p:=λz=>(by rwa[z,ae]at I);rw[aj ab]at I;let Y:N≠ow:=λz=>(by rwa[z,ae]at I);rw[aj Y]at I;let aD:N≠L:=λz=>(by rwa[z,ae]at I);rw[aj aD]at I;show#[0,N,n,0,rfl,ae,ag,ag,by rw[OT];omega,λco G=>?_];let ap:co≠N:=λz=>(by rwa[z,ae]at G);rw[aj ap]at G;let U:co≠p:=λz=>(by rwa[z,ae]at G);rw[aj U]at G;let O:co≠ow:=λz=>(by rwa[z,ae]at G);rw[aj O]at G;let aB:co≠L:=λz=>(by rwa[z,ae]at G);rw[aj aB]at G;show#[0,p,C,dx,0,by rw[aj (ro U),aj (ro ab),ae],T.cl,T.nC,by change 1<1000;decide,?_];rw[show((n:Int)).toNat=n by omega,rep1,rep1];show k ow co _ J G (ro O) (λM=>#[#[dx,ae],?_,#[_,?_,ph (show fB _ M .non none from trivial) n]]) λb o e hb=>?_
 .rw[aj (ro R),aj (ro O),aj (ro Y),aj (ro R),ae,Sx]
 .rw[aj U,ae]
 .let ac:b≠p:=hb;rw[aj ac,aj (av e G),aj (av e I),aj ac,aj (av e J),aj (av e ad)];show e
theorem LQ:aE ["self","n"] ["self","n"] (aw xO):=L2.bW
theorem CW{C:Addr}(F:cD K "count" "Store.count" xO f fd)(T:Txt K mg C):↥aX 1 f fd ["self","n"] (iC C):=by
 show F.dU LQ ?_;intros;let#[p,ow,co,M,os,pg,n,rfl,S,L,k]:=h;let#[#[dx,h1],J,_]:=id S;show#[_,ai (bo (ie (aA gp (pv 1) ah (aH _)) (gT (aA LJ (pv 1) (aL bu (by rfl) T.len boot_len (aa (aI (pv 0) rfl) af)) (aH _)))).pt (ak (aG ah)) aK)
  (ak (aG (aS bX (aI (pv 0) rfl) (pv 1) cy))),?_]
 show#[0,_,0,rfl,0,?_];show hV (λc=>?_) (λc=>?_)
 .show dR ?_;let I:n<0:=‹c›;unfold fA at k;rw[WQ (.inl I)]at k;show k
 .let I:¬ n<0:=‹c›;show#[0,0,p,C,dx,_,0,h1,T.cl,T.nO,gf _ _,ow,0,.inl (bD.of J),_,0,rfl,0,?_];show hV (λd=>?_) (λd=>?_)
  .let d':(os.length:Int)<=n:=‹d›;unfold fA at k;rw[WQ (.inr d')]at k;show k
  .let d':¬ (os.length:Int)<=n:=‹d›;obtain⟨j,rfl⟩:∃j:Nat,n=j:=#[n.toNat,ag];let G:j<os.length:=ag;rw[ya G]at k;show#[0,p,C,dx,_,0,h1,T.cl,T.nO,gf _ _,0,ow,_,j,.int (os.getD j 0),1,bD.of J,jT ?_,k];rw[t4,L1 G];simp[G]
theorem Oh:aE ["self","n"] ["self","n"] (aw tM):=L2.bW
theorem Ax{C:Addr}(F:cD K "refuse_free" "Store.refuse_free" tM f fd)(T:Txt K mg C)(J:↥Md 1 C "count" (iC C)) :
  ↥aX 2 f fd ["self","n"] (ij C):=by
 show F.dU Oh ?_;intros;let#[p,ow,co,M,os,pg,n,rfl,S,G,I,k]:=h;let#[#[dx,h1],L,_]:=id S;show#[_,ak (bo (aA bZ (pm (pv 0) T.cl J hr ax (aa (pv 1) af)) ah (aH _)) (cN) aK),?_];show#[0,p,dx,0,h1,aW _ _ aq aq,0,p,ow,co,M,os,pg,n,rfl,S,G,rfl,0,?_];show hV (λc=>?_) (λc=>?_)
 .show absurd ‹c› I
 .show k
theorem LV:aE ["self","n"] ["self","n"] (aw CF):=L2.bW
theorem ic{H:Hp}{M:WR}{a:Addr}{o:HO}{cs:XD}{pg:List (Option (List Int))}(F:M a)(q:Paired (fB H M) cs pg):Paired (fB (upd H a o) M) cs pg :=
 jQ (B:=(· = a)) (λb u e G=>by rw[aj (show b≠a from G)];show e) (λb z=>by rw[show b=a from z];show F) q
theorem mi{H:Hp}{M:WR}{a:Addr}{o:HO}{cs:XD}{pg:List (Option (List Int))}(F:H a=none)(q:Paired (fB H M) cs pg):Paired (fB (upd H a o) M) cs pg :=
 jQ (B:=λ_=>False) (λb u e _=>by rw[aj (av e F)];show e) (λb z=>z.elim) q
theorem jU{H:Hp}{p a C dx:Addr}{fs:List (Str×V)}{xs:XD}(h:H p=some (.ins C dx fs))(h':H a=some (.lst xs)):p≠a:=dg h h' (by intro z;cases z)
theorem Fu{C:Addr}(F:cD K "less" "Store.less" CF f fd)(T:Txt K mg C)(Y:↥Md 2 C "refuse_free" (ij C)) :
  ↥aX 3 f fd ["self","n"] (tV C):=by
 show F.dU LV ?_;intros;let#[p,ow,co,M,os,pg,n,rfl,S,O,mc,ab,L,J,k]:=h;let#[#[dx,h1],I,cs,ac,R]:=id S;show#[_,ai (aQ (pm (pv 0) T.cl Y hr ax (aa (pv 1) af)))
  (ak (zJ (aI (pv 0) rfl) (pv 1) (vQ) ah Ho set_list)),?_]
 show#[0,p,dx,0,h1,aW _ _ aq aq,0,p,ow,co,M,os,pg,n,rfl,S,L,J,?_];let#[h0,G,hn,N]:=oy J;generalize n.toNat=j at *;subst N;show#[0,p,C,dx,_,0,h1,T.cl,T.nO,gf _ _,0,ow,_,j,.int (os.getD j 0),1,bD.of I,jT (by rw[t4,L1 G];simp[G]),_,0,rfl,ow,_,j,j,1,I,3]
 .unfold zi;rw[k9,WQ ag,WQ ag];simp
 .rw[ya G]at k;show k _ #[#[dx,by rw[aj (jU h1 I)];show h1],?_,#[cs,by rw[aj (ro ab)];show ac,ic O R]] λb o e U=>?_
  .rw[ae,Ww]
  .rw[aj (λz=>U (.inl z))];show e
theorem Og:aE ["self","n"] ["self","n"] (aw xj):=L2.bW
theorem BD{C:Addr}(F:cD K "cells" "Store.cells" xj f fd)(T:Txt K mg C)(U:↥Md 2 C "refuse_free" (ij C)) :
  ↥aX 3 f fd ["self","n"] (oh C):=by
 show F.dU Og ?_;intros;let#[p,ow,co,M,os,pg,n,ns,rfl,S,I,G,L,k]:=h;let#[#[dx,h1],hw,cs,Y,O]:=id S;show#[_,ai (aQ (pm (pv 0) T.cl U hr ax (aa (pv 1) af)))
  (ak (aG (bU dE (by rfl) T.list eI (aa (aS bX (aI (pv 0) rfl) (pv 1) cy) af)))),?_]
 show#[0,p,dx,0,h1,aW _ _ aq aq,0,p,ow,co,M,os,pg,n,rfl,S,I,G,?_];let#[h0,hj,hn,J]:=oy G;generalize n.toNat=j at *;subst J;let#[v,N,cv]:=pA O L;obtain⟨a,rfl,R⟩:∃a,v=.ref a/\H a=some (.lst (ns.map V.int)):=by
  cases v with
  |ref a=>show#[a,rfl,cv.2]
  |_=>show Ph cv
 show#[0,p,C,dx,_,0,h1,T.cl,T.nC,sO _ _,0,co,cs,j,0,rfl,bD.of Y,jT N,a,0,.inl (bD.of R),k]
theorem JY:aE ["self","n","cells"] ["self","n","cells"] (aw IK):=L2.bW
theorem kq{α G:Type}{F:α->G->Prop}:∀{xs:List α}{ys:List G},Paired F xs ys->xs.length=ys.length
 |_,_,.nil=>rfl
 |_,_,.cons _ t=>by rw[K4,K4,kq t]
theorem Ht{C:Addr}(F:cD K "put" "Store.put" IK f fd)(T:Txt K mg C)(GG:↥Md 2 C "refuse_free" (ij C)) :
  ↥aX 3 f fd ["self","n","cells"] (zj K C):=by
 show F.dU JY ?_;intros;let#[p,ow,co,c,M,os,pg,n,ns,rfl,S,mw,mc,mt,ab,ad,R,L,U,k]:=h;let#[#[dx,h1],O,cs,J,N]:=id S;show#[_,ai (aQ (pm (pv 0) T.cl GG hr ax (aa (pv 1) af)))
  (ak (dP (bU dE (by rfl) T.list eI (aa (pv 2) af)) (fZ (aI (pv 0) rfl) (pv 1) set_list))),?_]
 show#[0,p,dx,0,h1,aW _ _ aq aq,0,p,ow,co,M,os,pg,n,rfl,S,R,L,?_];let#[h0,hj,hn,Y]:=oy L;generalize n.toNat=j at *;subst Y;let ac:=kq N;show#[0,c,0,.inl U,λl I=>?_];let G:∀{b:Addr}{o:HO},H b=some o->b≠l:=λe=>av e I;show#[0,p,C,dx,_,0,by rw[aj (G h1)];show h1,T.cl,T.nC,sO _ _,0,co,cs,j,j,1,by rw[aj (G J)];show J,3]
 .unfold zi;rw[WQ ag,WQ ag];simp
 .let hM:¬ M l:=λz=>mt l z I;show k _ #[#[dx,by rw[aj (jU h1 J),aj (G h1)];show h1],by rw[aj ab,aj (G O)];show O,#[_,ae,ic mc (km #[hM,ae] j (mi I N))]] λb o e hb=>?_;rw[aj (λz=>hb (.inr z)),aj (G e)];show e
theorem NN:aE ["self","n"] ["self"] (aw D8):=L2.bW
theorem N7(os:W5):IV (.int 0) (os.map V.int)=decide ((0:Int)∈os):=by
 unfold IV;rw[List.any_map,QF,Ry,decide_eq_true_iff];constructor
 .rintro⟨x,F,e⟩;let G:x=0:=by
   have:(x==(0:Int))=true:=e;simpa using this
  subst G;show F
 .intro h;show#[(0),h,rfl]
theorem F4{C:Addr}(F:cD K "take" "Store.take" D8 f fd)(T:Txt K mg C):↥aX 1 f fd ["self"] (xp C):=by
 show F.dU NN ?_;intros;let#[p,ow,co,M,os,pg,rfl,S,mw,mc,mt,ab,ad,hl,k0,k1]:=h;let#[#[dx,h1],I,cs,O,hp]:=id S;let#[u8,m8,r8]:=T.pc;let hs:=ti;show#[_,ai (bo (aA iR ah (aI (pv 0) rfl) (by with_unfolding_all rfl)) (ak (aG lY)) aK)
  (ai (cK 1 NN.nd (hU Pc Tc PySem.F.type_list_index Ef (aI (pv 0) rfl) (aa ah af)))
  (ai (dP ah (fZ (aI (pv 0) rfl) (pv 1) set_list))
  (ai (dP (ar kg (bz (aa ah af)) (aR (by rfl) m8 r8)) (fZ (aI (pv 0) rfl) (pv 1) set_list))
  (ak (aG (pv 1)))))),?_]
 show#[0,p,C,dx,_,0,h1,T.cl,T.nO,gf _ _,ow,0,.inl (bD.of I),rfl,gZ _,0,?_];change if (!IV (.int 0) (os.map V.int))=true then _ else _
 rw[N7];cases c:(0:Int)∈os
 .rw[decide_eq_true c];show cq ?_;let hj:os.idxOf 0<os.length:=Pp.mpr c;let ac:=kq hp;show#[0,p,C,dx,_,0,h1,T.cl,T.nO,gf _ _,.inl #[4,bD.of I],ow,os,(0),1,I,c,?_];let k2:=k1 c;generalize os.idxOf 0=j at *;show#[0,p,C,dx,_,0,h1,T.cl,T.nO,gf _ _,0,ow,_,j,j,1,I,3]
  .unfold zi;rw[k9,WQ ag,WQ ag];simp
  .show#[ao,λl N=>?_];let Y:l≠ow:=λz=>(by rwa[z,ae]at N);rw[aj Y]at N;show#[l,(8),0,rfl,ae,ag,ag,by rw[OT];omega,λq G=>?_];let R:q≠l:=λz=>(by rwa[z,ae]at G);rw[aj R]at G;let U:q≠ow:=λz=>(by rwa[z,ae]at G);rw[aj U]at G;let J:∀{b:Addr}{o:HO},H b=some o->b≠l:=λe=>av e N;let L:∀{b:Addr}{o:HO},H b=some o->b≠q:=λe=>av e G;show#[0,p,C,dx,_,0,by rw[aj (L h1),aj (J h1),aj (jU h1 I)];show h1,T.cl,T.nC,sO _ _,0,co,cs,j,j,1,by rw[aj (L O),aj (J O),aj (ro ab)];show O,3]
   .unfold zi;rw[WQ ag,WQ ag];simp
   .show#[0,?_];let hM:¬ M q:=λz=>mt q z G;show k2 _ #[#[dx,by rw[aj (jU h1 O),aj (L h1),aj (J h1),aj (jU h1 I)];show h1],?_,#[_,ae,ic mc (km #[hM,by rw[ae];rfl] j (mi (by rw[aj R,aj U];show G) (mi (by rw[aj Y];show N) (ic mw hp))))]] λb o e hb=>?_
    .rw[aj ab,aj (L I),aj (J I),ae,Ww]
    .rw[aj (λz=>hb (.inr z)),aj (L e),aj (J e),aj (λz=>hb (.inl z))];show e
 .rw[decide_eq_false c];show k0 c
theorem Nw:aE ["self","n"] ["self","n"] (aw EB):=L2.bW
theorem Gg{C:Addr}(F:cD K "more" "Store.more" EB f fd)(T:Txt K mg C)(Y:↥Md 2 C "refuse_free" (ij C)) :
  ↥aX 3 f fd ["self","n"] (tZ C):=by
 show F.dU Nw ?_;intros;let#[p,ow,co,M,os,pg,n,rfl,S,O,mc,ab,L,J,k]:=h;let#[#[dx,h1],I,cs,ac,R]:=id S;show#[_,ai (aQ (pm (pv 0) T.cl Y hr ax (aa (pv 1) af)))
  (ak (zJ (aI (pv 0) rfl) (pv 1) (vQ) ah Ja set_list)),?_]
 show#[0,p,dx,0,h1,aW _ _ aq aq,0,p,ow,co,M,os,pg,n,rfl,S,L,J,?_];let#[h0,G,hn,N]:=oy J;generalize n.toNat=j at *;subst N;show#[0,p,C,dx,_,0,h1,T.cl,T.nO,gf _ _,0,ow,_,j,.int (os.getD j 0),1,bD.of I,jT (by rw[t4,L1 G];simp[G]),_,0,rfl,ow,_,j,j,1,I,3]
 .unfold zi;rw[k9,WQ ag,WQ ag];simp
 .rw[ya G]at k;show k _ #[#[dx,by rw[aj (jU h1 I)];show h1],?_,#[cs,by rw[aj (ro ab)];show ac,ic O R]] λb o e U=>?_
  .rw[ae,Ww]
  .rw[aj (λz=>U (.inl z))];show e
theorem ND:aE ["self"] ["self"] (aw Ey):=L2.bW
theorem E4{C:Addr}(F:cD K "free" "Store.free" Ey f fd)(T:Txt K mg C):↥aX 1 f fd ["self"] (sH C):=by
 show F.dU ND ?_;intros;let#[p,ow,co,M,os,pg,rfl,S,k]:=h;let#[#[dx,h1],G,_]:=id S;show#[_,ak (aG (hU Pc PySem.F.slot_list_count PySem.F.type_list_count Cg (aI (pv 0) rfl) (aa ah af))),?_];show#[0,p,C,dx,_,0,h1,T.cl,T.nO,gf _ _,.inl #[4,bD.of G],ow,os,(0),1,G,k]
end St
namespace Tb
open PySem L2
def top(i:Nat):Oz:=PySem.Challenge.pw_ownroom_k11_rooms_refused.main.body.getD i (.Pass #[(0),(0),(0),(0)])
abbrev y7:Oz:=top 50
abbrev oJ:Oz:=inClass (top 51) 0
abbrev Jw:Oz:=inClass (top 51) 1
abbrev IZ:Oz:=inClass (top 51) 2
abbrev xK:Oz:=inClass (top 51) 3
abbrev xn:Oz:=inClass (top 51) 4
theorem au{H:Hp}{l:Addr}{X:HO}(h:H l=none):aO H (upd H l X):=λb o e=>by rw[aj (av e h)];show e
def Off(B:WR)(H H':Hp):Prop:=∀b o,H b=some o->¬ B b->H' b=some o
section
variable{α:Type}
def look(l:List (Int×α))(k:Int):Option α:=(l.find? λx=>decide (x.1=k)).map (·.2)
def dk(f:α->V)(l:List (Int×α)):List (Key×V):=l.map λx=>(t6 x.1,f x.2)
def bE(l:List (Int×α))(k:Int)(a:α):List (Int×α):=l.map λx=>if x.1=k then(k,a)else x
def bJ(l:List (Int×α))(k:Int):List (Int×α):=l.filter λx=>decide (x.1≠k)
theorem js(k:Int):look ([]:List (Int×α)) k=none:=rfl
theorem aY(x:Int×α)(l:List (Int×α))(k:Int):look (x::l) k=if x.1=k then some x.2 else look l k:=by
 unfold look;rw[Rw];cases h:x.1=k
 .rw[decide_eq_true h,WQ h];rfl
 .rw[decide_eq_false h,WO h]
theorem dn(f:α->V)(k:Int):∀l:List (Int×α),fq (dk f l) (t6 k)=(look l k).map f
 | []=>rfl
 |x::l=>by
  let F:=dn f k l;change fq ((t6 x.1,f x.2)::dk f l) (t6 k)=_;rw[aY];cases h:x.1=k
  .rw[WQ h,gq (by rw[h])];rfl
  .rw[WO h,cJ (λe=>h (Vl e)),F]
theorem aC{l:List (Int×α)}{k:Int}{a:α}(h:look l k=some a):(k,a)∈l:=by
 unfold look at h;let#[x,F,e]:=qw.mp h;let h1:=List.mem_of_find?_eq_some F;let h2:x.1=k:=‹List.find?_some F›;rw[<-h2, <-e];show h1
theorem cO{l:List (Int×α)}{k:Int}(h:look l k=none):¬ k∈l.map (·.1):=by
 unfold look at h;rw[QC,List.find?_eq_none]at h;rintro m;let#[x,F,e]:=rk.mp m;show h x F (decide_eq_true e)
theorem cw{l:List (Int×α)}{k:Int}{a:α}(I:(l.map (·.1)).Nodup)(h:(k,a)∈l):look l k=some a:=by
 induction l with
 |nil=>cases h
 |cons x l F =>
  rw[aY];let#[J,G]:=Ot.mp (show(x.1::l.map (·.1)).Nodup from I);rcases t7.mp h with e|m
  .rw[<-e,WQ rfl]
  .have:¬ x.1=k:=λe=>J (e▸rk.mpr #[_,m,rfl]);rw[WO this];show F G m
theorem JC(f:α->V)(l:List (Int×α))(k:Int):((dk f l).any λF=>decide (F.1=t6 k))=(look l k).isSome:=by
 rw[kJ,dn];cases look l k<;>rfl
theorem cX{f:α->V}{l:List (Int×α)}{k:Int}{a:α}(h:look l k=none):putK (dk f l) (t6 k) (f a)=dk f (l++[(k,a)]):=by
 rw[kR _ (by rw[dn,h];rfl)];unfold dk;rw[IF];rfl
theorem jA{f:α->V}{l:List (Int×α)}{k:Int}{a b:α}(h:look l k=some b):putK (dk f l) (t6 k) (f a)=dk f (bE l k a):=by
 unfold putK;rw[WQ (by rw[JC,h];rfl)];unfold dk bE;rw[PB,PB];congr 1;funext x;change(if (t6 x.1:Key)=t6 k then((t6 x.1:Key),f a)else(t6 x.1,f x.2))=((t6 (if x.1=k then(k,a)else x).1:Key),f (if x.1=k then(k,a)else x).2);cases e:x.1=k
 .rw[WQ (by rw[e]),WQ e,e]
 .rw[WO (λz=>e (Vl z)),WO e]
theorem gi(f:α->V)(l:List (Int×α))(k:Int):oU (dk f l) (t6 k)=dk f (bJ l k):=by
 unfold oU dk bJ;rw[Vu];congr 1;congr 1;funext x;change decide (¬ (t6 x.1:Key)=t6 k)=decide (¬ x.1=k);cases e:x.1=k
 .rw[e];simp
 .simp[e]
theorem eG{l:List (Int×α)}{k:Int}{a:α}(j:Int)(h:look l k=none):look (l++[(k,a)]) j=if j=k then some a else look l j:=by
 induction l with
 |nil =>
  change look [(k,a)] j=_;rw[aY,js];cases e:j=k
  .rw[WQ e,WQ e.symm]
  .rw[WO e,WO (ro e)]
 |cons x l G =>
  rw[aY]at h;cases e:x.1=k
  .rw[WQ e]at h;cases h
  .rw[WO e]at h;change look (x::(l++[(k,a)])) j=_;rw[aY,aY,G h];cases F:x.1=j
   .rw[WQ F,WQ F,WO (λz=>e (F.trans z))]
   .rw[WO F,WO F]
theorem dq{l:List (Int×α)}{k:Int}{a b:α}(j:Int)(h:look l k=some b):look (bE l k a) j=if j=k then some a else look l j:=by
 induction l with
 |nil=>cases h
 |cons x l G =>
  rw[aY]at h;change look ((if x.1=k then(k,a)else x)::bE l k a) j=_;cases e:x.1=k
  .rw[WQ e,aY,aY];cases F:j=k
   .rw[WQ F.symm,WQ F]
   .rw[WO (ro F),WO F,WO (λz=>F (z.symm.trans e))];clear G h
    induction l with
    |nil=>rfl
    |cons y l G =>
     change look ((if y.1=k then(k,a)else y)::bE l k a) j=_;cases I:y.1=k
     .rw[WQ I,aY,aY,WO (ro F),WO (λz=>F (z.symm.trans I)),G]
     .rw[WO I,aY,aY,G]
  .rw[WO e]at h;rw[WO e,aY,aY,G h];cases F:x.1=j
   .rw[WQ F,WQ F,WO (λz=>e (F.trans z))]
   .rw[WO F,WO F]
theorem eD(l:List (Int×α))(k j:Int):look (bJ l k) j=if j=k then none else look l j:=by
 induction l with
 |nil =>
  change look [] j=if j=k then none else look [] j
  rw[js];split<;>rfl
 |cons x l G =>
  unfold bJ at *;rw[PX];cases e:x.1=k
  .rw[WO (by simp[e]),G,aY];cases F:j=k
   .rw[WQ F,WQ F]
   .rw[WO F,WO F,WO (λz=>F (z.symm.trans e))]
  .rw[WQ (by simp[e]),aY,aY,G];cases F:x.1=j
   .rw[WQ F,WQ F,WO (λz=>e (F.trans z))]
   .rw[WO F,WO F]
theorem gI(l:List (Int×α))(k:Int)(a:α):(bE l k a).map (·.1)=l.map (·.1):=by
 unfold bE;rw[PB];congr 1;funext x;change(if x.1=k then(k,a)else x).1=x.1;cases e:x.1=k
 .rw[WQ e,e]
 .rw[WO e]
theorem kH(l:List (Int×α))(k:Int):(bJ l k).map (·.1)=(l.map (·.1)).filter λx=>decide (x≠k):=by
 unfold bJ;rw[Vu];rfl
theorem iP(l:List (Int×α))(k:Int)(a:α):(bE l k a).length=l.length:=by unfold bE;rw[k9]
theorem mem_set{l:List (Int×α)}{k:Int}{a:α}{x:Int×α}(h:x∈bE l k a):x=(k,a)\/(x∈l/\x.1≠k):=by
 unfold bE at h;let#[y,F,e]:=rk.mp h;cases c:y.1=k
 .rw[WQ c]at e;show .inl e.symm
 .rw[WO c]at e;subst e;show .inr #[F,c]
theorem cF{l:List (Int×α)}{k:Int}{x:Int×α}(h:x∈bJ l k):x∈l/\x.1≠k:=by
 unfold bJ at h;let#[h1,h2]:=QD.mp h;show#[h1,of_decide_eq_true h2]
theorem cA(f:α->V)(l:List (Int×α)):(dk f l).length=l.length:=by unfold dk;rw[k9]
theorem nG{l:List (Int×α)}{k:Int}{a:α}(G:(l.map (·.1)).Nodup)(h:look l k=some a):(bJ l k).length+1=l.length:=by
 induction l with
 |nil=>cases h
 |cons x l L =>
  let#[J,F]:=Ot.mp (show(x.1::l.map (·.1)).Nodup from G);rw[aY]at h;unfold bJ at *;rw[PX];cases e:x.1=k
  .rw[WO (by simp[e])];have:l.filter (λx=>decide (x.1≠k))=l:=by
    rw[Sy];intro y I;have:y.1≠k:=λz=>J (by rw[e, <-z];show rk.mpr #[_,I,rfl]);simpa using this
   rw[this,K4]
  .rw[WO e]at h;rw[WQ ‹e›,K4,K4,L F h]
end
abbrev wM:=List (Int×(Addr×List V))
abbrev kC:=List (Int×(Addr×wM))
def fS:Addr×List V->V:=λx=>.ref x.1
def fF:Addr×wM->V:=λx=>.ref x.1
def CV:V->Bool
 |.int _=>true
 |.str _=>true
 |_=>false
def qp(xs:XD):Bool:=xs.all CV&&decide (xs.length<1000)
theorem Fs{xs:XD}(h:qp xs=true):xs.all CV=true:=(Ue.mp h).1
theorem FG{xs:XD}(h:qp xs=true):xs.length<1000:=of_decide_eq_true (Ue.mp h).2
def lL(fs:Addr):List (Str×V):=bM "first_step" (.ref fs) []
theorem mH(fs:Addr):(lL fs).lookup ("first_step" : Str)=some (.ref fs):=by
 unfold lL;rw[aJ,WQ rfl]
theorem aW(fs:Addr){m:Str}(h:¬ m = "first_step"):(lL fs).lookup m=none:=by
 unfold lL;rw[aJ,WO h]
 all_goals rfl
structure iU(H:Hp)(k:Int)(sec:wM):Prop where
 ht:∀y∈sec,H y.2.1=some (.tup y.2.2)/\qp y.2.2=true/\y.1/8=k/\0<=y.1/\y.1<64
 ns:(sec.map (·.1)).Nodup
 ne:sec≠[]
structure TabAt(C:Addr)(H:Hp)(p fs:Addr)(tb:kC):Prop where
 ob:∃dx,H p=some (.ins C dx (lL fs))
 hf:H fs=some (.dK (dk fF tb))
 hd:∀x∈tb,H x.2.1=some (.dK (dk fS x.2.2))
 hs:∀x∈tb,iU H x.1 x.2.2
 nk:(tb.map (·.1)).Nodup
 na:∀x∈tb,∀y∈tb,x.2.1=y.2.1->x.1=y.1
 nf:∀x∈tb,x.2.1≠fs
def dZ(tb:kC)(q:Int):Option (List V):=(look tb (q/8)).bind λx=>(look x.2 q).map (·.2)
def gk(fs:Addr)(tb:kC):Addr->Prop:=λb=>b=fs\/∃x∈tb,b=x.2.1
theorem iU.keep{H H':Hp}{k:Int}{G:wM}(S:iU H k G)(h:∀b xs,H b=some (.tup xs)->H' b=some (.tup xs)):iU H' k G :=
 #[λy F=>#[h _ _ (S.ht y F).1,(S.ht y F).2],S.ns,S.ne]
theorem TabAt.same{C:Addr}{H H':Hp}{p fs:Addr}{tb:kC}(T:TabAt C H p fs tb)(s:aO H H'):TabAt C H' p fs tb:=by
 let#[#[dx,h1],h2,J,L,G,N,I]:=T;show#[#[dx,s _ _ h1],s _ _ h2,λx F=>s _ _ (J x F),λx F=>(L x F).keep λb xs e=>s _ _ e,G,N,I]
theorem TabAt.put{C:Addr}{H H':Hp}{p fs d:Addr}{tb:kC}{k:Int}{G sec':wM}(T:TabAt C H p fs tb)(I:look tb k=some (d,G))(o:Off (· = d) H H')(hd:H' d=some (.dK (dk fS sec')))(S:iU H' k sec'):TabAt C H' p fs (bE tb k (d,sec')):=by
 let#[#[dx,h1],h2,Y,h4,R,h6,N]:=T;let J:=aC I;let U:=Y _ J;let O:∀x∈tb,x.1≠k->x.2.1≠d:=λx F hk e=>hk (h6 x F _ J e);let same:dk fF (bE tb k (d,sec'))=dk fF tb:=by
  let e:=jA (f:=fF) (a:=(d,sec')) I;rw[<-e];let e2:=jA (f:=fF) (a:=(d,G)) I;let e3:fF (d,sec')=fF (d,G):=rfl;rw[e3,e2];unfold dk bE;rw[PB];show PY λx F=>?_;change((t6 (if x.1=k then(k,(d,G))else x).1:Key),fF (if x.1=k then(k,(d,G))else x).2)=(t6 x.1,fF x.2);cases c:x.1=k
  .rw[WQ c,c];have:look tb k=some x.2:=cw R (by rw[<-c];show F);rw[I]at this;rw[<-sS this]
  .rw[WO c]
 show#[#[dx,o _ _ h1 (dg h1 U (by intro z;cases z))],by rw[same];show o _ _ h2 (ro (N _ J)),λx F=>?_,λx F=>?_,by rw[gI];show R,λx F y L e=>?_,λx F=>?_]
 .rcases mem_set F with rfl|⟨F,c⟩
  .show hd
  .show o _ _ (Y x F) (O x F c)
 .rcases mem_set F with rfl|⟨F,c⟩
  .show S
  .show(h4 x F).keep λb xs e=>o _ _ e (dg e U (by intro z;cases z))
 .rcases mem_set F with rfl|⟨F,c⟩<;>rcases mem_set L with rfl|⟨L,c'⟩
  .rfl
  .show absurd e.symm (O y L c')
  .show absurd e (O x F c)
  .show h6 x F y L e
 .rcases mem_set F with rfl|⟨F,c⟩
  .show(N _ J:d≠fs)
  .show N x F
theorem TabAt.add{C:Addr}{H H':Hp}{p fs d:Addr}{tb:kC}{k:Int}{sec':wM}(T:TabAt C H p fs tb)(O:look tb k=none)(I:H d=none)(o:Off (· = fs) H H')(U:H' fs=some (.dK (dk fF (tb++[(k,(d,sec'))]))))(hd:H' d=some (.dK (dk fS sec')))(S:iU H' k sec') :
  TabAt C H' p fs (tb++[(k,(d,sec'))]):=by
 let#[#[dx,h1],h2,L,h4,R,h6,J]:=T;let N:∀x∈tb,x.2.1≠d:=λx F=>av (L x F) I;let Y:d≠fs:=λe=>(by rwa[e,h2]at I);show#[#[dx,o _ _ h1 (dg h1 h2 (by intro z;cases z))],U,λx F=>?_,λx F=>?_,?_,λx F y G e=>?_,λx F=>?_]
 .rcases qj.mp F with F|F
  .show o _ _ (L x F) (J x F)
  .rw[oR.mp F];show hd
 .rcases qj.mp F with F|F
  .show(h4 x F).keep λb xs e=>o _ _ e (dg e h2 (by intro z;cases z))
  .rw[oR.mp F];show S
 .rw[IF];show iE R (cO O)
 .rcases qj.mp F with F|F<;>rcases qj.mp G with G|G
  .show h6 x F y G e
  .rw[oR.mp G]at e;show absurd e (N x F)
  .rw[oR.mp F]at e;show absurd e.symm (N y G)
  .rw[oR.mp F,oR.mp G]
 .rcases qj.mp F with F|F
  .show J x F
  .rw[oR.mp F];show Y
theorem TabAt.del{C:Addr}{H H':Hp}{p fs d:Addr}{tb:kC}{k:Int}{S:wM}(T:TabAt C H p fs tb)(O:look tb k=some (d,S))(o:Off (λb=>b=d\/b=fs) H H')(U:H' fs=some (.dK (dk fF (bJ tb k)))):TabAt C H' p fs (bJ tb k):=by
 let#[#[dx,h1],h2,J,Y,R,N,G]:=T;let L:=aC O;let I:=J _ L;show#[#[dx,o _ _ h1 λz=>z.elim (dg h1 I (by intro z;cases z)) (dg h1 h2 (by intro z;cases z))],U,λx F=>?_,λx F=>?_,?_,λx F y hy e=>N x (cF F).1 y (cF hy).1 e,λx F=>G x (cF F).1]
 .let#[F,c]:=cF F;show o _ _ (J x F) λz=>z.elim (λe=>c (N x F _ L e)) (G x F)
 .let#[F,c]:=cF F;show(Y x F).keep λb xs e=>o _ _ e λz=>z.elim (dg e I (by intro z;cases z)) (dg e h2 (by intro z;cases z))
 .rw[kH];show R.filter _
theorem ER:∀(n:Nat)(a:Int)(l:W5),l.Nodup->(∀x∈l,a<=x/\x<a+n)->l.length<=n
 |0,a,l,_,h=>by
  cases l with
  |nil=>show rr _
  |cons x r=>have:=h x OA;omega
 |n+1,a,l,F,h=>by
  let J:=ER n a (l.filter λx=>decide (x≠a+n)) (F.filter _) λx L=>by
   let#[h1,h2]:=QD.mp L;let R:=h x h1;let S:x≠a+n:=of_decide_eq_true h2;omega
  let e:(l.filter λx=>decide (x≠a+n)).length+1>=l.length:=by
   clear J h
   induction l with
   |nil=>simp
   |cons x r I =>
    let#[O,G]:=Ot.mp F;rw[PX];cases c:x=a+n
    .rw[WO (by simp[c])];have:r.filter (λx=>decide (x≠a+n))=r:=by
      rw[Sy];intro y N;have:y≠a+n:=λe=>O (by rw[c, <-e];show N);simpa using this
     rw[this];simp
    .rw[WQ ‹c›];have:=I G;rw[K4,K4];omega
  omega
theorem iU.len{H:Hp}{k:Int}{F:wM}(S:iU H k F):F.length<=64:=by
 have:=ER 64 0 (F.map (·.1)) S.ns λx G=>by
  let#[y,I,rfl]:=rk.mp G;have:=S.ht y I;omega
 rwa [k9]at this
theorem TabAt.kb{C:Addr}{H:Hp}{p fs:Addr}{tb:kC}(T:TabAt C H p fs tb):∀x∈tb,0<=x.1/\x.1<8:=λx F=>by
 let S:=T.hs x F;cases e:x.2.2 with
 |nil=>show absurd e S.ne
 |cons y r =>
  have:=S.ht y (by rw[e];show OA);omega
theorem TabAt.len{C:Addr}{H:Hp}{p fs:Addr}{tb:kC}(T:TabAt C H p fs tb):tb.length<=8:=by
 have:=ER 8 0 (tb.map (·.1)) T.nk λx F=>by
  let#[y,G,rfl]:=rk.mp F;have:=T.kb y G;omega
 rwa [k9]at this
theorem TabAt.vA{C:Addr}{H:Hp}{p fs:Addr}{tb:kC}(T:TabAt C H p fs tb){q:Int}(h:dZ tb q≠none):0<=q/\q<64:=by
 unfold dZ at h;cases e:look tb (q/8)with
 |none=>rw[e]at h;show absurd rfl h
 |some a =>
  rw[e,Rz]at h;cases F:look a.2 q with
  |none=>rw[F]at h;show absurd rfl h
  |some b =>
   have:=(T.hs _ (aC e)).ht _ (aC F);omega
end Tb
namespace L2
open PySem PySem.Spec PyProof.Rows
section
variable{X:Cx}
theorem rJ{α F:Type}(f:α->F):∀(l:List α)(i:Nat),(l.map f).eraseIdx i=(l.eraseIdx i).map f
 | [],_=>rfl
 |_::_,0=>rfl
 |a::l,i+1=>by
  change f a::(l.map f).eraseIdx i=f a::(l.eraseIdx i).map f;rw[rJ f l i]
inductive zH(x:V)(vs:XD)(H:Hp)(Q:VK):Prop
 |mk(l:Addr)(ns:W5)(k:Int)(_:x=.ref l)(_:vs=[.int k])(_:H l=some (.lst (ns.map V.int)))(_:k∈ns)(_:Q .non (upd H l (.lst ((ns.erase k).map V.int))))
theorem rN:IG X "list.remove" zH:=by
 intros x vs v us Q I Y U h;let#[l,ns,k,rfl,rfl,N,L,q]:=h;cases Y;let#[u,rfl,ru]:=U.one;let#[t,rfl]:=ru;let#[z,its,n,r,J,e]:=I.qr N;let hi:=intsAre_of r;let R:=hi.length;let ab:=J;rw[k9]at J z;let hs:=ti;let G:ns.idxOf k<ns.length:=Pp.mpr L;show Ra Th #[_,e,rfl] PySem.F.entry_list_remove (PySem.F.args_list_remove_2 _ _)
  (MeetsSeq.list_remove l its.toArray n (.int k t) (WG k) (λy hy=>eq_isInt k t hi y ‹hy›) (ns.idxOf k) (by simpa[R]using G) ?_ ?_ (by rw[qs];omega)) #[e,?_]
 .change WG k its[ns.idxOf k]=true;rw[V5 k hi _ ag G];simpa using Sv G
 .intro j O S;change WG k its[j]=false;rw[V5 k hi j ‹O› ag];show ne_of_lt_idxOf S _
 .show#[.non,_,I.Fb (its':=its.eraseIdx (ns.idxOf k)) N e ?_ ?_ ?_,?_,q]
  .change its.toArray.eraseIdxIfInBounds _=(its.eraseIdx _).toArray;rw[Rq]
  .rw[List.erase_eq_eraseIdx_of_idxOf rfl, <-rJ];show r.eraseIdx _
  .rw[k9];have:=List.length_erase_of_mem L;omega
  .trivial
end
def jY(K:HC)(H:Hp)(a:Addr)(xs:XD):Prop:=H a=some (.tup xs)\/cu K (λ_=>none) a xs
theorem jY.sq{K:HC}{H:Hp}{a:Addr}{xs:XD}(h:jY K H a xs):cu K H a xs:=by
 rcases h with h|h
 .show cu.of h
 .rcases h with h|h
  .rcases h with h|⟨o,h⟩
   .cases h
   .cases h
  .show .inr h
theorem jY.keep{K:HC}{H H':Hp}{a:Addr}{xs:XD}(h:jY K H a xs)(s:∀o,H a=some o->H' a=some o):jY K H' a xs:=by
 rcases h with h|h
 .show .inl (s _ h)
 .show .inr h
theorem jY.off{K:HC}{H H':Hp}{a:Addr}{xs:XD}(h:jY K H a xs)(s:H a=some (.tup xs)->H' a=some (.tup xs)):jY K H' a xs:=by
 rcases h with h|h
 .show .inl (s h)
 .show .inr h
theorem As{X:Cx}:dS X (.builtin "isinstance") (λxs H Q=>(∃x n t b,xs=[x,.ty n]/\lC X.K H x t/\DO X.K t (.type n)=some b/\Q (.bl b) H)\/∃a ys,xs=[.ref a,.ty "tuple"]/\cu X.K H a ys/\Q (.bl true) H):=by
 intros xs us Q I r h;rcases h with h|⟨a,ys,rfl,F,q⟩
 .show gH pins s σ H xs us Q I r h
 .let#[u,c,rfl,ru,G]:=vals2 r;obtain rfl:c=Value.type "tuple" := G;cases(show u=Value.ref a from ru);let#[its,_,#[o,h1,h2,_],_]:=I.tuple F;show OY kitx_tuple I.jX #[o,h1,h2] (HH _) (λz=>nomatch z) λtk=>#[.bl true,H,I.tok _,rfl,q]
end L2
namespace Tb
open PySem L2
structure Cw(mg:WW):Prop where
 vL:mg "isinstance" = none
 tuple:mg "tuple" = none
 list:mg "list" = none
 dict:mg "dict" = none
 len:mg "len" = none
 sorted:mg "sorted" = none
def D7:V->Bool
 |.int _=>true
 |.str _=>true
 |.non=>true
 |_=>false
inductive uP(vs:XD)(H:Hp)(Q:VK)(e:XK):Prop
 |mk(v:_)(_:vs=[v])(_:D7 v=true)(_:Q v H)
def xW(K:HC):Sp:=λvs H Q _=>(∃v,vs=[v]/\D7 v=true/\Q v H)\/∃(a:Addr)(xs:XD),vs=[.ref a]/\jY K H a xs/\qp xs=true/\∀H' l,aO H H'->H l=none->H' l=some (.tup xs)->Q (.ref l) H'
theorem EX:∀{v:V},CV v=true->D7 v=true
 |.int _,_=>rfl
 |.str _,_=>rfl
theorem LQ:aE ["value","copied","key"] ["value"] (aw y7):=L2.bW
theorem Ez(F:cD K "own_copy" "own_copy" y7 f fd)(T:Cw mg):↥aX 1 f fd ["value"] uP:=by
 show F.dU LQ ?_;intros;let#[v,rfl,G,k]:=h;show#[_,(ai (bo (fE (aL gH (by rfl) T.vL bF (aa (pv 0) (aa (gN (v:=.ty "tuple") (by rfl) T.tuple p5 rfl) af)))) (ak fO) aK)
  (ai (bo (fE (aL gH (by rfl) T.vL bF (aa (pv 0) (aa (gN (v:=.ty "list") (by rfl) T.list eI rfl) af)))) (ak fO) aK)
  (ai (bo (fE (aL gH (by rfl) T.vL bF (aa (pv 0) (aa (gN (v:=.ty "dict") (by rfl) T.dict uG rfl) af)))) (ai fO
  (ai fO
  (ak fO))) aK)
  (ak (aG (pv 0)))))),?_]
 cases v with
 |int i=>show#[0,.int i,"tuple",_,false,rfl,.int i,Dt _,false,rfl,cq #[0,.int i,"list",_,false,rfl,.int i,Dh _,false,rfl,cq #[0,.int i,"dict",_,false,rfl,.int i,B8 _,false,rfl,cq #[0,k]]]]
 |str i=>show#[0,.str i,"tuple",_,false,rfl,.str i,B0 _,false,rfl,cq #[0,.str i,"list",_,false,rfl,.str i,DV _,false,rfl,cq #[0,.str i,"dict",_,false,rfl,.str i,CH _,false,rfl,cq #[0,k]]]]
 |non=>show#[0,.non,"tuple",_,false,rfl,.non,Cs _,false,rfl,cq #[0,.non,"list",_,false,rfl,.non,C8 _,false,rfl,cq #[0,.non,"dict",_,false,rfl,.non,Dg _,false,rfl,cq #[0,k]]]]
 |_=>cases G
theorem Ga(F:cD K "own_copy" "own_copy" y7 f fd)(T:Cw mg)(G0:↥Df 1 "own_copy" uP):↥aX 2 f fd ["value"] (xW K):=by
 show F.ok LQ (λvs H Q E h=>?_) (λac A outer s H vs Q E hr h=>?_)
 .rcases h with⟨v,rfl,_⟩|⟨a,xs,rfl,_⟩
  .rfl
  .rfl
 .show#[_,(ai (bo (fE (aL As (by rfl) T.vL bF (aa (pv 0) (aa (gN (v:=.ty "tuple") (by rfl) T.tuple p5 rfl) af)))) (ak (aG (bU qU (by rfl) T.tuple p5 (aa (gO (cl:=[]) (caps:=[]) #[rfl,aq,aq,rfl,by kernel_rfl,by intro p J;simp at J,by kernel_rfl,by intro p J;simp at J,aq] rfl (HS (pv 0)) (λ_ _ _ _=>gg) (λ_ _ _ _=>(pc G0 hr ax (aa (pv 0) af)))) af)))) aK)
   (ai (bo (fE (aL gH (by rfl) T.vL bF (aa (pv 0) (aa (gN (v:=.ty "list") (by rfl) T.list eI rfl) af)))) (ak fO) aK)
   (ai (bo (fE (aL gH (by rfl) T.vL bF (aa (pv 0) (aa (gN (v:=.ty "dict") (by rfl) T.dict uG rfl) af)))) (ai fO
   (ai fO
   (ak fO))) aK)
   (ak (aG (pv 0)))))),?_]
  rcases h with⟨v,rfl,hv,k⟩|⟨a,xs,rfl,L,N,k⟩
  .cases v with
   |int i=>show#[0,.inl #[.int i,"tuple",_,false,rfl,.int i,Dt _,false,rfl,cq #[0,.int i,"list",_,false,rfl,.int i,Dh _,false,rfl,cq #[0,.int i,"dict",_,false,rfl,.int i,B8 _,false,rfl,cq #[0,k]]]]]
   |str i=>show#[0,.inl #[.str i,"tuple",_,false,rfl,.str i,B0 _,false,rfl,cq #[0,.str i,"list",_,false,rfl,.str i,DV _,false,rfl,cq #[0,.str i,"dict",_,false,rfl,.str i,CH _,false,rfl,cq #[0,k]]]]]
   |non=>show#[0,.inl #[.non,"tuple",_,false,rfl,.non,Cs _,false,rfl,cq #[0,.non,"list",_,false,rfl,.non,C8 _,false,rfl,cq #[0,.non,"dict",_,false,rfl,.non,Dg _,false,rfl,cq #[0,k]]]]]
   |_=>cases hv
  .let hs:=ti;let U:=Fs N;let hn:=FG N;show#[0,.inr #[a,xs,rfl,L.sq,true,rfl,dR ?_]];show#[0,a,rfl,#[xs,L.sq],?_];show AJ (xs:=xs) (λi ys H'=>H'=H/\ys=xs.take i) #[1] (λi ys H' _ p=>by rw[p.1];show L.sq) (λi x ys H' hi p=>?_) (λys H' p l O=>?_)
   .let#[rfl,rfl]:=p;let#[R,Y]:=mu.mp hi;show#[0,x,rfl,EX (OJ.mp U x (Y▸Py R)),?_,5]
    .rw[Om];omega
    .rw[V6,hi];rfl
   .let#[rfl,rfl]:=p;rw[Pj];show#[l,xs,rfl,.inl #[bD.of ae,λI G=>?_]];let ab:I≠l:=λz=>(by rwa[z,ae]at G);let S:H' I=none:=(by rw[aj ab]at G;show G);show k _ I ((au O).trans (au G)) S ae
structure Txt(K:HC)(mg:WW)(C:Addr):Prop where
 cl:qQ K C
 nF:dQ K C "first_step"
 sp:∃u,mg "STEP_PAGES" = some u/\RelV (.int 8) u
def Kn(H:Hp)(v:V):Option (List V)->Prop
 |none=>v=.non
 |some xs=>∃t,v=.ref t/\H t=some (.tup xs)
inductive ja(C:Addr)(v:XD)(H:Hp)(Q:VK)(e:XK):Prop
 |mk(p dx:Addr)(_:v=[.ref p])(_:H p=some (.ins C dx []))(_:∀(fs:Addr)(H':Hp),H fs=none->TabAt C H' p fs []->Off (· = p) H H'->Q .non H')
inductive pL(C:Addr)(vs:XD)(H:Hp)(Q:VK)(e:XK):Prop
 |mk(p fs:Addr)(tb:kC)(q:Int)(_:vs=[.ref p,.int q])(_:TabAt C H p fs tb)(_:∀H' v,aO H H'->Kn H' v (dZ tb q)->Q v H')
inductive wb(K:HC)(C:Addr)(v:XD)(H:Hp)(Q:VK)(e:XK):Prop
 |mk(p fs t:Addr)(tb:kC)(q:Int)(xs:XD)(_:v=[.ref p,.int q,.ref t])(_:TabAt C H p fs tb)(_:0<=q)(_:q<64)(_:jY K H t xs)(_:qp xs=true)(_:∀H' tb',TabAt C H' p fs tb'->(∀j,dZ tb' j=if j=q then some xs else dZ tb j)->Off (gk fs tb) H H'->(∀b,gk fs tb' b->gk fs tb b\/H b=none)->Q .non H')
inductive uC(C:Addr)(v:XD)(H:Hp)(Q:VK)(e:XK):Prop
 |mk(p fs:Addr)(tb:kC)(q:Int)(_:v=[.ref p,.int q])(_:TabAt C H p fs tb)(_:∀H' tb',TabAt C H' p fs tb'->(∀j,dZ tb' j=if j=q then none else dZ tb j)->(tb'.length=tb.length\/tb'.length+1=tb.length)->Off (gk fs tb) H H'->(∀b,gk fs tb' b->gk fs tb b\/H b=none)->Q .non H')
def gL(tb:kC):List Int:=tb.flatMap λx=>x.2.2.map (·.1)
inductive di(C:Addr)(v:XD)(H:Hp)(Q:VK)(e:XK):Prop
 |mk(p fs:Addr)(tb:kC)(_:v=[.ref p])(_:TabAt C H p fs tb)(_:∀H' l (ns:W5),aO H H'->H l=none->H' l=some (.lst (ns.map V.int))->ns.Perm (gL tb)->ns.Pairwise (· <= ·)->Q (.ref l) H')
theorem wC{C:Addr}{H:Hp}{p fs:Addr}{tb:kC}(T:TabAt C H p fs tb)(q:Int):q∈gL tb↔dZ tb q≠none:=by
 unfold gL;rw[RB];constructor
 .rintro⟨x,G,J⟩;let#[y,I,rfl]:=rk.mp J;let S:=T.hs x G;unfold dZ;rw[(S.ht y I).2.2.1,cw T.nk G,Rz,cw S.ns I];simp
 .intro h;unfold dZ at h;cases e:look tb (q/8)with
  |none=>rw[e]at h;show absurd rfl h
  |some a =>
   rw[e,Rz]at h;cases F:look a.2 q with
   |none=>rw[F]at h;show absurd rfl h
   |some b=>show#[_,aC e,rk.mpr #[_,aC F,rfl]]
theorem kL{C:Addr}{H:Hp}{p fs:Addr}{tb:kC}(T:TabAt C H p fs tb):(gL tb).Nodup:=by
 let hs:=T.hs;let L:=T.nk;clear T
 induction tb with
 |nil=>show Qr
 |cons x r S =>
  let#[n1,N]:=Ot.mp (show(x.1::r.map (·.1)).Nodup from L);change(x.2.2.map (·.1)++gL r).Nodup;rw[Rp];show#[(hs x OA).ns,S (λy G=>hs y (Oy _ G)) N,λa Y b F e=>n1 ?_];let#[y,G,rfl]:=rk.mp Y;let#[z,I,F]:=RB.mp F;let#[J,ab,rfl]:=rk.mp F;let O:=((hs x OA).ht y G).2.2.1;let U:=((hs z (Oy _ I)).ht J ab).2.2.1;let R:y.1=J.1:=e;rw[<-O,R,U];show rk.mpr #[z,I,rfl]
theorem vi{C:Addr}{H:Hp}{p fs:Addr}{tb:kC}(T:TabAt C H p fs tb)(i:Nat):(gL (tb.take i)).length<=64:=by
 let h1:(gL tb).length<=64:=ER 64 0 (gL tb) (kL T) λx F=>by
  have:=T.vA ((wC T x).mp F);omega
 let h2:(gL (tb.take i)).length<=(gL tb).length:=by
  conv=>rhs;rw[<-PL i tb]
  unfold gL;rw[RX,G1];omega
 omega
theorem wu{tb:kC}{q:Int}{d:Addr}{F:wM}(h:look tb (q/8)=some (d,F)):dZ tb q=(look F q).map (·.2):=by
 unfold dZ;rw[h,Rz]
theorem wH{tb:kC}{q:Int}(h:look tb (q/8)=none):dZ tb q=none:=by
 unfold dZ;rw[h];rfl
theorem rP{tb:kC}{k q:Int}{d:Addr}{G sec':wM}{o:Option (Addr×List V)}(F:look tb k=some (d,G))(I:q/8=k)(h:∀j,look sec' j=if j=q then o else look G j)(j:Int) :
  dZ (bE tb k (d,sec')) j=if j=q then o.map (·.2)else dZ tb j:=by
 unfold dZ;rw[dq (j/8) F];cases c:j/8=k
 .rw[WQ c,Rz,h j,c,F,Rz];cases e:j=q
  .rw[WQ e,WQ e]
  .rw[WO e,WO e]
 .rw[WO c,WO (λe=>c (by rw[e];show I))]
theorem zW{tb:kC}{k q:Int}{d:Addr}{sec':wM}{o:Option (Addr×List V)}(F:look tb k=none)(G:q/8=k)(h:∀j,look sec' j=if j=q then o else none)(j:Int) :
  dZ (tb++[(k,(d,sec'))]) j=if j=q then o.map (·.2)else dZ tb j:=by
 unfold dZ;rw[eG (j/8) F];cases c:j/8=k
 .rw[WQ c,Rz,h j,c,F];cases e:j=q
  .rw[WQ e,WQ e]
  .rw[WO e,WO e];rfl
 .rw[WO c,WO (λe=>c (by rw[e];show G))]
theorem Ay{tb:kC}{k q:Int}{d:Addr}{F:wM}(I:look tb k=some (d,F))(G:q/8=k)(h:∀j,j≠q->look F j=none)(j:Int) :
  dZ (bJ tb k) j=if j=q then none else dZ tb j:=by
 unfold dZ;rw[eD];cases c:j/8=k
 .rw[WQ c,c,I];cases e:j=q
  .rw[WQ e];rfl
  .rw[WO e,Rz,h j e];rfl
 .rw[WO c,WO (λe=>c (by rw[e];show G))]
theorem F0{H:Hp}{k q:Int}{G:wM}{l:Addr}{xs:XD}(S:iU H k G)(J:H l=some (.tup xs))(L:qp xs=true)(I:q/8=k)(N:0<=q)(h1:q<64) :
  ∃sec',putK (dk fS G) (t6 q) (.ref l)=dk fS sec'/\(∀j,look sec' j=if j=q then some (l,xs)else look G j)/\iU H k sec':=by
 cases e:look G q with
 |none =>
  show#[G++[(q,(l,xs))],cX (f:=fS) (a:=(l,xs)) e,λj=>eG j e,λy F=>?_,?_,by simp]
  .rcases qj.mp F with F|F
   .show S.ht y F
   .rw[oR.mp F];show#[J,L,I,N,h1]
  .rw[IF];show iE S.ns (cO e)
 |some b =>
  show#[bE G q (l,xs),jA (f:=fS) (a:=(l,xs)) e,λj=>dq j e,λy F=>?_,3]
  .rcases mem_set F with rfl|⟨F,_⟩
   .show#[J,L,I,N,h1]
   .show S.ht y F
  .rw[gI];show S.ns
  .intro z;have:=iP G q (l,xs);rw[z]at this;show S.ne (OW.mp this.symm)
theorem jd{B:WR}{H H' F:Hp}(s:aO H H')(o:Off B H' F):Off B H F:=λb u e G=>o b u (s b u e) G
theorem uj{B:WR}{H:Hp}{a:Addr}{X:HO}(h:B a):Off B H (upd H a X):=λb u e F=>by rw[aj (λz=>F (by rw[z];show h))];show e
theorem Off.mono{B F:WR}{H H':Hp}(o:Off B H H')(h:∀b,B b->F b):Off F H H':=λb u e G=>o b u e λz=>G (h b z)
theorem Iw{C:Addr}{H:Hp}{p fs:Addr}{tb:kC}(T:TabAt C H p fs tb):(dk fF tb).length<sizeLine:=by
 let h:=T.len;let hs:=ti;rw[cA];omega
theorem Ie{H:Hp}{k:Int}{F:wM}(S:iU H k F):(dk fS F).length<sizeLine:=by
 let h:=S.len;let hs:=ti;rw[cA];omega
theorem zl{fs d:Addr}{tb:kC}{k:Int}{G sec':wM}(I:(k,(d,G))∈tb){b:Addr}(h:gk fs (bE tb k (d,sec')) b):gk fs tb b:=by
 rcases h with h|⟨x,F,h⟩
 .show .inl h
 .rcases mem_set F with rfl|⟨F,_⟩
  .show .inr #[_,I,h]
  .show .inr #[x,F,h]
theorem ET{fs:Addr}{tb:kC}{k:Int}{b:Addr}(h:gk fs (bJ tb k) b):gk fs tb b:=by
 rcases h with h|⟨x,F,h⟩
 .show .inl h
 .show .inr #[x,(cF F).1,h]
theorem mJ(tb:kC)(k:Int):fq (dk fF tb) (t6 k)=(look tb k).map fF:=dn fF k tb
theorem yN(F:wM)(k:Int):fq (dk fS F) (t6 k)=(look F k).map fS:=dn fS k F
theorem MY:aE ["self"] ["self"] (aw oJ):=L2.bW
theorem uJ{C:Addr}(F:cD K "__init__" "Table.__init__" oJ f fd)(T:Txt K mg C):↥aX 1 f fd ["self"] (ja C):=by
 show F.dU MY ?_;intros;let#[p,dx,rfl,J,k]:=h;show#[_,(ak (gK (pv 0) dJ rfl)),?_];intro fs I;let np:p≠fs:=av J I;show#[0,p,C,dx,[],rfl,by rw[aj np];show J,T.cl,T.nF,ao,?_];show k fs _ I #[#[dx,by rw[ae];rfl],by rw[aj (ro np),ae];rfl,λx G=>(vr G).elim,λx G=>(vr G).elim,.nil,λx G=>(vr G).elim,λx G=>(vr G).elim] λb u e L=>?_;rw[aj L,aj (av e I)];show e
theorem NX:aE ["self","page","second"] ["self","page"] (aw Jw):=L2.bW
theorem Ip{C:Addr}(F:cD K "get" "Table.get" Jw f fd)(T:Txt K mg C)(R:↥Df 2 "own_copy" (xW K)):↥aX 3 f fd ["self","page"] (pL C):=by
 let#[u8,S,U]:=T.sp;show F.dU NX ?_;intros;let#[p,fs,tb,q,rfl,TT,k]:=h;let#[dx,h1]:=TT.ob;show#[_,(ai (cK 2 NX.nd (qE (bG hr) (aI (pv 0) rfl) (ar aV (pv 1) (aR (by rfl) S U)) dJ #[1,1]))
  (ak (aG (pc R hr ax (aa (Dv (bG hr) (pv 2) (pv 1) #[1,1]) af))))),?_]
 show#[0,p,C,dx,_,.ref fs,rfl,h1,T.cl,T.nF,mH fs,fs,rfl,.inl #[_,.inl TT.hf],0,_,0,rfl,#[ao,ao],λe Y=>?_];let G:=au (X:=.dK []) Y;let I:=TT.same G;show#[_,eV.k (k:=.inl (q/8)) I.hf,?_];rw[mJ];cases c:look tb (q/8)with
 |none =>
  show#[0,e,rfl,.inl #[_,.inl ae],0,_,eV.k (k:=.inl q) ae,.inl #[.non,1,k _ _ G ?_]];rw[wH c];rfl
 |some a =>
  let#[d,O]:=a;let L:=aC c;let hd:=I.hd _ L;show#[0,d,rfl,.inl #[_,.inl hd],0,_,eV.k (k:=.inl q) hd,?_];rw[yN];let le:=wu c;cases J:look O q with
  |none =>
   show .inl #[.non,1,k _ _ G ?_];rw[le,J];rfl
  |some b =>
   let#[t,xs]:=b;let hs:=(I.hs _ L).ht _ (aC J);show .inr #[t,xs,rfl,.inl hs.1,hs.2.1,λH' l s' ab N=>k _ _ (G.trans s') ?_];rw[le,J];show#[l,rfl,N]
theorem LV:aE ["self","page","entry","second"] ["self","page","entry"] (aw IZ):=L2.bW
theorem Im{C:Addr}(F:cD K "lay" "Table.lay" IZ f fd)(T:Txt K mg C)(GC:↥Df 2 "own_copy" (xW K)):↥aX 3 f fd ["self","page","entry"] (wb K C):=by
 let#[u8,m8,r8]:=T.sp;show F.dU LV ?_;intros;let#[p,fs,t,tb,q,xs,rfl,TT,q0,q1,ht,G,k]:=h;let#[dx,h1]:=TT.ob;show#[_,(ai (cK 3 LV.nd (Dj (aI (pv 0) rfl) (ar aV (pv 1) (aR (by rfl) m8 r8)) dJ #[1,1]))
  (ak (lh (bG hr) (pv 3) (pv 1) (pc GC hr ax (aa (pv 2) af)) rfl))),?_]
 show#[0,p,C,dx,_,.ref fs,rfl,h1,T.cl,T.nF,mH fs,fs,rfl,.inl #[_,.inl TT.hf],0,_,0,rfl,#[ao,ao],λe N=>?_];let se:=au (X:=.dK []) N;let T1:=TT.same se;show#[_,.inl (q/8),T1.hf,rfl,Iw T1,λv I=>?_,λI=>?_]
 .rw[mJ]at I;cases c:look tb (q/8)with
  |none=>rwa[c]at I
  |some a =>
   let#[d,am]:=a;rw[c]at I;obtain rfl:V.ref d=v:=sS I;let O:=aC c;show#[0,.inr #[t,xs,rfl,ht.keep λo e=>se _ _ e,G,λH2 l s2 ac R=>?_]];let S:=T1.same s2;let#[sec',U,e2,S']:=F0 (S.hs _ O) R G rfl q0 q1;let hd:=S.hd _ O;show#[0,0,d,0,iz.k (k:=.inl q) hd (Ie (S.hs _ O)),?_];rw[U];let L:Off (· = d) H2 (upd H2 d (.dK (dk fS sec'))):=uj rfl;show k _ _ (S.put c L ae (S'.keep λb ys J=>L _ _ J (dg J hd (by intro z;cases z)))) (λj=>rP c rfl e2 j) (jd (se.trans s2) (L.mono λb z=>.inr #[_,O,z])) λb z=>.inl (zl O z)
 .rw[mJ]at I;let c:look tb (q/8)=none:=by
   cases c:look tb (q/8)with
   |none=>rfl
   |some a=>rwa[c]at I
  let ep:putK (dk fF tb) (t6 (q/8)) (.ref e)=dk fF (tb++[(q/8,(e,[]))]):=cX (f:=fF) (a:=(e,[])) c;rw[ep];let ef:e≠fs:=λz=>av TT.hf N z.symm;let hE:upd (upd H e (.dK [])) fs (.dK (dk fF (tb++[(q/8,(e,[]))]))) e=some (.dK []):=(by rw[aj ef,ae]);let o1:Off (· = fs) H (upd (upd H e (.dK [])) fs (.dK (dk fF (tb++[(q/8,(e,[]))])))):=λb u J Y=>(by rw[aj Y,aj (av J N)];show J);show#[0,.inr #[t,xs,rfl,ht.off λe=>o1 _ _ e (dg e TT.hf (by intro z;cases z)),G,λH2 l s2 ac R=>?_]];let ab:=s2 _ _ hE;show#[0,0,e,0,iz.k (k:=.inl q) ab ao,?_];let U:putK ([]:XE) (t6 q) (.ref l)=dk fS [(q,(l,xs))]:=rfl;rw[U];let L:Off (· = e) H2 (upd H2 e (.dK (dk fS [(q,(l,xs))]))):=uj rfl;let oA:Off (· = fs) H (upd H2 e (.dK (dk fS [(q,(l,xs))]))):=λb u J Y=>L b u (s2 _ _ (o1 b u J Y)) (av J N);let ad:(upd H2 e (.dK (dk fS [(q,(l,xs))]))) l=some (.tup xs):=L _ _ R (dg R ab (by intro z;cases z));show k _ _ (TT.add (sec':=[(q,(l,xs))]) c N oA ?_ ae #[λy hy=>?_,?_,by simp]) (λj=>zW (o:=some (l,xs)) c rfl (λj=>?_) j) (oA.mono λb z=>.inl z) λb z=>?_
  rotate_left 4
  .rcases z with z|⟨x,G,z⟩
   .show .inl (.inl z)
   .rcases qj.mp G with G|G
    .show .inl (.inr #[x,G,z])
    .rw[oR.mp G]at z;rw[z];show .inr N
  .show L _ _ (s2 _ _ ae) (ro ef) |>.trans ?_;unfold dk;rw[IF,IF];rfl
  .rw[oR.mp hy];show#[ad,G,rfl,q0,q1]
  .simp
  .rw[aY,js];cases z:j=q
   .rw[WQ z,WQ z.symm]
   .rw[WO z,WO (ro z)]
theorem MC:aE ["self","page","k","second"] ["self","page"] (aw xK):=L2.bW
theorem DP{C:Addr}(F:cD K "clear" "Table.clear" xK f fd)(T:Txt K mg C)(TP:Cw mg):↥aX 1 f fd ["self","page"] (uC C):=by
 let#[u8,m8,r8]:=T.sp;let R:=T;show F.dU MC ?_;intros;let#[p,fs,tb,q,rfl,TT,k]:=h;let#[dx,h1]:=TT.ob;replace T:=TP;show#[_,(ai (cK 2 MC.nd (ar aV (pv 1) (aR (by rfl) m8 r8)))
  (ai (cK 3 MC.nd (qE (bG hr) (aI (pv 0) rfl) (pv 2) dJ #[1,1]))
  (ai (bo (jm (hX (bG hr) (pv 1) (pv 3))) (ak sI) aK)
  (ai (aQ (gh (pv 3) (pv 1) #[1,1]))
  (ak (bo (aA bZ (aL jK (by rfl) T.len boot_len (aa (pv 3) af)) ah (aH _)) (ak (aQ (gh (aI (pv 0) rfl) (pv 2) #[1,1]))) aK)))))),?_]
 show#[0,_,0,rfl,#[ao,ao],?_];show#[0,p,C,dx,_,.ref fs,rfl,h1,R.cl,R.nF,mH fs,fs,rfl,.inl #[_,.inl TT.hf],0,λe he=>?_];let J:=au (X:=.dK []) he;let I:=TT.same J;show#[_,eV.k (k:=.inl (q/8)) I.hf,?_];rw[mJ];cases c:look tb (q/8)with
 |none =>
  show#[0,0,e,0,eV.k (k:=.inl q) ae,true,rfl,dR ?_];show k _ _ I (λj=>?_) (.inl rfl) (jd J λb u O _=>O) λb z=>.inl z;cases z:j=q
  .rw[WQ z,z];show wH c
  .rw[WO z]
 |some a =>
  let#[d,G]:=a;let L:=aC c;let hd:=I.hd _ L;let S:=I.hs _ L;show#[0,0,d,0,eV.k (k:=.inl q) hd,?_];rw[yN];cases c2:look G q with
  |none =>
   show#[true,rfl,dR ?_];show k _ _ I (λj=>?_) (.inl rfl) (jd J λb u O _=>O) λb z=>.inl z;cases z:j=q
   .rw[WQ z,z,wu c,c2];rfl
   .rw[WO z]
  |some b =>
   show#[false,rfl,cq ?_];show#[0,d,rfl,.inl #[_,.inl hd],0,_,.inl q,fS b,hd,rfl,by rw[yN,c2];rfl,?_];rw[gi];show#[0,d,0,ae,5];let N:Off (· = d) (upd H e (.dK [])) (upd (upd H e (.dK [])) d (.dK (dk fS (bJ G q)))):=uj rfl;cases z:bJ G q=[]
   .let U:decide (V.int ((dk fS (bJ G q)).length:Nat)=V.int 0)=true:=(by rw[z];rfl);rw[U];show#[true,rfl,dR ?_];let ac:d≠fs:=TT.nf _ L;let ab:(upd (upd H e (.dK [])) d (.dK (dk fS (bJ G q)))) fs=some (.dK (dk fF tb)):=N _ _ I.hf (ro ac);let ad:(upd (upd H e (.dK [])) d (.dK (dk fS (bJ G q)))) p=some (.ins C dx (lL fs)):=N _ _ (J _ _ h1) (dg (J _ _ h1) hd (by intro z;cases z));show#[0,p,C,dx,_,.ref fs,rfl,ad,R.cl,R.nF,mH fs,fs,rfl,.inl #[_,.inl ab],0,_,.inl (q/8),fF (d,G),ab,rfl,by rw[mJ,c];rfl,?_];rw[gi];let o3:Off (λb=>b=d\/b=fs) (upd H e (.dK [])) (upd (upd (upd H e (.dK [])) d (.dK (dk fS (bJ G q)))) fs (.dK (dk fF (bJ tb (q/8))))):=λb u O hb=>by
     rw[aj λz=>hb (.inr z),aj λz=>hb (.inl z)];show O
    show k _ _ (I.del c o3 ae) (λj=>Ay c rfl (λj hj=>?_) j) (.inr ?_) (jd J (o3.mono λb z=>z.elim (λz=>.inr #[_,L,z]) .inl)) λb z=>.inl (ET z)
    .have:=eD G q j;rw[z,js,WO hj]at this;show this.symm
    .show nG TT.nk c
   .let U:decide (V.int ((dk fS (bJ G q)).length:Nat)=V.int 0)=false:=decide_eq_false λy=>by
     injection y with y;rw[cA]at y;show z (OW.mp ag)
    rw[U];show#[false,rfl,cq ?_];let S2:iU (upd (upd H e (.dK [])) d (.dK (dk fS (bJ G q)))) (q/8) (bJ G q):=#[λy hy=>?_,?_,z]
    .show k _ _ (I.put c N ae S2) (λj=>rP c rfl (λj=>eD G q j) j) (.inl (iP _ _ _)) (jd J (N.mono λb z=>.inr #[_,L,z])) λb z=>.inl (zl L z)
    .let Y:=S.ht y (cF hy).1;show#[N _ _ Y.1 (dg Y.1 hd (by intro z;cases z)),Y.2]
    .rw[kH];show S.ns.filter _
theorem JY:aE ["self","found","k"] ["self"] (aw xn):=L2.bW
theorem Dk{C:Addr}(F:cD K "pages" "Table.pages" xn f fd)(N:Txt K mg C)(T:Cw mg):↥aX 1 f fd ["self"] (di C):=by
 show F.dU JY ?_;intros;let#[p,fs,tb,rfl,TT,k]:=h;let#[dx,h1]:=TT.ob;let I:=TT.hf;let hs:=ti;show#[_,(ai (cK 1 JY.nd (bz af))
  (ai (tN (dy NC rfl (ug (aI (pv 0) rfl)) (iW 2 JY.nd) (ak (aQ (hU Pc Qo Ti (yU rfl) (pv 1) (aa (bP (bG hr) (aI (pv 0) rfl) (pv 2) cy) af))))))
  (ak (aG (aL uA (by rfl) T.sorted sj (aa (pv 1) af)))))),?_]
 let S:∀o Y,H fs≠some (.frz o Y):=λo Y z=>(by rwa[I]at z);show#[ao,λl G=>?_];let sl:=au (X:=.lst []) G;let O:l≠fs:=λz=>av I G z.symm;let ac:p≠l:=av h1 G;let ad:p≠fs:=dg h1 I (by intro z;cases z);show#[0,p,C,dx,_,.ref fs,rfl,sl _ _ h1,N.cl,N.nF,mH fs,fs,0,sl _ _ I,S,λo=>?_];show wj (kvs:=dk fF tb) (λi σ H'=>H'=upd (upd H l (.lst ((gL (tb.take i)).map V.int))) fs (.frz o (.dK (dk fF tb)))/\∃v,σ=#v[.ref p,.ref l,v]) #[rfl,0] (λi σ H' _ h=>by rw[h.1,ae]) (λi k v σ H' hi h=>?_) (λσ H' h=>?_)
 .let#[rfl,v',rfl]:=h;unfold dk at hi;rw[t4]at hi;cases e:tb[i]? with
  |none=>rwa[e]at hi
  |some x =>
   rw[e]at hi;let#[rfl,rfl]:=SR (sS hi);let L:x∈tb:=wh e;let hd:=TT.hd x L;let dl:x.2.1≠l:=av hd G;let df:x.2.1≠fs:=TT.nf x L;let ap:i<tb.length:=(mu.mp e).1;let ER:=vi TT i;let bx:=(TT.hs x L).len;let eH:(upd (upd H l (.lst ((gL (tb.take i)).map V.int))) fs (.frz o (.dK (dk fF tb)))) l=some (.lst ((gL (tb.take i)).map V.int)):=(by rw[aj O,ae]);show#[0,.inl #[4,bD.of eH],0,p,C,dx,_,.ref fs,rfl,by rw[aj ad,aj ac];show h1,N.cl,N.nF,mH fs,0,fs,.ref x.2.1,rfl,.inl #[dk fF tb,.inl x.1,.inr #[o,ae],5],l,x.2.1,_,dk fS x.2.2,1,eH,by rw[aj df,aj dl];show hd,3]
   .rw[mJ,cw TT.nk L];rfl
   .rw[k9,cA];omega
   .show#[?_,0];rw[V6,e];funext b;cases z:b=l
    .rw[z,ae,aj O,ae];let ek:(dk fS x.2.2).map (λkv=>kV kv.1)=(x.2.2.map (·.1)).map V.int:=by
      unfold dk;rw[PB,PB];rfl
     rw[ek, <-IF];unfold gL;rw[RX];simp
    .rw[aj z];cases R:b=fs
     .rw[R,ae,ae]
     .rw[aj R,aj R,aj z,aj z]
 .let#[rfl,v',rfl]:=h;show#[fs,o,_,ae,S,?_];rw[cA,Pj];let e0:upd (upd (upd H l (.lst ((gL tb).map V.int))) fs (.frz o (.dK (dk fF tb)))) fs (.dK (dk fF tb))=upd H l (.lst ((gL tb).map V.int)):=by
   funext b;cases z:b=fs
   .rw[z,ae,aj (ro O)];show I.symm
   .rw[aj z,aj z]
  rw[e0];let ER:=vi TT tb.length;rw[Pj]at ER;let am:=au (X:=.lst ((gL tb).map V.int)) G;show#[0,l,gL tb,rfl,bD.of ae,kL TT,ag,λU ns' J hp hs=>?_];let ab:U≠l:=λz=>(by rwa[z,ae]at J);show k _ U ns' (am.trans (au J)) (by rw[aj ab]at J;show J) ae hp hs
end Tb
namespace Rm
open PySem L2
def top(i:Nat):Oz:=PySem.Challenge.pw_ownroom_k11_rooms_refused.main.body.getD i (.Pass #[(0),(0),(0),(0)])
abbrev iQ:Oz:=top 41
abbrev jJ:Oz:=top 42
abbrev tW:Oz:=top 43
abbrev oE:Oz:=top 44
abbrev kK:Oz:=top 45
abbrev uo:Oz:=top 46
abbrev DU:Oz:=top 47
theorem au{H:Hp}{l:Addr}{X:HO}(h:H l=none):aO H (upd H l X):=λb o e=>by rw[aj (av e h)];show e
theorem EV{H H':Hp}{l:Addr}{X:HO}(s:aO H H')(h:H l=none):aO H (upd H' l X):=λb o e=>by rw[aj (av e h)];show s b o e
structure pQ(K:HC)(mg:WW)(x:Str)(C:Addr):Prop where
 Ji:mg x=some (.ref C)
 JD:excIn K C BE "ValueError.__new__" = true
structure yc(mg:WW):Prop where
 vA:∃u,mg "ROOM_PAGES" = some u/\RelV (.int 64) u
 cells:∃u,mg "PAGE_CELLS" = some u/\RelV (.int 8) u
 list:mg "list" = none
 range:mg "range" = none
 len:mg "len" = none
def bH(p m:Int):Prop:=m<1\/p<0\/64<p+m
def aP(p m:Int):List Int:=(Ox m.toNat).map λk:Nat=>p+k
inductive dB(v:XD)(H:Hp)(Q:VK)(e:XK):Prop
 |mk(p m:Int)(_:v=[.int p,.int m])(_:¬ bH p m)(_:∀(H':Hp)(l:Addr),aO H H'->H l=none->H' l=some (.lst ((aP p m).map V.int))->Q (.ref l) H')
theorem jg(q:Int):∀F:List Int,IV (.int q) (F.map V.int)=decide (q∈F)
 | []=>rfl
 |m::F=>by
  let G:=jg q F;unfold IV at G ⊢;rw[Pn,T8,G];cases e:q=m
  .rw[e];simp[ny]
  .let I:m≠q:=ro e;simp[ny,e,I]
inductive iL(v:XD)(H:Hp)(Q:VK)(e:XK):Prop
 |mk(a b:Addr)(ms ps:W5)(_:v=[.ref a,.ref b])(_:H a=some (.lst (ms.map V.int)))(_:H b=some (.lst (ps.map V.int)))(_:(∀q∈ps,q∈ms))(_:Q .non H)
theorem LB:aE ["page","many"] ["page","many"] (aw iQ):=L2.bW
theorem tO(F:cD K "pages_from" "pages_from" iQ f fd)(T:yc mg):↥aX 1 f fd ["page","many"] dB:=by
 let#[ac,Y,O]:=T.vA;show F.dU LB ?_;intros;let#[p,m,rfl,G,L]:=h;let hs:=ti;let d1:¬ m<1:=λz=>G (.inl z);let R:¬ p<0:=λz=>G (.inr (.inl z));let d3:¬ 64<p+m:=λz=>G (.inr (.inr z));show#[_,(ai (bo (PW.pt (ie (aA gp (pv 1) ah (aH _)) (ie (aA gp (pv 0) ah (aH _)) (gT (aA gY (ar aZ (pv 0) (pv 1)) (aR (by rfl) Y O) (aH _)))))) cN aK)
  (ak (aG (bU (pj rfl) (by rfl) T.list eI (aa (bU Bl (by rfl) T.range Ce (aa (pv 0) (aa (ar aZ (pv 0) (pv 1)) af))) af))))),?_]
 show gc λ_ N S=>?_;clear N;show#[0,_,0,rfl,0,?_];show hV (λc=>absurd (of_decide_eq_true c) d1) (λ_=>?_);show#[0,_,0,rfl,0,?_];show hV (λc=>absurd (of_decide_eq_true c) R) (λ_=>?_);show#[0,0,_,0,4,0,rfl,0,?_];show Bj (λc=>absurd (of_decide_eq_true c) d3) (λ_=>S _ ?_);show#[0,0,0,_,0,rfl,p,p+m,rfl,λU ab=>?_];let J:=au (X:=.rng p (p+m)) ab;show#[U,p,m.toNat,rfl,by rw[ae,Q9 ag],ag,ag,ag,λl I=>?_];show L _ l (J.trans (au I)) (J.free I) ?_;rw[ae];unfold aP;rw[PB];rfl
theorem F3:aE ["mapped","pages","page"] ["mapped","pages"] (aw jJ):=L2.bW
theorem vY(F:cD K "refuse_unmapped" "refuse_unmapped" jJ f fd):↥aX 1 f fd ["mapped","pages"] iL:=by
 show F.dU F3 ?_;intros;let#[a,b,S,ps,rfl,L,I,O,J]:=h;show#[_,(ak (dy NC rfl (eE (pv 1)) (iW 2 F3.nd) (ak (bo (aA iR (pv 2) (pv 0) (by with_unfolding_all rfl)) cN aK)))),?_];show#[0,b,rfl,#[_,bD.of I],?_];show er (K:=K) (a:=b) (xs:=ps.map V.int) (λi σ H2=>∃v2:Option V,σ=#v[.ref a,.ref b,v2]/\H2=H) #[0,rfl] (λi σ H2 _ R=>by let#[_,_,e]:=R;rw[e];show bD.of I) ?_ ?_
 .rintro i x σ H2 G ⟨v2,rfl,rfl⟩;rw[t4]at G;let#[q,N,rfl]:=qw.mp G;show#[0,0,a,0,.inl (bD.of L),rfl,gZ _,0,?_];rw[jg,decide_eq_true (O q (wh N))];show cq #[0,rfl]
 .rintro σ H2 ⟨v2,rfl,rfl⟩;show J
theorem jR{p m:Int}(h:¬ bH p m):∀q∈aP p m,0<=q/\q<64/\q.natAbs.log2<1920:=λq F=>by
 unfold aP at F;let#[k,G,rfl]:=rk.mp F;rw[O0]at G;let h1:¬ m<1:=λz=>h (.inl z);let h2:¬ p<0:=λz=>h (.inr (.inl z));let I:¬ 64<p+m:=λz=>h (.inr (.inr z));show#[ag,ag,?_];cases z:(p+(k:Int)).natAbs=0
 .rw[z];decide
 .rw[log2_lt z];let J:(p+(k:Int)).natAbs<64:=ag;let L:(64:Nat)<2^1920:=aq;omega
inductive ou(v:XD)(H:Hp)(Q:VK)(e:XK):Prop
 |mk(a:Addr)(ms:W5)(p m:Int)(_:v=[.ref a,.int p,.int m])(_:H a=some (.lst (ms.map V.int)))(_:¬ bH p m)(_:(∀q∈aP p m,¬ q∈ms))(_:∀(H':Hp)(l:Addr),aO H H'->H l=none->H' l=some (.lst ((aP p m).map V.int))->Q (.ref l) H')
inductive oG(v:XD)(H:Hp)(Q:VK)(e:XK):Prop
 |mk(a:Addr)(ms:W5)(p m:Int)(_:v=[.ref a,.int p,.int m])(_:H a=some (.lst (ms.map V.int)))(_:¬ bH p m)(_:(∀q∈aP p m,q∈ms))(_:∀(H':Hp)(l:Addr),aO H H'->H l=none->H' l=some (.lst ((aP p m).map V.int))->Q (.ref l) H')
def eL(ad:Int):Int:=ad/8
def eJ(ad n:Int):Int:=(ad+n-1)/8-ad/8+1
def cQ(ad n:Int)(F:W5):Prop:=n<0\/(0<n/\(bH (eL ad) (eJ ad n)\/¬ ∀q∈aP (eL ad) (eJ ad n),q∈F))
def bq(ad n:Int):List Int:=if n=0 then[]else aP (eL ad) (eJ ad n)
inductive gF(v:XD)(H:Hp)(Q:VK)(e:XK):Prop
 |mk(a:Addr)(ms:W5)(ad n:Int)(_:v=[.ref a,.int ad,.int n])(_:H a=some (.lst (ms.map V.int)))(_:¬ cQ ad n ms)(_:∀(H':Hp)(l:Addr),aO H H'->H l=none->H' l=some (.lst ((bq ad n).map V.int))->Q (.ref l) H')
theorem yx:aE ["mapped","page","many","pages","wanted"] ["mapped","page","many"] (aw tW):=L2.bW
theorem DG(F:cD K "pages_to_map" "pages_to_map" tW f fd)(S:↥Df 1 "pages_from" dB):↥aX 2 f fd ["mapped","page","many"] ou:=by
 show F.dU yx ?_;intros;let#[a,ms,p,m,rfl,Y,R,U,O]:=h;show#[_,(ai (cK 3 yx.nd (pc S hr ax (aa (pv 1) (aa (pv 2) af))))
  (ai (dy NC rfl (eE (pv 3)) (iW 4 yx.nd) (ak (bo (aA rO (pv 4) (pv 0) (by with_unfolding_all rfl)) cN aK)))
  (ak (aG (pv 3))))),?_]
 show#[0,0,p,m,rfl,R,λH1 l L N I=>?_];show#[0,l,rfl,#[_,bD.of I],?_];show er (K:=K) (a:=l) (xs:=(aP p m).map V.int) (λi σ H2=>∃G:Option V,σ=#v[.ref a,.int p,.int m,.ref l,G]/\H2=H1) #[0,rfl] (λi σ H2 _ z0=>by let#[_,_,e]:=z0;rw[e];show bD.of I) ?_ ?_
 .rintro i x σ H2 J ⟨G,rfl,rfl⟩;rw[t4]at J;let#[q,ab,rfl]:=qw.mp J;show#[0,0,a,0,.inl (bD.of (L _ _ Y)),rfl,gZ _,0,?_];rw[jg,decide_eq_false (U q (wh ab))];show cq #[0,rfl]
 .rintro σ H2 ⟨G,rfl,rfl⟩;show#[0,O _ l L N I]
theorem BJ:aE ["mapped","page","many","pages"] ["mapped","page","many"] (aw oE):=L2.bW
theorem Av(F:cD K "pages_to_drop" "pages_to_drop" oE f fd)(O:↥Df 1 "pages_from" dB)(U:↥Df 1 "refuse_unmapped" iL):↥aX 2 f fd ["mapped","page","many"] oG:=by
 show F.dU BJ ?_;intros;let#[a,R,p,m,rfl,Y,N,S,L]:=h;show#[_,(ai (cK 3 BJ.nd (pc O hr ax (aa (pv 1) (aa (pv 2) af))))
  (ai (aQ (pc U hr ax (aa (pv 0) (aa (pv 3) af))))
  (ak (aG (pv 3))))),?_]
 show#[0,0,p,m,rfl,N,λH1 l G J I=>?_];show#[0,0,a,l,R,aP p m,rfl,G _ _ Y,I,S,#[0,L _ l G J I]]
theorem oY:aE ["mapped","address","many","first","last","pages"] ["mapped","address","many"] (aw kK):=L2.bW
theorem wR(F:cD K "pages_of_cells" "pages_of_cells" kK f fd)(T:yc mg)(GP:↥Df 1 "pages_from" dB)(GU:↥Df 1 "refuse_unmapped" iL):↥aX 2 f fd ["mapped","address","many"] gF:=by
 let#[u8,R,S]:=T.cells;show F.dU oY ?_;intros;let#[a,N,ad,n,rfl,ha,G,L]:=h;show#[_,(ai (bo (aA bZ (pv 2) ah (aH _)) (ak (aG (bz af))) aK)
  (ai (bo (aA gp (pv 2) ah (aH _)) cN aK)
  (ai (cK 3 oY.nd (ar aV (pv 1) (aR (by rfl) R S)))
  (ai (cK 4 oY.nd (ar aV (ar du (ar aZ (pv 1) (pv 2)) ah) (aR (by rfl) R S)))
  (ai (cK 5 oY.nd (pc GP hr ax (aa (pv 3) (aa (ar aZ (ar du (pv 4) (pv 3)) ah) af))))
  (ai (aQ (pc GU hr ax (aa (pv 0) (aa (pv 5) af))))
  (ak (aG (pv 5))))))))),?_]
 show#[0,rfl,0,?_];show hV (λc=>?_) (λc=>?_)
 .let e:n=0:=V.int.inj (of_decide_eq_true c);show#[ao,λl I=>?_];show L _ l (au I) I ?_;rw[ae];unfold bq;rw[WQ e];rfl
 let ne:¬ n=0:=λz=>c (decide_eq_true (by rw[z]));let nn:¬ n<0:=λz=>G (.inl z);let J:0<n:=ag;let np:¬ bH (eL ad) (eJ ad n):=λz=>G (.inr #[J,.inl z]);let ni:∀q∈aP (eL ad) (eJ ad n),q∈N:=PD λz=>G (.inr #[J,.inr z]);show#[0,_,0,rfl,0,?_];show hV (λc'=>absurd (of_decide_eq_true c') nn) (λ_=>?_);show#[0,_,0,rfl,#[ao,ao],0,0,_,0,4,0,4,0,rfl,#[ao,ao],?_];show#[0,0,0,_,0,4,0,rfl,eL ad,eJ ad n,rfl,np,λH1 l O Y U=>?_];show#[0,0,a,l,N,aP (eL ad) (eJ ad n),rfl,O _ _ ha,U,ni,#[0,L _ l O Y ?_]];unfold bq;rw[WO ne];show U
theorem tU{ws:W5}{s n:Nat}:gv (ws.map V.int) (some (s:Int)) (some ((s:Int)+(n:Int)))=((ws.drop s).take n).map V.int:=by
 unfold gv;rw[k9,HT.nZ,show((s:Int)+(n:Int))=((s+n:Nat):Int)by push_cast;rfl,HT.nZ, <-Wh, <-map_take];congr 1;cases h:s<=ws.length
 .rw[SQ h];cases h2:s+n<=ws.length
  .rw[SQ h2,show s+n-s=n by omega]
  .rw[Sd ag,OV (by rw[P4];omega),OV (by rw[P4];omega)]
 .rw[Sd ag,Sd ag,QB (rr _),QB ag];simp
theorem oQ{ws:W5}{s:Nat}:gv (ws.map V.int) none (some (s:Int))=(ws.take s).map V.int:=by
 unfold gv;rw[k9,HT.nZ,show HT.dY ws.length 0 none=0 from rfl,VY,Nat.sub_zero, <-map_take];congr 1;cases h:s<=ws.length
 .rw[SQ h]
 .rw[Sd ag,OV (rr _),OV ag]
theorem An{ws:W5}{s:Nat}:gv (ws.map V.int) (some (s:Int)) none=(ws.drop s).map V.int:=by
 unfold gv;rw[k9,HT.nZ,show HT.dY ws.length ws.length none=ws.length from rfl, <-Wh, <-map_take];congr 1;cases h:s<=ws.length
 .rw[SQ h,OV (by rw[P4];omega)]
 .rw[Sd ag,QB (rr _),QB ag];simp
theorem eh{K:HC}{H H':Hp}{a:Addr}{xs:XD}(h:bD K H a xs)(s:∀o,H a=some o->H' a=some o):bD K H' a xs:=by
 rcases h with(h|⟨o,h⟩)|h
 .show .inl (.inl (s _ h))
 .show .inl (.inr #[o,s _ h])
 .show .inr h
theorem wV{α I:Type}{F G:α->I->Prop}(h:∀x y,F x y->G x y):∀{xs:List α}{ys:List I},Paired F xs ys->Paired G xs ys
 |_,_,.nil=>.nil
 |_,_,.cons q t=>.cons (h _ _ q) (wV h t)
theorem xY{α G:Type}{F:α->G->Prop}{xs I:List α}{ys J:List G}(p:Paired F xs ys)(h:Paired F I J):Paired F (xs++I) (ys++J):=by
 induction p with
 |nil=>show h
 |cons q _ L=>show .cons q L
theorem xf{α G:Type}{F:α->G->Prop}{x:α}{xs:List α}{ys:List G}(p:Paired F xs ys)(h:x∈xs):∃y,F x y:=by
 induction p with
 |nil=>cases h
 |cons q _ I =>
  rcases t7.mp h with e|h
  .show#[_,e▸q]
  .show I h
inductive kI(v:XD)(H:Hp)(Q:VK)(e:XK):Prop
 |mk(a:Addr)(ws:W5)(ad:Int)(n:Nat)(_:v=[.ref a,.int ad,.int n])(_:H a=some (.lst (ws.map V.int)))(_:∀(H':Hp)(l:Addr),aO H H'->H l=none->H' l=some (.lst (((ws.drop (ad%8).toNat).take n).map V.int))->Q (.ref l) H')
def f6(ws:W5)(s:Nat)(cs:W5):List Int:=ws.take s++cs++ws.drop (s+cs.length)
def ju(k:Nat)(ws:W5):List (List Int):=(Ox k).map λi=>(ws.drop (8*i)).take 8
inductive ur(K:HC)(v:XD)(H:Hp)(Q:VK)(e:XK):Prop
 |mk (a c:Addr) (ws cs:W5) (ad:Int) (k:Nat) (_:v=[.ref a,.int ad,.ref c]) (_:H a=some (.lst (ws.map V.int))) (_:bD K H c (cs.map V.int)) (_:ws.length<=600) (_:cs.length<=600) (_:k<=64) (_:(f6 ws (ad%8).toNat cs).length=8*k) (_:∀(H':Hp)(l:Addr)(rs:W7),aO H H'->H l=none->H' l=some (.lst (rs.map V.ref))->Paired (λr (row:W5)=>H' r=some (.lst (row.map V.int))) rs (ju k (f6 ws (ad%8).toNat cs))->(∀r∈rs,H r=none)->rs.Nodup->Q (.ref l) H'):ur K v H Q e
theorem Na:∀k:Nat,k<65->Builtin.Range.small 0 (8*(k:Int)) 8=true/\Builtin.Range.rangeSize 0 (8*(k:Int)) 8=(k:Int)/\Builtin.divisionGoesByPylong (8*(k:Int)-0) 8=false:=aq
theorem KJ:aE ["whole","address","many","start"] ["whole","address","many"] (aw uo):=L2.bW
theorem z8(F:cD K "run_within" "run_within" uo f fd)(T:yc mg):↥aX 1 f fd ["whole","address","many"] kI:=by
 let#[R,L,N]:=T.cells;show F.dU KJ ?_;intros;let#[a,ws,ad,n,rfl,O,k]:=h;show#[_,(ai (cK 3 KJ.nd (ar aM (pv 1) (aR (by rfl) L N)))
  (ak (aG (cZ gD (pv 0) (de (pv 3)) (de (ar aZ (pv 3) (pv 2))))))),?_]
 show#[0,_,0,rfl,xG,?_];let I:=Oq ad (show(8:Int)≠0 by decide);show#[0,0,ad%8,rfl,0,0,_,0,rfl,ad%8+n,rfl,a,0,bD.of O,λl G=>?_];let e:ad%8=((ad%8).toNat:Int):=(Q9 I).symm;let J:gv (ws.map V.int) (some (ad%8)) (some (ad%8+n))=((ws.drop (ad%8).toNat).take n).map V.int:=by
  rw[e];show tU
 show k _ l (au G) G (by rw[ae,J])
theorem HI:aE ["whole","address","cells","start","changed"] ["whole","address","cells"] (aw DU):=L2.bW
theorem FK(F:cD K "pages_with" "pages_with" DU f fd)(T:yc mg):↥aX 1 f fd ["whole","address","cells"] (ur K):=by
 let#[u8,m8,U]:=T.cells;show F.dU HI ?_;intros;let#[a,c,ws,cs,ad,j,rfl,ha,hc,hw,a3,hj,aB,k]:=h;let hs:=ti;show#[_,(ai (cK 3 HI.nd (ar aM (pv 1) (aR (by rfl) m8 U)))
  (ai (cK 4 HI.nd (ar fK (ar fK (cZ gD (pv 0) fw (de (pv 3))) (bU dE (by rfl) T.list eI (aa (pv 2) af))) (cZ gD (pv 0) (de (ar aZ (pv 3) (aL bu (by rfl) T.len boot_len (aa (pv 2) af)))) fw)))
  (ak (aG (gO (cl:=[("changed",s⁻¹+1)]) (caps:=[("changed",4)]) #[rfl,aq,aq,rfl,by kernel_rfl,by intro p G;simp only[t7,vr,or_false]at G;rcases G with rfl<;>first|rfl|show#[rfl,.inl rfl,.inl rfl]|show#[rfl,.inl rfl,.inr rfl],by kernel_rfl,by intro p G;simp only[t7,vr,or_false]at G;rcases G with rfl<;>first|rfl|show#[rfl,.inl rfl,.inl rfl]|show#[rfl,.inl rfl,.inr rfl],aq] rfl (Aq (by rfl) T.range (aa ah (aa (aL bu (by rfl) T.len boot_len (aa (pv 4) af)) (aa (aR (by rfl) m8 U) af)))) (λ_ _ _ _=>gg) (λ_ _ _ _=>(cZ (show Ln _ (JA K)from gD) (pv 1) (de (pv 0)) (de (ar aZ (pv 0) (aR (by rfl) m8 U)))))))))),?_]
 show dv λ_ jt=>?_;show#[0,_,0,rfl,xG,?_];let m0:=Oq ad (show(8:Int)≠0 by decide);let e:ad%8=((ad%8).toNat:Int):=(Q9 m0).symm;show jt _ _ ?_;change cB _ _ _ [some (V.ref a),some (.int ad),some (.ref c),some (.int (ad%8)),none] H;rw[e];generalize (ad%8).toNat=st at *;clear e m0;show dv λ_ jt=>?_;show#[0,0,(st:Int),rfl,a,0,bD.of ha,λN a1=>?_];rw[oQ];let s1:=au (X:=.lst ((ws.take st).map V.int)) a1;let e1:(upd H N (.lst ((ws.take st).map V.int))) N=some (.lst ((ws.take st).map V.int)):=ae;show#[0,c,0,.inl (eh hc (s1 _)),λl2 a2=>?_];let s2:=au (X:=.lst (cs.map V.int)) a2;show#[N,l2,_,0,rfl,s2 _ _ e1,ae,by rw[k9,k9,Om];omega,λS aD=>?_];rw[<-IF];let s3:=au (X:=.lst ((ws.take st++cs).map V.int)) aD;let S3:=(s1.trans s2).trans s3;let e3:(upd (upd (upd H N (.lst ((ws.take st).map V.int))) l2 (.lst (cs.map V.int))) S (.lst ((ws.take st++cs).map V.int))) S=some (.lst ((ws.take st++cs).map V.int)):=ae;generalize upd (upd (upd H N (.lst ((ws.take st).map V.int))) l2 (.lst (cs.map V.int))) S (.lst ((ws.take st++cs).map V.int))=H3 at *;show#[0,0,0,c,0,.inl (eh hc (S3 _)),_,0,rfl,0,a,0,bD.of (S3 _ _ ha),λR aT=>?_];rw[show((st:Int)+((cs.map V.int).length:Nat))=((st+cs.length:Nat):Int)by rw[k9];push_cast;rfl,An];let s4:=au (X:=.lst ((ws.drop (st+cs.length)).map V.int)) aT;show#[S,R,_,0,rfl,s4 _ _ e3,ae,by rw[k9,k9,G1,Om,P4];omega,λJ a0=>?_];rw[<-IF,show ws.take st++cs++ws.drop (st+cs.length)=f6 ws st cs from rfl];let Y:aO H (upd (upd H3 R (.lst ((ws.drop (st+cs.length)).map V.int))) J (.lst ((f6 ws st cs).map V.int))):=(S3.trans s4).trans (au a0);let e5:(upd (upd H3 R (.lst ((ws.drop (st+cs.length)).map V.int))) J (.lst ((f6 ws st cs).map V.int))) J=some (.lst ((f6 ws st cs).map V.int)):=ae;generalize upd (upd H3 R (.lst ((ws.drop (st+cs.length)).map V.int))) J (.lst ((f6 ws st cs).map V.int))=H5 at *;generalize f6 ws st cs=sp at *;let#[r1,r2,r3]:=Na j ag;show jt _ _ (Mt λ_ jr=>?_);show#[0,J,0,.inl (bD.of e5),(0),8*(j:Int),(8),j,by rw[k9,aB];push_cast;rfl,r1,r2,ao,r3,?_];show ud (lo:=0) (st:=8) (n:=j) (λi ys O=>∃rs:List Addr,Bu (ys=rs.map V.ref) (rs.length=i) (Paired (λr (am:W5)=>O r=some (.lst (am.map V.int))) rs (ju i sp)) (aO H5 O) ((∀r∈rs,H5 r=none)) rs.Nodup) #[[],1,.nil,aO.refl _,(λ_ h=>nomatch h),Qr] ?_ ?_
 .rintro i ys O hi ⟨rs,rfl,ap,G,L,hn,nd⟩;show#[0,0,0,0,_,0,rfl,0,J,0,bD.of (L _ _ e5),λr ab=>?_];rw[show(0+(i:Int)*8)=((8*i:Nat):Int)by push_cast;omega,show(((8*i:Nat):Int)+8)=((8*i:Nat):Int)+((8:Nat):Int)from rfl,tU];let sr:=au (X:=.lst (((sp.drop (8*i)).take 8).map V.int)) ab;show#[by rw[k9];omega,rs++[r],by rw[IF];rfl,by rw[G1,ap];rfl,?_,L.trans sr,λx I=>?_,?_]
  .unfold ju at G ⊢;rw[UH,IF];show xY (wV (λx y h=>sr _ _ h) G) (.cons ae .nil)
  .rcases qj.mp I with I|I
   .show hn x I
   .rw[oR.mp I];show L.free ab
  .show Rp.mpr #[nd,Ot.mpr #[by simp,Qr],λx I y hy=>?_];rw[oR.mp hy];intro z;let#[am,ac]:=xf G I;rwa[z,ab]at ac
 .rintro ys O ⟨rs,rfl,ap,G,L,hn,nd⟩ l6 as;let s7:=au (X:=.lst (rs.map V.ref)) as;show jr _ _ (k _ l6 rs ((Y.trans L).trans s7) ((Y.trans L).free as) ae (wV (λx y h=>s7 _ _ h) G) (λr h=>Y.free (hn r h)) nd)
end Rm
namespace Pg
def upd{α:Type}(f:Bool->α)(b:Bool)(v:α):Bool->α:=λc=>if c=b then v else f c
def eQ{α:Type}(f:Int->α)(k:Int)(v:α):Int->α:=λj=>if j=k then v else f j
theorem ae{α:Type}{f:Bool->α}{b:Bool}{v:α}:upd f b v b=v:=WQ rfl
theorem bC{α:Type}{f:Bool->α}{b c:Bool}{v:α}(h:c≠b):upd f b v c=f c:=WO h
theorem bO{α:Type}{f:Int->α}{b:Int}{v:α}:eQ f b v b=v:=WQ rfl
theorem aN{α:Type}{f:Int->α}{b c:Int}{v:α}(h:c≠b):eQ f b v c=f c:=WO h
structure PS where
 ow:Bool->List Int
 co:Bool->List (Option (List Int))
 pl:Int->Option (Bool×Nat)
 ls:Int
 inf:List Int
def Vw(s:PS)(k:Int)(cs:W5)(c:Int):Prop:=∃b n,s.pl k=some (b,n)/\(s.co b)[n]?=some (some cs)/\(s.ow b)[n]?=some c
structure Good(s:PS):Prop where
 rg:∀k p,s.pl k=some p->1<=k/\k<=s.ls
 va:∀k b n,s.pl k=some (b,n)->∃cs c,(s.co b)[n]?=some (some cs)/\(s.ow b)[n]?=some c/\1<=c/\cs.length=8
 inj:∀k j p,s.pl k=some p->s.pl j=some p->k=j
 on:∀b n c,(s.ow b)[n]?=some c->c=0\/∃k,s.pl k=some (b,n)
 ln:∀b,(s.co b).length=(s.ow b).length
 nd:s.inf.Nodup
 fi:∀k,k∈s.inf↔∃n,s.pl k=some (true,n)
def y8(s:PS)(b:Bool)(k:Int)(cs:W5)(c:Int):PS :=
 { ow:=upd s.ow b ((s.ow b).set ((s.ow b).idxOf 0) c),co:=upd s.co b ((s.co b).set ((s.ow b).idxOf 0) (some cs)),pl:=eQ s.pl k (some (b,(s.ow b).idxOf 0)),ls:=s.ls,inf:=if b=true then s.inf++[k]else s.inf }
def q8(s:PS)(k:Int)(b:Bool)(n:Nat):PS :=
 { ow:=upd s.ow b ((s.ow b).set n 0),co:=s.co,pl:=eQ s.pl k none,ls:=s.ls,inf:=s.inf.erase k }
def cU(s:PS)(b:Bool)(n:Nat)(c:Int):PS:={ s with ow:=upd s.ow b ((s.ow b).set n c) }
def write(s:PS)(b:Bool)(n:Nat)(cs:W5):PS:={ s with co:=upd s.co b ((s.co b).set n (some cs)) }
theorem xE{l:W5}(h:(0:Int)∈l):l[l.idxOf 0]?=some 0:=by
 let F:l.idxOf 0<l.length:=Pp.mpr h;rw[L1 F,Sv F]
theorem xB{l:W5}(h:(0:Int)∈l):l.idxOf 0<l.length:=Pp.mpr h
section
variable{s:PS}{b:Bool}{k:Int}{cs:W5}{c:Int}{n:Nat}
theorem zR(G:Good s)(h:(0:Int)∈s.ow b):∀j,s.pl j≠some (b,(s.ow b).idxOf 0):=by
 intro j e;let#[cs,c,_,h2,F,_]:=G.va _ _ _ e;rwa[xE h]at h2;omega
theorem pX(G:Good s)(h0:(0:Int)∈s.ow b)(U:s.pl k=none)(h1:1<=k)(h2:k<=s.ls)(h3:1<=c)(h4:cs.length=8):Good (y8 s b k cs c):=by
 let hl:=xB h0;let Y:=zR G h0;let ab:(s.ow b).idxOf 0<(s.co b).length:=(by rw[G.ln b];show hl);show#[3,3,3,?_]
 .intro j p e;cases J:j=k
  .subst J;show#[h1,h2]
  .show G.rg j p (by rw[<-e];show(aN J).symm)
 .intro j I O e;cases J:j=k
  .subst J;let e:some (b,(s.ow b).idxOf 0)=some (I,O):=(by rw[<-e];show bO.symm);cases e;show#[cs,c,3,h3,h4]
   .change(upd s.co b _ b)[_]?=_;rw[ae,OL ab]
   .change(upd s.ow b _ b)[_]?=_;rw[ae,OL hl]
  .let N:s.pl j=some (I,O):=(by rw[<-e];show(aN J).symm);let#[ac,c',e1,e2,e3,e4]:=G.va _ _ _ N;show#[ac,c',3,e3,e4]
   .change(upd s.co b _ I)[_]?=_;cases F:I=b
    .subst F;rw[ae,OB (λq=>Y j (by rw[N,q]))];show e1
    .rw[bC F];show e1
   .change(upd s.ow b _ I)[_]?=_;cases F:I=b
    .subst F;rw[ae,OB (λq=>Y j (by rw[N,q]))];show e2
    .rw[bC F];show e2
 .intro j R p e L;cases J:j=k
  .by_cases S:R=k
   .rw[J,S]
   .subst J;let e:some (b,(s.ow b).idxOf 0)=some p:=(by rw[<-e];show bO.symm);let L:s.pl R=some p:=(by rw[<-L];show(aN S).symm);show absurd (L.trans e.symm) (Y R)
  .let N:s.pl j=some p:=(by rw[<-e];show(aN J).symm);cases S:R=k
   .subst S;let L:some (b,(s.ow b).idxOf 0)=some p:=(by rw[<-L];show bO.symm);show absurd (N.trans L.symm) (Y j)
   .let L:s.pl R=some p:=(by rw[<-L];show(aN S).symm);show G.inj _ _ _ N L
 .intro I O c' e;let e:(upd s.ow b ((s.ow b).set ((s.ow b).idxOf 0) c) I)[O]?=some c':=e;cases F:I=b
  .subst F;cases en:(s.ow I).idxOf 0=O
   .show .inr #[k,by change eQ s.pl k _ k=_;rw[bO,en]]
   .rw[ae,OB en]at e;rcases G.on _ _ _ e with h|⟨j,h⟩
    .show .inl h
    .show .inr #[j,?_];change eQ s.pl k _ j=_;rw[aN (λq=>by rwa[q,U]at h)];show h
  .rw[bC F]at e;rcases G.on _ _ _ e with h|⟨j,h⟩
   .show .inl h
   .show .inr #[j,?_];change eQ s.pl k _ j=_;rw[aN (λq=>by rwa[q,U]at h)];show h
 .intro I;change(upd s.co b _ I).length=(upd s.ow b _ I).length;cases F:I=b
  .subst F;rw[ae,ae,OR,OR];show G.ln _
  .rw[bC F,bC F];show G.ln _
 .change(if b=true then s.inf++[k]else s.inf).Nodup;cases F:b=true
  .rw[WQ F];show Rp.mpr #[G.nd,by simp,?_];intro x hx y hy e;rw[oR]at hy;subst hy;subst e;let#[m,hm]:=(G.fi x).mp hx;rwa[U]at hm
  .rw[WO F];show G.nd
 .intro j;change j∈(if b=true then s.inf++[k]else s.inf)↔∃m,eQ s.pl k (some (b,(s.ow b).idxOf 0)) j=some (true,m);cases J:j=k
  .subst J;rw[bO];cases F:b=true
   .subst F;rw[WQ rfl];show#[λ_=>#[0],λ_=>by simp]
   .rw[WO F,G.fi];show#[λ⟨m,h⟩=>(by rwa[U]at h),λ⟨m,h⟩=>(by cases h;show absurd rfl F)]
  .rw[aN J, <-G.fi];cases F:b=true
   .rw[WQ F];simp[J]
   .rw[WO F]
theorem qI(F:(0:Int)∈s.ow b)(G:Good s):Vw (y8 s b k cs c) k cs c:=by
 show#[b,(s.ow b).idxOf 0,bO,3]
 .change(upd s.co b _ b)[_]?=_;rw[ae,OL (by rw[G.ln b];show xB F)]
 .change(upd s.ow b _ b)[_]?=_;rw[ae,OL (xB F)]
theorem mO(G:Good s)(h0:(0:Int)∈s.ow b){j:Int}(U:j≠k){S:W5}{R:Int}:Vw (y8 s b k cs c) j S R↔Vw s j S R:=by
 let Y:=zR G h0;let A:∀F I,s.pl j=some (F,I)->((y8 s b k cs c).co F)[I]?=(s.co F)[I]?/\((y8 s b k cs c).ow F)[I]?=(s.ow F)[I]?:=by
  intro F I e;change(upd s.co b _ F)[I]?=_/\(upd s.ow b _ F)[I]?=_;cases N:F=b
  .subst N;have:(s.ow F).idxOf 0≠I:=λq=>Y j (by rw[e,q]);rw[ae,ae,OB this,OB this];show#[1]
  .rw[bC N,bC N];show#[1]
 constructor
 .rintro⟨F,I,J,L,O⟩;let J:s.pl j=some (F,I):=(by rw[<-J];show(aN U).symm);show#[F,I,J,by rw[<-(A _ _ J).1];show L,by rw[<-(A _ _ J).2];show O]
 .rintro⟨F,I,J,L,O⟩;show#[F,I,(aN U).trans J,by rw[(A _ _ J).1];show L,by rw[(A _ _ J).2];show O]
theorem lq(G:Good s)(L:s.pl k=some (b,n)):Good (q8 s k b n):=by
 let#[ac,c0,g1,g2,_,_]:=G.va _ _ _ L;let hn:n<(s.ow b).length:=(mu.mp g2).1;let up:∀{j p},(q8 s k b n).pl j=some p->j≠k/\s.pl j=some p:=by
  intro j p e;cases F:j=k
  .subst F;let N:(none:Option (Bool×Nat))=some p:=(by rw[<-e];show bO.symm);cases N
  .show#[F,by rw[<-e];show(aN F).symm]
 show#[3,3,3,?_]
 .intro j p e;show G.rg j p (up e).2
 .intro j J O e;let#[F,N]:=up e;let#[ab,R,e1,U,e3,e4]:=G.va _ _ _ N;show#[ab,R,e1,?_,e3,e4];change(upd s.ow b _ J)[_]?=_;cases I:J=b
  .subst I;rw[ae,OB (λq=>F (G.inj _ _ _ N (by rw[L,q])))];show U
  .rw[bC I];show U
 .intro j j' p e Y;show G.inj _ _ _ (up e).2 (up Y).2
 .intro J O R e;let e:(upd s.ow b ((s.ow b).set n 0) J)[O]?=some R:=e;cases I:J=b
  .subst I;cases S:n=O
   .subst S;rwa[ae,OL hn]at e;show .inl rfl
   .rw[ae,OB S]at e;rcases G.on _ _ _ e with h|⟨j,h⟩
    .show .inl h
    .show .inr #[j,?_];change eQ s.pl k _ j=_;rw[aN (λq=>by rwa[q,L]at h;show S rfl)];show h
  .rw[bC I]at e;rcases G.on _ _ _ e with h|⟨j,h⟩
   .show .inl h
   .show .inr #[j,?_];change eQ s.pl k _ j=_;rw[aN (λq=>by rwa[q,L]at h;show I rfl)];show h
 .intro J;change(s.co J).length=(upd s.ow b _ J).length;cases I:J=b
  .subst I;rw[ae,OR];show G.ln _
  .rw[bC I];show G.ln _
 .show G.nd.erase k
 .intro j;change j∈s.inf.erase k↔∃m,eQ s.pl k none j=some (true,m);rw[Q7 G.nd,G.fi];cases F:j=k
  .subst F;rw[bO];show#[λh=>absurd rfl h.1,λ⟨m,h⟩=>by cases h]
  .rw[aN F];show#[λh=>h.2,λh=>#[F,h]]
theorem jV(G:Good s)(Y:s.pl k=some (b,n)){j:Int}(N:j≠k){U:W5}{S:Int}:Vw (q8 s k b n) j U S↔Vw s j U S:=by
 let A:∀F I,s.pl j=some (F,I)->((q8 s k b n).ow F)[I]?=(s.ow F)[I]?:=by
  intro F I e;change(upd s.ow b _ F)[I]?=_;cases R:F=b
  .subst R;rw[ae,OB (λq=>N (G.inj _ _ _ e (by rw[Y,q])))]
  .rw[bC R]
 constructor
 .rintro⟨F,I,J,L,O⟩;let J:s.pl j=some (F,I):=(by rw[<-J];show(aN N).symm);show#[F,I,J,L,by rw[<-A _ _ J];show O]
 .rintro⟨F,I,J,L,O⟩;show#[F,I,(aN N).trans J,L,by rw[A _ _ J];show O]
theorem wz(G:Good s)(F:s.pl k=some (b,n)):(0:Int)∈(q8 s k b n).ow b:=by
 let#[L,J,N,g2,_,_]:=G.va _ _ _ F;let I:n<(s.ow b).length:=(mu.mp g2).1;change(0:Int)∈upd s.ow b _ b;rw[ae];show wh (OL I)
theorem kF(G:Good s)(R:s.pl k=some (b,n))(hc:1<=c):Good (cU s b n c):=by
 let#[ac,c0,g1,g2,_,g4]:=G.va _ _ _ R;let hn:n<(s.ow b).length:=(mu.mp g2).1;show#[G.rg,?_,G.inj,3,G.nd,G.fi]
 .intro j F J e;let#[ab,O,e1,S,U,e4]:=G.va j F J e;let A:∃N,(upd s.ow b ((s.ow b).set n c) F)[J]?=some N/\1<=N:=by
   cases I:F=b
   .subst I;rw[ae];cases L:n=J
    .subst L;show#[c,OL hn,hc]
    .rw[OB L];show#[O,S,U]
   .rw[bC I];show#[O,S,U]
  let#[N,Y,a2]:=A;show#[ab,N,e1,Y,a2,e4]
 .intro F J O e;let e:(upd s.ow b ((s.ow b).set n c) F)[J]?=some O:=e;cases I:F=b
  .subst I;rw[ae]at e;cases L:n=J
   .subst L;show .inr #[k,R]
   .rw[OB L]at e;show G.on _ _ _ e
  .rw[bC I]at e;show G.on _ _ _ e
 .intro F;change(s.co F).length=(upd s.ow b _ F).length;cases I:F=b
  .subst I;rw[ae,OR];show G.ln _
  .rw[bC I];show G.ln _
theorem j9(G:Good s)(F:s.pl k=some (b,n)){L:Int}(h:Vw s k cs L):Vw (cU s b n c) k cs c:=by
 let#[R,O,I,J,N]:=h;rwa[F]at I;show#[b,n,F,J,?_];change(upd s.ow b _ b)[_]?=_;rw[ae,OL (mu.mp N).1]
theorem eR(G:Good s)(U:s.pl k=some (b,n)){j:Int}(Y:j≠k){S:W5}{R:Int}:Vw (cU s b n c) j S R↔Vw s j S R:=by
 let A:∀F I,s.pl j=some (F,I)->((cU s b n c).ow F)[I]?=(s.ow F)[I]?:=by
  intro F I e;change(upd s.ow b _ F)[I]?=_;cases O:F=b
  .subst O;rw[ae,OB (λq=>Y (G.inj _ _ _ e (by rw[U,q])))]
  .rw[bC O]
 constructor
 .rintro⟨F,I,J,L,N⟩;show#[F,I,J,L,by rw[<-A _ _ J];show N]
 .rintro⟨F,I,J,L,N⟩;show#[F,I,J,L,by rw[A _ _ J];show N]
theorem xq(G:Good s)(U:s.pl k=some (b,n))(hc:cs.length=8):Good (write s b n cs):=by
 let#[ab,c0,g1,g2,_,g4]:=G.va _ _ _ U;let hn:n<(s.co b).length:=(mu.mp g1).1;show#[G.rg,?_,G.inj,G.on,?_,G.nd,G.fi]
 .intro j F L e;let#[S,c',R,Y,e3,O]:=G.va j F L e;let A:∃J,(upd s.co b ((s.co b).set n (some cs)) F)[L]?=some (some J)/\J.length=8:=by
   cases I:F=b
   .subst I;rw[ae];cases N:n=L
    .subst N;show#[cs,OL hn,hc]
    .rw[OB N];show#[S,R,O]
   .rw[bC I];show#[S,R,O]
  let#[J,a1,a2]:=A;show#[J,c',a1,Y,e3,a2]
 .intro F;change(upd s.co b _ F).length=(s.ow F).length;cases I:F=b
  .subst I;rw[ae,OR];show G.ln _
  .rw[bC I];show G.ln _
theorem Eg(G:Good s)(F:s.pl k=some (b,n)){L:W5}(h:Vw s k L c):Vw (write s b n cs) k cs c:=by
 let#[R,O,I,J,N]:=h;rwa[F]at I;show#[b,n,F,?_,N];change(upd s.co b _ b)[_]?=_;rw[ae,OL (mu.mp J).1]
theorem iZ(G:Good s)(U:s.pl k=some (b,n)){j:Int}(Y:j≠k){S:W5}{R:Int}:Vw (write s b n cs) j S R↔Vw s j S R:=by
 let A:∀F I,s.pl j=some (F,I)->((write s b n cs).co F)[I]?=(s.co F)[I]?:=by
  intro F I e;change(upd s.co b _ F)[I]?=_;cases O:F=b
  .subst O;rw[ae,OB (λq=>Y (G.inj _ _ _ e (by rw[U,q])))]
  .rw[bC O]
 constructor
 .rintro⟨F,I,J,L,N⟩;show#[F,I,J,by rw[<-A _ _ J];show L,N]
 .rintro⟨F,I,J,L,N⟩;show#[F,I,J,by rw[A _ _ J];show L,N]
end
end Pg
namespace Pg
theorem sum_set{l:W5}{n:Nat}{x y:Int}(h:l[n]?=some x):(l.set n y).sum=l.sum-x+y:=by
 induction l generalizing n with
 |nil=>cases h
 |cons a l F =>
  cases n with
  |zero =>
   cases h;change(y::l).sum=_;simp only[Qg];omega
  |succ n =>
   let h:l[n]?=some x:=h;change(a::l.set n y).sum=_;simp only[Qg,F h];omega
def all(s:PS):Int:=(s.ow true).sum+(s.ow false).sum
theorem tm{ow:Bool->List Int}{b:Bool}{n:Nat}{x y:Int}(h:(ow b)[n]?=some x) :
  (upd ow b ((ow b).set n y) true).sum+(upd ow b ((ow b).set n y) false).sum=(ow true).sum+(ow false).sum-x+y:=by
 cases b
 .rw[bC ao,ae,sum_set h];omega
 .rw[ae,bC ao,sum_set h];omega
section
variable{s s':PS}{b:Bool}{k:Int}{cs:W5}{c:Int}{n:Nat}
theorem sY(F:(0:Int)∈s.ow b):all (y8 s b k cs c)=all s+c:=by
 have:=tm (ow:=s.ow) (y:=c) (xE F);unfold all y8;dsimp only;omega
theorem uS{F:Int}(h:(s.ow b)[n]?=some F):all (q8 s k b n)=all s-F:=by
 have:=tm (ow:=s.ow) (y:=0) h;unfold all q8;dsimp only;omega
theorem mZ{F:Int}(h:(s.ow b)[n]?=some F):all (cU s b n c)=all s-F+c:=by
 have:=tm (ow:=s.ow) (y:=c) h;unfold all cU;dsimp only;omega
theorem eU{f:Bool->List Int}{n:Nat}{x:Int}(F:Bool):(upd f b ((f b).set n x) F).length=(f F).length:=by
 cases e:F=b
 .subst e;rw[ae,OR]
 .rw[bC e]
structure Kept(s s':PS)(k:Int):Prop where
 ot:∀j cs' c',j≠k->(Vw s' j cs' c'↔Vw s j cs' c')
 ln:∀b,(s'.ow b).length=(s.ow b).length
 fr:(0:Int)∈s'.ow true->(0:Int)∈s.ow true/\∀j m,j≠k->s.pl j=some (true,m)->s'.pl j=some (true,m)
theorem Dq{l:W5}{n:Nat}{x:Int}(F:x≠0)(h:(0:Int)∈l.set n x):(0:Int)∈l:=by
 rcases SE h with h|h
 .show h
 .show absurd h.symm F
theorem Ar(G:Good s)(I:(0:Int)∈s.ow true)(N:1<=c):Kept s (y8 s true k cs c) k :=
 #[λj L J F=>mO G I F,λb=>eU b,λh=>#[I,λj m F e=>(aN F).trans e]]
def out(s:PS)(k0:Int)(F:Nat)(I:W5)(G:Int):PS:=y8 (q8 s k0 true F) false k0 I G
theorem vx(G:Good s){k0:Int}{F:Nat}{J:W5}{I:Int}(L:s.pl k0=some (true,F))(hv:Vw s k0 J I)(hf:(0:Int)∈s.ow false) :
  Good (out s k0 F J I)/\Vw (out s k0 F J I) k0 J I/\(∀j U R,j≠k0->(Vw (out s k0 F J I) j U R↔Vw s j U R))/\(0:Int)∈(out s k0 F J I).ow true/\all (out s k0 F J I)=all s /\
  (∀b,((out s k0 F J I).ow b).length=(s.ow b).length)/\(∀j,j≠k0->(out s k0 F J I).pl j=s.pl j):=by
 let#[b',n',e1,e2,e3]:=hv;rwa[L]at e1;let#[ab,c9,Y,a2,a3,a4]:=G.va _ _ _ L;rwa[e2]at Y;rwa[e3]at a2;let S:=lq G L;let O:(0:Int)∈(q8 s k0 true F).ow false:=by
  show(bC (f:=s.ow) (v:=(s.ow true).set F 0) (show false≠true by decide)).symm▸hf
 let hn:(q8 s k0 true F).pl k0=none:=bO;let hr:=G.rg _ _ L;show#[pX S O hn hr.1 hr.2 a3 a4,qI O S,3,3,?_]
 .intro j U R N;show(mO S O N).trans (jV G L N)
 .show(bC (f:=(q8 s k0 true F).ow) (b:=false) (v:=((q8 s k0 true F).ow false).set (((q8 s k0 true F).ow false).idxOf 0) I) (show true≠false by decide)).symm▸wz G L
 .change all (y8 _ _ _ _ _)=_;rw[sY O,uS e3];omega
 .intro b;show(eU (f:=(q8 s k0 true F).ow) b).trans (eU b)
 .intro j N;show(aN N).trans (aN N)
inductive BI(s:PS)(k:Int)(cs:W5)(c:Int):PS->Prop
 |free:(0:Int)∈s.ow true->BI s k cs c (y8 s true k cs c)
 |full {k0:Int}{r:W5}{n0:Nat}{cs0:W5}{c0:Int}:¬ (0:Int)∈s.ow true->(0:Int)∈s.ow false->s.inf=k0::r->s.pl k0=some (true,n0)->Vw s k0 cs0 c0->BI s k cs c (y8 (out s k0 n0 cs0 c0) true k cs c)
structure NP(s:PS)(k:Int)(cs:W5)(c:Int)(s':PS):Prop where
 good:Good s'
 vw:Vw s' k cs c
 fr:∃m,s'.pl k=some (true,m)
 kept:Kept s s' k
 ls:s'.ls=s.ls
 al:all s'=all s+c
theorem GW(G:Good s)(S:s.pl k=none)(h1:1<=k)(h2:k<=s.ls)(Y:1<=c)(h4:cs.length=8)(h:BI s k cs c s'):NP s k cs c s':=by
 cases h with
 |free U=>show#[pX G U S h1 h2 Y h4,qI U G,#[_,bO],Ar G U Y,rfl,sY U]
 | @full k0 r F J I nf hf hi hp hv =>
  let#[g1,g2,g3,O,g5,g6,g7]:=vx G hp hv hf;let ad:k≠k0:=λe=>(by rwa[e,hp]at S);let ab:(out s k0 F J I).pl k=none:=(by rw[g7 k ad];show S);show#[pX g1 O ab h1 h2 Y h4,qI O g1,#[_,bO],#[3,?_],5]
  .intro j ac c' hj;rw[mO g1 O hj];cases e:j=k0
   .subst e;constructor
    .intro hw;let#[x1,x2,y1,y2,y3]:=hw;let#[z1,z2,N,R,L]:=g2;rwa[y1]at N;rwa[y2]at R;rwa[y3]at L;show hv
    .intro hw;let#[x1,x2,y1,y2,y3]:=hw;let#[z1,z2,N,R,L]:=hv;rwa[y1]at N;rwa[y2]at R;rwa[y3]at L;show g2
   .show g3 j ac c' e
  .intro b;show(eU (f:=(out s k0 F J I).ow) b).trans (g6 b)
  .intro h;exfalso;apply nf;let h:(0:Int)∈upd (out s k0 F J I).ow true (((out s k0 F J I).ow true).set (((out s k0 F J I).ow true).idxOf 0) c) true:=h;rw[ae]at h;let e1:(out s k0 F J I).ow true=(s.ow true).set F 0:=by
    show(bC (f:=(q8 s k0 true F).ow) (b:=false) (v:=((q8 s k0 true F).ow false).set (((q8 s k0 true F).ow false).idxOf 0) I) (show true≠false by decide)).trans (show upd s.ow true ((s.ow true).set F 0) true=_ from ae)
   rw[e1]at h;let#[i,am,e]:=Qs h;let hl:i<(s.ow true).length:=‹am›;let hz:(0:Int)∈(s.ow true).set F 0:=e1▸O;let e0:((s.ow true).set F 0).idxOf 0=F:=by
    let q:=xE hz;cases en:F=((s.ow true).set F 0).idxOf 0
    .show en.symm
    .rw[OB en]at q;show absurd (wh q) nf
   rw[Vj]at e;split at e
   .omega
   .rename_i ne;rw[Vj]at e;split at e
    .rename_i e2;show absurd (e0.trans e2) ne
    .show e▸Py hl
  .rw[sY O,g5]
theorem J1(G:Good s)(U:(0:Int)∈s.ow true\/(0:Int)∈s.ow false)(Y:s.ow true≠[]):((0:Int)∈s.ow true)\/(¬ (0:Int)∈s.ow true/\(0:Int)∈s.ow false/\∃k0 r F L I,s.inf=k0::r/\s.pl k0=some (true,F)/\Vw s k0 L I):=by
 cases h:(0:Int)∈s.ow true
 .show .inl h
 .show .inr #[h,U.resolve_left h,?_];let O:0<(s.ow true).length:=List.length_pos_iff.mpr Y;let h0:(s.ow true)[0]?=some (s.ow true)[0]:=L1 O;rcases G.on _ _ _ h0 with e|⟨j,e⟩
  .show absurd (e▸Py O) h
  .let N:j∈s.inf:=(G.fi j).mpr #[_,e];cases hi:s.inf with
   |nil=>rwa[hi]at N
   |cons k0 r =>
    let#[F,J]:=(G.fi k0).mp (by rw[hi];show OA);let#[L,I,R,S,_,_]:=G.va _ _ _ J;show#[k0,r,F,L,I,rfl,J,true,F,J,R,S]
end
end Pg
namespace Pg
section
variable{s s':PS}{b:Bool}{k:Int}{cs:W5}{c:Int}{n:Nat}
theorem Vw.one{I:W5}{F:Int}(h:Vw s k cs c)(h':Vw s k I F):I=cs/\F=c:=by
 let#[U,Y,O,N,R]:=h;let#[z1,S,G,J,L]:=h';rwa[O]at G;rwa[N]at J;rwa[R]at L;show#[1]
theorem Good.vw(G:Good s)(h:Vw s k cs c):1<=c/\cs.length=8:=by
 let#[Y,x2,N,J,R]:=h;let#[U,S,I,F,L,O]:=G.va _ _ _ N;rwa[J]at I;rwa[R]at F;show#[L,O]
def used(s:PS)(k:Int):PS:={ s with inf:=s.inf.erase k++[k] }
theorem zV(G:Good s)(I:s.pl k=some (true,n)):Good (used s k):=by
 show#[G.rg,G.va,G.inj,G.on,G.ln,3]
 .show Rp.mpr #[G.nd.erase k,by simp,?_];intro x J y F e;rw[oR]at F;subst F;subst e;show((Q7 G.nd).mp J).1 rfl
 .intro j;change j∈s.inf.erase k++[k]↔_;rw[qj,oR,Q7 G.nd,G.fi];constructor
  .rintro(h|h)
   .show h.2
   .subst h;show#[n,I]
  .intro h;cases e:j=k
   .show .inr e
   .show .inl #[e,h]
inductive FE(s:PS)(k:Int):PS->Prop
 |here {n:Nat}:s.pl k=some (true,n)->FE s k (used s k)
 |away {n:Nat}{cs:W5}{c:Int}{s':PS}:s.pl k=some (false,n)->Vw s k cs c->BI (q8 s k false n) k cs c s'->FE s k s'
structure N3(s:PS)(k:Int)(s':PS):Prop where
 good:Good s'
 vw:∀j cs c,Vw s' j cs c↔Vw s j cs c
 fr:∃m,s'.pl k=some (true,m)
 kept:Kept s s' k
 ls:s'.ls=s.ls
 al:all s'=all s
theorem rE(G:Good s)(h:FE s k s'):N3 s k s':=by
 cases h with
 |here F=>show#[zV G F,λ_ _ _=>Iff.rfl,#[_,F],#[λ_ _ _ _=>Iff.rfl,λ_=>rfl,λh=>#[h,λ_ _ _ e=>e]],1]
 | @away n cs c _ F I hb =>
  let GR:=lq G F;let S:=G.rg _ _ F;let R:=G.vw I;let B:=GW GR (show eQ s.pl k none k=none from bO) S.1 S.2 R.1 R.2 hb;let e3:(s.ow false)[n]?=some c:=by
   let#[x1,x2,U,y2,y3]:=I;rwa[F]at U;show y3
  show#[B.good,?_,B.fr,#[3,?_],B.ls,?_]
  .intro j O L;cases e:j=k
   .subst e;constructor
    .intro h;let#[N,J]:=B.vw.one h;subst N;subst J;show I
    .intro h;let#[N,J]:=I.one h;subst N;subst J;show B.vw
   .show(B.kept.ot j O L e).trans (jV G F e)
  .intro j O L e;show(B.kept.ot j O L e).trans (jV G F e)
  .intro b;show(B.kept.ln b).trans (eU b)
  .intro h;let#[Y,a2]:=B.kept.fr h;let e0:(q8 s k false n).ow true=s.ow true:=bC (f:=s.ow) (v:=(s.ow false).set n 0) (show true≠false by decide);show#[e0▸Y,λj m e hj=>a2 j m e ((aN e).trans hj)]
  .rw[B.al,uS e3];omega
def next(s:PS):PS:={ s with ls:=s.ls+1 }
theorem rT(G:Good s):Good (next s):=#[λk p h=>by have:=G.rg k p h;show#[this.1,by change k<=s.ls+1;omega],G.va,G.inj,G.on,G.ln,G.nd,G.fi]
theorem gG(G:Good s):s.pl (s.ls+1)=none:=by
 cases h:s.pl (s.ls+1)with
 |none=>rfl
 |some p=>have:=G.rg _ _ h;omega
theorem lX(G:Good s)(I:0<=s.ls)(F:cs.length=8)(h:BI (next s) (s.ls+1) cs 1 s'):NP (next s) (s.ls+1) cs 1 s' :=
 GW (rT G) (gG G) ag (OX _) (OX _) F h
inductive Gk(s:PS)(k:Int):PS->Prop
 |more {b:Bool}{n:Nat}{cs:W5}{c:Int}:s.pl k=some (b,n)->Vw s k cs c->1<c->Gk s k (cU s b n (c-1))
 |last {b:Bool}{n:Nat}{cs:W5}:s.pl k=some (b,n)->Vw s k cs 1->Gk s k (q8 s k b n)
theorem vg(G:s.pl k=some (b,n))(J:Vw s k cs c):(s.ow b)[n]?=some c:=by
 let#[L,N,F,O,I]:=J;rwa[G]at F;show I
structure Ob(s:PS)(k:Int)(c:Int)(s':PS):Prop where
 good:Good s'
 ot:∀j cs' c',j≠k->(Vw s' j cs' c'↔Vw s j cs' c')
 me:∀cs' c',Vw s' k cs' c'↔(1<c/\c'=c-1/\Vw s k cs' c)
 pl:∀j,j≠k->s'.pl j=s.pl j
 ln:∀b,(s'.ow b).length=(s.ow b).length
 ls:s'.ls=s.ls
 al:all s'=all s-1
 kept:1<c->Kept s s' k
theorem zO(G:Good s)(J:Vw s k cs c)(h:Gk s k s'):Ob s k c s':=by
 cases h with
 | @more b n ab Y F S hc =>
  let#[I,N]:=J.one S;subst I;subst N;let U:=vg F J;show#[kF G F ag,λj R O L=>eR G F L,?_,λ_ _=>rfl,λb=>eU b,rfl,3]
  .intro R O;let W:=j9 (c:=Y-1) G F J;constructor
   .intro h;let#[I,N]:=W.one h;subst I;subst N;show#[hc,rfl,J]
   .rintro⟨_,q,h⟩;let#[I,N]:=J.one h;subst I;subst q;show W
  .rw[mZ U];omega
  .intro _;show#[λj R O L=>eR G F L,λb=>eU b,λh=>#[?_,λ_ _ _ e=>e]];let h:(0:Int)∈upd s.ow b ((s.ow b).set n (Y-1)) true:=h;cases e:true=b
   .subst e;rw[ae]at h;show Dq ag h
   .rw[bC e]at h;show h
 | @last b n ab F S =>
  let#[I,N]:=J.one S;subst I;subst N;let U:=vg F J;show#[lq G F,λj R O L=>jV G F L,?_,λ_ L=>aN L,λb=>eU b,5,λh=>absurd h ao]
  .intro R O;constructor
   .rintro⟨x1,x2,y1,_,_⟩;let y9:(none:Option (Bool×Nat))=some (x1,x2):=(by rw[<-y1];show bO.symm);cases y9
   .rintro⟨q,_,_⟩;show absurd q ao
  .rw[uS U]
theorem Dy(G:Good s)(I:s.pl k=some (b,n))(F:Vw s k cs c):Good (cU s b n (c+1))/\Vw (cU s b n (c+1)) k cs (c+1)/\all (cU s b n (c+1))=all s+1:=by
 have:=G.vw F;show#[kF G I ag,j9 G I F,?_];rw[mZ (vg I F)];omega
end
end Pg
namespace Pg
abbrev Ent:=Option Int
def full(es:List Ent):Int:=(es.countP (·.isSome):Nat)
structure RI(s:PS)(es:List Ent):Prop where
 good:Good s
 l0:0<=s.ls
 ne:s.ow true≠[]
 is:∀k,some k∈es->∃cs c,Vw s k cs c
 ct:∀k cs c,Vw s k cs c->c=(es.count (some k):Nat)
 al:all s=full es
 rm:es.length<=(s.ow true).length+(s.ow false).length
section
variable{s s':PS}{es r:List Ent}{k:Int}{cs:W5}{c:Int}
theorem RI.perm{F:List Ent}(R:RI s es)(p:es.Perm F):RI s F :=
 #[R.good,R.l0,R.ne,λk h=>R.is k (p.mem_iff.mpr h),λk cs c h=>by rw[<-p.count_eq];show R.ct k cs c h,by rw[R.al];unfold full;rw[p.countP_eq],by rw[<-p.length_eq];show R.rm]
theorem jD:full (none::es)=full es:=by unfold full;rw[List.countP_cons_of_neg (by simp)]
theorem ig:full (some k::es)=full es+1:=by unfold full;rw[List.countP_cons_of_pos (by simp)];simp
theorem y6:full es<=es.length:=by unfold full;exact_mod_cast List.countP_le_length
theorem kh{j:Int}:(none::es).count (some j)=es.count (some j):=TV (by simp)
theorem eY:(some k::es).count (some k)=es.count (some k)+1:=List.count_cons_self
theorem gn{j:Int}(h:j≠k):(some k::es).count (some j)=es.count (some j):=TV ‹ro h›
theorem RI.lay(R:RI s es)(h:es.length<(s.ow true).length+(s.ow false).length):RI s (none::es):=
 #[R.good,R.l0,R.ne,λk h=>R.is k ‹h›,λk cs c h=>by rw[kh];show R.ct k cs c h,by rw[jD];show R.al,h]
theorem RI.bare(R:RI s (none::es)):RI s es :=
 #[R.good,R.l0,R.ne,λk h=>R.is k ‹h›,λk cs c h=>by rw[<-kh];show R.ct k cs c h,by rw[<-jD];show R.al,SO R.rm]
theorem RI.leave(R:RI s (some k::es))(J:Vw s k cs c)(h:Gk s k s'):RI s' es:=by
 let L:=zO R.good J h;let O:=R.ct _ _ _ J;rw[eY]at O;show#[L.good,by rw[L.ls];show R.l0,3,3,?_]
 .intro e;have:=L.ln true;rw[e]at this;show R.ne (OW.mp this.symm)
 .intro j I;cases e:j=k
  .subst e;have:0<es.count (some j):=PQ.mpr I;show#[cs,c-1,(L.me cs (c-1)).mpr #[ag,rfl,J]]
  .let#[G,F,q]:=R.is j (Oy _ I);show#[G,F,(L.ot j G F e).mpr q]
 .intro j G F I;cases e:j=k
  .subst e;let#[Y,U,S]:=(L.me G F).mp I;omega
  .rw[<-gn e];show R.ct j G F ((L.ot j G F e).mp I)
 .let N:=R.al;rw[ig]at N;rw[L.al,N];omega
 .rw[L.ln,L.ln];show SO R.rm
theorem RI.share{b:Bool}{n:Nat}(R:RI s es)(G:s.pl k=some (b,n))(L:Vw s k cs c)(h:es.length<(s.ow true).length+(s.ow false).length):RI (cU s b n (c+1)) (some k::es):=by
 let#[g,v,a]:=Dy R.good G L;let N:=R.ct _ _ _ L;show#[g,R.l0,3,3,?_]
 .intro e;have:=eU (f:=s.ow) (b:=b) (n:=n) (x:=c+1) true;let e:upd s.ow b ((s.ow b).set n (c+1)) true=[]:=e;rw[e]at this;show R.ne (OW.mp this.symm)
 .intro j F;cases e:j=k
  .subst e;show#[cs,c+1,v]
  .let#[J,I,q]:=R.is j (by simpa[e]using F);show#[J,I,(eR R.good G e).mpr q]
 .intro j J I F;cases e:j=k
  .subst e;let#[_,q]:=v.one F;rw[eY];omega
  .rw[gn e];show R.ct j J I ((eR R.good G e).mp F)
 .rw[a,ig,R.al]
 .change es.length+1<=(upd s.ow b _ true).length+(upd s.ow b _ false).length;rw[eU,eU];show h
theorem RI.GQ(R:RI s es)(h:FE s k s'):RI s' es:=by
 let F:=rE R.good h;show#[F.good,by rw[F.ls];show R.l0,3,?_,by rw[F.al];show R.al,by rw[F.kept.ln,F.kept.ln];show R.rm]
 .intro e;have:=F.kept.ln true;rw[e]at this;show R.ne (OW.mp this.symm)
 .intro j G;let#[cs,c,q]:=R.is j G;show#[cs,c,(F.vw j cs c).mpr q]
 .intro j cs c G;show R.ct j cs c ((F.vw j cs c).mp G)
theorem RI.fill(R:RI s (none::r))(N:cs.length=8)(h:BI (next s) (s.ls+1) cs 1 s'):RI s' (some (s.ls+1)::r):=by
 let B:=lX R.good R.l0 N h;let no:r.count (some (s.ls+1))=0:=by
  apply TB;intro q;let#[G,F,O,S,L,_]:=R.is _ (Oy _ (PQ.mp q));rwa[gG R.good]at L
 show#[B.good,by rw[B.ls];change 0<=s.ls+1;have:=R.l0;omega,3,3,?_]
 .intro e;have:=B.kept.ln true;rw[e]at this;show R.ne (OW.mp this.symm)
 .intro j I;cases e:j=s.ls+1
  .subst e;show#[cs,(1),B.vw]
  .let#[G,F,q]:=R.is j (by simpa[e]using I);show#[G,F,(B.kept.ot j G F e).mpr q]
 .intro j G F I;cases e:j=s.ls+1
  .subst e;let#[_,q]:=B.vw.one I;rw[eY,no,q];rfl
  .rw[gn e, <-kh];show R.ct j G F ((B.kept.ot j G F e).mp I)
 .let J:=R.al;rw[jD]at J;rw[B.al,ig, <-J];rfl
 .rw[B.kept.ln,B.kept.ln];show R.rm
theorem lE{l:W5}(h:∀x∈l,1<=x):(l.length:Int)<=l.sum:=by
 induction l with
 |nil=>show OX _
 |cons a l G =>
  let h1:=h a OA;let h2:=G λx F=>h x (Oy _ F);rw[Qg,K4];omega
theorem Good.pos(G:Good s){b:Bool}(h:¬ (0:Int)∈s.ow b):∀x∈s.ow b,1<=x:=by
 intro x I;let#[n,J]:=Ug I;rcases G.on _ _ _ J with e|⟨j,e⟩
 .show absurd (e▸I) h
 .let#[cs,c,_,F,L,_]:=G.va _ _ _ e;rwa[J]at F;show L
theorem RI.room(R:RI s (none::r)):(0:Int)∈s.ow true\/(0:Int)∈s.ow false:=by
 cases h1:(0:Int)∈s.ow true
 .show .inl h1
 .by_cases h2:(0:Int)∈s.ow false
  .show .inr h2
  .exfalso;let L:=lE (R.good.pos h1);let I:=lE (R.good.pos h2);let F:=R.al;rw[jD]at F;let J:=y6 (es:=r);let G:=R.rm;rw[K4]at G;unfold all at F;omega
theorem vV{l:W5}(h:∀x∈l,1<=x){n:Nat}{c:Int}(F:l[n]?=some c):(l.length:Int)+c-1<=l.sum:=by
 induction l generalizing n with
 |nil=>cases F
 |cons a l I =>
  let h2:∀x∈l,1<=x:=λx G=>h x (Oy _ G);let h1:=h a OA;cases n with
  |zero =>
   cases F;have:=lE h2;rw[Qg,K4];omega
  |succ n =>
   have:=I h2 (show l[n]?=some c from F);rw[Qg,K4];omega
theorem RI.Kt(R:RI s es)(G:Vw s k cs c)(S:1<c):(0:Int)∈s.ow true\/(0:Int)∈s.ow false:=by
 cases h1:(0:Int)∈s.ow true
 .show .inl h1
 .by_cases h2:(0:Int)∈s.ow false
  .show .inr h2
  .exfalso;let L:=lE (R.good.pos h1);let N:=lE (R.good.pos h2);let I:=R.al;let J:=y6 (es:=es);let O:=R.rm;unfold all at I;let#[b,n,_,_,F]:=G;cases b
   .have:=vV (R.good.pos h2) F;omega
   .have:=vV (R.good.pos h1) F;omega
end
end Pg
namespace Pg
def Bt(s:PS)(e:Ent)(cs:W5):Prop:=match e with
 |none=>cs=replicate 8 0
 |some k=>∃c,Vw s k cs c
def aO(es:List Ent)(s s':PS):Prop:=∀e∈es,∀cs,Bt s e cs->Bt s' e cs
theorem aO.refl{es:List Ent}{s:PS}:aO es s s:=λ_ _ _ h=>h
section
variable{s s':PS}{es r:List Ent}{k:Int}{cs:W5}{c:Int}
theorem RI.yd(R:RI s (some k::es))(F:Vw s k cs c)(h:Gk s k s'):aO es s s':=by
 let L:=zO R.good F h;let S:=R.ct _ _ _ F;rw[eY]at S;intro e O U q;cases e with
 |none=>show q
 |some j =>
  let#[G,q]:=q;cases I:j=k
  .subst I;let#[N,J]:=F.one q;subst N;subst J;have:0<es.count (some j):=PQ.mpr O;show#[G-1,(L.me _ _).mpr #[ag,rfl,F]]
  .show#[G,(L.ot j _ _ I).mpr q]
theorem xb{b:Bool}{n:Nat}(G:Good s)(F:s.pl k=some (b,n))(J:Vw s k cs c):aO es s (cU s b n (c+1)):=by
 intro e S R q;cases e with
 |none=>show q
 |some j =>
  let#[L,q]:=q;cases I:j=k
  .subst I;let#[N,O]:=J.one q;subst N;show#[c+1,j9 G F J]
  .show#[L,(eR G F I).mpr q]
theorem yk(G:Good s)(h:FE s k s'):aO es s s':=by
 intro e I J q;cases e with
 |none=>show q
 |some j =>
  let#[F,q]:=q;show#[F,((rE G h).vw _ _ _).mpr q]
theorem RI.zX(R:RI s (none::r))(J:cs.length=8)(h:BI (next s) (s.ls+1) cs 1 s'):aO r s s':=by
 let B:=lX R.good R.l0 J h;intro e N L q;cases e with
 |none=>show q
 |some j =>
  let#[G,q]:=q;let I:j≠s.ls+1:=by
   intro e;let#[O,S,F,_]:=q;rwa[e,gG R.good]at F
  show#[G,(B.kept.ot _ _ _ I).mpr q]
theorem RI.part{s1 s2:PS}{ab:W5}{N:Int}(R:RI s (some k::r))(S:Vw s k ab N)(hc:1<N)(h4:cs.length=8)(hB:BI (next s) (s.ls+1) cs 1 s1)(hL:Gk s1 k s2) :
  RI s2 (some (s.ls+1)::r)/\aO r s s2/\Bt s2 (some (s.ls+1)) cs/\(∃m,s2.pl (s.ls+1)=some (true,m))/\s2.ls=s.ls+1 /\
  ((0:Int)∈s2.ow true->(0:Int)∈s.ow true/\∀j m,s.pl j=some (true,m)->s2.pl j=some (true,m))/\(∀b,(s2.ow b).length=(s.ow b).length):=by
 let B:=lX R.good R.l0 h4 hB;let U:=gG R.good;let kn:k≠s.ls+1:=by
  intro e;let#[x1,x2,G,_]:=S;rwa[e,U]at G
 let Y:Vw s1 k ab N:=(B.kept.ot _ _ _ kn).mpr S;let L:=zO B.good Y hL;let K:=L.kept hc;let ad:=R.ct _ _ _ S;rw[eY]at ad;let no:r.count (some (s.ls+1))=0:=by
  apply TB;intro q;let#[O,J,x1,x2,G,_]:=R.is _ (Oy _ (PQ.mp q));rwa[U]at G
 let vn:Vw s2 (s.ls+1) cs 1:=(L.ot _ _ _ (ro kn)).mpr B.vw;let ln:∀b,(s2.ow b).length=(s.ow b).length:=λb=>(L.ln b).trans (B.kept.ln b);show#[#[L.good,3,3,3],?_,#[(1),vn],3,?_,ln]
 .rw[L.ls,B.ls];change 0<=s.ls+1;have:=R.l0;omega
 .intro e;have:=ln true;rw[e]at this;show R.ne (OW.mp this.symm)
 .intro j I;cases e:j=s.ls+1
  .subst e;show#[cs,(1),vn]
  .let I:some j∈r:=(by simpa[e]using I);cases F:j=k
   .subst F;show#[ab,N-1,(L.me _ _).mpr #[hc,rfl,Y]]
   .let#[O,J,q]:=R.is j (Oy _ I);show#[O,J,(L.ot _ _ _ F).mpr ((B.kept.ot _ _ _ e).mpr q)]
 .intro j O J I;cases e:j=s.ls+1
  .subst e;let#[_,q]:=vn.one I;rw[eY,no,q];rfl
  .rw[gn e];cases F:j=k
   .subst F;let#[q1,q2,q3]:=(L.me _ _).mp I;omega
   .rw[<-gn F];show R.ct j O J ((B.kept.ot _ _ _ e).mp ((L.ot _ _ _ F).mp I))
 .let h9:=R.al;rw[ig]at h9;rw[L.al,B.al,ig, <-h9];change all s+1-1=all s;omega
 .rw[ln,ln];show R.rm
 .intro e he O q;cases e with
  |none=>show q
  |some j =>
   let#[J,q]:=q;let ej:j≠s.ls+1:=by
    intro e;let#[x1,x2,G,_]:=q;rwa[e,U]at G
   cases F:j=k
   .subst F;let#[q1,q2]:=S.one q;subst q1;show#[N-1,(L.me _ _).mpr #[hc,rfl,Y]]
   .show#[J,(L.ot _ _ _ F).mpr ((B.kept.ot _ _ _ ej).mpr q)]
 .let#[m,hm]:=B.fr;show#[m,(L.pl _ (ro kn)).trans hm]
 .rw[L.ls,B.ls];rfl
 .intro h;let#[a1,a2]:=K.fr h;let#[b1,b2]:=B.kept.fr a1;show#[b1,?_];intro j m e;let ej:j≠s.ls+1:=(by intro q;rwa[q,U]at e);let e1:=b2 j m ej e;cases F:j=k
  .subst F;cases hL with
   |more hk ac am=>show e1
   |last hk ac =>
    have:=(Y.one ac).2;omega
  .show a2 j m F e1
theorem RI.write{I:PS}{m:Nat}(R:RI s (some k::r)){ab:W5}(hv:Vw s k ab 1)(h4:cs.length=8)(Y:FE s k I)(L:I.pl k=some (true,m)) :
  RI (write I true m cs) (some k::r)/\aO r s (write I true m cs)/\Bt (write I true m cs) (some k) cs:=by
 let F:=rE R.good Y;let G:=R.GQ Y;let U:Vw I k ab 1:=(F.vw _ _ _).mpr hv;let ac:=R.ct _ _ _ hv;rw[eY]at ac;let no:¬ some k∈r:=λh=>(by have:0<r.count (some k):=PQ.mpr h;omega);let S:=Eg (cs:=cs) G.good L U;show#[#[xq G.good L h4,G.l0,G.ne,3,G.al,G.rm],?_,#[(1),S]]
 .intro j O;cases e:j=k
  .subst e;show#[cs,(1),S]
  .let#[N,J,q]:=G.is j O;show#[N,J,(iZ G.good L e).mpr q]
 .intro j N J O;cases e:j=k
  .subst e;let#[_,q]:=S.one O;rw[q];show G.ct _ _ _ U
  .show G.ct j N J ((iZ G.good L e).mp O)
 .intro e he N q;cases e with
  |none=>show q
  |some j =>
   let#[J,q]:=q;let ek:j≠k:=λe=>no (e▸he);show#[J,(iZ G.good L ek).mpr ((F.vw _ _ _).mpr q)]
end
end Pg
namespace St
open PySem L2
abbrev El:Oz:=top 33
abbrev tS:Oz:=top 34
theorem bj.keep{C p ow co:Addr}{M:WR}{os:W5}{pg:List (Option (List Int))}{H H':Hp}(S:bj C H M p ow co os pg)(h:Off (λ_=>False) H H'):bj C H' M p ow co os pg:=by
 let#[#[dx,h1],G,cs,I,F]:=S;show#[#[dx,h _ _ h1 id],h _ _ G id,cs,h _ _ I id,jQ h (λ_ z=>z.elim) F]
theorem dH{H:Hp}{l:Addr}{o:HO}(h:H l=none):Off (λ_=>False) H (upd H l o):=by
 intro b o' e _;rw[aj (λz=>by rwa[z,h]at e)];show e
theorem gR{os:W5}{n:Nat}{x:Int}(h:n<os.length):fA (os.set n x) n=x:=by
 unfold fA;rw[WO (by rw[OR];omega)];simp[h]
theorem gB{os:W5}{n:Nat}{x:Int}(h:os[n]?=some x):fA os n=x:=by
 let#[h1,h2]:=mu.mp h;unfold fA;rw[WO ag];simp[h1,h2]
theorem F7{os:W5}{n:Nat}{x:Int}(h:os[n]?=some x):os.set n x=os:=by
 let#[h1,h2]:=mu.mp h;rw[<-h2];show List.set_getElem_self h1
inductive uE(C:Addr)(v:XD)(H:Hp)(Q:VK)(e:XK):Prop
 |mk (p ow co:Addr) (M:WR) (os:W5) (pg:List (Option (List Int))) (n:Nat) (ns:W5) (c:Nat) (_:v=[.ref p,.int n]) (_:bj C H M p ow co os pg) (_:M ow) (_:M co) (_:(∀b,M b->H b≠none)) (_:ow≠co) (_:os.length<=60) (_:os[n]?=some (c:Int)) (_:1<=c) (_:c<=1000) (_:pg[n]?=some (some ns)) (_:∀(H':Hp)(t l:Addr),H t=none->H' t=some (.tup [.ref l,.int c])->¬ M l->H' l=some (.lst (ns.map V.int))->bj C H' M p ow co (os.set n 0) pg->Off (λb=>b=ow\/b=co) H H'->Q (.ref t) H'):uE C v H Q e
theorem Ll:aE ["store","n","moved"] ["store","n"] (aw El):=L2.bW
theorem Fe{C:Addr}(F:cD K "lift" "lift" El f fd)(T:Txt K mg C)(GE:↥Md 3 C "cells" (oh C))(GC:↥Md 1 C "count" (iC C))(GL:↥Md 3 C "less" (tV C)) :
  ↥aX 4 f fd ["store","n"] (uE C):=by
 show F.dU Ll ?_;intros;let#[p,ow,co,M,os,pg,n,ns,c,rfl,S,mw,mc,mt,as,O,R,c1,c2,hg,k]:=h;let#[#[dx,h1],hw,cs,aD,hp]:=id S;let#[nl,_]:=mu.mp R;let hc:fA os n≠0:=(by rw[gB R];omega);show#[_,(ai (cK 2 Ll.nd (bK (aa (pm (pv 0) T.cl GE hr ax (aa (pv 1) af)) (aa (pm (pv 0) T.cl GC hr ax (aa (pv 1) af)) af))))
  (ai (vH NC (aA gY (pm (pv 0) T.cl GC hr ax (aa (pv 1) af)) ah (aH _)) (ak (aQ (pm (pv 0) T.cl GL hr ax (aa (pv 1) af)))))
  (ak (aG (pv 2))))),?_]
 show#[0,p,dx,0,h1,aW _ _ aq aq,0,p,ow,co,M,os,pg,n,ns,rfl,S,O,hc,hg,?_];intro l Y;let N:=S.keep (dH (o:=.lst (ns.map V.int)) Y);let am:upd H l (.lst (ns.map V.int)) l=some (.lst (ns.map V.int)):=ae;let O1:Off (λb=>b=ow\/b=co) H (upd H l (.lst (ns.map V.int))):=λb o e _=>dH Y b o e id;generalize upd H l (.lst (ns.map V.int))=H1 at *;let#[ap,ad]:=N.ob;show#[0,p,ap,0,ad,aW _ _ aq aq,0,p,ow,co,M,os,pg,n,rfl,N,O,?_];rw[gB R];show#[dN,λt G=>?_];let S2:=N.keep (dH (o:=.tup [.ref l,.int c]) G);let ht:upd H1 t (.tup [.ref l,.int c]) t=some (.tup [.ref l,.int c]):=ae;let aB:upd H1 t (.tup [.ref l,.int c]) l=some (.lst (ns.map V.int)):=dH G l _ am id;let O2:Off (λb=>b=ow\/b=co) H (upd H1 t (.tup [.ref l,.int c])):=λb o e z=>dH G b o (O1 b o e z) id;let U:¬ M l:=λz=>mt l z Y;let fH:H t=none:=by
  cases e:H t with
  |none=>rfl
  |some o =>
   exfalso;cases z:t=ow\/t=co
   .rcases z with z|z
    .subst z;rwa[N.hw]at G
    .subst z;let#[_,q,_]:=N.hc;rwa[q]at G
   .rw[O1 t o e z]at G;cases G
 generalize upd H1 t (.tup [.ref l,.int c])=H2 at *;show#[λm σ J=>∃c':Nat,m=c'/\σ=#v[.ref p,.int n,.ref t]/\bj C J M p ow co (os.set n c') pg/\J t=some (.tup [.ref l,.int c])/\J l=some (.lst (ns.map V.int))/\Off (λb=>b=ow\/b=co) H J,
  #[c,c,1,by rw[F7 R];show S2,ht,aB,O2],?_]
 rintro m σ J ⟨c',rfl,rfl,L,I,l3,O3⟩;let#[ac,h3]:=L.ob;show#[0,p,ac,0,h3,aW _ _ aq aq,0,p,ow,co,M,_,pg,n,rfl,L,by rw[OR];show O,?_];rw[gR nl];show#[_,0,rfl,0,?_];cases z:(0:Int)<m
 .rw[decide_eq_true z];show#[λab H'=>ab=#v[.ref p,.int n,.ref t]/\bj C H' M p ow co (os.set n (m-1:Nat)) pg/\H' t=some (.tup [.ref l,.int c])/\H' l=some (.lst (ns.map V.int))/\Off (λb=>b=ow\/b=co) H H',3]
  .rintro ab H' ⟨a1,a2,a3,a4,a5⟩;show#[m-1,ag,m-1,rfl,a1,a2,a3,a4,a5]
  .show#[0,p,ac,0,h3,aW _ _ aq aq,0,p,ow,co,M,_,pg,n,rfl,L,mw,mc,as,by rw[OR];show O,by rw[gR nl];omega,?_];intro H4 S4 O4;rw[gR nl,show(n:Int).toNat=n from Qj n,Va]at S4;show#[rfl,3,3]
   .let e:((m-1:Nat):Int)=(m:Int)-1:=ag;rw[e];show S4
   .show O4 _ _ I λq=>?_;rcases q with q|q
    .subst q;rwa[L.hw]at I
    .subst q;let#[_,y,_]:=L.hc;rwa[y]at I
   .show O4 _ _ l3 λq=>?_;rcases q with q|q
    .show U (q▸mw)
    .show U (q▸mc)
   .intro b o e q;show O4 b o (O3 b o e q) q
 .rw[decide_eq_false z];let e:m=0:=ag;subst e;show#[0,k J t l fH I U l3 L O3]
theorem rY{C p ow co:Addr}{M:WR}{os:W5}{pg:List (Option (List Int))}{H H':Hp}(S:bj C H' M p ow co os pg)(h:Off (λb=>b=ow\/b=co) H H')(mt:∀b,M b->H b≠none):∀b,M b->H' b≠none:=by
 intro b G e;cases z:b=ow\/b=co
 .rcases z with z|z
  .subst z;rwa[S.hw]at e
  .subst z;let#[_,q,_]:=S.hc;rwa[q]at e
 .cases F:H b with
  |none=>show mt b G F
  |some o=>rwa[h b o F z]at e
inductive lj(C:Addr)(v:XD)(H:Hp)(Q:VK)(e:XK):Prop
 |mk (p ow co t l:Addr) (M:WR) (os:W5) (pg:List (Option (List Int))) (ns:W5) (c:Nat) (_:v=[.ref p,.ref t]) (_:bj C H M p ow co os pg) (_:M ow) (_:M co) (_:(∀b,M b->H b≠none)) (_:ow≠co) (_:os.length=pg.length) (_:os.length<=60) (_:(0:Int)∈os) (_:H t=some (.tup [.ref l,.int c])) (_:H l=some (.lst (ns.map V.int))) (_:¬ M l) (_:1<=c) (_:c<=1000) (_:∀H':Hp,bj C H' M p ow co (os.set (os.idxOf 0) c) (pg.set (os.idxOf 0) (some ns))->Off (λb=>b=ow\/b=co) H H'->Q (.int (os.idxOf 0:Nat)) H'):lj C v H Q e
theorem FO:aE ["store","moved","n"] ["store","moved"] (aw tS):=L2.bW
theorem AM{C:Addr}(F:cD K "settle" "settle" tS f fd)(T:Txt K mg C)(GT:↥Md 1 C "take" (xp C))(GP:↥Md 3 C "put" (zj K C))(GC:↥Md 1 C "count" (iC C))(GM:↥Md 3 C "more" (tZ C)) :
  ↥aX 4 f fd ["store","moved"] (lj C):=by
 show F.dU FO ?_;intros;let#[p,ow,co,t,l,M,os,pg,ns,c,rfl,S,R,mc,mt,ab,ac,N,h0,I,aB,nM,c1,c2,k]:=h;let#[dx,h1]:=S.ob;let O:os.idxOf 0<os.length:=Pp.mpr h0;show#[_,(ai (cK 2 FO.nd (mR (pv 0) T.cl GT hr ax))
  (ai (aQ (pm (pv 0) T.cl GP hr ax (aa (pv 2) (aa (aS bw (pv 1) ah cy) af))))
  (ai (vH NC (aA gp (pm (pv 0) T.cl GC hr ax (aa (pv 2) af)) (aS bw (pv 1) ah cy) (aH _)) (ak (aQ (pm (pv 0) T.cl GM hr ax (aa (pv 2) af)))))
  (ak (aG (pv 2)))))),?_]
 show#[0,p,dx,0,h1,aW _ _ aq aq,p,ow,co,M,os,pg,rfl,S,R,mc,mt,ab,ac,N,λz=>absurd h0 z,λ_ H1 S1 L=>?_];generalize os.idxOf 0=j at *;let#[aD,ap]:=S1.ob;let Y:¬ (t=ow\/t=co):=λq=>by
  rcases q with q|q
  .subst q;rwa[S.hw]at I
  .subst q;let#[_,y,_]:=S.hc;rwa[y]at I
 let as:¬ (l=ow\/l=co):=λq=>by
  rcases q with q|q
  .show nM (q▸R)
  .show nM (q▸mc)
 let t1:=L _ _ I Y;let l1:=L _ _ aB as;show#[0,p,aD,0,ap,aW _ _ aq aq,0,0,t,_,(0),0,rfl,cu.of t1,rfl,p,ow,co,l,M,2,_,ns,rfl,S1,R,mc,rY S1 L mt,ab,by rw[OR,OR];show ac,by rw[OR];show N,by rw[gR O];decide,bD.of l1,?_];intro H2 S2 O2;rw[show(j:Int).toNat=j from Qj j,Va]at S2;show#[λm σ J=>∃G:Nat,m+G=c/\1<=G/\σ=#v[.ref p,.ref t,.int j]/\bj C J M p ow co (os.set j G) (pg.set j (some ns))/\J t=some (.tup [.ref l,.int c])/\Off (λb=>b=ow\/b=co) H J,
  #[c-1,(1),ag,rr _,rfl,S2,O2 _ _ t1 Y,λb o e q=>O2 b o (L b o e q) q],?_]
 rintro m σ J ⟨G,em,p1,rfl,U,t3,O3⟩;let#[am,h3]:=U.ob;show#[0,p,am,0,h3,aW _ _ aq aq,0,p,ow,co,M,2,j,rfl,U,by rw[OR];show N,?_];rw[gR O];show#[0,t,_,(1),0,rfl,cu.of t3,4,0,rfl,0,?_];cases z:(G:Int)<c
 .rw[decide_eq_true z];show#[λad H'=>ad=#v[.ref p,.ref t,.int j]/\bj C H' M p ow co (os.set j (G+1:Nat)) (pg.set j (some ns))/\H' t=some (.tup [.ref l,.int c])/\Off (λb=>b=ow\/b=co) H H',3]
  .rintro ad H' ⟨a1,a2,a3,a4⟩;show#[m-1,ag,G+1,ag,ag,a1,a2,a3,a4]
  .show#[0,p,am,0,h3,aW _ _ aq aq,0,p,ow,co,M,2,j,rfl,U,R,mc,ab,by rw[OR];show N,by rw[gR O];omega,?_];intro H4 S4 O4;rw[gR O,show(j:Int).toNat=j from Qj j,Va]at S4;show#[rfl,S4,O4 _ _ t3 Y,λb o e q=>O4 b o (O3 b o e q) q]
 .rw[decide_eq_false z];let e:G=c:=ag;subst e;show#[0,k J U O3]
structure PA where
 pg:Addr
 fp:Addr
 fo:Addr
 fc:Addr
 sp:Addr
 so:Addr
 sc:Addr
 pd:Addr
 il:Addr
def dC(A:PA)(n:Int):List (Str×V):=bM "in_frames" (.ref A.il) (bM "last_sheet" (.int n) (bM "places" (.ref A.pd) (bM "slots" (.ref A.sp) (bM "frames" (.ref A.fp) []))))
abbrev HV:=List (Int×Addr×Bool×Nat)
def uU(x:Addr×Bool×Nat):V:=.ref x.1
def lP(b:Bool)(n:Nat):List V:=[.str (if b=true then "frame" else "slot"),.int n]
structure cm(C CS:Addr)(H:Hp)(M:WR)(A:PA)(s:Pg.PS):Prop where
 ob:∃dx,H A.pg=some (.ins C dx (dC A s.ls))
 fr:bj CS H M A.fp A.fo A.fc (s.ow true) (s.co true)
 sl:bj CS H M A.sp A.so A.sc (s.ow false) (s.co false)
 il:H A.il=some (.lst (s.inf.map V.int))
 le:∀b,(s.ow b).length<=60
 pd:∃l:HV,H A.pd=some (.dK (Tb.dk uU l))/\(l.map (·.1)).Nodup/\(∀x∈l,H x.2.1=some (.tup (lP x.2.2.1 x.2.2.2)))/\(∀k,(Tb.look l k).map (·.2)=s.pl k)/\l.length<=1000
structure qP(K:HC)(mg:WW)(C:Addr):Prop where
 cl:qQ K C
 nF:dQ K C "frames"
 nS:dQ K C "slots"
 nP:dQ K C "places"
 nL:dQ K C "last_sheet"
 nI:dQ K C "in_frames"
 list:mg "list" = none
abbrev xv:Oz:=inClass (top 35) 9
inductive jM(C CS:Addr)(v:XD)(H:Hp)(Q:VK)(e:XK):Prop
 |mk(M:WR)(A:PA)(s:Pg.PS)(k:Int)(b:Bool)(n:Nat)(_:v=[.ref A.pg,.int k])(_:cm C CS H M A s)(_:s.pl k=some (b,n))(_:∀t,H t=some (.tup (lP b n))->Q (.ref t) H)
theorem rH(A:PA)(n:Int):(dC A n).lookup ("places" : Str)=some (.ref A.pd):=by
 unfold dC;rw[aJ,WO aq,aJ,WO aq,aJ,WQ rfl]
theorem Mr:aE ["self","sheet"] ["self","sheet"] (aw xv):=L2.bW
theorem Cy{C CS:Addr}(F:cD K "place" "Paging.place" xv f fd)(T:qP K mg C):↥aX 1 f fd ["self","sheet"] (jM C CS):=by
 show F.dU Mr ?_;intros;let#[M,I,s',k,b,n,rfl,G,U,q]:=h;let#[dx,h1]:=G.ob;let#[l,hd,Y,S,R,_]:=G.pd;show#[_,(ai (bo (jm (hX (bG hr) (pv 1) (aI (pv 0) rfl))) cN aK)
  (ak (aG (bP (bG hr) (aI (pv 0) rfl) (pv 1) cy)))),?_]
 obtain⟨x,L,ex⟩:∃x,Tb.look l k=some x/\x.2=(b,n):=by
  have:=R k;rw[U]at this;show qw.mp this
 let N:eV H I.pd (.int k) (some (uU x)):=by
  let J:=eV.k (k:=t6 k) hd;rw[Tb.dn,L]at J;show J
 let O:=S _ (Tb.aC L);show#[0,0,I.pg,C,dx,_,0,h1,T.cl,T.nP,rH _ _,I.pd,0,N,0,?_];show cq #[0,I.pg,C,dx,_,0,h1,T.cl,T.nP,rH _ _,0,I.pd,uU x,rfl,N,q x.1 ?_];rw[show x.2.1=b by rw[ex],show x.2.2=n by rw[ex]]at O;show O
abbrev mx:Oz:=inClass (top 35) 10
abbrev qJ:Oz:=inClass (top 35) 11
inductive eg(C CS:Addr)(v:XD)(H:Hp)(Q:VK)(e:XK):Prop
 |mk(M:WR)(A:PA)(s:Pg.PS)(k:Int)(b:Bool)(n:Nat)(_:v=[.ref A.pg,.int k])(_:cm C CS H M A s)(_:s.pl k=some (b,n))(_:Q (.int n) H)
def PA.st(A:PA)(b:Bool):Addr:=if b=true then A.fp else A.sp
inductive gE(C CS:Addr)(v:XD)(H:Hp)(Q:VK)(e:XK):Prop
 |mk(M:WR)(A:PA)(s:Pg.PS)(k:Int)(b:Bool)(n:Nat)(_:v=[.ref A.pg,.int k])(_:cm C CS H M A s)(_:s.pl k=some (b,n))(_:Q (.ref (A.st b)) H)
theorem dh(A:PA)(n:Int){m:Str}(h1:¬ m = "in_frames")(h2:¬ m = "last_sheet")(F:¬ m = "places")(I:¬ m = "slots")(G:¬ m = "frames"):(dC A n).lookup m=none:=by
 unfold dC;rw[aJ,WO h1,aJ,WO h2,aJ,WO F,aJ,WO I,aJ,WO G]
 all_goals rfl
theorem pf(A:PA)(n:Int):(dC A n).lookup ("frames" : Str)=some (.ref A.fp):=by
 unfold dC;rw[aJ,WO aq,aJ,WO aq,aJ,WO aq,aJ,WO aq,aJ,WQ rfl]
theorem vU(A:PA)(n:Int):(dC A n).lookup ("slots" : Str)=some (.ref A.sp):=by
 unfold dC;rw[aJ,WO aq,aJ,WO aq,aJ,WO aq,aJ,WQ rfl]
theorem Nh:aE ["self","sheet"] ["self","sheet"] (aw mx):=L2.bW
theorem wG{C CS:Addr}(F:cD K "number_of" "Paging.number_of" mx f fd)(T:qP K mg C)(N:↥Md 1 C "place" (jM C CS)):↥aX 2 f fd ["self","sheet"] (eg C CS):=by
 show F.dU Nh ?_;intros;let#[M,I,s',k,b,n,rfl,G,L,q]:=h;let#[dx,h1]:=G.ob;show#[_,(ak (aG (aS bw (pm (pv 0) T.cl N hr ax (aa (pv 1) af)) ah cy))),?_];show#[0,I.pg,dx,0,h1,dh _ _ aq aq aq aq aq,0,M,I,s',k,b,n,rfl,G,L,λt J=>?_];show#[t,_,(1),0,rfl,cu.of J,rfl,q]
theorem Mg:aE ["self","sheet"] ["self","sheet"] (aw qJ):=L2.bW
theorem x8{C CS:Addr}(F:cD K "store_of" "Paging.store_of" qJ f fd)(T:qP K mg C)(N:↥Md 1 C "place" (jM C CS)):↥aX 2 f fd ["self","sheet"] (gE C CS):=by
 show F.dU Mg ?_;intros;let#[M,I,s',k,b,n,rfl,G,L,q]:=h;let#[dx,h1]:=G.ob;show#[_,(ai (bo (aA bZ (aS bw (pm (pv 0) T.cl N hr ax (aa (pv 1) af)) ah cy) ay (aH _)) (ak (aG (aI (pv 0) rfl))) aK)
  (ak (aG (aI (pv 0) rfl)))),?_]
 show#[0,I.pg,dx,0,h1,dh _ _ aq aq aq aq aq,0,M,I,s',k,b,n,rfl,G,L,λt J=>?_];show#[t,_,(0),0,rfl,cu.of J,1,0,?_];cases b with
 |true=>show dR #[0,I.pg,C,dx,_,0,h1,T.cl,T.nF,pf _ _,q]
 |false=>show cq #[0,I.pg,C,dx,_,0,h1,T.cl,T.nS,vU _ _,q]
abbrev um:Oz:=inClass (top 35) 12
abbrev uc:Oz:=inClass (top 35) 4
def PA.ow(A:PA)(b:Bool):Addr:=if b=true then A.fo else A.so
def PA.co(A:PA)(b:Bool):Addr:=if b=true then A.fc else A.sc
theorem cm.st{C CS:Addr}{H:Hp}{M:WR}{A:PA}{s:Pg.PS}(G:cm C CS H M A s)(b:Bool):bj CS H M (A.st b) (A.ow b) (A.co b) (s.ow b) (s.co b):=by
 cases b
 .show G.sl
 .show G.fr
inductive oN(C CS:Addr)(v:XD)(H:Hp)(Q:VK)(e:XK):Prop
 |mk(M:WR)(A:PA)(s:Pg.PS)(k:Int)(cs:W5)(c:Int)(_:v=[.ref A.pg,.int k])(_:cm C CS H M A s)(_:Pg.Vw s k cs c)(_:Q (.int c) H)
inductive qu(C CS:Addr)(v:XD)(H:Hp)(Q:VK)(e:XK):Prop
 |mk(M:WR)(A:PA)(s:Pg.PS)(k:Int)(cs:W5)(c:Int)(_:v=[.ref A.pg,.int k])(_:cm C CS H M A s)(_:Pg.Vw s k cs c)(_:c≠0)(_:∀l,H l=none->Q (.ref l) (upd H l (.lst (cs.map V.int))))
theorem Nr:aE ["self","sheet"] ["self","sheet"] (aw um):=L2.bW
theorem Ad{C CS:Addr}(F:cD K "count" "Paging.count" um f fd)(T:qP K mg C)(TS:Txt K mg CS)(R:↥Md 2 C "store_of" (gE C CS))(L:↥Md 2 C "number_of" (eg C CS))(N:↥Md 1 CS "count" (iC CS)):↥aX 3 f fd ["self","sheet"] (oN C CS):=by
 show F.dU Nr ?_;intros;let#[M,I,s',k,cs,c,rfl,G,#[b,n,J,Y,U],q]:=h;let#[dx,h1]:=G.ob;let S:=G.st b;let#[O,h2]:=S.ob;show#[_,(ak (aG (pm (pm (pv 0) T.cl R hr ax (aa (pv 1) af)) TS.cl N hr ax (aa (pm (pv 0) T.cl L hr ax (aa (pv 1) af)) af)))),?_];show#[0,I.pg,dx,0,h1,dh _ _ aq aq aq aq aq,0,M,I,s',k,b,n,rfl,G,J,?_];show#[_,O,0,h2,aW _ _ aq aq,?_];show#[0,I.pg,dx,0,h1,dh _ _ aq aq aq aq aq,0,M,I,s',k,b,n,rfl,G,J,?_];show#[2,_,M,2,n,rfl,S,G.le b,?_];rw[gB U];show q
theorem MU:aE ["self","sheet"] ["self","sheet"] (aw uc):=L2.bW
theorem Am{C CS:Addr}(F:cD K "cells" "Paging.cells" uc f fd)(T:qP K mg C)(TS:Txt K mg CS)(U:↥Md 2 C "store_of" (gE C CS))(N:↥Md 2 C "number_of" (eg C CS))(GE:↥Md 3 CS "cells" (oh CS)):↥aX 4 f fd ["self","sheet"] (qu C CS):=by
 show F.dU MU ?_;intros;let#[M,I,s',k,cs,c,rfl,G,#[b,n,J,L,Y],R,q]:=h;let#[dx,h1]:=G.ob;let S:=G.st b;let#[O,h2]:=S.ob;show#[_,(ak (aG (pm (pm (pv 0) T.cl U hr ax (aa (pv 1) af)) TS.cl GE hr ax (aa (pm (pv 0) T.cl N hr ax (aa (pv 1) af)) af)))),?_];show#[0,I.pg,dx,0,h1,dh _ _ aq aq aq aq aq,0,M,I,s',k,b,n,rfl,G,J,?_];show#[_,O,0,h2,aW _ _ aq aq,?_];show#[0,I.pg,dx,0,h1,dh _ _ aq aq aq aq aq,0,M,I,s',k,b,n,rfl,G,J,?_];show#[2,_,M,2,n,cs,rfl,S,G.le b,by rw[gB Y];show R,by rw[show(n:Int).toNat=n from Qj n];show L,q]
theorem bj.off{C p ow co:Addr}{B M:WR}{os:W5}{pg:List (Option (List Int))}{H H':Hp}(S:bj C H M p ow co os pg)(h:Off B H H')(J:∀b,B b->M b)(O:¬ B p)(F:¬ B ow)(N:¬ B co):bj C H' M p ow co os pg:=by
 let#[#[dx,h1],I,cs,L,G]:=S;show#[#[dx,h _ _ h1 O],h _ _ I F,cs,h _ _ L N,jQ h J G]
structure PA.Ok(A:PA)(M:WR):Prop where
 ds:[A.pg,A.fp,A.fo,A.fc,A.sp,A.so,A.sc,A.pd,A.il].Nodup
 mm:∀x∈[A.pg,A.fp,A.fo,A.fc,A.sp,A.so,A.sc,A.pd,A.il],M x
def PA.own(A:PA):Addr->Prop:=λb=>b∈[A.pg,A.fo,A.fc,A.so,A.sc,A.pd,A.il]
abbrev tu:Oz:=inClass (top 35) 8
theorem sC{α:Type}{l:List α}(h:l.Nodup)(i j:Nat){a b:α}(hi:l[i]?=some a)(J:l[j]?=some b)(I:i≠j):a≠b:=by
 let#[h1,G]:=mu.mp hi;let#[h2,F]:=mu.mp J;let q:=Pz.mp h;rcases Nat.lt_or_gt_of_ne I with z|z
 .rw[<-G, <-F];show q i j h1 h2 z
 .rw[<-G, <-F];show ro (q j i h2 h1 z)
theorem iw{a b c:Addr}(h1:a≠b)(h2:a≠c):¬ (a=b\/a=c):=λz=>z.elim h1 h2
theorem KS{M:WR}{a b:Addr}(h1:M a)(h2:M b):∀c,c=a\/c=b->M c:=λc z=>z.elim (λe=>by rw[e];show h1) λe=>by rw[e];show h2
theorem in1{M:WR}{a:Addr}(h1:M a):∀c,c=a->M c:=λc e=>by rw[e];show h1
section
variable{A:PA}{M:WR}
theorem PA.Ok.n(ok:A.Ok M)(i j:Nat){a b:Addr}(hi:[A.pg,A.fp,A.fo,A.fc,A.sp,A.so,A.sc,A.pd,A.il][i]?=some a)(G:[A.pg,A.fp,A.fo,A.fc,A.sp,A.so,A.sc,A.pd,A.il][j]?=some b)(F:i≠j):a≠b:=sC ok.ds i j hi G F
theorem PA.Ok.m(ok:A.Ok M)(i:Nat){a:Addr}(hi:[A.pg,A.fp,A.fo,A.fc,A.sp,A.so,A.sc,A.pd,A.il][i]?=some a):M a:=ok.mm a (wh hi)
theorem PA.gW(i:Nat){a:Addr}(hi:[A.pg,A.fo,A.fc,A.so,A.sc,A.pd,A.il][i]?=some a):A.own a:=wh hi
theorem PA.Ok.own(ok:A.Ok M):∀b,A.own b->M b:=by
 intro b h;unfold PA.own at h;simp only[t7,vr,or_false]at h;rcases h with h|h|h|h|h|h|h<;>rw[h]
 .show ok.m 0 rfl
 .show ok.m 2 rfl
 .show ok.m 3 rfl
 .show ok.m 5 rfl
 .show ok.m 6 rfl
 .show ok.m 7 rfl
 .show ok.m 8 rfl
theorem cm.alive{C CS:Addr}{H H':Hp}{s:Pg.PS}(G:cm C CS H' M A s)(o:Off A.own H H')(mt:∀b,M b->H b≠none):∀b,M b->H' b≠none:=by
 intro b N e;cases z:A.own b
 .unfold PA.own at z;simp only[t7,vr,or_false]at z;let#[dx,h1]:=G.ob;let#[_,L,_]:=G.fr.hc;let#[_,I,_]:=G.sl.hc;let#[l,J,_]:=G.pd;rcases z with z|z|z|z|z|z|z<;>rw[z]at e
  .rw[h1]at e;cases e
  .rw[G.fr.hw]at e;cases e
  .rw[L]at e;cases e
  .rw[G.sl.hw]at e;cases e
  .rw[I]at e;cases e
  .rw[J]at e;cases e
  .rw[G.il]at e;cases e
 .cases F:H b with
  |none=>show mt b N F
  |some o'=>rwa[o b o' F z]at e
theorem cm.keep{C CS:Addr}{H H':Hp}{s:Pg.PS}(G:cm C CS H M A s)(h:Off (λ_=>False) H H'):cm C CS H' M A s:=by
 let#[dx,h1]:=G.ob;let#[l,hd,L,J,I,N]:=G.pd;show#[#[dx,h _ _ h1 id],G.fr.keep h,G.sl.keep h,h _ _ G.il id,G.le,#[l,h _ _ hd id,L,λx F=>h _ _ (J x F) id,I,N]]
theorem cm.qq{C CS:Addr}{H:Hp}{s:Pg.PS}(G:cm C CS H M A s)(ok:A.Ok M)(r:W5):cm C CS (upd H A.il (.lst (r.map V.int))) M A { s with inf:=r }:=by
 let o:Off (· = A.il) H (upd H A.il (.lst (r.map V.int))):=λb o e z=>(by rw[aj z];show e);let#[dx,h1]:=G.ob;let#[l,hd,L,F,J,N]:=G.pd;show#[#[dx,o _ _ h1 (ok.n 0 8 rfl rfl ao)],G.fr.off o (in1 (ok.m 8 rfl)) (ok.n 1 8 rfl rfl ao) (ok.n 2 8 rfl rfl ao) (ok.n 3 8 rfl rfl ao),G.sl.off o (in1 (ok.m 8 rfl)) (ok.n 4 8 rfl rfl ao) (ok.n 5 8 rfl rfl ao) (ok.n 6 8 rfl rfl ao),ae,G.le,
  #[l,o _ _ hd (ok.n 7 8 rfl rfl ao),L,λx I=>o _ _ (F x I) (dg (F x I) G.il (by intro z;cases z)),J,N]]
theorem cm.HJ{C CS:Addr}{H:Hp}{s s':Pg.PS}(G:cm C CS H M A s)(F:s'.ow=s.ow)(I:s'.co=s.co)(U:s'.ls=s.ls)(N:s'.inf=s.inf)(J:∀j,s'.pl j=s.pl j):cm C CS H M A s':=by
 let#[l,hd,R,O,L,S]:=G.pd;show#[by rw[U];show G.ob,by rw[F,I];show G.fr,by rw[F,I];show G.sl,by rw[N];show G.il,by rw[F];show G.le,#[l,hd,R,O,λj=>by rw[J];show L j,S]]
theorem Ft{H:Hp}{l:HV}{f:Int->Option (Bool×Nat)}{k:Int}{t:Addr}{b:Bool}{n:Nat}(O:(l.map (·.1)).Nodup)(J:∀x∈l,H x.2.1=some (.tup (lP x.2.2.1 x.2.2.2)))(I:∀j,(Tb.look l j).map (·.2)=f j)(S:l.length<=999\/(f k≠none/\l.length<=1000))(N:H t=some (.tup (lP b n))) :
  ∃G:HV,putK (Tb.dk uU l) (t6 k) (.ref t)=Tb.dk uU G/\(G.map (·.1)).Nodup/\(∀x∈G,H x.2.1=some (.tup (lP x.2.2.1 x.2.2.2)))/\(∀j,(Tb.look G j).map (·.2)=Pg.eQ f k (some (b,n)) j)/\G.length<=1000:=by
 let L:∀G:HV,(∀j,Tb.look G j=if j=k then some (t,b,n)else Tb.look l j)->∀j,(Tb.look G j).map (·.2)=Pg.eQ f k (some (b,n)) j:=by
  intro G h j;rw[h j];cases e:j=k
  .rw[WQ e,e,Pg.bO];rfl
  .rw[WO e,Pg.aN e];show I j
 cases e:Tb.look l k with
 |none =>
  let R:f k=none:=(by rw[<-I k,e];rfl);show#[l++[(k,(t,b,n))],Tb.cX (f:=uU) (a:=(t,b,n)) e,?_,λx F=>?_,L _ λj=>Tb.eG j e,?_]
  .rw[IF];show iE O (Tb.cO e)
  .rcases qj.mp F with F|F
   .show J x F
   .rw[oR.mp F];show N
  .rw[G1,OT];rcases S with h|h
   .omega
   .show absurd R h.1
 |some y =>
  show#[Tb.bE l k (t,b,n),Tb.jA (f:=uU) (a:=(t,b,n)) e,by rw[Tb.gI];show O,λx F=>?_,L _ λj=>Tb.dq j e,?_]
  .rcases Tb.mem_set F with rfl|⟨F,_⟩
   .show N
   .show J x F
  .rw[Tb.iP];omega
theorem cm.CC{C CS t:Addr}{H:Hp}{s:Pg.PS}{l:HV}{f:Int->Option (Bool×Nat)}{k:Int}{b:Bool}{n:Nat}(ok:A.Ok M)
  (Y:∃dx,H A.pg=some (.ins C dx (dC A s.ls))) (R:bj CS H M A.fp A.fo A.fc (s.ow true) (s.co true)) (sl:bj CS H M A.sp A.so A.sc (s.ow false) (s.co false)) (il:H A.il=some (.lst (s.inf.map V.int))) (le:∀b,(s.ow b).length<=60)
  (hd:H A.pd=some (.dK (Tb.dk uU l))) (nd:(l.map (·.1)).Nodup) (L:∀x∈l,H x.2.1=some (.tup (lP x.2.2.1 x.2.2.2))) (I:∀j,(Tb.look l j).map (·.2)=f j) (U:l.length<=999\/(f k≠none/\l.length<=1000)) (S:H t=some (.tup (lP b n))) (hp:∀j,s.pl j=Pg.eQ f k (some (b,n)) j) :
  cm C CS (upd H A.pd (.dK (putK (Tb.dk uU l) (t6 k) (.ref t)))) M A s:=by
 let o:Off (· = A.pd) H (upd H A.pd (.dK (putK (Tb.dk uU l) (t6 k) (.ref t)))):=λb o e z=>(by rw[aj z];show e);let#[l',N,J,G,e4,O]:=Ft (k:=k) nd L I U S;let#[dx,h1]:=Y;show#[#[dx,o _ _ h1 (ok.n 0 7 rfl rfl ao)],R.off o (in1 (ok.m 7 rfl)) (ok.n 1 7 rfl rfl ao) (ok.n 2 7 rfl rfl ao) (ok.n 3 7 rfl rfl ao),sl.off o (in1 (ok.m 7 rfl)) (ok.n 4 7 rfl rfl ao) (ok.n 5 7 rfl rfl ao) (ok.n 6 7 rfl rfl ao),o _ _ il (ok.n 8 7 rfl rfl ao),le,
  #[l',by rw[ae,N],J,λx F=>o _ _ (G x F) (dg (G x F) hd (by intro z;cases z)),λj=>by rw[hp j];show e4 j,O]]
theorem nG{α:Type}{k:Int}:∀{l:List (Int×α)},(l.map (·.1)).Nodup->l.length<=(Tb.bJ l k).length+1
 | [],_=>OC _
 |x::r,h=>by
  let#[J,G]:=Ot.mp (show(x.1::r.map (·.1)).Nodup from h);let F:=nG (k:=k) G;unfold Tb.bJ at F ⊢;rw[PX];cases c:x.1=k
  .rw[WO (by simp[c])];have:r.filter (λx=>decide (x.1≠k))=r:=by
    rw[Sy];intro y I;have:y.1≠k:=λe=>J (by rw[c, <-e];show rk.mpr #[y,I,rfl]);simpa using this
   rw[this,K4];show rr _
  .rw[WQ ‹c›,K4,K4];omega
theorem FL{s:Pg.PS}(G:Pg.Good s)(le:∀b,(s.ow b).length<=60){l:HV}(S:(l.map (·.1)).Nodup)(F:∀x∈l,s.pl x.1=some x.2.2):l.length<=120:=by
 let lt:∀x∈l,x.2.2.2<60:=λx I=>by
  let#[cs,c,_,h2,_,_]:=G.va x.1 x.2.2.1 x.2.2.2 (F x I);let Y:=(mu.mp h2).1;let h4:=le x.2.2.1;omega
 have:=Tb.ER 120 0 (l.map λx=>if x.2.2.1=true then(x.2.2.2:Int)else 60+(x.2.2.2:Int)) ?_ ?_
 .rwa [k9]at this
 .show QO.mpr ((QO.mp S).imp_of_mem ?_);intro a b O L R e;let h1:=lt a O;let h2:=lt b L;show R (G.inj a.1 b.1 b.2.2 ?_ (F b L));rw[F a O];congr 1;let e:(if a.2.2.1=true then(a.2.2.2:Int)else 60+(a.2.2.2:Int))=if b.2.2.1=true then(b.2.2.2:Int)else 60+(b.2.2.2:Int):=e
  show U0 ?_ ?_
  .rcases J:a.2.2.1 with _|_<;>rcases N:b.2.2.1 with _|_
   .rfl
   .rw[J,N,WO ao,WQ rfl]at e;omega
   .rw[J,N,WQ rfl,WO ao]at e;omega
   .rfl
  .split at e<;>split at e<;>omega
 .intro x I;let#[y,U,rfl]:=rk.mp I;let h1:=lt y U;split<;>omega
theorem zu{s:Pg.PS}(G:Pg.Good s)(le:(s.ow true).length<=60):s.inf.length<=60:=by
 have:=Tb.ER 60 0 (s.inf.map λk=>match s.pl k with|some p=>(p.2:Int)|none=>0) ?_ ?_
 .rwa [k9]at this
 .show QO.mpr (G.nd.imp_of_mem ?_);intro a b O J L e;let#[n,F]:=(G.fi a).mp O;let#[m,I]:=(G.fi b).mp J;rw[F,I]at e;let e:(n:Int)=m:=e;let e:n=m:=ag;subst e;show L (G.inj _ _ _ F I)
 .intro x N;let#[y,R,rfl]:=rk.mp N;let#[n,F]:=(G.fi y).mp R;let#[cs,c,_,h2,_,_]:=G.va _ _ _ F;let S:=(mu.mp h2).1;rw[F];change 0<=(n:Int)/\(n:Int)<0+(60:Nat);omega
inductive pP(C CS:Addr)(v:XD)(H:Hp)(Q:VK)(e:XK):Prop
 |mk(M:WR)(A:PA)(s:Pg.PS)(k:Int)(n:Nat)(cs:W5)(c:Nat)(_:v=[.ref A.pg,.int k])(_:cm C CS H M A s)(_:A.Ok M)(_:(∀b,M b->H b≠none))(_:s.pl k=some (true,n))(_:Pg.Vw s k cs c)(_:¬ k∈s.inf)(_:(0:Int)∈s.ow false)(_:(∀b,(s.co b).length=(s.ow b).length))(_:1<=c)(_:c<=1000)(_:∀H':Hp,cm C CS H' M A (Pg.out s k n cs c)->Off A.own H H'->Q .non H')
theorem Ki:aE ["self","sheet","moved"] ["self","sheet"] (aw tu):=L2.bW
theorem yO{C CS:Addr}(F:cD K "put_out" "Paging.put_out" tu f fd)(T:qP K mg C)(ad:↥Df 4 "lift" (uE CS))(aD:↥Df 4 "settle" (lj CS))(aT:↥Md 2 C "number_of" (eg C CS)):↥aX 5 f fd ["self","sheet"] (pP C CS):=by
 show F.dU Ki ?_;intros;let#[M,I,s',k,n,cs,c,rfl,G,ok,mt,R,hv,ni,h0,aB,Y,c2,q]:=h;let#[dx,h1]:=G.ob;let#[b',n',U,e2,e3]:=hv;rwa[R]at U;let#[l,hd,nd,N,hl,am]:=G.pd;let hs:=ti;show#[_,(ai (cK 2 Ki.nd (pc ad hr ax (aa (aI (pv 0) rfl) (aa (pm (pv 0) T.cl aT hr ax (aa (pv 1) af)) af))))
  (ak (lh (bG hr) (aI (pv 0) rfl) (pv 1) (bK (aa ay (aa (pc aD hr ax (aa (aI (pv 0) rfl) (aa (pv 2) af))) af))) rfl))),?_]
 show#[0,I.pg,C,dx,_,0,h1,T.cl,T.nF,pf _ _,?_];show#[0,I.pg,dx,0,h1,dh _ _ aq aq aq aq aq,0,M,I,s',k,true,n,rfl,G,R,?_];show#[I.fp,I.fo,I.fc,M,2,n,cs,c,rfl,G.fr,ok.m 2 rfl,ok.m 3 rfl,mt,ok.n 2 3 rfl rfl ao,G.le true,e3,Y,c2,e2,?_];intro H1 t l0 ft a3 nl a0 S1 O;let a1:=O _ _ h1 (iw (ok.n 0 2 rfl rfl ao) (ok.n 0 3 rfl rfl ao));let a4:=G.sl.off O (KS (ok.m 2 rfl) (ok.m 3 rfl)) (iw (ok.n 4 2 rfl rfl ao) (ok.n 4 3 rfl rfl ao)) (iw (ok.n 5 2 rfl rfl ao) (ok.n 5 3 rfl rfl ao)) (iw (ok.n 6 2 rfl rfl ao) (ok.n 6 3 rfl rfl ao));show#[0,I.pg,C,dx,_,0,a1,T.cl,T.nS,vU _ _,0,I.sp,I.so,I.sc,t,l0,M,2,cs,c,rfl,a4,ok.m 5 rfl,ok.m 6 rfl,rY S1 O mt,ok.n 5 6 rfl rfl ao,(aB false).symm,G.le false,h0,a3,a0,nl,Y,c2,?_];intro H2 S2 O2;show#[dN,λu S=>?_];let a2:=(S1.off O2 (KS (ok.m 5 rfl) (ok.m 6 rfl)) (iw (ok.n 1 5 rfl rfl ao) (ok.n 1 6 rfl rfl ao)) (iw (ok.n 2 5 rfl rfl ao) (ok.n 2 6 rfl rfl ao)) (iw (ok.n 3 5 rfl rfl ao) (ok.n 3 6 rfl rfl ao))).keep (dH (o:=.tup (lP false ((s'.ow false).idxOf 0))) S);let a5:=S2.keep (dH (o:=.tup (lP false ((s'.ow false).idxOf 0))) S);let J:∀b o,H b=some o->¬ (b=I.fo\/b=I.fc)->¬ (b=I.so\/b=I.sc)->upd H2 u (.tup (lP false ((s'.ow false).idxOf 0))) b=some o:=λb o e z1 z2=>dH S b o (O2 b o (O b o e z1) z2) id;let hu:upd H2 u (.tup (lP false ((s'.ow false).idxOf 0))) u=some (.tup (lP false ((s'.ow false).idxOf 0))):=ae;let kd:=J _ _ hd (iw (ok.n 7 2 rfl rfl ao) (ok.n 7 3 rfl rfl ao)) (iw (ok.n 7 5 rfl rfl ao) (ok.n 7 6 rfl rfl ao));let ko:=J _ _ h1 (iw (ok.n 0 2 rfl rfl ao) (ok.n 0 3 rfl rfl ao)) (iw (ok.n 0 5 rfl rfl ao) (ok.n 0 6 rfl rfl ao));let ki:=J _ _ G.il (iw (ok.n 8 2 rfl rfl ao) (ok.n 8 3 rfl rfl ao)) (iw (ok.n 8 5 rfl rfl ao) (ok.n 8 6 rfl rfl ao));let ab:=G.fr.hw;let ap:=G.sl.hw;let#[_,as,_]:=G.fr.hc;let#[_,ac,_]:=G.sl.hc;let kt:∀x∈l,upd H2 u (.tup (lP false ((s'.ow false).idxOf 0))) x.2.1=some (.tup (lP x.2.2.1 x.2.2.2)):=λx L=>J _ _ (N x L) (iw (dg (N x L) ab (by intro z;cases z)) (dg (N x L) as (by intro z;cases z))) (iw (dg (N x L) ap (by intro z;cases z)) (dg (N x L) ac (by intro z;cases z)));change Fh K _ _ _ (upd H2 u (.tup (lP false ((s'.ow false).idxOf 0)))) _;generalize upd H2 u (.tup (lP false ((s'.ow false).idxOf 0)))=H3 at *;show#[0,I.pg,C,dx,_,0,ko,T.cl,T.nP,rH _ _,0,I.pd,0,iz.k (k:=t6 k) kd (by rw[Tb.cA];omega),?_];show q _ (cm.CC (s:=Pg.out s' k n cs c) (f:=s'.pl) (b:=false) (n:=(s'.ow false).idxOf 0) ok #[dx,ko] a2 a5 ?_ ?_ kd nd kt hl (.inr #[by rw[R];simp,am]) hu ?_) ?_
 .change H3 I.il=some (.lst ((s'.inf.erase k).map V.int));rw[QL ni];show ki
 .intro b;cases b
  .change(WH _ _ _).length<=60;rw[OR];show G.le false
  .change(WH _ _ _).length<=60;rw[OR];show G.le true
 .intro j;cases e:j=k
  .subst e;show Pg.bO.trans Pg.bO.symm
  .show(Pg.aN e).trans ((Pg.aN e).trans (Pg.aN e).symm)
 .intro b o e z;rw[aj (λy=>z (by rw[y];show PA.gW 5 rfl))];show J b o e (λy=>z (y.elim (λy=>by rw[y];show PA.gW 1 rfl) λy=>by rw[y];show PA.gW 2 rfl)) (λy=>z (y.elim (λy=>by rw[y];show PA.gW 3 rfl) λy=>by rw[y];show PA.gW 4 rfl))
abbrev pM:Oz:=inClass (top 35) 7
inductive jN(C CS:Addr)(v:XD)(H:Hp)(Q:VK)(e:XK):Prop
 |mk(M:WR)(A:PA)(s:Pg.PS)(k:Int)(t l:Addr)(cs:W5)(c:Nat)(_:v=[.ref A.pg,.int k,.ref t])(_:cm C CS H M A s)(_:A.Ok M)(_:(∀b,M b->H b≠none))(_:Pg.Good { s with pl:=Pg.eQ s.pl k none })(_:((0:Int)∈s.ow true\/(0:Int)∈s.ow false))(_:s.ow true≠[])(_:(∀b,∀x∈s.ow b,x<=1000))(_:H t=some (.tup [.ref l,.int c]))(_:H l=some (.lst (cs.map V.int)))(_:¬ M l)(_:1<=c)(_:c<=1000)(_:∀(H':Hp)(s':Pg.PS),Pg.BI { s with pl:=Pg.eQ s.pl k none } k cs c s'->cm C CS H' M A s'->Off A.own H H'->Q .non H')
theorem vR(A:PA)(n:Int):(dC A n).lookup ("in_frames" : Str)=some (.ref A.il):=by
 unfold dC;rw[aJ,WQ rfl]
theorem ML:aE ["self","sheet","moved"] ["self","sheet","moved"] (aw pM):=L2.bW
theorem u0{C CS:Addr}(F:cD K "bring_in" "Paging.bring_in" pM f fd)(T:qP K mg C)(TS:Txt K mg CS)(GF:↥Md 1 CS "free" (sH CS))(ba:↥Md 5 C "put_out" (pP C CS))(a7:↥Df 4 "settle" (lj CS)):↥aX 6 f fd ["self","sheet","moved"] (jN C CS):=by
 show F.dU ML ?_;intros;let#[M,I,s',k,t,l0,cs,c,rfl,G,ok,mt,gd,hf,hn,hb,N,a4,nl,c1,c2,q]:=h;let#[dx,h1]:=G.ob;let#[a9,h2]:=G.fr.ob;let hs:=ti;let bb:¬ I.own l0:=λz=>nl (ok.own _ z);show#[_,(ai (bo (aA bZ (mR (aI (pv 0) rfl) TS.cl GF hr ax) ah (aH _)) (ak (aQ (pm (pv 0) T.cl ba hr ax (aa (hU Pc PySem.F.slot_list_pop PySem.F.type_list_pop BU (aI (pv 0) rfl) (aa ah af)) af)))) aK)
  (ai (lh (bG hr) (aI (pv 0) rfl) (pv 1) (bK (aa ay (aa (pc a7 hr ax (aa (aI (pv 0) rfl) (aa (pv 2) af))) af))) rfl)
  (ak (aQ (hU Pc Qm Qn jI (aI (pv 0) rfl) (aa (pv 1) af)))))),?_]
 show share (λσ H9=>Bv λ(J s2:Pg.PS)=>Kb (σ=#v[.ref I.pg,.int k,.ref t]) (cm C CS H9 M I J) (s2.ow=J.ow) (s2.co=J.co) (s2.ls=J.ls) (s2.inf=J.inf) ((∀j,j≠k->s2.pl j=J.pl j)) (Pg.Good s2) ((0:Int)∈s2.ow true) (Pg.BI { s' with pl:=Pg.eQ s'.pl k none } k cs c (Pg.y8 s2 true k cs c)) (Off I.own H H9)) (λu' aB=>?A) ?B
 case A =>
  show#[0,I.pg,C,dx,_,0,h1,T.cl,T.nF,pf _ _,I.fp,a9,0,h2,aW _ _ aq aq,I.fp,I.fo,I.fc,M,_,0,G.fr,rfl,0,?_];show hV (λz'=>?_) (λz'=>?_)
  rotate_left
  .let z:(0:Int)∈s'.ow true:=PD λn=>z' (by rw[UI.mpr n];simp);show aB _ _ #[s', { s' with pl:=Pg.eQ s'.pl k none },rfl,G,1,1,λj hj=>Pg.aN hj,gd,z,.free z,λb o e _=>e]
  .let z:¬ (0:Int)∈s'.ow true:=UI.mp (by
    have:(((s'.ow true).count 0:Nat):Int)=0:=‹z'›;omega)
   rcases Pg.J1 gd hf hn with h|⟨_,ac,k0,r,n0,as,c0,hi,R,ab⟩
   .show absurd h z
   .let aT:k0≠k:=λe=>by
     let R:Pg.eQ s'.pl k none k0=some (true,n0):=R;rwa[e,Pg.bO]at R
    let hi:s'.inf=k0::r:=hi;let bv:=(gd.vw ab).1;let#[og,_,_,a0,_,_,bt]:=Pg.vx gd R ab ac;let#[b1,n1,e1,e2,e3]:=id ab;rwa[R]at e1;let aD:s'.pl k0=some (true,n0):=(by rw[<-R];show(Pg.aN aT).symm);let bn:=hb true c0 (wh e3);obtain⟨ap,rfl⟩:∃c':Nat,c0=c':=#[c0.toNat,ag];let O:=gd.nd;let O:s'.inf.Nodup:=O;rw[hi]at O;let#[n1,n2]:=Ot.mp O;let L:=G.qq ok r;let S:Off I.own H (upd H I.il (.lst (r.map V.int))):=λb o e z=>(by rw[aj (λy=>z (by rw[y];show PA.gW 6 rfl))];show e);let am:=G.il;rw[hi]at am;show#[0,I.pg,dx,0,h1,dh _ _ aq aq aq aq aq,0,I.pg,C,dx,_,0,h1,T.cl,T.nI,vR _ _,.inl #[4,bD.of am],I.il,_,(0),(0),.int k0,1,am,ao,ao,SJ (OX _) (by rw[k9,K4];omega),5];show#[M,I,_,k0,n0,as,ap,rfl,L,ok,L.alive S mt,aD,#[true,n0,aD,e2,e3],n1,ac,gd.ln,ag,ag,λH2 G2 O2=>?_];show aB _ _ #[_,Pg.out { s' with pl:=Pg.eQ s'.pl k none } k0 n0 as ap,rfl,G2,1,rfl,3,og,a0,.full z ac hi R ab,λb o e y=>O2 b o (S b o e y) y]
    .change s'.inf.erase k0=r.erase k0;rw[hi,List.erase_cons_head,QL n1]
    .intro j hj;cases e:j=k0
     .subst e;show Pg.bO.trans Pg.bO.symm
     .show(Pg.aN e).trans ((Pg.aN e).trans ((Pg.aN hj).trans ((Pg.aN e).trans (Pg.aN e)).symm))
 case B =>
  rintro σ H9 ⟨J,s2,rfl,L,U,w2,w3,w4,w5,g2,z0,be,S⟩;let#[ad,h3]:=L.ob;let bg:H9 t=some (.tup [.ref l0,.int c]):=S _ _ N λy=>by
   let#[_,q1,_]:=G.fr.hc;let#[_,q2,_]:=G.sl.hc;let#[_,q3,_]:=G.pd;let q4:=G.fr.hw;let q5:=G.sl.hw;let q6:=G.il;unfold PA.own at y;simp only[t7,vr,or_false]at y;rcases y with y|y|y|y|y|y|y<;>rw[y]at N
   .rw[h1]at N;cases N
   .rw[q4]at N;cases N
   .rw[q1]at N;cases N
   .rw[q5]at N;cases N
   .rw[q2]at N;cases N
   .rw[q3]at N;cases N
   .rw[q6]at N;cases N
  let a8:=S _ _ a4 bb;let#[l,hd,O,ht,hl,bp]:=L.pd;let bl:l.length<=999:=by
   let a1:=nG (k:=k) O;let a2:=FL g2 (λb=>by rw[U];show L.le b) (l:=Tb.bJ l k) (by rw[Tb.kH];show O.filter _) λx Y=>by
    let#[Y,a6]:=Tb.cF Y;have:=hl x.1;rw[Tb.cw O Y]at this;rw[w5 x.1 a6, <-this];rfl
   omega
  rw[U]at z0;let a5:(J.co true).length=(J.ow true).length:=(by rw[<-U, <-w2];show g2.ln true);show#[0,I.pg,C,ad,_,0,h3,T.cl,T.nF,pf _ _,0,I.fp,I.fo,I.fc,t,l0,M,2,cs,c,rfl,L.fr,ok.m 2 rfl,ok.m 3 rfl,L.alive S mt,ok.n 2 3 rfl rfl ao,a5.symm,L.le true,z0,bg,a8,nl,c1,c2,?_];intro H2 S2 O2;show#[dN,λu fu=>?_];let bm:=S2.keep (dH (o:=.tup (lP true ((J.ow true).idxOf 0))) fu);let bc:=(L.sl.off O2 (KS (ok.m 2 rfl) (ok.m 3 rfl)) (iw (ok.n 4 2 rfl rfl ao) (ok.n 4 3 rfl rfl ao)) (iw (ok.n 5 2 rfl rfl ao) (ok.n 5 3 rfl rfl ao)) (iw (ok.n 6 2 rfl rfl ao) (ok.n 6 3 rfl rfl ao))).keep (dH (o:=.tup (lP true ((J.ow true).idxOf 0))) fu);let kp:∀b o,H9 b=some o->¬ (b=I.fo\/b=I.fc)->upd H2 u (.tup (lP true ((J.ow true).idxOf 0))) b=some o:=λb o e z1=>dH fu b o (O2 b o e z1) id;let hu:upd H2 u (.tup (lP true ((J.ow true).idxOf 0))) u=some (.tup (lP true ((J.ow true).idxOf 0))):=ae;let kd:=kp _ _ hd (iw (ok.n 7 2 rfl rfl ao) (ok.n 7 3 rfl rfl ao));let ko:=kp _ _ h3 (iw (ok.n 0 2 rfl rfl ao) (ok.n 0 3 rfl rfl ao));let ki:=kp _ _ L.il (iw (ok.n 8 2 rfl rfl ao) (ok.n 8 3 rfl rfl ao));let bd:=L.fr.hw;let#[_,a3,_]:=L.fr.hc;let kt:∀x∈l,upd H2 u (.tup (lP true ((J.ow true).idxOf 0))) x.2.1=some (.tup (lP x.2.2.1 x.2.2.2)):=λx Y=>kp _ _ (ht x Y) (iw (dg (ht x Y) bd (by intro z;cases z)) (dg (ht x Y) a3 (by intro z;cases z)));change Fh K _ _ _ (upd H2 u (.tup (lP true ((J.ow true).idxOf 0)))) _;generalize upd H2 u (.tup (lP true ((J.ow true).idxOf 0)))=H3 at *;show#[0,I.pg,C,ad,_,0,ko,T.cl,T.nP,rH _ _,0,I.pd,0,iz.k (k:=t6 k) kd (by rw[Tb.cA];omega),?_];let G4:=cm.CC (C:=C) (CS:=CS) (s:={ Pg.y8 J true k cs c with inf:=J.inf }) (f:=J.pl) (k:=k) (b:=true) (n:=(J.ow true).idxOf 0) ok #[ad,ko] bm bc ki (λb=>by
   cases b
   .show L.le false
   .change(WH _ _ _).length<=60;rw[OR];show L.le true) kd O kt hl (.inl bl) hu (λj=>rfl)
  let O4:Off I.own H (upd H3 I.pd (.dK (putK (Tb.dk uU l) (t6 k) (.ref u)))):=λb o e z=>by
   rw[aj (λy=>z (by rw[y];show PA.gW 5 rfl))];show kp b o (S b o e z) (λy=>z (y.elim (λy=>by rw[y];show PA.gW 1 rfl) λy=>by rw[y];show PA.gW 2 rfl))
  generalize upd H3 I.pd (.dK (putK (Tb.dk uU l) (t6 k) (.ref u)))=H4 at *;let#[bi,h4]:=G4.ob;let br:J.inf.length<=60:=(by rw[<-w4];show zu g2 (by rw[U];show L.le true));show#[0,I.pg,C,bi,_,0,h4,T.cl,T.nI,vR _ _,.inl #[4,bD.of G4.il],0,I.il,_,.int k,1,G4.il,by rw[k9];change J.inf.length<_;omega,?_];let G5:=G4.qq ok (J.inf++[k]);rw[IF]at G5;show q _ _ be (G5.HJ ?_ ?_ w3 ?_ ?_) λb o e z=>by
   rw[aj (λy=>z (by rw[y];show PA.gW 6 rfl))];show O4 b o e z
  .change Pg.upd s2.ow true _=Pg.upd J.ow true _;rw[U]
  .change Pg.upd s2.co true _=Pg.upd J.co true _;rw[U,w2]
  .change s2.inf++[k]=J.inf++[k];rw[w4]
  .intro j;change Pg.eQ s2.pl k _ j=Pg.eQ J.pl k _ j;cases e:j=k
   .rw[e,Pg.bO,Pg.bO,U]
   .rw[Pg.aN e,Pg.aN e];show w5 j e
end
end St
namespace Pg
theorem vM{α:Type}{f:Bool->α}{b:Bool}:upd f b (f b)=f:=by
 funext c;cases e:c=b
 .rw[e,ae]
 .rw[bC e]
theorem Ab{α:Type}{f:Int->α}{k:Int}{v:α}(h:f k=v):eQ f k v=f:=by
 funext c;cases e:c=k
 .rw[e,bO,h]
 .rw[aN e]
theorem yb{s:PS}(G:Good s):({ next s with pl:=eQ (next s).pl (s.ls+1) none }:PS)=next s:=by
 let e:eQ s.pl (s.ls+1) none=s.pl:=Ab (gG G);change PS.mk s.ow s.co (eQ s.pl (s.ls+1) none) (s.ls+1) s.inf=PS.mk s.ow s.co s.pl (s.ls+1) s.inf;rw[e]
theorem zk{s:PS}{k:Int}{n:Nat}(G:Good s)(I:s.pl k=some (false,n)):¬ k∈s.inf:=λh=>by
 let#[m,F]:=(G.fi k).mp h;rwa[I]at F
theorem xX{s:PS}{k:Int}{n:Nat}(G:Good s)(F:s.pl k=some (false,n)):({ cU s false n 0 with pl:=eQ (cU s false n 0).pl k none }:PS)=q8 s k false n:=by
 change PS.mk (upd s.ow false ((s.ow false).set n 0)) s.co (eQ s.pl k none) s.ls s.inf=PS.mk (upd s.ow false ((s.ow false).set n 0)) s.co (eQ s.pl k none) s.ls (s.inf.erase k);rw[QL (zk G F)]
def Cb(s:PS):Prop:=∀b,∀x∈s.ow b,x<=1000
theorem Iu{ow:Bool->List Int}{b:Bool}{n:Nat}{x:Int}(h:∀b,∀x∈ow b,x<=1000)(G:x<=1000):∀c,∀y∈upd ow b ((ow b).set n x) c,y<=1000:=by
 intro c y F;cases e:c=b
 .rw[e,ae]at F;rcases SE F with h' |h'
  .show h b y h'
  .rw[h'];show G
 .rw[bC e]at F;show h c y F
end Pg
namespace Pg
theorem RI.cb{s:PS}{es:List Ent}(R:RI s es)(le:∀b,(s.ow b).length<=60):Cb s:=by
 intro b x I;let#[n,F]:=Ug I;rcases R.good.on b n x F with e|⟨k,G⟩
 .omega
 .let#[cs,c,h1,h2,_,_]:=R.good.va _ _ _ G;rwa[F]at h2;let N:=R.ct k cs x #[b,n,G,h1,F];let S:=List.count_le_length (a:=some k) (l:=es);let J:=R.rm;let O:=le true;let L:=le false;omega
end Pg
namespace St
open PySem L2
section
variable{A:PA}{M:WR}
theorem CU(A:PA)(n:Int):(dC A n).lookup ("last_sheet" : Str)=some (.int n):=by
 unfold dC;rw[aJ,WO aq,aJ,WQ rfl]
theorem EH(A:PA)(n:Int):dC A n=([("frames",.ref A.fp),("slots",.ref A.sp),("places",.ref A.pd),("last_sheet",.int n),("in_frames",.ref A.il)]:List (Str×V)):=by
 let O:¬ (("frames" : Str) = "slots"):=aq;let F:¬ (("frames" : Str) = "places"):=aq;let U:¬ (("frames" : Str) = "last_sheet"):=aq;let L:¬ (("frames" : Str) = "in_frames"):=aq;let I:¬ (("slots" : Str) = "places"):=aq;let N:¬ (("slots" : Str) = "last_sheet"):=aq;let J:¬ (("slots" : Str) = "in_frames"):=aq;let S:¬ (("places" : Str) = "last_sheet"):=aq;let G:¬ (("places" : Str) = "in_frames"):=aq;let R:¬ (("last_sheet" : Str) = "in_frames"):=aq;unfold dC;simp only[bM,WO O,WO F,WO U,WO L,WO I,WO N,WO J,WO S,WO G,WO R]
theorem JJ(A:PA)(n m:Int):bM "last_sheet" (.int m) (dC A n)=dC A m:=by
 let I:¬ (("frames" : Str) = "last_sheet"):=aq;let F:¬ (("slots" : Str) = "last_sheet"):=aq;let G:¬ (("places" : Str) = "last_sheet"):=aq;rw[EH,EH];simp only[bM,WO I,WO F,WO G,if_true]
theorem cm.JX{C CS dx:Addr}{H:Hp}{s:Pg.PS}(G:cm C CS H M A s)(ok:A.Ok M)(n:Int):cm C CS (upd H A.pg (.ins C dx (dC A n))) M A { s with ls:=n }:=by
 let o:Off (· = A.pg) H (upd H A.pg (.ins C dx (dC A n))):=λb o e z=>(by rw[aj z];show e);let#[O,h1]:=G.ob;let#[l,hd,L,F,J,N]:=G.pd;show#[#[dx,ae],G.fr.off o (in1 (ok.m 0 rfl)) (ok.n 1 0 rfl rfl ao) (ok.n 2 0 rfl rfl ao) (ok.n 3 0 rfl rfl ao),G.sl.off o (in1 (ok.m 0 rfl)) (ok.n 4 0 rfl rfl ao) (ok.n 5 0 rfl rfl ao) (ok.n 6 0 rfl rfl ao),o _ _ G.il (ok.n 8 0 rfl rfl ao),G.le,
  #[l,o _ _ hd (ok.n 7 0 rfl rfl ao),L,λx I=>o _ _ (F x I) (dg (F x I) h1 (by intro z;cases z)),J,N]]
theorem cm.Gr{C CS:Addr}{H H':Hp}{s:Pg.PS}(G:cm C CS H M A s)(ok:A.Ok M)(b:Bool){os:W5}{pg:List (Option (List Int))}(S:bj CS H' M (A.st b) (A.ow b) (A.co b) os pg)(o:Off (λx=>x=A.ow b\/x=A.co b) H H')(U:os.length<=60):cm C CS H' M A { s with ow:=Pg.upd s.ow b os,co:=Pg.upd s.co b pg }:=by
 let#[N,h1]:=G.ob;let#[l,hd,O,F,J,R]:=G.pd;let le:∀c,(Pg.upd s.ow b os c).length<=60:=λc=>by
  cases e:c=b
  .rw[e,Pg.ae];show U
  .rw[Pg.bC e];show G.le c
 let hw:=(G.st b).hw;let#[_,Y,_]:=(G.st b).hc;let L:∀x∈l,H' x.2.1=some (.tup (lP x.2.2.1 x.2.2.2)):=λx I=>o _ _ (F x I) (iw (dg (F x I) hw (by intro z;cases z)) (dg (F x I) Y (by intro z;cases z)));cases b
 .show#[#[N,o _ _ h1 (iw (ok.n 0 5 rfl rfl ao) (ok.n 0 6 rfl rfl ao))],G.fr.off o (KS (ok.m 5 rfl) (ok.m 6 rfl)) (iw (ok.n 1 5 rfl rfl ao) (ok.n 1 6 rfl rfl ao)) (iw (ok.n 2 5 rfl rfl ao) (ok.n 2 6 rfl rfl ao)) (iw (ok.n 3 5 rfl rfl ao) (ok.n 3 6 rfl rfl ao)),S,o _ _ G.il (iw (ok.n 8 5 rfl rfl ao) (ok.n 8 6 rfl rfl ao)),le,
   #[l,o _ _ hd (iw (ok.n 7 5 rfl rfl ao) (ok.n 7 6 rfl rfl ao)),O,L,J,R]]
 .show#[#[N,o _ _ h1 (iw (ok.n 0 2 rfl rfl ao) (ok.n 0 3 rfl rfl ao))],S,G.sl.off o (KS (ok.m 2 rfl) (ok.m 3 rfl)) (iw (ok.n 4 2 rfl rfl ao) (ok.n 4 3 rfl rfl ao)) (iw (ok.n 5 2 rfl rfl ao) (ok.n 5 3 rfl rfl ao)) (iw (ok.n 6 2 rfl rfl ao) (ok.n 6 3 rfl rfl ao)),o _ _ G.il (iw (ok.n 8 2 rfl rfl ao) (ok.n 8 3 rfl rfl ao)),le,
   #[l,o _ _ hd (iw (ok.n 7 2 rfl rfl ao) (ok.n 7 3 rfl rfl ao)),O,L,J,R]]
theorem cm.CD{C CS:Addr}{H H':Hp}{s:Pg.PS}(G:cm C CS H M A s)(ok:A.Ok M)(b:Bool){os:W5}(S:bj CS H' M (A.st b) (A.ow b) (A.co b) os (s.co b))(o:Off (λx=>x=A.ow b\/x=A.co b) H H')(F:os.length<=60):cm C CS H' M A { s with ow:=Pg.upd s.ow b os }:=
 (G.Gr ok b S o F).HJ rfl Pg.vM.symm rfl rfl λ_=>rfl
theorem cm.Lc{C CS:Addr}{H H':Hp}{s:Pg.PS}(G:cm C CS H M A s)(ok:A.Ok M)(b:Bool){pg:List (Option (List Int))}(S:bj CS H' M (A.st b) (A.ow b) (A.co b) (s.ow b) pg)(o:Off (λx=>x=A.ow b\/x=A.co b) H H'):cm C CS H' M A { s with co:=Pg.upd s.co b pg }:=
 (G.Gr ok b S o (G.le b)).HJ Pg.vM.symm rfl rfl rfl λ_=>rfl
theorem PA.mD(b:Bool):∀x,x=A.ow b\/x=A.co b->A.own x:=by
 intro x h;cases b
 .rcases h with h|h<;>rw[h]
  .show PA.gW 3 rfl
  .show PA.gW 4 rfl
 .rcases h with h|h<;>rw[h]
  .show PA.gW 1 rfl
  .show PA.gW 2 rfl
theorem PA.Ok.mo(ok:A.Ok M)(b:Bool):M (A.ow b):=ok.own _ (PA.mD b _ (.inl rfl))
theorem PA.Ok.mc(ok:A.Ok M)(b:Bool):M (A.co b):=ok.own _ (PA.mD b _ (.inr rfl))
theorem PA.Ok.oc(ok:A.Ok M)(b:Bool):A.ow b≠A.co b:=by
 cases b
 .show ok.n 5 6 rfl rfl ao
 .show ok.n 2 3 rfl rfl ao
theorem Off.mono{B F:WR}{H H':Hp}(o:Off B H H')(h:∀b,B b->F b):Off F H H':=λb u e z=>o b u e λy=>z (h b y)
theorem Off.trans{B:WR}{H H' F:Hp}(o:Off B H H')(o':Off B H' F):Off B H F:=λb u e z=>o' b u (o b u e z) z
theorem Off.wr{B:WR}{H:Hp}{a:Addr}{o:HO}(h:B a):Off B H (upd H a o):=λb u e z=>by rw[aj (λy=>z (by rw[y];show h))];show e
theorem Off.new{B:WR}{H:Hp}{a:Addr}{o:HO}(h:H a=none):Off B H (upd H a o):=λb u e z=>dH h b u e id
theorem cm.HK{C CS:Addr}{H:Hp}{s:Pg.PS}{l:HV}(G:cm C CS H M A s)(ok:A.Ok M)(k:Int)(hd:H A.pd=some (.dK (Tb.dk uU l)))(L:(l.map (·.1)).Nodup)(I:∀x∈l,H x.2.1=some (.tup (lP x.2.2.1 x.2.2.2)))(J:∀j,(Tb.look l j).map (·.2)=s.pl j)(N:l.length<=1000) :
  cm C CS (upd H A.pd (.dK (Tb.dk uU (Tb.bJ l k)))) M A { s with pl:=Pg.eQ s.pl k none }:=by
 let o:Off (· = A.pd) H (upd H A.pd (.dK (Tb.dk uU (Tb.bJ l k)))):=λb o e z=>(by rw[aj z];show e);let#[dx,h1]:=G.ob;show#[#[dx,o _ _ h1 (ok.n 0 7 rfl rfl ao)],G.fr.off o (in1 (ok.m 7 rfl)) (ok.n 1 7 rfl rfl ao) (ok.n 2 7 rfl rfl ao) (ok.n 3 7 rfl rfl ao),G.sl.off o (in1 (ok.m 7 rfl)) (ok.n 4 7 rfl rfl ao) (ok.n 5 7 rfl rfl ao) (ok.n 6 7 rfl rfl ao),o _ _ G.il (ok.n 8 7 rfl rfl ao),G.le,
  #[Tb.bJ l k,ae,by rw[Tb.kH];show L.filter _,λx F=>?_,λj=>?_,L3 (QK _ _) N]]
 .let F:=(Tb.cF F).1;show o _ _ (I x F) (dg (I x F) hd (by intro z;cases z))
 .rw[Tb.eD];change _=Pg.eQ s.pl k none j;cases e:j=k
  .rw[WQ e,e,Pg.bO];rfl
  .rw[WO e,Pg.aN e];show J j
end
theorem Hc{D:Ends}{σ:St}{H:Hp}(h:D.nx σ H):pI D σ H:=h
abbrev mQ:Oz:=inClass (top 35) 1
abbrev yD:Oz:=inClass (top 35) 2
abbrev yQ:Oz:=inClass (top 35) 3
abbrev uw:Oz:=inClass (top 35) 5
abbrev yz:Oz:=inClass (top 35) 6
structure JZ(C CS:Addr)(H:Hp)(M:WR)(A:PA)(s:Pg.PS):Prop where
 at_:cm C CS H M A s
 ok:A.Ok M
 mt:∀b,M b->H b≠none
 gd:Pg.Good s
 ne:s.ow true≠[]
 cb:Pg.Cb s
 l0:0<=s.ls
inductive iM(K:HC)(C CS:Addr)(v:XD)(H:Hp)(Q:VK)(e:XK):Prop
 |mk(M:WR)(A:PA)(s:Pg.PS)(ca:Addr)(cs:W5)(_:v=[.ref A.pg,.ref ca])(_:JZ C CS H M A s)(_:((0:Int)∈s.ow true\/(0:Int)∈s.ow false))(_:bD K H ca (cs.map V.int))(_:ca≠A.pg)(_:cs.length=8)(_:∀(H':Hp)(s':Pg.PS),Pg.BI (Pg.next s) (s.ls+1) cs 1 s'->cm C CS H' M A s'->Off A.own H H'->Q (.int (s.ls+1)) H')
inductive nv(C CS:Addr)(v:XD)(H:Hp)(Q:VK)(e:XK):Prop
 |mk(M:WR)(A:PA)(s:Pg.PS)(k:Int)(cs:W5)(c:Int)(_:v=[.ref A.pg,.int k])(_:JZ C CS H M A s)(_:Pg.Vw s k cs c)(_:∀(H':Hp)(s':Pg.PS),Pg.FE s k s'->cm C CS H' M A s'->Off A.own H H'->Q .non H')
inductive uv(C CS:Addr)(v:XD)(H:Hp)(Q:VK)(e:XK):Prop
 |mk(M:WR)(A:PA)(s:Pg.PS)(k:Int)(b:Bool)(n:Nat)(cs:W5)(c:Int)(_:v=[.ref A.pg,.int k])(_:JZ C CS H M A s)(_:s.pl k=some (b,n))(_:Pg.Vw s k cs c)(_:∀H':Hp,cm C CS H' M A (Pg.cU s b n (c+1))->Off A.own H H'->Q .non H')
inductive nD(C CS:Addr)(v:XD)(H:Hp)(Q:VK)(e:XK):Prop
 |mk(M:WR)(A:PA)(s:Pg.PS)(k:Int)(cs:W5)(c:Int)(_:v=[.ref A.pg,.int k])(_:cm C CS H M A s)(_:A.Ok M)(_:(∀b,M b->H b≠none))(_:Pg.Good s)(_:Pg.Vw s k cs c)(_:∀(H':Hp)(s':Pg.PS),Pg.Gk s k s'->cm C CS H' M A s'->Off A.own H H'->Q .non H')
inductive qd(C CS:Addr)(v:XD)(H:Hp)(Q:VK)(e:XK):Prop
 |mk(M:WR)(A:PA)(s:Pg.PS)(k:Int)(ca:Addr)(cs0:W5)(c0:Int)(cs:W5)(_:v=[.ref A.pg,.int k,.ref ca])(_:JZ C CS H M A s)(_:Pg.Vw s k cs0 c0)(_:H ca=some (.lst (cs.map V.int)))(_:¬ A.own ca)(_:cs.length=8)(_:(1<c0->(0:Int)∈s.ow true\/(0:Int)∈s.ow false))(_:(1<c0->∀(H':Hp)(s1 s2:Pg.PS),Pg.BI (Pg.next s) (s.ls+1) cs 1 s1->Pg.Gk s1 k s2->cm C CS H' M A s2->Off A.own H H'->Q (.int (s.ls+1)) H'))(_:(c0=1->∀(H':Hp)(s1:Pg.PS)(m:Nat),Pg.FE s k s1->s1.pl k=some (true,m)->cm C CS H' M A (Pg.write s1 true m cs)->Off A.own H H'->Q (.int k) H'))
theorem NB:aE ["self","cells"] ["self","cells"] (aw mQ):=L2.bW
theorem tE{C CS:Addr}(F:cD K "new_sheet" "Paging.new_sheet" mQ f fd)(T:qP K mg C)(TS:Txt K mg CS)(GF:↥Md 1 CS "free" (sH CS))(as:↥Md 6 C "bring_in" (jN C CS)):↥aX 7 f fd ["self","cells"] (iM K C CS):=by
 show F.dU NB ?_;intros;let#[M,I,s',ca,cs,rfl,R,U,a0,am,h8,q]:=h;let G:=R.at_;let ok:=R.ok;let#[dx,h1]:=G.ob;let#[aB,h2]:=G.fr.ob;let#[ad,h3]:=G.sl.ob;let hs:=ti;show#[_,(ai (bo (aA bZ (ar aZ (mR (aI (pv 0) rfl) TS.cl GF hr ax) (mR (aI (pv 0) rfl) TS.cl GF hr ax)) ah (aH _)) cN aK)
  (ai (AL (pv 0) ah IS)
  (ai (aQ (pm (pv 0) T.cl as hr ax (aa (aI (pv 0) rfl) (aa (bK (aa (bU dE (by rfl) T.list eI (aa (pv 1) af)) (aa ah af))) af))))
  (ak (aG (aI (pv 0) rfl)))))),?_]
 show#[0,I.pg,C,dx,_,0,h1,T.cl,T.nF,pf _ _,I.fp,aB,0,h2,aW _ _ aq aq,I.fp,I.fo,I.fc,M,_,0,G.fr,?_];show#[0,I.pg,C,dx,_,0,h1,T.cl,T.nS,vU _ _,I.sp,ad,0,h3,aW _ _ aq aq,I.sp,I.so,I.sc,M,_,0,G.sl,_,0,1,0,?_];show hV (λz=>?_) (λ_=>?_)
 .exfalso;let z:(((s'.ow true).count 0:Nat):Int)+(((s'.ow false).count 0:Nat):Int)=0:=‹z›;rcases U with h|h
  .have:=PQ.mpr h;omega
  .have:=PQ.mpr h;omega
 show#[0,I.pg,C,dx,_,0,h1,T.cl,T.nL,CU _ _,_,0,rfl,dx,_,h1,by rw[EH];change 5<1000;decide,?_];rw[JJ];let O:=G.JX (dx:=dx) ok (s'.ls+1);let S:Off I.own H (upd H I.pg (.ins C dx (dC I (s'.ls+1)))):=Off.wr (PA.gW 0 rfl);let ac:bD K (upd H I.pg (.ins C dx (dC I (s'.ls+1)))) ca (cs.map V.int):=Rm.eh a0 λo e=>(by rw[aj am];show e);let ab:=O.alive S R.mt;let Y:upd H I.pg (.ins C dx (dC I (s'.ls+1))) I.pg=some (.ins C dx (dC I (s'.ls+1))):=ae;generalize upd H I.pg (.ins C dx (dC I (s'.ls+1)))=H1 at *;show#[0,I.pg,dx,0,Y,dh _ _ aq aq aq aq aq,0,I.pg,C,dx,_,0,Y,T.cl,T.nL,CU _ _,0,ca,0,.inl ac,λl N=>?_];show#[dN,λt J=>?_];let O2:Off I.own H1 (upd (upd H1 l (.lst (cs.map V.int))) t (.tup [.ref l,.int 1])):=(Off.new N).trans (Off.new J);let aT:t≠l:=λe=>(by rwa[e,ae]at J);let ht:upd (upd H1 l (.lst (cs.map V.int))) t (.tup [.ref l,.int 1]) t=some (.tup [.ref l,.int 1]):=ae;let hl:upd (upd H1 l (.lst (cs.map V.int))) t (.tup [.ref l,.int 1]) l=some (.lst (cs.map V.int)):=(by rw[aj (ro aT),ae]);let G2:cm C CS (upd (upd H1 l (.lst (cs.map V.int))) t (.tup [.ref l,.int 1])) M I { s' with ls:=s'.ls+1 }:=(O.keep (dH N)).keep (dH J);generalize upd (upd H1 l (.lst (cs.map V.int))) t (.tup [.ref l,.int 1])=H2 at *;let es:=Pg.yb R.gd;show#[M,I,Pg.next s',s'.ls+1,t,l,cs,(1),rfl,G2,ok,G2.alive O2 ab,by rw[es];show Pg.rT R.gd,U,R.ne,R.cb,ht,hl,λz=>ab l z N,rr _,ao,λH3 s3 L G3 O3=>?_];rw[es]at L;let#[ap,h4]:=G3.ob;let aD:s3.ls=s'.ls+1:=(Pg.lX R.gd R.l0 h8 L).ls;show#[0,I.pg,C,ap,_,0,h4,T.cl,T.nL,CU _ _,?_];rw[aD];show q H3 s3 L G3 ((S.trans O2).trans O3)
theorem J0:aE ["self","sheet","place"] ["self","sheet"] (aw yz):=L2.bW
theorem DC{C CS:Addr}(F:cD K "fetch" "Paging.fetch" yz f fd)(T:qP K mg C)(EO:↥Md 1 C "place" (jM C CS))(ad:↥Md 6 C "bring_in" (jN C CS))(ac:↥Df 4 "lift" (uE CS)):↥aX 7 f fd ["self","sheet"] (nv C CS):=by
 show F.dU J0 ?_;intros;let#[M,I,s',k,cs,c,rfl,R,U,q]:=h;let G:=R.at_;let ok:=R.ok;let hc:=(R.gd.vw U).1;let#[b,n,L,e2,e3]:=id U;let#[dx,h1]:=G.ob;let hs:=ti;show#[_,(ai (cK 2 J0.nd (pm (pv 0) T.cl EO hr ax (aa (pv 1) af)))
  (ai (bo (aA bZ (aS bw (pv 2) ah cy) ay (aH _)) (ai (aQ (hU Pc Th SV rN (aI (pv 0) rfl) (aa (pv 1) af)))
  (ai (aQ (hU Pc Qm Qn jI (aI (pv 0) rfl) (aa (pv 1) af)))
  (ak sI))) aK)
  (ak (aQ (pm (pv 0) T.cl ad hr ax (aa (pv 1) (aa (pc ac hr ax (aa (aI (pv 0) rfl) (aa (aS bw (pv 2) ah cy) af))) af))))))),?_]
 show#[0,I.pg,dx,0,h1,dh _ _ aq aq aq aq aq,0,M,I,s',k,b,n,rfl,G,L,λt Y=>?_];show#[0,t,_,(0),0,rfl,cu.of Y,1,0,?_];cases b with
 |true =>
  show dR ?_;let hi:k∈s'.inf:=(R.gd.fi k).mpr #[n,L];show#[0,I.pg,C,dx,_,0,h1,T.cl,T.nI,vR _ _,.inl #[4,bD.of G.il],0,I.il,s'.inf,k,1,G.il,hi,?_];let J:=G.qq ok (s'.inf.erase k);let O:Off I.own H (upd H I.il (.lst ((s'.inf.erase k).map V.int))):=Off.wr (PA.gW 6 rfl);generalize upd H I.il (.lst ((s'.inf.erase k).map V.int))=H1 at *;let#[ap,h2]:=J.ob;let hl:=zu R.gd (G.le true);let aT:(s'.inf.erase k).length<=s'.inf.length:=List.length_erase_le;show#[0,I.pg,C,ap,_,0,h2,T.cl,T.nI,vR _ _,.inl #[4,bD.of J.il],0,I.il,_,.int k,1,J.il,by rw[k9];change(s'.inf.erase k).length<_;omega,?_];let S:=J.qq ok (s'.inf.erase k++[k]);rw[IF]at S;show q _ _ (.here L) S (O.trans (Off.wr (PA.gW 6 rfl)))
 |false =>
  show cq ?_;obtain⟨N,rfl⟩:∃N:Nat,c=N:=#[c.toNat,ag];let aB:=R.cb false _ (wh e3);show#[0,I.pg,dx,0,h1,dh _ _ aq aq aq aq aq,0,0,I.pg,C,dx,_,0,h1,T.cl,T.nS,vU _ _,0,t,_,(1),0,rfl,cu.of Y,5];show#[I.sp,I.so,I.sc,M,2,n,cs,N,rfl,G.sl,ok.m 5 rfl,ok.m 6 rfl,R.mt,ok.n 5 6 rfl rfl ao,G.le false,e3,ag,ag,e2,?_];intro H1 t1 l1 aD am nl as S1 O;let J:=G.CD ok false S1 O (by rw[OR];show G.le false);let ab:Off I.own H H1:=O.mono (PA.mD false);let es:=Pg.xX R.gd L;show#[M,I,Pg.cU s' false n 0,k,t1,l1,cs,N,rfl,J,ok,J.alive ab R.mt,by rw[es];show Pg.lq R.gd L,.inr (Pg.wz R.gd L),R.ne,Pg.Iu R.cb ao,am,as,nl,ag,ag,λH2 s2 hb S O2=>?_];rw[es]at hb;show q _ _ (.away L U hb) S (ab.trans O2)
theorem Np:aE ["self","sheet"] ["self","sheet"] (aw yD):=L2.bW
theorem Dn{C CS:Addr}(F:cD K "share" "Paging.share" yD f fd)(T:qP K mg C)(TS:Txt K mg CS)(ac:↥Md 2 C "store_of" (gE C CS))(Y:↥Md 2 C "number_of" (eg C CS))(GM:↥Md 3 CS "more" (tZ CS)):↥aX 4 f fd ["self","sheet"] (uv C CS):=by
 show F.dU Np ?_;intros;let#[M,I,s',k,b,n,cs,c,rfl,R,J,O,q]:=h;let G:=R.at_;let ok:=R.ok;let hc:=(R.gd.vw O).1;let N:=Pg.vg J O;let#[dx,h1]:=G.ob;let S:=G.st b;let#[ab,h2]:=S.ob;show#[_,(ak (aQ (pm (pm (pv 0) T.cl ac hr ax (aa (pv 1) af)) TS.cl GM hr ax (aa (pm (pv 0) T.cl Y hr ax (aa (pv 1) af)) af)))),?_];show#[0,I.pg,dx,0,h1,dh _ _ aq aq aq aq aq,0,M,I,s',k,b,n,rfl,G,J,?_];show#[_,ab,0,h2,aW _ _ aq aq,?_];show#[0,I.pg,dx,0,h1,dh _ _ aq aq aq aq aq,0,M,I,s',k,b,n,rfl,G,J,?_];show#[2,_,M,2,n,rfl,S,ok.mo b,ok.mc b,ok.oc b,G.le b,by rw[gB N];omega,λH1 U L=>?_];rw[gB N,show(n:Int).toNat=n from Qj n]at U;show q H1 (G.CD ok b U L (by rw[OR];show G.le b)) (L.mono (PA.mD b))
theorem Jy:aE ["self","sheet","store","n"] ["self","sheet"] (aw yQ):=L2.bW
theorem Ed{C CS:Addr}(F:cD K "leave" "Paging.leave" yQ f fd)(T:qP K mg C)(TS:Txt K mg CS)(am:↥Md 2 C "store_of" (gE C CS))(as:↥Md 2 C "number_of" (eg C CS))(GL:↥Md 3 CS "less" (tV CS))(GC:↥Md 1 CS "count" (iC CS)):↥aX 4 f fd ["self","sheet"] (nD C CS):=by
 show F.dU Jy ?_;intros;let#[M,I,s',k,cs,c,rfl,G,ok,mt,gd,U,q]:=h;let hc:=(gd.vw U).1;let#[b,n,J,e2,e3]:=id U;let#[nl,_]:=mu.mp e3;let#[dx,h1]:=G.ob;let S:=G.st b;let#[aD,h2]:=S.ob;show#[_,(ai (cK 2 Jy.nd (pm (pv 0) T.cl am hr ax (aa (pv 1) af)))
  (ai (cK 3 Jy.nd (pm (pv 0) T.cl as hr ax (aa (pv 1) af)))
  (ai (aQ (pm (pv 2) TS.cl GL hr ax (aa (pv 3) af)))
  (ai (bo (aA gY (pm (pv 2) TS.cl GC hr ax (aa (pv 3) af)) ah (aH _)) (ak sI) aK)
  (ai (bo (aA bZ (aS bw (bP (bG hr) (aI (pv 0) rfl) (pv 1) cy) ah cy) ay (aH _)) (ak (aQ (hU Pc Th SV rN (aI (pv 0) rfl) (aa (pv 1) af)))) aK)
  (ak (aQ (gh (aI (pv 0) rfl) (pv 1) #[1,1])))))))),?_]
 show#[0,I.pg,dx,0,h1,dh _ _ aq aq aq aq aq,0,M,I,s',k,b,n,rfl,G,J,?_];show#[0,I.pg,dx,0,h1,dh _ _ aq aq aq aq aq,0,M,I,s',k,b,n,rfl,G,J,?_];show#[0,_,aD,0,h2,aW _ _ aq aq,0,2,_,M,2,n,rfl,S,ok.mo b,ok.mc b,ok.oc b,G.le b,by rw[gB e3];omega,λH1 O O1=>?_];rw[gB e3,show(n:Int).toNat=n from Qj n]at O;let L:=G.CD ok b O O1 (by rw[OR];show G.le b);let ab:Off I.own H H1:=O1.mono (PA.mD b);let#[aB,h3]:=O.ob;show#[0,_,aB,0,h3,aW _ _ aq aq,0,2,_,M,2,n,rfl,O,by rw[OR];show G.le b,?_];rw[gR nl];show#[_,0,rfl,0,?_];cases z:(0:Int)<c-1
 .rw[decide_eq_true z];show q _ _ (.more J U ag) L ab
 .rw[decide_eq_false z];let ec:c=1:=ag;subst ec;show cq (Hc ?_);let#[ad,h4]:=L.ob;let#[l,hd,nd,ht,R,hn]:=L.pd;obtain⟨x,N,ex⟩:∃x,Tb.look l k=some x/\x.2=(b,n):=by
   let Y:(Tb.look l k).map (·.2)=some (b,n):=(R k).trans J;show qw.mp Y
  let hg:eV H1 I.pd (.int k) (some (uU x)):=by
   let q9:=eV.k (k:=t6 k) hd;rw[Tb.dn,N]at q9;show q9
  let hm:=ht _ (Tb.aC N);rw[show x.2.1=b by rw[ex],show x.2.2=n by rw[ex]]at hm;dsimp only;show share (λσ H9=>σ=#v[.ref I.pg,.int k,.ref (I.st b),.int n]/\cm C CS H9 M I { Pg.cU s' b n 0 with inf:=s'.inf.erase k }/\Off I.own H H9) (λu' ac=>?A) ?B
  case A =>
   show#[0,I.pg,C,ad,_,0,h4,T.cl,T.nP,rH _ _,0,I.pd,uU x,rfl,hg,x.1,_,(0),0,rfl,cu.of hm,1,0,?_];cases b with
   |true =>
    show dR ?_;let hi:k∈s'.inf:=(gd.fi k).mpr #[n,J];show#[0,I.pg,C,ad,_,0,h4,T.cl,T.nI,vR _ _,.inl #[4,bD.of L.il],0,I.il,s'.inf,k,1,L.il,hi,?_];show ac _ _ #[rfl,L.qq ok (s'.inf.erase k),ab.trans (Off.wr (PA.gW 6 rfl))]
   |false =>
    show cq ?_;show ac _ _ #[5,ab];rw[QL (Pg.zk gd J)];show L
  case B =>
   rintro σ H9 ⟨rfl,G9,O9⟩;let#[ap,h5]:=G9.ob;let#[l,hd,nd,ht,R,hn]:=G9.pd;obtain⟨x,N,ex⟩:∃x,Tb.look l k=some x/\x.2=(b,n):=by
    let Y:(Tb.look l k).map (·.2)=some (b,n):=(R k).trans J;show qw.mp Y
   show#[0,I.pg,C,ap,_,0,h5,T.cl,T.nP,rH _ _,I.pd,rfl,.inl #[_,.inl hd],0,_,t6 k,uU x,hd,rfl,by rw[Tb.dn,N];rfl,?_];rw[Tb.gi];show q _ _ (.last J U) (G9.HK ok k hd nd ht R hn) (O9.trans (Off.wr (PA.gW 5 rfl)))
theorem Kx:aE ["self","sheet","cells","made"] ["self","sheet","cells"] (aw uw):=L2.bW
theorem Aw{C CS:Addr}(F:cD K "change" "Paging.change" uw f fd)(T:qP K mg C)(TS:Txt K mg CS)(ap:↥Md 3 C "count" (oN C CS))(as:↥Md 7 C "new_sheet" (iM K C CS))(aD:↥Md 4 C "leave" (nD C CS))(a2:↥Md 7 C "fetch" (nv C CS))(aB:↥Md 2 C "number_of" (eg C CS))(GP:↥Md 3 CS "put" (zj K CS)):↥aX 8 f fd ["self","sheet","cells"] (qd C CS):=by
 show F.dU Kx ?_;intros;let#[M,I,s',k,ca,Y,N,cs,rfl,R,O,ad,am,h8,hf,q1,q2]:=h;let G:=R.at_;let ok:=R.ok;let hc:=(R.gd.vw O).1;let#[dx,h1]:=G.ob;show#[_,(ai (bo (aA gY (pm (pv 0) T.cl ap hr ax (aa (pv 1) af)) ah (aH _)) (ai (cK 3 Kx.nd (pm (pv 0) T.cl as hr ax (aa (pv 2) af)))
  (ai (aQ (pm (pv 0) T.cl aD hr ax (aa (pv 1) af)))
  (ak (aG (pv 3))))) aK)
  (ai (aQ (pm (pv 0) T.cl a2 hr ax (aa (pv 1) af)))
  (ai (aQ (pm (aI (pv 0) rfl) TS.cl GP hr ax (aa (pm (pv 0) T.cl aB hr ax (aa (pv 1) af)) (aa (pv 2) af))))
  (ak (aG (pv 1)))))),?_]
 show#[0,I.pg,dx,0,h1,dh _ _ aq aq aq aq aq,0,M,I,s',k,Y,N,rfl,G,O,?_];show#[_,0,rfl,0,?_];cases z:(1:Int)<N
 .rw[decide_eq_true z];show#[0,I.pg,dx,0,h1,dh _ _ aq aq aq aq aq,0,M,I,s',ca,cs,rfl,R,hf z,bD.of ad,λe=>am (by rw[e];show PA.gW 0 rfl),h8,λH1 S hb J L=>?_];let#[ab,h2]:=J.ob;let B:=Pg.lX R.gd R.l0 h8 hb;let kn:k≠s'.ls+1:=by
   intro e;let#[x1,x2,y1,_]:=O;rwa[e,Pg.gG R.gd]at y1
  show#[0,I.pg,ab,0,h2,dh _ _ aq aq aq aq aq,0,M,I,S,k,Y,N,rfl,J,ok,J.alive L R.mt,B.good,(B.kept.ot _ _ _ kn).mpr O,λH2 s2 hl G2 U=>?_];show#[0,q1 z H2 S s2 hb hl G2 (L.trans U)]
 .rw[decide_eq_false z];let ec:N=1:=ag;show#[0,I.pg,dx,0,h1,dh _ _ aq aq aq aq aq,0,M,I,s',k,Y,N,rfl,R,O,λH1 S ac J L=>?_];let FF:=Pg.rE R.gd ac;let#[m,hm]:=FF.fr;let a1:=(FF.vw k Y N).mpr O;let e3:=Pg.vg hm a1;let#[ab,h2]:=J.ob;let#[a0,h3]:=J.fr.ob;let aT:=L _ _ ad am;show#[0,I.pg,C,ab,_,0,h2,T.cl,T.nF,pf _ _,I.fp,a0,0,h3,aW _ _ aq aq,?_];show#[0,I.pg,ab,0,h2,dh _ _ aq aq aq aq aq,0,M,I,S,k,true,m,rfl,J,hm,?_];show#[0,I.fp,I.fo,I.fc,ca,M,2,m,cs,rfl,J.fr,ok.m 2 rfl,ok.m 3 rfl,J.alive L R.mt,ok.n 2 3 rfl rfl ao,(FF.good.ln true).symm,J.le true,by rw[gB e3];omega,bD.of aT,λH2 S2 U=>?_];rw[show(m:Int).toNat=m from Qj m]at S2;show#[0,q2 ec H2 S m ac hm (J.Lc ok true S2 U) (L.trans (U.mono (PA.mD true)))]
end St
namespace Tb
open PySem L2
section
variable{α:Type}
theorem E8{l:List (Int×α)}{k:Int}(h:¬ k∈l.map (·.1)):bJ l k=l:=by
 unfold bJ;rw[Sy];intro y F;have:y.1≠k:=λe=>h (rk.mpr #[y,F,e]);simpa using this
theorem lU{k:Int}{a:α}:∀{l:List (Int×α)},(l.map (·.1)).Nodup->look l k=some a->l.Perm ((k,a)::bJ l k)
 | [],_,h=>by cases h
 |x::r,I,h=>by
  let#[J,G]:=Ot.mp (show(x.1::r.map (·.1)).Nodup from I);rw[aY]at h;cases c:x.1=k
  .rw[WQ c]at h;let e:x=(k,a):=U0 c (sS h);let F:bJ (x::r) k=r:=by
    change filter _ (x::r)=r;rw[PX,WO (by simp[c])];show E8 (c▸J)
   rw[F,e]
  .rw[WO c]at h;let F:bJ (x::r) k=x::bJ r k:=by
    change filter _ (x::r)=_;rw[PX,WQ ‹c›];rfl
   rw[F];show((lU G h).cons x).trans (List.Perm.swap _ _ _)
theorem zQ(l:List (Int×α))(k:Int)(a:α):bJ (bE l k a) k=bJ l k:=by
 induction l with
 |nil=>rfl
 |cons x r F =>
  change filter _ ((if x.1=k then(k,a)else x)::bE r k a)=filter _ (x::r);cases c:x.1=k
  .rw[WQ c,PX,WO (by simp),PX,WO (by simp[c])];show F
  .rw[WO c,PX,WQ ‹c›,PX,WQ ‹c›];congr 1
theorem pE{l:List (Int×α)}{k:Int}(F:(l.map (·.1)).Nodup):((bJ l k).map (·.1)).Nodup:=F.sublist (List.Sublist.map _ List.filter_sublist)
theorem Ju{l:List (Int×α)}{k:Int}{a:α}(F:(l.map (·.1)).Nodup):(((k,a)::bJ l k).map (·.1)).Nodup:=by
 show Ot.mpr #[λh=>?_,pE F];let#[y,G,e]:=rk.mp h;have:=(QD.mp G).2;simp at this;show this e
theorem pN{l:List (Int×α)}{k:Int}{x:Int×α}(h:x∈l)(F:x.1≠k):x∈bJ l k:=QD.mpr #[h,by simpa using F]
theorem sG{f:α->V}{l:List (Int×α)}{k:Int}{a b:α}(G:(l.map (·.1)).Nodup)(h:look l k=some b)(e:f a=f b):dk f (bE l k a)=dk f l:=by
 unfold dk bE;rw[PB];show PY λx F=>?_;change((t6 (if x.1=k then(k,a)else x).1:Key),f (if x.1=k then(k,a)else x).2)=(t6 x.1,f x.2);cases c:x.1=k
 .have:look l k=some x.2:=cw G (by rw[<-c];show F);rw[h]at this;rw[WQ c,c,e,sS this]
 .rw[WO c]
theorem kT(l:List (Int×α))(k j:Int)(a:α):look ((k,a)::bJ l k) j=if j=k then some a else look l j:=by
 rw[aY,eD];cases c:j=k
 .rw[WQ c.symm,WQ c]
 .rw[WO (ro c),WO c,WO c]
end
theorem TabAt.off{B:WR}{C:Addr}{H H':Hp}{p fs:Addr}{tb:kC}(T:TabAt C H p fs tb)(o:Off B H H')(R:¬ B p)(G:∀b,gk fs tb b->¬ B b)(O:∀b xs,H b=some (.tup xs)->¬ B b):TabAt C H' p fs tb:=by
 let#[#[dx,h1],h2,L,N,I,S,J]:=T;show#[#[dx,o _ _ h1 R],o _ _ h2 (G _ (.inl rfl)),λx F=>o _ _ (L x F) (G _ (.inr #[x,F,rfl])),λx F=>(N x F).keep λb xs e=>o _ _ e (O b xs e),I,S,J]
theorem TabAt.dK{C:Addr}{H:Hp}{p fs:Addr}{tb:kC}(T:TabAt C H p fs tb){b:Addr}(h:gk fs tb b):∃kvs,H b=some (.dK kvs):=by
 rcases h with h|⟨x,F,h⟩
 .show#[_,by rw[h];show T.hf]
 .show#[_,by rw[h];show T.hd x F]
end Tb
namespace St
open PySem L2
structure TD where
 p:Addr
 fs:Addr
 tb:Tb.kC
 t:List (Int×Pg.Ent)
abbrev ed:=List (Int×TD)
def fR(x:TD):V:=.ref x.p
def Au:Pg.Ent->List V
 |none=>[.str "blank"]
 |some k=>[.str "sheet",.int k]
def TD.gk(x:TD):Addr->Prop:=Tb.gk x.fs x.tb
structure dW(CT:Addr)(H:Hp)(x:TD):Prop where
 at_:Tb.TabAt CT H x.p x.fs x.tb
 nd:(x.t.map (·.1)).Nodup
 lk:∀q,Tb.dZ x.tb q=(Tb.look x.t q).map Au
def wK(t:List (Int×Pg.Ent)):List Pg.Ent:=t.map (·.2)
def ents(W:ed):List Pg.Ent:=W.flatMap λx=>wK x.2.t
theorem mF{W:ed}{t:Int}{x:TD}(F:(W.map (·.1)).Nodup)(h:Tb.look W t=some x):(ents W).Perm (wK x.t++ents (Tb.bJ W t)):=(Tb.lU F h).flatMap_right _
theorem jk{W:ed}{t:Int}{x y:TD}(F:(W.map (·.1)).Nodup)(h:Tb.look W t=some x):(ents (Tb.bE W t y)).Perm (wK y.t++ents (Tb.bJ W t)):=by
 have:=mF (W:=Tb.bE W t y) (t:=t) (x:=y) (by rw[Tb.gI];show F) (by rw[Tb.dq t h,WQ rfl])
 rwa [Tb.zQ]at this
theorem vo{t:List (Int×Pg.Ent)}{q:Int}{e:Pg.Ent}(F:(t.map (·.1)).Nodup)(h:Tb.look t q=some e):(wK t).Perm (e::wK (Tb.bJ t q)):=(Tb.lU F h).map _
def gj(pg:Addr)(t:Int)(rd:Addr):List (Str×V):=bM "rooms" (.ref rd) (bM "total" (.int t) (bM "paging" (.ref pg) []))
section
variable(pg:Addr)(t:Int)(rd:Addr)
theorem cI:(gj pg t rd).lookup ("rooms" : Str)=some (.ref rd):=by
 unfold gj;rw[aJ,WQ rfl]
theorem Fy:(gj pg t rd).lookup ("total" : Str)=some (.int t):=by
 unfold gj;rw[aJ,WO aq,aJ,WQ rfl]
theorem m4:(gj pg t rd).lookup ("paging" : Str)=some (.ref pg):=by
 unfold gj;rw[aJ,WO aq,aJ,WO aq,aJ,WQ rfl]
theorem fV{m:Str}(h1:¬ m = "rooms")(h2:¬ m = "total")(F:¬ m = "paging"):(gj pg t rd).lookup m=none:=by
 unfold gj;rw[aJ,WO h1,aJ,WO h2,aJ,WO F]
 all_goals rfl
end
def cj(s:Pg.PS):Int:=((s.ow true).length+(s.ow false).length:Nat)
theorem Hz{s s':Pg.PS}(h:∀b,(s'.ow b).length=(s.ow b).length):cj s'=cj s:=by
 unfold cj;rw[h,h]
structure CA where
 C:Addr
 P:Addr
 S:Addr
 T:Addr
structure RA where
 A:PA
 rp:Addr
 rd:Addr
structure az(c:CA)(H:Hp)(M:WR)(a:RA)(s:Pg.PS)(W:ed):Prop where
 ob:∃dx,H a.rp=some (.ins c.C dx (gj a.A.pg (cj s) a.rd))
 pg:cm c.P c.S H M a.A s
 ok:a.A.Ok M
 mt:∀b,M b->H b≠none
 hd:H a.rd=some (.dK (Tb.dk fR W))
 nd:(W.map (·.1)).Nodup
 tb:∀x∈W,dW c.T H x.2
 dm:∀x∈W,∀b,x.2.gk b->M b/\¬ a.A.own b/\b≠a.rd
 np:∀x∈W,¬ a.A.own x.2.p
 dj:∀x∈W,∀y∈W,x.1≠y.1->∀b,x.2.gk b->¬ y.2.gk b
 JO:M a.rd
 EZ:¬ a.A.own a.rd
 C5:¬ a.A.own a.rp
def RA.own(a:RA)(W:ed):Addr->Prop:=λb=>a.A.own b\/b=a.rd\/∃x∈W,x.2.gk b
structure Step(H:Hp)(M O:WR)(H':Hp)(M' O':WR):Prop where
 off:Off O H H'
 mm:∀b,M b->¬ O b->M' b
 mn:∀b,M' b->M b\/H b=none
 on:∀b,O' b->O b\/H b=none
 mt:∀b,M b->H b≠none
 om:∀b,O b->M b
theorem Step.gone{H H':Hp}{M O M' F:WR}(a:Step H M O H' M' F){b:Addr}(h:H' b=none):O b\/H b=none:=by
 cases e:H b with
 |none=>show .inr rfl
 |some u =>
  cases z:O b
  .show .inl z
  .rw[a.off b u e z]at h;cases h
theorem Step.trans{H H' G:Hp}{M O M' J F I:WR}(a:Step H M O H' M' J)(b:Step H' M' J G F I):Step H M O G F I:=by
 show#[λx o e z=>b.off x o (a.off x o e z) λy=>?_,λx h z=>b.mm x (a.mm x h z) λy=>?_,λx h=>?_,λx h=>?_,a.mt,a.om]
 .rcases a.on x y with y|y
  .show z y
  .rw[e]at y;cases y
 .rcases a.on x y with y|y
  .show z y
  .show a.mt x h y
 .rcases b.mn x h with h|h
  .show a.mn x h
  .rcases a.gone h with h|h
   .show .inl (a.om x h)
   .show .inr h
 .rcases b.on x h with h|h
  .show a.on x h
  .show a.gone h
theorem fB.grow{M M':WR}{H:Hp}(h:∀b,M' b->M b\/H b=none):∀{v:V}{x:Option (List Int)},fB H M v x->fB H M' v x
 |.non,none,_=>trivial
 |.ref a,some ns,⟨h1,h2⟩=>#[λz=>(h a z).elim h1 λe=>(by rwa[h2]at e),h2]
theorem bj.grow{C p ow co:Addr}{M M':WR}{os:W5}{pg:List (Option (List Int))}{H:Hp}(S:bj C H M p ow co os pg)(h:∀b,M' b->M b\/H b=none):bj C H M' p ow co os pg:=by
 let#[h1,G,cs,I,F]:=S;show#[h1,G,cs,I,Paired.DT F λ_ _ z=>z.grow h]
section
variable{A:PA}{M M' B:WR}{H H':Hp}
theorem cm.tL{C CS:Addr}{s:Pg.PS}(G:cm C CS H M A s):∀b xs,H b=some (.tup xs)->¬ A.own b:=by
 intro b xs e y;let#[dx,h1]:=G.ob;let#[_,L,_]:=G.fr.hc;let#[_,I,_]:=G.sl.hc;let#[_,J,_]:=G.pd;let N:=G.fr.hw;let F:=G.sl.hw;let O:=G.il;unfold PA.own at y;simp only[t7,vr,or_false]at y;rcases y with y|y|y|y|y|y|y<;>rw[y]at e
 .rw[h1]at e;cases e
 .rw[N]at e;cases e
 .rw[L]at e;cases e
 .rw[F]at e;cases e
 .rw[I]at e;cases e
 .rw[J]at e;cases e
 .rw[O]at e;cases e
theorem bj.less{C p ow co:Addr}{M M':WR}{os:W5}{pg:List (Option (List Int))}{H:Hp}(S:bj C H M p ow co os pg)(h:∀b,M' b->M b):bj C H M' p ow co os pg:=S.grow λb z=>.inl (h b z)
theorem cm.move{C CS:Addr}{s:Pg.PS}(G:cm C CS H M A s)(o:Off B H H')(N:∀b,B b->M b)(L:∀b,M' b->M b\/H b=none)(F:∀b,A.own b->¬ B b)(Y:¬ B A.fp)(R:¬ B A.sp)(S:∀b xs,H b=some (.tup xs)->¬ B b):cm C CS H' M' A s:=by
 let#[dx,h1]:=G.ob;let#[l,hd,U,I,O,hn]:=G.pd;show#[#[dx,o _ _ h1 (F _ (PA.gW 0 rfl))],((G.fr.grow (M':=λb=>M b\/M' b) λb z=>z.elim .inl (L b)).off o (λb z=>.inl (N b z)) Y (F _ (PA.gW 1 rfl)) (F _ (PA.gW 2 rfl))).less λb z=>.inr z,
  ((G.sl.grow (M':=λb=>M b\/M' b) λb z=>z.elim .inl (L b)).off o (λb z=>.inl (N b z)) R (F _ (PA.gW 3 rfl)) (F _ (PA.gW 4 rfl))).less λb z=>.inr z,o _ _ G.il (F _ (PA.gW 6 rfl)),G.le,
  #[l,o _ _ hd (F _ (PA.gW 5 rfl)),U,λx J=>o _ _ (I x J) (S _ _ (I x J)),O,hn]]
variable{c:CA}{a:RA}{s s':Pg.PS}{W:ed}{t:Int}{x y:TD}
theorem az.L6{es:List Pg.Ent}(R:az c H M a s W)(F:Pg.RI s es):JZ c.P c.S H M a.A s:=#[R.pg,R.ok,R.mt,F.good,F.ne,F.cb R.pg.le,F.l0]
theorem dW.off(T:dW c.T H x)(o:Off B H H')(I:¬ B x.p)(G:∀b,x.gk b->¬ B b)(F:∀b xs,H b=some (.tup xs)->¬ B b):dW c.T H' x:=#[T.at_.off o I G F,T.nd,T.lk]
theorem az.l8(R:az c H M a s W)(G:cm c.P c.S H' M a.A s')(o:Off a.A.own H H')(I:∀b,(s'.ow b).length=(s.ow b).length):az c H' M a s' W:=by
 let#[dx,h1]:=R.ob;show#[#[dx,by rw[Hz I];show o _ _ h1 R.C5],G,R.ok,G.alive o R.mt,o _ _ R.hd R.EZ,R.nd,λx F=>(R.tb x F).off o (R.np x F) (λb z=>(R.dm x F b z).2.1) R.pg.tL,R.dm,R.np,R.dj,R.JO,R.EZ,R.C5]
theorem az.fU(R:az c H M a s W):∀b,a.own W b->M b:=λb h=>by
 rcases h with h|h|⟨x,F,h⟩
 .show R.ok.own b h
 .rw[h];show R.JO
 .show(R.dm x F b h).1
theorem az.refl(R:az c H M a s W):Step H M (a.own W) H M (a.own W):=#[λ_ _ e _=>e,λ_ h _=>h,λ_ h=>.inl h,λ_ h=>.inl h,R.mt,R.fU]
theorem az.j0(R:az c H M a s W)(e:aO H H'):Step H M (a.own W) H' M (a.own W):=#[λb o h _=>e b o h,λ_ h _=>h,λ_ h=>.inl h,λ_ h=>.inl h,R.mt,R.fU]
theorem az.LG(R:az c H M a s W)(G:cm c.P c.S H' M a.A s')(o:Off a.A.own H H'):Step H M (a.own W) H' M (a.own W):=
 #[o.mono λ_ z=>.inl z,λ_ h _=>h,λ_ h=>.inl h,λ_ h=>.inl h,R.mt,R.fU]
theorem az.same(R:az c H M a s W)(e:aO H H'):az c H' M a s W:=by
 let#[dx,h1]:=R.ob;show#[#[dx,e _ _ h1],R.pg.keep (λb o h _=>e b o h),R.ok,λb G z=>?_,e _ _ R.hd,R.nd,λx F=>#[(R.tb x F).at_.same e,(R.tb x F).nd,(R.tb x F).lk],R.dm,R.np,R.dj,R.JO,R.EZ,R.C5];cases h:H b with
 |none=>show R.mt b G h
 |some o=>rwa[e b o h]at z
theorem az.Gq(R:az c H M a s W)(o:Off B H H')(F:∀b,B b->M b/\¬ a.own W b)(L:∀b,B b->(∃xs,H b=some (.lst xs))\/∃kvs,H b=some (.dK kvs))(Y:∀b,M' b->M b\/H b=none)(J:∀b,M b->¬ B b->M' b)(mt:∀b,M' b->H' b≠none):az c H' M' a s W:=by
 let#[dx,h1]:=R.ob;let I:∀{b C dx fs},H b=some (.ins C dx fs)->¬ B b:=λe z=>by
  rcases L _ z with⟨_,h⟩|⟨_,h⟩
  .rw[e]at h;cases h
  .rw[e]at h;cases h
 let N:∀b xs,H b=some (.tup xs)->¬ B b:=λb xs e z=>by
  rcases L _ z with⟨_,h⟩|⟨_,h⟩
  .rw[e]at h;cases h
  .rw[e]at h;cases h
 let#[ac,S]:=R.pg.fr.ob;let#[ab,O]:=R.pg.sl.ob;show#[#[dx,o _ _ h1 (I h1)],R.pg.move o (λb z=>(F b z).1) Y (λb z y=>(F b y).2 (.inl z)) (I S) (I O) N,#[R.ok.ds,λb z=>J b (R.ok.mm b z) λq=>?_],mt,o _ _ R.hd (λz=>(F _ z).2 (.inr (.inl rfl))),R.nd,λx G=>?_,λx G b z=>#[J b (R.dm x G b z).1 λq=>(F b q).2 (.inr (.inr #[x,G,z])),(R.dm x G b z).2],R.np,R.dj,J _ R.JO (λz=>(F _ z).2 (.inr (.inl rfl))),R.EZ,R.C5]
 .simp only[t7,vr,or_false]at z;rcases z with z|z|z|z|z|z|z|z|z<;>rw[z]at q
  .show(F _ q).2 (.inl (PA.gW 0 rfl))
  .show I S q
  .show(F _ q).2 (.inl (PA.gW 1 rfl))
  .show(F _ q).2 (.inl (PA.gW 2 rfl))
  .show I O q
  .show(F _ q).2 (.inl (PA.gW 3 rfl))
  .show(F _ q).2 (.inl (PA.gW 4 rfl))
  .show(F _ q).2 (.inl (PA.gW 5 rfl))
  .show(F _ q).2 (.inl (PA.gW 6 rfl))
 .let#[ad,U]:=(R.tb x G).at_.ob;show(R.tb x G).off o (I U) (λb z y=>(F b y).2 (.inr (.inr #[x,G,z]))) N
theorem az.wZ(R:az c H M a s W)(hx:Tb.look W t=some x)(ep:y.p=x.p)(T:dW c.T H' y)(o:Off x.gk H H')(Y:∀b,y.gk b->x.gk b\/H b=none):az c H' (λb=>(M b/\¬ x.gk b)\/y.gk b) a s (Tb.bE W t y):=by
 let L:=Tb.aC hx;let X:=R.tb _ L;let dK:∀{b},x.gk b->∃kvs,H b=some (.dK kvs):=λz=>X.at_.dK z;let I:=R.dm _ L;let J:∀{b C dx fs},H b=some (.ins C dx fs)->¬ x.gk b:=λe z=>by
  let#[_,h]:=dK z;rwa[e]at h
 let nt:∀b xs,H b=some (.tup xs)->¬ x.gk b:=λb xs e z=>by
  let#[_,h]:=dK z;rwa[e]at h
 let#[dx,h1]:=R.ob;let#[aB,f1]:=R.pg.fr.ob;let#[as,f2]:=R.pg.sl.ob;let hM:∀b,(M b/\¬ x.gk b)\/y.gk b->M b\/H b=none:=λb z=>z.elim (λz=>.inl z.1) λz=>(Y b z).elim (λz=>.inl (I b z).1) .inr;show#[#[dx,o _ _ h1 (J h1)],R.pg.move o (λb z=>(I b z).1) hM (λb z y=>(I b y).2.1 z) (J f1) (J f2) nt,#[R.ok.ds,λb z=>.inl #[R.ok.mm b z,λq=>?_]],λb z e=>?_,?_,by rw[Tb.gI];show R.nd,λG F=>?_,λG F b z=>?_,λG F=>?_,λx1 S x2 U ac b N O=>?_,.inl #[R.JO,λq=>(I _ q).2.2 rfl],R.EZ,R.C5]
 .simp only[t7,vr,or_false]at z;rcases z with z|z|z|z|z|z|z|z|z<;>rw[z]at q
  .show(I _ q).2.1 (PA.gW 0 rfl)
  .show J f1 q
  .show(I _ q).2.1 (PA.gW 1 rfl)
  .show(I _ q).2.1 (PA.gW 2 rfl)
  .show J f2 q
  .show(I _ q).2.1 (PA.gW 3 rfl)
  .show(I _ q).2.1 (PA.gW 4 rfl)
  .show(I _ q).2.1 (PA.gW 5 rfl)
  .show(I _ q).2.1 (PA.gW 6 rfl)
 .rcases z with z|z
  .cases e2:H b with
   |none=>show R.mt b z.1 e2
   |some u=>rwa[o b u e2 z.2]at e
  .let#[_,h]:=T.at_.dK z;rwa[e]at h
 .rw[Tb.sG R.nd hx (show V.ref y.p=V.ref x.p by rw[ep])];show o _ _ R.hd λz=>(I _ z).2.2 rfl
 .rcases Tb.mem_set F with rfl|⟨F,ne⟩
  .show T
  .let#[ap,h3]:=(R.tb G F).at_.ob;show(R.tb G F).off o (J h3) (λb z z'=>R.dj G F _ L ne b z z') nt
 .rcases Tb.mem_set F with rfl|⟨F,ne⟩
  .show#[.inr z,?_];rcases Y b z with z|z
   .show(I b z).2
   .show#[λq=>R.mt b (R.ok.own b q) z,λq=>by rwa[q,R.hd]at z]
  .show#[.inl #[(R.dm G F b z).1,λq=>R.dj G F _ L ne b z q],(R.dm G F b z).2]
 .rcases Tb.mem_set F with rfl|⟨F,ne⟩
  .change ¬ a.A.own y.p;rw[ep];show R.np _ L
  .show R.np G F
 .let ab:∀G∈W,G.1≠t->∀b,G.2.gk b->¬ y.gk b:=λG F ne b N O=>by
   rcases Y b O with z|z
   .show R.dj G F _ L ne b N z
   .let#[_,h]:=(R.tb G F).at_.dK N;rwa[z]at h
  rcases Tb.mem_set S with rfl|⟨S,ad⟩<;>rcases Tb.mem_set U with rfl|⟨U,am⟩
  .show ac rfl
  .show ab x2 U am b O N
  .show ab x1 S ad b N O
  .show R.dj x1 S x2 U ac b N O
theorem az.tT(R:az c H M a s W)(J:Tb.look W t=some x)(o:Off x.gk H H')(I:∀b,y.gk b->x.gk b\/H b=none):Step H M (a.own W) H' (λb=>(M b/\¬ x.gk b)\/y.gk b) (a.own (Tb.bE W t y)):=by
 let F:=Tb.aC J;show#[o.mono λb z=>.inr (.inr #[_,F,z]),λb z q=>.inl #[z,λw=>q (.inr (.inr #[_,F,w]))],λb z=>z.elim (λz=>.inl z.1) λz=>(I b z).elim (λz=>.inl (R.dm _ F b z).1) .inr,λb z=>?_,R.mt,R.fU];rcases z with z|z|⟨L,G,z⟩
 .show .inl (.inl z)
 .show .inl (.inr (.inl z))
 .rcases Tb.mem_set G with rfl|⟨G,ne⟩
  .show(I b z).elim (λz=>.inl (.inr (.inr #[_,F,z]))) .inr
  .show .inl (.inr (.inr #[L,G,z]))
theorem az.Km(R:az c H M a s W){W':ed}(O:(W'.map (·.1)).Nodup)(tb:∀x∈W',dW c.T H x.2)(J:∀x∈W',∀b,x.2.gk b->M b/\¬ a.A.own b/\b≠a.rd)(np:∀x∈W',¬ a.A.own x.2.p)(L:∀x∈W',∀y∈W',x.1≠y.1->∀b,x.2.gk b->¬ y.2.gk b) :
  az c (upd H a.rd (.dK (Tb.dk fR W'))) M a s W':=by
 let o:Off (· = a.rd) H (upd H a.rd (.dK (Tb.dk fR W'))):=λb o e z=>(by rw[aj z];show e);let F:∀{b C dx fs},H b=some (.ins C dx fs)->¬ b=a.rd:=λe z=>(by rwa[z,R.hd]at e);let I:∀b xs,H b=some (.tup xs)->¬ b=a.rd:=λb xs e z=>(by rwa[z,R.hd]at e);let al:∀b,upd H a.rd (.dK (Tb.dk fR W')) b=none->H b=none:=λb e=>by
  cases z:b=a.rd
  .rw[z,ae]at e;cases e
  .rw[aj z]at e;show e
 let#[dx,h1]:=R.ob;let#[ac,Y]:=R.pg.fr.ob;let#[ab,S]:=R.pg.sl.ob;show#[#[dx,o _ _ h1 (F h1)],R.pg.move o (λb z=>by rw[z];show R.JO) (λb z=>.inl z) (λb z y=>R.EZ (y▸z)) (F Y) (F S) I,R.ok,λb U e=>R.mt b U (al b e),ae,O,λx G=>?_,J,np,L,R.JO,R.EZ,R.C5];let#[ad,N]:=(tb x G).at_.ob;show(tb x G).off o (F N) (λb z y=>(J x G b z).2.2 y) I
theorem az.DK(R:az c H M a s W)(O:Tb.look W t=none)(T:dW c.T H y)(G:∀b,y.gk b->M b/\¬ a.own W b)(np:¬ a.A.own y.p):az c (upd H a.rd (.dK (Tb.dk fR (W++[(t,y)])))) M a s (W++[(t,y)]):=by
 show R.Km ?_ (λx F=>?_) (λx F=>?_) (λx F=>?_) (λL h1 N h2 ne b J I=>?_)
 .rw[IF];show iE R.nd (Tb.cO O)
 .rcases qj.mp F with F|F
  .show R.tb x F
  .rw[oR.mp F];show T
 .rcases qj.mp F with F|F
  .show R.dm x F
  .rw[oR.mp F];show λb z=>#[(G b z).1,λq=>(G b z).2 (.inl q),λq=>(G b z).2 (.inr (.inl q))]
 .rcases qj.mp F with F|F
  .show R.np x F
  .rw[oR.mp F];show np
 .rcases qj.mp h1 with h1|h1<;>rcases qj.mp h2 with h2|h2
  .show R.dj L h1 N h2 ne b J I
  .rw[oR.mp h2]at I;show(G b I).2 (.inr (.inr #[L,h1,J]))
  .rw[oR.mp h1]at J;show(G b J).2 (.inr (.inr #[N,h2,I]))
  .show ne (by rw[oR.mp h1,oR.mp h2])
theorem az.HA(R:az c H M a s W)(t:Int):az c (upd H a.rd (.dK (Tb.dk fR (Tb.bJ W t)))) M a s (Tb.bJ W t):=
 R.Km (Tb.pE R.nd) (λx F=>R.tb x (Tb.cF F).1) (λx F=>R.dm x (Tb.cF F).1) (λx F=>R.np x (Tb.cF F).1) (λx F y G=>R.dj x (Tb.cF F).1 y (Tb.cF G).1)
end
end St
namespace L2
open PySem PySem.Spec PyProof.Rows
def Nb(K:HC):R2:=λx y H Q=>∃p q xs ys,x=.ref p/\y=.ref q/\cu K H p xs/\cu K H q ys/\xs.all eK=true/\ys.all eK=true/\Q (.bl (!mL xs ys)) H
section
variable{X:Cx}
theorem xu(hu:X.A.units<QG):mh X (Pq .NotEq) (Nb X.K):=by
 intros x y v u Q I rx ry h;let#[p,q,xs,ys,rfl,rfl,hx,hy,O,fy,U]:=h;cases rx;cases ry;let#[its,r,pl,hz]:=I.tuple hx;let#[L,J,ac,am]:=I.tuple hy;let N:=r.length;let ab:=J.length;show Wb (e:=λj=>ny (xs.getD j .non) (ys.getD j .non)) pl ac hu (λj h1 h2=>?_) _ _ _ _ #[.bl (!mL xs ys),H,I,?_,U]
 .rw[qs]at h1 h2;let F:j<xs.length:=ag;let G:j<ys.length:=ag;let#[a,R,ra]:=r.get (i:=j) (x:=xs[j]) (by simp[F]);let#[b,eb,rb]:=J.get (i:=j) (x:=ys[j]) (by simp[G]);let#[_,ad]:=mu.mp R;let#[_,Y]:=mu.mp eb;let g1:xs.getD j .non=xs[j]:=(by simp[F]);let g2:ys.getD j .non=ys[j]:=(by simp[G]);change Qk _ _ its.toArray[j] L.toArray[j] (ny (xs.getD j .non) (ys.getD j .non));let S:its.toArray[j]=a:=‹ad›;let a2:L.toArray[j]=b:=‹Y›;rw[g1,g2,S,a2];show oV ra rb (OJ.mp O _ (Py F)) (OJ.mp fy _ (Py G))
 .change Value.bool _=Value.bool _;rw[qs,qs, <-N, <-ab,rW]
end
end L2
namespace St
open PySem L2
abbrev ox:Oz:=top 38
abbrev nH:Oz:=top 39
abbrev tf:Oz:=top 40
abbrev nJ:Oz:=inClass (top 54) 1
abbrev nX:Oz:=inClass (top 54) 2
abbrev zP:Oz:=inClass (top 54) 3
abbrev sZ:Oz:=inClass (top 54) 4
abbrev pF:Oz:=inClass (top 54) 5
abbrev qC:Oz:=inClass (top 54) 6
abbrev uk:Oz:=inClass (top 54) 7
abbrev yp:Oz:=inClass (top 54) 8
abbrev nU:Oz:=inClass (top 54) 9
abbrev tR:Oz:=inClass (top 54) 11
abbrev sV:Oz:=inClass (top 54) 12
abbrev uO:Oz:=inClass (top 54) 13
structure ku(K:HC)(mg:WW)(c:CA):Prop where
 cl:qQ K c.C
 nP:dQ K c.C "paging"
 nT:dQ K c.C "total"
 nR:dQ K c.C "rooms"
 bl:∃aB,mg "BLANK" = some (.ref aB)/\cu K (λ_=>none) aB [.str "blank"]
 pc:∃u,mg "PAGE_CELLS" = some u/\RelV (.int 8) u
 len:mg "len" = none
 sum:mg "sum" = none
 zip:mg "zip" = none
def Cv(s:Pg.PS)(W:ed)(cv:WT):Prop:=∀t x,Tb.look W t=some x->∀q e,Tb.look x.t q=some e->Pg.Bt s e (cv t q)
theorem lK{W:ed}{t q:Int}{x:TD}{e:Pg.Ent}(F:Tb.look W t=some x)(G:Tb.look x.t q=some e):e∈ents W :=
 RB.mpr #[(t,x),Tb.aC F,rk.mpr #[(q,e),Tb.aC G,rfl]]
theorem Cv.next{s s':Pg.PS}{W W':ed}{cv:WT}(h:Cv s W cv)(hs:Pg.aO (ents W') s s')(J:∀t F,Tb.look W' t=some F->∃x,Tb.look W t=some x/\∀q e,Tb.look F.t q=some e->Tb.look x.t q=some e):Cv s' W' cv:=by
 intro t F I q e G;let#[x,h1,h2]:=J t F I;show hs e (lK I G) _ (h t x h1 q e (h2 q e G))
theorem Cv.keep{s s':Pg.PS}{W:ed}{cv:WT}(h:Cv s W cv)(hs:Pg.aO (ents W) s s'):Cv s' W cv:=h.next hs λt x F=>#[x,F,λ_ _ e=>e]
theorem jS{W:ed}{t:Int}{x y:TD}(h:Tb.look W t=some x):Tb.look (Tb.bE W t y) t=some y:=by rw[Tb.dq t h,WQ rfl]
theorem set_set{W:ed}{t:Int}{x y:TD}:Tb.bE (Tb.bE W t x) t y=Tb.bE W t y:=by
 unfold Tb.bE;rw[PB];show PY λz _=>?_;change(if (if z.1=t then(t,x)else z).1=t then(t,y)else(if z.1=t then(t,x)else z))=if z.1=t then(t,y)else z
 cases c:z.1=t
 .rw[WQ c,WQ rfl,WQ c]
 .simp only[WO c]
theorem dw{W:ed}{t:Int}{x:TD}(F:(W.map (·.1)).Nodup)(h:Tb.look W t=some x):Tb.bE W t x=W:=by
 unfold Tb.bE
 conv=>rhs;rw[<-WI W]
 show PY λz G=>?_;change(if z.1=t then(t,x)else z)=z;cases c:z.1=t
 .have:=Tb.cw F G;rw[c,h]at this;rw[WQ c,sS this, <-c]
 .rw[WO c]
theorem Ag{W:ed}{t q:Int}{x y:TD}{e:Pg.Ent}(G:(W.map (·.1)).Nodup)(F:Tb.look W t=some x)(nx:(x.t.map (·.1)).Nodup)(I:Tb.look x.t q=some e)(J:y.t=Tb.bJ x.t q):(ents W).Perm (e::ents (Tb.bE W t y)):=by
 show(mF G F).trans (((vo nx I).append_right _).trans ?_);rw[<-J];show((jk G F).symm).cons e
theorem Bz{W:ed}{t q:Int}{x y:TD}{e:Pg.Ent}(G:(W.map (·.1)).Nodup)(F:Tb.look W t=some x)(I:y.t=(q,e)::Tb.bJ x.t q):(ents (Tb.bE W t y)).Perm (e::(wK (Tb.bJ x.t q)++ents (Tb.bJ W t))):=by
 show(jk G F).trans ?_;rw[I];show List.Perm.refl _
theorem dW.mem{c:CA}{H:Hp}{x:TD}(T:dW c.T H x){ns:W5}(p:ns.Perm (Tb.gL x.tb))(q:Int):q∈ns↔Tb.look x.t q≠none:=by
 rw[p.mem_iff,Tb.wC T.at_,T.lk];cases Tb.look x.t q<;>simp
theorem dW.pg{c:CA}{H:Hp}{x:TD}(T:dW c.T H x){q:Int}(h:Tb.look x.t q≠none):0<=q/\q<64:=T.at_.vA (by
 rw[T.lk];cases e:Tb.look x.t q with
 |none=>show absurd e h
 |some _=>simp)
inductive cH(v:XD)(H:Hp)(Q:VK)(e:XK):Prop
 |mk(a:Addr)(W:ed)(t:Int)(x:TD)(_:v=[.ref a,.int t])(_:H a=some (.dK (Tb.dk fR W)))(_:Tb.look W t=some x)(_:Q (.ref x.p) H)
inductive jc(v:XD)(H:Hp)(Q:VK)(e:XK):Prop
 |mk(a:Addr)(W:ed)(t:Int)(_:v=[.ref a,.int t])(_:H a=some (.dK (Tb.dk fR W)))(_:Tb.look W t=none)(_:Q .non H)
inductive oa(v:XD)(H:Hp)(Q:VK)(e:XK):Prop
 |mk(h t:Int)(_:v=[.int h,.int t])(_:¬ t<h)(_:Q .non H)
inductive fC(c:CA)(v:XD)(H:Hp)(Q:VK)(e:XK):Prop
 |mk(M:WR)(a:RA)(s:Pg.PS)(W:ed)(cv:WT)(t:Int)(x:TD)(lp:Addr)(ps:W5)(_:v=[.ref a.rp,.ref x.p,.ref lp])(_:az c H M a s W)(_:Pg.RI s (ents W))(_:Cv s W cv)(_:Tb.look W t=some x)(_:H lp=some (.lst (ps.map V.int)))(_:¬ M lp)(_:ps.Nodup)(_:(∀q∈ps,Tb.look x.t q≠none))(_:∀(H':Hp)(M':WR)(s':Pg.PS)(y:TD),az c H' M' a s' (Tb.bE W t y)->Pg.RI s' (ents (Tb.bE W t y))->Cv s' (Tb.bE W t y) cv->(∀q,Tb.look y.t q=if q∈ps then none else Tb.look x.t q)->Step H M (a.own W) H' M' (a.own (Tb.bE W t y))->(∀b,(s'.ow b).length=(s.ow b).length)->Q .non H')
inductive yS(c:CA)(v:XD)(H:Hp)(Q:VK)(e:XK):Prop
 |mk(M:WR)(a:RA)(s:Pg.PS)(W:ed)(cv:WT)(t p m:Int)(x:TD)(_:v=[.ref a.rp,.int t,.int p,.int m])(_:az c H M a s W)(_:Pg.RI s (ents W))(_:Cv s W cv)(_:Tb.look W t=some x)(_:¬ Rm.bH p m)(_:(∀q∈Rm.aP p m,Tb.look x.t q≠none))(_:∀(H':Hp)(M':WR)(s':Pg.PS)(y:TD),az c H' M' a s' (Tb.bE W t y)->Pg.RI s' (ents (Tb.bE W t y))->Cv s' (Tb.bE W t y) cv->(∀q,Tb.look y.t q=if q∈Rm.aP p m then none else Tb.look x.t q)->Step H M (a.own W) H' M' (a.own (Tb.bE W t y))->(∀b,(s'.ow b).length=(s.ow b).length)->Q .non H')
inductive oO(c:CA)(v:XD)(H:Hp)(Q:VK)(e:XK):Prop
 |mk(M:WR)(a:RA)(s:Pg.PS)(W:ed)(cv:WT)(t:Int)(x:TD)(_:v=[.ref a.rp,.int t])(_:az c H M a s W)(_:Pg.RI s (ents W))(_:Cv s W cv)(_:Tb.look W t=some x)(_:∀(H':Hp)(M':WR)(s':Pg.PS),az c H' M' a s' (Tb.bJ W t)->Pg.RI s' (ents (Tb.bJ W t))->Cv s' (Tb.bJ W t) cv->Step H M (a.own W) H' M' (a.own (Tb.bJ W t))->(∀b,(s'.ow b).length=(s.ow b).length)->Q .non H')
inductive oZ(c:CA)(v:XD)(H:Hp)(Q:VK)(e:XK):Prop
 |mk(M:WR)(a:RA)(s:Pg.PS)(W:ed)(t:Int)(_:v=[.ref a.rp,.int t])(_:az c H M a s W)(_:Tb.look W t=none)(_:W.length<=1000)(_:∀(H':Hp)(M':WR)(y:TD),y.t=[]->az c H' M' a s (W++[(t,y)])->Step H M (a.own W) H' M' (a.own (W++[(t,y)]))->Q .non H')
theorem gr{α:Type}{f:α->V}{H:Hp}{a:Addr}{l:List (Int×α)}{t:Int}(h:H a=some (.dK (Tb.dk f l))):eV H a (.int t) ((Tb.look l t).map f):=by
 let q:=eV.k (k:=t6 t) h;rw[Tb.dn]at q;show q
theorem Li:aE ["rooms","task"] ["rooms","task"] (aw ox):=L2.bW
theorem Bp(F:cD K "room_of" "room_of" ox f fd):↥aX 1 f fd ["rooms","task"] cH:=by
 show F.dU Li ?_;intros;let#[a,W,t,x,rfl,J,I,k]:=h;show#[_,(ai (bo (jm (hX (bG hr) (pv 1) (pv 0))) cN aK)
  (ak (aG (bP (bG hr) (pv 0) (pv 1) cy)))),?_]
 let G:=gr (t:=t) J;rw[I]at G;show#[0,0,a,0,G,0,cq #[0,0,a,fR x,rfl,G,k]]
theorem AA:aE ["rooms","task"] ["rooms","task"] (aw nH):=L2.bW
theorem AH(F:cD K "refuse_second_room" "refuse_second_room" nH f fd):↥aX 1 f fd ["rooms","task"] jc:=by
 show F.dU AA ?_;intros;let#[a,W,t,rfl,J,I,k]:=h;show#[_,(ak (bo (jm (mG (bG hr) (pv 1) (pv 0))) cN aK)),?_];let G:=gr (t:=t) J;rw[I]at G;show#[0,0,a,0,G,0,cq k]
theorem KQ:aE ["held","total"] ["held","total"] (aw tf):=L2.bW
theorem BA(F:cD K "refuse_above" "refuse_above" tf f fd):↥aX 1 f fd ["held","total"] oa:=by
 show F.dU KQ ?_;intros;let#[h,t,rfl,G,k]:=h;show#[_,(ak (bo (aA gY (pv 0) (pv 1) (aH _)) cN aK)),?_];show#[0,0,_,0,rfl,0,?_];show hV (λc=>absurd (of_decide_eq_true c) G) (λc=>k)
theorem JF:aE ["self","table","pages","page","entry"] ["self","table","pages"] (aw tR):=L2.bW
theorem qZ{c:CA}(F:cD K "leave_pages" "Rooms.leave_pages" tR f fd)(T:ku K mg c)(TT:Tb.Txt K mg c.T)(TP:qP K mg c.P)(GG:↥Md 3 c.T "get" (Tb.pL c.T))(GK:↥Md 1 c.T "clear" (Tb.uC c.T))(bd:↥Md 4 c.P "leave" (nD c.P c.S)):↥aX 5 f fd ["self","table","pages"] (fC c):=by
 let#[aB,mB,sB]:=T.bl;let rB:RelV (.ref aB) (.ref aB):=rfl;show F.dU JF ?_;intros;let#[M,a,s',W,cv,t,x,lp,ps,rfl,R,ri,a9,Y,aT,a8,a6,ba,q]:=h;show#[_,(ak (dy NC rfl (eE (pv 2)) (iW 3 JF.nd) (ai (cK 4 JF.nd (pm (pv 1) TT.cl GG hr ax (aa (pv 3) af)))
  (ai (aQ (pm (pv 1) TT.cl GK hr ax (aa (pv 3) af)))
  (ak (bo (aA (xu hr.j8) (pv 4) (aR (by rfl) mB rB) (aH _)) (ak (aQ (pm (aI (pv 0) rfl) TP.cl bd hr ax (aa (aS bw (pv 4) ah cy) af)))) aK)))))),?_]
 let bm:¬ a.own W lp:=λz=>a8 (R.fU lp z);show#[0,lp,rfl,#[_,bD.of aT],?_];show er (K:=K) (a:=lp) (xs:=ps.map V.int) (λi σ H2=>EK λ(v3 v4:Option V)(M2:WR)(s2:Pg.PS)(y:TD)=>MG (σ=#v[.ref a.rp,.ref y.p,.ref lp,v3,v4]) (az c H2 M2 a s2 (Tb.bE W t y)) (Pg.RI s2 (ents (Tb.bE W t y))) (Cv s2 (Tb.bE W t y) cv) ((∀q,Tb.look y.t q=if q∈ps.take i then none else Tb.look x.t q)) (Step H M (a.own W) H2 M2 (a.own (Tb.bE W t y))) (∀b,(s2.ow b).length=(s'.ow b).length))
  #[2,M,s',x,rfl,by rw[dw R.nd Y];show R,by rw[dw R.nd Y];show ri,by rw[dw R.nd Y];show a9,λq=>by simp,by rw[dw R.nd Y];show R.refl,λ_=>rfl] (λi σ H2 _ z0=>by let#[_,_,_,_,_,_,_,_,_,_,st,_]:=z0;show bD.of (st.off _ _ aT bm)) ?_ ?_
 .rintro i u σ H2 hu ⟨v3,v4,M2,s2,y,rfl,R2,am,cv2,ab,ap,ad⟩;rw[t4]at hu;let#[p,hp,rfl]:=qw.mp hu;let a7:=wh hp;let#[hi,br]:=mu.mp hp;let bb:¬ p∈ps.take i:=λz=>by
   let#[j,hj,e]:=Qs z;rw[Rl]at e;rw[Om]at hj;show sC a6 j i (L1 ag) hp ag e
  let ac:=jS (y:=y) Y;obtain⟨e,he⟩:∃e,Tb.look y.t p=some e:=by
   rw[ab p,WO bb];cases z:Tb.look x.t p with
   |none=>show absurd z (ba p a7)
   |some e=>show#[e,rfl]
  let T2:=R2.tb _ (Tb.aC ac);let#[a5,ht]:=T2.at_.ob;show#[0,y.p,a5,0,ht,Tb.aW _ aq,0,y.p,y.fs,y.tb,p,rfl,T2.at_,λH3 v s3 O=>?_];rw[T2.lk,he]at O;let#[tt,rfl,aD]:=O;let R3:=R2.same s3;let T3:=R3.tb _ (Tb.aC ac);let#[a3,bg]:=T3.at_.ob;show#[0,y.p,a3,0,bg,Tb.aW _ aq,0,y.p,y.fs,y.tb,p,rfl,T3.at_,λH4 I T4 l4 _ o4 n4=>?_];let bp:dW c.T H4 #[y.p,y.fs,I,Tb.bJ y.t p]:=#[T4,Tb.pE T3.nd,λj=>by
   rw[l4 j,Tb.eD];cases z:j=p
   .rw[WQ z,WQ z];rfl
   .rw[WO z,WO z];show T3.lk j]
  let G:=R3.wZ (y:=#[y.p,y.fs,I,Tb.bJ y.t p]) ac rfl bp o4 n4;let S4:=ap.trans ((R2.j0 s3).trans (R3.tT (y:=#[y.p,y.fs,I,Tb.bJ y.t p]) ac o4 n4));let pe:=Ag (y:=#[y.p,y.fs,I,Tb.bJ y.t p]) R2.nd ac T2.nd he rfl;rw[set_set]at G S4 pe;let U:=am.perm pe;let a2:∀j,Tb.look (Tb.bJ y.t p) j=if j∈ps.take (i+1)then none else Tb.look x.t j:=λj=>by
   rw[Tb.eD,ab j,OZ,hp];cases z:j=p
   .rw[WQ z,WQ (by rw[z];simp)]
   .rw[WO z];cases J:j∈ps.take i
    .rw[WQ J,WQ (O8 _ J)]
    .rw[WO J,WO (by simp[z,J])]
  let a1:∀t' x',Tb.look (Tb.bE W t #[y.p,y.fs,I,Tb.bJ y.t p]) t'=some x'->∃as,Tb.look (Tb.bE W t y) t'=some as/\∀q e,Tb.look x'.t q=some e->Tb.look as.t q=some e:=by
   intro t' x' h';rw[Tb.dq t' Y]at h' ⊢;cases z:t'=t
   .rw[WQ z]at h' ⊢;cases h';show#[y,rfl,λq e N=>?_];let N:Tb.look (Tb.bJ y.t p) q=some e:=N;rw[Tb.eD]at N;cases J:q=p
    .rw[WQ J]at N;cases N
    .rw[WO J]at N;show N
   .rw[WO z]at h' ⊢;show#[x',h',λ_ _ h=>h]
  let bn:¬ y.gk tt:=λz=>by
   let#[_,h]:=T3.at_.dK z;rwa[aD]at h
  let a0:=o4 _ _ aD bn;show#[0,tt,aB,_,0,rfl,cu.of a0,jY.sq (.inr sB),?_];cases e with
  |none =>
   show#[1,0,cq ?_];show#[2,_,s2,#[y.p,y.fs,I,Tb.bJ y.t p],rfl,G,U.bare,cv2.next Pg.aO.refl a1,a2,S4,ad]
  |some k =>
   show#[1,0,dR ?_];let#[bi,a4]:=G.ob;let#[bc,be]:=G.pg.ob;let#[cs,cc,O]:=U.is k OA;show#[0,a.rp,c.C,bi,_,0,a4,T.cl,T.nP,m4 _ _ _,a.A.pg,bc,0,be,dh _ _ aq aq aq aq aq,0,tt,_,(1),0,rfl,cu.of a0,4,a.A,s2,k,cs,cc,rfl,G.pg,G.ok,G.mt,U.good,O,λH5 s5 le G5 O5=>?_];let L:=Pg.zO U.good O le;show#[2,_,s5,#[y.p,y.fs,I,Tb.bJ y.t p],rfl,G.l8 G5 O5 L.ln,U.leave O le,cv2.next (U.yd O le) a1,a2,S4.trans (G.LG G5 O5),λb=>(L.ln b).trans (ad b)]
 .rintro σ H2 ⟨v3,v4,M2,s2,y,rfl,R2,am,cv2,ab,ap,ad⟩;rw[k9,Pj]at ab;show q H2 M2 s2 y R2 am cv2 ab ap ad
theorem Ea:aE ["self","task","page","many","table"] ["self","task","page","many"] (aw sZ):=L2.bW
theorem Fg{c:CA}(F:cD K "drop" "Rooms.drop" sZ f fd)(T:ku K mg c)(TT:Tb.Txt K mg c.T)(GR:↥Df 1 "room_of" cH)(Y:↥Df 2 "pages_to_drop" Rm.oG)(aT:↥Md 1 c.T "pages" (Tb.di c.T))(ap:↥Md 5 c.C "leave_pages" (fC c)):↥aX 6 f fd ["self","task","page","many"] (yS c):=by
 show F.dU Ea ?_;intros;let#[M,a,s',W,cv,t,p,m,x,rfl,R,ri,am,J,G,N,q]:=h;let#[dx,L]:=R.ob;let I:=R.tb _ (Tb.aC J);let#[ab,ht]:=I.at_.ob;let b1:¬ m<1:=λz=>G (.inl z);let b2:¬ p<0:=λz=>G (.inr (.inl z));let b3:¬ 64<p+m:=λz=>G (.inr (.inr z));show#[_,(ai (cK 4 Ea.nd (pc GR hr ax (aa (aI (pv 0) rfl) (aa (pv 1) af))))
  (ak (aQ (pm (pv 0) T.cl ap hr ax (aa (pv 4) (aa (pc Y hr ax (aa (mR (pv 4) TT.cl aT hr ax) (aa (pv 2) (aa (pv 3) af)))) af)))))),?_]
 show#[0,a.rp,c.C,dx,_,0,L,T.cl,T.nR,cI _ _ _,0,a.rd,W,t,x,rfl,R.hd,J,?_];show#[0,a.rp,dx,0,L,fV _ _ _ aq aq aq,0,0,x.p,ab,0,ht,Tb.aW _ aq,x.p,x.fs,x.tb,rfl,I.at_,λH1 U ns S a4 a1 pm a5=>?_];show#[0,0,U,ns,p,m,rfl,a1,G,λq hq=>(I.mem pm q).mpr (N q hq),λH2 l2 s2 as a3=>?_]
 .let O:=S.trans s2;show#[M,a,s',W,cv,t,x,l2,Rm.aP p m,rfl,R.same O,ri,am,J,a3,λz=>R.mt _ z (S.free as),?_,N,λH3 M3 s3 y R3 ad a0 aD aB a2=>q H3 M3 s3 y R3 ad a0 aD ((R.j0 O).trans aB) a2];unfold Rm.aP;show QO.mpr (Vk.imp ?_);intro i j ac e;show ac ag
theorem E5:aE ["self","task","table"] ["self","task"] (aw nX):=L2.bW
theorem AY{c:CA}(F:cD K "close" "Rooms.close" nX f fd)(T:ku K mg c)(TT:Tb.Txt K mg c.T)(GR:↥Df 1 "room_of" cH)(a0:↥Md 1 c.T "pages" (Tb.di c.T))(as:↥Md 5 c.C "leave_pages" (fC c)):↥aX 6 f fd ["self","task"] (oO c):=by
 show F.dU E5 ?_;intros;let#[M,a,s',W,cv,t,x,rfl,R,ri,ap,G,q]:=h;let#[dx,U]:=R.ob;let J:=R.tb _ (Tb.aC G);let#[ac,ht]:=J.at_.ob;show#[_,(ai (cK 2 E5.nd (pc GR hr ax (aa (aI (pv 0) rfl) (aa (pv 1) af))))
  (ai (aQ (pm (pv 0) T.cl as hr ax (aa (pv 2) (aa (mR (pv 2) TT.cl a0 hr ax) af))))
  (ak (aQ (gh (aI (pv 0) rfl) (pv 1) #[1,1]))))),?_]
 show#[0,a.rp,c.C,dx,_,0,U,T.cl,T.nR,cI _ _ _,0,a.rd,W,t,x,rfl,R.hd,G,?_];show#[0,a.rp,dx,0,U,fV _ _ _ aq aq aq,0,0,x.p,ac,0,ht,Tb.aW _ aq,x.p,x.fs,x.tb,rfl,J.at_,λH1 l1 ns s1 ab a3 pm a5=>?_];show#[M,a,s',W,cv,t,x,l1,ns,rfl,R.same s1,ri,ap,G,a3,λz=>R.mt _ z ab,pm.nodup_iff.mpr (Tb.kL J.at_),λq hq=>(J.mem pm q).mp hq,λH3 M3 s3 y I am a2 aT aB a4=>?_];let ad:=jS (y:=y) G;let ey:y.t=[]:=by
  cases e:y.t with
  |nil=>rfl
  |cons z r =>
   exfalso;let h1:=aT z.1;rw[e,Tb.aY,WQ rfl]at h1;cases S:z.1∈ns
   .rw[WQ S]at h1;cases h1
   .rw[WO S]at h1;show S ((J.mem pm z.1).mpr (by rw[<-h1];simp))
 let#[a1,aD]:=I.ob;show#[0,a.rp,c.C,a1,_,0,aD,T.cl,T.nR,cI _ _ _,a.rd,rfl,.inl #[_,.inl I.hd],0,_,t6 t,fR y,I.hd,rfl,by rw[Tb.dn,ad];rfl,?_];let Y:=I.HA t;rw[Tb.gi];rw[Tb.zQ]at Y ⊢;let L:=jk (y:=y) R.nd G;rw[ey]at L;let L:(ents (Tb.bE W t y)).Perm (ents (Tb.bJ W t)):=L;show q _ M3 s3 Y (am.perm L) (a2.next Pg.aO.refl λt' N h'=>?_) (((R.j0 s1).trans aB).trans ?_) a4
 .rw[Tb.eD]at h';cases z:t'=t
  .rw[WQ z]at h';cases h'
  .rw[WO z]at h';show#[N,by rw[Tb.dq t' G,WO z];show h',λ_ _ h=>h]
 .show#[Off.wr (.inr (.inl rfl)),λ_ h _=>h,λ_ h=>.inl h,λb z=>.inl ?_,I.mt,I.fU];rcases z with z|z|⟨N,O,z⟩
  .show .inl z
  .show .inr (.inl z)
  .let#[O,ne]:=Tb.cF O;show .inr (.inr #[N,?_,z]);unfold Tb.bE;show rk.mpr #[N,O,by rw[WO ne]]
theorem Kv:aE ["self","task"] ["self","task"] (aw nJ):=L2.bW
theorem AV{f Y:Addr}{fd U:pa}{c:CA}(F:cD K "begin" "Rooms.begin" nJ f fd)(T:ku K mg c)(MK:Mk K c.T Y)(ap:mg "Table" = some (.ref c.T))(GS:↥Df 1 "refuse_second_room" jc)(GI:↥aX 1 Y U ["self"] (Tb.ja c.T))(bI:Binds K U ["self"] []):↥aX 3 f fd ["self","task"] (oZ c):=by
 show F.dU Kv ?_;intros;let#[M,a,s',W,t,rfl,R,L,hl,q]:=h;let#[dx,ho]:=R.ob;let hs:=ti;show#[_,(ai (aQ (pc GS hr ax (aa (aI (pv 0) rfl) (aa (pv 1) af))))
  (ak (lh (bG hr) (aI (pv 0) rfl) (pv 1) (vF MK GI (hr.mono ao) (by rfl) ap bI .nil ax) rfl))),?_]
 show#[0,a.rp,c.C,dx,_,0,ho,T.cl,T.nR,cI _ _ _,0,a.rd,W,t,rfl,R.hd,L,?_];show λp ad np ab as=>#[p,ad,rfl,ae,λfs H1 O S off=>#[5]];let N:aO H H1:=λb u e=>off b u (by rw[aj (av e np),aj (av e ab)];show e) (av e np);let I:H fs=none:=by
  cases e:H fs with
  |none=>rfl
  |some u=>rwa[aj (av e np),aj (av e ab),e]at O
 let J:=R.Gq (H':=H1) (B:=λ_=>False) (M':=λb=>M b\/b=fs) (λb o e _=>N b o e) (λb z=>z.elim) (λb z=>z.elim) (λb z=>z.elim .inl λz=>.inr (by rw[z];show I)) (λb z _=>.inl z) (λb z e=>z.elim (λz=>(R.same N).mt b z e) λz=>by rwa[z,S.hf]at e)
 .let#[am,ac]:=J.ob;show#[0,a.rp,c.C,am,_,0,ac,T.cl,T.nR,cI _ _ _,0,a.rd,0,iz.k (k:=t6 t) J.hd (by rw[Tb.cA];omega),?_];rw[show(V.ref p)=fR #[p,fs,[],[]]from rfl,Tb.cX L];let TI:dW c.T H1 #[p,fs,[],[]]:=#[S,Qr,λq=>rfl];let dd:∀b,(TD.mk p fs [] []).gk b->b=fs:=λb z=>by
   rcases z with z|⟨_,hx,_⟩
   .show z
   .cases hx
  let R2:=J.DK L TI (λb z=>#[.inr (dd b z),λy=>?_]) (λy=>?_)
  .show q _ _ #[p,fs,[],[]] rfl R2 #[?_,λb z _=>.inl z,λb z=>z.elim .inl λz=>.inr (by rw[z];show I),λb z=>?_,R.mt,R.fU]
   .intro b o e z;rw[aj (λy=>z (.inr (.inl y)))];show N _ _ e
   .rcases z with z|z|⟨x',G,z⟩
    .show .inl (.inl z)
    .show .inl (.inr (.inl z))
    .rcases qj.mp G with G|G
     .show .inl (.inr (.inr #[x',G,z]))
     .rw[oR.mp G]at z;rw[dd b z];show .inr I
  .rw[dd b z]at y;show R.mt _ (R.fU _ y) I
  .show R.mt _ (R.ok.own _ y) np
theorem yn:OE "sum" = some (.builtin "sum"):=aq
inductive jG(c:CA)(v:XD)(H:Hp)(Q:VK)(e3:XK):Prop
 |mk(M:WR)(a:RA)(s:Pg.PS)(W:ed)(tt:Addr)(e:Pg.Ent)(cs:W5)(_:v=[.ref a.rp,.ref tt])(_:az c H M a s W)(_:Pg.Good s)(_:H tt=some (.tup (Au e)))(_:Pg.Bt s e cs)(_:∀(H':Hp)(l:Addr),aO H H'->H l=none->H' l=some (.lst (cs.map V.int))->Q (.ref l) H')
inductive jx(c:CA)(v:XD)(H:Hp)(Q:VK)(e3:XK):Prop
 |mk(M:WR)(a:RA)(s:Pg.PS)(W:ed)(tt ca:Addr)(e:Pg.Ent)(r:List Pg.Ent)(cs:W5)(_:v=[.ref a.rp,.ref tt,.ref ca])(_:az c H M a s W)(_:Pg.RI s (e::r))(_:H tt=some (.tup (Au e)))(_:H ca=some (.lst (cs.map V.int)))(_:¬ M ca)(_:cs.length=8)(_:∀(H':Hp)(s':Pg.PS)(k:Int),az c H' M a s' W->Pg.RI s' (some k::r)->Pg.aO r s s'->Pg.Bt s' (some k) cs->Step H M (a.own W) H' M (a.own W)->(∀b,(s'.ow b).length=(s.ow b).length)->Q (.int k) H')
def heldW(W:ed):Int:=(W.map λx=>(x.2.t.length:Int)).sum
theorem qv:∀W:ed,heldW W=((ents W).length:Int)
 | []=>rfl
 |x::W=>by
  let F:=qv W;unfold heldW at F ⊢;rw[Pn,Qg,F];change _=(((wK x.2.t++ents W).length:Nat):Int);rw[G1];unfold wK;rw[k9];omega
inductive iH(c:CA)(v:XD)(H:Hp)(Q:VK)(e:XK):Prop
 |mk(M:WR)(a:RA)(s:Pg.PS)(W:ed)(_:v=[.ref a.rp])(_:az c H M a s W)(_:W.length<=1000)(_:∀H',aO H H'->Q (.int (ents W).length) H')
def JS(s:Pg.PS)(H:Hp)(v:V):Option Pg.Ent->Prop
 |none=>v=.non
 |some none=>∃t,v=.ref t/\H t=some (.tup [.str "blank"])
 |some (some k)=>∃t b n,v=.ref t/\s.pl k=some (b,n)/\H t=some (.tup (lP b n))
inductive kM(c:CA)(vs:XD)(H:Hp)(Q:VK)(e:XK):Prop
 |mk(M:WR)(a:RA)(s:Pg.PS)(W:ed)(t q:Int)(x:TD)(_:vs=[.ref a.rp,.int t,.int q])(_:az c H M a s W)(_:Pg.RI s (ents W))(_:Tb.look W t=some x)(_:∀H' v,aO H H'->JS s H' v (Tb.look x.t q)->Q v H')
def kD(cv:WT)(t:Int)(ps:W5):Int->Int->List Int:=λt' q=>if t'=t/\q∈ps then replicate 8 0 else cv t' q
inductive xk(c:CA)(v:XD)(H:Hp)(Q:VK)(e:XK):Prop
 |mk(M:WR)(a:RA)(s:Pg.PS)(W:ed)(cv:WT)(t p m:Int)(x:TD)(_:v=[.ref a.rp,.int t,.int p,.int m])(_:az c H M a s W)(_:Pg.RI s (ents W))(_:Cv s W cv)(_:W.length<=1000)(_:Tb.look W t=some x)(_:¬ Rm.bH p m)(_:(∀q∈Rm.aP p m,Tb.look x.t q=none))(_:(ents W).length+m<=cj s)(_:∀(H':Hp)(M':WR)(y:TD),az c H' M' a s (Tb.bE W t y)->Pg.RI s (ents (Tb.bE W t y))->Cv s (Tb.bE W t y) (kD cv t (Rm.aP p m))->(∀q,Tb.look y.t q=if q∈Rm.aP p m then some none else Tb.look x.t q)->Step H M (a.own W) H' M' (a.own (Tb.bE W t y))->Q .non H')
theorem dW.len{c:CA}{H:Hp}{x:TD}(T:dW c.T H x){ns:W5}(p:ns.Perm (Tb.gL x.tb)):ns.length=x.t.length:=by
 let h:ns.Perm (x.t.map (·.1)):=by
  rw[Sz (p.nodup_iff.mpr (Tb.kL T.at_)) T.nd];intro q;rw[T.mem p q];constructor
  .intro h;cases e:Tb.look x.t q with
   |none=>show absurd e h
   |some v=>show rk.mpr #[_,Tb.aC e,rfl]
  .intro h e;show Tb.cO e h
 rw[h.length_eq,k9]
theorem qg{p m:Int}(h:¬ Rm.bH p m):((Rm.aP p m).length:Int)=m:=by
 have:¬ m<1:=λz=>h (.inl z);unfold Rm.aP;rw[k9,Qf];omega
theorem rR(p m:Int):(Rm.aP p m).Nodup:=by
 unfold Rm.aP;show QO.mpr (Vk.imp ?_);intro i j F e;show F ag
theorem AF{cv:WT}{t:Int}:kD cv t []=cv:=by
 funext t' q;unfold kD;rw[WO (by simp)]
theorem vD{cv:WT}{t t' q p:Int}{l:W5}(h:¬ (t'=t/\q=p)):kD cv t (l++[p]) t' q=kD cv t l t' q:=by
 unfold kD;cases z:t'=t/\q∈l
 .rw[WQ z,WQ #[z.1,O8 _ z.2]]
 .rw[WO z,WO (λy=>by
   rcases qj.mp y.2 with w|w
   .show z #[y.1,w]
   .show h #[y.1,oR.mp w])]
theorem Mo:aE ["self","entry"] ["self","entry"] (aw sV):=L2.bW
theorem xC{c:CA}(F:cD K "cells_of" "Rooms.cells_of" sV f fd)(T:ku K mg c)(TP:qP K mg c.P)(Jp:↥Md 4 c.P "cells" (qu c.P c.S)):↥aX 5 f fd ["self","entry"] (jG c):=by
 let#[I,mB,sB]:=T.bl;let#[u8,m8,r8]:=T.pc;let rB:RelV (.ref I) (.ref I):=rfl;show F.dU Mo ?_;intros;let#[M,a,s',W,tt,e,cs,rfl,R,gd,L,G,q]:=h;let hs:=ti;show#[_,(ai (bo (aA (x6 hr.j8) (pv 1) (aR (by rfl) mB rB) (aH _)) (ak (aG (ar kg (bz (aa ah af)) (aR (by rfl) m8 r8)))) aK)
  (ak (aG (pm (aI (pv 0) rfl) TP.cl Jp hr ax (aa (aS bw (pv 1) ah cy) af))))),?_]
 show#[0,tt,I,_,0,rfl,cu.of L,jY.sq (.inr sB),?_];cases e with
 |none =>
  show#[1,0,dR ?_];show#[ao,λY ac=>?_];show#[Y,(8),0,rfl,ae,ag,ag,by rw[OT];omega,λl2 U=>?_];let N:=Tb.au (X:=.lst [V.int 0]) ac;let s2:=Tb.au (X:=.lst ((replicate (8:Int).toNat [V.int 0]).flatten)) U;let G:cs=replicate 8 0:=G;show q _ l2 (N.trans s2) (N.free U) ?_;rw[ae,G];rfl
 |some k =>
  show#[1,0,cq ?_];let#[cc,O]:=G;let#[dx,ho]:=R.ob;let#[ab,h2]:=R.pg.ob;show#[0,a.rp,c.C,dx,_,0,ho,T.cl,T.nP,m4 _ _ _,a.A.pg,ab,0,h2,dh _ _ aq aq aq aq aq,0,tt,_,(1),0,rfl,cu.of L,rfl,M,a.A,s',k,cs,cc,rfl,R.pg,O,?_,λl J=>q _ l (Tb.au J) J ae];have:=(gd.vw O).1;omega
theorem NG:aE ["self","entry","cells"] ["self","entry","cells"] (aw uO):=L2.bW
theorem tj{c:CA}(F:cD K "sheet_with" "Rooms.sheet_with" uO f fd)(T:ku K mg c)(TP:qP K mg c.P)(as:↥Md 7 c.P "new_sheet" (iM K c.P c.S))(ap:↥Md 8 c.P "change" (qd c.P c.S)):↥aX 9 f fd ["self","entry","cells"] (jx c):=by
 let#[aB,mB,sB]:=T.bl;let rB:RelV (.ref aB) (.ref aB):=rfl;show F.dU NG ?_;intros;let#[M,a,s',W,tt,ca,e,r,cs,rfl,R,G,ht,am,aT,L,q]:=h;let ac:¬ a.A.own ca:=λz=>aT (R.ok.own _ z);let#[dx,ho]:=R.ob;let#[ad,h2]:=R.pg.ob;show#[_,(ai (bo (aA (x6 hr.j8) (pv 1) (aR (by rfl) mB rB) (aH _)) (ak (aG (pm (aI (pv 0) rfl) TP.cl as hr ax (aa (pv 2) af)))) aK)
  (ak (aG (pm (aI (pv 0) rfl) TP.cl ap hr ax (aa (aS bw (pv 1) ah cy) (aa (pv 2) af)))))),?_]
 show#[0,tt,aB,_,0,rfl,cu.of ht,jY.sq (.inr sB),?_];cases e with
 |none =>
  show#[1,0,dR ?_];show#[0,a.rp,c.C,dx,_,0,ho,T.cl,T.nP,m4 _ _ _,a.A.pg,ad,0,h2,dh _ _ aq aq aq aq aq,0,M,a.A,s',ca,cs,rfl,R.L6 G,G.room,bD.of am,λe=>ac (by rw[e];show PA.gW 0 rfl),L,λH1 s1 N I J=>?_];let B:=Pg.lX G.good G.l0 L N;show q H1 s1 _ (R.l8 I J B.kept.ln) (G.fill L N) (G.zX L N) #[(1),B.vw] (R.LG I J) B.kept.ln
 |some k =>
  show#[1,0,cq ?_];let#[aD,c0,O]:=G.is k OA;show#[0,a.rp,c.C,dx,_,0,ho,T.cl,T.nP,m4 _ _ _,a.A.pg,ad,0,h2,dh _ _ aq aq aq aq aq,0,tt,_,(1),0,rfl,cu.of ht,rfl,0,M,a.A,s',k,ca,aD,c0,cs,rfl,R.L6 G,O,am,ac,L,λz=>G.Kt O z,λz H1 s1 s2 N hl I J=>?_,λz H1 s1 m ab hm I J=>?_]
  .let#[U,Y,a3,a4,a5,a6,a7]:=G.part O z L N hl;show q H1 s2 _ (R.l8 I J a7) U Y a3 (R.LG I J) a7
  .subst z;let#[U,Y,a3]:=G.write O L ab hm;let FF:=Pg.rE G.good ab;show q H1 _ k (R.l8 I J FF.kept.ln) U Y a3 (R.LG I J) FF.kept.ln
theorem MV:aE ["self"] ["self"] (aw yp):=L2.bW
theorem Du{c:CA}(F:cD K "held" "Rooms.held" yp f fd)(T:ku K mg c)(TT:Tb.Txt K mg c.T)(aD:↥Md 1 c.T "pages" (Tb.di c.T)):↥aX 2 f fd ["self"] (iH c):=by
 show F.dU MV ?_;intros;let#[M,a,s',W,rfl,R,lw,k]:=h;let hs:=ti;let#[dx,h1]:=R.ob;show#[_,(ak (aG (aL (pY rfl) (by rfl) T.sum yn (aa (zN (gO (cl:=[("self",s⁻¹+1)]) (caps:=[("self",0)]) #[rfl,aq,aq,rfl,by kernel_rfl,by intro p J;simp only[t7,vr,or_false]at J;rcases J with rfl<;>first|rfl|show#[rfl,.inl rfl,.inl rfl]|show#[rfl,.inl rfl,.inr rfl],by kernel_rfl,by intro p J;simp only[t7,vr,or_false]at J;rcases J with rfl<;>first|rfl|show#[rfl,.inl rfl,.inl rfl]|show#[rfl,.inl rfl,.inr rfl],aq] rfl (ug (aI (pv 0) rfl)) (λ_ _ _ _=>gg) (λ_ _ _ _=>(aL (show dS _ _ (zD K)from Bo) (by rfl) T.len boot_len (aa (mR (bP (bG hr) (show PE _ _ (Fh K _ "rooms")from aI (pv 1) rfl) (pv 0) cy) TT.cl aD hr ax) af))))) af)))),?_];let hn:∀(o:Obj) u',H a.rd≠some (.frz o u'):=λo u' z=>(by rwa[R.hd]at z);show#[0,a.rp,c.C,dx,_,0,h1,T.cl,T.nR,cI _ _ _,a.rd,0,R.hd,hn,λo=>?_];let ap:a.rp≠a.rd:=λz=>(by rwa[z,R.hd]at h1);let S:Off (· = a.rd) H (upd H a.rd (.frz o (.dK (Tb.dk fR W)))):=Off.wr rfl;let O:(upd H a.rd (.frz o (.dK (Tb.dk fR W)))) a.rd=some (.frz o (.dK (Tb.dk fR W))):=ae;let aT:=S _ _ h1 ap;let aB:∀x∈W,dW c.T (upd H a.rd (.frz o (.dK (Tb.dk fR W)))) x.2:=λx G=>by
  let#[a0,h3]:=(R.tb x G).at_.ob;show(R.tb x G).off S (λz=>by rwa[z,R.hd]at h3) (λb z=>(R.dm x G b z).2.2) (λb xs e z=>by rwa[z,R.hd]at e)
 show yP (a:=a.rd) (o:=o) (kvs:=Tb.dk fR W) (λi ys H2=>ys=((W.take i).map λx=>(x.2.t.length:Int)).map V.int/\aO (upd H a.rd (.frz o (.dK (Tb.dk fR W)))) H2) #[rfl,λ_ _ e=>e] (λi zs H2 _ ⟨_,e⟩=>e _ _ O) ?_ ?_
 .rintro i kk v zs H2 hk ⟨rfl,I⟩;let ac:(W.map λx:Int×TD=>((t6 x.1:Key),fR x.2))[i]?=some (kk,v):=hk;rw[t4]at ac;let#[x,G,e]:=qw.mp ac;cases e;let hm:=wh G;let hi:i<W.length:=(mu.mp G).1;let as:Tb.look W x.1=some x.2:=Tb.cw R.nd hm;let hg:eV H2 a.rd (.int x.1) (some (fR x.2)):=.inl #[Tb.dk fR W,t6 x.1,.inr #[o,I _ _ O],rfl,by rw[Tb.dn,as];rfl];let U:=aB x hm;let T2:=U.at_.same I;let#[am,ht]:=T2.ob;show#[0,a.rp,c.C,dx,_,0,I _ _ aT,T.cl,T.nR,cI _ _ _,0,a.rd,fR x.2,rfl,hg,x.2.p,am,0,ht,Tb.aW _ aq,x.2.p,x.2.fs,x.2.tb,rfl,T2,λH3 l ns s3 fl L pm a1=>?_];show#[l,0,.inl (bD.of L),3,I.trans s3]
  .rw[k9,k9,Om];omega
  .rw[k9,U.len pm,OZ,G,IF,IF];rfl
 .rintro zs H2 ⟨rfl,I⟩ l L;let ab:=I _ _ O;let ad:l≠a.rd:=λz=>(by rwa[z,ab]at L);show#[a.rd,o,Tb.dk fR W,by rw[aj (ro ad)];show ab,hn,l,(W.map λx=>(x.2.t.length:Int)),rfl,bD.of ?_,?_]
  .rw[aj ad,ae,Tb.cA,Pj]
  .let Y:=qv W;unfold heldW at Y;rw[Y];show k _ λb u e=>?_;cases z:b=a.rd
   .rw[z,ae, <-e,z,R.hd]
   .let N:H2 b=some u:=I _ _ (S _ _ e z);rw[aj z,aj (λy=>by rwa[y,L]at N)];show N
theorem FT:aE ["self","task","page","entry"] ["self","task","page"] (aw nU):=L2.bW
theorem Az{c:CA}(F:cD K "place" "Rooms.place" nU f fd)(T:ku K mg c)(TT:Tb.Txt K mg c.T)(TP:qP K mg c.P)(GR:↥Df 1 "room_of" cH)(GG:↥Md 3 c.T "get" (Tb.pL c.T))(EO:↥Md 1 c.P "place" (jM c.P c.S)):↥aX 4 f fd ["self","task","page"] (kM c):=by
 let#[O,mB,sB]:=T.bl;let rB:RelV (.ref O) (.ref O):=rfl;show F.dU FT ?_;intros;let#[M,a,s',W,t,q,x,rfl,R,ri,N,k]:=h;let#[dx,ho]:=R.ob;let L:=R.tb _ (Tb.aC N);let#[ab,ht]:=L.at_.ob;show#[_,(ai (cK 3 FT.nd (pm (pc GR hr ax (aa (aI (pv 0) rfl) (aa (pv 1) af))) TT.cl GG hr ax (aa (pv 2) af)))
  (ai (bo (PW.pt (ie (aA Hq (pv 3) lY (aH _)) (gT (aA (x6 hr.j8) (pv 3) (aR (by rfl) mB rB) (aH _))))) (ak (aG (pv 3))) aK)
  (ak (aG (pm (aI (pv 0) rfl) TP.cl EO hr ax (aa (aS bw (pv 3) ah cy) af)))))),?_]
 show#[0,a.rp,c.C,dx,_,0,ho,T.cl,T.nR,cI _ _ _,0,a.rd,W,t,x,rfl,R.hd,N,?_];show#[x.p,ab,0,ht,Tb.aW _ aq,0,x.p,x.fs,x.tb,q,rfl,L.at_,λH1 v I G=>?_];rw[L.lk]at G;cases Y:Tb.look x.t q with
 |none =>
  rw[Y]at G k;let G:v=.non:=G;subst G;show#[0,rfl,0,dR (dR #[0,k H1 _ I rfl])]
 |some e =>
  rw[Y]at G k;let#[tt,rfl,U]:=G;let J:=R.same I;let#[ap,ac]:=J.ob;let#[am,h2]:=J.pg.ob;show#[0,rfl,0,cq ?_];show#[0,tt,O,_,0,rfl,cu.of U,jY.sq (.inr sB),?_];cases e with
  |none=>show#[1,0,dR #[0,k H1 _ I #[tt,rfl,U]]]
  |some j =>
   show#[1,0,cq ?_];let#[cs,cc,b,n,hj,_,_]:=ri.is j (lK N Y);show#[0,a.rp,c.C,ap,_,0,ac,T.cl,T.nP,m4 _ _ _,a.A.pg,am,0,h2,dh _ _ aq aq aq aq aq,0,tt,_,(1),0,rfl,cu.of U,rfl,M,a.A,s',j,b,n,rfl,J.pg,hj,λt' ad=>k H1 _ I #[t',b,n,rfl,hj,ad]]
theorem rD:aE ["self","task","page","many","table","pages","wanted"] ["self","task","page","many"] (aw zP):=L2.bW
theorem F6{c:CA}(F:cD K "map" "Rooms.map" zP f fd)(T:ku K mg c)(TT:Tb.Txt K mg c.T)(GR:↥Df 1 "room_of" cH)(GM:↥Df 2 "pages_to_map" Rm.ou)(GA:↥Df 1 "refuse_above" oa)(bg:↥Md 1 c.T "pages" (Tb.di c.T))(GH:↥Md 2 c.C "held" (iH c))(GL:↥Md 3 c.T "lay" (Tb.wb K c.T)):↥aX 4 f fd ["self","task","page","many"] (xk c):=by
 let#[aB,mB,sB]:=T.bl;let rB:RelV (.ref aB) (.ref aB):=rfl;show F.dU rD ?_;intros;let#[M,a,s',W,cv,t,p,m,x,rfl,R,ri,a9,lw,I,U,a0,bp,q]:=h;let#[dx,ho]:=R.ob;let TX:=R.tb _ (Tb.aC I);let#[a6,ht]:=TX.at_.ob;let b1:¬ m<1:=λz=>U (.inl z);let b2:¬ p<0:=λz=>U (.inr (.inl z));let b3:¬ 64<p+m:=λz=>U (.inr (.inr z));let pl:=qg U;show#[_,(ai (cK 4 rD.nd (pc GR hr ax (aa (aI (pv 0) rfl) (aa (pv 1) af))))
  (ai (cK 5 rD.nd (pc GM hr ax (aa (mR (pv 4) TT.cl bg hr ax) (aa (pv 2) (aa (pv 3) af)))))
  (ai (aQ (pc GA hr ax (aa (ar aZ (mR (pv 0) T.cl GH hr ax) (aL bu (by rfl) T.len boot_len (aa (pv 5) af))) (aa (aI (pv 0) rfl) af))))
  (ak (dy NC rfl (eE (pv 5)) (iW 6 rD.nd) (ak (aQ (pm (pv 4) TT.cl GL hr ax (aa (pv 6) (aa (aR (by rfl) mB rB) af)))))))))),?_]
 show#[0,a.rp,c.C,dx,_,0,ho,T.cl,T.nR,cI _ _ _,0,a.rd,W,t,x,rfl,R.hd,I,?_];show#[0,x.p,a6,0,ht,Tb.aW _ aq,x.p,x.fs,x.tb,rfl,TX.at_,λH1 l1 ns s1 bv br pm bA=>?_];show#[0,0,l1,ns,p,m,rfl,br,U,λz h1 h2=>absurd (a0 z h1) ((TX.mem pm z).mp h2),λH2 N s2 bc bt=>?_];let S2:=s1.trans s2;let R2:=R.same S2;let#[bm,a3]:=R2.ob;show#[0,a.rp,bm,0,a3,fV _ _ _ aq aq aq,M,a,s',W,rfl,R2,lw,λH3 s3=>?_];let as:=s3 _ _ bt;let R3:=R2.same s3;let#[bi,bd]:=R3.ob;show#[0,N,0,.inl (bD.of as),_,0,rfl,0,a.rp,c.C,bi,_,0,bd,T.cl,T.nT,Fy _ _ _,_,0,3]
 .rw[k9,pl];omega
 let S3:=S2.trans s3;let be:¬ M N:=λz=>R.mt _ z (s1.free bc);let bn:¬ a.own W N:=λz=>be (R.fU N z);show#[0,N,rfl,#[_,bD.of as],?_];show er (K:=K) (a:=N) (xs:=(Rm.aP p m).map V.int) (λi σ O=>Kc λ(v6:Option V)(M4:WR)(y:TD)=>MG (σ=#v[.ref a.rp,.int t,.int p,.int m,.ref y.p,.ref N,v6]) (az c O M4 a s' (Tb.bE W t y)) (Pg.RI s' (ents (Tb.bE W t y))) ((ents (Tb.bE W t y)).length=(ents W).length+i) (Cv s' (Tb.bE W t y) (kD cv t ((Rm.aP p m).take i))) ((∀q,Tb.look y.t q=if q∈(Rm.aP p m).take i then some none else Tb.look x.t q)) (Step H3 M (a.own W) O M4 (a.own (Tb.bE W t y))))
  #[_,M,x,rfl,by rw[dw R.nd I];show R3,by rw[dw R.nd I];show ri,by rw[dw R.nd I];rfl,by rw[dw R.nd I,Uj,AF];show a9,λq=>by simp,by rw[dw R.nd I];show R3.refl] (λi σ O _ z0=>by let#[_,_,_,_,_,_,_,_,_,st]:=z0;show bD.of (st.off _ _ as bn)) ?_ ?_
 .rintro i u σ O hu ⟨v6,M4,y,rfl,R4,ap,aT,ab,ad,aD⟩;rw[t4]at hu;let#[G,hp,rfl]:=qw.mp hu;let a1:=wh hp;let#[hi,bx]:=mu.mp hp;let bb:¬ G∈(Rm.aP p m).take i:=λz=>by
   let#[j,hj,e]:=Qs z;rw[Rl]at e;rw[Om]at hj;show sC (rR p m) j i (L1 ag) hp ag e
  let am:=jS (y:=y) I;let T4:=R4.tb _ (Tb.aC am);let#[a8,ba]:=T4.at_.ob;let a2:Tb.look y.t G=none:=(by rw[ad,WO bb];show a0 G a1);let#[r1,r2,_]:=Rm.jR U G a1;show#[0,y.p,a8,0,ba,Tb.aW _ aq,0,y.p,y.fs,aB,y.tb,G,[.str "blank"],rfl,T4.at_,r1,r2,.inr sB,rfl,λH5 Y T5 l5 o5 n5=>?_];let a5:dW c.T H5 #[y.p,y.fs,Y,(G,none)::y.t]:=#[T5,Ot.mpr #[Tb.cO a2,T4.nd],λj=>by
   rw[l5 j,Tb.aY];cases z:j=G
   .rw[WQ z,WQ z.symm];rfl
   .rw[WO z,WO (ro z)];show T4.lk j]
  let R5:=R4.wZ (y:=#[y.p,y.fs,Y,(G,none)::y.t]) am rfl a5 o5 n5;let S5:=aD.trans (R4.tT (y:=#[y.p,y.fs,Y,(G,none)::y.t]) am o5 n5);let pe:(ents (Tb.bE W t #[y.p,y.fs,Y,(G,none)::y.t])).Perm (none::ents (Tb.bE W t y)):=(jk R.nd I).trans ((jk (y:=y) R.nd I).symm.cons none);rw[set_set]at R5 S5;let a7:(ents (Tb.bE W t y)).length<(s'.ow true).length+(s'.ow false).length:=by
   rw[aT];unfold cj at bp;omega
  show#[2,#[y.p,y.fs,Y,(G,none)::y.t],rfl,R5,(ap.lay a7).perm pe.symm,by rw[pe.length_eq,K4,aT];omega,3,S5]
  .intro S a4 ac q e L;rw[Tb.dq S I]at ac;rw[OZ,hp];cases z:S=t
   .rw[WQ z]at ac;cases ac;let L:Tb.look ((G,none)::y.t) q=some e:=L;rw[Tb.aY]at L;cases J:G=q
    .rw[WQ J]at L;cases L;change kD cv t _ S q=_;unfold kD;rw[WQ #[z,by rw[<-J];simp]]
    .rw[WO J]at L;rw[show(some G).toList=[G]from rfl,vD (λh=>J h.2.symm)];show ab S y (by rw[z];show am) q e L
   .rw[WO z]at ac;rw[show(some G).toList=[G]from rfl,vD (λh=>z h.1)];show ab S a4 (by rw[Tb.dq S I,WO z];show ac) q e L
  .intro j;change Tb.look ((G,none)::y.t) j=_;rw[Tb.aY,ad j,OZ,hp];cases z:G=j
   .rw[WQ z,WQ (by rw[<-z];simp)]
   .rw[WO z];cases J:j∈(Rm.aP p m).take i
    .rw[WQ J,WQ (O8 _ J)]
    .rw[WO J,WO (by simp[ro z,J])]
 .rintro σ O ⟨v6,M4,y,rfl,R4,ap,aT,ab,ad,aD⟩;rw[k9,Pj]at ab ad;show q O M4 y R4 ap ab ad ((R.j0 S3).trans aD)
end St
namespace Rm
theorem iG{ad n:Int}{F:W5}(h:¬ cQ ad n F):(bq ad n).length<=64/\∀q∈bq ad n,q∈F:=by
 unfold bq;cases e:n=0
 .rw[WQ e];show#[OC _,λ_ h=>nomatch h]
 .rw[WO e];let G:0<n:=by
   have:¬ n<0:=λz=>h (.inl z);omega
  let h1:¬ bH (eL ad) (eJ ad n):=λz=>h (.inr #[G,.inl z]);let h2:∀q∈aP (eL ad) (eJ ad n),q∈F:=PD λz=>h (.inr #[G,.inr z]);show#[?_,h2];unfold aP;rw[k9,Qf];let I:¬ eL ad<0:=λz=>h1 (.inr (.inl z));let J:¬ 64<eL ad+eJ ad n:=λz=>h1 (.inr (.inr z));omega
theorem zx{ad n:Int}{I G:W5}(h:∀q,q∈I->q∈G)(F:cQ ad n G):cQ ad n I:=by
 rcases F with F|⟨h1,h2⟩
 .show .inl F
 .show .inr #[h1,h2.imp id λz y=>z λq J=>h q (y q J)]
end Rm
namespace St
open PySem L2
def eS(f:WY)(ps:W5):List Int:=(ps.map f).flatten
theorem gz{f:WY}{ps:W5}{i:Nat}{q:Int}(h:ps[i]?=some q):eS f (ps.take (i+1))=eS f (ps.take i)++f q:=by
 unfold eS;rw[OZ,h,IF,List.flatten_append];simp
theorem Bt.len{s:Pg.PS}{e:Pg.Ent}{cs:W5}(G:Pg.Good s)(h:Pg.Bt s e cs):cs.length=8:=by
 cases e with
 |none=>rw[show cs=replicate 8 0 from h];simp
 |some k=>let#[c,h]:=h;show(G.vw h).2
inductive uu(c:CA)(v:XD)(H:Hp)(Q:VK)(e:XK):Prop
 |mk(M:WR)(a:RA)(s:Pg.PS)(W:ed)(cv:WT)(t ad:Int)(n:Nat)(x:TD)(_:v=[.ref a.rp,.int t,.int ad,.int n])(_:az c H M a s W)(_:Pg.RI s (ents W))(_:Cv s W cv)(_:Tb.look W t=some x)(_:n<=600)(_:¬ Rm.cQ ad n (x.t.map (·.1)))(_:∀(H':Hp)(M':WR)(s':Pg.PS)(l:Addr),az c H' M' a s' W->Pg.RI s' (ents W)->Cv s' W cv->Step H M (a.own W) H' M' (a.own W)->(∀b,(s'.ow b).length=(s.ow b).length)->H l=none->H' l=some (.lst ((((eS (cv t) (Rm.bq ad n)).drop (ad%8).toNat).take n).map V.int))->(∀o,az c (upd H' l o) M' a s' W/\Step H M (a.own W) (upd H' l o) M' (a.own W))->Q (.ref l) H')
section
variable{c:CA}{H H':Hp}{M M' B:WR}{a:RA}{s s':Pg.PS}{W:ed}{t:Int}{x y:TD}
theorem nameQ{i:Nat}{v:V}{σ:L2.St}{H:Hp}{Q:L2.St->Hp->Prop}(h:Q (σ.set i (some v)) H):lI i v σ H Q:=h
theorem az.N1(R:az c H M a s W){l:Addr}{xs ys:XD}(F:H l=some (.lst xs))(G:M l)(no:¬ a.own W l):az c (upd H l (.lst ys)) M a s W :=
 R.Gq (B:=(· = l)) (Off.wr rfl) (λb z=>by rw[z];show#[G,no]) (λb z=>.inl #[xs,by rw[z];show F]) (λb z=>.inl z) (λb z _=>z) (λb z e=>by
  cases q:b=l
  .rw[q,ae]at e;cases e
  .rw[aj q]at e;show R.mt b z e)
theorem az.KR(R:az c H M a s W){l:Addr}{o:HO}(F:H l=none):az c (upd H l o) (λb=>M b\/b=l) a s W :=
 R.Gq (B:=λ_=>False) (λb u e _=>dH F b u e id) (λb z=>z.elim) (λb z=>z.elim) (λb z=>z.elim .inl λz=>.inr (by rw[z];show F)) (λb z _=>.inl z) (λb z e=>by
  cases q:b=l
  .rw[q,ae]at e;cases e
  .rw[aj q]at e;show z.elim (λz=>R.mt b z e) q)
theorem dW.keys(T:dW c.T H x)(q:Int):q∈x.t.map (·.1)↔Tb.look x.t q≠none:=by
 constructor
 .intro h e;show Tb.cO e h
 .intro h;cases e:Tb.look x.t q with
  |none=>show absurd e h
  |some v=>show rk.mpr #[_,Tb.aC e,rfl]
theorem mK:aE ["self","task","address","many","table","whole","page","entry"] ["self","task","address","many"] (aw pF):=L2.bW
theorem En{c:CA}(F:cD K "peek" "Rooms.peek" pF f fd)(T:ku K mg c)(TT:Tb.Txt K mg c.T)(TP:qP K mg c.P)(GR:↥Df 1 "room_of" cH)(GO:↥Df 2 "pages_of_cells" Rm.gF)(bt:↥Df 1 "run_within" Rm.kI)(bm:↥Md 1 c.T "pages" (Tb.di c.T))(GG:↥Md 3 c.T "get" (Tb.pL c.T))(bn:↥Md 7 c.P "fetch" (nv c.P c.S))(br:↥Md 5 c.C "cells_of" (jG c)):↥aX 8 f fd ["self","task","address","many"] (uu c):=by
 let#[aB,mB,sB]:=T.bl;let rB:RelV (.ref aB) (.ref aB):=rfl;show F.dU mK ?_;intros;let#[M,a,s',W,cv,t,ad,n,x,rfl,R,ri,bc,hx,n6,hb,q]:=h;let hs:=ti;let#[dx,ho]:=R.ob;let TX:=R.tb _ (Tb.aC hx);let#[c1,c2]:=Rm.iG hb;show#[_,(ai (cK 4 mK.nd (pc GR hr ax (aa (aI (pv 0) rfl) (aa (pv 1) af))))
  (ai (cK 5 mK.nd (bz af))
  (ai (dy NC rfl (eE (pc GO hr ax (aa (mR (pv 4) TT.cl bm hr ax) (aa (pv 2) (aa (pv 3) af))))) (iW 6 mK.nd) (ai (cK 7 mK.nd (pm (pv 4) TT.cl GG hr ax (aa (pv 6) af)))
  (ai (bo (aA (xu hr.j8) (pv 7) (aR (by rfl) mB rB) (aH _)) (ak (aQ (pm (aI (pv 0) rfl) TP.cl bn hr ax (aa (aS bw (pv 7) ah cy) af)))) aK)
  (ak (aQ (hU Pc Qo Ti sk (pv 5) (aa (pm (pv 0) T.cl br hr ax (aa (pv 7) af)) af)))))))
  (ak (aG (pc bt hr ax (aa (pv 5) (aa (pv 2) (aa (pv 3) af))))))))),?_]
 show#[0,a.rp,c.C,dx,_,0,ho,T.cl,T.nR,cI _ _ _,0,a.rd,W,t,x,rfl,R.hd,hx,?_];show#[ao,λG Y=>?_];let R1:=R.KR (o:=.lst []) Y;let s1:aO H (upd H G (.lst [])):=Tb.au Y;let a1:upd H G (.lst []) G=some (.lst []):=ae;generalize upd H G (.lst [])=H1 at *;let a3:¬ a.own W G:=λz=>R.mt _ (R.fU _ z) Y;let ba:=R1.tb _ (Tb.aC hx);let#[bv,ht]:=ba.at_.ob;show#[0,x.p,bv,0,ht,Tb.aW _ aq,x.p,x.fs,x.tb,rfl,ba.at_,λH2 l2 ns s2 b6 b2 pm b5=>?_];let bi:∀{z},z∈x.t.map (·.1)->z∈ns:=λ{z} h=>(TX.mem pm z).mpr ((TX.keys z).mp h);show#[0,0,l2,ns,ad,n,rfl,b2,λh=>hb (Rm.zx (λz hz=>bi hz) h),λH3 l3 s3 bN a5=>?_];let S3:=s2.trans s3;let R3:=R1.same S3;let bp:=S3 _ _ a1;let as:H1 l3=none:=s2.free bN;let bg:¬ a.own W l3:=λz=>R1.mt _ (R1.fU _ z) as;let bx:l3≠G:=λz=>(by rwa[z,a1]at as);show#[l3,rfl,#[_,bD.of a5],?_];show er (K:=K) (a:=l3) (xs:=(Rm.bq ad n).map V.int) (λi σ U=>Kc λ(v6 v7:Option V)(J:Pg.PS)=>LX (σ=#v[.ref a.rp,.int t,.int ad,.int n,.ref x.p,.ref G,v6,v7]) (az c U (λb=>M b\/b=G) a J W) (Pg.RI J (ents W)) (Cv J W cv) (U G=some (.lst ((eS (cv t) ((Rm.bq ad n).take i)).map V.int))) ((eS (cv t) ((Rm.bq ad n).take i)).length=8*i) (Off (λb=>a.own W b\/b=G) H3 U) (∀b,(J.ow b).length=(s'.ow b).length))
  #[2,s',rfl,R3,ri,bc,bp,rfl,λ_ _ e _=>e,λ_=>rfl] (λi σ U _ z0=>by let#[_,_,_,_,_,_,_,_,_,L,_]:=z0;show bD.of (L _ _ a5 λz=>z.elim bg bx)) ?_ ?_
 .rintro i u σ U hu ⟨v6,v7,J,rfl,R4,O,am,ac,b0,L,ap⟩;rw[t4]at hu;let#[p,hp,rfl]:=qw.mp hu;let bA:=wh hp;let#[hi,b4]:=mu.mp hp;let T4:=R4.tb _ (Tb.aC hx);let#[bb,bI]:=T4.at_.ob;obtain⟨e,he⟩:∃e,Tb.look x.t p=some e:=by
   cases z:Tb.look x.t p with
   |none=>show absurd z ((TX.keys p).mp (c2 p bA))
   |some e=>show#[e,rfl]
  show#[0,x.p,bb,0,bI,Tb.aW _ aq,0,x.p,x.fs,x.tb,p,rfl,T4.at_,λH5 v s5 hv=>?_];rw[T4.lk,he]at hv;let#[tt,rfl,ab]:=hv;let N:=R4.same s5;let a7:=s5 _ _ ac;show nameQ ?_;dsimp only;show share (λσ H6=>∃I:Pg.PS,LX (σ=#v[.ref a.rp,.int t,.int ad,.int n,.ref x.p,.ref G,.int p,.ref tt]) (az c H6 (λb=>M b\/b=G) a I W) (Pg.RI I (ents W)) (Cv I W cv) (H6 tt=some (.tup (Au e))) (H6 G=some (.lst ((eS (cv t) ((Rm.bq ad n).take i)).map V.int))) (Off (λb=>a.own W b\/b=G) H3 H6) (∀b,(I.ow b).length=(s'.ow b).length)) (λu' a4=>?A) ?B
  case A =>
   show#[0,tt,aB,_,0,rfl,cu.of ab,jY.sq (.inr sB),?_];cases e with
   |none =>
    show#[1,0,cq ?_];show a4 _ _ #[J,rfl,N,O,am,ab,a7,λb o e z=>s5 _ _ (L b o e z),ap]
   |some k =>
    show#[1,0,dR ?_];let#[bV,b3]:=N.ob;let#[aD,bB]:=N.pg.ob;let#[cs,cc,hv]:=O.is k (lK hx he);show#[0,a.rp,c.C,bV,_,0,b3,T.cl,T.nP,m4 _ _ _,a.A.pg,aD,0,bB,dh _ _ aq aq aq aq aq,0,tt,_,(1),0,rfl,cu.of ab,4,a.A,J,k,cs,cc,rfl,N.L6 O,hv,λH6 I fe G6 O6=>?_];let FF:=Pg.rE O.good fe;show a4 _ _ #[I,rfl,N.l8 G6 O6 FF.kept.ln,O.GQ fe,am.keep (Pg.yk O.good fe),O6 _ _ ab (N.pg.tL _ _ ab),O6 _ _ a7 (λz=>a3 (.inl z)),λb o e z=>O6 _ _ (s5 _ _ (L b o e z)) (λy=>z (.inl (.inl y))),λb=>(FF.kept.ln b).trans (ap b)]
  case B =>
   rintro σ H6 ⟨I,rfl,R6,a0,a8,be,a9,o6,bd⟩;let#[aD,b1]:=R6.ob;let a2:=a8 t x hx p e he;let c8:=Bt.len a0.good a2;show#[0,.inl #[4,bD.of a9],0,a.rp,aD,0,b1,fV _ _ _ aq aq aq,0,_,a,I,W,tt,e,cv t p,rfl,R6,a0.good,be,a2,λH7 l7 s7 f7 h7=>?_];let R7:=R6.same s7;let a6:=s7 _ _ a9;show#[G,l7,_,0,rfl,a6,h7,by rw[k9,k9];omega,?_];rw[<-IF, <-gz hp];show#[2,I,rfl,R7.N1 a6 (.inr rfl) a3,a0,a8,ae,by rw[gz hp,G1];omega,λb o e z=>by rw[aj (λy=>z (.inr y))];show s7 _ _ (o6 b o e z),bd]
 .rintro σ U ⟨v6,v7,J,rfl,R4,O,am,ac,b0,L,ap⟩;rw[k9,Pj]at ac;show#[0,0,0,G,_,ad,n,rfl,ac,λH5 l5 s5 aT bY=>?_];let N:=R4.same s5;let oA:Off (a.own W) H H5:=λb o e z=>s5 _ _ (L _ _ (S3 _ _ (s1 _ _ e)) λy=>y.elim z λy=>by rwa[y,Y]at e);let so:∀o,aO U (upd H5 l5 o):=λo b u e=>(by rw[aj (av e aT)];show s5 _ _ e);let oB:∀{Hx},aO U Hx->Off (a.own W) H Hx:=λsx b o e z=>sx _ _ (L _ _ (S3 _ _ (s1 _ _ e)) λy=>y.elim z λy=>by rwa[y,Y]at e);show q H5 _ J l5 N O am #[oA,λb z _=>.inl z,λb z=>z.elim .inl λz=>.inr (by rw[z];show Y),λb z=>.inl z,R.mt,R.fU] ap ?_ bY λo=>#[R4.same (so o),oB (so o),λb z _=>.inl z,λb z=>z.elim .inl λz=>.inr (by rw[z];show Y),λb z=>.inl z,R.mt,R.fU];cases z:H l5 with
  |none=>rfl
  |some o =>
   exfalso;cases w:a.own W l5
   .show R4.mt _ (R4.fU _ w) aT
   .have:=L _ _ (S3 _ _ (s1 _ _ z)) λy=>y.elim w λy=>(by rwa[y,Y]at z);rwa[aT]at this
end
end St
namespace Rm
theorem xm{ad:Int}{cs ws:W5}{L:W5}(h:¬ cQ ad cs.length L)(F:ws.length=8*(bq ad cs.length).length):(f6 ws (ad%8).toNat cs).length=8*(bq ad cs.length).length:=by
 unfold f6;rw[G1,G1,Om,P4];cases e:((cs.length:Nat):Int)=0
 .have:bq ad cs.length=[]:=(by unfold bq;rw[WQ e]);rw[this]at F ⊢;let J:ws.length=0:=F;let G:cs.length=0:=ag;rw[J,G];simp
 .let I:(bq ad cs.length).length=(eJ ad cs.length).toNat:=by
   unfold bq;rw[WO e];unfold aP;rw[k9,Qf]
  let N:0<((cs.length:Nat):Int):=ag;let h1:¬ bH (eL ad) (eJ ad cs.length):=λz=>h (.inr #[N,.inl z]);let h2:¬ eJ ad cs.length<1:=λz=>h1 (.inl z);rw[I]at F ⊢;unfold eJ at *;omega
theorem HZ{k:Nat}{ws:W5}(h:ws.length=8*k):∀G∈ju k ws,G.length=8:=by
 intro G F;unfold ju at F;let#[i,hi,rfl]:=rk.mp F;have:=O0.mp hi;rw[Om,P4,h];omega
end Rm
namespace St
open PySem L2
def jz(cv:WT)(t:Int)(l:List (Int×List Int)):Int->Int->List Int:=λt' q=>if t'=t then(Tb.look l q).getD (cv t' q)else cv t' q
theorem wO{cv:WT}{t:Int}:jz cv t []=cv:=by
 funext t' q;unfold jz;cases z:t'=t
 .rw[WQ z];rfl
 .rw[WO z]
theorem vC{cv:WT}{t t' q:Int}{l:List (Int×List Int)}{p:Int}{r:W5}:jz cv t ((p,r)::l) t' q=if t'=t/\q=p then r else jz cv t l t' q:=by
 unfold jz;cases z:t'=t
 .rw[WQ z,WQ z,Tb.aY];cases F:p=q
  .rw[WQ F,WQ #[z,F.symm]];rfl
  .rw[WO F,WO (λh=>F h.2.symm)]
 .rw[WO z,WO z,WO (λh=>z h.1)]
def yE(f:WY)(ad:Int)(cs:W5):List (List Int):=Rm.ju (Rm.bq ad cs.length).length (Rm.f6 (eS f (Rm.bq ad cs.length)) (ad%8).toNat cs)
inductive sR(K:HC)(c:CA)(v:XD)(H:Hp)(Q:VK)(e:XK):Prop
 |mk(M:WR)(a:RA)(s:Pg.PS)(W:ed)(cv:WT)(t ad:Int)(ca:Addr)(cs:W5)(x:TD)(_:v=[.ref a.rp,.int t,.int ad,.ref ca])(_:az c H M a s W)(_:Pg.RI s (ents W))(_:Cv s W cv)(_:Tb.look W t=some x)(_:bD K H ca (cs.map V.int))(_:cs.length<=500)(_:¬ Rm.cQ ad cs.length (x.t.map (·.1)))(_:∀(H':Hp)(M':WR)(s':Pg.PS)(y:TD),az c H' M' a s' (Tb.bE W t y)->Pg.RI s' (ents (Tb.bE W t y))->Cv s' (Tb.bE W t y) (jz cv t (((Rm.bq ad cs.length).zip (yE (cv t) ad cs)).reverse))->(∀q,¬ q∈Rm.bq ad cs.length->Tb.look y.t q=Tb.look x.t q)->(∀q∈Rm.bq ad cs.length,∃k,Tb.look y.t q=some (some k))->Step H M (a.own W) H' M' (a.own (Tb.bE W t y))->(∀b,(s'.ow b).length=(s.ow b).length)->Q .non H')
theorem ui(ad n:Int):(Rm.bq ad n).Nodup:=by
 unfold Rm.bq;cases e:n=0
 .rw[WQ e];show Qr
 .rw[WO e];show rR _ _
theorem mY{α G:Type}{F:α->G->Prop}:∀{xs:List α}{ys:List G}{i:Nat}{x:α},Paired F xs ys->xs[i]?=some x->∃y,ys[i]?=some y/\F x y
 |_,_,_,_,.nil,e=>by simp at e
 |_,_,0,_,.cons r _,e=>by simp at e;subst e;show#[0,r]
 |_,_,i+1,x,.cons _ t,e=>by
  let#[u,h1,h2]:=mY (i:=i) (x:=x) t ‹e›;show#[u,by simpa using h1,h2]
theorem ir:aE ["self","task","address","cells","table","pages","whole","page","changed"] ["self","task","address","cells"] (aw qC):=L2.bW
theorem BM{c:CA}(F:cD K "poke" "Rooms.poke" qC f fd)(T:ku K mg c)(TT:Tb.Txt K mg c.T)(GR:↥Df 1 "room_of" cH)(GO:↥Df 2 "pages_of_cells" Rm.gF)(dV:↥Df 1 "pages_with" (Rm.ur K))(c4:↥Md 1 c.T "pages" (Tb.di c.T))(GG:↥Md 3 c.T "get" (Tb.pL c.T))(GL:↥Md 3 c.T "lay" (Tb.wb K c.T))(dj:↥Md 5 c.C "cells_of" (jG c))(d5:↥Md 9 c.C "sheet_with" (jx c)):↥aX 10 f fd ["self","task","address","cells"] (sR K c):=by
 show F.dU ir ?_;intros;let#[M,a,s',W,cv,t,ad,ca,cs,x,rfl,R,ri,br,L,b8,n6,hb,q]:=h;let hs:=ti;let#[dx,ho]:=R.ob;let TX:=R.tb _ (Tb.aC L);let#[dt,ht]:=TX.at_.ob;let#[c1,c2]:=Rm.iG hb;show#[_,(ai (cK 4 ir.nd (pc GR hr ax (aa (aI (pv 0) rfl) (aa (pv 1) af))))
  (ai (cK 5 ir.nd (pc GO hr ax (aa (mR (pv 4) TT.cl c4 hr ax) (aa (pv 2) (aa (aL bu (by rfl) T.len boot_len (aa (pv 3) af)) af)))))
  (ai (cK 6 ir.nd (bz af))
  (ai (dy NC rfl (eE (pv 5)) (iW 7 ir.nd) (ak (aQ (hU Pc Qo Ti sk (pv 6) (aa (pm (pv 0) T.cl dj hr ax (aa (pm (pv 4) TT.cl GG hr ax (aa (pv 7) af)) af)) af)))))
  (ak (dy NC rfl (xT (by rfl) T.zip (aa (pv 5) (aa (pc dV hr ax (aa (pv 6) (aa (pv 2) (aa (pv 3) af)))) af))) (fJ rfl (bL (iW 7 ir.nd) (bL (iW 8 ir.nd) dX))) (ak (aQ (pm (pv 4) TT.cl GL hr ax (aa (pv 7) (aa (bK (aa ay (aa (pm (pv 0) T.cl d5 hr ax (aa (pm (pv 4) TT.cl GG hr ax (aa (pv 7) af)) (aa (pv 8) af))) af))) af))))))))))),?_]
 show#[0,a.rp,c.C,dx,_,0,ho,T.cl,T.nR,cI _ _ _,0,a.rd,W,t,x,rfl,R.hd,L,?_];show#[0,x.p,dt,0,ht,Tb.aW _ aq,x.p,x.fs,x.tb,rfl,TX.at_,λH1 l1 ns s1 d9 c9 pm ea=>?_];let bi:∀{z},z∈x.t.map (·.1)->z∈ns:=λ{z} h=>(TX.mem pm z).mpr ((TX.keys z).mp h);show#[0,0,ca,0,.inl (Rm.eh b8 (s1 _)),l1,ns,ad,cs.length,by rw[k9];rfl,c9,λh=>hb (Rm.zx (λz hz=>bi hz) h),λH2 U s2 dO bd=>?_];generalize eP:Rm.bq ad cs.length=ps at *;let c6:ps.Nodup:=(by rw[<-eP];show ui _ _);let S2:=s1.trans s2;let R2:=R.same S2;show#[ao,λG a3=>?_];let R3:=R2.KR (o:=.lst []) a3;let s3:aO H2 (upd H2 G (.lst [])):=Tb.au a3;let da:upd H2 G (.lst []) G=some (.lst []):=ae;generalize upd H2 G (.lst [])=H3 at *;let a4:H G=none:=S2.free a3;let c0:¬ a.own W G:=λz=>R.mt _ (R.fU _ z) a4;let bb:=s3 _ _ bd;let db:H U=none:=s1.free dO;let cS:¬ a.own W U:=λz=>R.mt _ (R.fU _ z) db;let bY:U≠G:=λz=>(by rwa[z,a3]at bd);let bp:∀p∈ps,∃e,Tb.look x.t p=some e:=λp aT=>by
  cases z:Tb.look x.t p with
  |none=>show absurd z ((TX.keys p).mp (c2 p aT))
  |some e=>show#[e,rfl]
 show#[0,U,rfl,#[_,bD.of bb],?_];show er (K:=K) (a:=U) (xs:=ps.map V.int) (λi σ H4=>∃v7:Option V,HR (σ=#v[.ref a.rp,.int t,.int ad,.ref ca,.ref x.p,.ref U,.ref G,v7,none]) (az c H4 (λb=>M b\/b=G) a s' W) (H4 G=some (.lst ((eS (cv t) (ps.take i)).map V.int))) ((eS (cv t) (ps.take i)).length=8*i) (Off (· = G) H3 H4))
  #[0,R3,da,rfl,λ_ _ e _=>e] (λi σ H4 _ z0=>by let#[_,_,_,_,_,o4]:=z0;show bD.of (o4 _ _ bb bY)) ?_ ?_
 .rintro i u σ H4 hu ⟨v7,rfl,S,aD,a6,o4⟩;rw[t4]at hu;let#[p,J,rfl]:=qw.mp hu;let aT:=wh J;let#[hi,cC]:=mu.mp J;let T4:=S.tb _ (Tb.aC L);let#[cr,dM]:=T4.at_.ob;let#[d4,dr]:=S.ob;let#[e,he]:=bp p aT;let bn:=br t x L p e he;let c8:=Bt.len ri.good bn;show#[0,.inl #[4,bD.of aD],0,a.rp,d4,0,dr,fV _ _ _ aq aq aq,0,x.p,cr,0,dM,Tb.aW _ aq,0,x.p,x.fs,x.tb,p,rfl,T4.at_,λH5 v s5 hv=>?_];rw[T4.lk,he]at hv;let#[tt,rfl,bc]:=hv;show#[_,a,s',W,tt,e,cv t p,rfl,S.same s5,ri.good,bc,bn,λH7 l7 s7 f7 h7=>?_];let S7:=s5.trans s7;let Y:=S.same S7;let b0:=S7 _ _ aD;show#[G,l7,_,0,rfl,b0,h7,by rw[k9,k9];omega,?_];rw[<-IF, <-gz J];show#[0,Y.N1 b0 (.inr rfl) c0,ae,by rw[gz J,G1];omega,λb o e z=>by rw[aj z];show S7 _ _ (o4 b o e z)]
 .rintro σ H4 ⟨v7,rfl,S,aD,a6,o4⟩;rw[k9,Pj]at aD a6;let cT:bD K H4 ca (cs.map V.int):=Rm.eh b8 λo e=>o4 _ _ (s3 _ _ (S2 _ _ e)) (λz=>by rwa[z,a4]at e);let dL:=o4 _ _ bb bY;let ba:=Rm.xm hb (ws:=eS (cv t) ps) (by rw[eP];show a6);rw[eP]at ba;show#[0,0,0,0,G,ca,_,cs,ad,ps.length,rfl,aD,cT,by rw[a6];omega,ag,c1,ba,λH5 l5 rs s5 d3 b4 a5 dz eb=>?_];let R5:=S.same s5;let bt:=s5 _ _ dL;let b5:rs.length=ps.length:=by
   rw[a5.length];unfold Rm.ju;rw[k9,Qf]
  let h8:=Rm.HZ ba;generalize eC:Rm.ju ps.length (Rm.f6 (eS (cv t) ps) (ad%8).toNat cs)=ch at a5 h8;let cc:ch.length=ps.length:=(by rw[<-a5.length,b5]);let dT:yE (cv t) ad cs=ch:=(by unfold yE;rw[eP];show eC);let dI:Step H M (a.own W) H5 (λb=>M b\/b=G) (a.own W):=#[λb o e z=>s5 _ _ (o4 _ _ (s3 _ _ (S2 _ _ e)) (λy=>by rwa[y,a4]at e)),λb z _=>.inl z,λb z=>z.elim .inl λz=>.inr (by rw[z];show a4),λb z=>.inl z,R.mt,R.fU];let bI:∀r∈rs,¬ (M r\/r=G):=λr hr z=>S.mt r z (dz r hr);let ci:∀{l},H4 l=none->¬ a.own W l:=λh z=>S.mt _ (S.fU _ z) h;show#[U,l5,rfl,#[_,bD.of bt],#[_,bD.of b4],?_];show zG (K:=K) (a:=U) (b:=l5) (xs:=ps.map V.int) (ys:=rs.map V.ref) (λi σ H6=>EK λ(v7 v8:Option V)(M6:WR)(s6:Pg.PS)(y:TD)=>LX (σ=#v[.ref a.rp,.int t,.int ad,.ref ca,.ref y.p,.ref U,.ref G,v7,v8]) (az c H6 M6 a s6 (Tb.bE W t y)) (Pg.RI s6 (ents (Tb.bE W t y))) (Cv s6 (Tb.bE W t y) (jz cv t (((ps.zip ch).take i).reverse))) ((∀q,¬ q∈ps.take i->Tb.look y.t q=Tb.look x.t q)) ((∀q∈ps.take i,∃k,Tb.look y.t q=some (some k))) (Step H5 (λb=>M b\/b=G) (a.own W) H6 M6 (a.own (Tb.bE W t y))) (∀b,(s6.ow b).length=(s'.ow b).length))
   #[2,_,s',x,rfl,by rw[dw R.nd L];show R5,by rw[dw R.nd L];show ri,by rw[dw R.nd L,Uj];change Cv s' W (jz cv t []);rw[wO];show br,λ_ _=>rfl,λq hq=>by simp at hq,by rw[dw R.nd L];show R5.refl,λ_=>rfl] (by rw[k9,k9,b5]) (λi σ H6 _ z0=>by
    let#[_,_,_,_,_,_,_,_,_,_,_,st,_]:=z0;show#[bD.of (st.off _ _ bt cS),bD.of (st.off _ _ b4 (ci d3))]) ?_ ?_
  .rintro i u v σ H6 z hu hv hz ⟨v7,v8,M6,s6,y,rfl,R6,be,a1,aB,a2,a0,a9⟩;rw[t4]at hu hv;let#[p,J,rfl]:=qw.mp hu;let#[r,bx,rfl]:=qw.mp hv;let bB:r∈rs:=wh bx;let aT:=wh J;let#[hi,cC]:=mu.mp J;let#[ab,bg,b7]:=mY a5 bx;let d6:=h8 ab (wh bg);let cP:¬ p∈ps.take i:=λz=>by
    let#[j,I,e]:=Qs z;rw[Rl]at e;rw[Om]at I;show sC c6 j i (L1 ag) J ag e
   let d1:=a0.off _ _ b7 (λw=>bI r bB (R5.fU _ w));let ce:¬ M6 r:=λw=>(a0.mn r w).elim (bI r bB) λw=>(by rwa[b7]at w);let sT:=Tb.au (X:=.tup [.int p,.ref r]) hz;show#[z,[.int p,.ref r],rfl,cu.of ae,rfl,.int p,[.ref r],rfl,.ref r,[],1,?_];let Y:=R6.same sT;let S7:=a0.trans (R6.j0 sT);let dl:=sT _ _ d1;generalize upd H6 z (.tup [.int p,.ref r])=H7 at *;let am:=jS (y:=y) L;let T7:=Y.tb _ (Tb.aC am);let#[b2,bv]:=T7.at_.ob;let#[c3,b9]:=Y.ob;let#[e,bl]:=bp p aT;let he:Tb.look y.t p=some e:=(aB p cP).trans bl;show#[0,y.p,b2,0,bv,Tb.aW _ aq,0,0,a.rp,c3,0,b9,fV _ _ _ aq aq aq,0,y.p,b2,0,bv,Tb.aW _ aq,0,y.p,y.fs,y.tb,p,rfl,T7.at_,λH8 v s8 hv=>?_];rw[T7.lk,he]at hv;let#[tt,rfl,bc]:=hv;let R8:=Y.same s8;let S8:=S7.trans (Y.j0 s8);let pe:(ents (Tb.bE W t y)).Perm (e::(wK (Tb.bJ y.t p)++ents (Tb.bJ (Tb.bE W t y) t))):=(mF Y.nd am).trans ((vo T7.nd he).append_right _);show#[0,M6,a,s6,Tb.bE W t y,tt,r,e,_,ab,rfl,R8,be.perm pe,bc,s8 _ _ dl,ce,d6,λH9 s9 k R9 c7 b6 d0 dd cx=>?_];show#[dN,λu fu=>?_];let sU:=Tb.au (X:=.tup [.str "sheet",.int k]) fu;let a8:=R9.same sU;let d7:=(S8.trans dd).trans (R9.j0 sU);let d8:upd H9 u (.tup [.str "sheet",.int k]) u=some (.tup [.str "sheet",.int k]):=ae;let cg:=a8.tb _ (Tb.aC am);let#[g1,g2]:=TX.pg (q:=p) (by rw[bl];simp);show#[y.p,y.fs,u,y.tb,p,[.str "sheet",.int k],rfl,cg.at_,g1,g2,.inl d8,rfl,λdm ap dp c5 bV b1=>?_];let TI:dW c.T dm #[y.p,y.fs,ap,(p,some k)::Tb.bJ y.t p]:=#[dp,Tb.Ju T7.nd,λj=>by
    rw[c5 j,Tb.kT];cases w:j=p
    .rw[WQ w,WQ w];rfl
    .rw[WO w,WO w];show T7.lk j]
   let b3:=a8.wZ (y:=#[y.p,y.fs,ap,(p,some k)::Tb.bJ y.t p]) am rfl TI bV b1;let bN:=d7.trans (a8.tT (y:=#[y.p,y.fs,ap,(p,some k)::Tb.bJ y.t p]) am bV b1);let bA:=Bz (y:=#[y.p,y.fs,ap,(p,some k)::Tb.bJ y.t p]) (e:=some k) (q:=p) Y.nd am rfl;rw[set_set]at b3 bN bA;let d2:(ps.zip ch)[i]?=some (p,ab):=by
    rw[SF];show#[J,bg]
   show#[2,_,s9,#[y.p,y.fs,ap,(p,some k)::Tb.bJ y.t p],rfl,b3,c7.perm bA.symm,3,?_,bN,λb=>(cx b).trans (a9 b)]
   .intro ac a7 as q N O;rw[OZ,d2,show(some (p,ab)).toList=[(p,ab)]from rfl,Rn,show([(p,ab)]:List (Int×List Int)).reverse=[(p,ab)]from rfl,List.singleton_append,vC];rw[Tb.dq ac L]at as;let bm:∀{N},N∈wK (Tb.bJ y.t p)\/N∈ents (Tb.bJ (Tb.bE W t y) t)->N∈wK (Tb.bJ y.t p)++ents (Tb.bJ (Tb.bE W t y) t):=λh=>qj.mpr h;cases w:ac=t
    .rw[WQ w]at as;cases as;let O:Tb.look ((p,some k)::Tb.bJ y.t p) q=some N:=O;rw[Tb.kT]at O;cases w2:q=p
     .rw[WQ w2]at O;cases O;rw[WQ #[w,w2]];show d0
     .rw[WO w2]at O;rw[WO (λh=>w2 h.2)];show b6 N (bm (.inl ?_)) _ (a1 ac y (by rw[w];show am) q N O);show rk.mpr #[(q,N),Tb.pN (Tb.aC O) w2,rfl]
    .rw[WO w]at as;rw[WO (λh=>w h.1)];let h2:Tb.look (Tb.bE W t y) ac=some a7:=(by rw[Tb.dq ac L,WO w];show as);show b6 N (bm (.inr ?_)) _ (a1 ac a7 h2 q N O);show RB.mpr #[(ac,a7),Tb.pN (Tb.aC h2) w,rk.mpr #[(q,N),Tb.aC O,rfl]]
   .intro j I;rw[OZ,J]at I;let w:j≠p:=λw=>I (by rw[w];simp);change Tb.look ((p,some k)::Tb.bJ y.t p) j=_;rw[Tb.kT,WO w];show aB j λh=>I (O8 _ h)
   .intro j I;change ∃k',Tb.look ((p,some k)::Tb.bJ y.t p) j=some (some k');rw[Tb.kT];cases w:j=p
    .rw[WQ w];show#[k,rfl]
    .rw[WO w];rw[OZ,J]at I;rcases qj.mp I with I|I
     .show a2 j I
     .show absurd ‹I› w
  .rintro σ H6 ⟨v7,v8,M6,s6,y,rfl,R6,be,a1,aB,a2,a0,a9⟩;rw[k9,Pj]at aB a2;rw[k9,OV (by rw[Vv,cc];omega), <-dT]at a1;show q H6 M6 s6 y R6 be a1 aB a2 (dI.trans a0) a9
def Cd(cv:WT)(t o:Int):Int->Int->List Int:=λt' q=>if t'=o then cv t q else cv t' q
inductive sQ(c:CA)(v:XD)(H:Hp)(Q:VK)(e:XK):Prop
 |mk(M:WR)(a:RA)(s:Pg.PS)(W:ed)(cv:WT)(t o:Int)(x:TD)(_:v=[.ref a.rp,.int t,.int o])(_:az c H M a s W)(_:Pg.RI s (ents W))(_:Cv s W cv)(_:W.length<=1000)(_:Tb.look W t=some x)(_:Tb.look W o=none)(_:(ents W).length+x.t.length<=cj s)(_:∀(H':Hp)(M':WR)(s':Pg.PS)(y:TD),(∀q,Tb.look y.t q=Tb.look x.t q)->az c H' M' a s' (W++[(o,y)])->Pg.RI s' (ents (W++[(o,y)]))->Cv s' (W++[(o,y)]) (Cd cv t o)->Step H M (a.own W) H' M' (a.own (W++[(o,y)]))->(∀b,(s'.ow b).length=(s.ow b).length)->Q .non H')
theorem vq(W:ed)(o:Int)(y:TD):ents (W++[(o,y)])=ents W++wK y.t:=by
 unfold ents;rw[RX];simp
theorem pB:aE ["self","task","other","table","pages","copied","page","entry"] ["self","task","other"] (aw uk):=L2.bW
theorem BX{f fI:Addr}{fd dI:pa}{c:CA}(F:cD K "copy" "Rooms.copy" uk f fd)(T:ku K mg c)(TT:Tb.Txt K mg c.T)(TP:qP K mg c.P)(MK:Mk K c.T fI)(c4:mg "Table" = some (.ref c.T))(GR:↥Df 1 "room_of" cH)(GS:↥Df 1 "refuse_second_room" jc)(GA:↥Df 1 "refuse_above" oa)(GI:↥aX 1 fI dI ["self"] (Tb.ja c.T))(bI:Binds K dI ["self"] [])(b5:↥Md 1 c.T "pages" (Tb.di c.T))(GH:↥Md 2 c.C "held" (iH c))(GG:↥Md 3 c.T "get" (Tb.pL c.T))(GL:↥Md 3 c.T "lay" (Tb.wb K c.T))(ce:↥Md 4 c.P "share" (uv c.P c.S)):↥aX 5 f fd ["self","task","other"] (sQ c):=by
 let#[aB,mB,sB]:=T.bl;let rB:RelV (.ref aB) (.ref aB):=rfl;show F.dU pB ?_;intros;let#[M,a,s',W,cv,t,o,x,rfl,R,ri,bV,lw,hx,aT,c3,q]:=h;let hs:=ti;let#[dx,ho]:=R.ob;let TX:=R.tb _ (Tb.aC hx);let#[ci,ht]:=TX.at_.ob;show#[_,(ai (cK 3 pB.nd (pc GR hr ax (aa (aI (pv 0) rfl) (aa (pv 1) af))))
  (ai (aQ (pc GS hr ax (aa (aI (pv 0) rfl) (aa (pv 2) af))))
  (ai (cK 4 pB.nd (mR (pv 3) TT.cl b5 hr ax))
  (ai (aQ (pc GA hr ax (aa (ar aZ (mR (pv 0) T.cl GH hr ax) (aL bu (by rfl) T.len boot_len (aa (pv 4) af))) (aa (aI (pv 0) rfl) af))))
  (ai (cK 5 pB.nd (vF MK GI (hr.mono ao) (by rfl) c4 bI .nil ax))
  (ai (dy NC rfl (eE (pv 4)) (iW 6 pB.nd) (ai (cK 7 pB.nd (pm (pv 3) TT.cl GG hr ax (aa (pv 6) af)))
  (ai (aQ (pm (pv 5) TT.cl GL hr ax (aa (pv 6) (aa (pv 7) af))))
  (ak (bo (aA (xu hr.j8) (pv 7) (aR (by rfl) mB rB) (aH _)) (ak (aQ (pm (aI (pv 0) rfl) TP.cl ce hr ax (aa (aS bw (pv 7) ah cy) af)))) aK)))))
  (ak (lh (bG hr) (aI (pv 0) rfl) (pv 2) (pv 5) rfl)))))))),?_]
 show#[0,a.rp,c.C,dx,_,0,ho,T.cl,T.nR,cI _ _ _,0,a.rd,W,t,x,rfl,R.hd,hx,?_];show#[0,a.rp,c.C,dx,_,0,ho,T.cl,T.nR,cI _ _ _,0,a.rd,W,o,rfl,R.hd,aT,?_];show#[0,x.p,ci,0,ht,Tb.aW _ aq,x.p,x.fs,x.tb,rfl,TX.at_,λH1 O ns s1 bA b9 pm c7=>?_];let R1:=R.same s1;let bB:ns.length=x.t.length:=TX.len pm;let#[cC,b4]:=R1.ob;show#[0,a.rp,cC,0,b4,fV _ _ _ aq aq aq,M,a,s',W,rfl,R1,lw,λH2 s2=>?_];let R2:=R1.same s2;let a9:=s2 _ _ b9;let#[b7,bx]:=R2.ob;show#[0,O,0,.inl (bD.of a9),_,0,rfl,0,a.rp,c.C,b7,_,0,bx,T.cl,T.nT,Fy _ _ _,_,0,by rw[k9,bB];omega,?_];let S2:=s1.trans s2;show λp bN np bt c8=>#[p,bN,rfl,ae,λfs H3 ba T3 off=>#[5]];let s3:aO H2 H3:=λb u e=>off b u (by rw[aj (av e np),aj (av e bt)];show e) (av e np);let a0:H2 fs=none:=by
  cases e:H2 fs with
  |none=>rfl
  |some u=>rwa[aj (av e np),aj (av e bt),e]at ba
 let a7:H fs=none:=S2.free a0;let b6:H p=none:=S2.free np;let R3:=R2.Gq (H':=H3) (B:=λ_=>False) (M':=λb=>M b\/b=fs) (λb o e _=>s3 b o e) (λb z=>z.elim) (λb z=>z.elim) (λb z=>z.elim .inl λz=>.inr (by rw[z];show a0)) (λb z _=>.inl z) (λb z e=>z.elim (λz=>(R2.same s3).mt b z e) λz=>by rwa[z,T3.hf]at e);let bm:=s3 _ _ a9;let b8:¬ a.own W O:=λz=>R.mt _ (R.fU _ z) bA;let cT:Step H M (a.own W) H3 (λb=>M b\/b=fs) (a.own W):=#[λb o e _=>s3 _ _ (S2 _ _ e),λb z _=>.inl z,λb z=>z.elim .inl λz=>.inr (by rw[z];show a7),λb z=>.inl z,R.mt,R.fU];let dd:∀b,(TD.mk p fs [] []).gk b->b=fs:=λb z=>by
  rcases z with z|⟨_,hx,_⟩
  .show z
  .cases hx
 let cg:ns.Nodup:=pm.nodup_iff.mpr (Tb.kL TX.at_);show#[0,O,rfl,#[_,bD.of bm],?_];show er (K:=K) (a:=O) (xs:=ns.map V.int) (λi σ H4=>EK λ(v6 v7:Option V)(N:WR)(I:Pg.PS)(y:TD)=>Ky (σ=#v[.ref a.rp,.int t,.int o,.ref x.p,.ref O,.ref y.p,v6,v7]) (az c H4 N a I W) (dW c.T H4 y) ((∀b,y.gk b->N b/\¬ a.own W b/\H b=none/\b≠O)) (¬ a.A.own y.p) ((∀q,Tb.look y.t q=if q∈ns.take i then Tb.look x.t q else none)) (Pg.RI I (wK y.t++ents W)) (y.t.length=i) (Cv I W cv) ((∀q e,Tb.look y.t q=some e->Pg.Bt I e (cv t q))) (Step H M (a.own W) H4 N (a.own W)) (H4 O=some (.lst (ns.map V.int))) (∀b,(I.ow b).length=(s'.ow b).length))
  #[2,_,s',#[p,fs,[],[]],rfl,R3,#[T3,Qr,λq=>rfl],λb z=>?_,λz=>R.mt _ (R.ok.own _ z) b6,λq=>by simp[Tb.js],ri,rfl,bV,λq e h=>(by cases h),cT,bm,λ_=>rfl] (λi σ H4 _ z0=>by let#[_,_,_,_,_,_,_,_,_,_,_,_,_,_,_,_,h,_]:=z0;show bD.of h) ?_ ?_
 .rw[dd b z];show#[.inr rfl,λw=>R.mt _ (R.fU _ w) a7,a7,λw=>by rwa[w,a9]at a0]
 .rintro i u σ H4 hu ⟨v6,v7,N,I,y,rfl,U,T4,L,am,aD,ab,a2,as,a1,ac,a6,ad⟩;rw[t4]at hu;let#[G,hp,rfl]:=qw.mp hu;let cx:=wh hp;let#[hi,c6]:=mu.mp hp;let b1:¬ G∈ns.take i:=λz=>by
   let#[j,hj,e]:=Qs z;rw[Rl]at e;rw[Om]at hj;show sC cg j i (L1 ag) hp ag e
  obtain⟨e,he⟩:∃e,Tb.look x.t G=some e:=by
   cases z:Tb.look x.t G with
   |none=>show absurd z ((TX.mem pm G).mp cx)
   |some e=>show#[e,rfl]
  let bv:Tb.look y.t G=none:=(by rw[aD,WO b1]);let X4:=U.tb _ (Tb.aC hx);let#[bY,cP]:=X4.at_.ob;show#[0,x.p,bY,0,cP,Tb.aW _ aq,0,x.p,x.fs,x.tb,G,rfl,X4.at_,λH5 v s5 hv=>?_];rw[X4.lk,he]at hv;let#[tt,rfl,a5]:=hv;let R5:=U.same s5;let T5:dW c.T H5 y:=#[T4.at_.same s5,T4.nd,T4.lk];let#[cr,c2]:=T5.at_.ob;let#[g1,g2]:=TX.pg (q:=G) (by rw[he];simp);let c5:Tb.qp (Au e)=true:=(by cases e<;>rfl);show#[0,y.p,cr,0,c2,Tb.aW _ aq,0,0,y.p,y.fs,tt,y.tb,G,Au e,rfl,T5.at_,g1,g2,.inl a5,c5,λH6 Y T6 l6 o6 n6=>?_];let ca:¬ y.gk tt:=λz=>by
   let#[_,h]:=T5.at_.dK z;rwa[a5]at h
  let bc:=o6 _ _ a5 ca;let a4:dW c.T H6 #[y.p,y.fs,Y,(G,e)::y.t]:=#[T6,Ot.mpr #[Tb.cO bv,T4.nd],λj=>by
   rw[l6 j,Tb.aY];cases z:j=G
   .rw[WQ z,WQ z.symm];rfl
   .rw[WO z,WO (ro z)];show T4.lk j]
  let bg:∀{b},H5 b=none->¬ a.own W b/\H b=none:=λ{b} h=>by
   let no:¬ a.own W b:=λz=>R5.mt _ (R5.fU _ z) h;show#[no,((ac.trans (U.j0 s5)).gone h).resolve_left no]
  let R6:=R5.Gq (H':=H6) (B:=y.gk) (M':=λb=>(N b/\¬ y.gk b)\/(TD.mk y.p y.fs Y ((G,e)::y.t)).gk b) o6 (λb z=>#[(L b z).1,(L b z).2.1]) (λb z=>.inr (T5.at_.dK z)) (λb z=>z.elim (λz=>.inl z.1) λz=>(n6 b z).elim (λz=>.inl (L b z).1) .inr) (λb z w=>.inl #[z,w]) (λb z w=>by
   rcases z with z|z
   .cases e2:H5 b with
    |none=>show R5.mt b z.1 e2
    |some u=>rwa[o6 b u e2 z.2]at w
   .let#[_,h]:=a4.at_.dK z;rwa[w]at h)
  let a3:∀b,(TD.mk y.p y.fs Y ((G,e)::y.t)).gk b->((N b/\¬ y.gk b)\/(TD.mk y.p y.fs Y ((G,e)::y.t)).gk b)/\¬ a.own W b/\H b=none/\b≠O:=λb z=>by
   rcases n6 b z with w|w
   .show#[.inr z,(L b w).2]
   .show#[.inr z,(bg w).1,(bg w).2,λy=>by rwa[y,s5 _ _ a6]at w]
  let a8:=ac.trans (U.j0 s5);let br:Step H M (a.own W) H6 (λb=>(N b/\¬ y.gk b)\/(TD.mk y.p y.fs Y ((G,e)::y.t)).gk b) (a.own W):=#[λb o e z=>o6 _ _ (a8.off b o e z) (λw=>by rwa[(L b w).2.2.1]at e),λb z w=>.inl #[a8.mm b z w,λy=>R.mt b z (L b y).2.2.1],λb z=>z.elim (λz=>a8.mn b z.1) λz=>.inr (a3 b z).2.2.1,λb z=>.inl z,R.mt,R.fU];let bn:=o6 _ _ (s5 _ _ a6) λz=>(L _ z).2.2.2 rfl;let bd:∀j,Tb.look ((G,e)::y.t) j=if j∈ns.take (i+1)then Tb.look x.t j else none:=λj=>by
   rw[Tb.aY,aD j,OZ,hp];cases z:G=j
   .rw[WQ z, <-z,WQ (by simp),he]
   .rw[WO z];cases z2:j∈ns.take i
    .rw[WQ z2,WQ (O8 _ z2)]
    .rw[WO z2,WO (by simp[ro z,z2])]
  let bi:(wK y.t++ents W).length<(I.ow true).length+(I.ow false).length:=by
   let e1:(wK y.t).length=i:=(by unfold wK;rw[k9];show a2);rw[G1,e1,ad,ad];unfold cj at c3;omega
  let bb:=as t x hx G e he;show#[0,tt,aB,_,0,rfl,cu.of bc,jY.sq (.inr sB),?_];cases e with
  |none =>
   show#[1,0,cq ?_];show#[2,_,I,#[y.p,y.fs,Y,(G,none)::y.t],rfl,R6,a4,a3,am,bd,ab.lay bi,by rw[K4,a2],as,λj J h'=>?_,br,bn,ad];let h':Tb.look ((G,none)::y.t) j=some J:=h';rw[Tb.aY]at h';cases z:G=j
   .rw[WQ z]at h';cases h';rw[<-z];show bb
   .rw[WO z]at h';show a1 j J h'
  |some k =>
   show#[1,0,dR ?_];let#[b2,c1]:=R6.ob;let#[b3,cS]:=R6.pg.ob;let#[cs,cc,hv]:=ab.is k (L8 _ (lK hx he));let#[b0,n0,hk,_,_]:=id hv;show#[0,a.rp,c.C,b2,_,0,c1,T.cl,T.nP,m4 _ _ _,a.A.pg,b3,0,cS,dh _ _ aq aq aq aq aq,0,tt,_,(1),0,rfl,cu.of bc,4,a.A,I,k,b0,n0,cs,cc,rfl,R6.L6 ab,hk,hv,λH7 G7 O7=>?_];let sm:=λJ=>Pg.xb (es:=[J]) ab.good hk hv J (oR.mpr rfl);let bp:∀b,((Pg.cU I b0 n0 (cc+1)).ow b).length=(I.ow b).length:=λb=>Pg.eU b;show#[2,2,#[y.p,y.fs,Y,(G,some k)::y.t],rfl,R6.l8 G7 O7 bp,a4.off O7 am (λb z w=>(a3 b z).2.1 (.inl w)) R6.pg.tL,a3,am,bd,ab.share hk hv bi,by rw[K4,a2],as.keep λJ _=>sm J,λj J h'=>?_,br.trans (R6.LG G7 O7),O7 _ _ bn (λz=>b8 (.inl z)),λb=>(bp b).trans (ad b)];let h':Tb.look ((G,some k)::y.t) j=some J:=h';rw[Tb.aY]at h';cases z:G=j
   .rw[WQ z]at h';cases h';rw[<-z];show sm _ _ bb
   .rw[WO z]at h';show sm _ _ (a1 j J h')
 .rintro σ H4 ⟨v6,v7,N,I,y,rfl,U,T4,L,am,aD,ab,a2,as,a1,ac,a6,ad⟩;rw[k9,Pj]at aD;let hy:∀j,Tb.look y.t j=Tb.look x.t j:=λj=>by
   rw[aD j];cases z:j∈ns
   .rw[WQ z]
   .rw[WO z];cases w:Tb.look x.t j with
    |none=>rfl
    |some e=>show absurd ((TX.mem pm j).mpr (by rw[w];simp)) z
  let#[c0,ch]:=U.ob;show#[0,0,a.rp,c.C,c0,_,0,ch,T.cl,T.nR,cI _ _ _,0,a.rd,0,iz.k (k:=t6 o) U.hd (by rw[Tb.cA];omega),?_];rw[show(V.ref y.p)=fR y from rfl,Tb.cX aT];let R5:=U.DK aT T4 (λb z=>#[(L b z).1,(L b z).2.1]) am;show q _ N I y hy R5 (by rw[vq];show ab.perm QZ) ?_ #[?_,ac.mm,ac.mn,λb z=>?_,R.mt,R.fU] ad
  .intro t' x' h' j J be;rw[Tb.eG t' aT]at h';unfold Cd;cases z:t'=o
   .rw[WQ z]at h' ⊢;cases h';show a1 j J be
   .rw[WO z]at h' ⊢;show as t' x' h' j J be
  .intro b u e z;rw[aj (λw=>z (.inr (.inl w)))];show ac.off b u e z
  .rcases z with z|z|⟨x',ap,z⟩
   .show .inl (.inl z)
   .show .inl (.inr (.inl z))
   .rcases qj.mp ap with ap|ap
    .show .inl (.inr (.inr #[x',ap,z]))
    .rw[oR.mp ap]at z;show .inr (L b z).2.2.1
abbrev wN:Oz:=inClass (top 35) 0
abbrev xM:Oz:=inClass (top 54) 0
def s0(nf ns:Nat):Pg.PS:=#[λb=>replicate (if b=true then nf else ns) 0,λb=>replicate (if b=true then nf else ns) none,λ_=>none,(0),[]]
theorem KH{nf ns:Nat}(h:0<nf):Pg.RI (s0 nf ns) []:=by
 let I:∀(b:Bool)(n:Nat)(c:Int),((s0 nf ns).ow b)[n]?=some c->c=0:=λb n c e=>by
  let e:(replicate (if b=true then nf else ns) (0:Int))[n]?=some c:=e;show(List.mem_replicate.mp (wh e)).2
 let F:∀n:Nat,(replicate n (0:Int)).sum=0:=λn=>by
  induction n with
  |zero=>rfl
  |succ n G=>rw[PU,Qg,G];rfl
 show#[#[(λk p e=>by cases e),(λk b n e=>by cases e),(λk j p e=>by cases e),λb n c e=>.inl (I b n c e),λb=>?_,Qr,λk=>#[(λz=>by cases z),(λ⟨n,e⟩=>by cases e)]],OX _,λe=>?_,(λk z=>by cases z),λk cs c z=>?_,?_,OC _]
 .change(replicate _ _).length=(replicate _ _).length;rw[OS,OS]
 .have:(replicate nf (0:Int)).length=0:=(by rw[show replicate nf (0:Int)=[]from e];rfl);rw[OS]at this;omega
 .let#[b,n,e,_]:=z;cases e
 .change(replicate nf (0:Int)).sum+(replicate ns (0:Int)).sum=0;rw[F,F];rfl
def PA.nine(A:PA):List Addr:=[A.pg,A.fp,A.fo,A.fc,A.sp,A.so,A.sc,A.pd,A.il]
inductive sX(C CS:Addr)(v:XD)(H:Hp)(Q:VK)(e:XK):Prop
 |mk(p dx:Addr)(nf ns:Nat)(_:v=[.ref p,.int nf,.int ns])(_:nf<=60)(_:ns<=60)(_:H p=some (.ins C dx []))(_:∀(H':Hp)(A:PA),A.pg=p->A.nine.Nodup->(∀b∈A.nine,b=p\/H b=none)->(∀M,cm C CS H' M A (s0 nf ns))->Off (· = p) H H'->Q .non H')
inductive uT(c:CA)(v:XD)(H:Hp)(Q:VK)(e:XK):Prop
 |mk(p dx:Addr)(nf ns:Nat)(_:v=[.ref p,.int nf,.int ns])(_:nf<=60)(_:ns<=60)(_:0<nf)(_:H p=some (.ins c.C dx []))(_:∀(H':Hp)(M:WR)(a:RA),a.rp=p->az c H' M a (s0 nf ns) []->(∀b,M b->H b=none)->Off (· = p) H H'->Q .non H')
theorem cY{H:Hp}{a b:Addr}{o:HO}(h:upd H a o b=none):b≠a/\H b=none:=by
 cases z:b=a
 .rw[z,ae]at h;cases h
 .rw[aj z]at h;show#[z,h]
theorem jo{C p ow co:Addr}{B:WR}{os:W5}{pg:List (Option (List Int))}{H H':Hp}(S:∀M,bj C H M p ow co os pg)(o:Off B H H')(I:¬ B p)(F:¬ B ow)(G:¬ B co):∀M,bj C H' M p ow co os pg:=λM =>
 ((S λb=>M b\/B b).off o (λb z=>.inr z) I F G).less λb z=>.inl z
theorem jB{C CS p dx q ow co:Addr}{fs:List (Str×V)}{os:W5}{pg:List (Option (List Int))}{H:Hp}(F:H p=some (.ins C dx fs))(S:∀M,bj CS H M q ow co os pg):∀b,b=p\/b=q\/b=ow\/b=co->H b≠none:=by
 intro b z e;let S:=S λ_=>False;let#[I,h2]:=S.ob;let#[_,G,_]:=S.hc;rcases z with z|z|z|z<;>rw[z]at e
 .rw[F]at e;cases e
 .rw[h2]at e;cases e
 .rw[S.hw]at e;cases e
 .rw[G]at e;cases e
theorem pb{C CS:Addr}{H:Hp}{M:WR}{A:PA}{s:Pg.PS}(G:cm C CS H M A s):∀b∈A.nine,H b≠none:=by
 intro b z e;unfold PA.nine at z;simp only[t7,vr,or_false]at z;let#[dx,h1]:=G.ob;let#[_,N]:=G.fr.ob;let#[_,L]:=G.sl.ob;let#[_,J,_]:=G.fr.hc;let#[_,F,_]:=G.sl.hc;let#[l,I,_]:=G.pd;rcases z with z|z|z|z|z|z|z|z|z<;>rw[z]at e
 .rw[h1]at e;cases e
 .rw[N]at e;cases e
 .rw[G.fr.hw]at e;cases e
 .rw[J]at e;cases e
 .rw[L]at e;cases e
 .rw[G.sl.hw]at e;cases e
 .rw[F]at e;cases e
 .rw[I]at e;cases e
 .rw[G.il]at e;cases e
theorem Mw:aE ["self","frames","slots"] ["self","frames","slots"] (aw wN):=L2.bW
theorem DF{f C CS bl:Addr}{fd bc:pa}(F:cD K "__init__" "Paging.__init__" wN f fd)(T:qP K mg C)(MS:Mk K CS bl)(bp:mg "Store" = some (.ref CS))
  (bm:↥aX 1 bl bc ["self","many"] (ja CS)) (bi:Binds K bc ["self","many"] []):↥aX 3 f fd ["self","frames","slots"] (sX C CS):=by
 show F.dU Mw ?_;intros;let#[p,dx,nf,ns,rfl,n1,n2,hp,k]:=h;show#[_,(ai (gK (pv 0) (oz MS bm (hr.mono ao) (by rfl) bp bi .nil ax (aa (pv 1) af)) rfl)
  (ai (gK (pv 0) (oz MS bm (hr.mono ao) (by rfl) bp bi .nil ax (aa (pv 2) af)) rfl)
  (ai (gK (pv 0) dJ rfl)
  (ai (gK (pv 0) ah rfl)
  (ak (gK (pv 0) (bz af) rfl)))))),?_]
 show#[0,λfp bx aD br bN=>#[fp,bx,nf,rfl,n1,ae,λU O H1 ab Y bt S1 o1=>#[5]]];let m1:aO H H1:=λb u e=>o1 b u (by rw[aj (av e aD),aj (av e br)];show e) (av e aD);let#[q1,ab]:=cY ab;let#[q2,Y]:=cY Y;let ab:=(cY ab).2;let Y:=(cY Y).2;let bA:=m1 _ _ hp;let ap:fp≠p:=ro (av hp aD);let am:U≠p:=ro (av hp ab);let ad:O≠p:=ro (av hp Y);clear o1 br bN;show#[0,p,C,dx,[],rfl,bA,T.cl,T.nF,ao,?_];let o2:Off (· = p) H1 (upd H1 p (.ins C dx (bM "frames" (.ref fp) []))):=Off.wr rfl;let a9:upd H1 p (.ins C dx (bM "frames" (.ref fp) [])) p=some (.ins C dx (bM "frames" (.ref fp) [])):=ae;generalize upd H1 p (.ins C dx (bM "frames" (.ref fp) []))=H2 at *;let S2:=jo S1 o2 ap am ad;let O2:Off (· = p) H H2:=λb o e z=>o2 b o (m1 b o e) z;show#[0,λsp bV a7 a8 bv=>#[sp,bV,ns,rfl,n2,ae,λso sc H3 as ac b0 S3 o3=>#[5]]];let m3:aO H2 H3:=λb u e=>o3 b u (by rw[aj (av e a7),aj (av e a8)];show e) (av e a7);let#[q3,as]:=cY as;let#[q4,ac]:=cY ac;let as:=(cY as).2;let ac:=(cY ac).2;clear o3 a8 bv;let aB:∀b,b=p\/b=fp\/b=U\/b=O->H2 b≠none:=jB a9 S2;let bY:=jo (B:=λ_=>False) S2 (λb o e _=>m3 b o e) id id id;let bI:=m3 _ _ a9;show#[0,p,C,dx,0,bI,T.cl,T.nS,by change 1<1000;decide,?_];let a6:∀{b},H2 b=none->b≠p/\b≠fp/\b≠U/\b≠O/\H b=none:=λ{b} h=>#[λz=>aB b (.inl z) h,λz=>aB b (.inr (.inl z)) h,λz=>aB b (.inr (.inr (.inl z))) h,λz=>aB b (.inr (.inr (.inr z))) h,by
  cases e:H b with
  |none=>rfl
  |some u=>rwa[O2 b u e λz=>aB b (.inl z) h]at h]
 let#[a1,a2,a3,a4,a5]:=a6 a7;let#[b1,b2,b3,b4,b5]:=a6 as;let#[c1,c2,c3,c4,c5]:=a6 ac;let o4:Off (· = p) H3 (upd H3 p (.ins C dx (bM "slots" (.ref sp) (bM "frames" (.ref fp) [])))):=Off.wr rfl;let a0:upd H3 p (.ins C dx (bM "slots" (.ref sp) (bM "frames" (.ref fp) []))) p=some (.ins C dx (bM "slots" (.ref sp) (bM "frames" (.ref fp) []))):=ae;generalize upd H3 p (.ins C dx (bM "slots" (.ref sp) (bM "frames" (.ref fp) [])))=R at *;let bn:=jo bY o4 ap am ad;let bb:=jo S3 o4 a1 b1 c1;let O4:Off (· = p) H R:=λb o e z=>o4 b o (m3 b o (O2 b o e z)) z;let bB:∀{b},R b=none->b≠p/\b≠fp/\b≠U/\b≠O/\b≠sp/\b≠so/\b≠sc/\H b=none:=λ{b} h=>by
  let N:=jB a0 bn;let S:=jB a0 bb;show#[λz=>N b (.inl z) h,λz=>N b (.inr (.inl z)) h,λz=>N b (.inr (.inr (.inl z))) h,λz=>N b (.inr (.inr (.inr z))) h,λz=>S b (.inr (.inl z)) h,λz=>S b (.inr (.inr (.inl z))) h,λz=>S b (.inr (.inr (.inr z))) h,?_];cases e:H b with
  |none=>rfl
  |some u=>rwa[O4 b u e λz=>N b (.inl z) h]at h
 intro I ba;let#[d1,d2,d3,d4,d5,d6,d7,d8]:=bB ba;show#[0,p,C,dx,0,by rw[aj (ro d1)];show a0,T.cl,T.nP,by change 2<1000;decide,?_];show#[0,p,C,dx,0,ae,T.cl,T.nL,by change 3<1000;decide,?_];let o7:Off (· = p) R (upd (upd (upd R I (.dK [])) p (.ins C dx (bM "places" (.ref I) (bM "slots" (.ref sp) (bM "frames" (.ref fp) []))))) p (.ins C dx (bM "last_sheet" (.int 0) (bM "places" (.ref I) (bM "slots" (.ref sp) (bM "frames" (.ref fp) [])))))):=λb o e z=>by
  rw[aj z,aj z,aj (av e ba)];show e
 let aT:upd (upd (upd R I (.dK [])) p (.ins C dx (bM "places" (.ref I) (bM "slots" (.ref sp) (bM "frames" (.ref fp) []))))) p (.ins C dx (bM "last_sheet" (.int 0) (bM "places" (.ref I) (bM "slots" (.ref sp) (bM "frames" (.ref fp) []))))) p=some (.ins C dx (bM "last_sheet" (.int 0) (bM "places" (.ref I) (bM "slots" (.ref sp) (bM "frames" (.ref fp) []))))):=ae;let be:upd (upd (upd R I (.dK [])) p (.ins C dx (bM "places" (.ref I) (bM "slots" (.ref sp) (bM "frames" (.ref fp) []))))) p (.ins C dx (bM "last_sheet" (.int 0) (bM "places" (.ref I) (bM "slots" (.ref sp) (bM "frames" (.ref fp) []))))) I=some (.dK []):=(by rw[aj d1,aj d1,ae]);generalize upd (upd (upd R I (.dK [])) p (.ins C dx (bM "places" (.ref I) (bM "slots" (.ref sp) (bM "frames" (.ref fp) []))))) p (.ins C dx (bM "last_sheet" (.int 0) (bM "places" (.ref I) (bM "slots" (.ref sp) (bM "frames" (.ref fp) [])))))=H7 at *;let bd:=jo bn o7 ap am ad;let bg:=jo bb o7 a1 b1 c1;let O7:Off (· = p) H H7:=λb o e z=>o7 b o (O4 b o e z) z;show#[ao,λG L=>?_];let N:=jB aT bd;let S:=jB aT bg;let i1:G≠p:=λz=>N G (.inl z) L;let i2:G≠fp:=λz=>N G (.inr (.inl z)) L;let i3:G≠U:=λz=>N G (.inr (.inr (.inl z))) L;let i4:G≠O:=λz=>N G (.inr (.inr (.inr z))) L;let i5:G≠sp:=λz=>S G (.inr (.inl z)) L;let i6:G≠so:=λz=>S G (.inr (.inr (.inl z))) L;let i7:G≠sc:=λz=>S G (.inr (.inr (.inr z))) L;let i8:G≠I:=λz=>(by rwa[z,be]at L);let i9:H G=none:=by
  cases e:H G with
  |none=>rfl
  |some u=>rwa[O7 G u e i1]at L
 show#[0,p,C,dx,0,by rw[aj (ro i1)];show aT,T.cl,T.nI,by change 4<1000;decide,?_];let o9:Off (· = p) H7 (upd (upd H7 G (.lst [])) p (.ins C dx (dC #[p,fp,U,O,sp,so,sc,I,G] 0))):=λb o e z=>by
  rw[aj z,aj (av e L)];show e
 show k _ #[p,fp,U,O,sp,so,sc,I,G] rfl ?_ ?_ (λM=>#[#[dx,ae],jo bd o9 ap am ad M,jo bg o9 a1 b1 c1 M,3,[],?_,Qr,(λx hx=>by cases hx),λ_=>rfl,OC _]) (λb o e z=>o9 b o (O7 b o e z) z)
 .unfold PA.nine;simp only[Ot,t7,vr,or_false,not_or,not_false_eq_true,Qr,and_true];show#[#[λh=>ap h.symm,λh=>am h.symm,λh=>ad h.symm,λh=>a1 h.symm,λh=>b1 h.symm,λh=>c1 h.symm,λh=>d1 h.symm,λh=>i1 h.symm],#[λh=>q1 h.symm,λh=>q2 h.symm,λh=>a2 h.symm,λh=>b2 h.symm,λh=>c2 h.symm,λh=>d2 h.symm,λh=>i2 h.symm],#[λh=>(ro bt) h.symm,λh=>a3 h.symm,λh=>b3 h.symm,λh=>c3 h.symm,λh=>d3 h.symm,λh=>i3 h.symm],#[λh=>a4 h.symm,λh=>b4 h.symm,λh=>c4 h.symm,λh=>d4 h.symm,λh=>i4 h.symm],#[λh=>q3 h.symm,λh=>q4 h.symm,λh=>d5 h.symm,λh=>i5 h.symm],#[λh=>(ro b0) h.symm,λh=>d6 h.symm,λh=>i6 h.symm],#[λh=>d7 h.symm,λh=>i7 h.symm],λh=>i8 h.symm]
 .intro b J;unfold PA.nine at J;simp only[t7,vr,or_false]at J;rcases J with J|J|J|J|J|J|J|J|J<;>rw[J]
  .show .inl rfl
  .show .inr aD
  .show .inr ab
  .show .inr Y
  .show .inr a5
  .show .inr b5
  .show .inr c5
  .show .inr d8
  .show .inr i9
 .change upd (upd H7 G (.lst [])) p _ G=_;rw[aj i1,ae];rfl
 .intro b;change(replicate _ _).length<=60;rw[OS];cases b
  .show n2
  .show n1
 .change upd (upd H7 G (.lst [])) p _ I=_;rw[aj d1,aj (ro i8)];show be
theorem Nz:aE ["self","frames","slots"] ["self","frames","slots"] (aw xM):=L2.bW
theorem Cu{f aD:Addr}{fd ad:pa}{c:CA}(F:cD K "__init__" "Rooms.__init__" xM f fd)(T:ku K mg c)(MP:Mk K c.P aD)(a5:mg "Paging" = some (.ref c.P))
  (a4:↥aX 3 aD ad ["self","frames","slots"] (sX c.P c.S)) (aT:Binds K ad ["self","frames","slots"] []):↥aX 5 f fd ["self","frames","slots"] (uT c):=by
 show F.dU Nz ?_;intros;let#[p,dx,nf,ns,rfl,n1,n2,n3,hp,k]:=h;show#[_,(ai (gK (pv 0) (oz MP a4 (hr.mono ao) (by rfl) a5 aT .nil ax (aa (pv 1) (aa (pv 2) af))) rfl)
  (ai (gK (pv 0) (ar aZ (pv 1) (pv 2)) rfl)
  (ak (gK (pv 0) dJ rfl)))),?_]
 show#[0,0,λpg a2 U a0 a9=>#[pg,a2,nf,ns,rfl,n1,n2,ae,λH1 G eA a6 as GA o1=>#[5]]];let Y:aO H H1:=λb u e=>o1 b u (by rw[aj (av e U),aj (av e a0)];show e) (av e U);let fr:∀b∈G.nine,H b=none:=λb O=>by
  rcases as b O with h|h
  .rw[h];show U
  .show(cY (cY h).2).2
 let am:=Y _ _ hp;clear o1 as;show#[0,p,c.C,dx,[],rfl,am,T.cl,T.nP,ao,?_];show#[0,0,_,0,5];show#[0,p,c.C,dx,0,ae,T.cl,T.nT,by change 1<1000;decide,?_];rw[<-eA];let N:Off (· = p) H1 (upd (upd H1 p (.ins c.C dx (bM "paging" (.ref G.pg) []))) p (.ins c.C dx (bM "total" (.int ((nf:Int)+ns)) (bM "paging" (.ref G.pg) [])))):=λb o e z=>(by rw[aj z,aj z];show e);let ap:upd (upd H1 p (.ins c.C dx (bM "paging" (.ref G.pg) []))) p (.ins c.C dx (bM "total" (.int ((nf:Int)+ns)) (bM "paging" (.ref G.pg) []))) p=some (.ins c.C dx (bM "total" (.int ((nf:Int)+ns)) (bM "paging" (.ref G.pg) []))):=ae;generalize upd (upd H1 p (.ins c.C dx (bM "paging" (.ref G.pg) []))) p (.ins c.C dx (bM "total" (.int ((nf:Int)+ns)) (bM "paging" (.ref G.pg) [])))=L at *;intro rd J;let R:rd≠p:=ro (av ap J);show#[0,p,c.C,dx,0,by rw[aj (ro R)];show ap,T.cl,T.nR,by change 2<1000;decide,?_];let o5:Off (· = p) H1 (upd (upd L rd (.dK [])) p (.ins c.C dx (gj G.pg ((nf:Int)+ns) rd))):=λb o e z=>(by rw[aj z,aj (av (N b o e z) J)];show N b o e z);let ab:∀b∈G.nine,b≠p:=λb O z=>(by rw[z]at O;have:=fr p O;rwa[hp]at this);let ac:∀b,G.own b->b∈G.nine:=λb h=>by
  unfold PA.own at h;unfold PA.nine;simp only[t7,vr,or_false]at h ⊢;rcases h with h|h|h|h|h|h|h<;>simp[h]
 let n9:∀i {b},G.nine[i]?=some b->b≠p:=λi b h=>ab b (wh h);let G5:∀M,cm c.P c.S (upd (upd L rd (.dK [])) p (.ins c.C dx (gj G.pg ((nf:Int)+ns) rd))) M G (s0 nf ns):=λM=>(GA λb=>M b\/b=p).move o5 (λb z=>.inr z) (λb z=>.inl (.inl z)) (λb z=>ab b (ac b z)) (n9 1 rfl) (n9 4 rfl) (λb xs e z=>by rwa[z,am]at e);let a1:upd (upd L rd (.dK [])) p (.ins c.C dx (gj G.pg ((nf:Int)+ns) rd)) p=some (.ins c.C dx (gj G.pg ((nf:Int)+ns) rd)):=ae;let aB:upd (upd L rd (.dK [])) p (.ins c.C dx (gj G.pg ((nf:Int)+ns) rd)) rd=some (.dK []):=(by rw[aj R,ae]);let EZ:¬ rd∈G.nine:=λz=>by
  let a3:=pb (GA λ_=>False) rd z;cases e:H1 rd with
  |none=>show a3 e
  |some u=>rwa[N _ _ e R]at J
 let a8:H rd=none:=by
  cases e:H rd with
  |none=>rfl
  |some u=>rwa[N _ _ (Y _ _ e) R]at J
 let a7:Off (· = p) H (upd (upd L rd (.dK [])) p (.ins c.C dx (gj G.pg ((nf:Int)+ns) rd))):=λb o e z=>o5 b o (Y b o e) z;show k _ (λb=>b∈G.nine\/b=rd) #[G,p,rd] rfl #[#[dx,?_],G5 _,#[a6,λx I=>.inl I],λb z=>?_,aB,Qr,(λx I=>by cases I),(λx I=>by cases I),(λx I=>by cases I),(λx I=>by cases I),.inr rfl,λz=>EZ (ac _ z),λz=>ab _ (ac _ z) rfl] (λb z=>z.elim (fr b) λz=>by rw[z];show a8) a7
 .let e:cj (s0 nf ns)=(nf:Int)+ns:=by
   unfold cj;rw[show((s0 nf ns).ow true).length=nf from OS,show((s0 nf ns).ow false).length=ns from OS];omega
  rw[e];show a1
 .rcases z with z|z
  .show pb (G5 λ_=>False) b z
  .intro w;rw[z]at w;show absurd (aB.symm.trans w) (by simp)
end St
namespace HT
open PySem PySem.Spec PyProof.Rows
section
variable{prog:rn}{A:Oj}{E:WV}{s:k8}
theorem lM{t sl:Addr}{items:WZ}{G J:Value}{lo hi:W8}{Q:WV}(F:IsTup s.heap t items)(hs:s.heap.IsSliceOf sl G J .none)(pl:Tq G lo)(N:Tq J hi)
  (I:dY items.size 0 lo=0/\dY items.size items.size hi=items.size) (h:Q (.ref t) s):wpAny (model prog w) A (RD (.ref t) (.ref sl)) Q E s:=by
 let#[os,O,S,U]:=id hs;let L:s.TypeIs (.ref sl) "slice" := #[os,O,S];unfold RD
 try with_reducible show Pm ?_
 first|show nq (wpAny_pure ?_)|skip
 show nq (U1 F.typeIs ao ?_);show nq (S0 (name:=Str.ofString "__getitem__") F.typeIs ON
  (QX ON F.typeIs Um ?_ (UC _ _)))
 change wpAny _ _ (Builtin.Tuple.tupleItemsOf (.ref t)>>=_) _ _ s;show nq (tupleItemsOf_ F ?_);show nq (Tr L ?_);rw[WQ ao];show nq (ip hs pl N ?_);let R:(((dY items.size 0 lo:Nat):Int)==0&&(1:Int)==1&&(dY items.size items.size hi-dY items.size 0 lo)==items.size)=true:=by
  rw[I.1,I.2];simp
 change wpAny _ _ (if (((dY items.size 0 lo:Nat):Int)==0&&(1:Int)==1&&(dY items.size items.size hi-dY items.size 0 lo)==items.size)=true then _ else _) _ _ s;rw[WQ R];unfold Builtin.Tuple.tupleIsExact;show nq (nq (Tr F.typeIs (wpAny_pure ?_)));rw[WQ ao];show nq (QP ?_);show wpAny_pure #[0,wpAny_pure h]
end
end HT
namespace L2
open PySem PySem.Spec PyProof.Rows
inductive Gw(K:HC)(x:V)(lo:W8)(hi:W8)(H:Hp)(Q:VK):Prop
 |mk(a:_)(xs:_)(_:x=.ref a)(_:cu K H a xs)(_:((HT.dY xs.length 0 lo=0/\HT.dY xs.length xs.length hi=xs.length)->Q (.ref a) H))(_:(¬ (HT.dY xs.length 0 lo=0/\HT.dY xs.length xs.length hi=xs.length)->∀p,H p=none->Q (.ref p) (upd H p (.tup (gv xs lo hi)))))
theorem kY{X:Cx}:Ln X (Gw X.K):=by
 intros x v R U lo hi sl Q I L hs pl F h;let#[a,xs,rfl,J,O,N]:=h;cases c:HT.dY xs.length 0 lo=0/\HT.dY xs.length xs.length hi=xs.length
 .cases L;let#[its,r,G,Y]:=I.tuple J;let S:its.toArray.size=xs.length:=(by rw[qs];show r.length.symm);show#["tuple",_,ON.lookup,G.typeIs,?_];show HT.lM G hs pl F (by rw[S];show c) #[.ref a,H,I,rfl,O c]
 .show Jo pins s σ H (.ref a) v R U lo hi sl Q I L hs pl F #[a,xs,rfl,J,c,N c]
theorem AQ{a:Addr}{o:Obj}{kvs:XE}{g:TG}{tb:TS}{D:Ends}{σ:St}{H:Hp}(Pv:Nat->St->Hp->Prop)(S:Pv 0 σ H)(L:∀i σ H,i<=kvs.length->Pv i σ H->H a=some (.frz o (.dK kvs)))
  (hs:∀i k v σ H T,kvs[i]?=some (k,v)->H T=none->Pv i σ H->g (.ref T) σ (upd H T (.tup [kV k,v])) λI H2=>tb { D with nx:=Pv (i+1),ct:=Pv (i+1),bk:=D.nx } I H2) (hd:∀σ H,Pv kvs.length σ H->D.nx σ H) :
  ∃W:Nat->Nat->St->Hp->Prop,(∃m,W 0 m σ H)/\∀i m σ H,W i m σ H ->
   ((JP a o kvs).stop i H/\D.nx σ H)\/((JP a o kvs).go i H/\∃N:St->Hp->Prop,(∀G H',N G H'->∃J,J<m/\W (i+1) J G H')/\∀x H',(JP a o kvs).Ex i H x H'->g x σ H' λI H2=>tb { D with nx:=N,ct:=N,bk:=D.nx } I H2):=by
 show#[λi m σ H=>m=kvs.length-i/\i<=kvs.length/\Pv i σ H,#[kvs.length,by simp,OC _,S],?_];rintro i m σ H ⟨rfl,hi,p⟩;let q:=L i σ H hi p;cases F:i<kvs.length
 .show .inr #[#[q,F],Pv (i+1),λG H' U=>#[kvs.length-(i+1),Pd (PR kvs) i F,rfl,F,U],?_];rintro v H' ⟨T,k,x,rfl,R,O,rfl⟩;show hs i k x σ H T O R p
 .let e:i=kvs.length:=ag;subst e;show .inl #[#[q,rr _],hd σ H p]
theorem xw{a:Addr}{o:Obj}{kvs:XE}{caps:List (Str×Nat)}{te:TE}{σ:St}{H:Hp}{I:List V->Hp->Prop}(Pv:Nat->List V->Hp->Prop)(O:Pv 0 [] H)
  (J:∀i zs H,i<=kvs.length->Pv i zs H->H a=some (.frz o (.dK kvs)))
  (hs:∀i k v zs H,kvs[i]?=some (k,v)->Pv i zs H->te (lF caps σ (some v)) H (λz L=>zs.length<sizeLine/\Pv (i+1) (zs++[z]) L))
  (hd:∀zs H,Pv kvs.length zs H->I zs H):∃W:Nat->Nat->List V->Hp->Prop,(∃m,W 0 m [] H)/\jv caps qY te σ (LO a o kvs) I W:=by
 show#[λi m zs H=>m=kvs.length-i/\i<=kvs.length/\Pv i zs H,#[kvs.length,by simp,OC _,O],?_];rintro i m zs H ⟨rfl,hi,p⟩;let G:=J i zs H hi p;cases F:i<kvs.length
 .show .inr #[#[G,F],Pv (i+1),λS H' R=>#[kvs.length-(i+1),Pd (PR kvs) i F,rfl,F,R],?_];rintro v H' ⟨rfl,k,N⟩;unfold qY;dsimp only;rw[WQ rfl];show hs i k v zs H' N p
 .let e:i=kvs.length:=ag;subst e;show .inl #[#[G,rr _],hd zs H p]
section
variable{X:Cx}
theorem wX:dS X (.type "dict") (λxs H Q=>∃(d:Addr)(kvs:XE),xs=[.ref d]/\H d=some (.dK kvs)/\∀a,H a=none->Q (.ref a) (upd H a (.dK kvs))):=by
 intros xs us Q I r h;let#[d,kvs,rfl,hd,q]:=h;let#[u,rfl,ru]:=vals1 r;obtain rfl:u=Value.ref d:=ru;let#[L,N,vs,F,dd]:=iu I.bV hd;let O:=F.length;show kt_call_dict (knd:=bR X.prog X.w) N dd ag λh' G J=>?_;show#[.ref s⁻¹,_,I.laid (t':=s.toks) (h':=h') (λb o e=>?_) (rr _) (pG L ?_ F G),rfl,q _ I.fresh]
 .show(J.2 b (OI (Heap.lt_size e))).trans (Heap.get?_push_of_some _ e)
 .show beq_false_of_ne (UT I.big)
theorem range_any(bs:List Bool):((Ox bs.length).any λi=>(bs[i]?).getD true)=bs.any id:=by
 rw[QF,Ry,Ry];constructor
 .rintro⟨i,hi,e⟩;let F:=O0.mp hi;rw[L1 F,Vi]at e;show#[_,Py F,e]
 .rintro⟨b,I,e⟩;let#[i,hi,G]:=Qs I;show#[i,O0.mpr hi,?_];rw[L1 hi,Vi,G];show e
theorem Jh:OE "any" = some (.builtin "any"):=aq
theorem Ae(S:X.calm=true):dS X (.builtin "any") (λxs H Q=>∃(l:Addr)(bs:List Bool),xs=[.ref l]/\bD X.K H l (bs.map V.bl)/\Q (.bl (bs.any id)) H):=by
 intros xs us Q I r h;let#[l,bs,rfl,Y,q]:=h;let#[u,rfl,ru]:=vals1 r;obtain rfl:u=Value.ref l:=ru;let#[its,rv,p,_]:=I.list Y;let U:=tX rv;subst U;let J:=p.isList;let ab:l<s⁻¹:=let ⟨_,e,_⟩:=J;Heap.lt_size e;show call_any_walk (SH J ?_);show#[s⁻¹,[s⁻¹,l],[s⁻¹],(bs.map Value.bool).toArray.size,2,λi=>(bs[i]?).getD true,rfl,WN (A:=X.A.in1) (I.ok.hd S) _ l (OI ab) (bs.map Value.bool).toArray,
  #[#[_,Heap.get?_push_size _ rfl,1],J.push _],λi v s' Q' E' R L=>?_,λh' tk hk=>?_]
 .let O:(bs.map Value.bool).toArray[i]?=some v:=R;let F:(bs.map Value.bool)[i]?=some v:=‹O›;rw[t4]at F;cases G:bs[i]? with
  |none=>rwa[G]at F
  |some b =>
   rw[G]at F;let N:Value.bool b=v:=sS F;subst N;simp only[G,Vi]at L;show PZ L
 .let e:((Ox (bs.map Value.bool).toArray.size).any λi=>(bs[i]?).getD true)=bs.any id:=by
   rw[qs,k9];show range_any bs
  rw[e];show#[.bl _,H,I.kept (Wg hk),rfl,q]
def J4:z9:=λo i v H Q=>∃a H',o=.ref a/\iz H a i v H'/\Q H'
theorem set_dict(F:X.A.units+1<QG):FA X J4:=by
 intros o i v ov O u Q I J N L h;let#[a,H',rfl,g,q]:=h;obtain rfl:ov=Value.ref a:=J;show rF F I g N L λs' G=>#[H',G,q]
end
end L2
namespace Lw
open PySem L2 St
abbrev yL:Oz:=top 56
abbrev tJ:Oz:=top 57
abbrev qt:Oz:=top 59
abbrev wY:Oz:=top 61
abbrev yV:Oz:=top 62
abbrev qD:Oz:=top 63
abbrev Hv:Oz:=top 64
abbrev DJ:Oz:=top 65
abbrev nQ:Oz:=top 66
abbrev yJ:Oz:=top 67
structure mj(mg:WW):Prop where
 range:mg "range" = none
 enumerate:mg "enumerate" = none
 sum:mg "sum" = none
 int:mg "int" = none
 vL:mg "isinstance" = none
 min:mg "min" = none
 max:mg "max" = none
 list:mg "list" = none
 len:mg "len" = none
 dict:mg "dict" = none
 bool:mg "bool" = none
 tuple:mg "tuple" = none
 sorted:mg "sorted" = none
 all:mg "all" = none
 any:mg "any" = none
inductive uh(vs:XD)(H:Hp)(Q:VK)(e:XK):Prop
 |mk(c k:Int)(_:vs=[.int c,.int k])(_:∀v:Int,0<=v/\v<10^40->Q (.int v) H)
inductive qH(K:HC)(vs:XD)(H:Hp)(Q:VK)(e:XK):Prop
 |mk(a:Addr)(ns:W5)(k:Nat)(_:vs=[.ref a,.int k])(_:bD K H a (ns.map V.int))(_:ns.length<=100)(_:k<=100)(_:∀(v:Int)(H':Hp),0<=v/\v<10^40->aO H H'->Q (.int v) H')
inductive mP(v:XD)(H:Hp)(Q:VK)(e:XK):Prop
 |mk(m:Int)(n:Nat)(_:v=[.int m,.int n])(_:n<=100)(_:∀(cs:W5)(H':Hp)(l:Addr),cs.length=n->aO H H'->H l=none->H' l=some (.lst (cs.map V.int))->Q (.ref l) H')
def rC(m:Int):List Int:=[2,3,2+m/4%5,2+m/4%39]
def vj(m:Int):List Int:=[m/200%8,m/200%61,60]
def kB(m:Int):Nat:=((rC m).getD (m%4).toNat 0).toNat
def lO(m:Int):Nat:=((vj m).getD (m/9%3).toNat 0).toNat
theorem at_of{xs:W5}{i n:Int}(G:0<=i)(h1:i<n)(I:n=xs.length):xA (xs.map V.int) i=some (.int (xs.getD i.toNat 0))/\xs.getD i.toNat 0∈xs:=by
 obtain⟨j,rfl⟩:∃j:Nat,i=j:=#[i.toNat,ag];let F:j<xs.length:=ag;let e:xs.getD (toNat (j:Int)) 0=xs[j]:=(by simp[F]);rw[e];show#[jT (by rw[t4,L1 F];rfl),Py F]
theorem Cr(m:Int):xA ((rC m).map V.int) (m%4)=some (.int (kB m))/\2<=kB m/\kB m<=40:=by
 let#[h1,h2]:=at_of (xs:=rC m) (i:=m%4) (n:=4) ag ag rfl;let F:2<=(rC m).getD (m%4).toNat 0/\(rC m).getD (m%4).toNat 0<=40:=by
  unfold rC at h2 ⊢;simp only[t7,vr,or_false]at h2;rcases h2 with h|h|h|h<;>rw[h]<;>omega
 let e:((kB m:Nat):Int)=(rC m).getD (m%4).toNat 0:=(by unfold kB;omega);rw[e];show#[h1,by unfold kB;omega,by unfold kB;omega]
theorem D6(m:Int):xA ((vj m).map V.int) (m/9%3)=some (.int (lO m))/\lO m<=60:=by
 let#[h1,h2]:=at_of (xs:=vj m) (i:=m/9%3) (n:=3) ag ag rfl;let F:0<=(vj m).getD (m/9%3).toNat 0/\(vj m).getD (m/9%3).toNat 0<=60:=by
  unfold vj at h2 ⊢;simp only[t7,vr,or_false]at h2;rcases h2 with h|h|h<;>rw[h]<;>omega
 let e:((lO m:Nat):Int)=(vj m).getD (m/9%3).toNat 0:=(by unfold lO;omega);rw[e];show#[h1,by unfold lO;omega]
inductive tI(v:XD)(H:Hp)(Q:VK)(e:XK):Prop
 |mk(m:Int)(_:v=[.int m])(_:∀(H':Hp)(t:Addr),aO H H'->H t=none->H' t=some (.tup [.int (kB m),.int (lO m)])->Q (.ref t) H')
theorem MO(x y:Int):DW (x%2305843009213693951) y:=by
 have:=Oq x (show(2305843009213693951:Int)≠0 by decide);have:=L0 x (show(0:Int)<2305843009213693951 by decide);show .inl #[ag,ag]
theorem NF(x y:Int):0<=x%2305843009213693951*1000000000000000000+y%2305843009213693921/\x%2305843009213693951*1000000000000000000+y%2305843009213693921<10^40:=by
 let a:=Oq x (show(2305843009213693951:Int)≠0 by decide);let b:=L0 x (show(0:Int)<2305843009213693951 by decide);let c:=Oq y (show(2305843009213693921:Int)≠0 by decide);let d:=L0 y (show(0:Int)<2305843009213693921 by decide);generalize x%2305843009213693951=u at *;generalize y%2305843009213693921=v at *;omega
theorem Kz(x y:Int):DW (x%2305843009213693907) y:=by
 have:=Oq x (show(2305843009213693907:Int)≠0 by decide);have:=L0 x (show(0:Int)<2305843009213693907 by decide);show .inl #[ag,ag]
theorem Mf:aE ["_law_cell","_law_k","_law_once","_law_twice"] ["_law_cell","_law_k"] (aw yL):=L2.bW
theorem BZ(F:cD K "_law_mixed" "_law_mixed" yL f fd):↥aX 1 f fd ["_law_cell","_law_k"] uh:=by
 show F.dU Mf ?_;intros;let#[c,j,rfl,k]:=h;show#[_,(ai (cK 2 Mf.nd (ar aM (ar eO (ar aZ (ar aZ (ar aM (pv 0) ah) (ar eO ah (pv 1))) ah) ah) ah))
  (ai (cK 2 Mf.nd (ar aM (ar eO (pv 2) (pv 2)) ah))
  (ai (cK 3 Mf.nd (ar aM (ar eO (ar aZ (ar aZ (pv 2) (ar eO ah (pv 1))) ah) ah) ah))
  (ak (aG (ar aZ (ar eO (ar aM (ar eO (pv 3) (pv 3)) ah) ah) (pv 2))))))),?_]
 show#[0,_,0,rfl,(XG 2305843009213693950),0,_,0,rfl,.inl #[ao,ao],_,0,4,0,4,0,rfl,.inr #[ao,ao],_,0,rfl,(XG 2305843009213693950),?_];show#[0,0,_,0,rfl,MO _ _,_,0,rfl,(XG 2305843009213693920),?_];show#[0,0,_,0,rfl,.inl #[ao,ao],_,0,4,0,4,0,rfl,.inr #[ao,ao],_,0,rfl,(XG 2305843009213693906),?_];show#[0,0,_,0,rfl,Kz _ _,_,0,rfl,(XG 2305843009213693950),_,0,rfl,.inr #[ao,ao],0,_,0,rfl,k _ (NF _ _)]
theorem Lx:aE ["_law_script","_law_k","_law_cell"] ["_law_script","_law_k"] (aw tJ):=L2.bW
theorem AB(F:cD K "_law_number" "_law_number" tJ f fd)(T:mj mg)(GM:↥Df 1 "_law_mixed" uh):↥aX 2 f fd ["_law_script","_law_k"] (qH K):=by
 show F.dU Lx ?_;intros;let#[a,ns,j,rfl,N,hn,hj,k]:=h;let hs:=ti;show#[_,(ai (cK 2 Lx.nd (aS bX (ar fK (cZ gD (pv 0) (de (pv 1)) (de (ar aZ (pv 1) ah))) (bz (aa (ar aZ (ar eO (pv 1) (pv 1)) ah) af))) ah cy))
  (ai (bo (aA bZ (ar aM (aL (pY rfl) (by rfl) T.sum yn (aa (cZ gD (pv 0) fw (de ah)) af)) ah) ah (aH _)) (ak (aG (ar aM (pv 2) (ar eX ah ah)))) aK)
  (ak (aG (pc GM hr ax (aa (pv 2) (aa (pv 1) af))))))),?_]
 show dv λ_ jt=>?_;let R:gv (ns.map V.int) (some (j:Int)) (some ((j:Int)+1))=((ns.drop j).take 1).map V.int:=Rm.tU (n:=1);show#[0,0,0,0,_,0,rfl,0,a,0,N,λp hp=>?_];change Lh _ _ (upd H p (.lst (gv (ns.map V.int) (some (j:Int)) (some ((j:Int)+1))))) _;rw[R];let U:=Tb.au (X:=.lst (((ns.drop j).take 1).map V.int)) hp;let h1:upd H p (.lst (((ns.drop j).take 1).map V.int)) p=some (.lst (((ns.drop j).take 1).map V.int)):=ae;generalize upd H p (.lst (((ns.drop j).take 1).map V.int))=H1 at *;show#[0,0,_,0,rfl,.inl #[ag,ag],_,0,rfl,m6,λp2 ab=>?_];let s2:=Tb.au (X:=.lst [V.int ((j:Int)*j+3)]) ab;show#[p,p2,_,0,rfl,s2 _ _ h1,ae,?_,λG ac=>?_]
 .rw[k9,Om];change min 1 _+1<=sizeLine;omega
 let s3:=Tb.au (X:=.lst (((ns.drop j).take 1).map V.int++[V.int ((j:Int)*j+3)])) ac;let Y:((ns.drop j).take 1).map V.int++[V.int ((j:Int)*j+3)]=((ns.drop j).take 1++[(j:Int)*j+3]).map V.int:=(by rw[IF];rfl);let I:=U.trans (s2.trans s3);let#[L,_]:=at_of (xs:=(ns.drop j).take 1++[(j:Int)*j+3]) (i:=0) (n:=((ns.drop j).take 1++[(j:Int)*j+3]).length) (OX _) (by rw[G1,OT];omega) rfl;rw[<-Y]at L;show#[G,_,(0),0,rfl,bD.of ae,L,jt _ _ ?_];generalize ((ns.drop j).take 1++[(j:Int)*j+3]).getD (toNat 0) 0=cl;let ad:=Rm.eh N (I _);change cB _ _ _ _ (upd (upd H1 p2 (.lst [V.int ((j:Int)*j+3)])) G (.lst (((ns.drop j).take 1).map V.int++[V.int ((j:Int)*j+3)])));generalize upd (upd H1 p2 (.lst [V.int ((j:Int)*j+3)])) G (.lst (((ns.drop j).take 1).map V.int++[V.int ((j:Int)*j+3)]))=H3 at *;let O:gv (ns.map V.int) none (some (1:Int))=(ns.take 1).map V.int:=Rm.oQ (s:=1);show#[0,0,a,0,ad,λp4 S=>?_];let J:=Tb.au (X:=.lst ((ns.take 1).map V.int)) S;show#[p4,ns.take 1,rfl,bD.of (by rw[<-O];show ae),_,0,rfl,Dw,rfl,0,?_];rw[show gv (ns.map V.int) none (some (1:Int))=(ns.take 1).map V.int from O];show hV (λ_=>?_) (λ_=>?_)
 .show#[0,_,0,rfl,#[ao,ao,ao],_,0,rfl,(by change(0:Int)<10^40;decide),k _ _ #[Oq _ ao,L0 _ (show(0:Int)<10^40 by decide)] (I.trans J)]
 .show#[0,0,cl,j,rfl,λv hv=>k v _ hv (I.trans J)]
theorem FY:aE ["_law_m","_law_many","_law_cells_here","_law_k"] ["_law_m","_law_many"] (aw qt):=L2.bW
theorem yq(F:cD K "_law_cells" "_law_cells" qt f fd)(T:mj mg):↥aX 1 f fd ["_law_m","_law_many"] mP:=by
 show F.dU FY ?_;intros;let#[m,n,rfl,U,k]:=h;let hs:=ti;show#[_,(ai (cK 2 FY.nd (bz af))
  (ai (dy NC rfl (zU (by rfl) T.range (aa (pv 1) af)) (iW 3 FY.nd) (ai (aQ (hU Pc Qm Qn jI (pv 2) (aa (ar aM (ar aZ (pv 0) (ar eO (ar eO ah (pv 3)) (ar aM (ar aV (pv 0) ah) ah))) ah) af)))
  (ak (bo (aA bZ (ar aM (pv 3) ah) ah (aH _)) (ak (cK 0 FY.nd (ar aV (pv 0) ah))) aK))))
  (ak (aG (pv 2))))),?_]
 show#[ao,λl I=>?_];let s0:=Tb.au (X:=.lst []) I;show#[0,0,ag,ag,?_];show jE (lo:=0) (n:=(n:Int).toNat) (λi σ H2=>Kc λ(G:Int)(L:Option V)(cs:W5)=>Hf (σ=#v[.int G,.int n,.ref l,L]) (cs.length=i) (H2 l=some (.lst (cs.map V.int))) (aO H H2)) #[m,_,[],1,ae,s0] ?_ ?_
 .rintro i σ H2 hi ⟨G,L,cs,rfl,O,h2,s2⟩;show#[0,.inl #[4,bD.of h2],0,0,_,0,rfl,.inl #[ao,ao],0,_,0,rfl,#[ao,ao],_,0,rfl,(XG 6),_,0,rfl,.inr #[3],_,0,4,0,rfl,(XG 255),l,_,0,rfl,h2,by rw[k9];omega,?_]
  .have:=Oq (G/256) (show(7:Int)≠0 by decide);omega
  .have:=L0 (G/256) (show(0:Int)<7 by decide);omega
  let J:=Rm.EV s2 I (X:=.lst ((cs++[(G+37*(0+(i:Int))*(G/256%7))%256]).map V.int));let R:cs.map V.int++[V.int ((G+37*(0+(i:Int))*(G/256%7))%256)]=(cs++[(G+37*(0+(i:Int))*(G/256%7))%256]).map V.int:=(by rw[IF];rfl);show#[0,_,0,rfl,xG,rfl,0,?_];let N:(cs++[(G+37*(0+(i:Int))*(G/256%7))%256]).length=i+1:=(by rw[G1,O];rfl);rw[<-R]at J;let S:upd H2 l (.lst (cs.map V.int++[V.int ((G+37*(0+(i:Int))*(G/256%7))%256)])) l=some (.lst ((cs++[(G+37*(0+(i:Int))*(G/256%7))%256]).map V.int)):=(by rw[<-R];show ae);show hV (λ_=>#[0,_,0,rfl,#[ao,ao],2,0,N,S,J]) (λ_=>#[2,0,N,S,J])
 .rintro σ H2 ⟨G,L,cs,rfl,O,h2,s2⟩;show#[0,k cs H2 l ag s2 I h2]
theorem KU:aE ["_law_m","_law_frames"] ["_law_m"] (aw yJ):=L2.bW
theorem BF(F:cD K "_law_sizes" "_law_sizes" yJ f fd):↥aX 1 f fd ["_law_m"] tI:=by
 show F.dU KU ?_;intros;let#[m,rfl,k]:=h;show#[_,(ai (cK 1 KU.nd (aS bX (bz (aa ah (aa ah (aa (ar aZ ah (ar aM (ar aV (pv 0) ah) ah)) (aa (ar aZ ah (ar aM (ar aV (pv 0) ah) ah)) af))))) (ar aM (pv 0) ah) cy))
  (ak (aG (bK (aa (pv 1) (aa (aS bX (bz (aa (ar aM (ar aV (pv 0) ah) ah) (aa (ar aM (ar aV (pv 0) ah) ah) (aa ah af)))) (ar aM (ar aV (pv 0) ah) ah) cy) af)))))),?_]
 let#[S,_]:=Cr m;let#[N,_]:=D6 m;show dv λ_ R=>?_;show#[0,_,0,rfl,#[ao,ao],_,0,rfl,(XG 4),_,0,rfl,0,_,0,rfl,#[ao,ao],_,0,rfl,(XG 38),_,0,rfl,gC,λl0 J=>#[0,_,0,rfl,JG,l0,2,.int (kB m),1,bD.of ae,S,R _ _ ?_]];let s0:=Tb.au (X:=.lst ((rC m).map V.int)) J;change CQ _ _ _ (upd H l0 (.lst ((rC m).map V.int)));generalize upd H l0 (.lst ((rC m).map V.int))=H1 at *;show#[0,0,_,0,rfl,#[ao,ao],_,0,rfl,xG,0,_,0,rfl,#[ao,ao],_,0,rfl,(XG 60),m5,λL O=>#[0,_,0,rfl,#[ao,ao],_,0,rfl,Io,L,2,.int (lO m),1,bD.of ae,N,dN,λt G=>?_]];let I:=Tb.au (X:=.lst ((vj m).map V.int)) O;let s2:=Tb.au (X:=.tup [.int (kB m),.int (lO m)]) G;show k _ t (s0.trans (I.trans s2)) (s0.free (I.free G)) ae
structure MT where
 ra:Addr
 sa:Addr
 pl:List (Int×Addr×Int)
abbrev Zs:=List (Int×MT)
def fW(z:MT):V:=.ref z.ra
def uW(z:MT):V:=.ref z.sa
def gU(x:Addr×Int):V:=.ref x.1
def rq(x:Addr×Int):V:=.int x.2
def qW(F ls:Addr)(cj pk:Int):List (Key×V):=[(Ol "rooms",.ref F),(Ol "stands",.ref ls),(Ol "total",.int cj),(Ol "pokes",.int pk)]
structure MA where
 md:Addr
 lr:Addr
 ls:Addr
structure cG(H:Hp)(m:MA)(cj pk:Int)(Z:Zs):Prop where
 hm:H m.md=some (.dK (qW m.lr m.ls cj pk))
 hr:H m.lr=some (.dK (Tb.dk fW Z))
 hs:H m.ls=some (.dK (Tb.dk uW Z))
 rm:∀x∈Z,H x.2.ra=some (.dK (Tb.dk gU x.2.pl))
 st:∀x∈Z,H x.2.sa=some (.dK (Tb.dk rq x.2.pl))
 cl:∀x∈Z,∀y∈x.2.pl,∃ns:List Int,H y.2.1=some (.lst (ns.map V.int))/\ns.length=8
 nd:(Z.map (·.1)).Nodup
 np:∀x∈Z,(x.2.pl.map (·.1)).Nodup
 rg:∀x∈Z,∀y∈x.2.pl,0<=y.1/\y.1<64
 da:∀x∈Z,∀y∈Z,x.1≠y.1->x.2.ra≠y.2.ra/\x.2.sa≠y.2.sa
 rs:∀x∈Z,∀y∈Z,x.2.ra≠y.2.sa
 d3:∀x∈Z,x.2.ra≠m.md/\x.2.ra≠m.lr/\x.2.ra≠m.ls/\x.2.sa≠m.md/\x.2.sa≠m.lr/\x.2.sa≠m.ls
 n3:m.md≠m.lr/\m.md≠m.ls/\m.lr≠m.ls
def dA(m:MA)(Z:Zs):Addr->Prop:=λb=>b=m.md\/b=m.lr\/b=m.ls\/∃x∈Z,b=x.2.ra\/b=x.2.sa\/∃y∈x.2.pl,b=y.2.1
theorem ks_ne{a b:Str}(h:a≠b):¬ V.str a=V.str b:=λe=>h (by injection e)
theorem v5(F ls:Addr)(cj pk:Int):fq (qW F ls cj pk) (Ol "rooms")=some (.ref F):=gq rfl
theorem N0:¬ ((Ol ("rooms" : Str):Key)=Ol ("stands" : Str)):=aq
theorem NR:¬ ((Ol ("rooms" : Str):Key)=Ol ("total" : Str)):=aq
theorem Nv:¬ ((Ol ("rooms" : Str):Key)=Ol ("pokes" : Str)):=aq
theorem NU:¬ ((Ol ("stands" : Str):Key)=Ol ("total" : Str)):=aq
theorem MX:¬ ((Ol ("stands" : Str):Key)=Ol ("pokes" : Str)):=aq
theorem MD:¬ ((Ol ("total" : Str):Key)=Ol ("pokes" : Str)):=aq
theorem Mi(F ls:Addr)(cj pk:Int):fq (qW F ls cj pk) (Ol "stands")=some (.ref ls):=by
 unfold qW;rw[cJ N0,gq rfl]
theorem HX(F ls:Addr)(cj pk:Int):fq (qW F ls cj pk) (Ol "total")=some (.int cj):=by
 unfold qW;rw[cJ NR,cJ NU,gq rfl]
theorem KO(F ls:Addr)(cj pk:Int):fq (qW F ls cj pk) (Ol "pokes")=some (.int pk):=by
 unfold qW;rw[cJ Nv,cJ MX,cJ MD,gq rfl]
theorem AG(F ls:Addr)(cj pk:Int):mC [] (qW F ls cj pk)=qW F ls cj pk:=by
 let s2:putK ([(Ol "rooms",V.ref F)]:XE) (Ol "stands") (V.ref ls)=([(Ol "rooms",V.ref F),(Ol "stands",V.ref ls)]:XE):=kR _ (cJ N0);let I:putK ([(Ol "rooms",V.ref F),(Ol "stands",V.ref ls)]:XE) (Ol "total") (V.int cj)=([(Ol "rooms",V.ref F),(Ol "stands",V.ref ls),(Ol "total",V.int cj)]:XE):=kR _ ((cJ NR).trans (cJ NU));let G:putK ([(Ol "rooms",V.ref F),(Ol "stands",V.ref ls),(Ol "total",V.int cj)]:XE) (Ol "pokes") (V.int pk)=([(Ol "rooms",V.ref F),(Ol "stands",V.ref ls),(Ol "total",V.int cj),(Ol "pokes",V.int pk)]:XE):=kR _ ((cJ Nv).trans ((cJ MX).trans (cJ MD)));change putK (putK (putK ([(Ol "rooms",V.ref F)]:XE) (Ol "stands") (V.ref ls)) (Ol "total") (V.int cj)) (Ol "pokes") (V.int pk)=_;rw[s2,I,G];rfl
theorem BB(G ls:Addr)(cj pk:Int):(qW G ls cj pk).map (λF=>(kV F.1,F.2))=[(.str "rooms",.ref G),(.str "stands",.ref ls),(.str "total",.int cj),(.str "pokes",.int pk)]:=rfl
section
variable{H H':Hp}{m:MA}{cj pk:Int}{Z:Zs}
theorem cG.g{k:Str}{v:V}(M:cG H m cj pk Z)(h:fq (qW m.lr m.ls cj pk) (Ol k)=some v):eV H m.md (.str k) (some v):=by
 let q:=eV.k (k:=Ol k) M.hm;rw[h]at q;show q
theorem cG.off{B:WR}(M:cG H m cj pk Z)(o:Off B H H')(h:∀b,dA m Z b->¬ B b):cG H' m cj pk Z:=by
 show#[o _ _ M.hm (h _ (.inl rfl)),o _ _ M.hr (h _ (.inr (.inl rfl))),o _ _ M.hs (h _ (.inr (.inr (.inl rfl)))),λx F=>o _ _ (M.rm x F) (h _ (.inr (.inr (.inr #[x,F,.inl rfl])))),λx F=>o _ _ (M.st x F) (h _ (.inr (.inr (.inr #[x,F,.inr (.inl rfl)])))),λx F y G=>?_,M.nd,M.np,M.rg,M.da,M.rs,M.d3,M.n3];let#[ns,h1,h2]:=M.cl x F y G;show#[ns,o _ _ h1 (h _ (.inr (.inr (.inr #[x,F,.inr (.inr #[y,G,rfl])])))),h2]
theorem cG.same(M:cG H m cj pk Z)(s:aO H H'):cG H' m cj pk Z:=M.off (B:=λ_=>False) (λb o e _=>s b o e) λ_ _=>id
end
def vK(Z:Zs):Int:=(Z.map λx=>(x.2.pl.length:Int)).sum
inductive uK(v:XD)(H:Hp)(Q:VK)(e:XK):Prop
 |mk(cj:Int)(_:v=[.int cj])(_:∀(H':Hp)(m:MA),aO H H'->H m.md=none->H m.lr=none->H m.ls=none->cG H' m cj 0 []->Q (.ref m.md) H')
inductive nV(v:XD)(H:Hp)(Q:VK)(e:XK):Prop
 |mk(m:MA)(cj pk:Int)(Z:Zs)(_:v=[.ref m.md])(_:cG H m cj pk Z)(_:Z.length<=1000)(_:∀H',aO H H'->Q (.int (vK Z)) H')
def rh(pl:WX)(ad n:Int):Prop:=n=0\/(0<n/\0<=ad/\ad+n<=512/\∀i:Nat,(i:Int)<n->Tb.look pl ((ad+i)/8)≠none)
inductive ml(v:XD)(H:Hp)(Q:VK)(e:XK):Prop
 |mk(ra:Addr)(pl:WX)(ad n:Int)(_:v=[.ref ra,.int ad,.int n])(_:H ra=some (.dK (Tb.dk gU pl)))(_:∀(b:Bool)(H':Hp),aO H H'->(b=true↔rh pl ad n)->Q (.bl b) H')
theorem Nj:aE ["_law_total"] ["_law_total"] (aw wY):=L2.bW
theorem CK(F:cD K "_law_model" "_law_model" wY f fd):↥aX 1 f fd ["_law_total"] uK:=by
 show F.dU Nj ?_;intros;let#[cj,rfl,k]:=h;show#[_,(ak (aG (Fz (keys:=[some _,some _,some _,some _]) (values:=[_,_,_,_]) (kO ay dJ (kO ay dJ (kO ay (pv 0) (kO ay ah FR)))) rfl rfl (List.cons_ne_nil _ _) (Rr rfl)))),?_];show λmd Y J L ls I=>#[0,?_];let O:J≠md:=λe=>(by rwa[e,ae]at L);let ab:H J=none:=(by rw[aj O]at L;show L);let R:ls≠J:=λe=>(by rwa[e,ae]at I);rw[aj R]at I;let N:ls≠md:=λe=>(by rwa[e,ae]at I);let U:H ls=none:=(by rw[aj N]at I;show I);show#[by rw[aj (ro N),aj (ro O),ae],qW J ls cj 0,(BB J ls cj 0).symm,by change 4<=15;decide,?_];rw[AG];show k _ #[md,J,ls] (λb o e=>?_) Y ab U #[ae,3,(λx G=>by cases G),(λx G=>by cases G),(λx G=>by cases G),Qr,(λx G=>by cases G),(λx G=>by cases G),(λx G=>by cases G),(λx G=>by cases G),(λx G=>by cases G),#[ro O,ro N,ro R]]
 .let S:b≠md:=av e Y;rw[aj S,aj (av e U),aj (av e ab),aj S];show e
 .change upd _ md _ J=_;rw[aj O,aj (ro R),ae];rfl
 .change upd _ md _ ls=_;rw[aj N,ae];rfl
theorem Nk:aE ["_law_model_here"] ["_law_model_here"] (aw yV):=L2.bW
theorem CL(F:cD K "_law_held" "_law_held" yV f fd)(T:mj mg):↥aX 1 f fd ["_law_model_here"] nV:=by
 show F.dU Nk ?_;intros;let#[m,cj,pk,Z,rfl,M,lz,k]:=h;let hs:=ti;show#[_,(ak (aG (aL (pY rfl) (by rfl) T.sum yn (aa (zN (gO (cl:=[]) (caps:=[]) #[rfl,aq,aq,rfl,by kernel_rfl,by intro p L;simp at L,by kernel_rfl,by intro p L;simp at L,aq] rfl (FP (bP (bG hr) (pv 0) ay cy)) (λ_ _ _ _=>gg) (λ_ _ _ _=>(aL jK (by rfl) T.len boot_len (aa (pv 0) af))))) af)))),?_];let R:∀(o:Obj) O,H m.lr≠some (.frz o O):=λo O z=>(by rwa[M.hr]at z);show#[0,m.md,.ref m.lr,rfl,M.g (v5 _ _ _ _),m.lr,0,M.hr,R,λo=>?_];let oF:Off (· = m.lr) H (upd H m.lr (.frz o (.dK (Tb.dk fW Z)))):=Off.wr rfl;let J:(upd H m.lr (.frz o (.dK (Tb.dk fW Z)))) m.lr=some (.frz o (.dK (Tb.dk fW Z))):=ae;show xw (a:=m.lr) (o:=o) (kvs:=Tb.dk fW Z) (λi ys H2=>ys=((Z.take i).map λx=>(x.2.pl.length:Int)).map V.int/\H2=upd H m.lr (.frz o (.dK (Tb.dk fW Z)))) #[1] (λi zs H2 _ ⟨_,e⟩=>by rw[e];show J) ?_ ?_
 .rintro i Y v zs H2 hk ⟨rfl,rfl⟩;let S:(Z.map λx:Int×MT=>((t6 x.1:Key),fW x.2))[i]?=some (Y,v):=hk;rw[t4]at S;let#[x,I,e]:=qw.mp S;cases e;let U:=wh I;let hi:i<Z.length:=(mu.mp I).1;show#[0,x.2.ra,0,oF _ _ (M.rm x U) (M.d3 x U).2.1,3,rfl]
  .rw[k9,k9,Om];omega
  .rw[Tb.cA,OZ,I,IF,IF];rfl
 .rintro zs H2 ⟨rfl,rfl⟩ l G;let N:l≠m.lr:=λz=>(by rwa[z,J]at G);show#[m.lr,o,Tb.dk fW Z,by rw[aj (ro N)];show J,R,l,(Z.map λx=>(x.2.pl.length:Int)),rfl,bD.of ?_,?_]
  .rw[aj N,ae,Tb.cA,Pj]
  .show k _ λb u e=>?_;cases z:b=m.lr
   .rw[z,ae, <-e,z,M.hr]
   .rw[aj z,aj (λy=>by rw[y]at e;rwa[aj N,e]at G),aj z];show e
theorem FO:aE ["_law_room","_law_address","_law_many"] ["_law_room","_law_address","_law_many"] (aw qD):=L2.bW
theorem yr(F:cD K "_law_stretch" "_law_stretch" qD f fd)(T:mj mg):↥aX 1 f fd ["_law_room","_law_address","_law_many"] ml:=by
 show F.dU FO ?_;intros;let#[U,pl,ad,n,rfl,ab,k]:=h;let hs:=ti;show#[_,(ai (bo (aA gp (pv 2) ah (aH _)) (ak (aG qx)) aK)
  (ai (bo (PW.pt (tP (aA gY (pv 2) ah (aH _)) (oo (PW.pt (ie (aA gp (pv 1) ah (aH _)) (gT (aA gY (ar aZ (pv 1) (pv 2)) ah (aH _)))))))) (ak (aG qx)) aK)
  (ak (aG (Kg (jL bZ (pv 2) ah (aH _)) (Dm (aL (rK rfl) (by rfl) T.all Eo (aa (gO (cl:=[("_law_room",s⁻¹+1)]) (caps:=[("_law_room",0)]) #[rfl,aq,aq,rfl,by kernel_rfl,by intro p I;simp only[t7,vr,or_false]at I;rcases I with rfl<;>first|rfl|show#[rfl,.inl rfl,.inl rfl]|show#[rfl,.inl rfl,.inr rfl],by kernel_rfl,by intro p I;simp only[t7,vr,or_false]at I;rcases I with rfl<;>first|rfl|show#[rfl,.inl rfl,.inl rfl]|show#[rfl,.inl rfl,.inr rfl],aq] rfl (ff (by rfl) T.range (aa (pv 1) (aa (ar aZ (pv 1) (pv 2)) af))) (λ_ _ _ _=>gg) (λ_ _ _ _=>(xN (mG (bG hr) (ar aV (pv 0) ah) (pv 1))))) af)))))))),?_]
 show#[0,_,0,rfl,0,?_];cases S:n<0
 .rw[decide_eq_true S];show dR (k false H (aO.refl H) #[λz=>(by cases z),λz=>by rcases z with z|z<;>omega])
 rw[decide_eq_false S];show cq (Hc ?_);dsimp only;show Jn (λσ H2=>H2=H/\σ=#v[.ref U,.int ad,.int n]/\(n=0\/(0<n/\0<=ad/\ad+n<=512))) (λ_ QQ N O=>?A) ?B
 case A =>
  show#[0,_,0,rfl,0,?_];cases G:(0:Int)<n
  .rw[decide_eq_true G];show dR ?_;show#[0,_,0,rfl,0,?_];cases J:ad<0
   .rw[decide_eq_true J];show dR (N _ (k false H (aO.refl H) #[λz=>(by cases z),λz=>by rcases z with z|z<;>omega]))
   rw[decide_eq_false J];show cq ?_;show#[0,0,_,0,4,0,rfl,0,?_];cases L:(512:Int)<ad+n
   .rw[decide_eq_true L];show N _ (k false H (aO.refl H) #[λz=>(by cases z),λz=>by rcases z with z|z<;>omega])
   rw[decide_eq_false L];show O _ #[1,.inr #[G,ag,ag]]
  .rw[decide_eq_false G];show cq (O _ #[1,.inl ag])
 case B =>
  rintro σ H' ⟨rfl,rfl,c⟩;show#[0,rfl,0,?_];show hV (λz=>?_) (λz=>?_)
  .let z':decide (V.int n=V.int 0)=true:=z;show k true H' (aO.refl H') #[λ_=>.inl (V.int.inj (of_decide_eq_true z')),λ_=>rfl]
  let R:¬ n=0:=λy=>z (decide_eq_true (by rw[y]));let#[G,J,L]:=c.resolve_left R;show#[0,0,0,_,0,4,0,#[ag,ag,ag,ag],?_];show fj (lo:=ad) (n:=(ad+n-ad).toNat) (λi ys H2=>ys=((Ox i).map λj:Nat=>(Tb.look pl ((ad+j)/8)).isSome).map V.bl/\H2=H') #[1] ?_ ?_
  .rintro i ys H2 hi ⟨rfl,rfl⟩;show#[0,_,0,rfl,#[ao,ao],0,U,0,gr ab,3,rfl]
   .rw[k9,k9,Qf];omega
   .rw[UH,IF,IF];change _++[V.bl ((Tb.look pl ((ad+(i:Int))/8)).map gU).isSome]=_;rw[Rx];rfl
  .rintro ys H2 ⟨rfl,rfl⟩ l Y;show#[l,0,bD.of ae,k _ _ (Tb.au Y) ?_];rw[OJ];constructor
   .intro z;show .inr #[G,J,L,λi hi e=>?_];have:=z _ (rk.mpr #[i,O0.mpr ag,rfl]);rwa[e]at this
   .intro z b hb;let#[i,hi,rfl]:=rk.mp hb;have:=(z.resolve_left R).2.2.2 i (by have:=O0.mp hi;omega);change((Tb.look pl ((ad+(i:Int))/8)).isSome)=true;cases e:Tb.look pl ((ad+(i:Int))/8)with
    |none=>show absurd e this
    |some _=>rfl
end Lw
namespace L2
open PySem PySem.Spec PyProof.Rows
section
variable{X:Cx}{CX:uq}{k j:Nat}{C:Addr}{sp:Sp}{E:XK}{x m:Str}{p pos apos:QM}{e o:Ou}{es:XB}{ta:TE}{t:TA}
theorem Hi{pl:RS Bool}(N:PE X.nE o ta)(c:qQ X.K C)(F:Md X.prog X.w X.K X.mg X.base (fQ X.prog X.w) k C m sp)(J:dG j X.A)(I:PA X.nE (e::es) t)(hex:X.ex=[]:=by rfl)(G:k<=j:=by decide)
  (R:XF X e es:=by rfl) (O:(backTo pos (starEach es X.env)).any (·.1)=false:=by rfl)
  (L:eval (.Call (.Attribute o m apos) (e::es) [] pos) X.env=(do
   let ov <-eval o X.env
   RZ apos.atName
   let (f,first) <-QU [ov] (QV ov m pl)
   Sn pos f first (backTo pos (starEach (e::es) X.env)) (Q1 pos (P2 [] X.env))):=by rfl) :
  AD X (.Call (.Attribute o m apos) (e::es) [] pos) (DA C m sp [] ta t):=by
 let#[f,fd,_,g,b,q]:=F;show CJ N c q g (J.mono G) hex b .nil I R O L
theorem rl(F:Df X.prog X.w X.K X.mg X.base (fQ X.prog X.w) k x sp)(J:dG j X.A)(I:PA X.nE (e::es) t)(hex:X.ex=[]:=by rfl)(N:Gl X x:=by rfl)(G:k<=j:=by decide)
  (R:(x==("__debug__" : Str))=false:=by decide) (L:XF X e es:=by rfl) (O:(backTo pos (starEach es X.env)).any (·.1)=false:=by rfl) :
  AD X (.Call (.Name x p) (e::es) [] pos) (Co sp [] t):=by
 let#[f,fd,_,g,b,q,r]:=F;show EE g (J.mono G) hex N q r b .nil I R L O
def F9:qO:=λ_ _ _ _=>False
theorem bh{sts:List Oz}:pH X sts F9:=λ_ _ _ _ _ _ _ h=>h.elim
end
theorem uz{a b:Str}{n m:Nat}(h:a.length<=n)(k:b.length<=m):(a++b).length<=n+m:=by rw[len_app];omega
end L2
namespace Rm
open PySem L2
theorem li{n:Int}(h:n.natAbs.log2<1920):(toString n:Str).length<=2000:=by have:=E7 h;omega
theorem HN:(Str.empty:Str).length<=0:=rr _
inductive fN(CP:Addr)(v:XD)(H:Hp)(Q:VK)(e:XK):Prop
 |mk(p m:Int)(_:v=[.int p,.int m])(_:p.natAbs.log2<1920)(_:m.natAbs.log2<1920)(_:bH p m)(_:e (.ref CP) none H)
inductive gQ(CP:Addr)(v:XD)(H:Hp)(Q:VK)(e:XK):Prop
 |mk(a b:Addr)(ms ps:W5)(_:v=[.ref a,.ref b])(_:H a=some (.lst (ms.map V.int)))(_:H b=some (.lst (ps.map V.int)))(_:∀q∈ps,q.natAbs.log2<1920)(_:¬ ∀q∈ps,q∈ms)(_:e (.ref CP) none H)
inductive qh(CP CT:Addr)(v:XD)(H:Hp)(Q:VK)(e:XK):Prop
 |mk(a:Addr)(ms:W5)(p m:Int)(C:Addr)(_:v=[.ref a,.int p,.int m])(_:H a=some (.lst (ms.map V.int)))(_:p.natAbs.log2<1920)(_:m.natAbs.log2<1920)(_:(bH p m/\C=CP)\/(¬ bH p m/\(∃q∈aP p m,q∈ms)/\C=CT))(_:∀H',aO H H'->e (.ref C) none H')
inductive my(CP:Addr)(v:XD)(H:Hp)(Q:VK)(e:XK):Prop
 |mk(a:Addr)(ms:W5)(p m:Int)(_:v=[.ref a,.int p,.int m])(_:H a=some (.lst (ms.map V.int)))(_:p.natAbs.log2<1920)(_:m.natAbs.log2<1920)(_:bH p m\/¬ ∀q∈aP p m,q∈ms)(_:∀H',aO H H'->e (.ref CP) none H')
inductive iO(CP:Addr)(v:XD)(H:Hp)(Q:VK)(e:XK):Prop
 |mk(a:Addr)(ms:W5)(ad n:Int)(_:v=[.ref a,.int ad,.int n])(_:H a=some (.lst (ms.map V.int)))(_:n.natAbs.log2<1920)(_:(eL ad).natAbs.log2<1920)(_:(eJ ad n).natAbs.log2<1920)(_:cQ ad n ms)(_:∀H',aO H H'->e (.ref CP) none H')
theorem qT{J:Addr}(F:cD K "pages_from" "pages_from" iQ f fd)(T:yc mg)(XP:pQ K mg "NoPage" J):⇑aX 1 f fd ["page","many"] (fN J):=by
 let#[ac,ab,S]:=T.vA;show F.jl LB ?_;intros;let#[p,m,rfl,L,O,Y,kE]:=h;show#[_,(aF (dF (PW.pt (ie (aA gp (pv 1) ah (aH _)) (ie (aA gp (pv 0) ah (aH _)) (gT (aA gY (ar aZ (pv 0) (pv 1)) (aR (by rfl) ab S) (aH _)))))) (cf (fX rfl XP.Ji XP.JD rfl rfl (aa (iK (cL (kU (pv 1)) (cL ay (cL (kU (pv 0)) (cL ay kl))))) af))) cz)
  bh),?_]
 let c1:(Str.ofString " from ").length<=6:=aq;let c2:(Str.ofString " on are no pages of a room").length<=26:=aq;let g1:=uz HN (li O);let g2:=uz g1 c1;let g3:=uz g2 (li L);let g4:=uz g3 c2;let hs:=ti;show cR λU R je=>?_;let G:U true H:=R _ #[0,m,rfl,O,0,ag,0,ag,0,p,rfl,L,0,ag,0,ag,ag,m6,kE];show#[0,_,0,rfl,0,?_];show hV (λc=>G) (λc=>?_);show#[0,_,0,rfl,0,?_];show hV (λI=>G) (λI=>?_);show#[0,0,_,0,4,0,rfl,0,?_];show Bj (λN=>G) (λN=>?_);rcases Y with z|z|z
 .show absurd (decide_eq_true z) c
 .show absurd (decide_eq_true z) I
 .show absurd (decide_eq_true z) N
theorem tq{N:Addr}(F:cD K "refuse_unmapped" "refuse_unmapped" jJ f fd)(XP:pQ K mg "NoPage" N):⇑aX 1 f fd ["mapped","pages"] (gQ N):=by
 show F.jl F3 ?_;intros;let#[a,b,L,ps,rfl,ha,O,hg,S,U]:=h;let hs:=ti;show#[_,(cf (zm rfl rfl rfl (eE (pv 1)) (iW 2 F3.nd) (cf (dF (aA iR (pv 2) (pv 0) (by with_unfolding_all rfl)) (cf (fX rfl XP.Ji XP.JD rfl rfl (aa (iK (cL ay (cL (kU (pv 2)) (cL ay kl)))) af))) cz)))),?_];show#[0,b,rfl,#[_,bD.of O],?_];show rQ (K:=K) (a:=b) (xs:=ps.map V.int) (λi σ H2=>∃v2:Option V,σ=#v[.ref a,.ref b,v2]/\H2=H/\∀q∈ps.take i,q∈L) #[0,rfl,(λ_ h=>nomatch h)] (λi σ H2 _ z0=>by let#[_,_,e,_]:=z0;rw[e];show bD.of O) ?_ ?_
 .rintro i x σ H2 J ⟨v2,rfl,rfl,G⟩;rw[t4]at J;let#[q,R,rfl]:=qw.mp J;let I:=hg q (wh R);let Y:(Str.ofString "page ").length<=5:=aq;let c2:(Str.ofString " is not mapped").length<=14:=aq;let g1:=uz HN Y;let g2:=uz g1 (li I);let g3:=uz g2 c2;show#[0,0,a,0,.inl (bD.of ha),rfl,gZ _,0,?_];rw[jg];cases h:q∈L
  .rw[decide_eq_true h];show cq #[0,rfl,λr hr=>?_];rw[OZ,R]at hr;rcases qj.mp hr with hr|hr
   .show G r hr
   .have:r=q:=‹hr›;rw[this];show h
  .rw[decide_eq_false h];show dR #[0,ag,0,q,rfl,I,0,ag,0,ag,ag,m6,U]
 .rintro σ H2 ⟨v2,rfl,rfl,G⟩;rw[k9,Pj]at G;show absurd G S
theorem Bn{Y O:Addr}(F:cD K "pages_to_map" "pages_to_map" tW f fd)(XK:pQ K mg "Taken" O)(GP:↥Df 1 "pages_from" dB)(GX:⇑Df 1 "pages_from" (fN Y)):⇑aX 2 f fd ["mapped","page","many"] (qh Y O):=by
 show F.jl yx ?_;intros;let#[a,S,p,m,C,rfl,ha,hp,hm,G,N]:=h;let hs:=ti;rcases G with⟨G,rfl⟩|⟨G,⟨q0,am,ad⟩,rfl⟩
 .show#[_,(aF (Bw 3 yx.nd (rl GX hr (aa (pv 1) (aa (pv 2) af)))) bh),?_];show#[0,0,p,m,rfl,hp,hm,G,N H (aO.refl H)]
 show#[_,(aF (dD (cK 3 yx.nd (pc GP hr ax (aa (pv 1) (aa (pv 2) af)))))
  (aF (zm rfl rfl rfl (eE (pv 3)) (iW 4 yx.nd) (cf (dF (aA rO (pv 4) (pv 0) (by with_unfolding_all rfl)) (cf (fX rfl XK.Ji XK.JD rfl rfl (aa (iK (cL ay (cL (kU (pv 4)) (cL ay kl)))) af))) cz)))
  bh)),?_]
 show#[0,0,p,m,rfl,G,λH1 l U nl ab=>?_];show#[0,l,rfl,#[_,bD.of ab],?_];show rQ (K:=K) (a:=l) (xs:=(aP p m).map V.int) (λi σ H2=>∃J:Option V,σ=#v[.ref a,.int p,.int m,.ref l,J]/\H2=H1/\∀q∈(aP p m).take i,¬ q∈S) #[0,rfl,(λ_ h=>nomatch h)] (λi σ H2 _ z0=>by let#[_,_,e,_]:=z0;rw[e];show bD.of ab) ?_ ?_
 .rintro i x σ H2 R ⟨J,rfl,rfl,I⟩;rw[t4]at R;let#[q,ac,rfl]:=qw.mp R;let L:=(jR G q (wh ac)).2.2;let c1:(Str.ofString "page ").length<=5:=aq;let c2:(Str.ofString " is mapped").length<=10:=aq;let g1:=uz HN c1;let g2:=uz g1 (li L);let g3:=uz g2 c2;show#[0,0,a,0,.inl (bD.of (U _ _ ha)),rfl,gZ _,0,?_];rw[jg];by_cases h':q∈S
  .rw[decide_eq_true h'];show dR #[0,ag,0,q,rfl,L,0,ag,0,ag,ag,m6,N _ U]
  .rw[decide_eq_false h'];show cq #[0,rfl,λr hr=>?_];rw[OZ,ac]at hr;rcases qj.mp hr with hr|hr
   .show I r hr
   .have:r=q:=‹hr›;rw[this];show h'
 .rintro σ H2 ⟨J,rfl,rfl,I⟩;rw[k9,Pj]at I;show absurd ad (I q0 am)
theorem xU{G:Addr}(F:cD K "pages_to_drop" "pages_to_drop" oE f fd)(N:↥Df 1 "pages_from" dB)(GX:⇑Df 1 "pages_from" (fN G))(R:⇑Df 1 "refuse_unmapped" (gQ G)):⇑aX 2 f fd ["mapped","page","many"] (my G):=by
 show F.jl BJ ?_;intros;let#[a,O,p,m,rfl,ha,S,hm,U,I]:=h;cases z:bH p m
 .show#[_,(aF (Bw 3 BJ.nd (rl GX hr (aa (pv 1) (aa (pv 2) af)))) bh),?_];show#[0,0,p,m,rfl,S,hm,z,I H (aO.refl H)]
 show#[_,(aF (dD (cK 3 BJ.nd (pc N hr ax (aa (pv 1) (aa (pv 2) af)))))
  (aF (fP (rl R hr (aa (pv 0) (aa (pv 3) af)))) bh)),?_]
 show#[0,0,p,m,rfl,z,λH1 l J nl Y=>?_];show#[0,0,a,l,O,aP p m,rfl,J _ _ ha,Y,λq L=>(jR z q L).2.2,U.resolve_left z,I _ J]
theorem vh{L:Addr}(F:cD K "pages_of_cells" "pages_of_cells" kK f fd)(T:yc mg)(XP:pQ K mg "NoPage" L)(GP:↥Df 1 "pages_from" dB)(GX:⇑Df 1 "pages_from" (fN L))(GU:⇑Df 1 "refuse_unmapped" (gQ L)):⇑aX 2 f fd ["mapped","address","many"] (iO L):=by
 let#[u8,J,N]:=T.cells;show F.jl oY ?_;intros;let#[a,ms,ad,n,rfl,ha,U,hf,hc,I,R]:=h;let hs:=ti;let ne:¬ V.int n=V.int 0:=λz=>by
  have:n=0:=V.int.inj z;rcases I with b|⟨b,_⟩<;>omega
 cases O:n<0
 .show#[_,(aF (dF (aA bZ (pv 2) ah (aH _)) bh cz)
   (aF (dF (aA gp (pv 2) ah (aH _)) (cf (fX rfl XP.Ji XP.JD rfl rfl (aa (iK (cL (kU (pv 2)) (cL ay kl))) af))) cz)
   bh)),?_]
  let c1:(Str.ofString " is no count of cells").length<=21:=aq;let g1:=uz HN (li U);let g2:=uz g1 c1;show cR λ_ S G=>iY (cV rfl) cW rfl ne (G _ ?_);show#[0,_,0,rfl,0,?_];show hV (λ_=>?_) (λz=>absurd (decide_eq_true O) z);show#[0,n,rfl,U,0,ag,0,ag,ag,m6,R H (aO.refl H)]
 let#[n0,I]:=I.resolve_left O;cases z:bH (eL ad) (eJ ad n)
 .show#[_,(aF (dF (aA bZ (pv 2) ah (aH _)) bh cz)
   (aF (dF (aA gp (pv 2) ah (aH _)) bh cz)
   (aF (dD (cK 3 oY.nd (ar aV (pv 1) (aR (by rfl) J N))))
   (aF (dD (cK 4 oY.nd (ar aV (ar du (ar aZ (pv 1) (pv 2)) ah) (aR (by rfl) J N))))
   (aF (Bw 5 oY.nd (rl GX hr (aa (pv 3) (aa (ar aZ (ar du (pv 4) (pv 3)) ah) af)))) bh))))),?_]
  show cR λ_ S G=>iY (cV rfl) cW rfl ne (G _ ?_);show#[0,_,0,rfl,0,?_];show hV (λy=>absurd (of_decide_eq_true y) O) (λ_=>?_);show#[0,_,0,rfl,#[ao,ao],0,0,_,0,4,0,4,0,rfl,#[ao,ao],?_];show#[0,0,0,_,0,4,0,rfl,eL ad,eJ ad n,rfl,hf,hc,z,R H (aO.refl H)]
 .show#[_,(aF (dF (aA bZ (pv 2) ah (aH _)) bh cz)
   (aF (dF (aA gp (pv 2) ah (aH _)) bh cz)
   (aF (dD (cK 3 oY.nd (ar aV (pv 1) (aR (by rfl) J N))))
   (aF (dD (cK 4 oY.nd (ar aV (ar du (ar aZ (pv 1) (pv 2)) ah) (aR (by rfl) J N))))
   (aF (dD (cK 5 oY.nd (pc GP hr ax (aa (pv 3) (aa (ar aZ (ar du (pv 4) (pv 3)) ah) af)))))
   (aF (fP (rl GU hr (aa (pv 0) (aa (pv 5) af)))) bh)))))),?_]
  show cR λ_ S G=>iY (cV rfl) cW rfl ne (G _ ?_);show#[0,_,0,rfl,0,?_];show hV (λy=>absurd (of_decide_eq_true y) O) (λ_=>?_);show#[0,_,0,rfl,#[ao,ao],0,0,_,0,4,0,4,0,rfl,#[ao,ao],?_];show#[0,0,0,_,0,4,0,rfl,eL ad,eJ ad n,rfl,z,λH1 l Y nl ab=>?_];show#[0,0,a,l,ms,aP (eL ad) (eJ ad n),rfl,Y _ _ ha,ab,λq hq=>(jR z q hq).2.2,I.resolve_left z,R _ Y]
end Rm
namespace L2
open PySem PySem.Spec PyProof.Rows
section
variable{X:Cx}{CX:uq}{k:Nat}{C:Addr}{sp:Sp}{m:Str}{p pos apos:QM}{e o tg:Ou}{es:XB}{te ta:TE}{tx:EM}{t:St->Hp->(Value->Hp->Prop)->Prop}
def Mb(X:Cx)(es:XB)(t:St->Hp->(Value->Hp->Prop)->Prop):Prop :=
 ∀(pos:QM)(pins:WU)(s:k8)(σ:St)(H:Hp)(R:Value->Hp->Prop),~~~H s->t σ H R->↑(Vz (backTo pos (starEach es X.env))) (λ_ _=>False) (XP X pins λF cls H'=>F=σ/\R cls H') s
def Hu(tx:EM):St->Hp->(Value->Hp->Prop)->Prop:=λσ H R=>tx σ H (λ_ _=>False) R
theorem EP.no{pins:WU}{σ:St}{u:Value}{s:k8}(h:EP X pins σ (λ_ _=>False) u s):False:=by
 let#[_,_,_,_,q]:=h;show q
theorem DM(F:AD X e tx)(hs:XF X e es:=by rfl):Mb X (e::es) (Hu tx):=by
 intro pos pins s σ H R I h;rw[hs];change wpAny _ _ (Vz ((false,eval e X.env)::backTo pos (starEach es X.env))) _ _ s;show Calls.spliced_cons (OG (F pins s σ H _ R I h) (λ_ _ z=>z.no.elim) λ_ _ z=>z)
theorem BV(J:PE X.nE e te)(L:Mb X es t)(hs:XF X e es:=by rfl):Mb X (e::es) (λσ H R=>te σ H λ_ H1=>t σ H1 R):=by
 intro pos pins s σ H R I h;rw[hs];change wpAny _ _ (Vz ((false,eval e X.env)::backTo pos (starEach es X.env))) _ _ s;show Calls.spliced_cons (nx (J pins s σ H _ (I.ix _) h) λu N z=>?_);let#[x,H1,G,O,F]:=z;show OG (L pos pins N σ H1 R G.cE F) (λ_ _ z=>z.elim) λ_ _ z=>z
theorem Bq{pl:RS Bool}(Y:PE X.nE o ta)(c:qQ X.K C)(F:Md X.prog X.w X.K X.mg X.base CX k C m sp)(ha:Mb X (e::es) t)
  (ab:XF X e es:=by rfl) (S:(backTo pos (starEach es X.env)).any (·.1)=false:=by rfl)
  (L:eval (.Call (.Attribute o m apos) (e::es) [] pos) X.env=(do
   let ov <-eval o X.env
   RZ apos.atName
   let (f,first) <-QU [ov] (QV ov m pl)
   Sn pos f first (backTo pos (starEach (e::es) X.env)) (Q1 pos (P2 [] X.env))):=by rfl) :
  AD X (.Call (.Attribute o m apos) (e::es) [] pos) (λσ H _ R=>ta σ H λx H1=>∃a dx fs,x=.ref a/\H1 a=some (.ins C dx fs)/\fs.lookup m=none/\t σ H1 R):=by
 let#[f,fd,_,g,b,J]:=F;intros Q R I h;show RE (pl:=pl) (nx (Y pins s σ H _ (I.ix _) h) λu O z=>?_) L;let#[x,H1,G,U,a,dx,fs,ex,N,l,q]:=z;subst ex;obtain rfl:u=Value.ref a:=U;show iD G.cE N c J l ?_;show Sm (first:=[.ref a]) (h₀:=X.base) I.ok.mod.ES J.kp (OG (ha pos pins O σ H1 R G.cE q) (λ_ _ z=>z.elim) λ_ _ z=>z) ab S
theorem Ee{body:List Oz}(F:AD X e tx)(hs:∀x,Qb e X.env x=pure x:=by intro _;rfl):Cn X (.For tg e body [] pos) (λ_ R σ H=>tx σ H (λ_ _=>False) (R σ)):=by
 intros D R I h;show Wl (OG (F pins s σ H _ _ I h) (λ_ _ z=>z.no.elim) λ_ _ z=>z.at) hs
end
end L2
namespace St
open PySem L2
structure XA where
 nt:Addr
 np:Addr
 nr:Addr
 tk:Addr
def lg(n:Int):Prop:=n.natAbs.log2<1920
theorem Cf{n:Int}(h1 : -1000000<=n)(h2:n<=1000000):lg n:=by
 unfold lg;cases z:n.natAbs=0
 .rw[z];decide
 .rw[log2_lt z];show Qq (show n.natAbs<=1000000 by omega) (Ow (show 1000000<2^20 by decide) (Nat.pow_le_pow_right ao ao))
inductive eF(CN:Addr)(v:XD)(H:Hp)(Q:VK)(e:XK):Prop
 |mk(a:Addr)(W:ed)(t:Int)(_:v=[.ref a,.int t])(_:H a=some (.dK (Tb.dk fR W)))(_:lg t)(_:Tb.look W t=none)(_:e (.ref CN) none H)
inductive jH(CT:Addr)(v:XD)(H:Hp)(Q:VK)(e:XK):Prop
 |mk(a:Addr)(W:ed)(t:Int)(x:TD)(_:v=[.ref a,.int t])(_:H a=some (.dK (Tb.dk fR W)))(_:lg t)(_:Tb.look W t=some x)(_:e (.ref CT) none H)
inductive lH(CR:Addr)(v:XD)(H:Hp)(Q:VK)(e:XK):Prop
 |mk(h t:Int)(_:v=[.int h,.int t])(_:h<=1000000)(_:0<=t)(_:t<h)(_:e (.ref CR) none H)
def GN(xa:XA)(W:ed)(tt t p m:Int)(C:Addr):Prop :=
 (Tb.look W t=none/\C=xa.nt)\/∃x,Tb.look W t=some x/\((Rm.bH p m/\C=xa.np)\/(¬ Rm.bH p m/\(∃q∈Rm.aP p m,Tb.look x.t q≠none)/\C=xa.tk)\/(¬ Rm.bH p m/\(∀q∈Rm.aP p m,Tb.look x.t q=none)/\tt<(ents W).length+m/\C=xa.nr))
def C6(xa:XA)(W:ed)(t p m:Int)(C:Addr):Prop :=
 (Tb.look W t=none/\C=xa.nt)\/∃x,Tb.look W t=some x/\(Rm.bH p m\/∃q∈Rm.aP p m,Tb.look x.t q=none)/\C=xa.np
def D4(xa:XA)(W:ed)(tt t o:Int)(C:Addr):Prop :=
 (Tb.look W t=none/\C=xa.nt)\/∃x,Tb.look W t=some x/\((Tb.look W o≠none/\C=xa.tk)\/(Tb.look W o=none/\tt<(ents W).length+x.t.length/\(ents W).length+x.t.length<=900000/\C=xa.nr))
def nj(xa:XA)(W:ed)(t ad n:Int)(C:Addr):Prop :=
 (Tb.look W t=none/\C=xa.nt)\/∃x,Tb.look W t=some x/\Rm.cQ ad n (x.t.map (·.1))/\C=xa.np
inductive ma(c:CA)(xa:XA)(v:XD)(H:Hp)(Q:VK)(e:XK):Prop
 |mk(M:WR)(a:RA)(s:Pg.PS)(W:ed)(t:Int)(x:TD)(_:v=[.ref a.rp,.int t])(_:az c H M a s W)(_:lg t)(_:Tb.look W t=some x)(_:e (.ref xa.tk) none H)
inductive mq(c:CA)(xa:XA)(v:XD)(H:Hp)(Q:VK)(e:XK):Prop
 |mk(M:WR)(a:RA)(s:Pg.PS)(W:ed)(t:Int)(_:v=[.ref a.rp,.int t])(_:az c H M a s W)(_:lg t)(_:Tb.look W t=none)(_:e (.ref xa.nt) none H)
inductive tQ(c:CA)(xa:XA)(v:XD)(H:Hp)(Q:VK)(e:XK):Prop
 |mk(M:WR)(a:RA)(s:Pg.PS)(W:ed)(t p m:Int)(C:Addr)(_:v=[.ref a.rp,.int t,.int p,.int m])(_:az c H M a s W)(_:W.length<=1000)(_:(ents W).length<=900000)(_:lg t)(_:lg p)(_:lg m)(_:GN xa W (cj s) t p m C)(_:∀(H':Hp),aO H H'->e (.ref C) none H')
inductive qK(c:CA)(xa:XA)(v:XD)(H:Hp)(Q:VK)(e:XK):Prop
 |mk(M:WR)(a:RA)(s:Pg.PS)(W:ed)(t p m:Int)(C:Addr)(_:v=[.ref a.rp,.int t,.int p,.int m])(_:az c H M a s W)(_:lg t)(_:lg p)(_:lg m)(_:C6 xa W t p m C)(_:∀(H':Hp),aO H H'->e (.ref C) none H')
inductive pV(c:CA)(xa:XA)(v:XD)(H:Hp)(Q:VK)(e:XK):Prop
 |mk(M:WR)(a:RA)(s:Pg.PS)(W:ed)(t o:Int)(C:Addr)(_:v=[.ref a.rp,.int t,.int o])(_:az c H M a s W)(_:W.length<=1000)(_:lg t)(_:lg o)(_:D4 xa W (cj s) t o C)(_:∀(H':Hp),aO H H'->e (.ref C) none H')
inductive oX(c:CA)(xa:XA)(v:XD)(H:Hp)(Q:VK)(e:XK):Prop
 |mk(M:WR)(a:RA)(s:Pg.PS)(W:ed)(t ad n:Int)(C:Addr)(_:v=[.ref a.rp,.int t,.int ad,.int n])(_:az c H M a s W)(_:lg t)(_:lg n)(_:lg (Rm.eL ad))(_:lg (Rm.eJ ad n))(_:nj xa W t ad n C)(_:∀(H':Hp),aO H H'->e (.ref C) none H')
inductive pR(K:HC)(c:CA)(xa:XA)(v:XD)(H:Hp)(Q:VK)(e:XK):Prop
 |mk(M:WR)(a:RA)(s:Pg.PS)(W:ed)(t ad:Int)(ca:Addr)(cs:W5)(C:Addr)(_:v=[.ref a.rp,.int t,.int ad,.ref ca])(_:az c H M a s W)(_:bD K H ca (cs.map V.int))(_:lg t)(_:lg cs.length)(_:lg (Rm.eL ad))(_:lg (Rm.eJ ad cs.length))(_:nj xa W t ad cs.length C)(_:∀(H':Hp),aO H H'->e (.ref C) none H')
theorem xh{L:Addr}(F:cD K "room_of" "room_of" ox f fd)(I:Rm.pQ K mg "NoTask" L):⇑aX 1 f fd ["rooms","task"] (eF L):=by
 show F.jl Li ?_;intros;let#[a,W,t,rfl,N,G,e,R]:=h;let hs:=ti;show#[_,(aF (dF (jm (hX (bG hr) (pv 1) (pv 0))) (cf (fX rfl I.Ji I.JD rfl rfl (aa (iK (cL (kU (pv 1)) (cL ay kl))) af))) cz) bh),?_];let S:(Str.ofString " has no room").length<=12:=aq;let O:=uz Rm.HN (Rm.li G);let g2:=uz O S;let J:=gr (t:=t) N;rw[e]at J;show#[0,0,a,0,J,0,dR #[0,t,rfl,G,0,ag,0,ag,ag,m6,R]]
theorem xH{I:Addr}(F:cD K "refuse_second_room" "refuse_second_room" nH f fd)(XK:Rm.pQ K mg "Taken" I):⇑aX 1 f fd ["rooms","task"] (jH I):=by
 show F.jl AA ?_;intros;let#[a,W,t,x,rfl,R,G,e,L]:=h;let hs:=ti;show#[_,(cf (dF (jm (mG (bG hr) (pv 1) (pv 0))) (cf (fX rfl XK.Ji XK.JD rfl rfl (aa (iK (cL (kU (pv 1)) (cL ay kl))) af))) cz)),?_];let N:(Str.ofString " has a room").length<=11:=aq;let O:=uz Rm.HN (Rm.li G);let g2:=uz O N;let J:=gr (t:=t) R;rw[e]at J;show#[0,0,a,0,J,0,dR #[0,t,rfl,G,0,ag,0,ag,ag,m6,L]]
theorem Af{CR:Addr}(F:cD K "refuse_above" "refuse_above" tf f fd)(XR:Rm.pQ K mg "NoRoom" CR):⇑aX 1 f fd ["held","total"] (lH CR):=by
 show F.jl KQ ?_;intros;let#[h,t,rfl,O,S,c,J]:=h;let hs:=ti;show#[_,(cf (dF (aA gY (pv 0) (pv 1) (aH _)) (cf (fX rfl XR.Ji XR.JD rfl rfl (aa (iK (cL (kU (pv 0)) (cL ay (cL (kU (pv 1)) kl)))) af))) cz)),?_];let I:lg h:=Cf ag ag;let G:lg t:=Cf ag ag;let L:(Str.ofString " pages are more than ").length<=21:=aq;let N:=uz Rm.HN (Rm.li I);let g2:=uz N L;let R:=uz g2 (Rm.li G);show#[0,0,_,0,rfl,0,?_];show hV (λc=>?_) (λz=>absurd (decide_eq_true c) z);show#[0,h,rfl,I,0,ag,0,ag,0,t,rfl,G,0,ag,ag,m6,J]
theorem yo{c:CA}{xa:XA}(F:cD K "begin" "Rooms.begin" nJ f fd)(T:ku K mg c)(I:⇑Df 1 "refuse_second_room" (jH xa.tk)):⇑aX 2 f fd ["self","task"] (ma c xa):=by
 show F.jl Kv ?_;intros;let#[M,a,s',W,t,x,rfl,R,G,J,q]:=h;let#[dx,L]:=R.ob;show#[_,(aF (fP (rl I hr (aa (aI (pv 0) rfl) (aa (pv 1) af)))) bh),?_];show#[0,a.rp,c.C,dx,_,0,L,T.cl,T.nR,cI _ _ _,0,a.rd,W,t,x,rfl,R.hd,G,J,q]
theorem yR{c:CA}{xa:XA}(F:cD K "close" "Rooms.close" nX f fd)(T:ku K mg c)(J:⇑Df 1 "room_of" (eF xa.nt)):⇑aX 2 f fd ["self","task"] (mq c xa):=by
 show F.jl E5 ?_;intros;let#[M,a,s',W,t,rfl,R,G,I,q]:=h;let#[dx,L]:=R.ob;show#[_,(aF (Bw 2 E5.nd (rl J hr (aa (aI (pv 0) rfl) (aa (pv 1) af)))) bh),?_];show#[0,a.rp,c.C,dx,_,0,L,T.cl,T.nR,cI _ _ _,0,a.rd,W,t,rfl,R.hd,G,I,q]
theorem BL{c:CA}{xa:XA}(F:cD K "map" "Rooms.map" zP f fd)(T:ku K mg c)(TT:Tb.Txt K mg c.T)(a3:⇑Df 1 "room_of" (eF xa.nt))(GR:↥Df 1 "room_of" cH)(GM:↥Df 2 "pages_to_map" Rm.ou)(a2:⇑Df 2 "pages_to_map" (Rm.qh xa.np xa.tk))(GA:⇑Df 1 "refuse_above" (lH xa.nr))(ap:↥Md 1 c.T "pages" (Tb.di c.T))(GH:↥Md 2 c.C "held" (iH c)):⇑aX 4 f fd ["self","task","page","many"] (tQ c xa):=by
 show F.jl rD ?_;intros;let#[M,a,s',W,t,p,m,C,rfl,R,lw,le,lt,lp,lm,L,q]:=h;let#[dx,S]:=R.ob;rcases L with⟨J,rfl⟩|⟨x,J,L⟩
 .show#[_,(aF (Bw 4 rD.nd (rl a3 hr (aa (aI (pv 0) rfl) (aa (pv 1) af)))) bh),?_];show#[0,a.rp,c.C,dx,_,0,S,T.cl,T.nR,cI _ _ _,0,a.rd,W,t,rfl,R.hd,lt,J,q H (aO.refl H)]
 let I:=R.tb _ (Tb.aC J);let#[ad,ht]:=I.at_.ob;cases am:¬ Rm.bH p m/\∀z∈Rm.aP p m,Tb.look x.t z=none
 .let#[G,ac]:=am;obtain⟨a7,rfl⟩:cj s'<(ents W).length+m/\C=xa.nr:=by
   rcases L with⟨z,_⟩|⟨_,⟨z,U,O⟩,_⟩|⟨_,_,z⟩
   .show absurd z G
   .show absurd (ac z U) O
   .show z
  let b1:¬ m<1:=λz=>G (.inl z);let b2:¬ p<0:=λz=>G (.inr (.inl z));let b3:¬ 64<p+m:=λz=>G (.inr (.inr z));let pl:=qg G;show#[_,(aF (dD (cK 4 rD.nd (pc GR hr ax (aa (aI (pv 0) rfl) (aa (pv 1) af)))))
   (aF (dD (cK 5 rD.nd (pc GM hr ax (aa (mR (pv 4) TT.cl ap hr ax) (aa (pv 2) (aa (pv 3) af))))))
   (aF (fP (rl GA hr (aa (ar aZ (mR (pv 0) T.cl GH hr ax) (aL bu (by rfl) T.len boot_len (aa (pv 5) af))) (aa (aI (pv 0) rfl) af))))
   bh))),?_]
  show#[0,a.rp,c.C,dx,_,0,S,T.cl,T.nR,cI _ _ _,0,a.rd,W,t,x,rfl,R.hd,J,?_];show#[0,x.p,ad,0,ht,Tb.aW _ aq,x.p,x.fs,x.tb,rfl,I.at_,λH1 N ns Y aB ab pm a4=>?_];show#[0,0,N,ns,p,m,rfl,ab,G,λz h1 h2=>absurd (ac z h1) ((I.mem pm z).mp h2),λH2 l2 s2 a6 a5=>?_];let S2:=Y.trans s2;let R2:=R.same S2;let#[a1,as]:=R2.ob;show#[0,a.rp,a1,0,as,fV _ _ _ aq aq aq,M,a,s',W,rfl,R2,lw,λH3 s3=>?_];let aD:=s3 _ _ a5;let R3:=R2.same s3;let#[a0,aT]:=R3.ob;show#[0,l2,0,.inl (bD.of aD),_,0,rfl,0,a.rp,c.C,a0,_,0,aT,T.cl,T.nT,Fy _ _ _,_,0,3,?_,q H3 (S2.trans s3)]
  .rw[k9,pl];omega
  .unfold cj;omega
  .rw[k9,pl];omega
 .show#[_,(aF (dD (cK 4 rD.nd (pc GR hr ax (aa (aI (pv 0) rfl) (aa (pv 1) af)))))
   (aF (Bw 5 rD.nd (rl a2 hr (aa (mR (pv 4) TT.cl ap hr ax) (aa (pv 2) (aa (pv 3) af))))) bh)),?_]
  show#[0,a.rp,c.C,dx,_,0,S,T.cl,T.nR,cI _ _ _,0,a.rd,W,t,x,rfl,R.hd,J,?_];show#[0,x.p,ad,0,ht,Tb.aW _ aq,x.p,x.fs,x.tb,rfl,I.at_,λH1 N ns Y aB ab pm a4=>?_];show#[0,0,N,ns,p,m,C,rfl,ab,lp,lm,?_,λH2 s2=>q H2 (Y.trans s2)];rcases L with z|⟨z,⟨y,y1,y2⟩,O⟩|⟨z,U,_⟩
  .show .inl z
  .show .inr #[z,#[y,y1,(I.mem pm y).mpr y2],O]
  .show absurd #[z,U] am
theorem Aa{c:CA}{xa:XA}(F:cD K "drop" "Rooms.drop" sZ f fd)(T:ku K mg c)(TT:Tb.Txt K mg c.T)(ac:⇑Df 1 "room_of" (eF xa.nt))(GR:↥Df 1 "room_of" cH)(ad:⇑Df 2 "pages_to_drop" (Rm.my xa.np))(Y:↥Md 1 c.T "pages" (Tb.di c.T))(am:↥Md 5 c.C "leave_pages" (fC c)):⇑aX 3 f fd ["self","task","page","many"] (qK c xa):=by
 show F.jl Ea ?_;intros;let#[M,a,s',W,t,p,m,C,rfl,R,lt,lp,O,L,q]:=h;let#[dx,J]:=R.ob;rcases L with⟨G,rfl⟩|⟨x,G,L,rfl⟩
 .show#[_,(aF (Bw 4 Ea.nd (rl ac hr (aa (aI (pv 0) rfl) (aa (pv 1) af)))) bh),?_];show#[0,a.rp,c.C,dx,_,0,J,T.cl,T.nR,cI _ _ _,0,a.rd,W,t,rfl,R.hd,lt,G,q H (aO.refl H)]
 let I:=R.tb _ (Tb.aC G);let#[U,N]:=I.at_.ob;show#[_,(aF (dD (cK 4 Ea.nd (pc GR hr ax (aa (aI (pv 0) rfl) (aa (pv 1) af)))))
  (cf (fP (Bq (pv 0) T.cl am (BV (pv 4) (DM (rl ad hr (aa (mR (pv 4) TT.cl Y hr ax) (aa (pv 2) (aa (pv 3) af)))))))))),?_]
 show#[0,a.rp,c.C,dx,_,0,J,T.cl,T.nR,cI _ _ _,0,a.rd,W,t,x,rfl,R.hd,G,?_];show#[0,a.rp,dx,0,J,fV _ _ _ aq aq aq,0,0,x.p,U,0,N,Tb.aW _ aq,x.p,x.fs,x.tb,rfl,I.at_,λH1 S ns s1 ap ab pm as=>?_];show#[0,0,S,ns,p,m,rfl,ab,lp,O,?_,λH2 s2=>q H2 (s1.trans s2)];rcases L with z|⟨y,y1,y2⟩
 .show .inl z
 .show .inr λz=>(I.mem pm y).mp (z y y1) y2
theorem Bf{c:CA}{xa:XA}(F:cD K "copy" "Rooms.copy" uk f fd)(T:ku K mg c)(TT:Tb.Txt K mg c.T)(a1:⇑Df 1 "room_of" (eF xa.nt))(S:↥Df 1 "room_of" cH)(ac:⇑Df 1 "refuse_second_room" (jH xa.tk))(GS:↥Df 1 "refuse_second_room" jc)(GA:⇑Df 1 "refuse_above" (lH xa.nr))(aB:↥Md 1 c.T "pages" (Tb.di c.T))(GH:↥Md 2 c.C "held" (iH c)):⇑aX 5 f fd ["self","task","other"] (pV c xa):=by
 show F.jl pB ?_;intros;let#[M,a,s',W,t,o,C,rfl,R,lw,lt,lo,rf,q]:=h;let#[dx,I]:=R.ob;rcases rf with⟨G,rfl⟩|⟨x,G,⟨Y,rfl⟩|⟨ad,a3,le,rfl⟩⟩
 .show#[_,(aF (Bw 3 pB.nd (rl a1 hr (aa (aI (pv 0) rfl) (aa (pv 1) af)))) bh),?_];show#[0,a.rp,c.C,dx,_,0,I,T.cl,T.nR,cI _ _ _,0,a.rd,W,t,rfl,R.hd,lt,G,q H (aO.refl H)]
 .let#[y,hy]:=Pu.mp Y;show#[_,(aF (dD (cK 3 pB.nd (pc S hr ax (aa (aI (pv 0) rfl) (aa (pv 1) af)))))
   (aF (fP (rl ac hr (aa (aI (pv 0) rfl) (aa (pv 2) af)))) bh)),?_]
  show#[0,a.rp,c.C,dx,_,0,I,T.cl,T.nR,cI _ _ _,0,a.rd,W,t,x,rfl,R.hd,G,?_];show#[0,a.rp,c.C,dx,_,0,I,T.cl,T.nR,cI _ _ _,0,a.rd,W,o,y,rfl,R.hd,lo,hy,q H (aO.refl H)]
 let L:=R.tb _ (Tb.aC G);let#[am,ht]:=L.at_.ob;show#[_,(aF (dD (cK 3 pB.nd (pc S hr ax (aa (aI (pv 0) rfl) (aa (pv 1) af)))))
  (aF (dD (aQ (pc GS hr ax (aa (aI (pv 0) rfl) (aa (pv 2) af)))))
  (aF (dD (cK 4 pB.nd (mR (pv 3) TT.cl aB hr ax)))
  (aF (fP (rl GA hr (aa (ar aZ (mR (pv 0) T.cl GH hr ax) (aL bu (by rfl) T.len boot_len (aa (pv 4) af))) (aa (aI (pv 0) rfl) af))))
  bh)))),?_]
 show#[0,a.rp,c.C,dx,_,0,I,T.cl,T.nR,cI _ _ _,0,a.rd,W,t,x,rfl,R.hd,G,?_];show#[0,a.rp,c.C,dx,_,0,I,T.cl,T.nR,cI _ _ _,0,a.rd,W,o,rfl,R.hd,ad,?_];show#[0,x.p,am,0,ht,Tb.aW _ aq,x.p,x.fs,x.tb,rfl,L.at_,λH1 l1 ns U a2 a0 pm a4=>?_];let J:=R.same U;let O:ns.length=x.t.length:=L.len pm;let#[aT,ap]:=J.ob;show#[0,a.rp,aT,0,ap,fV _ _ _ aq aq aq,M,a,s',W,rfl,J,lw,λH3 N=>?_];let as:=N _ _ a0;let R3:=J.same N;let#[aD,ab]:=R3.ob;show#[0,l1,0,.inl (bD.of as),_,0,rfl,0,a.rp,c.C,aD,_,0,ab,T.cl,T.nT,Fy _ _ _,_,0,3,?_,q H3 (U.trans N)]
 .rw[k9,O];omega
 .unfold cj;omega
 .rw[k9,O];omega
theorem BS{H:Hp}{c:CA}{x:TD}{ad n:Int}{ns:W5}(G:dW c.T H x)(pm:ns.Perm (Tb.gL x.tb))(h:Rm.cQ ad n (x.t.map (·.1))):Rm.cQ ad n ns:=by
 rcases h with z|⟨z,F|F⟩
 .show .inl z
 .show .inr #[z,.inl F]
 .show .inr #[z,.inr λy=>F λq I=>(G.keys q).mpr ((G.mem pm q).mp (y q I))]
theorem AE{c:CA}{xa:XA}(F:cD K "peek" "Rooms.peek" pF f fd)(T:ku K mg c)(TT:Tb.Txt K mg c.T)(as:⇑Df 1 "room_of" (eF xa.nt))(GR:↥Df 1 "room_of" cH)(aB:⇑Df 2 "pages_of_cells" (Rm.iO xa.np))(ac:↥Md 1 c.T "pages" (Tb.di c.T)):⇑aX 3 f fd ["self","task","address","many"] (oX c xa):=by
 show F.jl mK ?_;intros;let#[M,a,s',W,t,ad,n,C,rfl,R,lt,ln,S,lc,J,q]:=h;let#[dx,L]:=R.ob;rcases J with⟨G,rfl⟩|⟨x,G,J,rfl⟩
 .show#[_,(aF (Bw 4 mK.nd (rl as hr (aa (aI (pv 0) rfl) (aa (pv 1) af)))) bh),?_];show#[0,a.rp,c.C,dx,_,0,L,T.cl,T.nR,cI _ _ _,0,a.rd,W,t,rfl,R.hd,lt,G,q H (aO.refl H)]
 show#[_,(aF (dD (cK 4 mK.nd (pc GR hr ax (aa (aI (pv 0) rfl) (aa (pv 1) af)))))
  (aF (dD (cK 5 mK.nd (bz af)))
  (aF (Ee (rl aB hr (aa (mR (pv 4) TT.cl ac hr ax) (aa (pv 2) (aa (pv 3) af))))) bh))),?_]
 show#[0,a.rp,c.C,dx,_,0,L,T.cl,T.nR,cI _ _ _,0,a.rd,W,t,x,rfl,R.hd,G,?_];show#[ao,λwl am=>?_];let N:aO H (upd H wl (.lst [])):=Tb.au am;let U:=R.same N;let I:=U.tb _ (Tb.aC G);let#[ab,O]:=I.at_.ob;show#[0,x.p,ab,0,O,Tb.aW _ aq,x.p,x.fs,x.tb,rfl,I.at_,λH1 Y ns s2 aD ap pm aT=>?_];show#[0,0,Y,ns,ad,n,rfl,ap,ln,S,lc,BS I pm J,λH2 s3=>q H2 (N.trans (s2.trans s3))]
theorem Ap{c:CA}{xa:XA}(F:cD K "poke" "Rooms.poke" qC f fd)(T:ku K mg c)(TT:Tb.Txt K mg c.T)(am:⇑Df 1 "room_of" (eF xa.nt))(GR:↥Df 1 "room_of" cH)(ap:⇑Df 2 "pages_of_cells" (Rm.iO xa.np))(ab:↥Md 1 c.T "pages" (Tb.di c.T)):⇑aX 3 f fd ["self","task","address","cells"] (pR K c xa):=by
 show F.jl ir ?_;intros;let#[M,a,s',W,t,ad,ca,cs,C,rfl,R,as,lt,ln,O,U,J,q]:=h;let#[dx,L]:=R.ob;rcases J with⟨G,rfl⟩|⟨x,G,J,rfl⟩
 .show#[_,(aF (Bw 4 ir.nd (rl am hr (aa (aI (pv 0) rfl) (aa (pv 1) af)))) bh),?_];show#[0,a.rp,c.C,dx,_,0,L,T.cl,T.nR,cI _ _ _,0,a.rd,W,t,rfl,R.hd,lt,G,q H (aO.refl H)]
 let I:=R.tb _ (Tb.aC G);let#[Y,N]:=I.at_.ob;show#[_,(aF (dD (cK 4 ir.nd (pc GR hr ax (aa (aI (pv 0) rfl) (aa (pv 1) af)))))
  (aF (Bw 5 ir.nd (rl ap hr (aa (mR (pv 4) TT.cl ab hr ax) (aa (pv 2) (aa (aL bu (by rfl) T.len boot_len (aa (pv 3) af)) af))))) bh)),?_]
 show#[0,a.rp,c.C,dx,_,0,L,T.cl,T.nR,cI _ _ _,0,a.rd,W,t,x,rfl,R.hd,G,?_];show#[0,x.p,Y,0,N,Tb.aW _ aq,x.p,x.fs,x.tb,rfl,I.at_,λH1 S ns s2 aB ac pm aD=>?_];show#[0,0,ca,0,.inl (Rm.eh as (s2 _)),S,ns,ad,cs.length,by rw[k9];rfl,ac,ln,O,U,BS I pm J,λH2 s3=>q H2 (s2.trans s3)]
end St
namespace Lw
open PySem L2 St
inductive Dd where
 |begin(t:Int)
 |close(t:Int)
 |map(t p m:Int)
 |drop(t p m:Int)
 |peek(t ad n:Int)
 |poke(t ad:Int)(c:Addr)(cs:W5)
 |copy(t o:Int)
def uV:Dd->List V
 |.begin t=>[.str "begin",.int t]
 |.close t=>[.str "close",.int t]
 |.map t p m=>[.str "map",.int t,.int p,.int m]
 |.drop t p m=>[.str "drop",.int t,.int p,.int m]
 |.peek t ad n=>[.str "peek",.int t,.int ad,.int n]
 |.poke t ad c _=>[.str "poke",.int t,.int ad,.ref c]
 |.copy t o=>[.str "copy",.int t,.int o]
def we:Dd->Str
 |.begin _ => "begin" |.close _ => "close" |.map .. => "map" |.drop .. => "drop" |.peek .. => "peek" |.poke .. => "poke" |.copy .. => "copy"
def EN:Dd->Int
 |.begin t=>t|.close t=>t|.map t _ _=>t|.drop t _ _=>t|.peek t _ _=>t|.poke t _ _ _=>t|.copy t _=>t
def jy(H:Hp)(d:Addr)(D:Dd):Prop:=H d=some (.tup (uV D))/\∀t ad c cs,D=.poke t ad c cs->H c=some (.lst (cs.map V.int))
def wL(t:Int):Prop:=lg t/\t<10^58
def uL:Dd->Prop
 |.begin t=>wL t
 |.close t=>wL t
 |.map t p m=>wL t /\ -1000<=p/\p<=1000 /\ -1000<=m/\m<=1000
 |.drop t p m=>wL t /\ -1000<=p/\p<=1000 /\ -1000<=m/\m<=1000
 |.peek t ad n=>wL t /\ -1000<=ad/\ad<=1000 /\ -1000<=n/\n<=100
 |.poke t ad _ cs=>wL t /\ -1000<=ad/\ad<=1000/\cs.length<=100
 |.copy t o=>wL t/\wL o
def yu:Dd->Prop
 |.begin t=>lg t
 |.close t=>lg t
 |.map t p m=>lg t/\lg p/\lg m
 |.drop t p m=>lg t/\lg p/\lg m
 |.peek t ad n=>lg t/\lg n/\lg (Rm.eL ad)/\lg (Rm.eJ ad n)
 |.poke t ad _ cs=>lg t/\lg cs.length/\lg (Rm.eL ad)/\lg (Rm.eJ ad cs.length)
 |.copy t o=>lg t/\lg o
def Fv(Z:Zs)(cj:Int):Dd->Prop
 |.begin t=>Tb.look Z t=none
 |.close t=>∃z,Tb.look Z t=some z
 |.map t p m=>∃z,Tb.look Z t=some z/\¬ Rm.bH p m/\(∀q∈Rm.aP p m,Tb.look z.pl q=none)/\vK Z+m<=cj
 |.drop t p m=>∃z,Tb.look Z t=some z/\¬ Rm.bH p m/\∀q∈Rm.aP p m,Tb.look z.pl q≠none
 |.peek t ad n=>∃z,Tb.look Z t=some z/\rh z.pl ad n
 |.poke t ad _ cs=>∃z,Tb.look Z t=some z/\rh z.pl ad cs.length
 |.copy t o=>∃z,Tb.look Z t=some z/\Tb.look Z o=none/\vK Z+z.pl.length<=cj
def Jl(Z:Zs)(cj:Int)(D:Dd)(r:Str):Prop:=match D with
 |.begin t=>r = "Taken" /\ Tb.look Z t≠none
 |.close t=>r = "NoTask" /\ Tb.look Z t=none
 |.map t p m=>(r = "NoTask" /\ Tb.look Z t=none)\/∃z,Tb.look Z t=some z/\((r = "NoPage" /\ Rm.bH p m)\/(r = "Taken" /\ ¬ Rm.bH p m/\∃q∈Rm.aP p m,Tb.look z.pl q≠none)\/(r = "NoRoom" /\ ¬ Rm.bH p m/\(∀q∈Rm.aP p m,Tb.look z.pl q=none)/\cj<vK Z+m))
 |.drop t p m=>(r = "NoTask" /\ Tb.look Z t=none)\/∃z,Tb.look Z t=some z/\r = "NoPage" /\ (Rm.bH p m\/∃q∈Rm.aP p m,Tb.look z.pl q=none)
 |.copy t o=>(r = "NoTask" /\ Tb.look Z t=none)\/∃z,Tb.look Z t=some z/\((r = "Taken" /\ Tb.look Z o≠none)\/(r = "NoRoom" /\ Tb.look Z o=none/\cj<vK Z+z.pl.length))
 |.peek t ad n=>(r = "NoTask" /\ Tb.look Z t=none)\/∃z,Tb.look Z t=some z/\r = "NoPage" /\ ¬ rh z.pl ad n
 |.poke t ad _ cs=>(r = "NoTask" /\ Tb.look Z t=none)\/∃z,Tb.look Z t=some z/\r = "NoPage" /\ ¬ rh z.pl ad cs.length
theorem Ij{Z:Zs}{cj:Int}{D:Dd}(h:Tb.look Z (EN D)=none)(F:¬ ∃t,D=.begin t):Jl Z cj D "NoTask" := by
 cases D with
 |begin t=>show absurd #[t,rfl] F
 |close t=>show#[rfl,h]
 |map t p m=>show .inl #[rfl,h]
 |drop t p m=>show .inl #[rfl,h]
 |peek t p m=>show .inl #[rfl,h]
 |poke t p m q=>show .inl #[rfl,h]
 |copy t p=>show .inl #[rfl,h]
inductive CY(v:XD)(H:Hp)(Q:VK)(e:XK):Prop
 |mk(m:MA)(cj pk:Int)(Z:Zs)(d:Addr)(D:Dd)(_:v=[.ref m.md,.ref d])(_:cG H m cj pk Z)(_:Z.length<=1000)(_:jy H d D)(_:∀(r:Str)(H':Hp),aO H H'->(r = "" /\ Fv Z cj D)\/Jl Z cj D r->Q (.str r) H')
theorem at2{a b:V}(k:Bool):xA [a,b] (if k=true then 1 else 0)=some (if k=true then b else a):=by cases k<;>rfl
theorem E2(D:Dd):gv (uV D) none (some 2)=[.str (we D),.int (EN D)]:=by cases D<;>rfl
theorem Br{D:Dd}(h:HT.dY (uV D).length 0 none=0/\HT.dY (uV D).length (uV D).length (some 2)=(uV D).length):uV D=[.str (we D),.int (EN D)]:=by
 let#[_,h]:=h;cases D<;>first|rfl|(show absurd (show HT.dY 4 4 (some 2)=4 from h) ao)|(show absurd (show HT.dY 3 3 (some 2)=3 from h) ao)
theorem vN:aE ["_law_model_here","_law_deed_here","_law_rooms","_law_name","_law_task","_law_room","_law_page","_law_many","_law_there"] ["_law_model_here","_law_deed_here"] (aw Hv):=L2.bW
theorem bS{a b:Str}(h:a≠b:=by dsimp only[we];decide +kernel):¬ V.str a=V.str b:=ks_ne h
section
variable{D:Ends}{σ:L2.St}{H:Hp}{t u:TS}{i:Nat}{x y:V}
theorem lQ(h:σ[i]?=some (some x))(s:vS x y=true)(n:¬ x=y)(k:u D σ H):cB (rA (pW (EL Ic (vX i) (tC y))) t pI) u D σ H:=gc λ_ _ e=>iY (cV h) cW s n (e _ k)
theorem DB(h:σ[i]?=some (some x))(s:vS x x=true)(k:t { D with nx:=u D } σ H):cB (rA (pW (EL Ic (vX i) (tC x))) t pI) u D σ H:=gc λ_ e _=>eqT (cV h) cW s (e _ k)
theorem qR(h:σ[i]?=some (some x))(s:vS x y=true)(n:¬ x=y)(k:u D σ H):rA (pW (EL Ic (vX i) (tC y))) t u D σ H:=iY (cV h) cW s n (cq k)
theorem JT(h:σ[i]?=some (some x))(s:vS x x=true)(k:t D σ H):rA (pW (EL Ic (vX i) (tC x))) t u D σ H:=eqT (cV h) cW s (dR k)
end
theorem HB(F:cD K "_law_due" "_law_due" Hv f fd)(T:mj mg)(a3:↥Df 1 "_law_held" nV)(a4:↥Df 1 "_law_stretch" ml) :
  ↥aX 2 f fd ["_law_model_here","_law_deed_here"] CY:=by
 show F.dU vN ?_;intros;let#[m,cj,pk,Z,d,D,rfl,M,lz,hd,k]:=h;let hs:=ti;show#[_,(ai (cK 2 vN.nd (bP (bG hr) (pv 0) ay cy))
  (ai (dP (cZ kY (pv 1) fw (de ah)) (fJ rfl (bL (iW 3 vN.nd) (bL (iW 4 vN.nd) dX))))
  (ai (bo (aA bZ (pv 3) ay (aH _)) (ak (aG (aS bX (bz (aa ay (aa ay af))) (bU fm (by rfl) T.int jn (aa (xN (mG (bG hr) (pv 4) (pv 2))) af)) cy))) aK)
  (ai (bo (jm (hX (bG hr) (pv 4) (pv 2))) (ak (aG ay)) aK)
  (ai (cK 5 vN.nd (bP (bG hr) (pv 2) (pv 4) cy))
  (ai (bo (PW.pt (ie (aA bZ (pv 3) ay (aH _)) (gT (aA bZ (pv 3) ay (aH _))))) (ai (dP (cZ kY (pv 1) (de ah) fw) (fJ rfl (bL (iW 6 vN.nd) (bL (iW 7 vN.nd) dX))))
  (ai (bo (PW.pt (ie (aA gp (pv 7) ah (aH _)) (ie (aA gp (pv 6) ah (aH _)) (gT (aA gY (ar aZ (pv 6) (pv 7)) ah (aH _)))))) (ak (aG ay)) aK)
  (ai (zS (i:=8) (cl:=[("_law_room",s⁻¹+1)]) (caps:=[("_law_room",5)]) vN.nd rfl (RT rfl) #[rfl,aq,aq,rfl,by kernel_rfl,by intro p hp;simp only[t7,vr,or_false]at hp;rcases hp with rfl<;>first|rfl|show#[rfl,.inl rfl,.inl rfl]|show#[rfl,.inl rfl,.inr rfl],by kernel_rfl,by intro p hp;simp only[t7,vr,or_false]at hp;rcases hp with rfl<;>first|rfl|show#[rfl,.inl rfl,.inl rfl]|show#[rfl,.inl rfl,.inr rfl],aq] rfl (ff (by rfl) T.range (aa (pv 6) (aa (ar aZ (pv 6) (pv 7)) af))) (λ_ _ _ _=>gg) (λ_ _ _ _=>(xN (mG (bG hr) (pv 0) (pv 1)))))
  (ai (bo (aA bZ (pv 3) ay (aH _)) (ak (aG (aS bX (bz (aa ay (aa ay af))) (bU fm (by rfl) T.int jn (aa (aL (rK rfl) (by rfl) T.all Eo (aa (pv 8) af)) af)) cy))) aK)
  (ai (bo (fE (aL (Ae rfl) (by rfl) T.any Jh (aa (pv 8) af))) (ak (aG ay)) aK)
  (ak (aG (aS bX (bz (aa ay (aa ay af))) (bU fm (by rfl) T.int jn (aa (jL gY (ar aZ (pc a3 hr ax (aa (pv 0) af)) (pv 7)) (bP (bG hr) (pv 0) ay cy) (aH _)) af)) cy)))))))) aK)
  (ai (bo (aA bZ (pv 3) ay (aH _)) (ak (aG (aS bX (bz (aa ay (aa ay af))) (bU fm (by rfl) T.int jn (aa (pc a4 hr ax (aa (pv 5) (aa (aS bw (pv 1) ah cy) (aa (aS bw (pv 1) ah cy) af)))) af)) cy))) aK)
  (ai (bo (aA bZ (pv 3) ay (aH _)) (ak (aG (aS bX (bz (aa ay (aa ay af))) (bU fm (by rfl) T.int jn (aa (pc a4 hr ax (aa (pv 5) (aa (aS bw (pv 1) ah cy) (aa (aL bu (by rfl) T.len boot_len (aa (aS bw (pv 1) ah cy) af)) af)))) af)) cy))) aK)
  (ai (bo (aA bZ (pv 3) ay (aH _)) (ai (bo (jm (mG (bG hr) (aS bw (pv 1) ah cy) (pv 2))) (ak (aG ay)) aK)
  (ak (aG (aS bX (bz (aa ay (aa ay af))) (bU fm (by rfl) T.int jn (aa (jL gY (ar aZ (pc a3 hr ax (aa (pv 0) af)) (aL jK (by rfl) T.len boot_len (aa (pv 5) af))) (bP (bG hr) (pv 0) ay cy) (aH _)) af)) cy)))) aK)
  (ak (aG ay))))))))))),?_]
 show dv λ_ jt=>?_;show#[0,m.md,.ref m.lr,rfl,M.g (v5 _ _ _ _),jt _ _ ?_];show share (λσ H1=>aO H H1/\σ=#v[.ref m.md,.ref d,.ref m.lr,.str (we D),.int (EN D),none,none,none,none]) (λu' a2=>?A) ?B
 case A =>
  show#[0,0,d,0,cu.of hd.1,λc=>?_,λ_ p hp=>?_]
  .show#[d,0,cu.of hd.1,by rw[Br c];rfl,by rw[Br c];show#[_,0,_,0,rfl,a2 _ _ #[aO.refl H,rfl]]]
  .rw[E2];show#[p,0,cu.of ae,4,0,_,0,rfl,a2 _ _ #[Tb.au hp,rfl]]
 case B =>
 rintro σ H1 ⟨I,rfl⟩;let M1:=M.same I;let ab:H1 d=some (.tup (uV D)):=I _ _ hd.1;let a5:∀t ad c cs,D=.poke t ad c cs->H1 c=some (.lst (cs.map V.int)):=λt ad c cs e=>I _ _ (hd.2 t ad c cs e);cases aD:∃t,D=.begin t
 .let#[t,rfl]:=aD;show DB rfl rfl ?_;show#[dN,λl S=>?_];let s2:=Tb.au (X:=.lst [.str "",.str "Taken"]) S;let h2:upd H1 l (.lst [.str "",.str "Taken"]) l=some (.lst [.str "",.str "Taken"]):=ae;show#[0,0,m.lr,0,gr (t:=t) (M1.same s2).hr,?_];show .inr #[0,l,2,0,rfl,bD.of h2,at2 _,?_];cases J:Tb.look Z t with
  |some z=>show k "Taken" _ (I.trans s2) (.inr #[rfl,by rw[J];show λz=>by cases z])
  |none=>show k "" _ (I.trans s2) (.inl #[rfl,J])
 let nb:we D ≠ "begin" := by
  cases D with
  |begin t=>show absurd #[t,rfl] aD
  |close t=>show(show ¬ (("close" : Str) = "begin")by decide +kernel)
  |map t p m=>show(show ¬ (("map" : Str) = "begin")by decide +kernel)
  |drop t p m=>show(show ¬ (("drop" : Str) = "begin")by decide +kernel)
  |peek t p m=>show(show ¬ (("peek" : Str) = "begin")by decide +kernel)
  |poke t p m q=>show(show ¬ (("poke" : Str) = "begin")by decide +kernel)
  |copy t p=>show(show ¬ (("copy" : Str) = "begin")by decide +kernel)
 show gc λ_ R N=>?_;show iY (cV rfl) cW rfl (ks_ne nb) (N _ ?_);clear R N;show gc λ_ R N=>?_;show#[0,0,m.lr,0,gr (t:=EN D) M1.hr,?_];cases J:Tb.look Z (EN D)with
 |none=>show#[true,rfl,R _ (k "NoTask" H1 I (.inr (Ij J aD)))]
 |some z =>
 show#[false,rfl,N _ ?_];clear R N;let hg:=gr (t:=EN D) M1.hr;rw[J]at hg;let ap:=Tb.aC J;show dv λ_ jt=>?_;show#[0,0,m.lr,fW z,rfl,hg,jt _ _ ?_];clear jt;cases D with
 |begin t=>show absurd #[t,rfl] aD
 |close t =>
  show gc λ_ R N=>?_;show iY (cV rfl) cW rfl bS (cq (iY (cV rfl) cW rfl bS (N _ ?_)));show lQ rfl rfl bS (lQ rfl rfl bS ?_);show lQ rfl rfl bS ?_;show k "" H1 I (.inl #[rfl,z,J])
 |peek t ad n =>
  show gc λ_ R N=>?_;show iY (cV rfl) cW rfl bS (cq (iY (cV rfl) cW rfl bS (N _ ?_)));show DB rfl rfl ?_;show#[dN,λl S=>?_];let s2:=Tb.au (X:=.lst [.str "NoPage",.str ""]) S;let h2:upd H1 l (.lst [.str "NoPage",.str ""]) l=some (.lst [.str "NoPage",.str ""]):=ae;show#[0,0,d,2,.int ad,1,cu.of (s2 _ _ ab),rfl,0,d,2,.int n,1,cu.of (s2 _ _ ab),rfl,z.ra,z.pl,ad,n,rfl,s2 _ _ (M1.rm _ ap),λb L O Y=>?_];show .inr #[b,rfl,l,2,0,rfl,bD.of (O _ _ h2),at2 b,?_];cases b
  .show k "NoPage" L (I.trans (s2.trans O)) (.inr (.inr #[z,J,rfl,λw=>by cases Y.mpr w]))
  .show k "" L (I.trans (s2.trans O)) (.inl #[rfl,z,J,Y.mp rfl])
 |poke t ad c cs =>
  show gc λ_ R N=>?_;show iY (cV rfl) cW rfl bS (cq (iY (cV rfl) cW rfl bS (N _ ?_)));show lQ rfl rfl bS (DB rfl rfl ?_);show#[dN,λl S=>?_];let s2:=Tb.au (X:=.lst [.str "NoPage",.str ""]) S;let h2:upd H1 l (.lst [.str "NoPage",.str ""]) l=some (.lst [.str "NoPage",.str ""]):=ae;show#[0,0,d,2,.int ad,1,cu.of (s2 _ _ ab),rfl,0,d,2,.ref c,1,cu.of (s2 _ _ ab),rfl,c,0,.inl (bD.of (s2 _ _ (a5 _ _ _ _ rfl))),z.ra,z.pl,ad,cs.length,by rw[k9];rfl,s2 _ _ (M1.rm _ ap),λb L O Y=>?_];show .inr #[b,rfl,l,2,0,rfl,bD.of (O _ _ h2),at2 b,?_];cases b
  .show k "NoPage" L (I.trans (s2.trans O)) (.inr (.inr #[z,J,rfl,λw=>by cases Y.mpr w]))
  .show k "" L (I.trans (s2.trans O)) (.inl #[rfl,z,J,Y.mp rfl])
 |copy t o =>
  show gc λ_ R N=>?_;show iY (cV rfl) cW rfl bS (cq (iY (cV rfl) cW rfl bS (N _ ?_)));show lQ rfl rfl bS (lQ rfl rfl bS ?_);show DB rfl rfl ?_;show gc λ_ R N=>?_;show#[0,d,2,.int o,1,cu.of ab,rfl,0,m.lr,0,gr (t:=o) M1.hr,?_];cases eo:Tb.look Z o with
  |some _=>show#[true,rfl,R _ (k "Taken" H1 I (.inr (.inr #[z,J,.inl #[rfl,by rw[eo];show λz=>by cases z]])))]
  |none =>
  show#[false,rfl,N _ ?_];show#[dN,λl S=>?_];let s2:=Tb.au (X:=.lst [.str "",.str "NoRoom"]) S;let h2:upd H1 l (.lst [.str "",.str "NoRoom"]) l=some (.lst [.str "",.str "NoRoom"]):=ae;show#[0,m,cj,pk,Z,rfl,M1.same s2,lz,λL O=>?_];let M3:=(M1.same s2).same O;show#[0,z.ra,0,M3.rm _ ap,_,0,rfl,0,m.md,.int cj,rfl,M3.g (HX _ _ _ _),_,0,5];show .inr #[0,l,2,0,rfl,bD.of (O _ _ h2),at2 _,?_];rw[Tb.cA];cases c:cj<vK Z+z.pl.length
  .rw[decide_eq_true c];show k "NoRoom" L (I.trans (s2.trans O)) (.inr (.inr #[z,J,.inr #[rfl,eo,c]]))
  .rw[decide_eq_false c];show k "" L (I.trans (s2.trans O)) (.inl #[rfl,z,J,eo,ag])
 |map t p G =>
  show gc λ_ R N=>?_;show eqT (cV rfl) cW rfl (dR (R _ ?_));show#[0,0,d,0,cu.of ab,λc=>absurd c (by rintro⟨c,_⟩;show absurd (show HT.dY 4 0 (some 2)=0 from c) ao),λ_ p' aT=>?_];let s2:=Tb.au (X:=.tup [.int p,.int G]) aT;let ec:∀x:Str,gv [V.str x,V.int t,V.int p,V.int G] (some 2) none=[V.int p,V.int G]:=λ_=>rfl;dsimp only[uV];rw[ec];show#[p',[.int p,.int G],rfl,cu.of ae,4,0,_,0,5];let a6:=s2 _ _ ab;let M2:=M1.same s2;generalize upd H1 p' (.tup [.int p,.int G])=H2 at *;show gc λ_ U as=>?_;let np:Rm.bH p G->Jl Z cj (.map t p G) "NoPage" := λh=>.inr #[z,J,.inl #[rfl,h]];show#[0,_,0,rfl,0,?_];cases c1:G<1
  .rw[decide_eq_true c1];show dR (U _ (k "NoPage" H2 (I.trans s2) (.inr (np (.inl c1)))))
  rw[decide_eq_false c1];show cq ?_;show#[0,_,0,rfl,0,?_];cases c2:p<0
  .rw[decide_eq_true c2];show dR (U _ (k "NoPage" H2 (I.trans s2) (.inr (np (.inr (.inl c2))))))
  rw[decide_eq_false c2];show cq ?_;show#[0,0,_,0,4,0,rfl,0,?_];cases c:(64:Int)<p+G
  .rw[decide_eq_true c];show U _ (k "NoPage" H2 (I.trans s2) (.inr (np (.inr (.inr c)))))
  rw[decide_eq_false c];show as _ ?_;clear U as;let aB:¬ Rm.bH p G:=λh=>by
   rcases h with h|h|h<;>omega
  show#[0,0,0,_,0,4,0,#[ag,ag,ag,ag],?_];show fj (lo:=p) (n:=(p+G-p).toNat) (λi ys L=>ys=((Ox i).map λj:Nat=>(Tb.look z.pl (p+j)).isSome).map V.bl/\L=H2) #[1] ?_ ?_
  .rintro i ys L hi ⟨rfl,rfl⟩;show#[0,0,z.ra,0,gr (M2.rm _ ap),3,rfl]
   .rw[k9,k9,Qf];omega
   .rw[UH,IF,IF];change _++[V.bl ((Tb.look z.pl (p+(i:Int))).map gU).isSome]=_;rw[Rx];rfl
  rintro ys L ⟨rfl,rfl⟩ l S;let O:=Tb.au (X:=.lst (((Ox (p+G-p).toNat).map λj:Nat=>(Tb.look z.pl (p+j)).isSome).map V.bl)) S;let h3:upd L l (.lst (((Ox (p+G-p).toNat).map λj:Nat=>(Tb.look z.pl (p+j)).isSome).map V.bl)) l=some (.lst (((Ox (p+G-p).toNat).map λj:Nat=>(Tb.look z.pl (p+j)).isSome).map V.bl)):=ae;let am:Rm.aP p G=(Ox (p+G-p).toNat).map λj:Nat=>p+j:=(by unfold Rm.aP;rw[show p+G-p=G by omega]);generalize upd L l (.lst (((Ox (p+G-p).toNat).map λj:Nat=>(Tb.look z.pl (p+j)).isSome).map V.bl))=H4 at *;let M4:=M2.same O;let S4:=I.trans (s2.trans O);show nameQ ?_;dsimp only;show lQ rfl rfl bS ?_;show gc λ_ R N=>?_;show#[0,l,0,bD.of h3,0,?_];cases ea:(((Ox (p+G-p).toNat).map λj:Nat=>(Tb.look z.pl (p+j)).isSome)).any id with
  |true =>
   let#[b,Y,ac]:=Ry.mp ea;let#[j,hj,rfl]:=rk.mp Y;show R _ (k "Taken" H4 S4 (.inr (.inr #[z,J,.inr (.inl #[rfl,aB,p+j,by rw[am];show rk.mpr #[j,hj,rfl],λw=>?_])])));let ac:((Tb.look z.pl (p+(j:Int))).isSome)=true:=ac;rwa[w]at ac
  |false =>
  show N _ ?_;show#[dN,λl2 a0=>?_];let s5:=Tb.au (X:=.lst [.str "",.str "NoRoom"]) a0;let h5:upd H4 l2 (.lst [.str "",.str "NoRoom"]) l2=some (.lst [.str "",.str "NoRoom"]):=ae;show#[0,m,cj,pk,Z,rfl,M4.same s5,lz,λH6 s6=>?_];let M6:=(M4.same s5).same s6;show#[0,_,0,rfl,0,m.md,.int cj,rfl,M6.g (HX _ _ _ _),_,0,5];show .inr #[0,l2,2,0,rfl,bD.of (s6 _ _ h5),at2 _,?_];let a1:∀q∈Rm.aP p G,Tb.look z.pl q=none:=λq hq=>by
   rw[am]at hq;let#[j,hj,rfl]:=rk.mp hq;let e:=UU.mp ea ((Tb.look z.pl (p+(j:Int))).isSome) (rk.mpr #[j,hj,rfl]);cases w:Tb.look z.pl (p+(j:Int))with
   |none=>rfl
   |some _=>rw[w]at e;show absurd rfl e
  cases c3:cj<vK Z+G
  .rw[decide_eq_true c3];show k "NoRoom" H6 (S4.trans (s5.trans s6)) (.inr (.inr #[z,J,.inr (.inr #[rfl,aB,a1,c3])]))
  .rw[decide_eq_false c3];show k "" H6 (S4.trans (s5.trans s6)) (.inl #[rfl,z,J,aB,a1,ag])
 |drop t p G =>
  show gc λ_ R N=>?_;show iY (cV rfl) cW rfl bS (cq (eqT (cV rfl) cW rfl (R _ ?_)));show#[0,0,d,0,cu.of ab,λc=>absurd c (by rintro⟨c,_⟩;show absurd (show HT.dY 4 0 (some 2)=0 from c) ao),λ_ p' aT=>?_];let s2:=Tb.au (X:=.tup [.int p,.int G]) aT;let ec:∀x:Str,gv [V.str x,V.int t,V.int p,V.int G] (some 2) none=[V.int p,V.int G]:=λ_=>rfl;dsimp only[uV];rw[ec];show#[p',[.int p,.int G],rfl,cu.of ae,4,0,_,0,5];let a6:=s2 _ _ ab;let M2:=M1.same s2;generalize upd H1 p' (.tup [.int p,.int G])=H2 at *;show gc λ_ U as=>?_;let np:Rm.bH p G->Jl Z cj (.drop t p G) "NoPage" := λh=>.inr #[z,J,rfl,.inl h];show#[0,_,0,rfl,0,?_];cases c1:G<1
  .rw[decide_eq_true c1];show dR (U _ (k "NoPage" H2 (I.trans s2) (.inr (np (.inl c1)))))
  rw[decide_eq_false c1];show cq ?_;show#[0,_,0,rfl,0,?_];cases c2:p<0
  .rw[decide_eq_true c2];show dR (U _ (k "NoPage" H2 (I.trans s2) (.inr (np (.inr (.inl c2))))))
  rw[decide_eq_false c2];show cq ?_;show#[0,0,_,0,4,0,rfl,0,?_];cases c:(64:Int)<p+G
  .rw[decide_eq_true c];show U _ (k "NoPage" H2 (I.trans s2) (.inr (np (.inr (.inr c)))))
  rw[decide_eq_false c];show as _ ?_;clear U as;let aB:¬ Rm.bH p G:=λh=>by
   rcases h with h|h|h<;>omega
  show#[0,0,0,_,0,4,0,#[ag,ag,ag,ag],?_];show fj (lo:=p) (n:=(p+G-p).toNat) (λi ys L=>ys=((Ox i).map λj:Nat=>(Tb.look z.pl (p+j)).isSome).map V.bl/\L=H2) #[1] ?_ ?_
  .rintro i ys L hi ⟨rfl,rfl⟩;show#[0,0,z.ra,0,gr (M2.rm _ ap),3,rfl]
   .rw[k9,k9,Qf];omega
   .rw[UH,IF,IF];change _++[V.bl ((Tb.look z.pl (p+(i:Int))).map gU).isSome]=_;rw[Rx];rfl
  rintro ys L ⟨rfl,rfl⟩ l S;let O:=Tb.au (X:=.lst (((Ox (p+G-p).toNat).map λj:Nat=>(Tb.look z.pl (p+j)).isSome).map V.bl)) S;let h3:upd L l (.lst (((Ox (p+G-p).toNat).map λj:Nat=>(Tb.look z.pl (p+j)).isSome).map V.bl)) l=some (.lst (((Ox (p+G-p).toNat).map λj:Nat=>(Tb.look z.pl (p+j)).isSome).map V.bl)):=ae;let am:Rm.aP p G=(Ox (p+G-p).toNat).map λj:Nat=>p+j:=(by unfold Rm.aP;rw[show p+G-p=G by omega]);generalize upd L l (.lst (((Ox (p+G-p).toNat).map λj:Nat=>(Tb.look z.pl (p+j)).isSome).map V.bl))=H4 at *;let M4:=M2.same O;let S4:=I.trans (s2.trans O);show nameQ ?_;dsimp only;show DB rfl rfl ?_;show#[dN,λl2 a0=>?_];let s5:=Tb.au (X:=.lst [.str "NoPage",.str ""]) a0;let h5:upd H4 l2 (.lst [.str "NoPage",.str ""]) l2=some (.lst [.str "NoPage",.str ""]):=ae;show#[0,l,0,bD.of (s5 _ _ h3),?_];show .inr #[0,l2,2,0,rfl,bD.of h5,at2 _,?_];cases ea:(((Ox (p+G-p).toNat).map λj:Nat=>(Tb.look z.pl (p+j)).isSome)).all id with
  |false =>
   let#[b,Y,ac]:=List.all_eq_false.mp ea;let#[j,hj,rfl]:=rk.mp Y;show k "NoPage" _ (S4.trans s5) (.inr (.inr #[z,J,rfl,.inr #[p+j,by rw[am];show rk.mpr #[j,hj,rfl],?_]]));cases w:Tb.look z.pl (p+(j:Int))with
   |none=>rfl
   |some _=>show absurd (by change((Tb.look z.pl (p+(j:Int))).isSome)=true;rw[w];rfl) ac
  |true =>
   show k "" _ (S4.trans s5) (.inl #[rfl,z,J,aB,λq hq=>?_]);rw[am]at hq;let#[j,hj,rfl]:=rk.mp hq;let e:=OJ.mp ea ((Tb.look z.pl (p+(j:Int))).isSome) (rk.mpr #[j,hj,rfl]);intro w;rwa[w]at e
abbrev Sh:=Int->Option (Int->Bool)
def Sh.put(h:Sh)(t:Int)(v:Option (Int->Bool)):Sh:=λt'=>if t'=t then v else h t'
def fM(p m:Int)(g:Int->Bool)(q:Int):Bool:=decide (q∈Rm.aP p m)||g q
def fD(p m:Int)(g:Int->Bool)(q:Int):Bool := !decide (q∈Rm.aP p m)&&g q
def EJ(D:Dd)(h:Sh):Sh:=match D with
 |.begin t=>h.put t (some λ_=>false)
 |.close t=>h.put t none
 |.map t p m=>h.put t ((h t).map (fM p m))
 |.drop t p m=>h.put t ((h t).map (fD p m))
 |.copy t o=>h.put o (h t)
 |_=>h
def sh{α:Type}(κ:α->Int->Bool)(l:List (Int×α)):Sh:=λt=>(Tb.look l t).map κ
def kW(x:TD)(q:Int):Bool:=(Tb.look x.t q).isSome
def kZ(z:MT)(q:Int):Bool:=(Tb.look z.pl q).isSome
section
variable{α:Type}{κ:α->Int->Bool}{l:List (Int×α)}{t o:Int}{a b:α}{f:(Int->Bool)->Int->Bool}
theorem DR(h:Tb.look l t=none):sh κ (l++[(t,a)])=(sh κ l).put t (some (κ a)):=by
 funext t';unfold sh Sh.put;rw[Tb.eG t' h];split<;>rfl
theorem vf(h:Tb.look l t=none)(e:∀q, κ a q=false):sh κ (l++[(t,a)])=(sh κ l).put t (some λ_=>false):=by rw[DR h,show κ a=λ_=>false from funext e]
theorem zz(h:Tb.look l t=some b)(F:Tb.look l o=none)(e:∀q, κ a q=κ b q):sh κ (l++[(o,a)])=(sh κ l).put o (sh κ l t):=by
 rw[DR F,show κ a=κ b from funext e];unfold sh;rw[h];rfl
theorem Dx:sh κ (Tb.bJ l t)=(sh κ l).put t none:=by
 funext t';unfold sh Sh.put;rw[Tb.eD];split<;>rfl
theorem qo(h:Tb.look l t=some b)(e:∀q, κ a q=f (κ b) q):sh κ (Tb.bE l t a)=(sh κ l).put t ((sh κ l t).map f):=by
 funext t';unfold sh Sh.put;rw[Tb.dq t' h,h];split
 .show congrArg some (funext e)
 .rfl
theorem GJ(h:Tb.look l t=some b)(e:∀q, κ a q=κ b q):sh κ (Tb.bE l t a)=sh κ l:=by
 rw[qo (f:=id) h e,Option.map_id];funext t';unfold Sh.put;split
 .rename_i z;rw[z];rfl
 .rfl
end
theorem LM{α:Type}{l k:List (Int×α)}{p m:Int}{v:α}(h:∀q,Tb.look l q=if q∈Rm.aP p m then some v else Tb.look k q)(q:Int):(Tb.look l q).isSome=fM p m (λq=>(Tb.look k q).isSome) q:=by
 unfold fM;rw[h];cases z:q∈Rm.aP p m
 .rw[WQ z,decide_eq_true z];rfl
 .rw[WO z,decide_eq_false z];rfl
theorem J3{α:Type}{l k:List (Int×α)}{p m:Int}(h:∀q,Tb.look l q=if q∈Rm.aP p m then none else Tb.look k q)(q:Int):(Tb.look l q).isSome=fD p m (λq=>(Tb.look k q).isSome) q:=by
 unfold fD;rw[h];cases z:q∈Rm.aP p m
 .rw[WQ z,decide_eq_true z];rfl
 .rw[WO z,decide_eq_false z];rfl
structure Tw(W:ed)(Z:Zs):Prop where
 e:sh kW W=sh kZ Z
theorem Tw.next{W W':ed}{Z Z':Zs}{D:Dd}(T:Tw W Z)(h1:sh kW W'=EJ D (sh kW W))(h2:sh kZ Z'=EJ D (sh kZ Z)):Tw W' Z':=#[by rw[h1,h2,T.e]]
def Hh(W:ed)(tt:Int):Dd->Prop
 |.begin t=>Tb.look W t=none
 |.close t=>∃x,Tb.look W t=some x
 |.map t p m=>∃x,Tb.look W t=some x/\¬ Rm.bH p m/\(∀q∈Rm.aP p m,Tb.look x.t q=none)/\(ents W).length+m<=tt
 |.drop t p m=>∃x,Tb.look W t=some x/\¬ Rm.bH p m/\∀q∈Rm.aP p m,Tb.look x.t q≠none
 |.peek t ad n=>∃x,Tb.look W t=some x/\∃k:Nat,n=k/\¬ Rm.cQ ad k (x.t.map (·.1))/\k<=100
 |.poke t ad _ cs=>∃x,Tb.look W t=some x/\¬ Rm.cQ ad cs.length (x.t.map (·.1))/\cs.length<=100
 |.copy t o=>∃x,Tb.look W t=some x/\Tb.look W o=none/\(ents W).length+x.t.length<=tt
structure NO(P:rn)(w:By)(K:HC)(mg:WW)(base:Heap)(c:CA):Prop where
 Mm:↥Md 3 c.C "begin" (oZ c)
 Nd:↥Md 6 c.C "close" (oO c)
 MZ:↥Md 4 c.C "map" (xk c)
 Mj:↥Md 6 c.C "drop" (yS c)
 Nn:↥Md 5 c.C "copy" (sQ c)
 Jp:↥Md 8 c.C "peek" (uu c)
 J2:↥Md 10 c.C "poke" (sR K c)
 EO:↥Md 4 c.C "place" (kM c)
inductive oK(c:CA)(vs:XD)(H:Hp)(Q:VK)(e:XK):Prop
 |mk(M:WR)(a:RA)(s:Pg.PS)(W:ed)(cv:WT)(d:Addr)(D:Dd)(_:vs=[.ref a.rp,.ref d])(_:az c H M a s W)(_:Pg.RI s (ents W))(_:Cv s W cv)(_:W.length<=1000)(_:jy H d D)(_:Hh W (cj s) D)(_:∀(H':Hp)(M':WR)(s':Pg.PS)(W':ed)(cv':WT)(v:V),az c H' M' a s' W'->Pg.RI s' (ents W')->Cv s' W' cv'->Step H M (a.own W) H' M' (a.own W')->(∀b,(s'.ow b).length=(s.ow b).length)->W'.length<=W.length+1->sh kW W'=EJ D (sh kW W)->Q v H')
theorem Aj:aE ["_law_kept","_law_deed_here","_law_name","_law_task"] ["_law_kept","_law_deed_here"] (aw nQ):=L2.bW
theorem Ac{c:CA}(F:cD K "_law_called" "_law_called" nQ f fd)(T:ku K mg c)(M:NO P w K mg base c):↥aX 11 f fd ["_law_kept","_law_deed_here"] (oK c):=by
 show F.dU Aj ?_;intros;let#[MM,a,s',W,cv,d,D,rfl,R,ri,ab,lw,hd,S,q]:=h;show#[_,(ai (dP (cZ kY (pv 1) fw (de ah)) (fJ rfl (bL (iW 2 Aj.nd) (bL (iW 3 Aj.nd) dX))))
  (ai (bo (aA bZ (pv 2) ay (aH _)) (ak (aG (pm (pv 0) T.cl M.Mm hr ax (aa (pv 3) af)))) aK)
  (ai (bo (aA bZ (pv 2) ay (aH _)) (ak (aG (pm (pv 0) T.cl M.Nd hr ax (aa (pv 3) af)))) aK)
  (ai (bo (aA bZ (pv 2) ay (aH _)) (ak (aG (pm (pv 0) T.cl M.MZ hr ax (aa (pv 3) (aa (aS bw (pv 1) ah cy) (aa (aS bw (pv 1) ah cy) af)))))) aK)
  (ai (bo (aA bZ (pv 2) ay (aH _)) (ak (aG (pm (pv 0) T.cl M.Mj hr ax (aa (pv 3) (aa (aS bw (pv 1) ah cy) (aa (aS bw (pv 1) ah cy) af)))))) aK)
  (ai (bo (aA bZ (pv 2) ay (aH _)) (ak (aG (pm (pv 0) T.cl M.Nn hr ax (aa (pv 3) (aa (aS bw (pv 1) ah cy) af))))) aK)
  (ai (bo (aA bZ (pv 2) ay (aH _)) (ak (aG (pm (pv 0) T.cl M.Jp hr ax (aa (pv 3) (aa (aS bw (pv 1) ah cy) (aa (aS bw (pv 1) ah cy) af)))))) aK)
  (ak (aG (pm (pv 0) T.cl M.J2 hr ax (aa (pv 3) (aa (aS bw (pv 1) ah cy) (aa (aS bw (pv 1) ah cy) af))))))))))))),?_]
 show share (λσ H1=>aO H H1/\σ=#v[.ref a.rp,.ref d,.str (we D),.int (EN D)]) (λu' ac=>?A) ?B
 case A =>
  show#[0,0,d,0,cu.of hd.1,λc=>?_,λ_ p hp=>?_]
  .show#[d,0,cu.of hd.1,by rw[Br c];rfl,by rw[Br c];show#[_,0,_,0,rfl,ac _ _ #[aO.refl H,rfl]]]
  .rw[E2];show#[p,0,cu.of ae,4,0,_,0,rfl,ac _ _ #[Tb.au hp,rfl]]
 case B =>
 rintro σ H1 ⟨s1,rfl⟩;let U:=R.same s1;let S1:=R.j0 s1;let O:H1 d=some (.tup (uV D)):=s1 _ _ hd.1;let#[dx,Y]:=U.ob;let no:∀mm:Str,¬ mm = "rooms" -> ¬ mm = "total" -> ¬ mm = "paging" -> (gj a.A.pg (cj s') a.rd).lookup mm=none:=λmm=>fV _ _ _;let l0:∀{t y},(Tb.bE W t y).length<=W.length+1:=λ{t y}=>(by rw[Tb.iP];omega);cases D with
 |begin t =>
  show DB rfl rfl ?_;show#[0,a.rp,dx,0,Y,no "begin" aq aq aq,0,MM,a,s',W,t,rfl,U,S,lw,λH2 M2 y ey R2 I=>?_];let en:ents (W++[(t,y)])=ents W:=(by rw[vq,ey];show UB _);show q H2 M2 s' _ cv _ R2 (by rw[en];show ri) (λt' x G j e he=>?_) (S1.trans I) (λ_=>rfl) (by rw[G1];show rr _) (vf S λq=>by unfold kW;rw[ey];rfl)
  .rw[Tb.eG t' S]at G;cases z:t'=t
   .rw[WQ z]at G;cases G;rwa[ey]at he
   .rw[WO z]at G;show ab t' x G j e he
 |close t =>
  let#[x,G]:=S;show lQ rfl rfl bS (DB rfl rfl ?_);show#[0,a.rp,dx,0,Y,no "close" aq aq aq,0,MM,a,s',W,cv,t,x,rfl,U,ri,ab,G,λH2 M2 s2 R2 J cv2 I N=>q H2 M2 s2 _ cv _ R2 J cv2 (S1.trans I) N (L3 (QK _ _) (RG _)) Dx]
 |map t p m =>
  let#[x,G,L,f2,f3]:=S;show lQ rfl rfl bS (lQ rfl rfl bS ?_);show DB rfl rfl ?_;show#[0,a.rp,dx,0,Y,no "map" aq aq aq,0,0,d,2,.int p,1,cu.of O,rfl,0,d,2,.int m,1,cu.of O,rfl,MM,a,s',W,cv,t,p,m,x,rfl,U,ri,ab,lw,G,L,f2,f3,λH2 M2 y R2 J cv2 hy I=>q H2 M2 s' _ _ _ R2 J cv2 (S1.trans I) (λ_=>rfl) l0 (qo G (LM hy))]
 |drop t p m =>
  let#[x,G,L,f2]:=S;show lQ rfl rfl bS (lQ rfl rfl bS ?_);show lQ rfl rfl bS (DB rfl rfl ?_);show#[0,a.rp,dx,0,Y,no "drop" aq aq aq,0,0,d,2,.int p,1,cu.of O,rfl,0,d,2,.int m,1,cu.of O,rfl,MM,a,s',W,cv,t,p,m,x,rfl,U,ri,ab,G,L,f2,λH2 M2 s2 y R2 J cv2 hy I N=>q H2 M2 s2 _ _ _ R2 J cv2 (S1.trans I) N l0 (qo G (J3 hy))]
 |copy t o =>
  let#[x,G,L,f2]:=S;show lQ rfl rfl bS (lQ rfl rfl bS ?_);show lQ rfl rfl bS (lQ rfl rfl bS ?_);show DB rfl rfl ?_;show#[0,a.rp,dx,0,Y,no "copy" aq aq aq,0,0,d,2,.int o,1,cu.of O,rfl,MM,a,s',W,cv,t,o,x,rfl,U,ri,ab,lw,G,L,f2,λH2 M2 s2 y hy R2 J cv2 I N=>q H2 M2 s2 _ _ _ R2 J cv2 (S1.trans I) N (by rw[G1];show rr _) (zz G L λq=>by unfold kW;rw[hy])]
 |peek t ad nn =>
  let#[x,G,n,rfl,L,f4]:=S;show lQ rfl rfl bS (lQ rfl rfl bS ?_);show lQ rfl rfl bS (lQ rfl rfl bS ?_);show lQ rfl rfl bS (DB rfl rfl ?_);show#[0,a.rp,dx,0,Y,no "peek" aq aq aq,0,0,d,2,.int ad,1,cu.of O,rfl,0,d,2,.int n,1,cu.of O,rfl,MM,a,s',W,cv,t,ad,n,x,rfl,U,ri,ab,G,ag,L,λH2 M2 s2 l R2 J cv2 I N _ _ _=>q H2 M2 s2 _ _ _ R2 J cv2 (S1.trans I) N (RG _) rfl]
 |poke t ad cc cs =>
  let#[x,G,L,f4]:=S;show lQ rfl rfl bS (lQ rfl rfl bS ?_);show lQ rfl rfl bS (lQ rfl rfl bS ?_);show lQ rfl rfl bS (lQ rfl rfl bS ?_);show#[0,a.rp,dx,0,Y,no "poke" aq aq aq,0,0,d,2,.int ad,1,cu.of O,rfl,0,d,2,.ref cc,1,cu.of O,rfl,MM,a,s',W,cv,t,ad,cc,cs,x,rfl,U,ri,ab,G,bD.of (s1 _ _ (hd.2 _ _ _ _ rfl)),ag,L,λH2 M2 s2 y R2 J cv2 ap am I N=>q H2 M2 s2 _ _ _ R2 J cv2 (S1.trans I) N l0 (GJ G λj=>?_)];unfold kW;cases z:j∈Rm.bq ad cs.length
  .let#[k,hk]:=am j z;rw[hk];cases e:Tb.look x.t j with
   |none=>show absurd ((Rm.iG L).2 j z) (Tb.cO e)
   |some u=>rfl
  .rw[ap j z]
theorem gu{α:Type}{f:α->V}{H:Hp}{a:Addr}{l:List (Int×α)}{t:Int}{x:α}(h:H a=some (.dK (Tb.dk f l)))(F:Tb.look l t=some x):eV H a (.int t) (some (f x)):=by
 let q:=gr (t:=t) h;rw[F]at q;show q
section
variable{H H':Hp}{m:MA}{cj pk:Int}{Z:Zs}{t:Int}{z:MT}
theorem cG.alive(M:cG H m cj pk Z):∀b,dA m Z b->(∃xs,H b=some (.lst xs))\/∃kvs,H b=some (.dK kvs):=by
 intro b h;rcases h with h|h|h|⟨x,F,h|h|⟨y,G,h⟩⟩<;>rw[h]
 .show .inr #[_,M.hm]
 .show .inr #[_,M.hr]
 .show .inr #[_,M.hs]
 .show .inr #[_,M.rm x F]
 .show .inr #[_,M.st x F]
 .let#[ns,h1,_]:=M.cl x F y G;show .inl #[_,h1]
theorem cG.add(M:cG H m cj pk Z)(hn:Tb.look Z t=none)(o:Off (λb=>b=m.lr\/b=m.ls) H H')(U:H' m.lr=some (.dK (Tb.dk fW (Z++[(t,z)]))))(hs:H' m.ls=some (.dK (Tb.dk uW (Z++[(t,z)]))))(h1:H' z.ra=some (.dK (Tb.dk gU z.pl)))(h2:H' z.sa=some (.dK (Tb.dk rq z.pl)))
  (S:∀y∈z.pl,∃ns:List Int,H' y.2.1=some (.lst (ns.map V.int))/\ns.length=8) (np:(z.pl.map (·.1)).Nodup) (hg:∀y∈z.pl,0<=y.1/\y.1<64) (J:H z.ra=none) (I:H z.sa=none) (Y:z.ra≠z.sa):cG H' m cj pk (Z++[(t,z)]):=by
 let R:∀{b xs},H b=some (.lst xs)->¬ (b=m.lr\/b=m.ls):=λe w=>by
  rcases w with w|w
  .rw[w,M.hr]at e;cases e
  .rw[w,M.hs]at e;cases e
 let L:∀x∈Z,z.ra≠x.2.ra/\z.sa≠x.2.sa/\z.ra≠x.2.sa/\z.sa≠x.2.ra:=λx F=>#[(λe=>by rwa[e,M.rm x F]at J),(λe=>by rwa[e,M.st x F]at I),(λe=>by rwa[e,M.st x F]at J),(λe=>by rwa[e,M.rm x F]at I)];show#[o _ _ M.hm (iw M.n3.1 M.n3.2.1),U,hs,λx F=>?_,λx F=>?_,λx F y G=>?_,?_,λx F=>?_,λx F=>?_,λx F y G ne=>?_,λx F y G=>?_,λx F=>?_,M.n3]
 .rcases qj.mp F with F|F
  .show o _ _ (M.rm x F) (iw (M.d3 x F).2.1 (M.d3 x F).2.2.1)
  .rw[oR.mp F];show h1
 .rcases qj.mp F with F|F
  .show o _ _ (M.st x F) (iw (M.d3 x F).2.2.2.2.1 (M.d3 x F).2.2.2.2.2)
  .rw[oR.mp F];show h2
 .rcases qj.mp F with F|F
  .let#[ns,N,O]:=M.cl x F y G;show#[ns,o _ _ N (R N),O]
  .rw[oR.mp F]at G;show S y G
 .rw[IF];show iE M.nd (Tb.cO hn)
 .rcases qj.mp F with F|F
  .show M.np x F
  .rw[oR.mp F];show np
 .rcases qj.mp F with F|F
  .show M.rg x F
  .rw[oR.mp F];show hg
 .rcases qj.mp F with F|F<;>rcases qj.mp G with G|G
  .show M.da x F y G ne
  .rw[oR.mp G];show#[ro (L x F).1,ro (L x F).2.1]
  .rw[oR.mp F];show#[(L y G).1,(L y G).2.1]
  .show absurd (by rw[oR.mp F,oR.mp G]) ne
 .rcases qj.mp F with F|F<;>rcases qj.mp G with G|G
  .show M.rs x F y G
  .rw[oR.mp G];show ro (L x F).2.2.2
  .rw[oR.mp F];show(L y G).2.2.1
  .rw[oR.mp F,oR.mp G];show Y
 .rcases qj.mp F with F|F
  .show M.d3 x F
  .rw[oR.mp F];show#[(λe=>by rwa[e,M.hm]at J),(λe=>by rwa[e,M.hr]at J),(λe=>by rwa[e,M.hs]at J),(λe=>by rwa[e,M.hm]at I),(λe=>by rwa[e,M.hr]at I),(λe=>by rwa[e,M.hs]at I)]
theorem cG.del(M:cG H m cj pk Z)(o:Off (λb=>b=m.lr\/b=m.ls) H H')(N:H' m.lr=some (.dK (Tb.dk fW (Tb.bJ Z t))))(hs:H' m.ls=some (.dK (Tb.dk uW (Tb.bJ Z t)))):cG H' m cj pk (Tb.bJ Z t):=by
 let L:∀{b xs},H b=some (.lst xs)->¬ (b=m.lr\/b=m.ls):=λe w=>by
  rcases w with w|w
  .rw[w,M.hr]at e;cases e
  .rw[w,M.hs]at e;cases e
 let sub:∀{x},x∈Tb.bJ Z t->x∈Z:=λh=>(Tb.cF h).1;show#[o _ _ M.hm (iw M.n3.1 M.n3.2.1),N,hs,λx F=>?_,λx F=>?_,λx F y G=>?_,Tb.pE M.nd,λx F=>M.np x (sub F),λx F=>M.rg x (sub F),λx F y G=>M.da x (sub F) y (sub G),λx F y G=>M.rs x (sub F) y (sub G),λx F=>M.d3 x (sub F),M.n3]
 .let F:=sub F;show o _ _ (M.rm x F) (iw (M.d3 x F).2.1 (M.d3 x F).2.2.1)
 .let F:=sub F;show o _ _ (M.st x F) (iw (M.d3 x F).2.2.2.2.1 (M.d3 x F).2.2.2.2.2)
 .let#[ns,I,J]:=M.cl x (sub F) y G;show#[ns,o _ _ I (L I),J]
theorem cG.IX(M:cG H m cj pk Z)(R:Tb.look Z t=some z){pk':Int}{pl:WX}(o:Off (λb=>b=m.md\/b=z.ra\/b=z.sa) H H')(hm:H' m.md=some (.dK (qW m.lr m.ls cj pk')))(h1:H' z.ra=some (.dK (Tb.dk gU pl)))(h2:H' z.sa=some (.dK (Tb.dk rq pl)))
  (h3:∀y∈pl,∃ns:List Int,H y.2.1=some (.lst (ns.map V.int))/\ns.length=8) (np:(pl.map (·.1)).Nodup) (hg:∀y∈pl,0<=y.1/\y.1<64):cG H' m cj pk' (Tb.bE Z t #[z.ra,z.sa,pl]):=by
 let G:=Tb.aC R;let U:∀{b xs},H b=some (.lst xs)->¬ (b=m.md\/b=z.ra\/b=z.sa):=λe w=>by
  rcases w with w|w|w
  .rw[w,M.hm]at e;cases e
  .rw[w,M.rm _ G]at e;cases e
  .rw[w,M.st _ G]at e;cases e
 let N:∀{b},b≠m.md->b≠z.ra->b≠z.sa->¬ (b=m.md\/b=z.ra\/b=z.sa):=λa b c w=>w.elim a λw=>w.elim b c;let L:=M.d3 _ G;show#[hm,3,λx F=>?_,λx F=>?_,λx F y I=>?_,by rw[Tb.gI];show M.nd,λx F=>?_,λx F=>?_,λx F y I ne=>?_,λx F y I=>?_,λx F=>?_,M.n3]
 .rw[Tb.sG (f:=fW) (a:=(#[z.ra,z.sa,pl]:MT)) (b:=z) M.nd R rfl];show o _ _ M.hr (N (ro M.n3.1) (ro L.2.1) (ro L.2.2.2.2.1))
 .rw[Tb.sG (f:=uW) (a:=(#[z.ra,z.sa,pl]:MT)) (b:=z) M.nd R rfl];show o _ _ M.hs (N (ro M.n3.2.1) (ro L.2.2.1) (ro L.2.2.2.2.2))
 .rcases Tb.mem_set F with rfl|⟨F,ne⟩
  .show h1
  .show o _ _ (M.rm x F) (N (M.d3 x F).1 (M.da x F _ G ne).1 (M.rs x F _ G))
 .rcases Tb.mem_set F with rfl|⟨F,ne⟩
  .show h2
  .show o _ _ (M.st x F) (N (M.d3 x F).2.2.2.1 (ro (M.rs _ G x F)) (M.da x F _ G ne).2)
 .rcases Tb.mem_set F with rfl|⟨F,ne⟩
  .let#[ns,J,O]:=h3 y I;show#[ns,o _ _ J (U J),O]
  .let#[ns,J,O]:=M.cl x F y I;show#[ns,o _ _ J (U J),O]
 .rcases Tb.mem_set F with rfl|⟨F,ne⟩
  .show np
  .show M.np x F
 .rcases Tb.mem_set F with rfl|⟨F,ne⟩
  .show hg
  .show M.rg x F
 .rcases Tb.mem_set F with rfl|⟨F,S⟩<;>rcases Tb.mem_set I with rfl|⟨I,Y⟩
  .show absurd rfl ne
  .show M.da (t,z) G y I (ro Y)
  .show M.da x F (t,z) G S
  .show M.da x F y I ne
 .rcases Tb.mem_set F with rfl|⟨F,S⟩<;>rcases Tb.mem_set I with rfl|⟨I,Y⟩
  .show M.rs (t,z) G (t,z) G
  .show M.rs (t,z) G y I
  .show M.rs x F (t,z) G
  .show M.rs x F y I
 .rcases Tb.mem_set F with rfl|⟨F,S⟩
  .show L
  .show M.d3 x F
theorem cG.Jz(M:cG H m cj pk Z){l:Addr}{xs:XD}(J:H l=some (.lst xs)){ns':W5}(O:ns'.length=8):cG (upd H l (.lst (ns'.map V.int))) m cj pk Z:=by
 let o:Off (· = l) H (upd H l (.lst (ns'.map V.int))):=Off.wr rfl;let G:∀{b kvs},H b=some (.dK kvs)->¬ b=l:=λe w=>(by rwa[w,J]at e);show#[o _ _ M.hm (G M.hm),o _ _ M.hr (G M.hr),o _ _ M.hs (G M.hs),λx F=>o _ _ (M.rm x F) (G (M.rm x F)),λx F=>o _ _ (M.st x F) (G (M.st x F)),λx F y L=>?_,M.nd,M.np,M.rg,M.da,M.rs,M.d3,M.n3];cases w:y.2.1=l
 .show#[ns',by rw[w,ae],O]
 .let#[ns,N,I]:=M.cl x F y L;show#[ns,o _ _ N w,I]
end
theorem Kl{t u:TS}{D:Ends}{σ:L2.St}{H:Hp}(h:t { D with nx:=u D } σ H):cB t u D σ H:=h
theorem BG{α:Type}{W:List (Int×α)}{t:Int}{x y:α}:Tb.bE (Tb.bE W t x) t y=Tb.bE W t y:=by
 unfold Tb.bE;rw[PB];show PY λz _=>?_;change(if (if z.1=t then(t,x)else z).1=t then(t,y)else(if z.1=t then(t,x)else z))=if z.1=t then(t,y)else z
 cases c:z.1=t
 .rw[WQ c,WQ rfl,WQ c]
 .simp only[WO c]
theorem Ds{α:Type}{W:List (Int×α)}{t:Int}{x y:α}(h:Tb.look W t=some x):Tb.look (Tb.bE W t y) t=some y:=by rw[Tb.dq t h,WQ rfl]
theorem IY{Z:Zs}{t:Int}{z:MT}(F:(Z.map (·.1)).Nodup)(h:Tb.look Z t=some z):Tb.bE Z t #[z.ra,z.sa,z.pl]=Z:=by
 unfold Tb.bE
 conv=>rhs;rw[<-WI Z]
 show PY λy G=>?_;change(if y.1=t then(t,(#[z.ra,z.sa,z.pl]:MT))else y)=y;cases c:y.1=t
 .have:=Tb.cw F G;rw[c,h]at this;rw[WQ c,sS this, <-c]
 .rw[WO c]
theorem cG.len{H:Hp}{m:MA}{cj pk:Int}{Z:Zs}(M:cG H m cj pk Z){x:Int×MT}(F:x∈Z):x.2.pl.length<=64:=by
 have:=Tb.ER 64 0 (x.2.pl.map (·.1)) (M.np x F) λq G=>by
  let#[y,I,rfl]:=rk.mp G;have:=M.rg x F y I;omega
 rwa [k9]at this
theorem oM{m:MA}{Z:Zs}{t:Int}{z:MT}{pl:WX}{H:Hp}(J:Tb.look Z t=some z)(h:∀y∈pl,(∃I∈z.pl,y.2.1=I.2.1)\/H y.2.1=none):∀b,dA m (Tb.bE Z t #[z.ra,z.sa,pl]) b->dA m Z b\/H b=none:=by
 intro b w;let G:=Tb.aC J;rcases w with w|w|w|⟨x,F,w⟩
 .show .inl (.inl w)
 .show .inl (.inr (.inl w))
 .show .inl (.inr (.inr (.inl w)))
 .rcases Tb.mem_set F with rfl|⟨F,_⟩
  .rcases w with w|w|⟨y,L,w⟩
   .show .inl (.inr (.inr (.inr #[_,G,.inl w])))
   .show .inl (.inr (.inr (.inr #[_,G,.inr (.inl w)])))
   .rcases h y L with⟨I,h1,h2⟩|h
    .show .inl (.inr (.inr (.inr #[_,G,.inr (.inr #[I,h1,w.trans h2])])))
    .rw[w];show .inr h
  .show .inl (.inr (.inr (.inr #[x,F,w])))
theorem qk{p F q:Int}:q∈Rm.aP p F↔(p<=q/\q<p+((p+F-p).toNat:Int)):=by
 unfold Rm.aP;rw[rk];constructor
 .rintro⟨j,G,rfl⟩;have:=O0.mp G;omega
 .intro h;show#[(q-p).toNat,O0.mpr ag,ag]
theorem Dr{m:MA}{Z:Zs}{t:Int}{z:MT}{b:Addr}(h:(t,z)∈Z)(w:b=m.md\/b=z.ra\/b=z.sa):dA m Z b:=by
 rcases w with y|y|y
 .show .inl y
 .show .inr (.inr (.inr #[_,h,.inl y]))
 .show .inr (.inr (.inr #[_,h,.inr (.inl y)]))
theorem wa{m:MA}{Z:Zs}{t:Int}{z:MT}{H:Hp}(L:H z.ra=none)(J:H z.sa=none)(G:∀y∈z.pl,H y.2.1=none):∀b,dA m (Z++[(t,z)]) b->dA m Z b\/H b=none:=by
 intro b w;rcases w with w|w|w|⟨x,F,w⟩
 .show .inl (.inl w)
 .show .inl (.inr (.inl w))
 .show .inl (.inr (.inr (.inl w)))
 .rcases qj.mp F with F|F
  .show .inl (.inr (.inr (.inr #[x,F,w])))
  .rw[oR.mp F]at w;rcases w with w|w|⟨y,I,w⟩
   .rw[w];show .inr L
   .rw[w];show .inr J
   .rw[w];show .inr (G y I)
theorem FZ(F ls:Addr)(cj pk pk':Int):putK (qW F ls cj pk) (Ol "pokes") (.int pk')=qW F ls cj pk':=by
 unfold putK qW;rw[WQ (by simp)];simp only[Pn,VB,WO Nv,WO MX,WO MD,if_true,decide_eq_true_eq]
theorem r9{α F:Type}(g:α->F)(k:Int):∀l:List (Int×α),Tb.look (l.map λx=>(x.1,g x.2)) k=(Tb.look l k).map g
 | []=>rfl
 |x::l=>by
  rw[Pn,Tb.aY,Tb.aY,r9 g k l];cases e:x.1=k
  .rw[WQ e,WQ e];rfl
  .rw[WO e,WO e]
theorem tK{α G:Type}{g:α->G}{pl F:List (Int×α)}(h:(F.map λy=>(y.1,g y.2))=pl.map λy=>(y.1,g y.2))(q:Int):(Tb.look F q).isSome=(Tb.look pl q).isSome:=by
 let e:∀l:List (Int×α),(Tb.look l q).isSome=(Tb.look (l.map λy=>(y.1,g y.2)) q).isSome:=λl=>(by rw[r9,Rx]);rw[e,e,h]
theorem nu{α:Type}(f:α->V)(l:List (Int×α))(o:Int)(a:α):Tb.dk f (l++[(o,a)])=Tb.dk f l++[(t6 o,f a)]:=by
 unfold Tb.dk;rw[IF];rfl
theorem Ku{pl F:WX}(h:(F.map λy=>(y.1,y.2.2))=pl.map λy=>(y.1,y.2.2)):Tb.dk rq F=Tb.dk rq pl:=by
 let e:∀l:List (Int×Addr×Int),Tb.dk rq l=(l.map λy=>(y.1,y.2.2)).map λp=>((t6 p.1:Key),V.int p.2):=λl=>by
  unfold Tb.dk;rw[PB];rfl
 rw[e,e,h]
def zb(m:MA)(H:Hp)(Z:Zs)(H':Hp)(Z':Zs):Prop:=Off (dA m Z) H H'/\∀b,dA m Z' b->dA m Z b\/H b=none
theorem rh.nat{pl:WX}{ad n:Int}(h:rh pl ad n):∃k:Nat,n=k:=#[n.toNat,by rcases h with h|h<;>omega]
theorem rh.all{pl:WX}{ad:Int}{k:Nat}(h:rh pl ad k)(i:Nat)(hi:i<k):Tb.look pl ((ad+i)/8)≠none:=by
 rcases h with h|h
 .show absurd h ag
 .show h.2.2.2 i ag
inductive x9(vs:XD)(H:Hp)(Q:VK)(e:XK):Prop
 |mk(m:MA)(cj pk:Int)(Z:Zs)(d:Addr)(D:Dd)(_:vs=[.ref m.md,.ref d])(_:cG H m cj pk Z)(_:Z.length<=1000)(_:jy H d D)(_:Fv Z cj D)(_:(∀t ad c cs,D=.poke t ad c cs->¬ dA m Z c /\ -1000<=ad/\ad<=1000/\cs.length<=100))(_:(∀t ad n,D=.peek t ad n -> -1000<=ad/\ad<=1000/\n<=100))(_:∀(H':Hp)(pk':Int)(Z':Zs)(v:V),cG H' m cj pk' Z'->zb m H Z H' Z'->Z'.length<=Z.length+1->sh kZ Z'=EJ D (sh kZ Z)->Q v H')
theorem m9:aE ["_law_model_here","_law_deed_here","_law_rooms","_law_stands","_law_name","_law_task","_law_page","_law_cells_here","_law_k","_law_cell","_law_at"] ["_law_model_here","_law_deed_here"] (aw DJ):=L2.bW
theorem F2(F:cD K "_law_done" "_law_done" DJ f fd)(T:mj mg):↥aX 1 f fd ["_law_model_here","_law_deed_here"] x9:=by
 show F.dU m9 ?_;intros;let#[m,cj,pk,Z,d,D,rfl,M,lz,hd,fi,dd,dp,k]:=h;let hs:=ti;show#[_,(ai (dP (bK (aa (bP (bG hr) (pv 0) ay cy) (aa (bP (bG hr) (pv 0) ay cy) af))) (fJ rfl (bL (iW 2 m9.nd) (bL (iW 3 m9.nd) dX))))
  (ai (dP (cZ kY (pv 1) fw (de ah)) (fJ rfl (bL (iW 4 m9.nd) (bL (iW 5 m9.nd) dX))))
  (ai (bo (aA bZ (pv 4) ay (aH _)) (ak (dP (bK (aa dJ (aa dJ af))) (fJ rfl (bL (fZ (pv 2) (pv 5) (set_dict (bG hr))) (bL (fZ (pv 3) (pv 5) (set_dict (bG hr))) dX))))) (ak (bo (aA bZ (pv 4) ay (aH _)) (ai (aQ (gh (pv 2) (pv 5) #[1,1]))
  (ak (aQ (gh (pv 3) (pv 5) #[1,1])))) (ak (bo (aA bZ (pv 4) ay (aH _)) (ak (dy NC rfl (ff (by rfl) T.range (aa (aS bw (pv 1) ah cy) (aa (ar aZ (aS bw (pv 1) ah cy) (aS bw (pv 1) ah cy)) af))) (iW 6 m9.nd) (ak (dP (bK (aa (ar kg (bz (aa ah af)) ah) (aa ah af))) (fJ rfl (bL (fZ (bP (bG hr) (pv 2) (pv 5) cy) (pv 6) (set_dict (bG hr))) (bL (fZ (bP (bG hr) (pv 3) (pv 5) cy) (pv 6) (set_dict (bG hr))) dX))))))) (ak (bo (aA bZ (pv 4) ay (aH _)) (ak (dy NC rfl (ff (by rfl) T.range (aa (aS bw (pv 1) ah cy) (aa (ar aZ (aS bw (pv 1) ah cy) (aS bw (pv 1) ah cy)) af))) (iW 6 m9.nd) (ai (aQ (gh (bP (bG hr) (pv 2) (pv 5) cy) (pv 6) #[1,1]))
  (ak (aQ (gh (bP (bG hr) (pv 3) (pv 5) cy) (pv 6) #[1,1])))))) (ak (bo (aA bZ (pv 4) ay (aH _)) (ai (dP (bU wX (by rfl) T.dict uG (aa (bP (bG hr) (pv 3) (pv 5) cy) af)) (fZ (pv 3) (aS bw (pv 1) ah cy) (set_dict (bG hr))))
  (ai (dP dJ (fZ (pv 2) (aS bw (pv 1) ah cy) (set_dict (bG hr))))
  (ak (tN (dy NC rfl (Em (bP (bG hr) (pv 2) (pv 5) cy)) (fJ rfl (bL (iW 6 m9.nd) (bL (iW 7 m9.nd) dX))) (ak (dP (bU dE (by rfl) T.list eI (aa (pv 7) af)) (fZ (bP (bG hr) (pv 2) (aS bw (pv 1) ah cy) cy) (pv 6) (set_dict (bG hr)))))))))) (ak (bo (aA bZ (pv 4) ay (aH _)) (ak (aG (gO (cl:=[("_law_task",s⁻¹+2),("_law_rooms",s⁻¹+1)]) (caps:=[("_law_rooms",2),("_law_task",5)]) #[rfl,aq,aq,rfl,by kernel_rfl,by intro p hp;simp only[t7,vr,or_false]at hp;rcases hp with rfl|rfl<;>first|rfl|show#[rfl,.inl rfl,.inl rfl]|show#[rfl,.inl rfl,.inr rfl],by kernel_rfl,by intro p hp;simp only[t7,vr,or_false]at hp;rcases hp with rfl|rfl<;>first|rfl|show#[rfl,.inl rfl,.inl rfl]|show#[rfl,.inl rfl,.inr rfl],aq] rfl (ff (by rfl) T.range (aa (aS bw (pv 1) ah cy) (aa (ar aZ (aS bw (pv 1) ah cy) (aS bw (pv 1) ah cy)) af))) (λ_ _ _ _=>gg) (λ_ _ _ _=>(aS (show LS _ (Fx K)from bX) (bP (bG hr) (bP (bG hr) (pv 1) (pv 2) cy) (ar aV (pv 0) ah) cy) (ar aM (pv 0) ah) cy))))) (ak (dy NC rfl (FI (by rfl) T.enumerate (aa (aS bw (pv 1) ah cy) af)) (fJ rfl (bL (iW 8 m9.nd) (bL (iW 9 m9.nd) dX))) (ai (cK 10 m9.nd (ar aZ (aS bw (pv 1) ah cy) (pv 8)))
  (ai (dP (pv 9) (fZ (bP (bG hr) (bP (bG hr) (pv 2) (pv 5) cy) (ar aV (pv 10) ah) cy) (ar aM (pv 10) ah) set_list))
  (ak (bo (PW.pt (ie (aA bZ (pv 8) ah (aH _)) (gT (aA bZ (ar aM (pv 10) ah) ah (aH _))))) (ai (dP (ar aZ (bP (bG hr) (pv 0) ay cy) ah) (fZ (pv 0) ay (set_dict (bG hr))))
  (ak (dP (bP (bG hr) (pv 0) ay cy) (fZ (bP (bG hr) (pv 3) (pv 5) cy) (ar aV (pv 10) ah) (set_dict (bG hr)))))) aK)))))))))))))))))
  (ak (aG lY))))),?_]
 show share (λσ H1=>aO H H1/\σ=#v[.ref m.md,.ref d,.ref m.lr,.ref m.ls,none,none,none,none,none,none,none]) (λu' am=>?A) ?B
 case A =>
  show#[0,m.md,.ref m.lr,rfl,M.g (v5 _ _ _ _),0,m.md,.ref m.ls,rfl,M.g (Mi _ _ _ _),dN,λtp ba=>?_];show#[tp,0,cu.of ae,4,0,_,0,rfl,am _ _ #[Tb.au ba,rfl]]
 case B =>
 rintro σ H0 ⟨s0,rfl⟩;let b9:H0 d=some (.tup (uV D)):=s0 _ _ hd.1;show share (λσ H1=>aO H H1/\σ=#v[.ref m.md,.ref d,.ref m.lr,.ref m.ls,.str (we D),.int (EN D),none,none,none,none,none]) (λu' am=>?A2) ?B2
 case A2 =>
  show#[0,0,d,0,cu.of b9,λc=>?_,λ_ p hp=>?_]
  .show#[d,0,cu.of b9,by rw[Br c];rfl,by rw[Br c];show#[_,0,_,0,rfl,am _ _ #[s0,rfl]]]
  .rw[E2];show#[p,0,cu.of ae,4,0,_,0,rfl,am _ _ #[s0.trans (Tb.au hp),rfl]]
 case B2 =>
 rintro σ H1 ⟨s1,rfl⟩;let M1:=M.same s1;let ac:H1 d=some (.tup (uV D)):=s1 _ _ hd.1;show share (λσ H2=>Bv λ(pk':Int)(Z':Zs)=>Hf (cG H2 m cj pk' Z') (zb m H Z H2 Z') (Z'.length<=Z.length+1) (sh kZ Z'=EJ D (sh kZ Z))) (λu' am=>?A3) ?B3
 case B3 =>
  rintro σ H2 ⟨pk',Z',a1,a2,a3,a4⟩;show k H2 pk' Z' .non a1 a2 a3 a4
 case A3 =>
 show Kl ?_;dsimp only;let zo:∀{b},H b=none->H1 b=none->True:=λ_ _=>trivial;cases D with
 |begin t =>
  show JT rfl rfl ?_;let fi:Tb.look Z t=none:=fi;intro I h1 J h2;let aT:J≠I:=λe=>(by rwa[e,ae]at h2);let dT:H1 J=none:=(by rw[aj aT]at h2;show h2);let sA:=(Tb.au (X:=.dK []) h1).trans (Tb.au (X:=.dK []) h2);let e1:upd (upd H1 I (.dK [])) J (.dK []) I=some (.dK []):=(by rw[aj (ro aT),ae]);let e2:upd (upd H1 I (.dK [])) J (.dK []) J=some (.dK []):=ae;generalize upd (upd H1 I (.dK [])) J (.dK [])=H2 at *;show#[dN,λtp ba=>?_];let sB:=Tb.au (X:=.tup [.ref I,.ref J]) ba;show#[tp,0,cu.of ae,4,0,?_];let M3:=(M1.same sA).same sB;let e1:=sB _ _ e1;let e2:=sB _ _ e2;let S3:=s1.trans (sA.trans sB);generalize upd H2 tp (.tup [.ref I,.ref J])=U at *;show#[0,0,m.lr,0,iz.k (k:=t6 t) M3.hr (by rw[Tb.cA];omega),?_];rw[show(V.ref I)=fW #[I,J,[]]from rfl,Tb.cX (f:=fW) fi];show#[_,0,0,0,m.ls,0,iz.k (k:=t6 t) (by rw[aj (ro M3.n3.2.2)];show M3.hs) (by rw[Tb.cA];omega),5];rw[show(V.ref J)=uW #[I,J,[]]from rfl,Tb.cX (f:=uW) fi];let oC:Off (λb=>b=m.lr\/b=m.ls) U (upd (upd U m.lr (.dK (Tb.dk fW (Z++[(t,#[I,J,[]])])))) m.ls (.dK (Tb.dk uW (Z++[(t,#[I,J,[]])])))):=λb o e w=>(by rw[aj (λy=>w (.inr y)),aj (λy=>w (.inl y))];show e);let bm:∀{b},H b=none->b≠m.lr/\b≠m.ls:=λh=>#[(λe=>by rwa[e,M.hr]at h),(λe=>by rwa[e,M.hs]at h)];let f1:H I=none:=s1.free h1;let f2:H J=none:=s1.free dT;let Y:cG (upd (upd U m.lr (.dK (Tb.dk fW (Z++[(t,#[I,J,[]])])))) m.ls (.dK (Tb.dk uW (Z++[(t,#[I,J,[]])])))) m cj pk (Z++[(t,#[I,J,[]])]):=
   M.add fi (λb o e w=>oC b o (S3 b o e) w) (by rw[aj M.n3.2.2,ae]) ae (oC _ _ e1 λw=>w.elim (bm f1).1 (bm f1).2) (oC _ _ e2 λw=>w.elim (bm f2).1 (bm f2).2) (λy G=>by cases G) Qr (λy G=>by cases G) f1 f2 (ro aT)
  show am _ _ #[pk,_,Y,#[λb o e w=>oC b o (S3 b o e) λy=>w (y.elim (λy=>.inr (.inl y)) λy=>.inr (.inr (.inl y))),wa f1 f2 nofun],by rw[G1];show rr _,vf fi λ_=>rfl]
 |close t =>
  show qR rfl rfl bS (JT rfl rfl ?_);let#[z,N]:=fi;show#[0,m.lr,rfl,.inl #[_,.inl M1.hr],0,_,t6 t,fW z,M1.hr,rfl,by rw[Tb.dn,N];rfl,?_];rw[Tb.gi];show#[0,m.ls,rfl,.inl #[_,.inl (by rw[aj (ro M1.n3.2.2)];show M1.hs)],0,_,t6 t,uW z,by rw[aj (ro M1.n3.2.2)];show M1.hs,rfl,by rw[Tb.dn,N];rfl,?_];rw[Tb.gi];let oC:Off (λb=>b=m.lr\/b=m.ls) H1 (upd (upd H1 m.lr (.dK (Tb.dk fW (Tb.bJ Z t)))) m.ls (.dK (Tb.dk uW (Tb.bJ Z t)))):=λb o e w=>(by rw[aj (λy=>w (.inr y)),aj (λy=>w (.inl y))];show e);let Y:=M1.del (t:=t) oC (by rw[aj M.n3.2.2,ae]) ae;show am _ _ #[pk,_,Y,#[λb o e w=>oC b o (s1 b o e) λy=>w (y.elim (λy=>.inr (.inl y)) λy=>.inr (.inr (.inl y))),λb w=>.inl ?_],L3 (QK _ _) (RG _),Dx];rcases w with w|w|w|⟨x,hx,w⟩
  .show .inl w
  .show .inr (.inl w)
  .show .inr (.inr (.inl w))
  .show .inr (.inr (.inr #[x,(Tb.cF hx).1,w]))
 |map t p mm =>
  show qR rfl rfl bS (qR rfl rfl bS ?_);show JT rfl rfl ?_;let#[z,N,a8,ci,_]:=fi;let L:=Tb.aC N;let b1:¬ mm<1:=λw=>a8 (.inl w);let b2:¬ p<0:=λw=>a8 (.inr (.inl w));let b3:¬ 64<p+mm:=λw=>a8 (.inr (.inr w));show#[0,d,2,.int p,1,cu.of ac,rfl,0,d,2,.int p,1,cu.of ac,rfl,0,d,2,.int mm,1,cu.of ac,4,0,4,0,#[ag,ag,ag,ag],?_];show jE (lo:=p) (n:=(p+mm-p).toNat) (λi σ H2=>Bv λ(v6:Option V)(pl:WX)=>Bu (σ=#v[.ref m.md,.ref d,.ref m.lr,.ref m.ls,.str "map",.int t,v6,none,none,none,none]) (cG H2 m cj pk (Tb.bE Z t #[z.ra,z.sa,pl])) ((∀q,(Tb.look pl q).isSome=(decide (p<=q/\q<p+(i:Int))||(Tb.look z.pl q).isSome))) ((∀y∈pl,y∈z.pl\/H y.2.1=none)) (Off (dA m Z) H H2) (∀b,H2 b=none->H b=none)) #[_,z.pl,rfl,by rw[IY M.nd N];show M1,λq=>by rw[decide_eq_false ag];rfl,λy G=>.inl G,λb o e _=>s1 b o e,λb e=>s1.free e] ?_ ?_
  .rintro i σ H2 hi ⟨v6,pl,rfl,M2,ap,a5,o2,bi⟩;let ab:=Ds (y:=(#[z.ra,z.sa,pl]:MT)) N;let O:=Tb.aC ab;let bI:p+(i:Int)∈Rm.aP p mm:=by
    unfold Rm.aP;show rk.mpr #[i,O0.mpr ag,rfl]
   let be:Tb.look pl (p+(i:Int))=none:=by
    let h:=ap (p+(i:Int));rw[decide_eq_false ag,ci _ bI]at h;cases e:Tb.look pl (p+(i:Int))with
    |none=>rfl
    |some u=>rwa[e]at h
   let bA:=M2.len O;show#[ao,λl1 b0=>?_];show#[l1,(8),0,rfl,ae,ag,ag,by rw[OT];omega,λl2 bp=>?_];let sA:=(Tb.au (X:=.lst [V.int 0]) b0).trans (Tb.au (X:=.lst ((replicate (8:Int).toNat [V.int 0]).flatten)) bp);let f2:H2 l2=none:=(Tb.au (X:=.lst [V.int 0]) b0).free bp;let e2:upd (upd H2 l1 (.lst [V.int 0])) l2 (.lst ((replicate (8:Int).toNat [V.int 0]).flatten)) l2=some (.lst ((replicate 8 (0:Int)).map V.int)):=ae;generalize upd (upd H2 l1 (.lst [V.int 0])) l2 (.lst ((replicate (8:Int).toNat [V.int 0]).flatten))=U at *;show#[dN,λtp ba=>?_];let sB:=Tb.au (X:=.tup [.ref l2,.int 0]) ba;show#[tp,0,cu.of ae,4,0,?_];let Y:=(M2.same sA).same sB;let S4:=sA.trans sB;let e4:=sB _ _ e2;generalize upd U tp (.tup [.ref l2,.int 0])=H4 at *;show#[0,0,m.lr,0,gu Y.hr ab,0,z.ra,0,iz.k (k:=t6 (p+(i:Int))) (Y.rm _ O) (by rw[Tb.cA];have:pl.length<=64:=bA;change pl.length<_;omega),?_];let e5:putK (Tb.dk gU pl) (t6 (p+(i:Int))) (.ref l2)=Tb.dk gU (pl++[(p+(i:Int),(l2,0))]):=Tb.cX (f:=gU) (a:=(l2,0)) be;let e6:putK (Tb.dk rq pl) (t6 (p+(i:Int))) (.int 0)=Tb.dk rq (pl++[(p+(i:Int),(l2,0))]):=Tb.cX (f:=rq) (a:=(l2,0)) be;let dz:=M.d3 _ L;let aB:=M.rs _ L _ L;change wx _ _ _ _ (upd H4 z.ra (.dK (putK (Tb.dk gU pl) (t6 (p+(i:Int))) (.ref l2)))) _;rw[e5];let o5:Off (· = z.ra) H4 (upd H4 z.ra (.dK (Tb.dk gU (pl++[(p+(i:Int),(l2,0))])))):=Off.wr rfl;show#[_,0,0,0,m.ls,0,gu (o5 _ _ Y.hs (ro dz.2.2.1)) ab,0,z.sa,0,iz.k (k:=t6 (p+(i:Int))) (o5 _ _ (Y.st _ O) (ro aB)) (by rw[Tb.cA];have:pl.length<=64:=bA;change pl.length<_;omega),5];let S:Off (λb=>b=m.md\/b=z.ra\/b=z.sa) H4 (upd (upd H4 z.ra (.dK (Tb.dk gU (pl++[(p+(i:Int),(l2,0))])))) z.sa (.dK (putK (Tb.dk rq pl) (t6 (p+(i:Int))) (.int 0)))):=λb o e w=>(by rw[aj (λy=>w (.inr (.inr y))),aj (λy=>w (.inr (.inl y)))];show e);let M7:=Y.IX (pk':=pk) (pl:=pl++[(p+(i:Int),(l2,0))]) ab S (by rw[aj (ro dz.2.2.2.1),aj (ro dz.1)];show Y.hm) (by change upd _ z.sa _ z.ra=_;rw[aj aB,ae]) (by change upd _ z.sa _ z.sa=_;rw[ae,e6]) (λy G=>by
     rcases qj.mp G with G|G
     .show Y.cl _ O y G
     .rw[oR.mp G];show#[replicate 8 0,e4,by simp]) (by rw[IF];show iE (M2.np _ O) (Tb.cO be)) (λy G=>by
     rcases qj.mp G with G|G
     .show M2.rg _ O y G
     .rw[oR.mp G];change 0<=p+(i:Int)/\p+(i:Int)<64;omega)
   rw[BG]at M7;show#[_,pl++[(p+(i:Int),(l2,0))],rfl,M7,λq=>?_,λy G=>?_,λb o e w=>S b o (S4 b o (o2 b o e w)) λy=>w (Dr L y),λb e=>bi b (S4.free (cY (cY e).2).2)]
   .rw[Tb.eG q be];cases c:q=p+(i:Int)
    .rw[WQ c,decide_eq_true ag];rfl
    .rw[WO c,ap q,decide_eq_decide.mpr (show(p<=q/\q<p+(i:Int))↔(p<=q/\q<p+((i+1:Nat):Int))by omega)]
   .rcases qj.mp G with G|G
    .show a5 y G
    .rw[oR.mp G];show .inr (bi l2 f2)
  .rintro σ H2 ⟨v6,pl,rfl,M2,ap,a5,o2,bi⟩;show am _ _ #[pk,_,M2,#[o2,oM N λy G=>(a5 y G).imp (λh=>#[y,h,rfl]) id],by rw[Tb.iP];omega,qo N λq=>(ap q).trans (congrArg (· ||(Tb.look z.pl q).isSome) (decide_eq_decide.mpr qk.symm))]
 |drop t p mm =>
  show qR rfl rfl bS (qR rfl rfl bS ?_);show qR rfl rfl bS (JT rfl rfl ?_);let#[z,N,a8,dV]:=fi;let L:=Tb.aC N;let b1:¬ mm<1:=λw=>a8 (.inl w);let b2:¬ p<0:=λw=>a8 (.inr (.inl w));let b3:¬ 64<p+mm:=λw=>a8 (.inr (.inr w));show#[0,d,2,.int p,1,cu.of ac,rfl,0,d,2,.int p,1,cu.of ac,rfl,0,d,2,.int mm,1,cu.of ac,4,0,4,0,#[ag,ag,ag,ag],?_];show jE (lo:=p) (n:=(p+mm-p).toNat) (λi σ H2=>Bv λ(v6:Option V)(pl:WX)=>Bu (σ=#v[.ref m.md,.ref d,.ref m.lr,.ref m.ls,.str "drop",.int t,v6,none,none,none,none]) (cG H2 m cj pk (Tb.bE Z t #[z.ra,z.sa,pl])) ((∀q,(Tb.look pl q).isSome=(!decide (p<=q/\q<p+(i:Int))&&(Tb.look z.pl q).isSome))) ((∀y∈pl,y∈z.pl\/H y.2.1=none)) (Off (dA m Z) H H2) True) #[_,z.pl,rfl,by rw[IY M.nd N];show M1,λq=>by rw[decide_eq_false ag];rfl,λy G=>.inl G,λb o e _=>s1 b o e,trivial] ?_ ?_
  .rintro i σ H2 hi ⟨v6,pl,rfl,M2,ap,a5,o2,_⟩;let ab:=Ds (y:=(#[z.ra,z.sa,pl]:MT)) N;let O:=Tb.aC ab;let bI:p+(i:Int)∈Rm.aP p mm:=by
    unfold Rm.aP;show rk.mpr #[i,O0.mpr ag,rfl]
   obtain⟨y,G⟩:∃y,Tb.look pl (p+(i:Int))=some y:=by
    let h1:=ap (p+(i:Int));rw[decide_eq_false ag]at h1;cases e:Tb.look pl (p+(i:Int))with
    |some y=>show#[y,rfl]
    |none =>
     rw[e]at h1;cases e2:Tb.look z.pl (p+(i:Int))with
     |none=>show absurd e2 (dV _ bI)
     |some u=>rwa[e2]at h1
   let dz:=M.d3 _ L;let aB:=M.rs _ L _ L;show#[0,0,m.lr,0,gu M2.hr ab,z.ra,rfl,.inl #[_,.inl (M2.rm _ O)],0,_,t6 (p+(i:Int)),gU y,M2.rm _ O,rfl,by rw[Tb.dn,G];rfl,?_];rw[Tb.gi];let o5:Off (· = z.ra) H2 (upd H2 z.ra (.dK (Tb.dk gU (Tb.bJ pl (p+(i:Int)))))):=Off.wr rfl;let h5:=o5 _ _ (M2.st _ O) (ro aB);show#[0,0,m.ls,0,gu (o5 _ _ M2.hs (ro dz.2.2.1)) ab,z.sa,rfl,.inl #[_,.inl h5],0,_,t6 (p+(i:Int)),rq y,h5,rfl,by rw[Tb.dn,G];rfl,?_];rw[Tb.gi];let S:Off (λb=>b=m.md\/b=z.ra\/b=z.sa) H2 (upd (upd H2 z.ra (.dK (Tb.dk gU (Tb.bJ pl (p+(i:Int)))))) z.sa (.dK (Tb.dk rq (Tb.bJ pl (p+(i:Int)))))):=λb o e w=>(by rw[aj (λy=>w (.inr (.inr y))),aj (λy=>w (.inr (.inl y)))];show e);let M7:=M2.IX (pk':=pk) (pl:=Tb.bJ pl (p+(i:Int))) ab S (by rw[aj (ro dz.2.2.2.1),aj (ro dz.1)];show M2.hm) (by change upd _ z.sa _ z.ra=_;rw[aj aB,ae]) (by change upd _ z.sa _ z.sa=_;rw[ae]) (λy G=>M2.cl _ O y (Tb.cF G).1) (Tb.pE (M2.np _ O)) (λy G=>M2.rg _ O y (Tb.cF G).1);rw[BG]at M7;show#[_,Tb.bJ pl (p+(i:Int)),rfl,M7,λq=>?_,λy G=>a5 y (Tb.cF G).1,λb o e w=>S b o (o2 b o e w) λy=>w (Dr L y),trivial];rw[Tb.eD];cases c:q=p+(i:Int)
   .rw[WQ c,decide_eq_true ag];rfl
   .rw[WO c,ap q,decide_eq_decide.mpr (show(p<=q/\q<p+(i:Int))↔(p<=q/\q<p+((i+1:Nat):Int))by omega)]
  .rintro σ H2 ⟨v6,pl,rfl,M2,ap,a5,o2,bi⟩;show am _ _ #[pk,_,M2,#[o2,oM N λy G=>(a5 y G).imp (λh=>#[y,h,rfl]) id],by rw[Tb.iP];omega,qo N λq=>(ap q).trans (congrArg (λc => !c&&(Tb.look z.pl q).isSome) (decide_eq_decide.mpr qk.symm))]
 |copy t o =>
  show qR rfl rfl bS (qR rfl rfl bS ?_);show qR rfl rfl bS (qR rfl rfl bS ?_);show JT rfl rfl ?_;let#[z,N,eo,_]:=fi;let L:=Tb.aC N;let dz:=M.d3 _ L;let aB:=M.rs _ L _ L;let dj:t≠o:=λe=>(by rwa[e,eo]at N);show#[0,0,m.ls,0,gu M1.hs N,z.sa,0,M1.st _ L,λJ h2=>?_];let f2:H J=none:=s1.free h2;let sA:=Tb.au (X:=.dK (Tb.dk rq z.pl)) h2;let e2:upd H1 J (.dK (Tb.dk rq z.pl)) J=some (.dK (Tb.dk rq z.pl)):=ae;let M2:=M1.same sA;let S2:=s1.trans sA;let dM:=sA _ _ ac;generalize upd H1 J (.dK (Tb.dk rq z.pl))=H2 at *;show#[0,0,d,2,.int o,1,cu.of dM,rfl,m.ls,0,iz.k (k:=t6 o) M2.hs (by rw[Tb.cA];omega),?_];rw[show(V.ref J)=uW #[J,J,[]]from rfl,Tb.cX (f:=uW) eo,nu];change cB _ _ _ _ (upd H2 m.ls (.dK (Tb.dk uW Z++[(t6 o,V.ref J)])));let o3:Off (· = m.ls) H2 (upd H2 m.ls (.dK (Tb.dk uW Z++[(t6 o,V.ref J)]))):=Off.wr rfl;let b5:upd H2 m.ls (.dK (Tb.dk uW Z++[(t6 o,V.ref J)])) m.ls=some (.dK (Tb.dk uW Z++[(t6 o,V.ref J)])):=ae;generalize upd H2 m.ls (.dK (Tb.dk uW Z++[(t6 o,V.ref J)]))=U at *;let ce:J≠m.ls:=λe=>(by rwa[e,M.hs]at f2);let dI:J≠m.lr:=λe=>(by rwa[e,M.hr]at f2);let dL:∀{b kvs},H b=some (.dK kvs)->b≠m.ls->U b=some (.dK kvs):=λe n=>o3 _ _ (S2 _ _ e) n;let c9:∀{b xs},H b=some (.tup xs)->U b=some (.tup xs):=λe=>o3 _ _ (S2 _ _ e) (λw=>by rwa[w,M.hs]at e);let d9:∀{b xs},H b=some (.lst xs)->U b=some (.lst xs):=λe=>o3 _ _ (S2 _ _ e) (λw=>by rwa[w,M.hs]at e);intro I h1;let f1:H I=none:=by
   cases e:H I with
   |none=>rfl
   |some u =>
    cases w:I=m.ls
    .rw[w,b5]at h1;cases h1
    .rw[o3 _ _ (S2 _ _ e) w]at h1;cases h1
  let aT:I≠J:=λe=>(by rwa[e,o3 _ _ e2 ce]at h1);let bc:I≠m.lr:=λe=>(by rwa[e,M.hr]at f1);let bV:I≠m.ls:=λe=>(by rwa[e,M.hs]at f1);let c5:upd U I (.dK []) m.lr=some (.dK (Tb.dk fW Z)):=(by rw[aj (ro bc)];show dL M.hr M.n3.2.2);show#[0,0,d,2,.int o,1,cu.of (Tb.au h1 _ _ (c9 hd.1)),rfl,m.lr,0,iz.k (k:=t6 o) c5 (by rw[Tb.cA];omega),?_];rw[show(V.ref I)=fW #[I,J,[]]from rfl,Tb.cX (f:=fW) eo];let o5:Off (λb=>b=m.lr\/b=m.ls) H (upd (upd U I (.dK [])) m.lr (.dK (Tb.dk fW (Z++[(o,#[I,J,[]])])))):=λb u e w=>by
   rw[aj (λy=>w (.inl y)),aj (av e f1)];show o3 _ _ (S2 _ _ e) λy=>w (.inr y)
  let b8:upd (upd U I (.dK [])) m.lr (.dK (Tb.dk fW (Z++[(o,#[I,J,[]])]))) m.lr=some (.dK (Tb.dk fW (Z++[(o,#[I,J,[]])]))):=ae;let dt:upd (upd U I (.dK [])) m.lr (.dK (Tb.dk fW (Z++[(o,#[I,J,[]])]))) m.ls=some (.dK (Tb.dk uW Z++[(t6 o,V.ref J)])):=(by rw[aj (ro M.n3.2.2),aj (ro bV)];show b5);let cr:upd (upd U I (.dK [])) m.lr (.dK (Tb.dk fW (Z++[(o,#[I,J,[]])]))) I=some (.dK []):=(by rw[aj bc,ae]);let d0:upd (upd U I (.dK [])) m.lr (.dK (Tb.dk fW (Z++[(o,#[I,J,[]])]))) J=some (.dK (Tb.dk rq z.pl)):=(by rw[aj dI,aj (ro aT)];show o3 _ _ e2 ce);generalize upd (upd U I (.dK [])) m.lr (.dK (Tb.dk fW (Z++[(o,#[I,J,[]])])))=H5 at *;let a9:∀{b},b≠m.lr->b≠m.ls->¬ (b=m.lr\/b=m.ls):=λa b w=>w.elim a b;let hn:∀(ob:Obj) u',H z.ra≠some (.frz ob u'):=λob u' w=>(by rwa[M.rm _ L]at w);let c4:Tb.look (Z++[(o,(#[I,J,[]]:MT))]) t=some z:=(by rw[Tb.eG t eo,WO dj];show N);let cC:Tb.look (Z++[(o,(#[I,J,[]]:MT))]) o=some #[I,J,[]]:=(by rw[Tb.eG o eo,WQ rfl]);let cx:=o5 _ _ (M.rm _ L) (a9 dz.2.1 dz.2.2.1);show#[0,0,m.lr,0,gu b8 c4,z.ra,0,cx,hn,λob=>?_];let bb:I≠z.ra:=λe=>(by rwa[e,M.rm _ L]at f1);let cg:J≠z.ra:=λe=>(by rwa[e,M.rm _ L]at f2);let oF:Off (· = z.ra) H5 (upd H5 z.ra (.frz ob (.dK (Tb.dk gU z.pl)))):=Off.wr rfl;let hF:upd H5 z.ra (.frz ob (.dK (Tb.dk gU z.pl))) z.ra=some (.frz ob (.dK (Tb.dk gU z.pl))):=ae;let bg:=oF _ _ cr bb;let d6:=oF _ _ d0 cg;let bd:=oF _ _ b8 (ro dz.2.1);let ca:=oF _ _ dt (ro dz.2.2.1);let bv:=oF _ _ (o5 _ _ hd.1 (a9 (λw=>by have:=hd.1;rwa[w,M.hr]at this) (λw=>by have:=hd.1;rwa[w,M.hs]at this))) (λw=>by have:=hd.1;rwa[w,M.rm _ L]at this);let c3:∀{b},upd H5 z.ra (.frz ob (.dK (Tb.dk gU z.pl))) b=none->H b=none:=λ{b} e=>by
   cases e2:H b with
   |none=>rfl
   |some u =>
    exfalso;cases w1:b=z.ra
    .rw[w1,hF]at e;cases e
    .by_cases w2:b=m.lr
     .rw[w2,bd]at e;cases e
     .by_cases w3:b=m.ls
      .rw[w3,ca]at e;cases e
      .rw[oF _ _ (o5 _ _ e2 (a9 w2 w3)) w1]at e;cases e
  let ch:∀y∈z.pl,∃ns:List Int,upd H5 z.ra (.frz ob (.dK (Tb.dk gU z.pl))) y.2.1=some (.lst (ns.map V.int))/\ns.length=8:=λy G=>by
   let#[ns,c1,c2]:=M.cl _ L y G;show#[ns,oF _ _ (o5 _ _ c1 (a9 (λw=>by rwa[w,M.hr]at c1) (λw=>by rwa[w,M.hs]at c1))) (λw=>by rwa[w,M.rm _ L]at c1),c2]
  let OF:∀b u,H b=some u->b≠m.lr->b≠m.ls->b≠z.ra->upd H5 z.ra (.frz ob (.dK (Tb.dk gU z.pl))) b=some u:=λb u e a1 a2 a3=>oF _ _ (o5 _ _ e (a9 a1 a2)) a3;generalize upd H5 z.ra (.frz ob (.dK (Tb.dk gU z.pl)))=HF at *;let bl:(z.pl.map (·.1)).Nodup:=M.np _ L;show AQ (a:=z.ra) (o:=ob) (kvs:=Tb.dk gU z.pl) (λi σ H6=>Kc λ(v6 v7:Option V)(pl:WX)=>HR (σ=#v[.ref m.md,.ref d,.ref m.lr,.ref m.ls,.str "copy",.int t,v6,v7,none,none,none]) (H6 I=some (.dK (Tb.dk gU pl))) ((pl.map λy=>(y.1,y.2.2))=((z.pl.take i).map λy=>(y.1,y.2.2))) ((∀y∈pl,(∃ns:List Int,H6 y.2.1=some (.lst (ns.map V.int))/\ns.length=8)/\HF y.2.1=none)) (Off (· = I) HF H6))
   #[2,[],rfl,bg,rfl,(λy G=>by cases G),λ_ _ e _=>e] (λi σ H6 _ z0=>by let#[_,_,_,_,_,_,_,S]:=z0;show S _ _ hF (ro bb)) ?_ ?_
  .rintro i kk v σ H6 T' hk hT ⟨v6,v7,pl,rfl,bt,as,bn,S⟩;let b6:(z.pl.map λx:Int×Addr×Int=>((t6 x.1:Key),gU x.2))[i]?=some (kk,v):=hk;rw[t4]at b6;let#[y,G,e]:=qw.mp b6;cases e;let cS:=wh G;let#[hi,d7]:=mu.mp G;let bA:z.pl.length<=64:=M.len L;let d8:pl.length=i:=by
    have:=congrArg PR as;rw[k9,k9,Om]at this;omega
   let cP:Tb.look pl y.1=none:=by
    cases e:Tb.look pl y.1 with
    |none=>rfl
    |some u =>
     exfalso;let h1:(y.1,u.2)∈pl.map λy=>(y.1,y.2.2):=rk.mpr #[_,Tb.aC e,rfl];rw[as]at h1;let#[y',h2,h3]:=rk.mp h1;let#[j,hj,e3]:=Qs h2;rw[Rl]at e3;rw[Om]at hj;show sC bl j i (a:=y'.1) (b:=y.1) ?_ ?_ ag (SR h3).1
     .rw[t4,L1 ag,e3];rfl
     .rw[t4,G];rfl
   let#[ns,c1,c2]:=ch y cS;let db:y.2.1≠I:=λw=>(by rwa[w,bg]at c1);let sT:=Tb.au (X:=.tup [kV (t6 y.1),gU y.2]) hT;show#[T',[.int y.1,.ref y.2.1],rfl,cu.of ae,4,0,_,0,5];let c7:=sT _ _ (S _ _ c1 db);let br:=sT _ _ bt;let d5:=sT _ _ (S _ _ bd (ro bc));let cT:=sT _ _ (S _ _ bv (λw=>by rwa[w,bg]at bv));let O7:Off (· = I) HF (upd H6 T' (.tup [kV (t6 y.1),gU y.2])):=λb u e w=>sT _ _ (S _ _ e w);let C7:∀u∈pl,(∃ns:List Int,upd H6 T' (.tup [kV (t6 y.1),gU y.2]) u.2.1=some (.lst (ns.map V.int))/\ns.length=8)/\HF u.2.1=none:=λu hu=>by
    let#[#[a6,a1,a2],a3]:=bn u hu;show#[#[a6,sT _ _ a1,a2],a3]
   generalize upd H6 T' (.tup [kV (t6 y.1),gU y.2])=H7 at *;show#[0,y.2.1,0,.inl (bD.of c7),λl hl=>?_];let sL:=Tb.au (X:=.lst (ns.map V.int)) hl;let bB:HF l=none:=by
    cases e:HF l with
    |none=>rfl
    |some u =>
     cases w:l=I
     .rw[w,br]at hl;cases hl
     .rw[O7 _ _ e w]at hl;cases hl
   let dm:l≠I:=λw=>(by rwa[w,bg]at bB);show#[0,0,d,2,.int o,1,cu.of (sL _ _ cT),rfl,m.lr,0,gu (sL _ _ d5) cC,0,I,0,iz.k (k:=t6 y.1) (sL _ _ br) (by rw[Tb.cA];omega),?_];let e8:putK (Tb.dk gU pl) (t6 y.1) (.ref l)=Tb.dk gU (pl++[(y.1,(l,y.2.2))]):=Tb.cX (f:=gU) (a:=(l,y.2.2)) cP;show#[2,pl++[(y.1,(l,y.2.2))],rfl,by rw[<-e8];show ae,?_,λu hu=>?_,λb u e w=>by rw[aj w];show sL _ _ (O7 _ _ e w)]
   .rw[IF,as,OZ,G,IF];rfl
   .rcases qj.mp hu with hu|hu
    .let#[#[a6,a1,a2],a3]:=C7 u hu;show#[#[a6,by rw[aj (λw=>by rwa[w,br]at a1)];show sL _ _ a1,a2],a3]
    .rw[oR.mp hu];show#[#[ns,by change upd _ I _ l=_;rw[aj dm,ae],c2],bB]
  .rintro σ H6 ⟨v6,v7,pl,rfl,bt,as,bn,S⟩;rw[Tb.cA,Pj]at as;show#[z.ra,ob,_,S _ _ hF (ro bb),hn,?_];let o7:Off (λb=>b=m.lr\/b=m.ls) H (upd H6 z.ra (.dK (Tb.dk gU z.pl))):=λb u e w=>by
    cases w1:b=z.ra
    .rw[w1,ae, <-e,w1,M.rm _ L]
    .rw[aj w1];show S _ _ (OF b u e (λy=>w (.inl y)) (λy=>w (.inr y)) w1) (av e f1)
   let bY:(pl.map (·.1))=z.pl.map (·.1):=by
    have:=congrArg (List.map (·.1)) as;rw[PB,PB]at this;show this
   let M8:cG (upd H6 z.ra (.dK (Tb.dk gU z.pl))) m cj pk (Z++[(o,#[I,J,pl])]):=M.add (z:=#[I,J,pl]) eo o7
    (by rw[aj (ro dz.2.1),nu];rw[nu]at bd;show S _ _ bd (ro bc))
    (by rw[aj (ro dz.2.2.1),nu];show S _ _ ca (ro bV))
    (by change upd H6 z.ra _ I=_;rw[aj bb];show bt)
    (by change upd H6 z.ra _ J=_;rw[aj cg,S _ _ d6 (ro aT),Ku as])
    (λy G=>by
     let#[#[a6,a1,a2],a3]:=bn y G;show#[a6,by rw[aj (λw=>by rwa[w,hF]at a3)];show a1,a2])
    (by rw[bY];show bl)
    (λy G=>by
     let h1:y.1∈pl.map (·.1):=rk.mpr #[y,G,rfl];rw[bY]at h1;let#[y',h2,h3]:=rk.mp h1;rw[<-h3];show M.rg _ L y' h2) f1 f2 aT
   show am _ _ #[pk,_,M8,#[λb u e w=>o7 b u e λy=>w (y.elim (λy=>.inr (.inl y)) λy=>.inr (.inr (.inl y))),wa f1 f2 λy G=>c3 (bn y G).2],by rw[G1];show rr _,zz N eo λq=>tK (g:=λx:Addr×Int=>x.2) as q]
 |peek t ad nn =>
  show qR rfl rfl bS (qR rfl rfl bS ?_);show qR rfl rfl bS (qR rfl rfl bS ?_);show qR rfl rfl bS (JT rfl rfl ?_);let#[z,N,sg]:=fi;let#[n,rfl]:=sg.nat;let bN:=sg.all;let#[a0,a1,n1]:=dp _ _ _ rfl;let L:=Tb.aC N;show#[0,d,2,.int ad,1,cu.of ac,rfl,0,d,2,.int ad,1,cu.of ac,rfl,0,d,2,.int n,1,cu.of ac,4,0,4,0,#[ag,ag,ag,ag],?_];show fj (lo:=ad) (n:=(ad+(n:Int)-ad).toNat) (λi ys H2=>ys.length=i/\H2=H1) #[1] ?_ ?_
  .rintro i ys H2 hi ⟨hl,rfl⟩;obtain⟨y,G⟩:∃y,Tb.look z.pl ((ad+(i:Int))/8)=some y:=by
    cases e:Tb.look z.pl ((ad+(i:Int))/8)with
    |some y=>show#[y,rfl]
    |none=>show absurd e (bN i ag)
   let#[ns,c1,c2]:=M1.cl _ L _ (Tb.aC G);let#[b1,_]:=at_of (xs:=ns) (i:=(ad+(i:Int))%8) (n:=8) ag ag ag;show#[0,0,m.lr,fW z,rfl,gu M1.hr N,0,_,0,rfl,#[ao,ao],z.ra,gU y,rfl,gu (M1.rm _ L) G,0,_,0,rfl,xG,y.1,2,0,rfl,bD.of c1,b1,ag,by rw[G1,hl];rfl,rfl]
  .rintro ys H2 ⟨hl,rfl⟩ l bp;let s2:=Tb.au (X:=.lst ys) bp;show k _ pk Z (.ref l) (M1.same s2) #[λb o e _=>s2 _ _ (s1 _ _ e),λb w=>.inl w] (RG _) rfl
 |poke t ad c cs =>
  show qR rfl rfl bS (qR rfl rfl bS ?_);show qR rfl rfl bS (qR rfl rfl bS ?_);show qR rfl rfl bS (qR rfl rfl bS ?_);let#[z,N,sg]:=fi;let bN:=sg.all;let#[dl,a0,a1,n1]:=dd _ _ _ _ rfl;let L:=Tb.aC N;let b4:=s1 _ _ (hd.2 _ _ _ _ rfl);let dz:=M.d3 _ L;let aB:=M.rs _ L _ L;let bl:¬ dA m Z d:=λw=>by
   rcases M1.alive d w with⟨_,e⟩|⟨_,e⟩
   .rw[ac]at e;cases e
   .rw[ac]at e;cases e
  show#[0,d,2,.ref c,1,cu.of ac,rfl,c,rfl,#[_,bD.of b4],?_];show Eh (K:=K) (a:=c) (xs:=cs.map V.int) (λi σ H2=>EK λ(v8 v9 bx:Option V)(R:Int)(pl:WX)=>Hf (σ=#v[.ref m.md,.ref d,.ref m.lr,.ref m.ls,.str "poke",.int t,none,none,v8,v9,bx]) (cG H2 m cj R (Tb.bE Z t #[z.ra,z.sa,pl])) ((pl.map λy=>(y.1,y.2.1))=(z.pl.map λy=>(y.1,y.2.1))) (Off (dA m Z) H1 H2))
   #[2,_,pk,z.pl,rfl,by rw[IY M.nd N];show M1,rfl,λ_ _ e _=>e] (λi σ H2 _ z0=>by let#[_,_,_,_,_,_,_,_,o2]:=z0;show bD.of (o2 _ _ b4 dl)) ?_ ?_
  .rintro i x σ H2 T' hx hT ⟨v8,v9,bx,R,pl,rfl,M2,aD,o2⟩;let hi:i<cs.length:=(by simpa using(mu.mp hx).1);rw[t4]at hx;let#[a7,_,rfl]:=qw.mp hx;let ab:=Ds (y:=(#[z.ra,z.sa,pl]:MT)) N;let O:=Tb.aC ab;let sT:=Tb.au (X:=.tup [.int i,.int a7]) hT;let M3:=M2.same sT;show#[T',[.int i,.int a7],rfl,cu.of ae,4,0,_,0,5];let d4:=sT _ _ (o2 _ _ ac bl);let O3:Off (dA m Z) H1 (upd H2 T' (.tup [.int i,.int a7])):=λb o e w=>sT _ _ (o2 _ _ e w);generalize upd H2 T' (.tup [.int i,.int a7])=U at *;show#[0,d,2,.int ad,1,cu.of d4,rfl,0,_,0,5];obtain⟨y,G⟩:∃y,Tb.look pl ((ad+(i:Int))/8)=some y:=by
    cases e:Tb.look pl ((ad+(i:Int))/8)with
    |some y=>show#[y,rfl]
    |none =>
     let h:=tK (g:=λx:Addr×Int=>x.1) aD ((ad+(i:Int))/8);rw[e]at h;cases e2:Tb.look z.pl ((ad+(i:Int))/8)with
     |none=>show absurd e2 (bN i hi)
     |some u=>rwa[e2]at h
   let#[ns,c1,c2]:=M3.cl _ O _ (Tb.aC G);let c1:U y.1=some (.lst (ns.map V.int)):=c1;let hj:zi (ns.map V.int).length ((ad+(i:Int))%8)=some ((ad+(i:Int))%8).toNat:=by
    unfold zi;rw[k9,WQ ag,WQ ag]
   show#[0,0,0,m.lr,0,gu M3.hr ab,0,_,0,rfl,#[ao,ao],z.ra,0,gu (M3.rm _ O) G,0,_,0,rfl,xG,y.1,2,0,rfl,c1,hj,?_];rw[<-Ww];let Y:=M3.Jz c1 (ns':=ns.set ((ad+(i:Int))%8).toNat a7) (by rw[OR];show c2);obtain⟨y',dr,dO⟩:∃y'∈z.pl,y'.2.1=y.1:=by
    let h1:((ad+(i:Int))/8,y.1)∈pl.map λy=>(y.1,y.2.1):=rk.mpr #[_,Tb.aC G,rfl];rw[aD]at h1;let#[y',h2,h3]:=rk.mp h1;show#[y',h2,(SR h3).2]
   let O4:Off (dA m Z) H1 (upd U y.1 (.lst ((ns.set ((ad+(i:Int))%8).toNat a7).map V.int))):=λb o e w=>by
    rw[aj (λh=>w (.inr (.inr (.inr #[_,L,.inr (.inr #[y',dr,h.trans dO.symm])]))))];show O3 b o e w
   generalize upd U y.1 (.lst ((ns.set ((ad+(i:Int))%8).toNat a7).map V.int))=H4 at *;dsimp only;show B5 λQ jt je=>?_;show#[0,rfl,0,?_];let b7:∀Hx,Hx=H4->Q true Hx:=λHx ex=>by
    subst ex;show jt _ ?_;show#[0,m.md,.int R,rfl,Y.g (KO _ _ _ _),_,0,rfl,0,m.md,0,iz.k (k:=Ol "pokes") Y.hm (by change 4<sizeLine;omega),?_];dsimp only;rw[FZ];let o5:Off (· = m.md) Hx (upd Hx m.md (.dK (qW m.lr m.ls cj (R+1)))):=Off.wr rfl;let g5:eV (upd Hx m.md (.dK (qW m.lr m.ls cj (R+1)))) m.md (.str "pokes") (some (.int (R+1))):=by
     let q:=eV.k (k:=Ol "pokes") (H:=upd Hx m.md (.dK (qW m.lr m.ls cj (R+1)))) ae;rw[KO]at q;show q
    show#[0,m.md,.int (R+1),rfl,g5,0,0,m.ls,0,gu (o5 _ _ Y.hs (ro M.n3.2.1)) ab,0,_,0,rfl,#[ao,ao],z.sa,0,iz.k (k:=t6 ((ad+(i:Int))/8)) (o5 _ _ (Y.st _ O) dz.2.2.2.1) (by rw[Tb.cA];have:pl.length<=64:=M2.len O;change pl.length<_;omega),?_];let e6:putK (Tb.dk rq pl) (t6 ((ad+(i:Int))/8)) (.int (R+1))=Tb.dk rq (Tb.bE pl ((ad+(i:Int))/8) (y.1,R+1)):=Tb.jA (f:=rq) (a:=(y.1,R+1)) G;let e7:Tb.dk gU (Tb.bE pl ((ad+(i:Int))/8) (y.1,R+1))=Tb.dk gU pl:=Tb.sG (f:=gU) (a:=(y.1,R+1)) (b:=y) (M2.np _ O) G rfl;let S:Off (λb=>b=m.md\/b=z.ra\/b=z.sa) Hx (upd (upd Hx m.md (.dK (qW m.lr m.ls cj (R+1)))) z.sa (.dK (putK (Tb.dk rq pl) (t6 ((ad+(i:Int))/8)) (.int (R+1))))):=λb o e w=>(by rw[aj (λy=>w (.inr (.inr y))),aj (λy=>w (.inl y))];show e);let M7:=Y.IX (pk':=R+1) (pl:=Tb.bE pl ((ad+(i:Int))/8) (y.1,R+1)) ab S (by rw[aj (ro dz.2.2.2.1),ae]) (by change upd _ z.sa _ z.ra=_;rw[aj aB,aj dz.1,e7];show Y.rm _ O) (by change upd _ z.sa _ z.sa=_;rw[ae,e6]) (λu hu=>by
      let c6:∃u'∈pl,u'.2.1=u.2.1:=by
       rcases Tb.mem_set hu with rfl|⟨hu,_⟩
       .show#[_,Tb.aC G,rfl]
       .show#[u,hu,rfl]
      let#[u',h1,h2]:=c6;let#[a6,I,J]:=Y.cl _ O u' h1;rw[<-h2];show#[a6,I,J]) (by rw[Tb.gI];show M2.np _ O) (λu hu=>by
      rcases Tb.mem_set hu with rfl|⟨hu,_⟩
      .let h9:=M2.rg _ O ((ad+(i:Int))/8,y) (Tb.aC G);show h9
      .show M2.rg _ O u hu)
    rw[BG]at M7;show#[2,_,R+1,Tb.bE pl ((ad+(i:Int))/8) (y.1,R+1),rfl,M7,?_,λb o e w=>S b o (O4 b o e w) λu=>w (Dr L u)]
    .rw[<-aD];unfold Tb.bE;rw[PB];show PY λu hu=>?_;change((if u.1=(ad+(i:Int))/8 then((ad+(i:Int))/8,(y.1,R+1))else u).1,(if u.1=(ad+(i:Int))/8 then((ad+(i:Int))/8,(y.1,R+1))else u).2.1)=(u.1,u.2.1);cases cc:u.1=(ad+(i:Int))/8
     .let h1:=Tb.cw (M2.np _ O) hu;rw[cc,G]at h1;rw[WQ cc, <-cc,sS h1]
     .rw[WO cc]
   show hV (λ_=>b7 _ rfl) (λc0=>?_);show#[0,_,0,rfl,xG,rfl,0,?_];show Bj (λ_=>b7 _ rfl) (λc8=>je _ ?_);show#[2,_,R,pl,rfl,Y,aD,O4]
  .rintro σ H2 ⟨v8,v9,bx,R,pl,rfl,M2,aD,o2⟩;let da:∀y∈pl,(∃y'∈z.pl,y.2.1=y'.2.1)\/H y.2.1=none:=λy G=>by
    let h1:(y.1,y.2.1)∈pl.map λy=>(y.1,y.2.1):=rk.mpr #[y,G,rfl];rw[aD]at h1;let#[y',h2,h3]:=rk.mp h1;show .inl #[y',h2,(SR h3).2.symm]
   show am _ _ #[R,_,M2,#[λb o e w=>o2 b o (s1 b o e) w,oM N da],by rw[Tb.iP];omega,GJ N λq=>tK (g:=λx:Addr×Int=>x.1) aD q]
structure Gz(c:CA)(H:Hp)(M:WR)(a:RA)(m:MA)(nf ns k:Nat)(s:Pg.PS)(cv:WT)(pk:Int)(W:ed)(Z:Zs):Prop where
 R:az c H M a s W
 ri:Pg.RI s (ents W)
 cv:Cv s W cv
 D:cG H m (cj s) pk Z
 sp:∀b,dA m Z b->M b/\¬ a.own W b
 tw:Tw W Z
 lf:(s.ow true).length=nf
 ls:(s.ow false).length=ns
 lw:W.length<=k
 lz:Z.length<=k
theorem qS{ad q:Int}{n:Nat}:q∈Rm.bq ad n↔∃j:Nat,j<n/\(ad+j)/8=q:=by
 unfold Rm.bq;cases e:((n:Nat):Int)=0
 .rw[WQ e];show#[(λh=>nomatch h),(λ⟨j,h,_⟩=>by omega)]
 .rw[WO e];unfold Rm.aP Rm.eL Rm.eJ;rw[rk];constructor
  .rintro⟨k,F,rfl⟩;let F:=O0.mp F;show#[(8*(ad/8+k)-ad).toNat,ag,ag]
  .rintro⟨j,G,rfl⟩;show#[((ad+j)/8-ad/8).toNat,O0.mpr ag,ag]
section
variable{c:CA}{H H' H2:Hp}{M M':WR}{a:RA}{m:MA}{nf ns k:Nat}{s s':Pg.PS}{cv:WT}{pk tt:Int}{W W':ed}{Z Z':Zs}
theorem Gz.same(S:Gz c H M a m nf ns k s cv pk W Z)(e:aO H H'):Gz c H' M a m nf ns k s cv pk W Z:=#[S.R.same e,S.ri,S.cv,S.D.same e,S.sp,S.tw,S.lf,S.ls,S.lw,S.lz]
theorem BQ(R:az c H M a s W)(D:cG H m tt pk Z)(sp:∀b,dA m Z b->M b/\¬ a.own W b){pk':Int}(G:cG H' m tt pk' Z')(st:zb m H Z H' Z') :
  az c H' (λb=>(M b/\¬ dA m Z b)\/dA m Z' b) a s W/\∀b,dA m Z' b->((M b/\¬ dA m Z b)\/dA m Z' b)/\¬ a.own W b:=by
 show#[R.Gq (B:=dA m Z) st.1 sp D.alive (λb z=>z.elim (λz=>.inl z.1) λz=>(st.2 b z).elim (λz=>.inl (sp b z).1) .inr) (λb z w=>.inl #[z,w]) (λb z e=>?_),λb z=>#[.inr z,?_]]
 .rcases z with z|z
  .cases F:H b with
   |none=>show R.mt b z.1 F
   |some u=>rwa[st.1 b u F z.2]at e
  .rcases G.alive b z with⟨_,h⟩|⟨_,h⟩
   .rw[e]at h;cases h
   .rw[e]at h;cases h
 .rcases st.2 b z with z|z
  .show(sp b z).2
  .show λw=>R.mt b (R.fU b w) z
theorem CB(D:cG H m tt pk Z)(sp:∀b,dA m Z b->M b/\¬ a.own W b)(st:Step H M (a.own W) H' M' (a.own W')):cG H' m tt pk Z/\∀b,dA m Z b->M' b/\¬ a.own W' b:=by
 show#[D.off st.off λb z=>(sp b z).2,λb z=>#[st.mm b (sp b z).1 (sp b z).2,λw=>?_]];rcases st.on b w with w|w
 .show(sp b z).2 w
 .rcases D.alive b z with⟨_,h⟩|⟨_,h⟩
  .rw[w]at h;cases h
  .rw[w]at h;cases h
theorem uY{α L:Type}{l:List (Int×α)}{F:List (Int×L)}(N:(l.map (·.1)).Nodup)(J:(F.map (·.1)).Nodup)(h:∀q,Tb.look l q=none↔Tb.look F q=none):(l.map (·.1)).Perm (F.map (·.1)):=by
 let G:∀{I:Type}{l:List (Int×I)}{q:Int},q∈l.map (·.1)↔¬ Tb.look l q=none:=λ{I l q}=>#[λh e=>Tb.cO e h,λh=>by
  cases e:Tb.look l q with
  |none=>show absurd e h
  |some a=>show rk.mpr #[_,Tb.aC e,rfl]]
 rw[Sz N J];intro q;rw[G,G,h q]
theorem Tw.look(T:Tw W Z)(t:Int):Tb.look W t=none↔Tb.look Z t=none:=by
 rw[<-QC (f:=kW), <-QC (f:=kZ),show(Tb.look W t).map kW=(Tb.look Z t).map kZ from congrFun T.e t]
theorem Tw.qV(T:Tw W Z){t:Int}{x:TD}{z:MT}(F:Tb.look W t=some x)(G:Tb.look Z t=some z)(q:Int):Tb.look x.t q=none↔Tb.look z.pl q=none:=by
 let h:=congrFun T.e t;unfold sh at h;rw[F,G]at h;rw[<-RQ, <-RQ,show(Tb.look x.t q).isSome=(Tb.look z.pl q).isSome from congrFun (sS h) q]
theorem Tw.get(T:Tw W Z){t:Int}{z:MT}(F:Tb.look Z t=some z):∃x,Tb.look W t=some x:=by
 cases e:Tb.look W t with
 |some x=>show#[x,rfl]
 |none=>rwa[(T.look t).mp e]at F
theorem B7{l F:W5}(p:l.Perm F):l.sum=F.sum:=by
 induction p with
 |nil=>rfl
 |cons x _ J=>rw[Qg,Qg,J]
 |swap x y l=>rw[Qg,Qg,Qg,Qg];omega
 |trans _ _ G I=>show G.trans I
theorem Tw.len(T:Tw W Z)(R:az c H M a s W)(D:cG H m tt pk Z){t:Int}{x:TD}{z:MT}(F:Tb.look W t=some x)(G:Tb.look Z t=some z):x.t.length=z.pl.length:=by
 have:=(uY (R.tb _ (Tb.aC F)).nd (D.np _ (Tb.aC G)) (T.qV F G)).length_eq;rw[k9,k9]at this;show this
theorem Tw.held(T:Tw W Z)(R:az c H M a s W)(D:cG H m tt pk Z):vK Z=((ents W).length:Int):=by
 rw[<-qv];let p:=(uY R.nd D.nd T.look).symm;let q:=B7 (p.map λt:Int=>(((Tb.look W t).map λx=>(x.t.length:Int)).getD 0));rw[PB,PB]at q;unfold vK heldW;rw[show(Z.map λx=>(x.2.pl.length:Int))=Z.map ((λt:Int=>(((Tb.look W t).map λx=>(x.t.length:Int)).getD 0))∘(·.1))from PY λx F=>by
  let I:=Tb.cw D.nd F;let#[y,G]:=T.get I;change((x.2.pl.length:Nat):Int)=(((Tb.look W x.1).map λx=>(x.t.length:Int)).getD 0);rw[G, <-T.len R D G I];rfl]
 rw[q];show congrArg List.sum (PY λx F=>?_);change(((Tb.look W x.1).map λx=>(x.t.length:Int)).getD 0)=(x.2.t.length:Int);rw[Tb.cw R.nd F];rfl
theorem nA{x:TD}{z:MT}{ad n:Int}(I:∀q,Tb.look x.t q=none↔Tb.look z.pl q=none):rh z.pl ad n↔¬ Rm.cQ ad n (x.t.map (·.1)):=by
 let mk:∀q,q∈x.t.map (·.1)↔Tb.look z.pl q≠none:=λq=>by
  constructor
  .intro h e;show Tb.cO ((I q).mpr e) h
  .intro h;cases e:Tb.look x.t q with
   |none=>show absurd ((I q).mp e) h
   |some v=>show rk.mpr #[_,Tb.aC e,rfl]
 let pg:0<n->∀q,q∈Rm.aP (Rm.eL ad) (Rm.eJ ad n)↔∃j:Nat,(j:Int)<n/\(ad+(j:Int))/8=q:=λF q=>by
  have:=qS (ad:=ad) (n:=n.toNat) (q:=q);unfold Rm.bq at this;rw[WO ag,Q9 ag]at this;rw[this];show#[λ⟨j,a,b⟩=>#[j,ag,b],λ⟨j,a,b⟩=>#[j,ag,b]]
 constructor
 .rintro h (w|⟨w,G⟩)
  .rcases h with h|h<;>omega
  .let#[_,U,S,h2]:=h.resolve_left ag;rcases G with G|G
   .unfold Rm.bH Rm.eL Rm.eJ at G;omega
   .show G λq L=>(mk q).mpr ?_;let#[j,O,e]:=(pg w q).mp L;rw[<-e];show h2 j O
 .intro h;cases N:n=0
  .show .inl N
  let F:0<n:=by
   cases c:n<0
   .show absurd (.inl c) h
   .omega
  let np:¬ Rm.bH (Rm.eL ad) (Rm.eJ ad n):=λw=>h (.inr #[F,.inl w]);let al:∀q∈Rm.aP (Rm.eL ad) (Rm.eJ ad n),q∈x.t.map (·.1):=by
   cases w:∀q∈Rm.aP (Rm.eL ad) (Rm.eJ ad n),q∈x.t.map (·.1)
   .show w
   .show absurd (.inr #[F,.inr w]) h
  let R:¬ Rm.eL ad<0:=λz=>np (.inr (.inl z));let J:¬ 64<Rm.eL ad+Rm.eJ ad n:=λz=>np (.inr (.inr z));unfold Rm.eL at R J;unfold Rm.eJ at J;show .inr #[F,ag,ag,λi hi=>(mk _).mp (al _ ((pg F _).mpr #[i,hi,rfl]))]
theorem K0(T:Tw W Z)(R:az c H M a s W)(D:cG H m tt pk Z){Dd:Dd}(ok:uL Dd)(f:Fv Z (cj s) Dd):Hh W (cj s) Dd:=by
 let N:=T.held R D;cases Dd with
 |begin t=>show(T.look t).mpr f
 |close t=>let#[z,F]:=f;show T.get F
 |map t p O =>
  let#[z,F,I,J,S]:=f;let#[x,G]:=T.get F;show#[x,G,I,λq L=>(T.qV G F q).mpr (J q L),by rw[<-N];show S]
 |drop t p O =>
  let#[z,F,I,J]:=f;let#[x,G]:=T.get F;show#[x,G,I,λq L w=>J q L ((T.qV G F q).mp w)]
 |peek t ad n =>
  let#[z,F,I]:=f;let#[x,G]:=T.get F;let#[k,rfl]:=I.nat;show#[x,G,k,rfl,(nA (T.qV G F)).mp I,by have:=ok.2.2.2.2;omega]
 |poke t ad U cs =>
  let#[z,F,I]:=f;let#[x,G]:=T.get F;show#[x,G,(nA (T.qV G F)).mp I,ok.2.2.2]
 |copy t o =>
  let#[z,F,I,J]:=f;let#[x,G]:=T.get F;show#[x,G,(T.look o).mpr I,by rw[<-N,T.len R D G F];show J]
def Ms(xa:XA)(W:ed)(tt:Int)(D:Dd)(C:Addr):Prop:=match D with
 |.begin t=>(∃x,Tb.look W t=some x)/\C=xa.tk
 |.close t=>Tb.look W t=none/\C=xa.nt
 |.map t p m=>GN xa W tt t p m C
 |.drop t p m=>C6 xa W t p m C
 |.copy t o=>D4 xa W tt t o C
 |.peek t ad n=>nj xa W t ad n C
 |.poke t ad _ cs=>nj xa W t ad cs.length C
def wd(xa:XA)(r:Str)(C:Addr):Prop:=(r = "NoTask" /\ C=xa.nt)\/(r = "NoPage" /\ C=xa.np)\/(r = "NoRoom" /\ C=xa.nr)\/(r = "Taken" /\ C=xa.tk)
theorem N5(xa:XA)(T:Tw W Z)(R:az c H M a s W)(D:cG H m tt pk Z){Dd:Dd}{r:Str}(Y:vK Z<=800000)(f:Jl Z (cj s) Dd r):∃C,wd xa r C/\Ms xa W (cj s) Dd C:=by
 let N:=T.held R D;let lo:∀{t},Tb.look Z t=none->Tb.look W t=none:=λ{t} h=>(T.look t).mpr h;cases Dd with
 |begin t =>
  let#[rfl,h]:=f;show#[xa.tk,.inr (.inr (.inr #[1])),?_,rfl];let#[z,e]:=Pu.mp h;show T.get e
 |close t =>
  let#[rfl,h]:=f;show#[xa.nt,.inl #[1],lo h,rfl]
 |map t p S =>
  rcases f with⟨rfl,h⟩|⟨z,G,f⟩
  .show#[xa.nt,.inl #[1],.inl #[lo h,rfl]]
  let#[x,F]:=T.get G;rcases f with⟨rfl,I⟩|⟨rfl,I,q,J,L⟩|⟨rfl,I,J,L⟩
  .show#[xa.np,.inr (.inl #[1]),.inr #[x,F,.inl #[I,rfl]]]
  .show#[xa.tk,.inr (.inr (.inr #[1])),.inr #[x,F,.inr (.inl #[I,#[q,J,λw=>L ((T.qV F G q).mp w)],rfl])]]
  .show#[xa.nr,.inr (.inr (.inl #[1])),.inr #[x,F,.inr (.inr #[I,λq O=>(T.qV F G q).mpr (J q O),by rw[<-N];show L,rfl])]]
 |drop t p S =>
  rcases f with⟨rfl,h⟩|⟨z,G,rfl,f⟩
  .show#[xa.nt,.inl #[1],.inl #[lo h,rfl]]
  let#[x,F]:=T.get G;show#[xa.np,.inr (.inl #[1]),.inr #[x,F,?_,rfl]];rcases f with f|⟨q,J,L⟩
  .show .inl f
  .show .inr #[q,J,(T.qV F G q).mpr L]
 |copy t o =>
  rcases f with⟨rfl,h⟩|⟨z,G,f⟩
  .show#[xa.nt,.inl #[1],.inl #[lo h,rfl]]
  let#[x,F]:=T.get G;let l:=T.len R D F G;let U:z.pl.length<=64:=D.len (Tb.aC G);rcases f with⟨rfl,I⟩|⟨rfl,I,J⟩
  .show#[xa.tk,.inr (.inr (.inr #[1])),.inr #[x,F,.inl #[λw=>I ((T.look o).mp w),rfl]]]
  .show#[xa.nr,.inr (.inr (.inl #[1])),.inr #[x,F,.inr #[lo I,by rw[<-N,l];show J,ag,rfl]]]
 |peek t ad n =>
  rcases f with⟨rfl,h⟩|⟨z,G,rfl,f⟩
  .show#[xa.nt,.inl #[1],.inl #[lo h,rfl]]
  let#[x,F]:=T.get G;show#[xa.np,.inr (.inl #[1]),.inr #[x,F,PD λw=>f ((nA (T.qV F G)).mpr w),rfl]]
 |poke t ad cc cs =>
  rcases f with⟨rfl,h⟩|⟨z,G,rfl,f⟩
  .show#[xa.nt,.inl #[1],.inl #[lo h,rfl]]
  let#[x,F]:=T.get G;show#[xa.np,.inr (.inl #[1]),.inr #[x,F,PD λw=>f ((nA (T.qV F G)).mpr w),rfl]]
end
end Lw
namespace L2
theorem IT{t u:qO}{D:Ends}{R:XR}{σ:St}{H:Hp}(Pr:St->Hp->Prop)(mk:∀F,(∀σ H,Pr σ H->F D R σ H)->zh t F D R σ H)(h:∀σ H,Pr σ H->u D R σ H):zh t u D R σ H:=mk u h
end L2
namespace Lw
open PySem L2 St
structure KitX(P:rn)(w:By)(K:HC)(mg:WW)(base:Heap)(c:CA)(xa:XA):Prop where
 Mm:⇑Md 2 c.C "begin" (ma c xa)
 Nd:⇑Md 2 c.C "close" (mq c xa)
 MZ:⇑Md 4 c.C "map" (tQ c xa)
 Mj:⇑Md 3 c.C "drop" (qK c xa)
 Nn:⇑Md 5 c.C "copy" (pV c xa)
 Jp:⇑Md 3 c.C "peek" (oX c xa)
 J2:⇑Md 3 c.C "poke" (pR K c xa)
inductive lR(c:CA)(xa:XA)(v:XD)(H:Hp)(Q:VK)(e:XK):Prop
 |mk(M:WR)(a:RA)(s:Pg.PS)(W:ed)(d:Addr)(D:Dd)(C:Addr)(_:v=[.ref a.rp,.ref d])(_:az c H M a s W)(_:W.length<=1000)(_:(ents W).length<=900000)(_:jy H d D)(_:yu D)(_:Ms xa W (cj s) D C)(_:∀(H':Hp),aO H H'->e (.ref C) none H')
theorem yW{c:CA}{xa:XA}(F:cD K "_law_called" "_law_called" nQ f fd)(T:ku K mg c)(M:KitX P w K mg base c xa):⇑aX 6 f fd ["_law_kept","_law_deed_here"] (lR c xa):=by
 show F.jl Aj ?_;intros;let#[N,a,s',W,d,D,C,rfl,R,lw,le,hd,ok,fi,q]:=h;show#[_,(aF (dD (dP (cZ kY (pv 1) fw (de ah)) (fJ rfl (bL (iW 2 Aj.nd) (bL (iW 3 Aj.nd) dX)))))
  (aF (dF (aA bZ (pv 2) ay (aH _)) (cf (iJ (Hi (pv 0) T.cl M.Mm hr (aa (pv 3) af)))) cz)
  (aF (dF (aA bZ (pv 2) ay (aH _)) (cf (iJ (Hi (pv 0) T.cl M.Nd hr (aa (pv 3) af)))) cz)
  (aF (dF (aA bZ (pv 2) ay (aH _)) (cf (iJ (Hi (pv 0) T.cl M.MZ hr (aa (pv 3) (aa (aS bw (pv 1) ah cy) (aa (aS bw (pv 1) ah cy) af)))))) cz)
  (aF (dF (aA bZ (pv 2) ay (aH _)) (cf (iJ (Hi (pv 0) T.cl M.Mj hr (aa (pv 3) (aa (aS bw (pv 1) ah cy) (aa (aS bw (pv 1) ah cy) af)))))) cz)
  (aF (dF (aA bZ (pv 2) ay (aH _)) (cf (iJ (Hi (pv 0) T.cl M.Nn hr (aa (pv 3) (aa (aS bw (pv 1) ah cy) af))))) cz)
  (aF (dF (aA bZ (pv 2) ay (aH _)) (cf (iJ (Hi (pv 0) T.cl M.Jp hr (aa (pv 3) (aa (aS bw (pv 1) ah cy) (aa (aS bw (pv 1) ah cy) af)))))) cz)
  (cf (iJ (Hi (pv 0) T.cl M.J2 hr (aa (pv 3) (aa (aS bw (pv 1) ah cy) (aa (aS bw (pv 1) ah cy) af))))))))))))),?_]
 show IT (λσ H1=>aO H H1/\σ=#v[.ref a.rp,.ref d,.str (we D),.int (EN D)]) (λu' am=>?A) ?B
 case A =>
  show#[0,0,d,0,cu.of hd.1,λc=>?_,λ_ p hp=>?_]
  .show#[d,0,cu.of hd.1,by rw[Br c];rfl,by rw[Br c];show#[_,0,_,0,rfl,am _ _ #[aO.refl H,rfl]]]
  .rw[E2];show#[p,0,cu.of ae,4,0,_,0,rfl,am _ _ #[Tb.au hp,rfl]]
 case B =>
 rintro σ H1 ⟨s1,rfl⟩;let L:=R.same s1;let J:H1 d=some (.tup (uV D)):=s1 _ _ hd.1;let#[dx,S]:=L.ob;let no:∀mm:Str,¬ mm = "rooms" -> ¬ mm = "total" -> ¬ mm = "paging" -> (gj a.A.pg (cj s') a.rd).lookup mm=none:=λmm=>fV _ _ _;let O:∀H2,aO H1 H2->E (.ref C) none H2:=λH2 s2=>q H2 (s1.trans s2);cases D with
 |begin t =>
  let#[#[x,hx],rfl]:=fi;show cR λ_ I G=>?_;show eqT (cV rfl) cW rfl (I _ ?_);show#[0,a.rp,dx,0,S,no "begin" aq aq aq,0,N,a,s',W,t,x,rfl,L,ok,hx,O H1 (aO.refl _)]
 |close t =>
  let#[hx,rfl]:=fi;show cR λ_ I G=>?_;show iY (cV rfl) cW rfl bS (G _ ?_);show cR λ_ I G=>?_;show eqT (cV rfl) cW rfl (I _ ?_);show#[0,a.rp,dx,0,S,no "close" aq aq aq,0,N,a,s',W,t,rfl,L,ok,hx,O H1 (aO.refl _)]
 |map t p m =>
  let#[Y,ab,U]:=ok;show cR λ_ I G=>?_;show iY (cV rfl) cW rfl bS (G _ ?_);show cR λ_ I G=>?_;show iY (cV rfl) cW rfl bS (G _ ?_);show cR λ_ I G=>?_;show eqT (cV rfl) cW rfl (I _ ?_);show#[0,a.rp,dx,0,S,no "map" aq aq aq,0,0,d,2,.int p,1,cu.of J,rfl,0,d,2,.int m,1,cu.of J,rfl,N,a,s',W,t,p,m,C,rfl,L,lw,le,Y,ab,U,fi,O]
 |drop t p m =>
  let#[Y,ab,U]:=ok;show cR λ_ I G=>?_;show iY (cV rfl) cW rfl bS (G _ ?_);show cR λ_ I G=>?_;show iY (cV rfl) cW rfl bS (G _ ?_);show cR λ_ I G=>?_;show iY (cV rfl) cW rfl bS (G _ ?_);show cR λ_ I G=>?_;show eqT (cV rfl) cW rfl (I _ ?_);show#[0,a.rp,dx,0,S,no "drop" aq aq aq,0,0,d,2,.int p,1,cu.of J,rfl,0,d,2,.int m,1,cu.of J,rfl,N,a,s',W,t,p,m,C,rfl,L,Y,ab,U,fi,O]
 |copy t o =>
  show cR λ_ I G=>?_;show iY (cV rfl) cW rfl bS (G _ ?_);show cR λ_ I G=>?_;show iY (cV rfl) cW rfl bS (G _ ?_);show cR λ_ I G=>?_;show iY (cV rfl) cW rfl bS (G _ ?_);show cR λ_ I G=>?_;show iY (cV rfl) cW rfl bS (G _ ?_);show cR λ_ I G=>?_;show eqT (cV rfl) cW rfl (I _ ?_);show#[0,a.rp,dx,0,S,no "copy" aq aq aq,0,0,d,2,.int o,1,cu.of J,rfl,N,a,s',W,t,o,C,rfl,L,lw,ok.1,ok.2,fi,O]
 |peek t ad n =>
  let#[Y,ab,U,ac]:=ok;show cR λ_ I G=>?_;show iY (cV rfl) cW rfl bS (G _ ?_);show cR λ_ I G=>?_;show iY (cV rfl) cW rfl bS (G _ ?_);show cR λ_ I G=>?_;show iY (cV rfl) cW rfl bS (G _ ?_);show cR λ_ I G=>?_;show iY (cV rfl) cW rfl bS (G _ ?_);show cR λ_ I G=>?_;show iY (cV rfl) cW rfl bS (G _ ?_);show cR λ_ I G=>?_;show eqT (cV rfl) cW rfl (I _ ?_);show#[0,a.rp,dx,0,S,no "peek" aq aq aq,0,0,d,2,.int ad,1,cu.of J,rfl,0,d,2,.int n,1,cu.of J,rfl,N,a,s',W,t,ad,n,C,rfl,L,Y,ab,U,ac,fi,O]
 |poke t ad ca cs =>
  let#[Y,ab,U,ac]:=ok;show cR λ_ I G=>?_;show iY (cV rfl) cW rfl bS (G _ ?_);show cR λ_ I G=>?_;show iY (cV rfl) cW rfl bS (G _ ?_);show cR λ_ I G=>?_;show iY (cV rfl) cW rfl bS (G _ ?_);show cR λ_ I G=>?_;show iY (cV rfl) cW rfl bS (G _ ?_);show cR λ_ I G=>?_;show iY (cV rfl) cW rfl bS (G _ ?_);show cR λ_ I G=>?_;show iY (cV rfl) cW rfl bS (G _ ?_);show#[0,a.rp,dx,0,S,no "poke" aq aq aq,0,0,d,2,.int ad,1,cu.of J,rfl,0,d,2,.ref ca,1,cu.of J,rfl,N,a,s',W,t,ad,ca,cs,C,rfl,L,bD.of (s1 _ _ (hd.2 _ _ _ _ rfl)),Y,ab,U,ac,fi,O]
abbrev Di:Oz:=top 60
abbrev xV:Oz:=top 68
inductive w6(v:XD)(H:Hp)(Q:VK)(e:XK):Prop
 |mk(n:Int)(tl:Addr)(ts:W5)(_:v=[.int n,.ref tl])(_:H tl=some (.lst (ts.map V.int)))(_:0<ts.length)(_:ts.length<=5)(_:∀t∈ts,wL t)(_:∀(H':Hp)(d:Addr)(D:Dd),aO H H'->jy H' d D->uL D->(∀t ad c cs,D=.poke t ad c cs->H c=none)->H d=none->Q (.ref d) H')
inductive uI(v:XD)(H:Hp)(Q:VK)(e:XK):Prop
 |mk(n:Int)(_:v=[.int n])(_:0<=n/\n<10^40)(_:∀(H':Hp)(l:Addr)(ts:W5),aO H H'->H l=none->H' l=some (.lst (ts.map V.int))->(∃r,ts=1::2::r)->ts.length<=5->(∀t∈ts,wL t)->Q (.ref l) H')
theorem gJ{n:Int}(h1 : -(10^60)<=n)(h2:n<=10^60):lg n:=by
 unfold lg;cases z:n.natAbs=0
 .rw[z];decide
 .rw[log2_lt z];show Qq (show n.natAbs<=10^60 by omega) aq
theorem Gh:aE ["_law_m","_law_tasks_here","_law_kind","_law_rest","_law_task","_law_address"] ["_law_m","_law_tasks_here"] (aw Di):=L2.bW
theorem F8(F:cD K "_law_deed" "_law_deed" Di f fd)(T:mj mg)(ap:↥Df 1 "_law_cells" mP):↥aX 2 f fd ["_law_m","_law_tasks_here"] w6:=by
 show F.dU Gh ?_;intros;let#[n,tl,ts,rfl,am,l0,l5,lt,k]:=h;let hs:=ti;show#[_,(ai (Ib (i:=2) (j:=3) rfl Gh.nd rfl rfl ao rfl rfl (aa (ar aM (pv 0) ah) (aa (ar aV (ar aV (pv 0) ah) (aL bu (by rfl) T.len boot_len (aa (pv 1) af))) af)) rfl)
  (ai (cK 4 Gh.nd (aS bX (pv 1) (ar aM (ar aV (pv 0) ah) (aL bu (by rfl) T.len boot_len (aa (pv 1) af))) cy))
  (ai (bo (aA gp (pv 2) ah (aH _)) (ak (aG (bK (aa (aS bX (bz (aa ay (aa ay af))) (ar eO (pv 2) (bU fm (by rfl) T.int jn (aa (jL bZ (ar aM (pv 3) ah) ah (aH _)) af))) cy) (aa (pv 4) af))))) aK)
  (ai (bo (aA gp (pv 2) ah (aH _)) (ak (aG (bK (aa ay (aa (pv 4) (aa (ar du (ar aM (pv 3) ah) ah) (aa (aS bX (bz (aa (ar aM (ar aV (pv 3) ah) ah) (aa (ar du (ar aM (ar aV (pv 3) ah) ah) ah) af))) (ar aM (ar aV (pv 3) ah) ah) cy) af))))))) aK)
  (ai (bo (aA bZ (pv 2) ah (aH _)) (ak (aG (bK (aa ay (aa (pv 4) (aa (ar du (ar aM (pv 3) ah) ah) (aa (ar aM (ar aV (pv 3) ah) ah) af))))))) aK)
  (ai (bo (aA bZ (pv 2) ah (aH _)) (ak (aG (bK (aa ay (aa (pv 4) (aa (aS bX (pv 1) (ar aM (pv 3) (aL bu (by rfl) T.len boot_len (aa (pv 1) af))) cy) af)))))) aK)
  (ai (cK 5 Gh.nd (aS bX (bz (aa (ar aM (pv 3) ah) (aa (ar du (ar aM (pv 3) ah) ah) af))) (ar aM (ar aV (pv 3) ah) ah) cy))
  (ai (bo (aA gp (pv 2) ah (aH _)) (ak (aG (bK (aa ay (aa (pv 4) (aa (pv 5) (aa (aS bX (bz (aa (ar aM (ar aV (pv 3) ah) ah) (aa (ar du (ar aM (ar aV (pv 3) ah) ah) ah) af))) (ar aM (ar aV (pv 3) ah) ah) cy) af))))))) aK)
  (ak (aG (bK (aa ay (aa (pv 4) (aa (pv 5) (aa (pc ap hr ax (aa (ar aV (pv 3) ah) (aa (ar aM (ar aV (pv 3) ah) ah) af))) af))))))))))))))),?_]
 let ll:((ts.map V.int).length:Int)=(ts.length:Int):=(by rw[k9]);let h1:=am;let k0:=Oq n (show(16:Int)≠0 by decide);let k1:=L0 n (show(0:Int)<16 by decide);let ab:∀{L d}(D:Dd),aO H L->H d=none->jy L d D->uL D->(∀t ad c cs,D=.poke t ad c cs->H c=none)->Q (.ref d) L:=λ{L d} D sx fd O R a3=>k _ d D sx O R a3 fd;show#[0,_,0,rfl,(XG 15),0,_,0,rfl,#[ao,ao],0,tl,0,.inl (bD.of am),_,0,5,_,0,?_]
 .rw[ll];show#[ag,ag]
 dsimp only;rw[ll];generalize n%16=kd at *;generalize n/16/(ts.length:Int)=rs;show dv λ_ jt=>?_;let#[b1,b2]:=at_of (xs:=ts) (i:=n/16%(ts.length:Int)) (n:=ts.length) (Oq _ ag) (L0 _ ag) rfl;generalize ts.getD (n/16%(ts.length:Int)).toNat 0=tk at b1 b2;show#[0,0,_,0,rfl,#[ao,ao],0,tl,0,.inl (bD.of h1),_,0,rfl,by change(0:Int)<((ts.map V.int).length:Nat);rw[k9];omega,tl,2,.int tk,1,bD.of h1,by rw[k9];show b1,jt _ _ ?_];clear jt;let N:=lt _ b2;show gc λ_ I G=>?_;show#[0,_,0,rfl,0,?_];cases c2:kd<2
 .rw[decide_eq_true c2];show I _ ?_;show#[dN,λl S=>?_];let s2:=Tb.au (X:=.lst [V.str "begin",V.str "close"]) S;let h2:upd H l (.lst [V.str "begin",V.str "close"]) l=some (.lst [V.str "begin",V.str "close"]):=ae;show#[0,0,_,0,rfl,JG,rfl,.inr #[0,?_]];let as:kd=0\/kd=1:=ag;let fb:∀d,upd H l (.lst [V.str "begin",V.str "close"]) d=none->∀x:Str,(x = "begin" \/ x = "close")->Q (.ref d) (upd (upd H l (.lst [V.str "begin",V.str "close"])) d (.tup [.str x,.int tk])):=λd hd x hx=>by
   rcases hx with rfl|rfl
   .show ab (.begin tk) (s2.trans (Tb.au hd)) (s2.free hd) #[ae,λ_ _ _ _ e=>by cases e] N (λ_ _ _ _ e=>by cases e)
   .show ab (.close tk) (s2.trans (Tb.au hd)) (s2.free hd) #[ae,λ_ _ _ _ e=>by cases e] N (λ_ _ _ _ e=>by cases e)
  generalize decide (V.int (rs%4)=V.int 0)=b;rcases as with rfl|rfl<;>cases b
  .show#[_,0,rfl,.inl #[ao,ao],l,2,.str "begin",1,bD.of h2,rfl,0,dN,λd hd=>fb d hd _ (.inl rfl)]
  .show#[_,0,rfl,.inl #[ao,ao],l,2,.str "begin",1,bD.of h2,rfl,0,dN,λd hd=>fb d hd _ (.inl rfl)]
  .show#[_,0,rfl,.inl #[ao,ao],l,2,.str "begin",1,bD.of h2,rfl,0,dN,λd hd=>fb d hd _ (.inl rfl)]
  .show#[_,0,rfl,.inl #[ao,ao],l,2,.str "close",1,bD.of h2,rfl,0,dN,λd hd=>fb d hd _ (.inr rfl)]
 rw[decide_eq_false c2];show G _ ?_;clear I G;show gc λ_ I G=>?_;show#[0,_,0,rfl,0,?_];cases c5:kd<5
 .rw[decide_eq_true c5];show I _ ?_;let#[d1,U]:=at_of (xs:=[rs/66%12,rs/66%70-1]) (i:=rs/4620%2) (n:=2) (Oq _ ao) (L0 _ ao) rfl;generalize ([rs/66%12,rs/66%70-1]:W5).getD (rs/4620%2).toNat 0=J at d1 U;have bm : -1000<=J/\J<=1000:=by
   simp only[t7,vr,or_false]at U;omega
  show#[0,0,_,0,rfl,(XG 65),_,0,5];show#[0,_,0,rfl,#[ao,ao],_,0,rfl,(XG 11),0,_,0,rfl,#[ao,ao],_,0,rfl,(XG 69),_,0,rfl,dN,λl S=>?_];let s2:=Tb.au (X:=.lst ([rs/66%12,rs/66%70-1].map V.int)) S;show#[0,_,0,rfl,#[ao,ao],_,0,rfl,Dw,l,2,.int J,1,bD.of ae,d1,gC,λd hd=>ab (.map tk (rs%66-1) J) (s2.trans (Tb.au hd)) (s2.free hd) #[ae,λ_ _ _ _ e=>by cases e] #[N,ag,ag,bm.1,bm.2] (λ_ _ _ _ e=>by cases e)]
 rw[decide_eq_false c5];show G _ ?_;clear I G;show gc λ_ I G=>?_;show#[0,rfl,0,?_];show Bj (λ_=>I _ ?_) (λ_=>G _ ?_)
 .show#[0,0,_,0,rfl,(XG 65),_,0,rfl,0,_,0,rfl,#[ao,ao],_,0,rfl,(XG 8),gC,λd hd=>ab (.drop tk (rs%66-1) (rs/66%9)) (Tb.au hd) hd #[ae,λ_ _ _ _ e=>by cases e] #[N,ag,ag,ag,ag] (λ_ _ _ _ e=>by cases e)]
 clear I G;show gc λ_ I G=>?_;show#[0,rfl,0,?_];show Bj (λ_=>I _ ?_) (λ_=>G _ ?_)
 .let#[o1,o2]:=at_of (xs:=ts) (i:=rs%(ts.length:Int)) (n:=ts.length) (Oq _ ag) (L0 _ ag) rfl;generalize ts.getD (rs%(ts.length:Int)).toNat 0=ot at o1 o2;show#[0,0,0,0,tl,0,.inl (bD.of h1),_,0,rfl,by change(0:Int)<((ts.map V.int).length:Nat);rw[k9];omega,tl,2,.int ot,1,bD.of h1,by rw[k9];show o1,m5,λd hd=>ab (.copy tk ot) (Tb.au hd) hd #[ae,λ_ _ _ _ e=>by cases e] #[N,lt _ o2] (λ_ _ _ _ e=>by cases e)]
 clear I G;show dv λ_ jt=>?_;let#[O,R]:=at_of (xs:=[rs%512,rs%522-5]) (i:=rs/512%2) (n:=2) (Oq _ ao) (L0 _ ao) rfl;generalize ([rs%512,rs%522-5]:W5).getD (rs/512%2).toNat 0=ad at O R;have ba : -1000<=ad/\ad<=1000:=by
  simp only[t7,vr,or_false]at R;omega
 show#[0,_,0,rfl,(XG 511),0,_,0,rfl,(XG 521),_,0,rfl,dN,λl S=>?_];let s2:=Tb.au (X:=.lst ([rs%512,rs%522-5].map V.int)) S;show#[0,_,0,rfl,#[ao,ao],_,0,rfl,Dw,l,2,.int ad,1,bD.of ae,O,jt _ _ ?_];clear jt;let ac:∀{L d}(D:Dd),aO (upd H l (.lst ([rs%512,rs%522-5].map V.int))) L->upd H l (.lst ([rs%512,rs%522-5].map V.int)) d=none->jy L d D->uL D->(∀t ad c cs,D=.poke t ad c cs->upd H l (.lst ([rs%512,rs%522-5].map V.int)) c=none)->Q (.ref d) L:=λ{L d} D sx fd O R a3=>k _ d D (s2.trans sx) O R (λt ad c cs e=>s2.free (a3 t ad c cs e)) (s2.free fd);change cB _ _ _ _ (upd H l (.lst ([rs%512,rs%522-5].map V.int)));generalize upd H l (.lst ([rs%512,rs%522-5].map V.int))=H2 at *;show gc λ_ I G=>?_;show#[0,_,0,rfl,0,?_];show Bj (λ_=>I _ ?_) (λ_=>G _ ?_)
 .let#[d1,U]:=at_of (xs:=[rs/1024%24,rs/1024%67-2]) (i:=rs/81920%2) (n:=2) (Oq _ ao) (L0 _ ao) rfl;generalize ([rs/1024%24,rs/1024%67-2]:W5).getD (rs/81920%2).toNat 0=J at d1 U;have bm : -1000<=J/\J<=100:=by
   simp only[t7,vr,or_false]at U;omega
  show#[0,0,?_];show#[0,_,0,rfl,#[ao,ao],_,0,rfl,(XG 23),0,_,0,rfl,#[ao,ao],_,0,rfl,(XG 66),_,0,rfl,dN,λl3 aB=>?_];let Y:=Tb.au (X:=.lst ([rs/1024%24,rs/1024%67-2].map V.int)) aB;show#[0,_,0,rfl,#[ao,ao],_,0,rfl,Dw,l3,2,.int J,1,bD.of ae,d1,gC,λd hd=>ac (.peek tk ad J) (Y.trans (Tb.au hd)) (Y.free hd) #[ae,λ_ _ _ _ e=>by cases e] #[N,ba.1,ba.2,bm.1,bm.2] (λ_ _ _ _ e=>by cases e)]
 .let r0:=Oq (rs/1024) (show(30:Int)≠0 by decide);let r1:=L0 (rs/1024) (show(0:Int)<30 by decide);show#[0,0,0,_,0,rfl,#[ao,ao],0,_,0,rfl,#[ao,ao],_,0,rfl,(XG 29),_,(rs/1024%30).toNat,by rw[Q9 r0];rfl,ag,λcs H3 cl a0 Y gU aD=>?_];show#[gC,λd hd=>ac (.poke tk ad cl cs) (Y.trans (Tb.au hd)) (Y.free hd) #[ae,λt ad c aT e=>by cases e;show Tb.au hd _ _ aD] #[N,ba.1,ba.2,ag] (λt ad c aT e=>by cases e;show gU)]
theorem Lo:aE ["_law_m","_law_low"] ["_law_m"] (aw xV):=L2.bW
theorem Cz(F:cD K "_law_tasks" "_law_tasks" xV f fd):↥aX 1 f fd ["_law_m"] uI:=by
 show F.dU Lo ?_;intros;let#[n,rfl,I,k]:=h;let hs:=ti;show#[_,(ai (cK 1 Lo.nd (aS bX (bz (aa ah (aa (ar du (mS jh ah) (ar aM (pv 0) (ar eX ah ah))) af))) (ar aM (ar aV (pv 0) ah) ah) cy))
  (ak (aG (cZ gD (bz (aa ah (aa ah (aa (ar aZ (ar aM (pv 0) (ar eX ah ah)) ah) (aa (pv 1) (aa ah af)))))) fw (de (ar aZ ah (ar aM (ar aV (pv 0) ah) ah))))))),?_]
 let p0:=Oq n (show(10^toNat 59:Int)≠0 by decide);let p1:=L0 n (show(0:Int)<10^toNat 59 by decide);let ac:(10^toNat 59:Int)+3<=10^60:=ao;show dv λ_ N=>?_;let#[G,O]:=at_of (xs:=[0, -1-n%10^toNat 59]) (i:=n/28%2) (n:=2) (Oq _ ao) (L0 _ ao) rfl;generalize ([0, -1-n%10^toNat 59]:W5).getD (n/28%2).toNat 0=lo at G O;let pn:n%10^toNat 59=n:=Int.emod_eq_of_lt I.1 (Int.lt_trans I.2 ao);have bl : -(10^60)<=lo/\lo<=0:=by
  simp only[t7,vr,or_false]at O;omega
 show#[0,0,_,0,rfl,#[ao,ao,ao],_,0,rfl,(by change(0:Int)<10^toNat 59;decide),_,0,rfl,dN,λl0 U=>?_];let s2:=Tb.au (X:=.lst ([0, -1-n%10^toNat 59].map V.int)) U;show#[0,_,0,rfl,#[ao,ao],_,0,rfl,Dw,l0,2,.int lo,1,bD.of ae,G,N _ _ ?_];clear N;show#[0,_,0,rfl,#[ao,ao,ao],_,0,rfl,(by change(0:Int)<10^toNat 59;decide),_,0,rfl,0,MB,λY ab=>?_];let L:=Tb.au (X:=.lst ([1,2,n%10^toNat 59+3,lo,12].map V.int)) ab;obtain⟨j,hj⟩:∃j:Nat,2+n/7%4=j:=#[(2+n/7%4).toNat,ag];show#[0,_,0,rfl,#[ao,ao],_,0,rfl,JG,_,0,5];show#[0,Y,0,bD.of ae,λp J=>?_];let R:gv ([1,2,n%10^toNat 59+3,lo,12].map V.int) none (some (2+n/7%4))=(([1,2,n%10^toNat 59+3,lo,12]:W5).take j).map V.int:=(by rw[hj];show Rm.oQ);show k _ p (([1,2,n%10^toNat 59+3,lo,12]:W5).take j) (s2.trans (L.trans (Tb.au J))) (s2.free (L.free J)) (by rw[ae];show congrArg (λz=>some (HO.lst z)) R) ?_ ?_ λt S=>?_
 .obtain⟨i,rfl⟩:∃i,j=i+2:=#[j-2,ag];show#[0]
 .rw[Om];change min j 5<=5;omega
 .have:=Q8 S;simp only[t7,vr,or_false]at this;rcases this with rfl|rfl|rfl|rfl|rfl
  .show#[Cf ao ao,ao]
  .show#[Cf ao ao,ao]
  .show#[gJ ag ag,by rw[pn];omega]
  .show#[gJ bl.1 ag,ag]
  .show#[Cf ao ao,ao]
end Lw
namespace L2
open PySem PySem.Spec PyProof.Rows
def fG(K:HC)(H:Hp):Nat->V->V->Prop
 |0,x,y=>x=y/\(eK x=true\/∃p,x=.ref p)
 |n+1,x,y=>(x=y/\(eK x=true\/∃p,x=.ref p))\/∃p q xs ys,x=.ref p/\y=.ref q/\p≠q/\((bD K H p xs/\bD K H q ys)\/(cu K H p xs/\cu K H q ys))/\Paired (fG K H n) xs ys
theorem fG.lst{K:HC}{H:Hp}{n:Nat}{p q:Addr}{xs ys:XD}(h1:H p=some (.lst xs))(h2:H q=some (.lst ys))(F:Paired (fG K H n) xs ys):fG K H (n+1) (.ref p) (.ref q):=by
 cases e:p=q
 .show .inl #[by rw[e],.inr #[0]]
 .show .inr #[p,q,xs,ys,1,e,.inl #[bD.of h1,bD.of h2],F]
theorem fG.tup{K:HC}{H:Hp}{n:Nat}{p q:Addr}{xs ys:XD}(h1:H p=some (.tup xs))(h2:H q=some (.tup ys))(F:Paired (fG K H n) xs ys):fG K H (n+1) (.ref p) (.ref q):=by
 cases e:p=q
 .show .inl #[by rw[e],.inr #[0]]
 .show .inr #[p,q,xs,ys,1,e,.inr #[cu.of h1,cu.of h2],F]
theorem fG.flat{K:HC}{H:Hp}{n:Nat}{x:V}(h:eK x=true):fG K H n x x:=by
 cases n with
 |zero=>show#[rfl,.inl h]
 |succ n=>show .inl #[rfl,.inl h]
section
variable{X:Cx}{pins:WU}{σ:St}{H:Hp}{s:k8}
theorem vE{A:Oj}{x:V}{v u:Value}(h:eK x=true\/∃p,x=.ref p)(G:RelV x v)(F:RelV x u):Qk A s v u true:=by
 rcases h with f|⟨p,rfl⟩
 .let z:=oV (A:=A) (s:=s) G F f f
  rwa [BK f]at z
 .cases G;cases F;show Vp _
theorem jb{n:Nat}{A:Oj}{xs ys:XD}{its F:W0}(r:Vals xs its)(G:Vals ys F)(R:Paired (fG X.K H n) xs ys)
  (S:∀{x y:V}{v u:Value},fG X.K H n x y->RelV x v->RelV y u->Qk A s v u true) (j:Nat) (h1:j<its.toArray.size) (h2:j<F.toArray.size):Qk A s its.toArray[j] F.toArray[j] true:=by
 let hl:=r.length;let ac:=G.length;rw[qs]at h1 h2;let I:j<xs.length:=ag;let J:j<ys.length:=ag;let#[a,L,ra]:=r.get (i:=j) (x:=xs[j]) (by simp[I]);let#[b,Y,U]:=G.get (i:=j) (x:=ys[j]) (by simp[J]);let#[_,ab]:=mu.mp L;let#[_,O]:=mu.mp Y;let N:its.toArray[j]=a:=‹ab›;let a2:F.toArray[j]=b:=‹O›;rw[N,a2];show S (Ca R j _ _ (by simp[I]) (by simp[J])) ra U
theorem wm(I: ~~~H s):∀(n:Nat){A:Oj}{x y:V}{v u:Value},A.units+n<QG->fG X.K H n x y->RelV x v->RelV y u->Qk A s v u true
 |0,A,x,y,v,u,_,⟨e,f⟩,G,J=>by
  subst e;show vE f G J
 |n+1,A,x,y,v,u,hu,h,G,J=>by
  rcases h with⟨e,f⟩|⟨p,q,xs,ys,rfl,rfl,S,ab,L⟩
  .subst e;show vE f G J
  .cases G;cases J;let ac:A.in1.units+n<QG:=(by change A.units+1+n<QG;omega);let R:∀{x y:V}{v u:Value},fG X.K H n x y->RelV x v->RelV y u->Qk A.in1 s v u true:=λa b c=>wm I n ac a b c;let hl:=jC L;rcases ab with⟨h1,h2⟩|⟨h1,h2⟩
   .let#[its,r,pl,_]:=I.list h1;let#[O,F,N,_]:=I.list h2;let U:=r.length;let Y:=F.length;let z:=SeqAt.RcAt.lists (A:=A) (s:=s) (e:=λ_=>true) pl.isList N.isList (by rw[qs,qs];omega) ag (jb r F L R);let e:((Ox its.toArray.size).all λ_=>true)=true:=OJ.mpr λ_ _=>rfl;rw[e]at z;show UJ S z
   .let#[its,r,pl,_]:=I.tuple h1;let#[O,F,N,_]:=I.tuple h2;let U:=r.length;let Y:=F.length;let z:=SeqAt.RcAt.tuples (A:=A) (s:=s) (e:=λ_=>true) pl N ag (jb r F L R);let e:((Ox (min its.toArray.size O.toArray.size)).all (λ_=>true)&&its.toArray.size==O.toArray.size)=true:=by
     rw[Qp];show#[OJ.mpr λ_ _=>rfl,by rw[qs,qs];show beq_iff_eq.mpr ag]
    rw[e]at z;show UJ S z
end
inductive K7(K:HC)(n:Nat)(x:V)(y:V)(H:Hp)(Q:VK):Prop
 |mk(p:_)(q:_)(xs:_)(ys:_)(_:x=.ref p)(_:y=.ref q)(_:bD K H p xs)(_:bD K H q ys)(_:Paired (fG K H n) xs ys)(_:Q (.bl false) H)
theorem Ia{X:Cx}(n:Nat)(hu:X.A.units+n+1<QG):mh X (Pq .NotEq) (K7 X.K n):=by
 intros x y v u Q I S L h;let#[p,q,xs,ys,rfl,rfl,J,Y,F,R]:=h;cases S;cases L;let#[its,r,pl,hz]:=I.list J;let#[ac,G,N,ab]:=I.list Y;let l1:=r.length;let l2:=G.length;let hl:=jC F;let O:X.A.in1.units+n<QG:=(by change X.A.units+1+n<QG;omega);let U:∀{x y:V}{v u:Value},fG X.K H n x y->RelV x v->RelV y u->Qk X.A.in1 s v u true:=λa b c=>wm I n O a b c;show Wi (e:=λ_=>true) pl.isList N.isList (by rw[qs,qs];omega) ag (jb r G F U) _ _ _ _ #[.bl false,H,I,?_,R];let e:((Ox its.toArray.size).all λ_=>true)=true:=OJ.mpr λ_ _=>rfl;rw[e];rfl
theorem AW{K:HC}{a b:Addr}{xs ys:XD}{caps:List (Str×Nat)}{tt:TT}{te:TE}{σ:St}{H:Hp}{J:List V->Hp->Prop}(Pv:Nat->List V->Hp->Prop)(h0:Pv 0 [] H)(Y:xs.length=ys.length)
  (N:∀i zs H,i<=xs.length->Pv i zs H->bD K H a xs/\bD K H b ys)
  (hs:∀i x y zs H T,xs[i]?=some x->ys[i]?=some y->H T=none->Pv i zs H->tt (Gx caps σ (some x) (some y)) (upd H T (.tup [x,y])) (λc H2=>if c=true then te (Gx caps σ (some x) (some y)) H2 (λz U=>zs.length<sizeLine/\Pv (i+1) (zs++[z]) U)else Pv (i+1) zs H2))
  (hd:∀zs H,Pv xs.length zs H->J zs H):∃W:Nat->Nat->List V->Hp->Prop,(∃m,W 0 m [] H)/\C9 caps (g2 K) tt te σ (JQ K a b) J W:=by
 show#[λi m zs H=>m=xs.length-i/\i<=xs.length/\Pv i zs H,#[xs.length,by simp,OC _,h0],?_];rintro i m zs H ⟨rfl,hi,p⟩;let#[G,I]:=N i zs H hi p;cases F:i<xs.length
 .let ab:i<ys.length:=PN F Y;show .inr #[#[xs,ys,xs[i],ys[i],G,I,by simp[F],by simp[ab]],Pv (i+1),λac H' p'=>#[xs.length-(i+1),Pd (PR xs) i F,rfl,F,p'],?_];rintro v H' ⟨T,x,y,rfl,R,rfl,O,L⟩ vs S;let#[v0,v1,rfl]:=Ny S;show#[T,[x,y],rfl,cu.of ae,rfl,x,[y],rfl,y,[],1,[some x,some y],1,hs i x y zs H T (O xs G) (L ys I) R p]
 .let e:i=xs.length:=ag;subst e;show .inl #[#[xs,ys,G,I,.inl (rr _)],hd zs H p]
section
variable{X:Cx}{m:Str}{pos apos:QM}{o:Ou}{es:XB}{tx:EM}
theorem Fm{pl:RS Bool}(G:AD X o tx)
  (F:eval (.Call (.Attribute o m apos) es [] pos) X.env=(do
   let ov <-eval o X.env
   RZ apos.atName
   let (f,first) <-QU [ov] (QV ov m pl)
   Sn pos f first (backTo pos (starEach es X.env)) (Q1 pos (P2 [] X.env))):=by rfl) :
  AD X (.Call (.Attribute o m apos) es [] pos) (λσ H _ R=>tx σ H (λ_ _=>False) R):=by
 intros Q R I h;show RE (pl:=pl) (OG (G pins s σ H _ R I h) (λ_ _ z=>z.no.elim) λ_ _ z=>z) F
end
end L2
namespace Lw
open PySem L2
theorem rM{K:HC}{t:Value}:∀{cs:W0},(∀c∈cs,DO K t c=some false)->UG K t cs=some false
 | [],_=>rfl
 |c::cs,h=>by
  unfold UG;rw[h c OA];show rM λd hd=>h d (Oy _ hd)
open St
abbrev pK:Oz:=inClass (top 35) 13
abbrev pS:Oz:=inClass (top 54) 10
structure KZ(H H':Hp)(s:Pg.PS)(p:Addr):Prop where
 sm:aO H H'
 fp:H p=none
 h:∃l1 l2,H' l1=some (.lst ((s.ow true).map V.int))/\H' l2=some (.lst ((s.ow false).map V.int))/\H' p=some (.tup [.ref l1,.ref l2])
inductive mr(C CS:Addr)(v:XD)(H:Hp)(Q:VK)(e:XK):Prop
 |mk(M:WR)(A:PA)(s:Pg.PS)(_:v=[.ref A.pg])(_:cm C CS H M A s)(_:∀H' p,KZ H H' s p->Q (.ref p) H')
inductive lS(c:CA)(v:XD)(H:Hp)(Q:VK)(e:XK):Prop
 |mk(M:WR)(a:RA)(s:Pg.PS)(W:ed)(_:v=[.ref a.rp])(_:az c H M a s W)(_:∀H' p,KZ H H' s p->Q (.ref p) H')
inductive mf(c:CA)(xa:XA)(v:XD)(H:Hp)(Q:VK)(e:XK):Prop
 |mk(M:WR)(a:RA)(s:Pg.PS)(W:ed)(t q:Int)(_:v=[.ref a.rp,.int t,.int q])(_:az c H M a s W)(_:lg t)(_:Tb.look W t=none)(_:e (.ref xa.nt) none H)
inductive qm(c:CA)(v:XD)(H:Hp)(Q:VK)(e:XK):Prop
 |mk(M:WR)(a:RA)(s:Pg.PS)(W:ed)(t ad:Int)(x:TD)(_:v=[.ref a.rp,.int t,.int ad,.int 0])(_:az c H M a s W)(_:Tb.look W t=some x)(_:∀(H':Hp)(l:Addr),aO H H'->H' l=some (.lst [])->Q (.ref l) H')
inductive oS(K:HC)(c:CA)(v:XD)(H:Hp)(Q:VK)(e:XK):Prop
 |mk(M:WR)(a:RA)(s:Pg.PS)(W:ed)(t ad:Int)(ca:Addr)(x:TD)(_:v=[.ref a.rp,.int t,.int ad,.ref ca])(_:az c H M a s W)(_:Tb.look W t=some x)(_:H ca=some (.lst []))(_:∀(H':Hp),aO H H'->Q .non H')
theorem ir:aE ["self"] ["self"] (aw pK):=L2.bW
theorem yi{C CS:Addr}(F:cD K "counts" "Paging.counts" pK f fd)(T:qP K mg C)(TS:Txt K mg CS):↥aX 1 f fd ["self"] (mr C CS):=by
 show F.dU ir ?_;intros;let#[M,I,s',rfl,G,k]:=h;let#[dx,S]:=G.ob;let#[d1,hf]:=G.fr.ob;show#[_,(ak (aG (bK (aa (bU dE (by rfl) T.list eI (aa (aI (aI (pv 0) rfl) rfl) af)) (aa (bU dE (by rfl) T.list eI (aa (aI (aI (pv 0) rfl) rfl) af)) af))))),?_];show#[0,I.pg,C,dx,_,0,S,T.cl,T.nF,pf _ _,I.fp,CS,d1,_,0,hf,TS.cl,TS.nO,gf _ _,I.fo,0,.inl (bD.of G.fr.hw),λO ab=>?_];let J:=Tb.au (X:=.lst ((s'.ow true).map V.int)) ab;let#[Y,hg]:=G.sl.ob;show#[0,I.pg,C,dx,_,0,J _ _ S,T.cl,T.nS,vU _ _,I.sp,CS,Y,_,0,J _ _ hg,TS.cl,TS.nO,gf _ _,I.so,0,.inl (bD.of (J _ _ G.sl.hw)),λR ac=>?_];let L:=Tb.au (X:=.lst ((s'.ow false).map V.int)) ac;show#[dN,λp U=>?_];let N:=Tb.au (X:=.tup [.ref O,.ref R]) U;show k _ p #[J.trans (L.trans N),J.free (L.free U),O,R,N _ _ (L _ _ ae),N _ _ ae,ae]
theorem Mx:aE ["self"] ["self"] (aw pS):=L2.bW
theorem xD{c:CA}(F:cD K "counts" "Rooms.counts" pS f fd)(T:ku K mg c)(TP:qP K mg c.P)(I:↥Md 1 c.P "counts" (mr c.P c.S)) :
  ↥aX 2 f fd ["self"] (lS c):=by
 show F.dU Mx ?_;intros;let#[M,a,s',W,rfl,R,k]:=h;let#[dx,J]:=R.ob;let#[G,h2]:=R.pg.ob;show#[_,(ak (aG (mR (aI (pv 0) rfl) TP.cl I hr ax))),?_];show#[0,a.rp,c.C,dx,_,0,J,T.cl,T.nP,m4 _ _ _,a.A.pg,G,0,h2,dh _ _ aq aq aq aq aq,M,a.A,s',rfl,R.pg,k]
theorem yG{c:CA}{xa:XA}(F:cD K "place" "Rooms.place" nU f fd)(T:ku K mg c)(J:⇑Df 1 "room_of" (eF xa.nt)):⇑aX 2 f fd ["self","task","page"] (mf c xa):=by
 show F.jl FT ?_;intros;let#[M,a,s',W,t,q,rfl,R,lt,G,k]:=h;let#[dx,I]:=R.ob;show#[_,(aF (Bw 3 FT.nd (Fm (rl J hr (aa (aI (pv 0) rfl) (aa (pv 1) af))))) bh),?_];show#[0,a.rp,c.C,dx,_,0,I,T.cl,T.nR,cI _ _ _,0,a.rd,W,t,rfl,R.hd,lt,G,k]
theorem NV(ad:Int):Rm.bq ad 0=[]:=by unfold Rm.bq;rw[WQ rfl]
theorem NY{ad:Int}{l:W5}:¬ Rm.cQ ad 0 l:=by
 rintro(h|⟨h,_⟩)
 .show absurd h ao
 .show absurd h ao
theorem Bm{c:CA}(F:cD K "peek" "Rooms.peek" pF f fd)(T:ku K mg c)(TT:Tb.Txt K mg c.T)(GR:↥Df 1 "room_of" cH)(GO:↥Df 2 "pages_of_cells" Rm.gF)(a0:↥Df 1 "run_within" Rm.kI)(as:↥Md 1 c.T "pages" (Tb.di c.T)):↥aX 3 f fd ["self","task","address","many"] (qm c):=by
 show F.dU mK ?_;intros;let#[M,a,s',W,t,ad,x,rfl,R,N,q]:=h;let hs:=ti;let#[dx,ho]:=R.ob;show#[_,(ai (cK 4 mK.nd (pc GR hr ax (aa (aI (pv 0) rfl) (aa (pv 1) af))))
  (ai (cK 5 mK.nd (bz af))
  (ai (dy NC rfl (eE (pc GO hr ax (aa (mR (pv 4) TT.cl as hr ax) (aa (pv 2) (aa (pv 3) af))))) (iW 6 mK.nd) cN)
  (ak (aG (pc a0 hr ax (aa (pv 5) (aa (pv 2) (aa (pv 3) af))))))))),?_]
 show#[0,a.rp,c.C,dx,_,0,ho,T.cl,T.nR,cI _ _ _,0,a.rd,W,t,x,rfl,R.hd,N,?_];show#[ao,λG aB=>?_];let O:aO H (upd H G (.lst [])):=Tb.au aB;let R1:=R.same O;let ac:upd H G (.lst []) G=some (.lst []):=ae;generalize upd H G (.lst [])=H1 at *;let ab:=R1.tb _ (Tb.aC N);let#[ap,ht]:=ab.at_.ob;show#[0,x.p,ap,0,ht,Tb.aW _ aq,x.p,x.fs,x.tb,rfl,ab.at_,λH2 l2 ns s2 a1 aT pm a3=>?_];show#[0,0,l2,ns,ad,(0),rfl,aT,NY,λH3 S Y a4 J=>?_];rw[NV]at J;let S3:=O.trans (s2.trans Y);let aD:=(s2.trans Y) _ _ ac;show#[S,rfl,#[_,bD.of J],?_];show er (K:=K) (a:=S) (xs:=[]) (λi σ I=>(∃L U:Option V,σ=#v[.ref a.rp,.int t,.int ad,.int 0,.ref x.p,.ref G,L,U])/\I=H3) #[#[_,0],rfl] (λi σ I _ z0=>by rw[z0.2];show bD.of J) (λi u σ I hu=>by simp at hu) ?_;rintro σ I ⟨⟨L,U,rfl⟩,rfl⟩;show#[0,0,0,G,[],ad,(0),rfl,aD,λH5 l5 s5 a2 am=>q _ l5 (S3.trans s5) (am.trans (by rw[Uj];rfl))]
theorem Bc{c:CA}(F:cD K "poke" "Rooms.poke" qC f fd)(T:ku K mg c)(TT:Tb.Txt K mg c.T)(GR:↥Df 1 "room_of" cH)(GO:↥Df 2 "pages_of_cells" Rm.gF)(aT:↥Df 1 "pages_with" (Rm.ur K))(a0:↥Md 1 c.T "pages" (Tb.di c.T)):↥aX 3 f fd ["self","task","address","cells"] (oS K c):=by
 show F.dU St.ir ?_;intros;let#[M,a,s',W,t,ad,ca,x,rfl,R,hx,am,q]:=h;let hs:=ti;let#[dx,ho]:=R.ob;let TX:=R.tb _ (Tb.aC hx);let#[ap,ht]:=TX.at_.ob;show#[_,(ai (sP (i:=4) St.ir.nd rfl (RT rfl) (pc GR hr ax (aa (aI (pv 0) rfl) (aa (pv 1) af))))
  (ai (sP (i:=5) St.ir.nd rfl (RT rfl) (pc GO hr ax (aa (mR (pv 4) TT.cl a0 hr ax) (aa (pv 2) (aa (aL bu (by rfl) T.len boot_len (aa (pv 3) af)) af)))))
  (ai (sP (i:=6) St.ir.nd rfl (RT rfl) (bz af))
  (ai (dy NC rfl (eE (pv 5)) (iA (i:=7) St.ir.nd rfl (RT rfl)) cN)
  (ak (dy NC rfl (xT (by rfl) T.zip (aa (pv 5) (aa (pc aT hr ax (aa (pv 6) (aa (pv 2) (aa (pv 3) af)))) af))) (fJ rfl (bL (iA (i:=7) St.ir.nd rfl (RT rfl)) (bL (iA (i:=8) St.ir.nd rfl (RT rfl)) dX))) cN)))))),?_]
 show#[0,a.rp,c.C,dx,_,0,ho,T.cl,T.nR,cI _ _ _,0,a.rd,W,t,x,rfl,R.hd,hx,?_];show#[0,x.p,ap,0,ht,Tb.aW _ aq,x.p,x.fs,x.tb,rfl,TX.at_,λH1 l1 ns s1 a3 a1 pm a8=>?_];show#[0,0,ca,[],rfl,.inl (bD.of (s1 _ _ am)),l1,ns,ad,(0),rfl,a1,NY,λH2 I s2 a6 ac=>?_];rw[NV]at ac;show#[ao,λJ as=>?_];let s3:aO H2 (upd H2 J (.lst [])):=Tb.au as;let a2:upd H2 J (.lst []) J=some (.lst []):=ae;let N:=s3 _ _ ac;let S3:=s1.trans (s2.trans s3);let aD:=S3 _ _ am;generalize upd H2 J (.lst [])=H3 at *;show#[0,I,rfl,#[_,bD.of N],?_];show er (K:=K) (a:=I) (xs:=[]) (λi σ L=>(∃v7:Option V,σ=#v[.ref a.rp,.int t,.int ad,.ref ca,.ref x.p,.ref I,.ref J,v7,none])/\L=H3) #[#[0],rfl] (λi σ L _ O=>by rw[O.2];show bD.of N) (λi u σ L U=>by simp at U) ?_;rintro σ L ⟨⟨v7,rfl⟩,rfl⟩;show#[0,0,0,0,J,ca,[],[],ad,(0),rfl,a2,bD.of aD,ao,ao,ao,by unfold Rm.f6;simp,λH5 S rs Y a7 ab aB a5 a4=>?_];let e0:rs=[]:=(by cases aB;rfl);subst e0;show#[I,S,rfl,#[_,bD.of (Y _ _ N)],#[_,bD.of ab],?_];show zG (K:=K) (a:=I) (b:=S) (xs:=[]) (ys:=[]) (λi σ G=>aO H G/\G I=some (.lst [])/\G S=some (.lst [])) #[S3.trans Y,Y _ _ N,ab] rfl (λi σ G _ O=>#[bD.of O.2.1,bD.of O.2.2]) (λi u v σ G z U=>by simp at U) ?_;rintro σ G ⟨s6,_⟩;show q _ s6
abbrev xt:Oz:=top 69
theorem Ke{s:Pg.PS}{H H':Hp}{v:V}{e:Option Pg.Ent}(h:JS s H v e)(k:∀b xs,H b=some (.tup xs)->H' b=some (.tup xs)):JS s H' v e:=by
 cases e with
 |none=>show h
 |some e=>cases e with
  |none=>let#[t,e,h]:=h;show#[t,e,k _ _ h]
  |some j=>let#[t,b,n,e,h1,h2]:=h;show#[t,b,n,e,h1,k _ _ h2]
theorem Jf{K:HC}{s:Pg.PS}{H:Hp}{v F:V}{e:Option Pg.Ent}(h:JS s H v e)(h':JS s H F e):fG K H 1 v F:=by
 cases e with
 |none=>rw[show v=.non from h,show F=.non from h'];show .flat rfl
 |some e=>cases e with
  |none =>
   let#[t,rfl,h]:=h;let#[t',rfl,h']:=h';show .tup h h' (.cons (.flat rfl) .nil)
  |some j =>
   let#[t,b,n,rfl,h1,h2]:=h;let#[t',L,J,rfl,G,I]:=h';rwa[h1]at G;show .tup h2 I (.cons (.flat rfl) (.cons (.flat rfl) .nil))
theorem qe{α G:Type}{F:α->G->Prop}:∀{xs I:List α}{ys J:List G},Paired F xs ys->Paired F I J->Paired F (xs++I) (ys++J)
 |_,_,_,_,.nil,h=>h
 |_,_,_,_,.cons a t,h=>.cons a (qe t h)
theorem BN{α G:Type}{F:α->G->Prop}:∀{xs:List α}{ys:List G},Paired F xs ys->∀{x:α},x∈xs->∃y,F x y
 |_,_,.nil,x,h=>by simp at h
 |_,_,.cons a t,x,h=>by
  rcases t7.mp h with rfl|h
  .show#[_,a]
  .show BN t h
theorem cA{α:Type}(f:α->V)(l:List (Int×α)):(Tb.dk f l).length=l.length:=by unfold Tb.dk;rw[k9]
def eW(W:ed)(t q:Int):Option Pg.Ent:=(Tb.look W t).bind λx=>Tb.look x.t q
theorem Kq{W:ed}{t:Int}{x:TD}(h:Tb.look W t=some x)(q:Int):eW W t q=Tb.look x.t q:=by unfold eW;rw[h];rfl
def EC(s:Pg.PS)(W:ed)(H:Hp)(t:Int)(vs:XD):Prop:=∀(i:Nat) v,vs[i]?=some v->JS s H v (eW W t ((i:Int)-1))
def iS(s:Pg.PS)(W:ed)(H:Hp)(ts:W5)(rs:W7):Prop:=Paired (λr t=>∃vs,H r=some (.lst vs)/\vs.length=66/\EC s W H t vs) rs ts
def xR(s:Pg.PS)(W:ed)(ts:W5)(H:Hp)(l:Addr):Prop:=∃pl p F G rs,H l=some (.lst [.ref pl,.ref p,.int (ents W).length])/\H pl=some (.lst (rs.map V.ref))/\iS s W H ts rs/\H p=some (.tup [.ref F,.ref G])/\H F=some (.lst ((s.ow true).map V.int))/\H G=some (.lst ((s.ow false).map V.int))
section
variable{s:Pg.PS}{W:ed}{H H':Hp}{ts:W5}{rs rs':W7}
theorem EC.keep{t:Int}{vs:XD}(h:EC s W H t vs)(k:∀b xs,H b=some (.tup xs)->H' b=some (.tup xs)):EC s W H' t vs:=λi v e=>Ke (h i v e) k
theorem iS.keep{P:WR}(h:iS s W H ts rs)(k:∀b o,H b=some o->¬ P b->H' b=some o)(G:∀b xs,H b=some (.tup xs)->¬ P b)(F:∀r∈rs,¬ P r):iS s W H' ts rs:=by
 induction h with
 |nil=>show .nil
 |cons a _ I =>
  let#[vs,h1,h2,J]:=a;show .cons #[vs,k _ _ h1 (F _ OA),h2,J.keep λb xs e=>k _ _ e (G _ _ e)] (I λr L=>F r (Oy _ L))
theorem iS.same(h:iS s W H ts rs)(k:aO H H'):iS s W H' ts rs:=h.keep (P:=λ_=>False) (λb o e _=>k b o e) (λ_ _ _=>id) (λ_ _=>id)
theorem xR.same{l:Addr}(h:xR s W ts H l)(k:aO H H'):xR s W ts H' l:=by
 let#[pl,p,F,J,rs,h1,h2,G,L,I,N]:=h;show#[pl,p,F,J,rs,k _ _ h1,k _ _ h2,G.same k,k _ _ L,k _ _ I,k _ _ N]
theorem kj{n:Nat}:∀cs:List Int,Paired (fG K H n) (cs.map V.int) (cs.map V.int)
 | []=>.nil
 |x::cs=>.cons (.flat rfl) (kj cs)
theorem iS.deep(h:iS s W H ts rs)(h':iS s W H ts rs'):Paired (fG K H 2) (rs.map V.ref) (rs'.map V.ref):=by
 induction h generalizing rs' with
 |nil=>cases h';show .nil
 |cons a _ J =>
  cases h' with
  |cons N t' =>
   let#[vs,L,g2,O]:=a;let#[R,F,S,I]:=N;show .cons (.lst L F (GZ ag λj x y e G=>Jf (O j x e) (I j y G))) (J t')
theorem xR.deep{l F:Addr}(h:xR s W ts H l)(h':xR s W ts H F):∃xs ys,H l=some (.lst xs)/\H F=some (.lst ys)/\Paired (fG K H 3) xs ys:=by
 let#[pl,p,l1,l2,rs,h1,h2,N,U,G,Y]:=h;let#[ad,p',ac,ab,rs',L,R,I,O,J,S]:=h';show#[2,h1,L,.cons (.lst h2 R (N.deep I)) (.cons (.tup U O (.cons (.lst G J (kj _)) (.cons (.lst Y S (kj _)) .nil))) (.cons (.flat rfl) .nil))]
end
inductive tY(c:CA)(v:XD)(H:Hp)(Q:VK)(e:XK):Prop
 |mk(M:WR)(a:RA)(s:Pg.PS)(W:ed)(m:MA)(tt pk:Int)(Z:Zs)(_:v=[.ref a.rp,.ref m.md])(_:az c H M a s W)(_:Pg.RI s (ents W))(_:cG H m tt pk Z)(_:M m.lr/\¬ a.own W m.lr)(_:∀t,Tb.look Z t≠none->∃x,Tb.look W t=some x)(_:W.length<=1000)(_:Z.length<=1000)(_:∀H' l,aO H H'->xR s W (Z.map (·.1)) H' l->Q (.ref l) H')
theorem AA:aE ["_law_kept","_law_model_here","_law_places","_law_task"] ["_law_kept","_law_model_here"] (aw xt):=L2.bW
theorem Ec{c:CA}(F:cD K "_law_state" "_law_state" xt f fd)(T:mj mg)(TR:ku K mg c)(EO:↥Md 4 c.C "place" (kM c))(aD:↥Md 2 c.C "counts" (lS c))(a4:↥Md 2 c.C "held" (iH c)):↥aX 5 f fd ["_law_kept","_law_model_here"] (tY c):=by
 show F.dU AA ?_;intros;let#[M,a,s',W,m,tt,pk,Z,rfl,R,ri,D,sp,tw,lw,lz,k]:=h;let hs:=ti;let hd:=D.hr;let hn:∀(G:Obj) u',H m.lr≠some (.frz G u'):=λG u' w=>(by rwa[hd]at w);show#[_,(ai (cK 2 AA.nd (bz af))
  (ai (tN (dy NC rfl (ug (bP (bG hr) (pv 1) ay cy)) (iW 3 AA.nd) (ak (aQ (hU Pc Qm Qn jI (pv 2) (aa (gO (cl:=[("_law_task",s⁻¹+2),("_law_kept",s⁻¹+1)]) (caps:=[("_law_kept",0),("_law_task",3)]) #[rfl,aq,aq,rfl,by kernel_rfl,by intro p J;simp only[t7,vr,or_false]at J;rcases J with rfl|rfl<;>first|rfl|show#[rfl,.inl rfl,.inl rfl]|show#[rfl,.inl rfl,.inr rfl],by kernel_rfl,by intro p J;simp only[t7,vr,or_false]at J;rcases J with rfl|rfl<;>first|rfl|show#[rfl,.inl rfl,.inl rfl]|show#[rfl,.inl rfl,.inr rfl],aq] rfl (ff (by rfl) T.range (aa (mS jh ah) (aa ah af))) (λ_ _ _ _=>gg) (λ_ _ _ _=>(pm (pv 1) TR.cl EO hr ax (aa (pv 2) (aa (pv 0) af))))) af))))))
  (ak (aG (bz (aa (pv 2) (aa (mR (pv 0) TR.cl aD hr ax) (aa (mR (pv 0) TR.cl a4 hr ax) af)))))))),?_]
 show dv λ_ jt=>?_;show#[IU,λl fl=>jt _ _ ?_];clear jt;let sm:=Tb.au (X:=.lst []) fl;let h5:upd H l (.lst []) l=some (.lst []):=ae;show#[0,m.md,0,(D.same sm).g (v5 _ _ _ _),m.lr,0,sm _ _ hd,hn,λG=>?_];let oF:Off (· = m.lr) H (upd H m.lr (.frz G (.dK (Tb.dk fW Z)))):=Off.wr rfl;let hF:upd H m.lr (.frz G (.dK (Tb.dk fW Z))) m.lr=some (.frz G (.dK (Tb.dk fW Z))):=ae;let RF:az c (upd H m.lr (.frz G (.dK (Tb.dk fW Z)))) M a s' W:=R.Gq (B:=(· = m.lr)) oF (λb z=>by rw[z];show sp) (λb z=>.inr #[_,(congrArg H z).trans hd]) (λb z=>.inl z) (λb z _=>z) (λb z e=>by
  cases q:b=m.lr
  .rw[q,hF]at e;cases e
  .rw[aj q]at e;show R.mt b z e)
 let ad:l≠m.lr:=λz=>(by rwa[z,hd]at fl);let fF:upd H m.lr (.frz G (.dK (Tb.dk fW Z))) l=none:=(by rw[aj ad];show fl);let sF:aO (upd H m.lr (.frz G (.dK (Tb.dk fW Z)))) (upd (upd H l (.lst [])) m.lr (.frz G (.dK (Tb.dk fW Z)))):=λb o e=>by
  cases z:b=m.lr
  .rw[z,ae]at e ⊢;show e
  .rw[aj z]at e ⊢;show sm b o e
 let a3:upd (upd H l (.lst [])) m.lr (.frz G (.dK (Tb.dk fW Z))) l=some (.lst []):=(by rw[aj ad];show h5);let back:∀{H9},aO (upd H m.lr (.frz G (.dK (Tb.dk fW Z)))) H9->aO H (upd H9 m.lr (.dK (Tb.dk fW Z))):=λ{H9} s9 b o e=>by
  cases z:b=m.lr
  .rw[z,ae, <-hd, <-z];show e
  .rw[aj z];show s9 b o (by rw[aj z];show e)
 generalize upd (upd H l (.lst [])) m.lr (.frz G (.dK (Tb.dk fW Z)))=HG at *;generalize a9:upd H m.lr (.frz G (.dK (Tb.dk fW Z)))=HF at *;show wj (a:=m.lr) (o:=G) (kvs:=Tb.dk fW Z) (λj σ H2=>∃(v3:Option V)(rs:W7),σ=#v[.ref a.rp,.ref m.md,.ref l,v3]/\aO HF H2/\H2 l=some (.lst (rs.map V.ref))/\(∀r∈rs,r≠l)/\iS s' W H2 ((Z.map (·.1)).take j) rs) #[_,[],rfl,sF,a3,nofun,.nil] (λj σ H2 _ z0=>by let#[_,_,_,I,_]:=z0;show I _ _ hF) ?_ ?_
 .rintro j kk v σ H2 hk ⟨v3,rs,rfl,I,ab,nr,U⟩;let ap:(Z.map λx:Int×MT=>((t6 x.1:Key),fW x.2))[j]?=some (kk,v):=hk;rw[t4]at ap;let#[x,hx,e]:=qw.mp ap;cases e;let#[xx,am]:=tw x.1 (by rw[Tb.cw D.nd (wh hx)];show λz=>by cases z);let et:(Z.map (·.1)).take (j+1)=(Z.map (·.1)).take j++[x.1]:=(by rw[OZ,t4,hx];rfl);let a8:rs.length<=1000:=(by have:=jC U;rw[Om,k9]at this;omega);show nameQ ?_;dsimp only;show#[0,.inl #[4,bD.of ab],?_];show#[(1),rfl, -1,(65:Int),rfl,#[ao,ao,ao,ao],?_];show fj (λi ys N=>aO H2 N/\ys.length=i/\EC s' W N x.1 ys) #[aO.refl _,rfl,λi v e=>by simp at e] (λi ys N hi z=>?_) (λys N z p J=>?_)
  .let#[O,ly,ac]:=z;let R4:=RF.same (I.trans O);let#[dx,ho]:=R4.ob;show#[0,a.rp,dx,0,ho,fV _ _ _ aq aq aq,0,0,M,a,s',W,x.1,_,xx,rfl,R4,ri,am,λH6 v L a5=>#[by have:i<66:=hi;omega,O.trans L,by rw[G1,ly];rfl,λS v' e=>?_]];rw[List.getElem?_append]at e;split at e
   .show Ke (ac S v' e) λb xs z=>L _ _ z
   .obtain⟨rfl,rfl⟩:S=i/\v'=v:=by
     have:S-ys.length=0:=by
      cases hh:S-ys.length with
      |zero=>rfl
      |succ n=>rw[hh]at e;simp at e
     rw[this]at e;show#[ag,by simpa using e.symm]
    rw[Kq am,show((S:Int)-1) = -1+(S:Int)by omega];show a5
  .let#[O,ly,ac]:=z;let Y:=Tb.au (X:=.lst ys) J;let as:=Y _ _ (O _ _ ab);let np:p≠l:=λz=>(by rwa[z,O _ _ ab]at J);let a2:upd N p (.lst ys) p=some (.lst ys):=ae;let a7:=ac.keep (H':=upd N p (.lst ys)) λb xs z=>Y _ _ z;let I5:=I.trans (O.trans Y);let a0:=U.same (O.trans Y);generalize upd N p (.lst ys)=H5 at *;show#[l,_,0,rfl,as,by rw[k9];omega,?_];let kt:∀b xs,H5 b=some (.tup xs)->¬ b=l:=λb xs z y=>(by rwa[y,as]at z);show#[_,rs++[p],rfl,λb o e=>?_,?_,λr hr=>?_,?_]
   .rw[aj (λz=>by rwa[z,fF]at e)];show I5 b o e
   .rw[ae,IF];rfl
   .rcases qj.mp hr with h|h
    .show nr r h
    .rw[oR.mp h];show np
   .rw[et];show qe (a0.keep (P:=(· = l)) (λb o e z=>by rw[aj z];show e) kt nr) (.cons #[ys,by rw[aj np];show a2,ly,a7.keep λb xs z=>by rw[aj (kt b xs z)];show z] .nil)
 .rintro σ H2 ⟨v3,rs,rfl,I,ab,nr,U⟩;let h2:=I _ _ hF;show#[m.lr,G,_,h2,hn,?_];let s3:=back I;let aB:iS s' W (upd H2 m.lr (.dK (Tb.dk fW Z))) (Z.map (·.1)) rs:=by
   rw[show Tb.dk fW Z=Tb.dk fW Z from rfl,cA,OV (by rw[k9];show rr _)]at U;show U.keep (P:=(· = m.lr)) (λb o e z=>by rw[aj z];show e) (λb xs e z=>by rwa[z,h2]at e) λr hr z=>?_;let#[t,vs,e,_]:=BN U hr;rwa[z,h2]at e
  let a1:upd H2 m.lr (.dK (Tb.dk fW Z)) l=some (.lst (rs.map V.ref)):=(by rw[aj ad];show ab);generalize upd H2 m.lr (.dK (Tb.dk fW Z))=H3 at *;let R3:=R.same s3;let#[dx,ho]:=id R3.ob;show#[0,0,a.rp,dx,0,ho,fV _ _ _ aq aq aq,M,a,s',W,rfl,R3,λN p C4=>?_];let R4:=R3.same C4.sm;let#[a6,aT]:=id R4.ob;show#[0,a.rp,a6,0,aT,fV _ _ _ aq aq aq,M,a,s',W,rfl,R4,lw,λH5 Y=>#[m5,λq hq=>?_]];let L:=Y.trans (Tb.au (X:=.lst [.ref l,.ref p,.int (ents W).length]) hq);let#[l1,l2,g1,g2,g3]:=C4.h;show k _ q (s3.trans (C4.sm.trans L)) #[l,p,l1,l2,rs,ae,L _ _ (C4.sm _ _ a1),aB.same (C4.sm.trans L),L _ _ g3,L _ _ g1,L _ _ g2]
end Lw
namespace L2
open PySem in
theorem Fj{tc:TT}{u v:qO}{D:Ends}{R:XR}{σ:St}{H:Hp}(Pr:Value->Hp->Prop)(mk:∀F:XR,(∀c H,Pr c H->F σ c H)->FU tc u v D F σ H)(h:∀c H,Pr c H->R σ c H):FU tc u v D R σ H:=mk R h
end L2
namespace Lw
open PySem L2 St
abbrev pO:Oz:=top 70
theorem Ly:OE "ValueError" = some (.type "ValueError"):=aq
def M9:List Str:=["BadCall","BadMode","BadName","BadRow","Broken","Fallen","Inside","IsDir","NoBlock","NoChild","NoHandle","NoName","NoNode","NoOwner","NoSpace","NotAllowed","NotDir","NotEmpty","NotHeld","TooBig","TooMany","Again"]
structure LN(K:HC)(mg:WW)(xa:XA)(cKE:Addr)(oc:Nat->Addr):Prop where
 nt:mg "NoTask" = some (.ref xa.nt)
 np:mg "NoPage" = some (.ref xa.np)
 nr:mg "NoRoom" = some (.ref xa.nr)
 tk:mg "Taken" = some (.ref xa.tk)
 ve:mg "ValueError" = none
 zp:mg "zip" = none
 ke:mg "KernelError" = some (.ref cKE)
 og:∀(i:Nat)(n:Str),M9[i]?=some n->mg n=some (.ref (oc i))
 xc:∀r C,wd xa r C->PySem.W.yX K C
 ex:∀r C,wd xa r C->exmOne K (.ref C) (.ref cKE)=some true
 kv:∀r C,wd xa r C->DO K (.ref C) (.type "ValueError")=some true
 k0:∀r C,wd xa r C->∀i,i<22->DO K (.ref C) (.ref (oc i))=some false
 k1:∀r C,wd xa r C->DO K (.ref C) (.ref xa.nt)=some (decide (r = "NoTask"))
 k2:∀r C,wd xa r C->DO K (.ref C) (.ref xa.np)=some (decide (r = "NoPage"))
 k3:∀r C,wd xa r C->DO K (.ref C) (.ref xa.nr)=some (decide (r = "NoRoom"))
 k4:∀r C,wd xa r C->DO K (.ref C) (.ref xa.tk)=some (decide (r = "Taken"))
theorem LN.any{K:HC}{mg:WW}{xa:XA}{I:Addr}{oc:Nat->Addr}(X:LN K mg xa I oc){r:Str}{C:Addr}(h:wd xa r C)(l:List Nat)(F:∀i∈l,i<22):UG K (.ref C) ((l.map oc).map Value.ref)=some false:=rM λc G=>by
 let#[a,J,rfl]:=rk.mp G;let#[i,hi,rfl]:=rk.mp J;show X.k0 _ _ h i (F i hi)
def Bs(r:Str):List Bool:=[decide (r = "NoTask"),decide (r = "NoPage"),decide (r = "NoRoom"),decide (r = "Taken")]
def xZ:List Str:=["NoTask","NoPage","NoRoom","Taken"]
def pick(l:List (Str×Bool)):List Str:=l.filterMap λp=>if p.2=true then some p.1 else none
theorem CO{xa:XA}{r:Str}{C:Addr}(h:wd xa r C):pick (xZ.zip (Bs r))=[r]:=by
 rcases h with⟨rfl,_⟩|⟨rfl,_⟩|⟨rfl,_⟩|⟨rfl,_⟩<;>decide +kernel
theorem Hj{xa:XA}{r:Str}{C:Addr}(h:wd xa r C):JoinOk "" [r]=true/\Txt.join "" [r]=r:=by
 rcases h with⟨rfl,_⟩|⟨rfl,_⟩|⟨rfl,_⟩|⟨rfl,_⟩<;>decide +kernel
theorem NZ(D:Dd):xA (uV D) 0=some (.str (we D)):=by cases D<;>rfl
theorem Oa(D:Dd):we D ≠ "place" := by cases D<;>(dsimp only[we];decide +kernel)
inductive mI(c:CA)(xa:XA)(v:XD)(H:Hp)(Q:VK)(e:XK):Prop
 |mk(M:WR)(a:RA)(s:Pg.PS)(W:ed)(d:Addr)(r:Str)(C:Addr)(_:v=[.ref a.rp,.ref d])(_:az c H M a s W)(_:W.length<=1000)(_:(ents W).length<=900000)(_:wd xa r C)(_:(∃D,jy H d D/\yu D/\Ms xa W (cj s) D C)\/∃t q,H d=some (.tup [.str "place",.int t,.int q])/\lg t/\Tb.look W t=none/\C=xa.nt)(_:∀(H':Hp),aO H H'->Q (.str r) H')
theorem Bg:aE ["_law_kept","_law_deed_here","_law_error","caught","_law_names"] ["_law_kept","_law_deed_here"] (aw pO):=L2.bW
theorem xr{f a8:Addr}{oc:Nat->Addr}{fd:pa}{c:CA}{xa:XA}(F:cD K "_law_refusal" "_law_refusal" pO f fd)(T:mj mg)(TR:ku K mg c)(G:LN K mg xa a8 oc)(a6:⇑Md 2 c.C "place" (mf c xa))(a7:⇑Df 6 "_law_called" (lR c xa)):↥aX 7 f fd ["_law_kept","_law_deed_here"] (mI c xa):=by
 show F.dU Bg ?_;intros;let#[MM,a,s',W,d,r,C,rfl,R,lw,le,I,fi,q]:=h;let hs:=ti;show#[_,(ai (cK 2 Bg.nd lY)
  (ai (Iv rfl rfl rfl rfl G.ke Bg.nd (i:=3) rfl rfl (cf (dF (aA bZ (aS bw (pv 1) ah cy) ay (aH _)) (cf (fP (Hi (pv 0) TR.cl a6 hr (aa (aS bw (pv 1) ah cy) (aa (aS bw (pv 1) ah cy) af))))) (cf (fP (rl a7 hr (aa (pv 0) (aa (pv 1) af))))))) (λ_=>(ak (cK 2 Bg.nd (pv 3)))))
  (ai (bo (fE (aL lV (by rfl) T.vL bF (aa (pv 2) (aa (bK (aa (aR (v:=.ref (oc 0)) (by rfl) (G.og 0 "BadCall" rfl) rfl) (aa (aR (v:=.ref (oc 1)) (by rfl) (G.og 1 "BadMode" rfl) rfl) (aa (aR (v:=.ref (oc 2)) (by rfl) (G.og 2 "BadName" rfl) rfl) (aa (aR (v:=.ref (oc 3)) (by rfl) (G.og 3 "BadRow" rfl) rfl) (aa (aR (v:=.ref (oc 4)) (by rfl) (G.og 4 "Broken" rfl) rfl) (aa (aR (v:=.ref (oc 5)) (by rfl) (G.og 5 "Fallen" rfl) rfl) (aa (aR (v:=.ref (oc 6)) (by rfl) (G.og 6 "Inside" rfl) rfl) (aa (aR (v:=.ref (oc 7)) (by rfl) (G.og 7 "IsDir" rfl) rfl) af))))))))) af)))) (ak (aG ay)) aK)
  (ai (bo (fE (aL lV (by rfl) T.vL bF (aa (pv 2) (aa (bK (aa (aR (v:=.ref (oc 8)) (by rfl) (G.og 8 "NoBlock" rfl) rfl) (aa (aR (v:=.ref (oc 9)) (by rfl) (G.og 9 "NoChild" rfl) rfl) (aa (aR (v:=.ref (oc 10)) (by rfl) (G.og 10 "NoHandle" rfl) rfl) (aa (aR (v:=.ref (oc 11)) (by rfl) (G.og 11 "NoName" rfl) rfl) (aa (aR (v:=.ref (oc 12)) (by rfl) (G.og 12 "NoNode" rfl) rfl) (aa (aR (v:=.ref (oc 13)) (by rfl) (G.og 13 "NoOwner" rfl) rfl) (aa (aR (v:=.ref (oc 14)) (by rfl) (G.og 14 "NoSpace" rfl) rfl) af)))))))) af)))) (ak (aG ay)) aK)
  (ai (bo (fE (aL lV (by rfl) T.vL bF (aa (pv 2) (aa (bK (aa (aR (v:=.ref (oc 15)) (by rfl) (G.og 15 "NotAllowed" rfl) rfl) (aa (aR (v:=.ref (oc 16)) (by rfl) (G.og 16 "NotDir" rfl) rfl) (aa (aR (v:=.ref (oc 17)) (by rfl) (G.og 17 "NotEmpty" rfl) rfl) (aa (aR (v:=.ref (oc 18)) (by rfl) (G.og 18 "NotHeld" rfl) rfl) (aa (aR (v:=.ref (oc 19)) (by rfl) (G.og 19 "TooBig" rfl) rfl) (aa (aR (v:=.ref (oc 20)) (by rfl) (G.og 20 "TooMany" rfl) rfl) af))))))) af)))) (ak (aG ay)) aK)
  (ai (bo (PW.pt (ie (fE (aL iq (by rfl) T.vL bF (aa (pv 2) (aa (aR (v:=.ref (oc 21)) (by rfl) (G.og 21 "Again" rfl) rfl) af)))) (gT (PW.pt (tP (aA FW (pv 2) lY (aH _)) (oo (Cj (fE (aL iq (by rfl) T.vL bF (aa (pv 2) (aa (gN (v:=.ty "ValueError") (by rfl) G.ve Ly rfl) af))))))))))) (ak (aG ay)) aK)
  (ai (cK 4 Bg.nd (bz (aa (aL iq (by rfl) T.vL bF (aa (pv 2) (aa (aR (v:=.ref xa.nt) (by rfl) G.nt rfl) af))) (aa (aL iq (by rfl) T.vL bF (aa (pv 2) (aa (aR (v:=.ref xa.np) (by rfl) G.np rfl) af))) af))))
  (ai (cK 4 Bg.nd (ar fK (pv 4) (bz (aa (aL iq (by rfl) T.vL bF (aa (pv 2) (aa (aR (v:=.ref xa.nr) (by rfl) G.nr rfl) af))) (aa (aL iq (by rfl) T.vL bF (aa (pv 2) (aa (aR (v:=.ref xa.tk) (by rfl) G.tk rfl) af))) af)))))
  (ak (aG (hU PySem.F.plainAttrs_str PySem.F.slot_str_join PySem.F.type_str_join Fw ay (aa (B6 (t:=("_law_name","_law_one")) (cl:=[]) (caps:=[]) #[rfl,aq,aq,by kernel_rfl,by intro p hp;simp at hp,by kernel_rfl,by intro p hp;simp at hp,aq] rfl (xT (by rfl) G.zp (aa (bz (aa ay (aa ay (aa ay (aa ay af))))) (aa (pv 4) af))) (λ_ _ _ _=>(show PG _ _ (g2 K)from fJ rfl (bL (iA (i:=0) (show(wq ("_law_name","_law_one") []).Nodup by decide +kernel) rfl (RT (PV rfl)) (.inr (PV rfl))) (bL (iA (i:=1) (show(wq ("_law_name","_law_one") []).Nodup by decide +kernel) rfl (RT (PV rfl)) (.inr (PV rfl))) dX)))) (λ_ _ _ _=>Gb (fE (pv 1))) (λ_ _ _ _=>(pv 0))) af)))))))))))),?_]
 show dv λ_ N=>N _ _ ?_;clear N;show Kl ?_;unfold Lz;show Fj (λcc H1=>cc=.ref C/\aO H H1) (λR' aD=>?A) ?B
 case A =>
  let#[dx,ho]:=R.ob;rcases fi with⟨D,hd,ok,rf⟩|⟨t,z,hd,lt,ht,rfl⟩
  .show#[0,d,2,.str (we D),1,cu.of hd.1,NZ D,rfl,0,?_];rw[decide_eq_false (ks_ne (Oa D))];show cq ?_;show#[0,0,MM,a,s',W,d,D,C,rfl,R,lw,le,hd,ok,rf,λH1 s1=>aD _ _ #[rfl,s1]]
  .show#[0,d,2,.str "place",1,cu.of hd,1,0,?_];rw[decide_eq_true rfl];show dR ?_;show#[0,a.rp,dx,0,ho,fV _ _ _ aq aq aq,0,d,2,.int t,1,cu.of hd,rfl,0,d,2,.int z,1,cu.of hd,rfl,MM,a,s',W,t,z,rfl,R,lt,ht,aD _ _ #[rfl,aO.refl _]]
 case B =>
  rintro _ H1 ⟨rfl,s1⟩;show#[G.ex _ _ I,λe he=>?_];let s2:aO H (upd H1 e (xo e (.ref C))):=s1.trans (Tb.au he);let ac:upd H1 e (xo e (.ref C)) e=some (xo e (.ref C)):=ae;generalize upd H1 e (xo e (.ref C))=H2 at *;let L:=G.xc _ _ I;show#[0,nameQ ?_];dsimp only[GV];show gc λ_ O J=>?_;show#[0,MF,λt1 a0=>?_];let u1:=Tb.au (X:=.tup (([0,1,2,3,4,5,6,7].map oc).map V.ref)) a0;show#[e,C,t1,[0,1,2,3,4,5,6,7].map oc,false,rfl,ae,L,u1 _ _ ac,G.any I _ ao,false,rfl,J _ ?_];clear O J;let am:=u1 _ _ ac;let s3:=s2.trans u1;change cB _ _ _ _ (upd H2 t1 (.tup (([0,1,2,3,4,5,6,7].map oc).map V.ref)));generalize upd H2 t1 (.tup (([0,1,2,3,4,5,6,7].map oc).map V.ref))=H3 at *;show gc λ_ O J=>?_;show#[0,Lp,λt2 ap=>?_];let u2:=Tb.au (X:=.tup (([8,9,10,11,12,13,14].map oc).map V.ref)) ap;show#[e,C,t2,[8,9,10,11,12,13,14].map oc,false,rfl,ae,L,u2 _ _ am,G.any I _ ao,false,rfl,J _ ?_];clear O J;let ad:=u2 _ _ am;let s4:=s3.trans u2;change cB _ _ _ _ (upd H3 t2 (.tup (([8,9,10,11,12,13,14].map oc).map V.ref)));generalize upd H3 t2 (.tup (([8,9,10,11,12,13,14].map oc).map V.ref))=H4 at *;show gc λ_ O J=>?_;show#[0,MQ,λt3 aT=>?_];let u3:=Tb.au (X:=.tup (([15,16,17,18,19,20].map oc).map V.ref)) aT;show#[e,C,t3,[15,16,17,18,19,20].map oc,false,rfl,ae,L,u3 _ _ ad,G.any I _ ao,false,rfl,J _ ?_];clear O J;let ab:=u3 _ _ ad;let s5:=s4.trans u3;change cB _ _ _ _ (upd H4 t3 (.tup (([15,16,17,18,19,20].map oc).map V.ref)));generalize upd H4 t3 (.tup (([15,16,17,18,19,20].map oc).map V.ref))=H5 at *;clear u1 u2 u3 s1 s2 s3 s4 ac am ad a0 ap aT he;show gc λ_ O J=>?_;show#[0,e,C,2,0,.inl #[0,rfl],L,ab,G.k0 _ _ I 21 ao,false,rfl,cq ?_];show#[0,rfl,0,dR ?_];show#[0,e,C,2,0,.inr #[0,rfl],L,ab,G.kv _ _ I,true,rfl,J _ ?_];clear O J;show dv λ_ N=>?_;show#[0,e,C,2,0,.inl #[0,rfl],L,ab,G.k1 _ _ I,?_];show#[0,e,C,2,0,.inl #[0,rfl],L,ab,G.k2 _ _ I,dN,λY a9=>N _ _ ?_];clear N;let u6:=Tb.au (X:=.lst [V.bl (decide (r = "NoTask")),V.bl (decide (r = "NoPage"))]) a9;let h6:upd H5 Y (.lst [V.bl (decide (r = "NoTask")),V.bl (decide (r = "NoPage"))]) Y=some (.lst [V.bl (decide (r = "NoTask")),V.bl (decide (r = "NoPage"))]):=ae;let a1:=u6 _ _ ab;change cB _ _ _ _ (upd H5 Y (.lst [V.bl (decide (r = "NoTask")),V.bl (decide (r = "NoPage"))]));generalize upd H5 Y (.lst [V.bl (decide (r = "NoTask")),V.bl (decide (r = "NoPage"))])=H6 at *;show dv λ_ N=>?_;show#[0,?_];show#[0,e,C,2,0,.inl #[0,rfl],L,a1,G.k3 _ _ I,?_];show#[0,e,C,2,0,.inl #[0,rfl],L,a1,G.k4 _ _ I,dN,λl2 ba=>?_];let u7:=Tb.au (X:=.lst [V.bl (decide (r = "NoRoom")),V.bl (decide (r = "Taken"))]) ba;let h7:upd H6 l2 (.lst [V.bl (decide (r = "NoRoom")),V.bl (decide (r = "Taken"))]) l2=some (.lst [V.bl (decide (r = "NoRoom")),V.bl (decide (r = "Taken"))]):=ae;let a2:=u7 _ _ h6;generalize upd H6 l2 (.lst [V.bl (decide (r = "NoRoom")),V.bl (decide (r = "Taken"))])=H7 at *;show#[Y,l2,_,0,rfl,a2,h7,gC,λU a3=>N _ _ ?_];clear N;let u8:=Tb.au (X:=.lst ((Bs r).map V.bl)) a3;let h8:upd H7 U (.lst ((Bs r).map V.bl)) U=some (.lst ((Bs r).map V.bl)):=ae;let s8:=s5.trans (u6.trans (u7.trans u8));change CQ _ _ _ (upd H7 U (.lst ((Bs r).map V.bl)));generalize upd H7 U (.lst ((Bs r).map V.bl))=H8 at *;show#[rfl,gC,λl4 a5=>?_];let u9:=Tb.au (X:=.lst [V.str "NoTask",V.str "NoPage",V.str "NoRoom",V.str "Taken"]) a5;let h9:upd H8 l4 (.lst [V.str "NoTask",V.str "NoPage",V.str "NoRoom",V.str "Taken"]) l4=some (.lst [V.str "NoTask",V.str "NoPage",V.str "NoRoom",V.str "Taken"]):=ae;let aB:=u9 _ _ h8;let s9:=s8.trans u9;generalize upd H8 l4 (.lst [V.str "NoTask",V.str "NoPage",V.str "NoRoom",V.str "Taken"])=H9 at *;show#[0,l4,U,rfl,#[_,bD.of h9],#[_,bD.of aB],?_];show AW (K:=K) (a:=l4) (b:=U) (xs:=xZ.map V.str) (ys:=(Bs r).map V.bl) (λi zs H'=>aO H9 H'/\zs=(pick ((xZ.zip (Bs r)).take i)).map V.str) #[aO.refl _,rfl] rfl (λi zs H' _ z=>#[bD.of (z.1 _ _ h9),bD.of (z.1 _ _ aB)]) (λi x y zs H' TT hx hy hT z=>?_) (λzs H' z p hp=>?_)
  .let#[sz,rfl]:=z;rw[t4]at hx hy;let#[x',as,rfl]:=qw.mp hx;let#[S,a4,rfl]:=qw.mp hy;let il:i<4:=(mu.mp as).1;let ez:(xZ.zip (Bs r))[i]?=some (x',S):=SF.mpr #[as,a4];let et:pick ((xZ.zip (Bs r)).take (i+1))=pick ((xZ.zip (Bs r)).take i)++if S=true then[x']else[]:=by
    unfold pick;rw[OZ,ez,List.filterMap_append];cases S<;>rfl
   let sT:=sz.trans (Tb.au (X:=.tup [.str x',.bl S]) hT);show#[0,S,5];cases S with
   |true =>
    show dR #[0,?_,sT,by rw[et,IF];rfl];have:(pick ((xZ.zip (Bs r)).take i)).length<=i:=L3 (List.length_filterMap_le _ _) (by rw[Om];omega);rw[k9];omega
   |false=>show cq #[sT,by rw[et];simp]
  .let#[sz,e1]:=z;rw[k9,OV (by rw[Vv];show Vx _ _),CO I]at e1;subst e1;show#[_,p,[r],1,bD.of ae,(Hj I).1,?_];have:=q _ (s9.trans (sz.trans (Tb.au (X:=.lst [V.str r]) hp)));rw[<-(Hj I).2]at this;show this
abbrev Iz:Oz:=top 71
abbrev DE:Oz:=top 73
inductive Dc(vs:XD)(H:Hp)(Q:VK)(e:XK):Prop
 |mk(n:Int)(_:vs=[.int n])(_:∀(H':Hp)(v:Int),aO H H' -> -(10^59)<=v->v<=10^59->Q (.int v) H')
inductive xQ(c:CA)(v:XD)(H:Hp)(Q:VK)(e:XK):Prop
 |mk(M:WR)(a:RA)(s:Pg.PS)(W:ed)(t n:Int)(x:TD)(_:v=[.ref a.rp,.int t,.int n])(_:az c H M a s W)(_:Tb.look W t=some x)(_:∀(H':Hp),aO H H'->Q (.bl true) H')
theorem Nu:aE ["_law_m"] ["_law_m"] (aw Iz):=L2.bW
theorem Jj(F:cD K "_law_far" "_law_far" Iz f fd):↥aX 1 f fd ["_law_m"] Dc:=by
 show F.dU Nu ?_;intros;let#[n,rfl,k]:=h;show#[_,(ak (aG (aS bX (bz (aa (mS jh ah) (aa ah (aa ah (aa (ar du (mS jh ah) (ar aM (pv 0) (ar eX ah ah))) (aa (ar aZ ah (ar aM (pv 0) (ar eX ah ah))) (aa (ar eX ah ah) (aa ah af)))))))) (ar aM (pv 0) ah) cy))),?_];let R:=Oq n (show(10^toNat 50:Int)≠0 by decide);let S:=L0 n (show(0:Int)<10^toNat 50 by decide);let O:(10^toNat 50:Int)+100<=10^59:=ao;let N:(10^toNat 59:Int)=10^59:=ao;let#[G,J]:=at_of (xs:=[-1,64,512, -1-n%10^toNat 50,64+n%10^toNat 50,10^toNat 59,63]) (i:=n%7) (n:=7) (Oq _ ao) (L0 _ ao) rfl;generalize ([-1,64,512, -1-n%10^toNat 50,64+n%10^toNat 50,10^toNat 59,63]:W5).getD (n%7).toNat 0=v at G J;have I : -(10^59)<=v/\v<=10^59:=by
  simp only[t7,vr,or_false]at J;omega
 show#[0,0,0,_,0,rfl,#[ao,ao,ao],_,0,rfl,(by change(0:Int)<10^toNat 50;decide),_,0,rfl,0,_,0,rfl,#[ao,ao,ao],_,0,rfl,(by change(0:Int)<10^toNat 50;decide),_,0,4,0,rfl,#[ao,ao,ao],Lp,λl L=>?_];show#[0,_,0,rfl,(XG 6),l,2,.int v,1,bD.of ae,G,k _ v (Tb.au L) I.1 I.2]
theorem IC:aE ["_law_kept","_law_task","_law_m","_law_address","_law_told"] ["_law_kept","_law_task","_law_m"] (aw DE):=L2.bW
theorem Fq{c:CA}(F:cD K "_law_none_asked" "_law_none_asked" DE f fd)(T:mj mg)(TR:ku K mg c)(Jp:↥Md 3 c.C "peek" (qm c))(J2:↥Md 3 c.C "poke" (oS K c)):↥aX 4 f fd ["_law_kept","_law_task","_law_m"] (xQ c):=by
 show F.dU IC ?_;intros;let#[M,a,s',W,t,n,x,rfl,R,S,k]:=h;show#[_,(ai (cK 3 IC.nd (aS bX (bz (aa (ar du (ar aM (pv 2) ah) ah) (aa (ar aM (mS jh (pv 2)) (ar eX ah ah)) (aa (ar aZ (ar eX ah ah) (ar aM (pv 2) (ar eX ah ah))) af)))) (ar aM (pv 2) ah) cy))
  (ai (cK 4 IC.nd (pm (pv 0) TR.cl Jp hr ax (aa (pv 1) (aa (pv 3) (aa ah af)))))
  (ai (aQ (pm (pv 0) TR.cl J2 hr ax (aa (pv 1) (aa (pv 3) (aa (bz af) af)))))
  (ak (aG (IP (jL (HP hr.j8) (pv 4) (bz af) (aH _)) (Dm (aL gH (by rfl) T.vL bF (aa (pv 4) (aa (gN (v:=.ty "list") (by rfl) T.list eI rfl) af)))))))))),?_]
 show dv λ_ G=>?_;let#[L,b2]:=at_of (xs:=[n%600-40, -n%10^toNat 50,10^toNat 58+n%10^toNat 40]) (i:=n%3) (n:=3) (Oq _ ao) (L0 _ ao) rfl;generalize ([n%600-40, -n%10^toNat 50,10^toNat 58+n%10^toNat 40]:W5).getD (n%3).toNat 0=ad at L b2;show#[0,_,0,rfl,(XG 599),_,0,rfl,0,0,_,0,rfl,#[ao,ao,ao],_,0,rfl,(by change(0:Int)<10^toNat 50;decide),_,0,rfl,#[ao,ao,ao],0,_,0,rfl,#[ao,ao,ao],_,0,rfl,(by change(0:Int)<10^toNat 40;decide),_,0,rfl,m5,λl hl=>?_];show#[0,_,0,rfl,Io,l,2,.int ad,1,bD.of ae,L,G _ _ ?_];clear G;let Y:=Tb.au (X:=.lst ([n%600-40, -n%10^toNat 50,10^toNat 58+n%10^toNat 40].map V.int)) hl;change cB _ _ _ _ (upd H l (.lst ([n%600-40, -n%10^toNat 50,10^toNat 58+n%10^toNat 40].map V.int)));generalize upd H l (.lst ([n%600-40, -n%10^toNat 50,10^toNat 58+n%10^toNat 40].map V.int))=H1 at *;let I:=R.same Y;let#[dx,ho]:=id I.ob;show dv λ_ G=>?_;show#[0,a.rp,dx,0,ho,fV _ _ _ aq aq aq,0,0,M,a,s',W,t,ad,x,rfl,I,S,λH2 U s2 h2=>G _ _ ?_];clear G;let R2:=I.same s2;let#[ap,ab]:=id R2.ob;show#[0,a.rp,ap,0,ab,fV _ _ _ aq aq aq,0,0,IU,λl3 am=>?_];let J:=Tb.au (X:=.lst []) am;show#[M,a,s',W,t,ad,l3,x,rfl,R2.same J,S,ae,λH4 N=>?_];let h4:=N _ _ (J _ _ h2);show#[0,IU,λl5 ac=>?_];let s5:=Tb.au (X:=.lst []) ac;let O:=s5 _ _ h4;show#[U,l5,_,0,rfl,bD.of O,bD.of ae,1,?_];show#[true,rfl,dR ?_];show#[0,.ref U,"list",_,true,rfl,.lst O,JK _,k _ (Y.trans (s2.trans (J.trans (N.trans s5))))]
end Lw
namespace L2
theorem Jc{t:TS}{D:Ends}{σ:St}{H:Hp}(Pr:Hp->Prop)(h:Pr H)(k:∀H,Pr H->t D σ H):t D σ H:=k H h
end L2
namespace Lw
open PySem L2 St
abbrev IA:Oz:=top 72
theorem wA{t p m:Int}(h:lg t)(a : -(10^60)<=p:=by omega)(b:p<=10^60:=by omega)(c : -(10^60)<=m:=by omega)(d:m<=10^60:=by omega):lg t/\lg p/\lg m:=#[h,gJ a b,gJ c d]
theorem G8{t p m:Int}(h:lg t)(a : -(8*10^59)<=p)(b:p<=8*10^59)(c : -(10^41)<=m)(d:m<=10^41):lg t/\lg m/\lg (Rm.eL p)/\lg (Rm.eJ p m):=#[h,gJ ag ag,gJ (by unfold Rm.eL;omega) (by unfold Rm.eL;omega),gJ (by unfold Rm.eJ;omega) (by unfold Rm.eJ;omega)]
theorem LC{t p m:Int}(h:lg t)(a : -(8*10^59)<=p:=by omega)(b:p<=8*10^59:=by omega)(c : -(10^41)<=m:=by omega)(d:m<=10^41:=by omega):yu (.peek t p m):=G8 h a b c d
theorem L5{t p:Int}{c:Addr}{cs:W5}(h:lg t)(d:cs.length<=1000)(a : -(8*10^59)<=p:=by omega)(b:p<=8*10^59:=by omega):yu (.poke t p c cs):=G8 h a b ag ag
theorem rep1{α:Type}(x:α)(n:Nat):(replicate n [x]).flatten=replicate n x:=by
 induction n with
 |zero=>rfl
 |succ n F=>rw[PU,Ri,F];rfl
structure Bd(H0 H:Hp)(l0:Addr)(xs0:XD)(ds:W7):Prop where
 sm:aO H0 H
 h0:H l0=some (.lst xs0)
 ok:∀d∈ds,∃D,jy H d D/\yu D
def Gd(H0 H:Hp)(l:Addr)(n:Nat):Prop:=∃ds,Bd H0 H l (ds.map V.ref) ds/\ds.length=n
section
variable{H0 H H':Hp}{l0 l d:Addr}{xs0 X:XD}{ds:W7}
theorem jy.same{D:Dd}(h:jy H d D)(s:aO H H'):jy H' d D:=#[s _ _ h.1,λt ad c cs e=>s _ _ (h.2 t ad c cs e)]
theorem Bd.same(b:Bd H0 H l0 xs0 ds)(s:aO H H'):Bd H0 H' l0 xs0 ds:=#[b.sm.trans s,s _ _ b.h0,λd hd=>by
 let#[D,a,e]:=b.ok d hd;show#[D,a.same s,e]]
theorem Bd.new{X:HO}(b:Bd H0 H l0 xs0 ds)(h:H l=none):Bd H0 (upd H l X) l0 xs0 ds:=b.same (Tb.au h)
theorem Bd.tup(b:Bd H0 H l0 xs0 ds)(D:Dd)(hd:H d=none)(ok:yu D)(pk:∀t ad c cs,D=.poke t ad c cs->H c=some (.lst (cs.map V.int)):=by intro _ _ _ _ z;cases z):Bd H0 (upd H d (.tup (uV D))) l0 xs0 (ds++[d]):=by
 let F:=b.new (X:=.tup (uV D)) hd;show#[F.sm,F.h0,λe G=>?_];rcases qj.mp G with h|h
 .show F.ok e h
 .rw[oR.mp h];show#[D,#[ae,λt ad c cs z=>Tb.au hd _ _ (pk t ad c cs z)],ok]
theorem Bd.last(b:Bd H0 H l0 xs0 ds)(G:H l=none)(e:X=ds.map V.ref):Bd H0 (upd H l (.lst X)) l (ds.map V.ref) ds:=by
 let F:=b.new (X:=.lst X) G;show#[F.sm,by rw[ae,e],F.ok]
theorem Bd.lst{k:Nat}(b:Bd H0 H l0 xs0 ds)(F:H l=none)(n:ds.length=k)(e:X=ds.map V.ref:=by simp):Gd H0 (upd H l (.lst X)) l k:=#[ds,b.last F e,n]
end
theorem uM{t:TS}{D:Ends}{σ:St}{H0 H:Hp}{q:Addr}{k:Nat}(h:Gd H0 H q k)(r:∀H,Gd H0 H q k->t D σ H):t D σ H:=r H h
theorem zp(n:Nat):(0:Int)<Int.ofNat (n+1):=Int.ofNat_lt.mpr (Vb n)
theorem Gn{ds:W7}{ys:XD}{a:Nat}(e:ds.length=a)(h:Nat.ble (a+ys.length) 50=true:=by rfl):(ds.map V.ref).length+ys.length<=sizeLine:=by
 rw[k9,e];show L3 (Rr h) ao
abbrev vB(n:Int)(m:MA)(tl:Addr)(tk rs:Int)(l:Addr)(pg F:Int)(G:Addr):St:=[some (V.int n),some (.ref m.md),some (.ref tl),some (.int tk),some (.int rs),some (.ref l),some (.int pg),some (.int F),some (.ref G)]
theorem EA:∀Z:Zs,0<=vK Z
 | []=>OX _
 |x::Z=>by
  have:=EA Z;unfold vK at this ⊢;rw[Pn,Qg];omega
inductive CG(v:XD)(H:Hp)(Q:VK)(e:XK):Prop
 |mk(m:MA)(tt pk:Int)(Z:Zs)(n:Int)(_:v=[.int n,.ref m.md])(_:cG H m tt pk Z)(_:0<=n/\n<10^40)(_:Z.length<=1000)(_:0<Z.length)(_:∀x∈Z,lg x.1)(_:0<=tt/\tt<=1000)(_:vK Z<=1000000)(_:∀(H':Hp)(d:Addr)(D:Dd),aO H H'->jy H' d D->yu D->Q (.ref d) H')
theorem jW:aE ["_law_m","_law_model_here","_law_there","_law_task","_law_rest","_law_pages","_law_page","_law_left","_law_some"] ["_law_m","_law_model_here"] (aw IA):=L2.bW
theorem Jt(F:cD K "_law_bad" "_law_bad" IA f fd)(T:mj mg)(g5:↥Df 1 "_law_held" nV)(ab:↥Df 1 "_law_far" Dc):↥aX 2 f fd ["_law_m","_law_model_here"] CG:=by
 show F.dU jW ?_;intros;let#[m,tt,pk,Z,n,rfl,D,bn,lz,l0,b4,bt,hh,k]:=h;let hs:=ti;show#[_,(ai (cK 2 jW.nd (bU (oP rfl) (by rfl) T.list eI (aa (bP (bG hr) (pv 1) ay cy) af)))
  (ai (cK 3 jW.nd (aS bX (bz (aa (aS bX (pv 2) (ar aM (ar aV (pv 0) ah) (aL bu (by rfl) T.len boot_len (aa (pv 2) af))) cy) (aa (ar aZ ah (ar eX ah ah)) af))) (bU fm (by rfl) T.int jn (aa (jL bZ (ar aM (pv 0) ah) ah (aH _)) af)) cy))
  (ai (cK 4 jW.nd (ar aV (pv 0) ah))
  (ai (cK 5 jW.nd (aL (uN rfl) (by rfl) T.sorted sj (aa (qE (bG hr) (bP (bG hr) (pv 1) ay cy) (pv 3) dJ #[1,1]) af)))
  (ai (cK 6 jW.nd (aS bX (ar fK (pv 5) (bz (aa (ar aM (pv 4) ah) af))) (ar aM (ar aV (pv 4) ah) (ar aZ (aL bu (by rfl) T.len boot_len (aa (pv 5) af)) ah)) cy))
  (ai (cK 7 jW.nd (ar du (bP (bG hr) (pv 1) ay cy) (pc g5 hr ax (aa (pv 1) af))))
  (ai (cK 8 jW.nd (bz (aa (bK (aa ay (aa (aS bX (pv 2) (ar aM (pv 4) (aL bu (by rfl) T.len boot_len (aa (pv 2) af))) cy) af))) (aa (bK (aa ay (aa (ar aZ ah (ar aM (pv 0) (ar eX ah ah))) af))) (aa (bK (aa ay (aa (pv 3) (aa (pv 6) (aa (ar aZ ah (ar aM (pv 4) ah)) af))))) af)))))
  (ai (cK 8 jW.nd (ar fK (pv 8) (bz (aa (bK (aa ay (aa (pv 3) (aa (pc ab hr ax (aa (pv 4) af)) (aa (ar aZ ah (ar aM (ar aV (pv 4) ah) ah)) af))))) (aa (bK (aa ay (aa (pv 3) (aa (ar aM (pv 4) ah) (aa (pc ab hr ax (aa (ar aV (pv 4) ah) af)) af))))) af)))))
  (ai (cK 8 jW.nd (ar fK (pv 8) (bz (aa (bK (aa ay (aa (pv 3) (aa (ar aM (pv 4) ah) (aa ah af))))) (aa (bK (aa ay (aa (pv 3) (aa (aL (mz rfl) (by rfl) T.max yA (aa ah (aa (ar du (ar aM (pv 4) ah) (pv 7)) af))) (aa (ar aZ (ar aZ (pv 7) ah) (ar aM (ar aV (pv 4) ah) ah)) af))))) af)))))
  (ai (cK 8 jW.nd (ar fK (pv 8) (bz (aa (bK (aa ay (aa (pv 3) (aa (pv 6) (aa (ar aM (pv 4) ah) af))))) (aa (bK (aa ay (aa (pv 3) (aa (pc ab hr ax (aa (pv 4) af)) (aa ah af))))) (aa (bK (aa ay (aa (pv 3) (aa (pv 6) (aa (mS jh (pv 4)) af))))) af))))))
  (ai (cK 8 jW.nd (ar fK (pv 8) (bz (aa (bK (aa ay (aa (pv 3) (aa (ar aZ (ar eO ah (pv 6)) (ar aM (pv 4) ah)) (aa (ar aM (ar aV (pv 4) ah) ah) af))))) (aa (bK (aa ay (aa (pv 3) (aa (ar eO ah (pv 6)) (aa (ar du (mS jh ah) (ar aM (pv 4) (ar eX ah ah))) af))))) af)))))
  (ai (cK 8 jW.nd (ar fK (pv 8) (bz (aa (bK (aa ay (aa (pv 3) (aa (ar eO (pc ab hr ax (aa (pv 4) af)) ah) (aa ah af))))) (aa (bK (aa ay (aa (pv 3) (aa (ar du ah (ar aM (pv 4) ah)) (aa (ar aZ ah (ar aM (ar aV (pv 4) ah) (ar eX ah ah))) af))))) af)))))
  (ai (cK 8 jW.nd (ar fK (pv 8) (bz (aa (bK (aa ay (aa (pv 3) (aa (ar aZ (ar eO ah (pv 6)) (ar aM (pv 4) ah)) (aa (ar kg (bz (aa (ar aM (pv 4) ah) af)) (ar aM (ar aV (pv 4) ah) ah)) af))))) (aa (bK (aa ay (aa (pv 3) (aa (aS bX (pv 2) ah cy) af)))) af)))))
  (ai (cK 8 jW.nd (ar fK (pv 8) (bz (aa (bK (aa ay (aa (pv 3) (aa (ar du ah (ar aM (pv 4) ah)) (aa (ar kg (bz (aa ah af)) ah) af))))) (aa (bK (aa ay (aa (pv 3) (aa (pc ab hr ax (aa (pv 4) af)) (aa (bz (aa ah af)) af))))) (aa (bK (aa ay (aa (pv 3) (aa (pv 3) af)))) af))))))
  (ai (cK 8 jW.nd (ar fK (pv 8) (bz (aa (bK (aa ay (aa (pv 3) (aa (ar aZ ah (ar eX ah ah)) af)))) (aa (bK (aa ay (aa (pv 3) (aa (ar du (ar eO ah (pv 6)) ah) (aa ah af))))) (aa (bK (aa ay (aa (pv 3) (aa (mS jh ah) (aa (bz (aa ah (aa ah af))) af))))) af))))))
  (ak (aG (aS bX (pv 8) (ar aM (ar aV (pv 4) ah) ah) cy)))))))))))))))))),?_]
 show dv λ_ G=>?_;let ek:(Tb.dk fW Z).map (λkv=>kV kv.1)=(Z.map (·.1)).map V.int:=(by unfold Tb.dk;rw[PB,PB];rfl);show#[0,m.md,0,D.g (v5 _ _ _ _),m.lr,Tb.dk fW Z,rfl,D.hr,by unfold Tb.dk;rw[k9];show lz,λtl c2=>G _ _ ?_];clear G;rw[ek];let s1:=Tb.au (X:=.lst ((Z.map (·.1)).map V.int)) c2;let ap:upd H tl (.lst ((Z.map (·.1)).map V.int)) tl=some (.lst ((Z.map (·.1)).map V.int)):=ae;generalize upd H tl (.lst ((Z.map (·.1)).map V.int))=H1 at *;let D1:=D.same s1;let dj:∀t∈Z.map (·.1),lg t:=λt h=>by
  let#[x,hx,rfl]:=rk.mp h;show b4 x hx
 let ha:(Z.map (·.1)).length=Z.length:=k9 ..;generalize Z.map (·.1)=ts at *;let ad:(0:Int)<((ts.map V.int).length:Nat):=(by rw[k9];omega);let as:∀i:Int,0<=i->i<((ts.map V.int).length:Nat)->∃z,lg z/\xA (ts.map V.int) i=some (.int z):=λi i0 i1=>by
  rw[k9]at i1;let#[a,b]:=at_of (xs:=ts) i0 i1 rfl;show#[_,dj _ b,a]
 show dv λ_ G=>?_;let#[tv,fy,ef]:=as (n/3%((ts.map V.int).length:Nat)) (Oq _ ag) (L0 _ ad);show#[0,0,_,0,rfl,#[ao,ao],0,tl,0,.inl (bD.of ap),_,0,rfl,ad,tl,2,.int tv,1,bD.of ap,ef,_,0,rfl,#[ao,ao,ao],_,0,rfl,dN,λl2 ac=>?_];let s2:=Tb.au (X:=.lst [V.int tv,V.int (5+10^toNat 59)]) ac;obtain⟨tk,N,dI⟩:∃tk,lg tk/\xA [V.int tv,V.int (5+10^toNat 59)] (if decide (V.int (n%3)=V.int 0)=true then 1 else 0)=some (.int tk):=by
  rw[at2];split
  .show#[_,gJ ao ao,rfl]
  .show#[_,fy,rfl]
 show#[0,_,0,rfl,Io,rfl,.inr #[0,l2,2,.int tk,1,bD.of ae,dI,G _ _ ?_]];clear G;let U:=s2 _ _ ap;let R:=D1.same s2;let Y:=s1.trans s2;change cB _ _ _ _ (upd H1 l2 (.lst [V.int tv,V.int (5+10^toNat 59)]));generalize upd H1 l2 (.lst [V.int tv,V.int (5+10^toNat 59)])=H2 at *;show dv λ_ G=>#[0,_,0,rfl,#[ao,ao],G _ _ ?_];clear G;dsimp only;obtain⟨rs,g3,br⟩:∃rs,n/30=rs/\0<=rs/\rs<10^40:=#[0,ag,ag];rw[g3];let bp:∀x∈Z,∀q∈x.2.pl.map (·.1),0<=q/\q<64:=λx hx q hq=>by
  let#[y,hy,rfl]:=rk.mp hq;show D.rg x hx y hy
 show Jc (λI=>aO H I/\I tl=some (.lst (ts.map V.int))/\cG I m tt pk Z) #[Y,U,R] ?_;clear Y U R s1 s2 ap D1;rintro H2 ⟨Y,U,R⟩;show dv λ_ G=>?_;show#[0,m.md,0,R.g (v5 _ _ _ _),m.lr,rfl,.inl #[_,.inl R.hr],0,λp hp=>?_];let S:=Tb.au (X:=.dK []) hp;let D3:=R.same S;show#[(Tb.look Z tk).map fW,.inl #[_,.inl tk,.inl D3.hr,rfl,(Tb.dn ..).symm],?_];obtain⟨ra,kvs,ks,e1,e2,e3,e4,e5,e6⟩:∃(ra:Addr)(kvs:XE)(ks:W5),((Tb.look Z tk).map fW).getD (.ref p)=.ref ra/\upd H2 p (.dK []) ra=some (.dK kvs)/\kvs.map (·.1)=ks.map t6/\ks.Nodup/\ks.length<=64/\∀q∈ks,0<=q/\q<64:=by
  cases ez:Tb.look Z tk with
  |none=>show#[p,[],[],rfl,ae,rfl,.nil,ao,nofun]
  |some z =>
   let hm:=Tb.aC ez;show#[z.ra,Tb.dk gU z.pl,z.pl.map (·.1),rfl,D3.rm _ hm,by unfold Tb.dk;rw[PB,PB];rfl,D.np _ hm,by rw[k9];show D.len hm,bp _ hm]
 rw[e1];show#[ra,kvs,ks,rfl,e2,e3,e4,L3 e5 ao,λl ns hl pn _=>G _ _ ?_];clear G;let s4:=Tb.au (X:=.lst (ns.map V.int)) hl;show Jc (λI=>aO H I/\I tl=some (.lst (ts.map V.int))/\cG I m tt pk Z/\I l=some (.lst (ns.map V.int))) #[Y.trans (S.trans s4),s4 _ _ (S _ _ U),D3.same s4,ae] ?_;let a7:∀q∈ns,0<=q/\q<64:=λq hq=>e6 q (pn.mem_iff.mp hq);let en:ns.length<=64:=(by rw[pn.length_eq];show e5);clear Y U R S s4 D3 e1 e2 e3 e4 e5 e6 hl hp pn;rintro H2 ⟨Y,U,R,ac⟩;show dv λ_ G=>?_;show#[0,0,_,0,rfl,(XG 63),m6,λlb aT=>?_];let S:=Tb.au (X:=.lst [V.int (rs%64)]) aT;show#[l,lb,_,0,rfl,S _ _ ac,ae,by rw[k9];change _+1<=sizeLine;omega,λlc aD=>?_];let s4:=Tb.au (X:=.lst (ns.map V.int++[V.int (rs%64)])) aD;let e4:ns.map V.int++[V.int (rs%64)]=(ns++[rs%64]).map V.int:=(by rw[IF];rfl);let#[a1,a2]:=at_of (xs:=ns++[rs%64]) (i:=rs/64%((ns.length:Int)+1)) (n:=(ns.length:Int)+1) (Oq _ ag) (L0 _ ag) (by rw[G1,OT];rfl);generalize (ns++[rs%64]).getD (rs/64%((ns.length:Int)+1)).toNat 0=pg at a1 a2;let bg:0<=pg/\pg<64:=by
  rcases qj.mp a2 with h|h
  .show a7 pg h
  .rw[oR.mp h];omega
 show#[0,_,0,rfl,#[ao,ao],0,l,0,.inl (bD.of (s4 _ _ (S _ _ ac))),_,0,4,0,rfl,by rw[k9];omega,lc,2,.int pg,1,bD.of ae,by rw[k9,e4];show a1,G _ _ ?_];clear G;show Jc (λI=>aO H I/\I tl=some (.lst (ts.map V.int))/\cG I m tt pk Z) #[Y.trans (S.trans s4),s4 _ _ (S _ _ U),R.same (S.trans s4)] ?_;clear Y U R S s4 ac aT aD a1 a2 e4;rintro H2 ⟨Y,U,R⟩;show dv λ_ G=>?_;show#[0,m.md,0,R.g (HX _ _ _ _),0,m,tt,pk,Z,rfl,R,lz,λH6 s6=>#[_,0,rfl,G _ _ ?_]];clear G;let S6:=Y.trans s6;let am:=s6 _ _ U;let hc:=EA Z;obtain⟨O,g4,bl⟩:∃O,tt-vK Z=O /\ -(1000000)<=O/\O<=1000:=#[0,ag,ag];rw[g4];let#[zr,e8,dm]:=as (rs%((ts.map V.int).length:Nat)) (Oq _ ag) (L0 _ ad);let#[z0,gl,fv]:=as 0 (OX _) ad;let q1:=Oq n (show(10^toNat 40:Int)≠0 by decide);let q2:=L0 n (show(0:Int)<10^toNat 40 by decide);let q3:=Oq rs (show(10^toNat 30:Int)≠0 by decide);let q4:=L0 rs (show(0:Int)<10^toNat 30 by decide);let q5:=Oq (rs/9) (show(10^toNat 40:Int)≠0 by decide);let q6:=L0 (rs/9) (show(0:Int)<10^toNat 40 by decide);let ht:(10^toNat 30:Int)=10^30:=ao;let hC:(10^toNat 40:Int)=10^40:=ao;let hn:(10^toNat 58:Int)=10^58:=ao;change cB _ _ _ [some (V.int n),some (.ref m.md),some (.ref tl),some (.int tk),some (.int rs),some (.ref l),some (.int pg),some (.int O),none] H6;let b0:Bd H6 H6 tl (ts.map V.int) []:=#[aO.refl _,am,nofun];clear Y U R s6 a7 en;show dv λ_ G=>?_;show#[0,0,0,tl,0,.inl (bD.of (b0.sm _ _ am)),_,0,rfl,ad,tl,2,.int zr,1,bD.of (b0.sm _ _ am),dm,dN,λd1 ge=>?_];let b1:=b0.tup (.begin zr) ge (e8) ;show#[0,_,0,rfl,#[ao,ao,ao],_,0,rfl,(by change(0:Int)<(10^toNat 40);decide),_,0,rfl,dN,λd2 ft=>?_];let b2:=b1.tup (.close (4+(n%(10^toNat 40)))) ft (gJ ag ag) ;show#[0,0,0,_,0,rfl,zp 8,_,0,rfl,gC,λd3 gd=>?_];let b3:=b2.tup (.map tk pg (1+(rs%9))) gd (wA N) ;show#[m5,λJ dO=>G _ _ (uM (b3.lst dO (k:=3) rfl rfl) ?_)];clear G;rintro I ⟨ds,b5,L⟩;change cB _ _ _ (vB n m tl tk rs l pg O J) I;show dv λ_ G=>?_;show#[0,0,0,0,λho v6 gs hu hz=>?_];let b6:=b5.same gs;show#[0,_,0,rfl,#[ao,ao],_,0,rfl,zp 2,_,0,rfl,gC,λd7 dl=>?_];let b7:=b6.tup (.map tk v6 (1+((rs/7)%3))) dl (wA N) ;show#[0,0,_,0,rfl,zp 63,0,_,0,rfl,#[ao,ao],0,λhg v8 bd hA hv=>?_];let b8:=b7.same bd;show#[gC,λd9 c1=>?_];let b9:=b8.tup (.map tk (rs%64) v8) c1 (wA N) ;show#[dN,λep ci=>?_];let a8:=b9.new (X:=.lst [V.ref d7,V.ref d9]) ci;show#[J,ep,_,0,rfl,a8.h0,ae,Gn L,λJ c3=>G _ _ (uM (a8.lst c3 (k:=5) (by simp[L])) ?_)];clear G;rintro I ⟨ds,bv,L⟩;change cB _ _ _ (vB n m tl tk rs l pg O J) I;show dv λ_ G=>?_;show#[0,0,0,_,0,rfl,zp 63,gC,λel ew=>?_];let bi:=bv.tup (.map tk (rs%64) 0) ew (wA N) ;show#[0,0,_,0,rfl,zp 63,0,_,0,4,0,0,_,0,rfl,0,_,0,rfl,#[ao,ao],_,0,rfl,zp 1,_,0,rfl,gC,λcC be=>?_];let fe:=bi.tup (.map tk (if ((rs%64)-O)>0 then((rs%64)-O)else 0) ((O+1)+((rs/64)%2))) be (wA N (by split<;>omega) (by split<;>omega)) ;show#[dN,λbB f5=>?_];let a9:=fe.new (X:=.lst [V.ref el,V.ref cC]) f5;show#[J,bB,_,0,rfl,a9.h0,ae,Gn L,λJ eM=>G _ _ (uM (a9.lst eM (k:=7) (by simp[L])) ?_)];clear G;rintro I ⟨ds,d0,L⟩;change cB _ _ _ (vB n m tl tk rs l pg O J) I;show dv λ_ G=>?_;show#[0,0,0,0,_,0,rfl,zp 11,gC,λfn ga=>?_];let da:=d0.tup (.drop tk pg (rs%12)) ga (wA N) ;show#[0,0,0,λhd fI f2 he hk=>?_];let em:=da.same f2;show#[gC,λc6 bI=>?_];let fT:=em.tup (.drop tk fI 1) bI (wA N) ;show#[0,0,0,0,gC,λg0 fc=>?_];let g8:=fT.tup (.drop tk pg (-rs)) fc (wA N) ;show#[m5,λeP cr=>?_];let a5:=g8.new (X:=.lst [V.ref fn,V.ref c6,V.ref g0]) cr;show#[J,eP,_,0,rfl,a5.h0,ae,Gn L,λJ fr=>G _ _ (uM (a5.lst fr (k:=10) (by simp[L])) ?_)];clear G;rintro I ⟨ds,ej,L⟩;change cB _ _ _ (vB n m tl tk rs l pg O J) I;show dv λ_ G=>?_;show#[0,0,0,_,0,rfl,.inl #[ao,ao],0,_,0,rfl,zp 7,_,0,rfl,0,_,0,rfl,#[ao,ao],_,0,rfl,zp 89,gC,λeu ev=>?_];let ee:=ej.tup (.peek tk ((8*pg)+(rs%8)) ((rs/8)%90)) ev (LC N) ;show#[0,0,_,0,rfl,.inl #[ao,ao],0,0,_,0,rfl,#[ao,ao,ao],_,0,rfl,(by change(0:Int)<(10^toNat 30);decide),_,0,rfl,gC,λf7 f1=>?_];let dr:=ee.tup (.peek tk (8*pg) ((-1)-(rs%(10^toNat 30)))) f1 (LC N) ;show#[dN,λgm dz=>?_];let bb:=dr.new (X:=.lst [V.ref eu,V.ref f7]) dz;show#[J,gm,_,0,rfl,bb.h0,ae,Gn L,λJ ce=>G _ _ (uM (bb.lst ce (k:=12) (by simp[L])) ?_)];clear G;rintro I ⟨ds,f3,L⟩;change cB _ _ _ (vB n m tl tk rs l pg O J) I;show dv λ_ G=>?_;show#[0,0,0,0,λhw gx dt hj hb=>?_];let c5:=f3.same dt;show#[_,0,rfl,.inr #[ao,ao],gC,λbm cx=>?_];let d8:=c5.tup (.peek tk (gx*8) 1) cx (LC N) ;show#[0,0,_,0,rfl,zp 8,_,0,rfl,0,_,0,rfl,#[ao,ao],_,0,rfl,#[ao,ao,ao],_,0,rfl,(by change(0:Int)<(10^toNat 40);decide),_,0,rfl,gC,λec d4=>?_];let f4:=d8.tup (.peek tk (512-(rs%9)) (9+((rs/9)%(10^toNat 40)))) d4 (LC N) ;show#[dN,λeo cc=>?_];let a4:=f4.new (X:=.lst [V.ref bm,V.ref ec]) cc;show#[J,eo,_,0,rfl,a4.h0,ae,Gn L,λJ bN=>G _ _ (uM (a4.lst bN (k:=14) (by simp[L])) ?_)];clear G;rintro I ⟨ds,eA,L⟩;change cB _ _ _ (vB n m tl tk rs l pg O J) I;show dv λ_ G=>?_;show#[0,0,0,_,0,rfl,.inl #[ao,ao],0,_,0,rfl,zp 7,_,0,rfl,0,_,0,rfl,zp 255,m6,λdV eq=>?_];let ch:=eA.new (X:=.lst ([(rs%256)].map V.int)) eq;show#[0,_,0,rfl,#[ao,ao],_,0,rfl,zp 63,dV,_,0,rfl,ae,ag,ag,by rw[OT];omega,λcP fH=>?_];let fo:=ch.new (X:=.lst ((replicate (toNat ((rs/8)%64)) [V.int (rs%256)]).flatten)) fH;show#[gC,λeb eH=>?_];let a3:=fo.tup (.poke tk ((8*pg)+(rs%8)) cP (replicate (toNat ((rs/8)%64)) (rs%256))) eH (L5 N (by rw[OS];omega)) (by intro _ _ _ _ z;cases z;rw[ae,rep1,Sx]);show#[0,0,tl,2,.int z0,1,bD.of (a3.sm _ _ am),fv,m5,λgo c4=>?_];let ey:=a3.tup (.copy tk z0) c4 (#[N,gl]) ;show#[dN,λet f8=>?_];let a0:=ey.new (X:=.lst [V.ref eb,V.ref go]) f8;show#[J,et,_,0,rfl,a0.h0,ae,Gn L,λJ gt=>G _ _ (uM (a0.lst gt (k:=16) (by simp[L])) ?_)];clear G;rintro I ⟨ds,e0,L⟩;change cB _ _ _ (vB n m tl tk rs l pg O J) I;show dv λ_ G=>?_;show#[0,0,0,_,0,rfl,zp 8,_,0,rfl,m6,λfa dT=>?_];let cT:=e0.new (X:=.lst ([1].map V.int)) dT;show#[fa,_,0,rfl,ae,ag,ag,by rw[OT];omega,λbx c9=>?_];let fz:=cT.new (X:=.lst ((replicate (toNat 9) [V.int 1]).flatten)) c9;show#[gC,λg6 bV=>?_];let ea:=fz.tup (.poke tk (512-(rs%9)) bx (replicate (toNat 9) 1)) bV (L5 N (by rw[OS];omega)) (by intro _ _ _ _ z;cases z;rw[ae,rep1,Sx]);show#[0,0,0,λhB g7 dM hf g9=>?_];let fu:=ea.same dM;show#[m6,λf9 gb=>?_];let fl:=fu.new (X:=.lst ([255].map V.int)) gb;show#[gC,λf0 c8=>?_];let ca:=fl.tup (.poke tk g7 f9 [255]) c8 (L5 N (by change _+1<=_;decide)) (by intro _ _ _ _ z;cases z;show ae);show#[0,0,m5,λbY db=>?_];let bc:=ca.tup (.copy tk tk) db (#[N,N]) ;show#[m5,λfi c7=>?_];let ba:=bc.new (X:=.lst [V.ref g6,V.ref f0,V.ref bY]) c7;show#[J,fi,_,0,rfl,ba.h0,ae,Gn L,λJ e9=>G _ _ (uM (ba.lst e9 (k:=19) (by simp[L])) ?_)];clear G;rintro I ⟨ds,e7,L⟩;change cB _ _ _ (vB n m tl tk rs l pg O J) I;show dv λ_ G=>?_;show#[0,0,_,0,rfl,#[ao,ao,ao],_,0,rfl,m5,λc0 fb=>?_];let fk:=e7.tup (.copy tk (3+(10^toNat 58))) fb (#[N,gJ ag ag]) ;show#[0,0,_,0,rfl,.inl #[ao,ao],_,0,rfl,gC,λfx eB=>?_];let dL:=fk.tup (.peek tk ((8*pg)-1) 2) eB (LC N) ;show#[0,0,dN,λeC bA=>?_];let ei:=dL.new (X:=.lst ([0,1].map V.int)) bA;show#[gC,λeN d5=>?_];let cg:=ei.tup (.poke tk (-1) eC [0,1]) d5 (L5 N (by change _+1<=_;decide)) (by intro _ _ _ _ z;cases z;show ae);show#[m5,λd6 cS=>?_];let a6:=cg.new (X:=.lst [V.ref c0,V.ref fx,V.ref eN]) cS;show#[J,d6,_,0,rfl,a6.h0,ae,Gn L,λJ dp=>G _ _ (uM (a6.lst dp (k:=22) (by simp[L])) ?_)];clear G;rintro I ⟨ds,aB,L⟩;change CQ _ _ (vB n m tl tk rs l pg O J) I;obtain⟨dd,a2⟩:∃d,xA (ds.map V.ref) (rs/999%22)=some (.ref d)/\d∈ds:=by
  let i0:=Oq (rs/999) (show(22:Int)≠0 by decide);let i1:=L0 (rs/999) (show(0:Int)<22 by decide);let#[i,hi]:=Int.eq_ofNat_of_zero_le i0;rw[hi];let il:i<(ds).length:=ag;show#[(ds)[i],jT (by rw[t4,L1 il];rfl),Py il]
 let#[D9,g1,g2]:=aB.ok dd a2.2;show#[0,0,_,0,rfl,#[ao,ao],_,0,rfl,(XG 21),J,2,.ref dd,1,bD.of aB.h0,a2.1,k _ dd D9 (S6.trans aB.sm) g1 g2]
abbrev HY:Oz:=top 74
def zy(K:HC):Sp:=λvs H Q _=>∃(a:Addr)(ns:W5),vs=[.ref a]/\bD K H a (ns.map V.int)/\ns.length<=63/\∀H',Q (.bl true) H'
structure Lv(Kp:Addr->HO->Prop)(c:CA)(a:RA)(m:MA)(nf ns:Nat)(k:Nat)(H:Hp)(M:WR)(s:Pg.PS)(cv:WT)(pk:Int)(W:ed)(Z:Zs):Prop where
 S:Gz c H M a m nf ns k s cv pk W Z
 kp:∀x o,Kp x o->H x=some o/\¬ M x
 kz:∀t,sh kZ Z t≠none->wL t
section
variable{Kp:Addr->HO->Prop}{c:CA}{H0 H H' H1 H2:Hp}{M M2:WR}{a:RA}{m:MA}{nf ns k:Nat}{s s2:Pg.PS}{cv cv2:WT}{pk pk1:Int}{W W2:ed}{Z Z1:Zs}{D:Dd}
theorem Lv.same(L:Lv Kp c a m nf ns k H M s cv pk W Z)(h:aO H H'):Lv Kp c a m nf ns k H' M s cv pk W Z:=#[L.S.same h,λx o q=>#[h _ _ (L.kp x o q).1,(L.kp x o q).2],L.kz]
theorem Gz.up(S:Gz c H M a m nf ns k s cv pk W Z){j:Nat}(h:k<=j):Gz c H M a m nf ns j s cv pk W Z:=#[S.R,S.ri,S.cv,S.D,S.sp,S.tw,S.lf,S.ls,L3 S.lw h,L3 S.lz h]
theorem Lv.up(L:Lv Kp c a m nf ns k H M s cv pk W Z){j:Nat}(h:k<=j):Lv Kp c a m nf ns j H M s cv pk W Z:=#[L.S.up h,L.kp,L.kz]
theorem AR{h:Sh}(ok:uL D)(K:∀t,h t≠none->wL t)(t:Int):EJ D h t≠none->wL t:=by
 let G:∀{F v},(v≠none->wL F)->h.put F v t≠none->wL t:=λ{F v} k w=>by
  unfold Sh.put at w;cases z:t=F
  .rw[WQ z]at w;rw[z];show k w
  .rw[WO z]at w;show K t w
 cases D with
 |begin F=>show G λ_=>ok
 |close F=>show G λw=>absurd rfl w
 |map F p m=>show G λw=>K F λe=>w (by rw[e];rfl)
 |drop F p m=>show G λw=>K F λe=>w (by rw[e];rfl)
 |copy F o=>show G λ_=>ok.2
 |_=>show K t
theorem ne_next{tt:Int}(J:(Z.map (·.1)).Nodup)(f:Fv Z tt D)(e:sh kZ Z1=EJ D (sh kZ Z))(N:∀t,D=.close t->1<Z.length):0<Z1.length:=by
 let ne:∀t,EJ D (sh kZ Z) t≠none->0<Z1.length:=λt w=>by
  rw[<-e]at w;cases Z1 with
  |nil=>show absurd rfl w
  |cons x r=>show Vb _
 let ps:∀{h:Sh}{t v},v≠none->h.put t v t≠none:=λk=>(by unfold Sh.put;rw[WQ rfl];show k);let I:∀{t z},Tb.look Z t=some z->sh kZ Z t≠none:=λe=>(by unfold sh;rw[e];nofun);cases D with
 |begin F=>show ne F (ps nofun)
 |close F =>
  let h1:=N F rfl;obtain⟨x,y,r,rfl⟩:∃x y r,Z=x::y::r:=by
   match Z,h1 with
   |x::y::r,_=>show#[x,y,r,rfl]
  let L:∀u∈x::y::r,u.1≠F->0<Z1.length:=λu O n=>ne u.1 (by
   change Sh.put _ _ _ _≠none;unfold Sh.put;rw[WO n];show I (Tb.cw J O))
  cases z:x.1=F
  .show L y (Oy _ OA) λw=>?_;rw[Pn,Pn,Ot]at J;show J.1 (by rw[z, <-w];show OA)
  .show L x OA z
 |map F p m=>let#[z,G,_]:=f;show ne F (ps λw=>I G (QC.mp w))
 |drop F p m=>let#[z,G,_]:=f;show ne F (ps λw=>I G (QC.mp w))
 |copy F o=>let#[z,G,_]:=f;show ne o (ps (I G))
 |peek F a n=>let#[z,G,_]:=f;show ne F (I G)
 |poke F a c cs=>let#[z,G,_]:=f;show ne F (I G)
theorem Lv.next(L:Lv Kp c a m nf ns k H M s cv pk W Z)(ok:uL D)(O:cG H1 m (cj s) pk1 Z1)(I:zb m H Z H1 Z1)(l1:Z1.length<=Z.length+1)(h1:sh kZ Z1=EJ D (sh kZ Z))
  (R2:az c H2 M2 a s2 W2) (ac:Pg.RI s2 (ents W2)) (c2:Cv s2 W2 cv2) (G:Step H1 (λb=>(M b/\¬ dA m Z b)\/dA m Z1 b) (a.own W) H2 M2 (a.own W2)) (F:∀b,(s2.ow b).length=(s.ow b).length) (am:W2.length<=W.length+1) (h2:sh kW W2=EJ D (sh kW W)) :
  Lv Kp c a m nf ns (k+1) H2 M2 s2 cv2 pk1 W2 Z1:=by
 let#[R1,ad]:=BQ L.S.R L.S.D L.S.sp O I;let#[D2,ab]:=CB O ad G;let et:cj s2=cj s:=(by unfold cj;rw[F true,F false]);have:=L.S.lw;have:=L.S.lz;show#[#[R2,ac,c2,by rw[et];show D2,ab,L.S.tw.next h2 h1,(F true).trans L.S.lf,(F false).trans L.S.ls,ag,ag],λx o q=>?_,λt=>h1▸AR ok L.kz t];let#[J,U]:=L.kp x o q;let N:¬ dA m Z x:=λw=>U (L.S.sp x w).1;let Y:=I.1 x o J N;let n1:¬ ((M x/\¬ dA m Z x)\/dA m Z1 x):=by
  rintro(⟨z,_⟩|z)
  .show U z
  .show(I.2 x z).elim N λz=>by rwa[J]at z
 show#[G.off x o Y λw=>n1 (R1.fU x w),λz=>(G.mn x z).elim n1 λz=>by rwa[Y]at z]
end
def Dl(H0 H:Hp)(ds:W7)(DD:List Dd):Prop:=Paired (λd D=>jy H d D/\uL D/\H0 d=none/\∀t ad c cs,D=.poke t ad c cs->H0 c=none) ds DD
section
variable{H0 H H':Hp}{ds ds':W7}{DD DD':List Dd}
theorem Dl.same(h:Dl H0 H ds DD)(s:aO H H'):Dl H0 H' ds DD:=by
 induction h with
 |nil=>show .nil
 |cons a _ F=>show .cons #[a.1.same s,a.2] F
theorem Dl.get(h:Dl H0 H ds DD){i:Nat}{d:Addr}(e:ds[i]?=some d):∃D,DD[i]?=some D/\jy H d D/\uL D/\H0 d=none/\∀t ad c cs,D=.poke t ad c cs->H0 c=none:=by
 let l:=jC h;let#[G,_]:=mu.mp e;let F:DD[i]?=some (DD[i]'ag):=L1 ag;show#[_,F,Ca h i _ _ e F]
theorem gy:aE ["_law_script","_law_m","_law_frames","_law_slots","_law_tasks_here","_law_kept","_law_model_here","_law_ahead","_law_deeds","_law_deed_here","_law_k","_law_due_here","_law_before","_law_there"] ["_law_script"] (aw HY):=L2.bW
theorem JN{D:Ends}{σ:St}{H:Hp}{t1 O t3 F t5 N J t8 t9 R Y:TS}(k:∀I,Le Y I->∀ab,Le (cB R I) ab->∀u9,Le (cB t9 ab) u9->∀G,Le (cB t8 u9) G->∀u7,Le (cB J G) u7->∀L,Le (cB N u7) L->∀u5,Le (cB t5 L) u5->∀U,Le (cB F u5) U->∀u3,Le (cB t3 U) u3->∀S,Le (cB O u3) S->cB t1 S D σ H):cB t1 (cB O (cB t3 (cB F (cB t5 (cB N (cB J (cB t8 (cB t9 (cB R Y))))))))) D σ H:=k _ Le.rfl _ Le.rfl _ Le.rfl _ Le.rfl _ Le.rfl _ Le.rfl _ Le.rfl _ Le.rfl _ Le.rfl _ Le.rfl
theorem Hk{Z:Zs}{tt:Int}{D:Dd}{r:Str}(h:Jl Z tt D r):r ≠ "" := by
 rintro rfl;let J:¬ ("" : Str) = "NoTask" := (by decide +kernel);let F:¬ ("" : Str) = "NoPage" := (by decide +kernel);let I:¬ ("" : Str) = "NoRoom" := (by decide +kernel);let G:¬ ("" : Str) = "Taken" := (by decide +kernel);cases D<;>simp only[Jl,J,F,I,G,false_and,or_self,and_false,exists_false]at h
theorem II(Z:Zs)(h:∀x∈Z,x.2.pl.length<=64):vK Z<=64*(Z.length:Int):=by
 unfold vK
 induction Z with
 |nil=>show OX _
 |cons a r G =>
  let h1:=h a OA;let h2:=G λx F=>h x (Oy _ F);rw[Pn,Qg,K4];omega
theorem Jg{f cT:Addr}{fd c5:pa}{c:CA}{xa:XA}(F:cD K "law" "law" HY f fd)(T:mj mg)(TR:ku K mg c)(MR:Mk K c.C cT)(eC:mg "Rooms" = some (.ref c.C))(d0:↥aX 5 cT c5 ["self","frames","slots"] (uT c))(ef:Binds K c5 ["self","frames","slots"] [])(a3:↥Df 2 "_law_number" (qH K))(fb:↥Df 1 "_law_sizes" tI)(d6:↥Df 1 "_law_tasks" uI)(e0:↥Df 1 "_law_model" uK)(ee:↥Df 2 "_law_deed" w6)(db:↥Df 2 "_law_due" CY)(dL:↥Df 1 "_law_done" x9)(d7:↥Df 11 "_law_called" (oK c))(eo:↥Df 2 "_law_bad" CG)(dp:↥Df 5 "_law_state" (tY c))(c0:↥Df 7 "_law_refusal" (mI c xa))(ep:↥Df 4 "_law_none_asked" (xQ c)) :
  ↥aX 12 f fd ["_law_script"] (zy K):=by
 show F.ok gy (λvs H Q E h=>?_) (λfz A outer s H vs Q E O h=>?_)
 .let#[a,ns,rfl,_]:=h;rfl
 .let#[sc,ns,rfl,aT,fx,k]:=h;let hs:=ti;show#[_,(ai (cK 1 gy.nd (pc a3 O ax (aa (pv 0) (aa ah af))))
   (ai (dP (pc fb O ax (aa (pv 1) af)) (fJ rfl (bL (iW 2 gy.nd) (bL (iW 3 gy.nd) dX))))
   (ai (cK 4 gy.nd (pc d6 O ax (aa (ar aV (pv 1) ah) af)))
   (ai (cK 5 gy.nd (oz MR d0 (O.mono ao) (by rfl) eC ef .nil ax (aa (pv 2) (aa (pv 3) af))))
   (ai (cK 6 gy.nd (pc e0 O ax (aa (ar aZ (pv 2) (pv 3)) af)))
   (ai (cK 7 gy.nd (aL (Ah rfl) (by rfl) T.min Jd (aa ah (aa (ar aV (aL bu (by rfl) T.len boot_len (aa (pv 0) af)) ah) af))))
   (ai (zS (i:=8) (cl:=[]) (caps:=[]) gy.nd rfl (RT rfl) #[rfl,aq,aq,rfl,by kernel_rfl,by intro p hp;simp at hp,by kernel_rfl,by intro p hp;simp at hp,aq] rfl (eE (cZ gD (pv 4) fw (de (ar aZ ah (ar aM (ar aV (pv 1) ah) ah))))) (λ_ _ _ _=>gg) (λ_ _ _ _=>(bK (aa ay (aa (pv 0) af)))))
   (ai (cK 8 gy.nd (ar fK (pv 8) (gO (cl:=[("_law_tasks_here",s⁻¹+2),("_law_script",s⁻¹+1)]) (caps:=[("_law_script",0),("_law_tasks_here",4)]) #[rfl,aq,aq,rfl,by kernel_rfl,by intro p hp;simp only[t7,vr,or_false]at hp;rcases hp with rfl|rfl<;>first|rfl|show#[rfl,.inl rfl,.inl rfl]|show#[rfl,.inl rfl,.inr rfl],by kernel_rfl,by intro p hp;simp only[t7,vr,or_false]at hp;rcases hp with rfl|rfl<;>first|rfl|show#[rfl,.inl rfl,.inl rfl]|show#[rfl,.inl rfl,.inr rfl],aq] rfl (ff (by rfl) T.range (aa ah (aa (pv 7) af))) (λ_ _ _ _=>gg) (λ_ _ _ _=>(pc ee O ax (aa (pc a3 O ax (aa (pv 1) (aa (pv 0) af))) (aa (pv 2) af)))))))
   (ai (dy NC rfl (eE (pv 8)) (iW 9 gy.nd) (ak (bo (PW.pt (tP (aA bZ (pc db O ax (aa (pv 6) (aa (pv 9) af))) ay (aH _)) (oo (PW.pt (ie (aA zK (aS bw (pv 9) ah cy) ay (aH _)) (gT (aA gY (aL jK (by rfl) T.len boot_len (aa (bP (bG O) (pv 6) ay cy) af)) ah (aH _)))))))) (ai (aQ (pc dL O ax (aa (pv 6) (aa (pv 9) af))))
   (ak (aQ (pc d7 O ax (aa (pv 5) (aa (pv 9) af)))))) aK)))
   (ai (dy NC rfl (ff (by rfl) T.range (aa (aL (mz rfl) (by rfl) T.max yA (aa ah (aa (pv 7) af))) (aa (aL (mz rfl) (by rfl) T.max yA (aa ah (aa (aL bu (by rfl) T.len boot_len (aa (cZ gD (pv 0) fw (de ah)) af)) af))) af))) (iW 10 gy.nd) (ai (cK 9 gy.nd (pc eo O ax (aa (pc a3 O ax (aa (pv 0) (aa (pv 10) af))) (aa (pv 6) af))))
   (ai (cK 11 gy.nd (pc db O ax (aa (pv 6) (aa (pv 9) af))))
   (ai (cK 12 gy.nd (pc dp O ax (aa (pv 5) (aa (pv 6) af))))
   (ai (bo (PW.pt (tP (aA zK (pv 11) ay (aH _)) (oo (aA zK (pc c0 O ax (aa (pv 5) (aa (pv 9) af))) (pv 11) (aH _))))) (ak (aG qx)) aK)
   (ai (cK 13 gy.nd (bU (oP rfl) (by rfl) T.list eI (aa (bP (bG O) (pv 6) ay cy) af)))
   (ai (bo (Cj (fE (pc ep O ax (aa (pv 5) (aa (aS bX (pv 13) (ar aM (pv 10) (aL bu (by rfl) T.len boot_len (aa (pv 13) af))) cy) (aa (pc a3 O ax (aa (pv 0) (aa (pv 10) af))) af)))))) (ak (aG qx)) aK)
   (ai (bo (aA zK (pc c0 O ax (aa (pv 5) (aa (bK (aa ay (aa (ar aZ ah (ar eX ah ah)) (aa (pv 10) af)))) af))) ay (aH _)) (ak (aG qx)) aK)
   (ak (bo (aA (Ia 3 (Qq (Uo (by decide:4<=64) _) O.units)) (pc dp O ax (aa (pv 5) (aa (pv 6) af))) (pv 12) (aH _)) (ak (aG qx)) aK))))))))))
   (ak (aG qx)))))))))))),?_]
  show JN λf4 eH f3 d3 u9 e9 u8 e8 u7 e7 u6 e6 u5 e5 u4 e4 u3 e3 u2 e2=>?_;show dv λ_ I=>?_;show#[0,sc,ns,(0),rfl,aT,ag,ag,λG H1 bn s1=>I _ _ (e2 _ _ _ ?_)];clear I e2 u2;let#[_,f2,fl]:=Cr G;let#[_,fy]:=D6 G;show#[0,G,rfl,λH2 t2 s2 _ a6=>#[t2,0,cu.of a6,4,0,_,0,rfl,e3 _ _ _ ?_]];clear e3 u3;show dv λ_ I=>?_;show#[0,_,0,rfl,#[ao,ao],0,#[ag,ag],λH3 tl ts s3 fe dV he l5 c8=>I _ _ (e4 _ _ _ ?_)];clear I e4 u4;let S3:=s1.trans (s2.trans s3);show dv λ_ I=>?_;show#[0,0,λrp dx np ev fk=>#[rp,dx,kB G,lO G,rfl,ag,ag,ag,ae,λH4 M a ea R fr o4=>#[rfl,I _ _ (e5 _ _ _ ?_)]]];clear I e5 u5;let s4:aO H3 H4:=λb u e=>o4 b u (by rw[aj (av e np),aj (av e ev)];show e) (av e np);let ci:∀b,M b->H3 b=none:=λb z=>(cY (cY (fr b z)).2).2;clear o4 fr;rw[<-ea];let et:cj (s0 (kB G) (lO G))=((kB G:Nat):Int)+((lO G:Nat):Int):=by
   unfold cj;rw[show((s0 (kB G) (lO G)).ow true).length=kB G from OS,show((s0 (kB G) (lO G)).ow false).length=lO G from OS];omega
  show dv λ_ I=>?_;show#[0,0,_,0,rfl,0,λH5 m s5 g1 g2 g3 D5=>I _ _ (e6 _ _ _ ?_)];clear I e6 u6;rw[<-et]at D5;let cP:∀b,dA m [] b->H5 b≠none:=λb z e=>by
   rcases D5.alive b z with⟨_,h⟩|⟨_,h⟩
   .rw[e]at h;cases h
   .rw[e]at h;cases h
  let z4:∀b,dA m [] b->H4 b=none:=λb z=>by
   rcases z with z|z|z|⟨x,U,_⟩
   .rw[z];show g1
   .rw[z];show g2
   .rw[z];show g3
   .cases U
  let R5:=R.Gq (H':=H5) (B:=λ_=>False) (M':=λb=>M b\/dA m [] b) (λb o e _=>s5 b o e) (λb z=>z.elim) (λb z=>z.elim) (λb z=>z.elim .inl λz=>.inr (z4 b z)) (λb z _=>.inl z) (λb z e=>z.elim (λz=>(R.same s5).mt b z e) λz=>cP b z e);let c6:∀b,dA m [] b->(M b\/dA m [] b)/\¬ a.own [] b:=λb z=>#[.inr z,λw=>R.mt b (R.fU b w) (z4 b z)];let T0:Tw [] []:=#[rfl];let S5:Gz c H5 (λb=>M b\/dA m [] b) a m (kB G) (lO G) 0 (s0 (kB G) (lO G)) (λ_ _=>[]) 0 [] []:=#[R5,KH ag,λt x U=>(by cases U),D5,c6,T0,OS,OS,rr _,rr _];let bx:=s5 _ _ (s4 _ _ dV);obtain⟨M5,eM⟩:∃M5:Addr->Prop,M5=λb=>M b\/dA m [] b:=#[0];rw[<-eM]at S5;let cS:∀b,M5 b->H3 b=none:=λb z=>by
   rw[eM]at z;show z.elim (ci b) λz=>s4.free (z4 b z)
  let c9:=s4.trans s5;let bd:=S3.trans c9;clear cP z4 R5 c6 T0 D5 g1 g2 g3 s5 s4 ci R s3 s2 s1 a6 eM;show dv λ_ I=>?_;show#[0,sc,0,.inl (Rm.eh aT (bd _)),_,0,rfl,#[ao,ao],_,0,I _ _ (e7 _ _ _ ?_)];clear I e7 u7;rw[k9];obtain⟨N,eN,bN⟩:∃N:Nat,(if ((ns.length:Nat):Int)/2<20 then((ns.length:Nat):Int)/2 else 20)=(N:Int)/\N<=20:=by
   split
   .show#[(((ns.length:Nat):Int)/2).toNat,ag,ag]
   .show#[(20:Nat),rfl,rr _]
  rw[eN];change cB _ _ _ [some (V.ref sc),some (.int G),some (.int (kB G)),some (.int (lO G)),some (.ref tl),some (.ref a.rp),some (.ref m.md),some (.int N),none,none,none,none,none,none] H5;obtain⟨n,en,fv⟩:∃n:Nat,1+G/99%5=(n:Int)/\1<=n:=#[(1+G/99%5).toNat,ag,ag];show dv λ_ I=>?_;show#[0,0,_,0,rfl,#[ao,ao],_,0,rfl,(XG 4),_,0,rfl,0,tl,0,bD.of bx,λp6 dI=>?_];rw[en,Rm.oQ];let s6:=Tb.au (X:=.lst ((ts.take n).map V.int)) dI;let h6:upd H5 p6 (.lst ((ts.take n).map V.int)) p6=some (.lst ((ts.take n).map V.int)):=ae;generalize upd H5 p6 (.lst ((ts.take n).map V.int))=H6 at *;show#[p6,rfl,#[_,bD.of h6],?_];show yH (K:=K) (a:=p6) (xs:=(ts.take n).map V.int) (λi ys H'=>aO H6 H'/\∃ds,ys=ds.map V.ref/\Dl H5 H' ds (((ts.take n).take i).map Dd.begin)) #[aO.refl _,[],rfl,.nil] (λi ys H' _ z=>bD.of (z.1 _ _ h6)) (λi x ys H' U z=>?_) (λys H' z p7 a1=>I _ _ (e8 _ _ _ ?_))
  .let#[sz,ds,rfl,hl]:=z;rw[t4]at U;let#[t,ht,rfl]:=qw.mp U;let a6:t∈ts:=Q8 (wh ht);let d4:((ts.take n).take (i+1)).map Dd.begin=((ts.take n).take i).map Dd.begin++[.begin t]:=(by rw[OZ,ht,IF];rfl);show#[0,dN,λd hd=>#[?_,sz.trans (Tb.au hd),ds++[d],by rw[IF];rfl,?_]]
   .have:=jC hl;rw[k9,Om,Om]at this;rw[k9];omega
   .rw[d4];show qe (hl.same (Tb.au hd)) (.cons #[#[ae,λ_ _ _ _ e=>(by cases e)],c8 t a6,(s6.trans sz).free hd,λ_ _ _ _ e=>(by cases e)] .nil)
  clear I e8 u8;let#[sz,ds,rfl,hl]:=z;rw[k9,Pj]at hl;let s7:=Tb.au (X:=.lst (ds.map V.ref)) a1;let h7:upd H' p7 (.lst (ds.map V.ref)) p7=some (.lst (ds.map V.ref)):=ae;let b7:=hl.same s7;let ac:=s6.trans (sz.trans s7);let ft:ds.length<=5:=(by have:=jC hl;rw[k9,Om]at this;omega);change cB _ _ _ [some (V.ref sc),some (.int G),some (.int (kB G)),some (.int (lO G)),some (.ref tl),some (.ref a.rp),some (.ref m.md),some (.int N),some (.ref p7),none,none,none,none,none] (upd H' p7 (.lst (ds.map V.ref)));generalize upd H' p7 (.lst (ds.map V.ref))=H7 at *;clear sz s6 s7 hl a1 dI h6;show dv λ_ I=>?_;show#[0,0,_,0,#[ao,ao,ag,ag],?_];show fj (λi ys H'=>aO H7 H'/\∃ds DD,ys=ds.map V.ref/\ds.length=i/\Dl H5 H' ds DD) #[aO.refl _,[],[],1,.nil] (λi ys H' hi z=>?_) (λys H' z p8 dj=>?_)
  .let#[sz,ab,DD,rfl,li,ba]:=z;let fI:i<20:=ag;show#[0,0,sc,ns,1+i,by change[V.ref sc,V.int (1+(i:Int))]=_;rw[Vy];rfl,Rm.eh aT ((bd.trans (ac.trans sz)) _),ag,ag,λv Hn bv sn=>?_];show#[0,v,tl,ts,rfl,sn _ _ (sz _ _ (ac _ _ bx)),by let#[r,rfl]:=he;show Vb _,l5,c8,λH8 d D sD aD bb fc fd=>?_];let f5:∀b,Hn b=none->H5 b=none:=λb z=>ac.free (sz.free (sn.free z));show#[by rw[k9];omega,sz.trans (sn.trans sD),ab++[d],DD++[D],by rw[IF];rfl,by rw[G1,li];rfl,qe (ba.same (sn.trans sD)) (.cons #[aD,bb,f5 _ fd,λt ad cc cs e=>f5 _ (fc t ad cc cs e)] .nil)]
  let#[sz,ab,DD,rfl,li,ba]:=z;let s8:=Tb.au (X:=.lst (ab.map V.ref)) dj;show#[p7,p8,_,0,rfl,s8 _ _ (sz _ _ h7),ae,by rw[k9,k9];omega,λp9 b0=>I _ _ (e9 _ _ _ ?_)];clear I e9 u9;let s9:=Tb.au (X:=.lst (ds.map V.ref++ab.map V.ref)) b0;let bi:=sz.trans (s8.trans s9);let b3:=ac.trans bi;let f9:H5 p9=none:=ac.free (sz.free (s8.free b0));let h9:upd (upd H' p8 (.lst (ab.map V.ref))) p9 (.lst (ds.map V.ref++ab.map V.ref)) p9=some (.lst ((ds++ab).map V.ref)):=(by rw[ae,IF]);let cg:Dl H5 _ (ds++ab) ((ts.take n).map Dd.begin++DD):=qe (b7.same bi) (ba.same (s8.trans s9));change cB _ _ _ [some (V.ref sc),some (.int G),some (.int (kB G)),some (.int (lO G)),some (.ref tl),some (.ref a.rp),some (.ref m.md),some (.int N),some (.ref p9),none,none,none,none,none] (upd (upd H' p8 (.lst (ab.map V.ref))) p9 (.lst (ds.map V.ref++ab.map V.ref)));generalize upd (upd H' p8 (.lst (ab.map V.ref))) p9 (.lst (ds.map V.ref++ab.map V.ref))=H9 at *;let ez:∀D,((ts.take n).map Dd.begin++DD)[0]?=some D->∃t,D=.begin t:=λD e=>by
   let#[r,rfl]:=he;obtain⟨n',rfl⟩:∃n',n=n'+1:=#[n-1,ag];cases e;show#[(1),rfl]
  let la:(ds++ab).length<=25/\0<(ds++ab).length:=by
   have:=jC b7;rw[k9,Om]at this;let#[r,rfl]:=he;rw[G1];rw[K4,K4]at this l5;constructor<;>omega
  generalize ds++ab=dl at *;generalize (ts.take n).map Dd.begin++DD=DL at *;let fM:∀b,H5 b=none->¬ M5 b:=λb z w=>S5.R.mt b w z;obtain⟨Kp,cx,ce,d8,L9⟩:∃Kp:Addr->HO->Prop,Kp p9 (.lst (dl.map V.ref))/\(∀o,H sc=some o->Kp sc o)/\(∀(i:Nat)(d:Addr),dl[i]?=some d->∃D,DL[i]?=some D/\uL D/\Kp d (.tup (uV D))/\∀t ad cc cs,D=.poke t ad cc cs->Kp cc (.lst (cs.map V.int)))/\Lv Kp c a m (kB G) (lO G) 0 H9 M5 (s0 (kB G) (lO G)) (λ_ _=>[]) 0 [] []:=by
   show#[λx o=>H9 x=some o/\¬ M5 x,#[h9,fM _ f9],λo h=>#[b3 _ _ (bd _ _ h),λz=>by have:=cS _ z;rwa[S3 _ _ h]at this],λi d e=>?_,S5.same b3,λx o q=>q,λt h=>absurd rfl h];let#[D,e1,e2,e3,e4,e5]:=cg.get e;show#[D,e1,e3,#[e2.1,fM _ e4],λt ad cc cs z=>#[e2.2 t ad cc cs z,fM _ (e5 t ad cc cs z)]]
  clear cg fM S5 b3 h9 f9 ba b7 ac bi s8 s9 sz bx cS c9 bd dj b0 h7 li;show#[0,p9,rfl,#[_,bD.of (L9.kp _ _ cx).1],?_];show er (K:=K) (a:=p9) (xs:=dl.map V.ref) (λi σ H'=>∃(v9:Option V)(M:WR)(Y:Pg.PS)(cv:WT)(pk:Int)(W:ed)(Z:Zs),σ=#v[.ref sc,.int G,.int (kB G),.int (lO G),.ref tl,.ref a.rp,.ref m.md,.int N,.ref p9,v9,none,none,none,none]/\Lv Kp c a m (kB G) (lO G) i H' M Y cv pk W Z/\(0<i->0<Z.length))
   #[_,M5,2,(0),[],[],rfl,L9,λz=>absurd z ao] (λi σ H' _ z0=>by let#[_,_,_,_,_,_,_,_,L,_]:=z0;show bD.of (L.kp _ _ cx).1) ?_ ?_
  .clear L9 H9 H7 H6 M5;rintro i x σ H7 U ⟨v9,M,Y,cv,pk,W,Z,rfl,L,ne⟩;let il:i<25:=(by have:=(mu.mp U).1;rw[k9]at this;omega);rw[t4]at U;let#[d,hd,rfl]:=qw.mp U;let#[D,hD,ok,kd,kc]:=d8 i d hd;let aD:∀{H' M s cv pk W Z k},Lv Kp c a m (kB G) (lO G) k H' M s cv pk W Z->jy H' d D:=λL=>#[(L.kp _ _ kd).1,λt ad cc cs e=>(L.kp _ _ (kc t ad cc cs e)).1];let nb:0<Z.length\/∃t,D=.begin t:=by
    cases z:0<i
    .show .inl (ne z)
    .obtain rfl:i=0:=ag;show .inr (ez D hD)
   let lz:Z.length<=1000:=L3 L.S.lz ag;let lw:W.length<=1000:=L3 L.S.lw ag;show nameQ ?_;dsimp only;show B5 λQQ ji je=>?_;show#[0,0,m,cj Y,pk,Z,d,D,rfl,L.S.D,lz,aD L,λr H8 s8 ei=>?_];let J:=L.same s8;show#[rfl,0,?_];rcases ei with⟨rfl,fi⟩|rf
   .rw[decide_eq_true rfl];show dR ?_;let go:(∀t,D=.close t->1<Z.length)->QQ true H8:=λnc=>ji _ (by
     show#[0,0,m,cj Y,pk,Z,d,D,rfl,J.S.D,lz,aD J,fi,λt ad cc cs e=>?_,λt ad n e=>?_,λH9 pk1 Z1 u D1 z1 l1 h1=>?_]
     .subst e;show#[λw=>(J.kp _ _ (kc _ _ _ _ rfl)).2 (J.S.sp _ w).1,ok.2.1,ok.2.2.1,ok.2.2.2]
     .subst e;show#[ok.2.1,ok.2.2.1,ok.2.2.2.2]
     let#[R9,fo]:=BQ J.S.R J.S.D J.S.sp D1 z1;let a9:jy H9 d D:=by
      let nz:∀x o,Kp x o->¬ dA m Z x:=λx o q w=>(J.kp x o q).2 (J.S.sp x w).1;show#[z1.1 _ _ (J.kp _ _ kd).1 (nz _ _ kd),λt ad cc cs e=>z1.1 _ _ (J.kp _ _ (kc t ad cc cs e)).1 (nz _ _ (kc t ad cc cs e))]
     show#[0,0,_,a,Y,W,cv,d,D,rfl,R9,J.S.ri,J.S.cv,lw,a9,K0 J.S.tw J.S.R J.S.D ok fi,λew M2 s2 W2 cv2 v R2 eP c2 bl eb eu h2=>?_];show#[_,M2,s2,cv2,pk1,W2,Z1,rfl,J.next ok D1 z1 l1 h1 R2 eP c2 bl eb eu h2,λ_=>ne_next J.S.D.nd fi h1 nc])
    show#[0,d,2,.str (we D),1,cu.of (aD J).1,NZ D,rfl,0,?_];cases ec:we D = "close"
    .rw[show(!decide (V.str (we D)=V.str "close"))=false by rw[ec,decide_eq_true rfl];rfl];show cq ?_;show#[0,m.md,0,J.S.D.g (v5 _ _ _ _),m.lr,0,J.S.D.hr,_,0,rfl,0,?_];cases c1:1<Z.length
     .rw[decide_eq_true (show((Tb.dk fW Z).length:Int)>1 by rw[cA];omega)];show go λ_ _=>c1
     .rw[decide_eq_false (show ¬ ((Tb.dk fW Z).length:Int)>1 by rw[cA];omega)];show je _ #[_,M,Y,cv,pk,W,Z,rfl,J.up (RG _),λ_=>nb.elim id λ⟨t,e⟩=>?_];rw[e]at ec;show absurd ec (by dsimp only[we];decide +kernel)
    .rw[show(!decide (V.str (we D)=V.str "close"))=true by rw[decide_eq_false (ks_ne ec)];rfl];show dR (go λt e=>absurd (by rw[e];rfl) ec)
   .rw[decide_eq_false (ks_ne (Hk rf))];show cq (je _ #[_,M,Y,cv,pk,W,Z,rfl,J.up (RG _),λ_=>?_]);rcases nb with h|⟨t,rfl⟩
    .show h
    .let#[z,e]:=Pu.mp rf.2;show List.length_pos_of_mem (Tb.aC e)
  .clear L9 H9 H7 H6 M5;rintro σ H7 ⟨v9,M,Y,cv,pk,W,Z,rfl,L,ne⟩;rw[k9]at L ne;let z0:=ne la.2;let lz:Z.length<=25:=L3 L.S.lz la.1;let lw:W.length<=25:=L3 L.S.lw la.1;let ej:∀x∈Z,wL x.1:=λx U=>L.kz _ (by unfold sh;rw[Tb.cw L.S.D.nd U];nofun);let hh:vK Z<=1600:=(by have:=II Z λx U=>L.S.D.len U;omega);let le:((ents W).length:Int)<=1600:=(by rw[<-L.S.tw.held L.S.R L.S.D];show hh);let bt:0<=cj Y/\cj Y<=1000:=(by have:=L.S.lf;have:=L.S.ls;unfold cj;constructor<;>omega);let dM:Tb.look W (4+10^toNat 58)=none:=by
    cases e:Tb.look W (4+10^toNat 58)with
    |none=>rfl
    |some x =>
     have:=L.kz (4+10^toNat 58) (by
      unfold sh;cases e2:Tb.look Z (4+10^toNat 58)with
      |none=>rwa[(L.S.tw.look _).mpr e2]at e
      |some z=>nofun)
     show absurd this.2 ao
   show d3 _ _ _ ?_;let ec:gv (ns.map V.int) none (some (63:Int))=(ns.take 63).map V.int:=Rm.oQ (s:=63);show#[0,_,0,0,0,sc,0,Rm.eh aT (λo h=>(L.kp _ _ (ce o h)).1),λp7 a1=>?_];let s7:=Tb.au (X:=.lst (gv (ns.map V.int) none (some (63:Int)))) a1;let L7:=L.same s7;show#[p7,0,.inl (bD.of ae),_,0,?_];generalize upd H7 p7 (.lst (gv (ns.map V.int) none (some (63:Int))))=H8 at *;rw[ec,k9,Om];obtain⟨A,eA,bA⟩:∃A:Nat,(if (N:Int)>1 then(N:Int)else 1)=(A:Int)/\A<=20:=by
    split
    .show#[N,rfl,bN]
    .show#[(1),rfl,ao]
   obtain⟨B,eB,bB⟩:∃B:Nat,(if ((min 63 ns.length:Nat):Int)>3 then((min 63 ns.length:Nat):Int)else 3)=(B:Int)/\B<=63:=by
    split
    .show#[0,Vx _ _]
    .show#[(3),rfl,ao]
   rw[eA,eB];show#[_,0,#[ag,ag,ag,ag],?_];show jE (lo:=(A:Int)) (n:=((B:Int)-A).toNat) (λi σ H'=>∃(v9 b4 bc a7 as:Option V),σ=#v[.ref sc,.int G,.int (kB G),.int (lO G),.ref tl,.ref a.rp,.ref m.md,.int N,.ref p9,v9,b4,bc,a7,as]/\aO H8 H')
    #[2,2,0,aO.refl _] ?_ ?_
   .clear a1 s7 ec eA eB eN en;rintro i σ H9 hi ⟨v9,b4,bc,a7,as,rfl,s9⟩;let ki:A+i<=63:=ag;let ek:V.int ((A:Int)+(i:Int))=V.int ((A+i:Nat):Int):=(by rw[Vy]);let ch:∀{H'},aO H8 H'->bD K H' sc (ns.map V.int):=λs'=>Rm.eh aT (λo h=>s' _ _ (L7.kp _ _ (ce o h)).1);show nameQ ?_;dsimp only;rw[ek];generalize A+i=kk at *;change cB _ _ _ [some (V.ref sc),some (.int G),some (.int (kB G)),some (.int (lO G)),some (.ref tl),some (.ref a.rp),some (.ref m.md),some (.int N),some (.ref p9),v9,some (.int kk),bc,a7,as] H9;show dv λ_ I=>?_;let L9:=L7.same s9;show#[0,0,sc,ns,kk,rfl,ch s9,ag,ag,λv ew bv bg=>#[0,m,cj Y,pk,Z,v,rfl,(L9.same bg).S.D,bv,ag,z0,λx U=>(ej x U).1,bt,ag,λf1 d D dt aD bb=>I _ _ ?_]];clear I;let b8:=s9.trans (bg.trans dt);clear L9 s9 bg dt;show dv λ_ I=>?_;show#[0,0,m,cj Y,pk,Z,d,D,rfl,(L7.same b8).S.D,ag,aD,λr f0 bY cC=>I _ _ ?_];clear I;let b6:=b8.trans bY;let am:=L7.same b6;show dv λ_ I=>?_;show#[0,0,M,a,Y,W,m,cj Y,pk,Z,rfl,am.S.R,am.S.ri,am.S.D,am.S.sp _ (.inr (.inl rfl)),λt ht=>?_,ag,ag,λc7 l1 bm dz=>I _ _ ?_]
    .let#[z,e]:=Pu.mp ht;show am.S.tw.get e
    clear I;let ca:=b6.trans bm;let a2:=L7.same ca;change cB _ _ _ [some (V.ref sc),some (.int G),some (.int (kB G)),some (.int (lO G)),some (.ref tl),some (.ref a.rp),some (.ref m.md),some (.int N),some (.ref p9),some (.ref d),some (.int kk),some (.str r),some (.ref l1),as] c7;show gc λQQ ji je=>?_
    suffices dr:∀H',aO c7 H'->QQ false H' by
     show#[0,rfl,0,?_];rcases cC with⟨rfl,_⟩|rf
     .rw[show(!decide (V.str "" = V.str ""))=false by rw[decide_eq_true rfl];rfl];show cq (dr _ (aO.refl _))
     .rw[show(!decide (V.str r=V.str ""))=true by rw[decide_eq_false (ks_ne (Hk rf))];rfl];show dR ?_;let#[C,hw,dO]:=N5 xa a2.S.tw a2.S.R a2.S.D ag rf;show#[0,0,M,a,Y,W,d,r,C,rfl,a2.S.R,ag,ag,hw,.inl #[D,aD.same (bY.trans bm),bb,dO],λb5 a0=>#[0,rfl,0,?_]];rw[show(!decide (V.str r=V.str r))=false by rw[decide_eq_true rfl];rfl];show dr _ a0
    intro b5 a0;show je _ ?_;clear ji je;let bp:=ca.trans a0;let b9:=L7.same bp;let cr:=dz.same a0;clear dz ca a2 b6 am bm bY b8 aD bb cC a0;show dv λ_ I=>?_;let eq:(Tb.dk fW Z).map (λkv=>kV kv.1)=(Z.map (·.1)).map V.int:=(by unfold Tb.dk;rw[PB,PB];rfl);show#[0,m.md,0,b9.S.D.g (v5 _ _ _ _),m.lr,Tb.dk fW Z,rfl,b9.S.D.hr,by rw[cA];omega,λap el=>I _ _ ?_];clear I;rw[eq];let br:=Tb.au (X:=.lst ((Z.map (·.1)).map V.int)) el;let bI:upd b5 ap (.lst ((Z.map (·.1)).map V.int)) ap=some (.lst ((Z.map (·.1)).map V.int)):=ae;generalize upd b5 ap (.lst ((Z.map (·.1)).map V.int))=fu at *;let a4:=bp.trans br;let a8:=L7.same a4;let c3:(0:Int)<(((Z.map (·.1)).map V.int).length:Nat):=(by rw[k9,k9];omega);obtain⟨tv,x,U,d5⟩:∃tv x,Tb.look W tv=some x/\xA ((Z.map (·.1)).map V.int) ((kk:Int)%(((Z.map (·.1)).map V.int).length:Nat))=some (.int tv):=by
     let#[b1,b2]:=at_of (xs:=Z.map (·.1)) (i:=(kk:Int)%(((Z.map (·.1)).map V.int).length:Nat)) (Oq _ ag) (L0 _ c3) (by rw[k9]);let#[y,hy,ey]:=rk.mp b2;let#[x,U]:=a8.S.tw.get (Tb.cw a8.S.D.nd hy);show#[_,x,by rw[<-ey];show U,b1]
    show gc λQQ ji je=>?_;show#[0,0,0,0,ap,0,.inl (bD.of bI),_,0,rfl,c3,ap,2,.int tv,1,bD.of bI,d5,0,0,sc,ns,kk,rfl,ch a4,ag,ag,λv2 fT _ a5=>?_];show#[M,a,Y,W,tv,v2,x,rfl,(a8.same a5).S.R,U,λfa bV=>#[true,rfl,je _ ?_]];clear ji je;let c4:=a4.trans (a5.trans bV);let em:=cr.same (br.trans (a5.trans bV));let dT:=L7.same c4;clear a8 b9 bp a4 br a5 bV cr bI;change cB _ _ _ [some (V.ref sc),some (.int G),some (.int (kB G)),some (.int (lO G)),some (.ref tl),some (.ref a.rp),some (.ref m.md),some (.int N),some (.ref p9),some (.ref d),some (.int kk),some (.str r),some (.ref l1),some (.ref ap)] fa;show gc λQQ ji je=>?_;show#[0,_,0,rfl,#[ao,ao,ao],_,0,rfl,0,m5,λd2 d9=>?_];let be:=Tb.au (X:=.tup [V.str "place",.int (4+10^toNat 58),.int kk]) d9;show#[M,a,Y,W,d2,"NoTask",xa.nt,rfl,(dT.same be).S.R,ag,ag,.inl #[1],.inr #[2,ae,gJ ao ao,dM,rfl],λfH da=>#[rfl,0,?_]];rw[show(!decide (V.str "NoTask" = V.str "NoTask"))=false by rw[decide_eq_true rfl];rfl];show je _ ?_;clear ji je;let dm:=c4.trans (be.trans da);let aB:=L7.same dm;let d1:=em.same (be.trans da);show B5 λQQ ji je=>?_;show#[0,0,M,a,Y,W,m,cj Y,pk,Z,rfl,aB.S.R,aB.S.ri,aB.S.D,aB.S.sp _ (.inr (.inl rfl)),λt ht=>?_,ag,ag,λfn l2 dd bl=>?_]
    .let#[z,e]:=Pu.mp ht;show aB.S.tw.get e
    let#[xs,ys,g1,g2,g3]:=bl.deep (K:=K) (d1.same dd);show#[0,l2,l1,xs,ys,1,bD.of g1,bD.of g2,g3,false,rfl,je _ #[2,2,0,dm.trans dd]]
   .rintro σ H9 ⟨v9,b4,bc,a7,as,rfl,s9⟩;show eH _ _ _ (k _)
end
end Lw
end
namespace Lw
open PySem L2
def Al:Nat->(List Value->Prop)->Prop
 |0,p=>p []
 |n+1,p=>∀a,Al n λl=>p (a::l)
theorem al:∀{n:Nat}{p:List Value->Prop},Al n p->∀us:List Value,us.length=n->p us
 |0,_,h,us,e=>by cases List.eq_nil_of_length_eq_zero e;exact h
 |n+1,_,h,us,e=>by
  cases us with
  |nil=>cases e
  |cons a us=>exact al (h a) us (Nat.succ.inj e)
inductive MI (K:HC) (C:Addr) (m q:Str) (st:Oz) (ps:List Str):Prop
 |mk (f:Addr) (fd:pa) (_:cD K m q st f fd) (_:Binds K fd ps []) (_:Meth K C m f):MI K C m q st ps
inductive DI (K:HC) (x:Str) (st:Oz) (ps:List Str):Prop
 |mk (f:Addr) (fd:pa) (_:cD K x x st f fd) (_:Binds K fd ps []) (_:UK K Ov x=some (some (.ref f))):DI K x st ps
section
variable {K:HC}{C f:Addr}{m q:Str}{st:Oz}{ps:List Str}{od an:Option Addr}{sl:Array (Option Value)}{oc kV dc pm cd ct:Value}
theorem MI.of (a:OQ K (.ref C) m=some (some (.ref f))) (i:isFn K (.ref f)=true) (l:K.lookup f=some ⟨oc,od,.func (Ws m q (gP st) (eT st) (aw st) .none kV dc pm an cd ct),sl⟩) (c:Wt K cd q=true) (k:To K (.ref f)=true)
  (b:∀kV F pm an G ct,Al ps.length λus=>VM (Ws m q (gP st) (eT st) (aw st) .none kV F pm an G ct) ⟨us,[]⟩=pure (ps.zip us)):MI K C m q st ps :=
 ⟨_,_,uR l c k,(uR l c k).binds λ_ _ _ _ _ _=>al (b _ _ _ _ _ _),a,i,k⟩
theorem DI.of (a:UK K Ov m=some (some (.ref f))) (l:K.lookup f=some ⟨oc,od,.func (Ws m m (gP st) (eT st) (aw st) .none kV dc pm an cd ct),sl⟩) (c:Wt K cd m=true) (k:To K (.ref f)=true)
  (b:∀kV F pm an G ct,Al ps.length λus=>VM (Ws m m (gP st) (eT st) (aw st) .none kV F pm an G ct) ⟨us,[]⟩=pure (ps.zip us)):DI K m st ps :=
 ⟨_,_,uR l c k,(uR l c k).binds λ_ _ _ _ _ _=>al (b _ _ _ _ _ _),a⟩
inductive CI (K:HC) (C:Addr) (x:Str):Prop
 |mk (_:UK K Ov x=some (some (.ref C))) (_:qQ K C) (_:makesIn K C=true) (_:To K (.ref C)=true):CI K C x
end
inductive XI (K:HC) (C k:Addr) (a:St.XA) (l:List Value) (i j m n:Bool):Prop
 |mk (_:excIn K C BE "ValueError.__new__" = true) (_:PySem.W.yX K C) (_:exmOne K (.ref C) (.ref k)=some true) (_:DO K (.ref C) (.type "ValueError")=some true) (_:DO K (.ref C) (.ref a.nt)=some i) (_:DO K (.ref C) (.ref a.np)=some j) (_:DO K (.ref C) (.ref a.nr)=some m) (_:DO K (.ref C) (.ref a.tk)=some n) (_:UG K (.ref C) l=some false):XI K C k a l i j m n
inductive XJ (K:HC) (k:Addr) (a:St.XA) (l:List Value):Prop
 |mk (_:XI K a.nt k a l true false false false) (_:XI K a.np k a l false true false false) (_:XI K a.nr k a l false false true false) (_:XI K a.tk k a l false false false true):XJ K k a l
theorem qf {K:HC}{t:Value}:∀{cs:List Value},UG K t cs=some false->∀c∈cs,DO K t c=some false
 | [],_,c,h=>by simp at h
 |d::cs,e,c,h=>by
  unfold UG at e;cases q:DO K t d with
  |none=>rw[q]at e;cases e
  |some b =>
   rw[q]at e;cases b with
   |true=>cases e
   |false =>
    rcases t7.mp h with rfl|h
    .exact q
    .exact qf e c h
structure Zt (P:rn) (w:By) (base:Heap) (K:HC) (mg:Str->Option Value):Prop where
 p:∀{x v},UK K Ov x=some (some v)->mg x=some v
 n:∀{x},UK K Ov x=some none->mg x=none
def GI (K:HC):List Str->List Addr->Prop
 |n::ns,x::xs=>UK K Ov n=some (some (.ref x))/\GI K ns xs
 |_,_=>True
theorem GI.get {P:rn}{w:By}{base:Heap}{K:HC}{mg:Str->Option Value}(z:Zt P w base K mg):∀{ns:List Str}{xs:List Addr},GI K ns xs->ns.length=xs.length->∀(i:Nat) (n:Str),ns[i]?=some n->mg n=some (.ref (xs.getD i 0))
 | [],_,_,_,i,n,h=>by simp at h
 |_::_,[],_,e,_,_,_=>by simp at e
 |m::ns,x::xs,y,e,0,n,h=>by cases h;exact z.p y.1
 |m::ns,x::xs,y,e,i+1,n,h=>GI.get z y.2 (by simpa using e) i n h
theorem LH {P:rn}{w:By}{base:Heap}{K:HC}{mg:Str->Option Value}{xa:St.XA}{k:Addr}{xs:List Addr}(j:XJ K k xa (xs.map Value.ref)) (z:Zt P w base K mg) (L:xs.length=22) (y:GI K M9 xs) (J:mg "NoTask" = some (.ref xa.nt)) (G:mg "NoPage" = some (.ref xa.np)) (O:mg "NoRoom" = some (.ref xa.nr)) (S:mg "Taken" = some (.ref xa.tk)) (N:mg "ValueError" = none) (I:mg "zip" = none) (R:mg "KernelError" = some (.ref k)):LN K mg xa k (λi=>xs.getD i 0):=by
 obtain⟨a,b,c,d⟩:=j;obtain⟨a1,a2,a3,Y,a5,a6,a7,a8,a9⟩:=a;obtain⟨U,b2,b3,b4,b5,b6,b7,b8,b9⟩:=b;obtain⟨c1,c2,c3,c4,c5,c6,c7,c8,c9⟩:=c;obtain⟨d1,d2,d3,d4,d5,d6,d7,d8,d9⟩:=d;have al:∀{C:Addr},UG K (.ref C) (xs.map Value.ref)=some false->∀i,i<22->DO K (.ref C) (.ref (xs.getD i 0))=some false:=λ{C} h i hi=>qf h _ (by
  have F:i<xs.length:=ag;rw[List.getD_eq_getElem?_getD,L1 F];exact rk.mpr ⟨_,Py F,rfl⟩)
 refine⟨J,G,O,S,N,I,R,GI.get z y (by rw[L];rfl),?_,?_,?_,?_,?_,?_,?_,?_⟩<;>rintro r C (⟨rfl,rfl⟩|⟨rfl,rfl⟩|⟨rfl,rfl⟩|⟨rfl,rfl⟩)<;>first|assumption|(apply al;assumption)
theorem MI.md {P:rn}{w:By}{K:HC}{mg:Str->Option Value}{base:Heap}{CX:uq}{n:Nat}{C:Addr}{m q:Str}{st:Oz}{ps:List Str}{sp:Sp}(h:MI K C m q st ps) (_:Zt P w base K mg) (k:∀{f fd},cD K m q st f fd->aX P w K mg base CX n f fd ps sp):Md P w K mg base CX n C m sp:=by
 obtain⟨f,fd,F,b,M⟩:=h;exact Md.mk _ _ _ (k F) b M
theorem DI.df {P:rn}{w:By}{K:HC}{mg:Str->Option Value}{base:Heap}{CX:uq}{n:Nat}{x:Str}{st:Oz}{ps:List Str}{sp:Sp}(h:DI K x st ps) (z:Zt P w base K mg) (k:∀{f fd},cD K x x st f fd->aX P w K mg base CX n f fd ps sp):Df P w K mg base CX n x sp:=by
 obtain⟨f,fd,F,b,a⟩:=h;exact Df.mk _ _ _ (k F) b (z.p a) F.kp
def NI (K:HC):List Str->Prop
 | []=>True
 |x::l=>UK K Ov x=some none/\NI K l
def AI (K:HC) (C:Addr):List Str->Prop
 | []=>True
 |x::l=>OQ K (.ref C) x=some none/\AI K C l
theorem all_mk {l:RN}{w:By}{K:HC}{h:Heap}{mg:Str->Option Value}{fa L I N J ab U Y ac b2 a8 bb bV bY bI a7 b0 a9 bx ba b3 bp bn bi bt br bd bl bB bg bN d9 aB:Addr}{kd t8 t9:Wx}{c8:Value}{hH:Option Addr}{ha:Array (Option Value)}{a3:Array Value}{nB:Nat}(X:K.In h) (G:h.Ns Ov mg) (it:mg "law" = some (.ref fa)) :
  CI K L "Store" -> AI K L ["owners","contents"]->MI K L "__init__" "Store.__init__" St.oJ ["self","many"]->MI K L "take" "Store.take" St.D8 ["self"]->MI K L "less" "Store.less" St.CF ["self","n"]->MI K L "more" "Store.more" St.EB ["self","n"]->MI K L "free" "Store.free" St.Ey ["self"]->MI K L "count" "Store.count" St.xO ["self","n"]->MI K L "cells" "Store.cells" St.xj ["self","n"]->MI K L "put" "Store.put" St.IK ["self","n","cells"]->MI K L "refuse_free" "Store.refuse_free" St.tM ["self","n"]->CI K I "Paging" -> AI K I ["frames","slots","places","last_sheet","in_frames"]->MI K I "__init__" "Paging.__init__" St.wN ["self","frames","slots"]->MI K I "new_sheet" "Paging.new_sheet" St.mQ ["self","cells"]->MI K I "share" "Paging.share" St.yD ["self","sheet"]->MI K I "leave" "Paging.leave" St.yQ ["self","sheet"]->MI K I "cells" "Paging.cells" St.uc ["self","sheet"]->MI K I "change" "Paging.change" St.uw ["self","sheet","cells"]->MI K I "fetch" "Paging.fetch" St.yz ["self","sheet"]->MI K I "bring_in" "Paging.bring_in" St.pM ["self","sheet","moved"]->MI K I "put_out" "Paging.put_out" St.tu ["self","sheet"]->MI K I "place" "Paging.place" St.xv ["self","sheet"]->MI K I "number_of" "Paging.number_of" St.mx ["self","sheet"]->MI K I "store_of" "Paging.store_of" St.qJ ["self","sheet"]->MI K I "count" "Paging.count" St.um ["self","sheet"]->MI K I "counts" "Paging.counts" Lw.pK ["self"]->CI K N "Table" -> AI K N ["first_step"]->MI K N "__init__" "Table.__init__" Tb.oJ ["self"]->MI K N "get" "Table.get" Tb.Jw ["self","page"]->MI K N "lay" "Table.lay" Tb.IZ ["self","page","entry"]->MI K N "clear" "Table.clear" Tb.xK ["self","page"]->MI K N "pages" "Table.pages" Tb.xn ["self"]->CI K J "Rooms" -> AI K J ["paging","total","rooms"]->MI K J "__init__" "Rooms.__init__" St.xM ["self","frames","slots"]->MI K J "begin" "Rooms.begin" St.nJ ["self","task"]->MI K J "close" "Rooms.close" St.nX ["self","task"]->MI K J "map" "Rooms.map" St.zP ["self","task","page","many"]->MI K J "drop" "Rooms.drop" St.sZ ["self","task","page","many"]->MI K J "peek" "Rooms.peek" St.pF ["self","task","address","many"]->MI K J "poke" "Rooms.poke" St.qC ["self","task","address","cells"]->MI K J "copy" "Rooms.copy" St.uk ["self","task","other"]->MI K J "held" "Rooms.held" St.yp ["self"]->MI K J "counts" "Rooms.counts" Lw.pS ["self"]->MI K J "place" "Rooms.place" St.nU ["self","task","page"]->MI K J "leave_pages" "Rooms.leave_pages" St.tR ["self","table","pages"]->MI K J "cells_of" "Rooms.cells_of" St.sV ["self","entry"]->MI K J "sheet_with" "Rooms.sheet_with" St.uO ["self","entry","cells"]->DI K "lift" St.El ["store","n"]->DI K "settle" St.tS ["store","moved"]->DI K "own_copy" Tb.y7 ["value"]->DI K "room_of" St.ox ["rooms","task"]->DI K "refuse_second_room" St.nH ["rooms","task"]->DI K "refuse_above" St.tf ["held","total"]->DI K "pages_from" Rm.iQ ["page","many"]->DI K "refuse_unmapped" Rm.jJ ["mapped","pages"]->DI K "pages_to_map" Rm.tW ["mapped","page","many"]->DI K "pages_to_drop" Rm.oE ["mapped","page","many"]->DI K "pages_of_cells" Rm.kK ["mapped","address","many"]->DI K "run_within" Rm.uo ["whole","address","many"]->DI K "pages_with" Rm.DU ["whole","address","cells"]->DI K "_law_mixed" Lw.yL ["_law_cell","_law_k"]->DI K "_law_number" Lw.tJ ["_law_script","_law_k"]->DI K "_law_cells" Lw.qt ["_law_m","_law_many"]->DI K "_law_deed" Lw.Di ["_law_m","_law_tasks_here"]->DI K "_law_model" Lw.wY ["_law_total"]->DI K "_law_held" Lw.yV ["_law_model_here"]->DI K "_law_stretch" Lw.qD ["_law_room","_law_address","_law_many"]->DI K "_law_due" Lw.Hv ["_law_model_here","_law_deed_here"]->DI K "_law_done" Lw.DJ ["_law_model_here","_law_deed_here"]->DI K "_law_called" Lw.nQ ["_law_kept","_law_deed_here"]->DI K "_law_sizes" Lw.yJ ["_law_m"]->DI K "_law_tasks" Lw.xV ["_law_m"]->DI K "_law_state" Lw.xt ["_law_kept","_law_model_here"]->DI K "_law_refusal" Lw.pO ["_law_kept","_law_deed_here"]->DI K "_law_far" Lw.Iz ["_law_m"]->DI K "_law_bad" Lw.IA ["_law_m","_law_model_here"]->DI K "_law_none_asked" Lw.DE ["_law_kept","_law_task","_law_m"]->DI K "law" Lw.HY ["_law_script"]->UK K Ov "ROOM_PAGES" = some (some (.int 64 kd))->UK K Ov "PAGE_CELLS" = some (some (.int 8 t8))->UK K Ov "STEP_PAGES" = some (some (.int 8 t9))->NI K ["range","enumerate","sum","int","isinstance","min","max","list","len","dict","bool","tuple","sorted","all","any","zip","ValueError"]->UK K Ov "NoTask" = some (some (.ref ab))->UK K Ov "NoPage" = some (some (.ref U))->UK K Ov "NoRoom" = some (some (.ref Y))->UK K Ov "Taken" = some (some (.ref ac))->UK K Ov "KernelError" = some (some (.ref d9))->GI K M9 [b2,a8,bb,bV,bY,bI,a7,b0,a9,bx,ba,b3,bp,bn,bi,bt,br,bd,bl,bB,bg,bN]->XJ K d9 ⟨ab,U,Y,ac⟩ [.ref b2,.ref a8,.ref bb,.ref bV,.ref bY,.ref bI,.ref a7,.ref b0,.ref a9,.ref bx,.ref ba,.ref b3,.ref bp,.ref bn,.ref bi,.ref bt,.ref br,.ref bd,.ref bl,.ref bB,.ref bg,.ref bN]->UK K Ov "BLANK" = some (some (.ref aB))->K.lookup aB=some ⟨c8,hH,.seq a3 nB,ha⟩->c8=.type "tuple" -> Vals [V.str "blank"] a3.toList->a3.size<=1 ->
  ∃fd:pa,(∀(s:k8) (v:Value),UZ s fd ⟨[v],[]⟩ [("_law_script",v)])/\∀base:Heap,K.In base->base.Ns Ov mg->aX l.prog w K mg base aU 12 fa fd ["_law_script"] (zy K):=by
 intro h0 h1 h2 h3 h4 h5 h6 h7 h8 h9 ji ey hD hW fe he hI eN ii e7 i3 im ge ht hn j2 hR e5 ep e8 e1 hr io hq f5 hE hP dM d0 ca d7 a6 be ec fr gd cc ev eA f3 hb ew dI d6 ce dT ef ei b6 b9 c2 gb hc ki jp j1 ho ib i8 e3 f9 je b8 g9 hS fT go hh hK hO i0 q0 q1 q2 em ej d8 c5 db hY hG hJ yB lB oB vB wB;obtain⟨fl,hu,fu,hz⟩:=h0;obtain⟨ke,e6,_⟩:=h1;obtain⟨f1,d1,F1,b1,M1⟩:=h2;obtain⟨fH,i9,hN,hg⟩:=ey;obtain⟨g7,f7,e2,ga,hy,_⟩:=hD;obtain⟨k0,kv,il,fi,da⟩:=hW;obtain⟨c0,jt,ek,ci⟩:=e5;obtain⟨hQ,_⟩:=ep;obtain⟨kn,kk,f2,dp,a2⟩:=e8;obtain⟨gx,f0,hx,hd⟩:=f5;obtain⟨fo,ez,i7,_⟩:=hE;obtain⟨kw,kp,hv,hF,eb⟩:=hP;obtain⟨ko,ka,c4,kE,i6⟩:=i0;obtain⟨dd,ih,cx,eB,b4,fv,gl,ap,as,dO,i2,b5,dl,eP,fb,ee,gt,_⟩:=em;have e:=it.symm.trans (mg_of X G i6);cases e;refine⟨ka,λs v=>?_,λbase _ _=>?_⟩
 .obtain⟨oc,od,kV,kQ,pm,an,kt,ct,kr,rfl,lk,kz⟩:=c4.ex;exact .of_eq rfl
 have z:Zt l.prog w base K mg:=⟨mg_of X G,PySem.W.mg_none_of X G⟩;have TS:St.Txt K mg L:=⟨hu,ke,e6,z.n as,z.n ap,⟨_,z.p q1,⟨_,rfl⟩⟩⟩;have TT:Tb.Txt K mg N:=⟨jt,hQ,⟨_,z.p q2,⟨_,rfl⟩⟩⟩;have TQ:Tb.Cw mg:=⟨z.n b4,z.n b5,z.n ap,z.n dO,z.n as,z.n dl⟩;have SX:Rm.yc mg:=⟨⟨_,z.p q0,⟨_,rfl⟩⟩,⟨_,z.p q1,⟨_,rfl⟩⟩,z.n ap,z.n dd,z.n as⟩;have TP:St.qP K mg I:=⟨i9,g7,f7,e2,ga,hy,z.n ap⟩;have O:St.ku K mg ⟨J,I,L,N⟩:=⟨f0,fo,ez,i7,⟨aB,z.p yB,.inr ⟨_,a3,nB,lB,oB,rfl,L3 wB ao,vB⟩⟩,⟨_,z.p q1,⟨_,rfl⟩⟩,z.n as,z.n cx,z.n ee⟩;have MT:Lw.mj mg:=⟨z.n dd,z.n ih,z.n cx,z.n eB,z.n b4,z.n fv,z.n gl,z.n ap,z.n as,z.n dO,z.n i2,z.n b5,z.n dl,z.n eP,z.n fb⟩;have iv:Rm.pQ K mg "NoTask" ab:=⟨z.p ej,by obtain⟨⟨h,_⟩,_⟩:=hJ;exact h⟩;have bc:Rm.pQ K mg "NoPage" U:=⟨z.p d8,by obtain⟨_,⟨h,_⟩,_⟩:=hJ;exact h⟩;have fI:Rm.pQ K mg "NoRoom" Y:=⟨z.p c5,by obtain⟨_,_,⟨h,_⟩,_⟩:=hJ;exact h⟩;have d2:Rm.pQ K mg "Taken" ac:=⟨z.p db,by obtain⟨_,_,_,⟨h,_⟩⟩:=hJ;exact h⟩;have f8:=St.uJ (P:=l.prog) (w:=w) (base:=base) F1 TS;have aT:=h7.md z λF=>St.CW F TS;have a4:=ji.md z λF=>St.Ax F TS aT;have c6:=h4.md z λF=>St.Fu F TS a4;have dz:=h8.md z λF=>St.BD F TS a4;have el:=h9.md z λF=>St.Ht F TS a4;have ea:=h5.md z λF=>St.Gg F TS a4;have iF:=h3.md z λF=>St.F4 F TS;have cg:=h6.md z λF=>St.E4 F TS;have hM:=dI.df z λF=>Tb.Ez F TQ;have GC:=dI.df z λF=>Tb.Ga F TQ hM;have dj:=Tb.uJ (P:=l.prog) (w:=w) (base:=base) f2 TT;have aD:=e1.md z λF=>Tb.Ip F TT GC;have bA:=hr.md z λF=>Tb.Im F TT GC;have ik:=io.md z λF=>Tb.DP F TT TQ;have S:=hq.md z λF=>Tb.Dk F TT TQ;have GP:=ef.df z λF=>Rm.tO F SX;have GU:=ei.df z λF=>Rm.vY F;have GM:=b6.df z λF=>Rm.DG F GP;have GD:=b9.df z λF=>Rm.Av F GP GU;have GO:=c2.df z λF=>Rm.wR F SX GP GU;have ch:=gb.df z λF=>Rm.z8 F SX;have d5:=hc.df z λF=>Rm.FK F SX;have c1:=hb.df z λF=>St.Fe F TS dz aT c6;have dL:=ew.df z λF=>St.AM F TS iF el aT ea;have a5:=ge.md z λF=>St.Cy (CS:=L) F TP;have am:=ht.md z λF=>St.wG F TP a5;have a1:=hn.md z λF=>St.x8 F TP a5;have eM:=j2.md z λF=>St.Ad F TP TS a1 am aT;have i4:=eN.md z λF=>St.Am F TP TS a1 am dz;have hp:=im.md z λF=>St.yO F TP c1 dL am;have dm:=i3.md z λF=>St.u0 F TP TS cg hp dL;have cr:=fe.md z λF=>St.tE F TP TS cg dm;have dV:=e7.md z λF=>St.DC F TP a5 dm c1;have f4:=he.md z λF=>St.Dn F TP TS a1 am ea;have c9:=hI.md z λF=>St.Ed F TP TS a1 am c6 aT;have eq:=ii.md z λF=>St.Aw F TP TS eM cr c9 dV am el;have e4:=St.DF il TP ⟨fu,M1.at_,M1.fn,hz⟩ (z.p fl) f8 b1;have R:=d6.df z λF=>St.Bp F;have GS:=ce.df z λF=>St.AH F;have GA:=dT.df z λF=>St.BA F;have g8:=St.Cu (c:=⟨J,I,L,N⟩) hv O ⟨hN,da.at_,da.fn,hg⟩ (z.p fH) e4 fi;have bv:=ev.md z λF=>St.qZ (c:=⟨J,I,L,N⟩) F O TT TP aD ik c9;have g5:=d7.md z λF=>St.Fg (c:=⟨J,I,L,N⟩) F O TT R GD S bv;have en:=d0.md z λF=>St.AY (c:=⟨J,I,L,N⟩) F O TT R S bv;have jr:=dM.md z λF=>St.AV (c:=⟨J,I,L,N⟩) F O ⟨ek,a2.at_,a2.fn,ci⟩ (z.p c0) GS dj dp;have c7:=eA.md z λF=>St.xC (c:=⟨J,I,L,N⟩) F O TP i4;have hf:=f3.md z λF=>St.tj (c:=⟨J,I,L,N⟩) F O TP cr eq;have a0:=fr.md z λF=>St.Du (c:=⟨J,I,L,N⟩) F O TT S;have ft:=ca.md z λF=>St.F6 (c:=⟨J,I,L,N⟩) F O TT R GM GA S a0 bA;have fk:=a6.md z λF=>St.En (c:=⟨J,I,L,N⟩) F O TT TP R GO ch S aD dV c7;have hL:=be.md z λF=>St.BM (c:=⟨J,I,L,N⟩) F O TT R GO d5 S aD bA c7 hf;have g1:=ec.md z λF=>St.BX (c:=⟨J,I,L,N⟩) F O TT TP ⟨ek,a2.at_,a2.fn,ci⟩ (z.p c0) R GS GA dj dp S a0 aD bA f4;have d3:=cc.md z λF=>St.Az (c:=⟨J,I,L,N⟩) F O TT TP R aD a5;have g3:=hR.md z λF=>Lw.yi F TP TS;have hj:=gd.md z λF=>Lw.xD (c:=⟨J,I,L,N⟩) F O TP g3;have KT:Lw.NO l.prog w K mg base ⟨J,I,L,N⟩:=⟨jr,en,ft,g5,g1,fk,hL,d3⟩;have e9:=ki.df z λF=>Lw.BZ F;have eu:=jp.df z λF=>Lw.AB F MT e9;have j3:=g9.df z λF=>Lw.BF F;have i5:=ib.df z λF=>Lw.CK F;have dt:=i8.df z λF=>Lw.CL F MT;have i1:=e3.df z λF=>Lw.yr F MT;have ia:=f9.df z λF=>Lw.HB F MT dt i1;have eo:=je.df z λF=>Lw.F2 F MT;have fz:=b8.df z λF=>Lw.Ac F O KT;have hw:=j1.df z λF=>Lw.yq F MT;have gs:=ho.df z λF=>Lw.F8 F MT hw;have fy:=hS.df z λF=>Lw.Cz F;have bm:=ef.df z λF=>Rm.qT F SX bc;have c3:=ei.df z λF=>Rm.tq F bc;have iN:=b6.df z λF=>Rm.Bn F d2 GP bm;have hk:=b9.df z λF=>Rm.xU F GP bm c3;have dr:=c2.df z λF=>Rm.vh F SX bc GP bm c3;have ad:=d6.df z λF=>St.xh F iv;have b7:=ce.df z λF=>St.xH F d2;have d4:=dT.df z λF=>St.Af F fI;have hm:=dM.md z λF=>St.yo (c:=⟨J,I,L,N⟩) (xa:=⟨ab,U,Y,ac⟩) F O b7;have g4:=d0.md z λF=>St.yR (c:=⟨J,I,L,N⟩) (xa:=⟨ab,U,Y,ac⟩) F O ad;have gm:=ca.md z λF=>St.BL (c:=⟨J,I,L,N⟩) (xa:=⟨ab,U,Y,ac⟩) F O TT ad R GM iN d4 S a0;have hT:=d7.md z λF=>St.Aa (c:=⟨J,I,L,N⟩) (xa:=⟨ab,U,Y,ac⟩) F O TT ad R hk S bv;have e0:=ec.md z λF=>St.Bf (c:=⟨J,I,L,N⟩) (xa:=⟨ab,U,Y,ac⟩) F O TT ad R b7 GS d4 S a0;have fc:=a6.md z λF=>St.AE (c:=⟨J,I,L,N⟩) (xa:=⟨ab,U,Y,ac⟩) F O TT ad R dr S;have eH:=be.md z λF=>St.Ap (c:=⟨J,I,L,N⟩) (xa:=⟨ab,U,Y,ac⟩) F O TT ad R dr S;have g0:=b8.df z λF=>Lw.yW (xa:=⟨ab,U,Y,ac⟩) F O ⟨hm,g4,gm,hT,e0,fc,eH⟩;have eC:=cc.md z λF=>Lw.yG (c:=⟨J,I,L,N⟩) (xa:=⟨ab,U,Y,ac⟩) F O ad;have fx:=a6.md z λF=>Lw.Bm (c:=⟨J,I,L,N⟩) F O TT R GO ch S;have hC:=be.md z λF=>Lw.Bc (c:=⟨J,I,L,N⟩) F O TT R GO d5 S;have hl:=fT.df z λF=>Lw.Ec F MT O d3 hj a0;have g6:=go.df z λF=>Lw.xr (xa:=⟨ab,U,Y,ac⟩) F MT O (LH (xs:=[b2,a8,bb,bV,bY,bI,a7,b0,a9,bx,ba,b3,bp,bn,bi,bt,br,bd,bl,bB,bg,bN]) hJ z rfl hG (z.p ej) (z.p d8) (z.p c5) (z.p db) (z.n gt) (z.n ee) (z.p hY)) eC g0;have et:=hh.df z λF=>Lw.Jj F;have hA:=hK.df z λF=>Lw.Jt F MT dt et;have hB:=hO.df z λF=>Lw.Fq F MT O fx hC;exact Lw.Jg c4 MT O ⟨hx,eb.at_,eb.fn,hd⟩ (z.p gx) g8 hF eu j3 fy i5 gs ia eo fz hA hl g6 hB
theorem walk {l:RN}{q:rn}{loose:List Str}{XP:(Str->Option Value)->Heap->Prop}{G:By->Heap->Prop}{d:DefRec}{K:Params->HC}(R:l.most=some 63) (N:d.params.defaults=[])
  (O:∀(w:By) (h:Heap),G w h->(K w.params).In h)
  (F:∀(w:By) (mg:Str->Option Value) (I:Addr) (h:Heap),(K w.params).In h->h.Ns Ov mg->mg d.name=some (.ref I) ->
   ∃fd:pa,(∀(s:k8) (u:Value),UZ s fd ⟨[u],[]⟩ [("_law_script",u)])/\∀base:Heap,(K w.params).In base->base.Ns Ov mg->aX l.prog w (K w.params) mg base aU 12 I fd ["_law_script"] (zy (K w.params))) :
  VC q loose XP G l.row.toRowW d [] (λf vs=>VT f vs):=
 L2.FC (n:=63) (k:=12) (x := "_law_script") (CX:=λ_=>aU) (sp:=λw=>zy (K w.params)) R ao N ⟨rfl,ao,ao⟩ O F (λ_ _ a ns J _ L=>⟨a,ns,rfl,L,J,λ_=>rfl⟩) λ_ _ _ _ _ z=>z
end Lw
open PySem PySem.W PyProof.Rows
theorem PySem.Challenge.cw_ownroom_k11_rooms_refused_holds : PySem.Challenge.rw_ownroom_k11_rooms_refused.Holds := by
 refine Hd.top2 ?_
 k_fill
 refine Lw.walk (l:=PySem.Challenge.rw_ownroom_k11_rooms_refused) rfl rfl (λw h Y=>PySem.W.kIn_of Y) ?F
 case F =>
  intro w mg fa h KX G hmg;apply Lw.all_mk KX G hmg
  all_goals first
   |(apply Lw.MI.of<;>first|k_is|(first|exact λ_ _ _ _ _ _ _=>rfl|exact λ_ _ _ _ _ _ _ _=>rfl|exact λ_ _ _ _ _ _ _ _ _=>rfl|exact λ_ _ _ _ _ _ _ _ _ _=>rfl|exact λ_ _ _ _ _ _ _ _ _ _ _=>rfl))
   |(apply Lw.DI.of<;>first|k_is|(first|exact λ_ _ _ _ _ _ _=>rfl|exact λ_ _ _ _ _ _ _ _=>rfl|exact λ_ _ _ _ _ _ _ _ _=>rfl|exact λ_ _ _ _ _ _ _ _ _ _=>rfl|exact λ_ _ _ _ _ _ _ _ _ _ _=>rfl))
   |(apply Lw.CI.mk;k_is;(constructor<;>k_is);k_is;k_is)
   |(unfold Lw.NI;repeat' first|apply And.intro|exact trivial|k_is|unfold Lw.NI)
   |(unfold Lw.GI;repeat' first|apply And.intro|exact trivial|k_is|unfold Lw.GI)
   |(unfold Lw.AI;repeat' first|apply And.intro|exact trivial|k_is|unfold Lw.AI)
   |(apply Lw.XJ.mk<;>apply Lw.XI.mk<;>first|k_exc|kts_exm|kit_is|(constructor<;>k_is))
   |k_is|rfl|exact .cons ⟨_,rfl⟩ .nil|exact le_refl 1
