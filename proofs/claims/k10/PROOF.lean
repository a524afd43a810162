import PyProof.Rows.All
import Wide.All
import OpenK.AllK
import Wide.FinOn
import Lean
import PyProof.EqAt
import PyProof.EqKinds
import PyProof.TupleCall
import PySem.Challenge.RW_ownroom_k10_rooms_deed_by_deed
inductive FH {α β:Type}(p:α->β->Prop):Prop
 |mk (x0:α) (x1:β) (_:p x0 x1):FH p
inductive KU {α β γ:Type}(p:α->β->γ->Prop):Prop
 |mk (x0:α) (x1:β) (x2:γ) (_:p x0 x1 x2):KU p
inductive Lz {α β γ δ:Type}(p:α->β->γ->δ->Prop):Prop
 |mk (x0:α) (x1:β) (x2:γ) (x3:δ) (_:p x0 x1 x2 x3):Lz p
inductive Ep {α β γ δ ε:Type}(p:α->β->γ->δ->ε->Prop):Prop
 |mk (x0:α) (x1:β) (x2:γ) (x3:δ) (x4:ε) (_:p x0 x1 x2 x3 x4):Ep p
inductive Ls {α β γ δ ε ζ:Type}(p:α->β->γ->δ->ε->ζ->Prop):Prop
 |mk (x0:α) (x1:β) (x2:γ) (x3:δ) (x4:ε) (x5:ζ) (_:p x0 x1 x2 x3 x4 x5):Ls p
inductive qN (A0 A1 A2:Prop):Prop
 |mk (_:A0) (_:A1) (_:A2):qN A0 A1 A2
inductive Ju (A0 A1 A2 A3:Prop):Prop
 |mk (_:A0) (_:A1) (_:A2) (_:A3):Ju A0 A1 A2 A3
inductive JA (A0 A1 A2 A3 A4:Prop):Prop
 |mk (_:A0) (_:A1) (_:A2) (_:A3) (_:A4):JA A0 A1 A2 A3 A4
inductive Eo (A0 A1 A2 A3 A4 A5:Prop):Prop
 |mk (_:A0) (_:A1) (_:A2) (_:A3) (_:A4) (_:A5):Eo A0 A1 A2 A3 A4 A5
inductive Na (A0 A1 A2 A3 A4 A5 A6:Prop):Prop
 |mk (_:A0) (_:A1) (_:A2) (_:A3) (_:A4) (_:A5) (_:A6):Na A0 A1 A2 A3 A4 A5 A6
inductive LA (A0 A1 A2 A3 A4 A5 A6 A7:Prop):Prop
 |mk (_:A0) (_:A1) (_:A2) (_:A3) (_:A4) (_:A5) (_:A6) (_:A7):LA A0 A1 A2 A3 A4 A5 A6 A7
inductive KI (A0 A1 A2 A3 A4 A5 A6 A7 A8 A9 A10:Prop):Prop
 |mk (_:A0) (_:A1) (_:A2) (_:A3) (_:A4) (_:A5) (_:A6) (_:A7) (_:A8) (_:A9) (_:A10):KI A0 A1 A2 A3 A4 A5 A6 A7 A8 A9 A10
inductive KZ (A0 A1 A2 A3 A4 A5 A6 A7 A8 A9 A10 A11 A12:Prop):Prop
 |mk (_:A0) (_:A1) (_:A2) (_:A3) (_:A4) (_:A5) (_:A6) (_:A7) (_:A8) (_:A9) (_:A10) (_:A11) (_:A12):KZ A0 A1 A2 A3 A4 A5 A6 A7 A8 A9 A10 A11 A12
theorem cz {α G I:Sort _}{f:α->G->I}(a:α) (b:G):f a b=f a b:=rfl
theorem sH:1<=PySem.sizeLine:=by(decide)
theorem dZ:2<=PySem.sizeLine:=by(decide)
theorem Ll:3<=PySem.sizeLine:=by(decide)
theorem uI:4<=PySem.sizeLine:=by(decide)
theorem Nx:5<=PySem.sizeLine:=by(decide)
theorem Cf:(0:Int)<2:=by(decide)
theorem J0:(0:Int)<3:=by(decide)
theorem Iv:(0:Int)<4:=by(decide)
theorem xi:(0:Int)<8:=by(decide)
set_option compiler.extract_closed false
set_option Elab.async false
set_option linter.all false
set_option genSizeOf false
set_option genInjectivity false
set_option tactic.hygienic false
set_option maxRecDepth 100000
open PySem.W (Frag)
set_option maxHeartbeats 0
local macro_rules | `(tactic| omega) => `(tactic| lia)
theorem aq {p:Prop}(h:p:=by decide +kernel):p:=h
theorem ar {p:Prop}(h:p:=by decide):p:=h
theorem af {p:Prop}(h:p:=by omega):p:=h
open PySem.W (instObj hideAll_get lookIn handedIn isFn plainOver takerIn makesIn emptyDict kitx_list kitx_tuple kitx_dict callWith_K0 excIn exmOne)
open List (replicate all_cons foldl map_take filter)
open Nat (le_refl log2_lt)
open Option (getD_none bind_some isNone)
open Array (toList)
open PySem
open _root_.PySem renaming Shared->kz,wpAny_bind->k9,FuncData->p4,Program->se,sizeLine_eq->vl,World->G1,Around->L7,Expr->Ot,Stmt->Ow,mainGlobals->Ox,bootBuiltins->OD,wpAny_mono->OI,wpAny_passesOwn->Pa,Spec->Pk,wpAny_holding->Py,wpAny_truthy_bool->Pz,compareOp->PF,mem_of_lookup->PH,wpAny_execs_nil->P7,wpAny_Call_Name_kw->Qf,tupleKind_room_in1->Qi,wpAny_newObj_type->Qp,keywordEach->Qr,sysModules->Qv,Builtin->Qx,call_meets->QD,call_meetsIn->QF,cLine->QO,attributeBase->QR,foldedSetIterable->QV,Pos->QY,wpAny_rule->QZ,behindInMarks->Q6,binaryOp->Q7,holding->Rg,swapsWith->Ri,getMethod->Rj,sliceBounds->Rl,backToKw->Ro,wpAny_Call_method->Rr,wpAny_execs_cons->RD,wpAny_call_entry->RG,wpAny_standAt->RM,getItem->RN,codeAny->RO,wpAny_field->RU,codeAny_call_builtin->RX,Sem->RZ,codeAny_mono->Sj,tupleKind->Sn,assignEach->So,wpAny_call->Su,Scope->SU,Model->SV,standAt->SW,wpAny_assign_Name->SY,wpAny_pyIter_list->S6,seqIndex_of->Ta,wpAny_comprehension_free->To,Env->Tt,callWith->Tu,wpAny_callSpecial?_slot->Tx,wpAny_Call_method0_late->TH,wpAny_pyNext_range_end->TY,wpAny_pyIter_rangeiter->TZ,IsPart->Uc,wpAny_typeOf->Ud,wpAny_getItem_list_neg->Ug,wpAny_noteFrame_againW->Ui,valueAt->Uj,letOwnedTupleGo->Uq,wpAny_isTrue_Compare1->Us,IsRangeIter->UA,subscripted->UB,lookup_relabel_local->UE,underTheClaimsCaller->UG,Keyword->UM,callerA->UN,codeAny_forLoop_any->UR,evalArgs_none->UU,assignInOrder->UW,wpAny_attempt->UY,frameOf->UZ,assign->U3,wpAny_pyIter_range->U4,Within->Vc,GenState->Vd,wpAny_Return_some->Ve,Operator->Vf,wpAny_Assign_Name->Vh,bindName->Vi,BindsTo->Vn,wpAny_sequenceKey->Vp,slot_list_getitem->Vr,entryPlaceOf->Vs,wpAny_pyIter_enum->Vy,PassesOwn->VC,noFill_tuple_add->VD,typeOf->VF,checkBuiltinCall->VG,wpAny_pyIter_zip->VJ,atKey->VS,spliced->V1,builtinsNs->V7,wpAny_Name->V9,bindArgs->Wd,bindL->We,bindC->Wf,typeLookup->Wh,typeIs_int->Wj,call->Wk,compEnvC->Wm,wpAny_For->WN,cellsFrom->WQ,seqIndex?->WR,setItem->WU,Result->WV,CmpOp->W4,Tok->Xe
open _root_.List renaming getElem?_eq_some_iff->kQ,length_map->mu,mem_singleton->nc,mem_append->oR,size_toArray->qi,mem_map->qj,getElem?_map->t5,getElem?_eq_getElem->vu,length_append->wh,mem_of_getElem?->z6,mem_cons->BY,not_mem_nil->DO,length_cons->K4,map_append->L0,mem_append_right->L3,range->NC,length_take->Oj,mem_cons_of_mem->Ou,nodup_cons->Ov,getElem?_set_ne->Oy,mem_cons_self->Oz,pairwise_append->OC,append_assoc->OE,all_eq_true->OG,mem_range->OH,getElem?_set_self->OL,length_set->OS,getD_eq_getElem?_getD->OT,length_replicate->OV,length_eq_zero_iff->OW,length_range->O0,mem_append_left->O8,getElem?_eq_none->Pd,getElem?_append_right->Pe,take_of_length_le->Ph,getElem?_append_left->Pm,length_singleton->Po,mem_reverse->Pp,take_add_one->Pq,take_length->Pt,idxOf_lt_length_iff->Pw,getElem_of_mem->PD,pairwise_iff_getElem->PK,map_cons->PM,take_append_drop->PR,count_pos_iff->PU,length->PZ,length_drop->P1,filter_cons->P4,map_congr_left->P6,getElem_mem->Qd,replicate_succ->Qg,map_map->Ql,extract_eq_take_drop->Qm,nodup_nil->Qo,flatten_cons->Qs,drop_eq_getElem_cons->Qt,sum_cons->QA,ext_getElem?->QJ,drop_eq_nil_of_le->QL,mem_filter->QM,length_filter_le->QS,erase_of_not_mem->QU,pairwise_map->QX,take_sublist->Q3,perm_append_comm->Q4,lookup->Rk,getElem_take->Rv,reverse_append->Rw,nodup_append->Ry,getElem?_range->Rz,eraseIdxIfInBounds_toArray->RB,find?_cons->RJ,any_eq_true->RK,mem_flatMap->RL,getElem?_take->RS,mem_of_mem_drop->RY,mem_of_mem_take->Sd,filterMap_cons->Sf,flatMap_append->Sg,drop_sublist->Sl,mem_filterMap->Sr,getElem_idxOf->Sx,filter_eq_self->SH,perm_ext_iff_of_nodup->SJ,mem_or_eq_of_mem_set->SQ,getElem?_zip_eq_some->SS,getElem?_drop->Tq,append_nil->T9,range_succ->Um,count_cons_of_ne->Uz,any_cons->UC,mem_iff_getElem->UH,reverse_reverse->UJ,getElem?_of_mem->UL,take_zero->UP,length_nil->U7,count_eq_zero->Va,mem_replicate->Vb,any_eq_false->Vk,getElem_drop->Vu,set_set->Vz,map_fst_zip->VI,getElem_set->VN,nodup_range->VO,nil_append->VU,filter_map->VZ,map_nil->V3,of_mem_zip->Wg,drop_drop->Wr,drop_zero->Ws,take_succ->Wx,map_drop->WK,all_map->WY,map_set->W0,set->Xb,map_id->Xc,map->Xd
open _root_.PyProof.Rows renaming wpS_bind->nq,wpS_pure->pa,arrOf->DD,Keyed->G0,pendingOf->Om,SortSt->ON,slot_tuple_getitem->OO,wpS_forRange->OP,callWith_type1->Pf,wpS_mono->PN,numOf->QB,wpS_modify->QG,oneType'->Q9,failedOf->Ra,wpS_get->Rt,IntsAre->RP,AllBare->Sh,assignInOrder_cons->Sq,envOfC->Sw,wpS_lift->TC,subscriptTail_builtinR->Ue,pairsOf->Uk,pairsOf_size->Ul,entry_tuple_getitem->US,subscriptTail->UX,listUpdate_at->U0,args_tuple_getitem->U5,assignInOrder_nil->Vg,seqEpoch_at->VT,iadd_int->V2,K_congr->V5,boot_range->Wa,Subscript_->Wi,isInt_at->Wn,mirror->Wq,isBoolOf->Wy,IsTup->WL,wpS->W3,isInt->W9,stC->Xa
open _root_.Option renaming map_eq_some_iff->o8,bind_eq_some_iff->Pj,isSome_iff_exists->Qw,bind_some->Q5,map_eq_none_iff->Rx,isSome_map->Sy,ne_none_iff_exists'->SK,getD_some->VM,none->W8
open _root_.Ne renaming symm->qs
open _root_.Option.some renaming inj->rn
open _root_.Nat renaming le_refl->ti,le_trans->L1,lt_of_lt_of_le->Oq,le_of_not_lt->OA,zero_le->OB,ne_of_lt->OR,sub_succ_lt_self->OU,lt_of_lt_of_eq->OZ,lt_of_le_of_ne->Pb,le_of_add_right_le->Qa,lt_of_le_of_lt->Qh,add_lt_of_lt_sub'->Qk,add_le_add_right->Qq,pred_eq_succ_iff->Qu,le_sub_iff_add_le'->QI,one_le_iff_ne_zero->QK,eq_of_lt_succ_of_not_lt->QW,lt_irrefl->Q2,add_le_add_iff_left->Rn,lt_succ_of_lt->Rq,le_of_lt_succ->Ru,add_sub_self_left->RC,lt_succ_self->RF,add_sub_of_le->RQ,le_succ->Sk,min_eq_right->Sm,sub_add_cancel->SF,sub_lt_left_of_lt_add->SN,lt_of_succ_lt->Te,le_of_succ_le->Tf,min_eq_left->Tg,le_add_right_of_le->Uh,eq_zero_of_not_pos->Uo,le_sub_of_add_le'->Ux,le_of_ble_eq_true->Uy,sub_one_lt_of_le->UI,add_le_add_left->UT,ne_of_gt->Vj,succ_le_of_lt->Vv,zero_lt_of_lt->Vx,min_le_right->VE,sub_lt_of_lt->VH,le_add_right->VL,le_of_lt->V8,le_of_eq->Wc,lt_trans->Wo,zero_add->Wt,add_le_add->Wv,sub_le->WZ
open _root_.Sum renaming inl->vr,inr->Oi
open _root_.Bool renaming false_ne_true->By,false_eq_true->PQ,and_eq_true->Qe,eq_iff_iff->QN,and_false->UD,and_eq_true_iff->UK
open _root_.PySem.W renaming Frag->HC,kitOne->IF,mg_none_of->Oo,findIn->OQ,kia_one->OY,mg_of->Rf,OpenLaw->RW,specialIn->Si,looks_findIn->Ss,callWith_K->Sv,methodCall_KW->Tj,keepIn->T8,cellsFrom_some->Ua,takesIn->Ut,mroIn->Uu,Looks->UO,plainGet_of->VR,nsIn->V0,WalkO->V4,of_hideAll->V6,plainGet->Wb,methodObj->WM,hasDictIn->WO,hideAll->WT,fnOf->WW,codeIn->WX
open _root_.PySem.PassesOwn renaming never->Ol
open _root_.Int renaming le_of_lt->OJ,le_refl->OX,emod_lt_of_pos->Pc,emod_nonneg->Pu,le_trans->Qb,toNat_natCast->Qc,toNat_of_nonneg->Rh,lt_of_lt_of_le->SA,lt_of_le_of_lt->SD,natCast_pos->Ti,toNat->TV,ofNat_lt->Vq,ofNat_le->VA,not_lt_of_ge->VP,not_lt->Wu,lt_toNat->W2
open _root_.PySem.F renaming plainAttrs_list->OM,slot_list_append->PX,type_list_append->PY,slot_list_extend->Qy,plainAttrs_dict->QP,slot_dict_get->Q8,slot_dict_itemiterator_iter->Rb,slot_list_index->Sa,slot_dict_setdefault->Sb,entry_dict_get->Sz,args_list_index_2->SM,plain_extend_loop->SO,args_tuple_add_2->Tn,entry_list_index->Tp,slot_dict_values->Tr,type_list_remove->Ts,entry_tuple_add->Tv,args_dict_get_2->Tz,args_dict_get_3->TB,slot_dict_items->TK,type_list_index->TL,type_list_count->TM,slot_list_remove->TN,type_list_extend->TU,slot_tuple_add->Ub,slot_list_count->Ur,slot_dict_pop->Uv,type_dict_get->Uw
open _root_.Iff renaming mpr->Pn,mp->Rp,rfl->UQ
open _root_.False renaming elim->Pr
open _root_.Array renaming toList_append->Px,length_toList->PV,perm_iff_toList_perm->Qj,getElem?_toList->Qn,getElem?_eq_some_iff->Q1,toList_extract->SE,toList_reverse->SG,toList_push->Td,size_push->TF,size_map->Ww
open _root_.True renaming intro->PB
open _root_.Classical renaming byContradiction->PL
open _root_.Eq renaming symm->Qz
open _root_.PySem.SeqAt renaming EqAt->QC,list_indexAt->U6
open _root_.List.Perm renaming append_right->QH,append_left->QT,trans->Se
open _root_.PySem.Sem renaming wp->Q0
open _root_.List.Nodup renaming mem_erase_iff->Rc
open _root_.PySem.Data renaming cell->RE,fields->RT,seq->Wl
open _root_.PySem.IsL renaming update->RH
open _root_.PySem.SeqAt.EqAt renaming bool_bool->RV,int_str->U1,str_int->U2,of_refs->U9
open _root_.PySem.SeqAt.RcNeAt renaming tuples->SR,lists_lengths->Vt,lists->WI
open _root_.List.Pairwise renaming nil->Tc
open _root_.Prod.mk renaming inj->Th
open _root_.PyProof.Rows.SortSt renaming mk'->U8
open _root_.PySem.Around renaming under->Vl
open _root_.PySem.Code renaming isFrame->Vm,frames->W7
open _root_.Prod renaming ext->Vo
open _root_.PyProof.Rows.IsTup renaming new->VB
open _root_.Sum.inl renaming inj->VQ
open _root_.ForInStep renaming yield->VW
open _root_.PySem.W.Looks renaming ld->VX,here->Xf
open _root_.Array.Perm renaming refl->VY
open _root_.PySem.EqMixed renaming eq_bool_str->Wz,eq_str_bool->WA,ne_bool_str->WB,ne_str_bool->WC,eq_int_str->WD,eq_str_int->WE,ne_int_str->WG,ne_str_int->WH
open _root_.PyProof.Rows.LSm renaming kept_iter->WJ
open _root_.PySem.Walks renaming range->W5,list->Xj
open _root_.PySem.IsRange renaming new->W6
open _root_.PySem.W.WShape renaming has->Xg
open _root_.Or renaming inl->Xh,inr->Xi
theorem Xk {c:Prop}{h:Decidable c}(n:¬c){α:Sort u}{t e:α}:ite c t e=e:=if_neg n
theorem Xl {c:Prop}{h:Decidable c}(n:c){α:Sort u}{t e:α}:ite c t e=t:=if_pos n
abbrev Xm:=Addr->Prop
abbrev Xn:=Int->Int->List Int
abbrev Xo:=List (Addr×Obj)
abbrev Xp:=Value->kz->Prop
abbrev Xq:=Str->Option Value
abbrev Xr:=List (Int×Addr×Int)
abbrev Xs:=Int->List Int
abbrev Xt:=Array Value
abbrev Xu:=List Value
abbrev Xv:=Option Value
abbrev Xw:=Option Addr
section
local macro_rules|`(tactic|show $t)=>`(tactic|refine $t)
open Lean in
local macro_rules|`(tactic|let $d:letDecl)=>`(tactic|have $d:letDecl)
local macro_rules|`(tactic|rwa $s:rwRuleSeq at $h:ident)=>`(tactic|(rw $s:rwRuleSeq at $h:ident;cases $h:ident))
local macro_rules|`(‹$t›)=>`(by simpa using $t)
local macro_rules|`(tactic|cases $h:ident : $t)=>`(tactic|by_cases $h:ident : $t)
local macro_rules|`($s⁻¹)=>`(Array.size (PySem.Heap.objs (PySem.Shared.heap $s)))
open Lean in
local macro_rules|`(tactic|intros $x*)=>`(tactic|intro $(mkIdent `pins):ident $(mkIdent `s):ident $(mkIdent `σ):ident $(mkIdent `H):ident $(x.map fun y=>⟨y⟩)*)
open Lean in
local macro_rules|`(~~~$h $x*)=>`($(mkIdent `Inv) $(mkIdent `X) $(mkIdent `pins) $(mkIdent `σ) $h $x*)
open Lean in
local macro_rules|`(↑$f)=>`(wpAny (model $(mkIdent `X.prog) $(mkIdent `X.w)) $(mkIdent `X.A) $f)
open Lean in
local macro_rules|`(#v[$xs,*])=>do
 let y<-xs.getElems.mapM λ(x:Term)=>match x with|`(.$_:ident $_*)=>`(some $x)|_=>pure x
 `([$y,*])
open Lean in
local macro_rules|`(⇑$f)=>`($f $(mkIdent `P) $(mkIdent `w) $(mkIdent `K) $(mkIdent `mg) $(mkIdent `base) ($(mkIdent `fC) $(mkIdent `P) $(mkIdent `w)))
open Lean in
local macro_rules|`(↥$f)=>`($f $(mkIdent `P) $(mkIdent `w) $(mkIdent `K) $(mkIdent `mg) $(mkIdent `base) $(mkIdent `aZ))
open Lean in
local macro_rules|`(#[$xs,*])=>do
 let T:=([← `(⟨_,rfl⟩),← `(⟨rfl,rfl⟩),← `(⟨_,_⟩),← `(⟨?_,?_⟩),← `(⟨rfl,_⟩),← `(⟨rfl,?_⟩),← `(⟨trivial⟩)]:List (TSyntax `term))
 let mut r:Array (TSyntax `term):=Array.mk []
 for x in xs.getElems do
  match x.raw.isNatLit? with
  |some k=>
   match T[k]! with
   |`(⟨$ys,*⟩)=>r:=r++ys.getElems
   |_=>r:=r
  |_=>r:=r.push x
 `(⟨$r,*⟩)
open Lean in
local macro_rules|`(tactic|let $p:term:=$e)=>do
 let rec go (n:Nat)(t:Syntax):MacroM (TSyntax `rcasesPat):=do
  match n with
  |0=>Macro.throwUnsupported
  |n+1=>match t with
   |`($i:ident)=>`(rcasesPat|$i:ident)
   |`(_)=>`(rcasesPat|_)
   |`(#[$xs,*])=>do `(rcasesPat|⟨$(←xs.getElems.mapM fun x=>do `(Parser.Tactic.rcasesPatLo|$(←go n x):rcasesPat)),*⟩)
   |_=>Macro.throwUnsupported
 match p with
 |`(#[$_,*])=>do `(tactic|obtain $(←go 99 p):rcasesPat := $e)
 |_=>Macro.throwUnsupported
namespace L2
open PySem PySem.Spec PyProof.Rows
abbrev Key:=Sum Int Str
def oJ:Key->Value->Bool
 |.inl k,v=>Value.isInt k v
 |.inr x,v=>Value.isStrOf x v
def MC(w:G1):Key->Int
 |.inl k=>hashInt k
 |.inr x=>hashStr w x
theorem cH:∀{k:Key}{v:Value},oJ k v=true->(∃i t,k=vr i/\v=Value.int i t)\/(∃x t,k=Oi x/\v=Value.str x t)
 |.inl i,v,h=>by
  let#[t,e]:=Value.isInt_shape (k:=i) (v:=v) h;show .inl #[i,t,rfl,e]
 |.inr x,v,h=>by
  let#[t,e]:=Value.isStrOf_shape (x:=x) (v:=v) h;show .inr #[x,t,rfl,e]
theorem Ac(i:Int)(t:Xe):oJ (.inl i) (.int i t)=true:=by simp[oJ,Value.isInt]
theorem zY(x:Str)(t:Xe):oJ (.inr x) (.str x t)=true:=by simp[oJ,Value.isStrOf]
theorem Jf(a b:Int):decide ((vr a:Key)=vr b)=(a==b):=by
 cases e:a=b
 .subst e;simp
 .let h:¬ (vr a:Key)=vr b:=λq=>e (VQ q);rw[decide_eq_false h];show(beq_eq_false_iff_ne.mpr e).symm
theorem Hh(a b:Str):decide ((Oi a:Key)=Oi b)=decide (a=b):=by
 cases e:a=b
 .subst e;simp
 .let h:¬ (Oi a:Key)=Oi b:=λq=>e (Sum.inr.inj q);rw[decide_eq_false h,decide_eq_false e]
theorem HZ(a:Int)(b:Str):decide ((vr a:Key)=Oi b)=false:=decide_eq_false (λq=>nomatch q)
theorem IU(a:Str)(b:Int):decide ((Oi a:Key)=vr b)=false:=decide_eq_false (λq=>nomatch q)
def bG(prog:se)(w:G1):PySem.KeyKind prog w Key where
 is:=oJ
 hash:=MC w
 inj:=λv a b L J=>by
  rcases cH L with⟨i,t,rfl,rfl⟩|⟨x,t,rfl,rfl⟩
  .rcases cH J with⟨j,u,rfl,e⟩|⟨y,u,rfl,e⟩
   .injection e with G _;rw[G]
   .show nomatch e
  .rcases cH J with⟨j,u,rfl,e⟩|⟨y,u,rfl,e⟩
   .show nomatch e
   .injection e with G _;rw[G]
 byValue:=λk v h=>by
  rcases cH h with⟨i,t,rfl,rfl⟩|⟨x,t,rfl,rfl⟩<;>rfl
 pyHash:=λI h=>by
  rcases cH I with⟨i,t,rfl,rfl⟩|⟨x,t,rfl,rfl⟩
  .show wpAny_pyHash_int h
  .show wpAny_pyHash_str h
 eqBool:=λN I h=>by
  rcases cH N with⟨i,t,rfl,rfl⟩|⟨x,t,rfl,rfl⟩
  .rcases cH I with⟨j,u,rfl,rfl⟩|⟨y,u,rfl,rfl⟩
   .rw[Jf]at h;show wpAny_eqBool_int h
   .rw[HZ]at h;show U1 i t y u _ _ _ _ h
  .rcases cH I with⟨j,u,rfl,rfl⟩|⟨y,u,rfl,rfl⟩
   .rw[IU]at h;show U2 x t j u _ _ _ _ h
   .rw[Hh]at h;show wpAny_eqBool_str h
 «strs» := λk x t v h=>by
  rcases cH h with⟨i,u,rfl,e⟩|⟨y,u,rfl,e⟩
  .show nomatch e
  .injection e with G _;subst G;cases v<;>rfl
theorem vT(prog:se)(w:G1)(i:Int)(t:Xe):(bG prog w).is (.inl i) (.int i t)=true:=Ac i t
theorem uV(prog:se)(w:G1)(x:Str)(t:Xe):(bG prog w).is (.inr x) (.str x t)=true:=zY x t
set_option genInjectivity true in
inductive V where
 |non|bl (b:Bool)|int (i:Int)|str (x:Str)|byt (b:Array UInt8)|flt (b:UInt64)|ref (a:Addr)|ty (n:String)
 deriving DecidableEq
def RelV:V->Value->Prop
 |.non,u=>u=Value.none
 |.bl b,u=>u=Value.bool b
 |.int i,u=>∃t,u=Value.int i t
 |.str x,u=>∃t,u=Value.str x t
 |.byt b,u=>∃t,u=Value.bytes b t
 |.flt b,u=>∃t,u=Value.float b t
 |.ref a,u=>u=Value.ref a
 |.ty n,u=>u=Value.type n
abbrev Vals:List V->List Value->Prop:=Paired RelV
theorem Vals.length{xs:List V}{us:Xu}(r:Vals xs us):xs.length=us.length:=Paired.length r
theorem Vals.get:∀{xs:List V}{us:Xu}{i:Nat}{x:V},Vals xs us->xs[i]?=some x->∃u,us[i]?=some u/\RelV x u
 |_,_,_,_,.nil,e=>by simp at e
 |_,_,0,_,.cons r _,e=>by simp at e;subst e;show#[0,r]
 |_,_,i+1,x,.cons _ t,e=>by
  let#[u,h1,h2]:=Vals.get (i:=i) (x:=x) t ‹e›;show#[u,by simpa using h1,h2]
theorem Vals.set{x:V}{u:Value}(r:RelV x u):∀{xs:List V}{us:Xu}(i:Nat),Vals xs us->Vals (xs.set i x) (us.set i u)
 |_,_,_,.nil=>.nil
 |_,_,0,.cons _ t=>.cons r t
 |_,_,i+1,.cons q t=>.cons q (Vals.set r i t)
theorem Vals.append:∀{xs ys:List V}{us ws:Xu},Vals xs us->Vals ys ws->Vals (xs++ys) (us++ws)
 |_,_,_,_,.nil,s=>s
 |_,_,_,_,.cons r t,s=>.cons r (Vals.append t s)
theorem Vals.take:∀{xs:List V}{us:Xu}(n:Nat),Vals xs us->Vals (xs.take n) (us.take n)
 |_,_,0,_=>.nil
 |_,_,_+1,.nil=>.nil
 |_,_,n+1,.cons r t=>.cons r (Vals.take n t)
theorem Vals.drop:∀{xs:List V}{us:Xu}(n:Nat),Vals xs us->Vals (xs.drop n) (us.drop n)
 |_,_,0,r=>r
 |_,_,_+1,.nil=>.nil
 |_,_,n+1,.cons _ t=>Vals.drop n t
def gP:Option V->Option Value->Prop
 |some v,some u=>RelV v u
 |none,none=>True
 |_,_=>False
def KV{κ:Type}:List (κ×V)->List (κ×Value)->Prop:=Paired λ(p:κ×V)(q:κ×Value)=>p.1=q.1/\RelV p.2 q.2
def kV:Key->V
 |.inl i=>.int i
 |.inr x=>.str x
set_option genInjectivity true in
inductive HO where
  |lst(xs:List V)
  |tup(xs:List V)
  |dK(kvs:List (Key×V))|dT (kvs:List (List Key×V))
  |set(S:Int->Bool)(n:Nat)
  |ins(C dx:Addr)(fs:List (Str×V))
  |own(x:Addr)
  |xd(fs:List (Str×V))
  |met(f x:Addr)
  |rng(lo hi:Int)
  |cW(o:Obj)(u:HO)
  |tbl(ps:Xt)
  |ext(φ:Heap->Prop)
abbrev Hp:=Addr->Option HO
def upd(H:Hp)(a:Addr)(o:HO):Hp:=λb=>if b=a then some o else H b
theorem ae{H:Hp}{a:Addr}{o:HO}:upd H a o a=some o:=by unfold upd;rw[Xl rfl]
theorem ai{H:Hp}{a b:Addr}{o:HO}(h:b≠a):upd H a o b=H b:=by unfold upd;rw[Xk h]
theorem cY{H:Hp}{a b:Addr}{o u:HO}(h:H a=some o)(h':H b=some u)(d:o≠u):a≠b:=by
 intro e;subst e;rw[h]at h';show d (rn h')
theorem au{H:Hp}{a b:Addr}{o:HO}(h:H a=some o)(h':H b=none):a≠b:=by
 intro e;subst e;rwa[h]at h'
section
variable(P:se)(w:G1)
def bZ(H:Hp)(h:Heap)(a:Addr):HO->Prop
 |.lst xs=>xs.length<=sizeLine/\∃(its:Xu)(n:Nat),Vals xs its/\h.get? a=some { cls:=.type "list",data:=.seq its.toArray n }
 |.tup xs=>xs.length<=sizeLine/\∃its:List Value,Vals xs its/\WL h a its.toArray
 |.dK kvs=>kvs.length<=sizeLine/\(a==Qv)=false/\∃vs,KV kvs vs/\h.DictOf (bG P w) a vs
 |.dT kvs=>kvs.length<=sizeLine/\(a==Qv)=false/\∃xs:List (List Key×Addr×Value),
   Paired (λ(p:List Key×V)(q:List Key×Addr×Value)=>p.1=q.1/\H q.2.1=some (.tup (p.1.map kV))/\RelV p.2 q.2.2) kvs xs /\
   ∃o es ep,h.get? a=some o/\o.ExactDict/\o.data=.dict es ep/\es.toList=xs.map (entryOfKey (Sn (bG P w)))/\(xs.map (·.1)).Nodup
 |.set S n=>h.SetOf (intKind P w) a S n
 |.ins C dx fs=>H dx=some (.own a)/\fs.length<=1000/\dx≠a/\h.get? a=some (instObj C dx) /\
   ∃mA,h.Ns1 dx mA/\(∀f,gP (fs.lookup f) (mA f))/\Vc mA (fs.map (·.1))
 |.own _=>∃o,h.get? a=some o
 |.xd fs=>∃mA,h.Ns1 a mA/\∀f,gP (fs.lookup f) (mA f)
 |.rng lo hi=>∃t u v,h.get? a=some { cls:=.type "range",data:=.fields ([.int lo t,.int hi u,.int 1 v].toArray) }
 |.cW o u=>h.get? a=some o/\bZ H h a u
 |.tbl ps=>h.get? a=some { cls:=.none,data:=.fields ps }
 |.met f x=>h.get? a=some (WM (.ref f) (.ref x))
 |.ext G=>G h/\(∃o,h.get? a=some o)/\∀h1 h2:Heap, G h1->(∀o,h1.get? a=some o->h2.get? a=some o)->G h2
def jQ(H:Hp)(h:Heap):Prop:=∀a o,H a=some o->bZ P w H h a o
variable{P:se}{w:G1}{H H':Hp}{h h':Heap}{a:Addr}{o:HO}
theorem bZ.lt(x:bZ P w H h a o):a<h.objs.size:=by
 cases o with
 |lst xs=>let#[_,_,_,_,e]:=x;show Heap.lt_size e
 |tup xs=>let#[_,_,_,p]:=x;show p.lt
 |dK kvs=>let#[_,_,_,_,o,_,_,e,_]:=x;show Heap.lt_size e
 |dT kvs=>let#[_,_,_,_,o,_,_,e,_]:=x;show Heap.lt_size e
 |set S n=>let#[o,_,_,_,e,_]:=x;show Heap.lt_size e
 |ins C dx fs=>let#[_,_,_,e,_]:=x;show Heap.lt_size e
 |own y=>let#[_,e]:=x;show Heap.lt_size e
 |xd fs=>let#[_,#[_,_,_,e,_],_]:=x;show Heap.lt_size e
 |rng lo hi=>let#[_,_,_,e]:=x;show Heap.lt_size e
 |cW ob u=>let#[e,_]:=x;show Heap.lt_size e
 |tbl ps=>show Heap.lt_size (show h.get? a=some _ from x)
 |met f y=>show Heap.lt_size (show h.get? a=some _ from x)
 |ext G=>let#[_,#[_,e],_]:=x;show Heap.lt_size e
theorem Paired.DH{α I:Type}{F G:α->I->Prop}:∀{l₁:List α}{l₂:List I},Paired F l₁ l₂->(∀a b,F a b->G a b)->Paired G l₁ l₂
 |_,_,.nil,_=>.nil
 |_,_,.cons r t,f=>.cons (f _ _ r) (Paired.DH t f)
theorem bZ.iP(x:bZ P w H h a o)(k:∀b u,(b=a\/H b=some (.own a))->h.get? b=some u->h'.get? b=some u)
  (G:∀b,H b=some (.own a)->H' b=some (.own a)) (L:∀b xs,H b=some (.tup xs)->H' b=some (.tup xs)):bZ P w H' h' a o:=by
 induction o with
 |lst xs=>let#[z,its,n,r,e]:=x;show#[z,its,n,r,k _ _ (.inl rfl) e]
 |tup xs=>let#[z,its,r,ob,e,c]:=x;show#[z,its,r,ob,k _ _ (.inl rfl) e,c]
 |dK kvs=>let#[z,y,vs,r,ob,es,ep,e,c]:=x;show#[z,y,vs,r,ob,es,ep,k _ _ (.inl rfl) e,c]
 |dT kvs =>
  let#[z,y,xs,r,ob,es,ep,e,c]:=x;show#[z,y,xs,Paired.DH r λp q z=>#[z.1,L _ _ z.2.1,z.2.2],ob,es,ep,k _ _ (.inl rfl) e,c]
 |set S n=>let#[ob,es,ep,t,e,c]:=x;show#[ob,es,ep,t,k _ _ (.inl rfl) e,c]
 |ins C dx fs =>
  let#[d,z,ne,e,mA,#[od,es,ep,J,c],r]:=x;show#[G _ d,z,ne,k _ _ (.inl rfl) e,mA,#[od,es,ep,k _ _ (.inr d) J,c],r]
 |own y=>let#[ob,e]:=x;show#[ob,k _ _ (.inl rfl) e]
 |xd fs=>let#[mA,#[od,es,ep,e,c],r]:=x;show#[mA,#[od,es,ep,k _ _ (.inl rfl) e,c],r]
 |rng lo hi=>let#[t,u,v,e]:=x;show#[t,u,v,k _ _ (.inl rfl) e]
 |cW ob u I=>let#[e,q]:=x;show#[k _ _ (.inl rfl) e,I q]
 |tbl ps =>
  let e:h.get? a=some { cls:=.none,data:=.fields ps }:=x;change h'.get? a=some { cls:=.none,data:=.fields ps };show k a _ (.inl rfl) e
 |met f y =>
  let e:h.get? a=some (WM (.ref f) (.ref y)):=x;change h'.get? a=some (WM (.ref f) (.ref y));show k a _ (.inl rfl) e
 |ext N=>let#[p,#[o,e],st]:=x;show#[st _ _ p λo q=>k _ _ (.inl rfl) q,#[o,k _ _ (.inl rfl) e],st]
theorem jQ.lt(x:jQ P w H h)(e:H a=some o):a<h.objs.size:=(x a o e).lt
theorem jQ.fresh(x:jQ P w H h)(e:h.objs.size<=a):H a=none:=by
 cases q:H a with
 |none=>rfl
 |some u=>show absurd (Oq (x.lt q) e) (Q2 _)
theorem jQ.kept(x:jQ P w H h)(k:∀b u,h.get? b=some u->h'.get? b=some u):jQ P w H h':=λa o e =>
 (x a o e).iP (λb u _ q=>k b u q) (λ_ q=>q) λ_ _ q=>q
theorem jQ.laid(x:jQ P w H h)(k:∀b u,h.get? b=some u->h'.get? b=some u)(J:h.objs.size<=a)(new:bZ P w (upd H a o) h' a o):jQ P w (upd H a o) h':=λb u e=>by
 let G:=x.fresh J;cases I:b=a
 .subst I;rwa[ae]at e;show new
 .rw[ai I]at e;show(x b u e).iP (λc v _ q=>k c v q) (λc q=>by rw[ai (au q G)];show q) λc xs q=>by rw[ai (au q G)];show q
end
def Rd(H:Hp)(a:Addr)(u:HO):Prop:=H a=some u\/∃o,H a=some (.cW o u)
theorem Rd.ok{P:se}{w:G1}{H:Hp}{h:Heap}{a:Addr}{u:HO}(r:Rd H a u)(x:jQ P w H h):bZ P w H h a u:=by
 rcases r with r|⟨o,r⟩
 .show x a u r
 .let#[_,q]:=x a _ r;show q
def KL:Option HO->Prop
 |some (.lst _)=>True
 |some (.dK _)=>True
 |some (.dT _)=>True
 |some (.set _ _)=>True
 |some (.ins _ _ _)=>True
 |some (.ext _)=>True
 |_=>False
section
variable{P:se}{w:G1}{H:Hp}{h h':Heap}{x e:Addr}{o':HO}
theorem jQ.write(ok:jQ P w H h)(L:KL (H x))(R:e=x\/H e=some (.own x))(k:∀b u,b≠e->h.get? b=some u->h'.get? b=some u)(Y:∃u,h'.get? e=some u)
  (new:bZ P w (upd H x o') h' x o'):jQ P w (upd H x o') h':=λb u q=>by
 let O:∀c y,H c=some (.own y)->c≠x:=λc y r z=>(by subst z;rw[r]at L;show L);let U:∀c xs,H c=some (.tup xs)->c≠x:=λc xs r z=>(by subst z;rw[r]at L;show L);cases G:b=x
 .subst G;rwa[ae]at q;show new
 .rw[ai G]at q;cases I:b=e
  .let N:H b=some (.own x):=by
    rcases R with z|z
    .show absurd (I.trans z) G
    .rw[I];show z
   rwa[q]at N;let#[v,S]:=Y;show#[v,by rw[I];show S]
  .show(ok b u q).iP (λc v J r=>k c v ?_ r) (λc r=>by rw[ai (O c b r)];show r) λc xs r=>(by rw[ai (U c xs r)];show r);rcases J with rfl|J
   .show I
   .rintro rfl;rcases R with z|z
    .show O c b J z
    .rw[J]at z;cases z;show G rfl
end
structure Un(fs ex:List Addr)(H H':Hp)(h h':Heap):Prop where
 keep:∀b o,h.get? b=some o->H b=none->b∉fs->b∉ex->h'.get? b=some o
 slot:∀b o,h.get? b=some o->H b=none->b∈fs->b∉ex->∃sl,h'.get? b=some { o with slots:=sl }
 free:∀b o,h.get? b=some o->H b=none->b∉ex->H' b=none
 there:∀b o,h.get? b=some o->b∉ex->∃o',h'.get? b=some o'
 pF:∀b xs,H b=some (.tup xs)->H' b=some (.tup xs)
 mV:∀b o u,H b=some (.cW o u)->H' b=some (.cW o u)
 pq:∀b ps,H b=some (.tbl ps)->∃more,H' b=some (.tbl (ps++more))
section
variable{fs fs' ex ex':List Addr}{H H1 H2:Hp}{h h1 h2 h':Heap}{a x e:Addr}{o:HO}
theorem Un.any(u:Un fs ex H H1 h h1){b:Addr}{ob:Obj}(q:h.get? b=some ob)(n:H b=none)(G:b∉ex):∃sl,h1.get? b=some { ob with slots:=sl }:=by
 cases I:b∈fs
 .show u.slot b ob q n I G
 .show#[ob.slots,u.keep b ob q n I G]
theorem Un.kept(k:∀b u,h.get? b=some u->h'.get? b=some u):Un fs ex H H h h' :=
 #[λb ob q _ _ _=>k b ob q,λb ob q _ _ _=>#[ob.slots,k b ob q],λ_ _ _ n _=>n,λb ob q _=>#[ob,k b ob q],λ_ _ q=>q,λ_ _ _ q=>q,λ_ ps q=>#[([].toArray),by rw[q];simp]]
theorem Un.refl:Un fs ex H H h h:=Un.kept λ_ _ q=>q
theorem Un.laid(k:∀b u,h.get? b=some u->h'.get? b=some u)(I:h.objs.size<=a)(G:H a=none):Un fs ex H (upd H a o) h h' where
 keep:=λb u q _ _ _=>k b u q
 slot:=λb u q _ _ _=>#[u.slots,k b u q]
 free:=λb u q n _=>by rw[ai (OR (Oq (Heap.lt_size q) I))];show n
 there:=λb u q _=>#[u,k b u q]
 pF:=λb xs q=>by rw[ai (au q G)];show q
 mV:=λb u xs q=>by rw[ai (au q G)];show q
 pq:=λb ps q=>#[([].toArray),by rw[ai (au q G),q];simp]
theorem Un.write(G:KL (H x))(R:e=x\/H e=some (.own x))(k:∀b u,b≠e->h.get? b=some u->h'.get? b=some u)(O:∃u,h'.get? e=some u):Un fs ex H (upd H x o) h h':=by
 let J:∀b,H b=none->b≠x:=λb n z=>(by subst z;rw[n]at G;show G);let L:∀b,H b=none->b≠e:=λb n z=>by
  subst z;rcases R with r|r
  .show J b n r
  .rw[n]at r;cases r
 let I:∀b u,H b=some u->¬ KL (some u)->b≠x:=λb u q nm z=>(by subst z;rw[q]at G;show nm G);show#[λb u q n _ _=>k b u (L b n) q,λb u q n _ _=>#[u.slots,k b u (L b n) q],λb u q n _=>by rw[ai (J b n)];show n,λb u q _=>?_,
  λb xs q=>by rw[ai (I b _ q λz=>z)];show q,λb u xs q=>by rw[ai (I b _ q λz=>z)];show q,λb ps q=>#[([].toArray),by rw[ai (I b _ q λz=>z),q];simp]]
 cases N:b=e
 .subst N;show O
 .show#[u,k b u N q]
end
def LQ(h:Heap)(H:Hp):List Addr:=(NC h.objs.size).filter λa=>(H a).isSome
def tT(h:Heap)(H:Hp):Heap:=WT h (LQ h H)
theorem Am(h:Heap)(H:Hp):(tT h H).objs.size=h.objs.size:=PySem.W.hideAll_size _ _
theorem BO{h:Heap}{H:Hp}{b:Addr}{o:Obj}(e:h.get? b=some o)(n:H b=none):(tT h H).get? b=some o :=
 hideAll_get _ e λG=>by
  let q:(H b).isSome=true:=(QM.mp G).2;rw[n]at q;simp at q
theorem ET{h:Heap}{H:Hp}{b:Addr}{o:Obj}(e:(tT h H).get? b=some o):h.get? b=some o/\H b=none:=by
 let G:h.get? b=some o:=V6 (LQ h H) e;show#[G,?_];cases q:H b with
 |none=>rfl
 |some x =>
  let I:b∈LQ h H:=QM.mpr #[OH.mpr (Heap.lt_size G),by simp[q]];let z:(tT h H).get? b=none:=PySem.W.hideAll_none (LQ h H) I;rwa[z]at e
structure Mod(K:HC)(mg:Xq)(base:Heap):Prop where
 Ex:K.In base
 glob:base.Ns Ox mg
 blt:∃mb,base.Ns V7 mb/\∀x:Str,x ≠ "__name__" -> mb x=OD x
 nolimit:base.NoLimit
structure Cx where
 prog:se
 w:G1
 K:HC
 mg:Str->Option Value
 base:Heap
 A:L7
 N:List Str
 s₀:kz
 H₀:Hp
 env:Tt
 outer:List Tt
 stack:List Tt
 ex:List Addr
 fn:Str->Bool
 calm:Bool
 pn:List (Addr×Obj)
 xe:Value->kz->Prop
def qA(l:List Tt):List Addr:=l.filterMap (·.frame)
abbrev Cx.fs(X:Cx):List Addr:=qA X.outer
def Lr(G:SU)(x:Str):Prop:=G.names.lookup x=some .local\/G.names.lookup x=some .cell\/G.names.lookup x=some .free
def Loc(G:SU)(x:Str):Prop:=G.names.lookup x=some .local\/G.names.lookup x=some .cell
def Look(env:Tt)(h:Heap)(m:Xq)(x:Str)(u:Value):Prop :=
 (env.kindOf x=some .local/\m x=some u)\/((env.kindOf x=some .cell\/env.kindOf x=some .free)/\∃c,env.cells.lookup x=some c/\h.IsCell c (some u))
structure Cx.Ok(X:Cx):Prop where
 mod:Mod X.K X.mg X.base
 kind:X.env.scope.kind=.function
 glob:X.env.globals=Ox
 blt:X.env.builtins=V7
 above:X.s₀.heap.objs.size<=X.env.locals
 inj:∀x y c,X.env.cells.lookup x=some c->X.env.cells.lookup y=some c->x=y
 has:∀x,(X.env.kindOf x=some .cell\/X.env.kindOf x=some .free)->∃c,X.env.cells.lookup x=some c
 Ie:∀x c,X.fn x=true->X.env.cells.lookup x=some c->X.s₀.heap.objs.size<=c
 hd:X.calm=true->X.A.handled=none
 frames:X.A.frames=some X.stack
 Jw:X.stack=X.outer\/(X.stack=X.env::X.outer/\X.env.frame=some X.env.locals)
 LI:∀b∈X.ex,b≠X.env.locals/\∀x c,X.env.cells.lookup x=some c->c≠b
 bs:∀b o,X.base.get? b=some o->X.s₀.heap.get? b=some o/\X.H₀ b=none
 Bc:X.base.objs.size<=X.s₀.heap.objs.size
 x9:∀b o,X.base.get? b=some o->b∉X.ex
 wW:∀b∈X.ex,b∉X.fs
 jY:X.s₀.heap.FunFrames X.base X.outer
 EY:∀b∈X.fs,X.H₀ b=none
structure Inv(X:Cx)(pins:Xo)(σ:List (Option V))(H:Hp)(s:kz):Prop where
 ok:X.Ok
 os:s.os=X.s₀.os
 bare:Sh s.gens
 base:Un X.fs X.ex X.H₀ H X.s₀.heap s.heap
 loc:∃m,s.heap.Ns X.env.locals m/\∀(i:Nat)(x:Str)(v:V),X.N[i]?=some x->σ[i]?=some (some v)->Lr X.env.scope x->∃u,RelV v u/\Look X.env s.heap m x u
 cell:∀x c,X.env.cells.lookup x=some c->∃v,s.heap.IsCell c v
 free:H X.env.locals=none
 f9:∀x c,X.env.cells.lookup x=some c->H c=none
 pin:∀p∈X.pn++pins,s.heap.get? p.1=some p.2/\H p.1=none/\p.1≠X.env.locals/\p.1∉X.fs/\∀v,p.2.data≠.cell v
 bK:jQ X.prog X.w H s.heap
 len:σ.length=X.N.length
section
variable{X:Cx}{pins:Xo}{σ:List (Option V)}{H H':Hp}{s:kz}{h':Heap}
theorem Cx.Ok.MV(ok:X.Ok){b:Addr}{o:Obj}(e:X.base.get? b=some o):b∉X.fs:=λG=>by
 have:=(ok.jY.mem G).1;rwa[e]at this
theorem Inv.bs(I: ~~~H s):∀b o,X.base.get? b=some o->s.heap.get? b=some o/\H b=none:=λb o e =>
 #[I.base.keep b o (I.ok.bs b o e).1 (I.ok.bs b o e).2 (I.ok.MV e) (I.ok.x9 b o e),I.base.free b o (I.ok.bs b o e).1 (I.ok.bs b o e).2 (I.ok.x9 b o e)]
theorem Inv.bk(I: ~~~H s):∀b o,X.base.get? b=some o->s.heap.get? b=some o:=λb o e=>(I.bs b o e).1
theorem Inv.mod(I: ~~~H s):Mod X.K X.mg X.base:=I.ok.mod
theorem Inv.jP(I: ~~~H s):X.K.In s.heap:=I.ok.mod.Ex.keeps I.bk
theorem Inv.lt(I: ~~~H s):X.env.locals<s⁻¹:=let ⟨_,G,_⟩:=I.loc;G.lt
theorem Inv.sz(I: ~~~H s):X.s₀.heap.objs.size<=s⁻¹:=L1 I.ok.above (V8 I.lt)
theorem Inv.J9(I: ~~~H s){a:Addr}(h:s⁻¹<=a):a∉X.fs:=λJ=>by
 let#[_,o,G,_]:=I.ok.jY.mem J;show absurd (Oq (Heap.lt_size G) (L1 I.sz h)) (Q2 _)
theorem Inv.Bx(I: ~~~H s):∀x c,X.env.cells.lookup x=some c->c≠X.env.locals:=λx c e z=>by
 let#[v,o,G,hd]:=I.cell x c e;let#[m,#[o',es,ep,L,J,_],_]:=I.loc;rwa[z,L]at G;rwa[J]at hd
theorem Inv.jY(I: ~~~H s):s.heap.FunFrames X.base X.outer:=by
 let all:∀(l:List Tt),(∀b∈qA l,b∈X.fs)->X.s₀.heap.FunFrames X.base l->s.heap.FunFrames X.base l:=by
  intro l
  induction l with
  |nil=>intro _ _;trivial
  |cons env r S =>
   intro hs hl;let#[U,#[L,o,N,O,R,hd],Y]:=hl;let J:L∈X.fs:=hs L (by unfold qA;rw[Sf,N];show Oz);let#[sl,e]:=I.base.slot L o R (I.ok.EY L J) J λz=>I.ok.wW L z J;show#[U,#[L,_,N,O,e,hd],S (λb G=>hs b (by unfold qA;rw[Sf,N];show Ou _ G)) Y]
 show all X.outer (λ_ G=>G) I.ok.jY
theorem Inv.stack(I: ~~~H s):s.heap.FunFrames X.base X.stack:=by
 rcases I.ok.Jw with e|⟨e,G⟩
 .rw[e];show I.jY
 .rw[e];let#[m,J,_]:=I.loc;show .cons (by rw[I.ok.kind];decide) G J ?_ I.jY;show Heap.get?_none_of_le (L1 I.ok.Bc I.ok.above)
theorem Inv.sj(I: ~~~H s):∀b∈qA X.stack,b∈X.env.locals::X.fs:=λb G=>by
 rcases I.ok.Jw with e|⟨e,J⟩
 .rw[e]at G;show Ou _ G
 .rw[e]at G;unfold qA at G;rw[Sf,J]at G;show G
theorem Inv.sN(I: ~~~H s):∀b∈qA X.stack,H b=none:=λb G=>by
 rcases BY.mp (I.sj b G)with e|G
 .rw[e];show I.free
 .let#[_,o,J,_]:=I.ok.jY.mem G;show I.base.free b o J (I.ok.EY b G) λz=>I.ok.wW b z G
theorem Inv.step{g':Array Vd}{t':Nat}{d':Drawn}{ch:List Addr}(I: ~~~H s)
  (O:∀b∈ch,(b∈X.ex\/X.s₀.heap.objs.size<=b)/\b≠X.env.locals/\(∀x c,X.env.cells.lookup x=some c->c≠b)/\∀p∈X.pn++pins,p.1≠b)
  (keep:∀b o,b≠X.env.locals->b∉X.fs->b∉ch->s.heap.get? b=some o->H b=none->h'.get? b=some o)
  (slot:∀b o,b≠X.env.locals->b∈X.fs->b∉ch->s.heap.get? b=some o->H b=none->∃sl,h'.get? b=some { o with slots:=sl }) (free:∀b o,b∉ch->s.heap.get? b=some o->H b=none->H' b=none)
  (there:∀b o,b∉ch->s.heap.get? b=some o->∃o',h'.get? b=some o')
  (pF:∀b xs,H b=some (.tup xs)->H' b=some (.tup xs)) (mV:∀b o u,H b=some (.cW o u)->H' b=some (.cW o u)) (pq:∀b ps,H b=some (.tbl ps)->∃am,H' b=some (.tbl (ps++am)))
  (ns:∀m,s.heap.Ns X.env.locals m->h'.Ns X.env.locals m) (bK:jQ X.prog X.w H' h') (hg:Sh g') :
  ~~~H' { s with heap:=h',gens:=g',drawn:=d',toks:=t' }:=by
 let Y:∀b o,X.s₀.heap.get? b=some o->b≠X.env.locals:=λb o e=>OR (Oq (Heap.lt_size e) I.ok.above);let U:∀b o,X.s₀.heap.get? b=some o->b∉X.ex->b∉ch:=λb o e G L=>by
  rcases(O b L).1 with z|z
  .show G z
  .show absurd (Oq (Heap.lt_size e) z) (Q2 _)
 let ab:∀x c,X.env.cells.lookup x=some c->∀v,s.heap.IsCell c v->h'.IsCell c v:=λx c e v ac=>by
  let#[o,N,hd]:=ac;let S:c∉ch:=λz=>(O c z).2.2.1 x c e rfl;cases hc:c∈X.fs
  .let#[sl,q]:=slot c o (I.Bx x c e) hc S N (I.f9 x c e);show#[_,q,hd]
  .show#[o,keep c o (I.Bx x c e) hc S N (I.f9 x c e),hd]
 show#[I.ok,I.os,hg,#[λb o e n L G=>?_,λb o e n L G=>?_,λb o e n G=>?_,λb o e G=>?_,λb xs e=>pF b xs (I.base.pF b xs e),λb o xs e=>mV b o xs (I.base.mV b o xs e),λb ps e=>?_],?_,λx c e=>?_,?_,λx c e=>?_,λp hp=>?_,bK,I.len]
 .show keep b o (Y b o e) L (U b o e G) (I.base.keep b o e n L G) (I.base.free b o e n G)
 .let#[sl,J]:=I.base.slot b o e n L G;let#[ah,R]:=slot b _ (Y b o e) L (U b o e G) J (I.base.free b o e n G);show#[ah,R]
 .let#[o',J]:=I.base.there b o e G;show free b o' (U b o e G) J (I.base.free b o e n G)
 .let#[o',J]:=I.base.there b o e G;show there b o' (U b o e G) J
 .let#[m1,J]:=I.base.pq b ps e;let#[m2,R]:=pq b _ J;show#[m1++m2,by rw[R,Array.append_assoc]]
 .let#[m,hn,hl]:=I.loc;show#[m,ns m hn,λi x v J R e3=>?_];let#[u,r,l]:=hl i x v J R e3;show#[u,r,?_];rcases l with l|⟨k,c,e,z⟩
  .show .inl l
  .show .inr #[k,c,e,ab x c e _ z]
 .let#[v,z]:=I.cell x c e;show#[v,ab x c e v z]
 .let#[m,#[o,_,_,N,_],_]:=I.loc;show free _ o (λz=>(O _ z).2.1 rfl) N I.free
 .let#[v,o,N,hd]:=I.cell x c e;show free c o (λz=>(O c z).2.2.1 x c e rfl) N (I.f9 x c e)
 .let#[e,n,ne,nf,d]:=I.pin p hp;let S:p.1∉ch:=λz=>(O p.1 z).2.2.2 p hp rfl;show#[keep p.1 p.2 ne nf S e n,free p.1 p.2 S e n,ne,nf,d]
theorem Inv.un{t':Nat}(I: ~~~H s)(u:Un X.fs [] H H' s.heap h')(O:jQ X.prog X.w H' h'): ~~~H' { s with heap:=h',toks:=t' }:=by
 let#[m,#[o,es,ep,L,r],_]:=id I.loc;let#[sl,R]:=u.any L I.free (by simp);show I.step (g':=s.gens) (d':=s.drawn) (ch:=[]) (λ_ z=>nomatch z) (λb o _ G _ e n=>u.keep b o e n G (by simp)) (λb o _ G _ e n=>u.slot b o e n G (by simp)) (λb o _ e n=>u.free b o e n (by simp)) (λb o _ e=>u.there b o e (by simp)) u.pF u.mV u.pq (λm' S=>by
  let#[o',U,Y,J,N]:=S;rwa[L]at J;show#[_,U,Y,R,N]) O I.bare
theorem Inv.call{g':Array Vd}{t':Nat}{d':Drawn}{ch:List Addr}(I: ~~~H s)(u:Un (qA X.stack) ch H H' s.heap h')(Y:jQ X.prog X.w H' h')(hg:Sh g')
  (O:∀b∈ch,(b∈X.ex\/X.s₀.heap.objs.size<=b)/\b≠X.env.locals/\(∀x c,X.env.cells.lookup x=some c->c≠b)/\∀p∈X.pn++pins,p.1≠b) :
  ~~~H' { s with heap:=h',gens:=g',drawn:=d',toks:=t' }:=by
 let#[m,#[o,es,ep,N,r],_]:=id I.loc;let#[sl,J]:=u.any N I.free λz=>(O _ z).2.1 rfl;show I.step (ch:=ch) O (λb o J hb G e n=>u.keep b o e n (λz=>(BY.mp (I.sj b z)).elim J hb) G) (λb o _ _ G e n=>u.any e n G) (λb o G e n=>u.free b o e n G) (λb o G e=>u.there b o e G) u.pF u.mV u.pq (λm' S=>by
  let#[o',R,ab,L,U]:=S;rwa[N]at L;show#[_,R,ab,J,U]) Y hg
theorem Inv.turned{t':Nat}{it:Addr}(I: ~~~H s)(k:∀b o,b≠it->s.heap.get? b=some o->h'.get? b=some o)(N:H it=none)(J:it≠X.env.locals)
  (h1:it∈X.ex\/X.s₀.heap.objs.size<=it) (h2:∀x c,X.env.cells.lookup x=some c->c≠it) (R:∀p∈X.pn++pins,p.1≠it): ~~~H { s with heap:=h',toks:=t' }:=by
 let L:∀b u,H b=some u->b≠it:=λb u e z=>(by rwa[z,N]at e);show I.step (g':=s.gens) (d':=s.drawn) (ch:=[it]) (λb O=>?_) (λb o _ _ G e _=>k b o (λz=>G (by simp[z])) e) (λb o _ _ G e _=>#[o.slots,k b o (λz=>G (by simp[z])) e]) (λ_ _ _ _ n=>n)
  (λb o G e=>#[o,k b o (λz=>G (by simp[z])) e]) (λ_ _ e=>e) (λ_ _ _ e=>e) (λb ps e=>#[([].toArray),by rw[e];simp]) (λm S=>?_) (λb u e=>?_) I.bare
 .let e:b=it:=‹O›;subst e;show#[h1,J,h2,R]
 .let#[o,es,ep,U,r]:=S;show#[o,es,ep,k _ o (qs J) U,r]
 .show(I.bK b u e).iP (λc v G q=>k c v ?_ q) (λ_ q=>q) λ_ _ q=>q;rcases G with z|z
  .rw[z];show L b u e
  .show L c _ z
theorem Inv.tok(I: ~~~H s)(t:Nat): ~~~H { s with toks:=t }:=I.un (h':=s.heap) (t':=t) Un.refl I.bK
theorem Inv.kept{t':Nat}(I: ~~~H s)(k:∀b u,s.heap.get? b=some u->h'.get? b=some u): ~~~H { s with heap:=h',toks:=t' }:=I.un (Un.kept k) (I.bK.kept k)
theorem Inv.laid{a:Addr}{o:HO}{t':Nat}(I: ~~~H s)(k:∀b u,s.heap.get? b=some u->h'.get? b=some u)(G:s⁻¹<=a)(new:bZ X.prog X.w (upd H a o) h' a o) :
  ~~~(upd H a o) { s with heap:=h',toks:=t' }:=I.un (Un.laid k G (I.bK.fresh G)) (I.bK.laid k G new)
theorem Inv.write{x e:Addr}{o:HO}{t':Nat}(I: ~~~H s)(J:KL (H x))(L:e=x\/H e=some (.own x))(k:∀b u,b≠e->s.heap.get? b=some u->h'.get? b=some u)(G:∃u,h'.get? e=some u)
  (new:bZ X.prog X.w (upd H x o) h' x o): ~~~(upd H x o) { s with heap:=h',toks:=t' }:=I.un (Un.write J L k G) (I.bK.write J L k G new)
theorem Inv.ny{G:Xo}(I: ~~~H s)(h:∀p∈G,s.heap.get? p.1=some p.2/\H p.1=none/\p.1≠X.env.locals/\p.1∉X.fs/\∀v,p.2.data≠.cell v):Inv X G σ H s :=
 #[I.ok,I.os,I.bare,I.base,I.loc,I.cell,I.free,I.f9,λp J=>(oR.mp J).elim (λz=>I.pin p (O8 _ z)) (h p),I.bK,I.len]
theorem pQ{N:List Str}(I:N.Nodup){i j:Nat}{x:Str}(a:N[i]?=some x)(b:N[j]?=some x):i=j:=by
 let#[h1,J]:=kQ.mp a;let#[h2,G]:=kQ.mp b;show(List.getElem_inj I).mp (J.trans G.symm)
theorem rJ{M:SV}{A:L7}{E:Xp}{i:Nat}{x:Str}{v:V}{u:Value}{Q:Unit->kz->Prop}(I: ~~~H s)(hN:X.N.Nodup)(hi:X.N[i]?=some x)(L:Loc X.env.scope x)(r:RelV v u)
  (h:∀s',Inv X pins (σ.set i (some v)) H s'->(∃a,Heap.SameBut a s.heap s'.heap/\(a=X.env.locals\/X.env.cells.lookup x=some a))->Q () s') (hf:X.fn x=true\/X.env.scope.names.lookup x=some .local:=by first|show .inl rfl|show .inr rfl|assumption):wpAny M A (storeName X.env x u) Q E s:=by
 let#[m,hn,hl]:=id I.loc;let a1:(X.env.scope.kind == .class||(X.env.scope.kind == .module&&X.env.locals != X.env.globals))=false:=(by rw[I.ok.kind];rfl);let as:i<σ.length:=(by rw[I.len];show(kQ.mp hi).1);let Bx:=I.Bx;let ah:∀{a:Addr}{h':Heap},(∃o,s.heap.get? a=some o/\H a=none)->Heap.SameBut a s.heap h'->jQ X.prog X.w H h':=λ{a h'} ha hs b ob e=>by
  let#[_,_,am]:=ha;show(I.bK b ob e).iP (λc w' J q=>(hs.2 c ?_).trans q) (λ_ q=>q) λ_ _ q=>q;rintro rfl;rcases J with rfl|J
  .rw[am]at e;cases e
  .rw[am]at J;cases J
 rcases L with R|R
 .show wpAny_storeName_local R hn (λh' a0 hs=>?_) a1;let#[oL,_,_,a2,_]:=id hn;show h _ #[I.ok,I.os,I.bare,#[λb o e n U L=>?_,λb o e n U L=>?_,I.base.free,λb o e L=>?_,I.base.pF,I.base.mV,I.base.pq],#[_,a0,λj y v' G O e3=>?_],λy c e=>?_,I.free,I.f9,λp hp=>?_,ah #[oL,a2,I.free] hs,by simpa using I.len] #[_,hs,.inl rfl]
  .show(hs.2 b (OR (Oq (Heap.lt_size e) I.ok.above))).trans (I.base.keep b o e n U L)
  .let#[sl,G]:=I.base.slot b o e n U L;show#[sl,(hs.2 b (OR (Oq (Heap.lt_size e) I.ok.above))).trans G]
  .let#[o',G]:=I.base.there b o e L;show#[o',(hs.2 b (OR (Oq (Heap.lt_size e) I.ok.above))).trans G]
  .by_cases S:j=i
   .subst S;rwa[hi]at G;rwa[OL as]at O;show#[u,r,.inl #[R,by simp]]
   .rw[Oy (qs S)]at O;let#[u',r',q]:=hl j y v' G O e3;show#[u',r',?_];rcases q with⟨k,e⟩|⟨k,c,e,z⟩
    .show .inl #[k,?_];have:y≠x:=λe=>S (pQ hN G (e▸hi));simp[this,e]
    .show .inr #[k,c,e,z.sameBut hs (Bx y c e)]
  .let#[w',z]:=I.cell y c e;show#[w',z.sameBut hs (Bx y c e)]
  .let#[e,n,ne,nf,d]:=I.pin p hp;show#[(hs.2 p.1 ne).trans e,n,ne,nf,d]
 .let ab:X.fn x=true:=by
   rcases hf with z|z
   .show z
   .rw[z]at R;cases R
  let#[c,J]:=I.ok.has x (.inl R);let#[w',z]:=I.cell x c J;show wpAny_storeName_cell I.ok.kind R J z (λh' aB hs=>?_);let#[oc,ap,aT]:=id z;show h { s with heap:=h' } #[I.ok,I.os,I.bare,#[λb o e n U L=>?_,λb o e n U L=>?_,I.base.free,λb o e L=>?_,I.base.pF,I.base.mV,I.base.pq],#[m,hn.sameBut hs (qs (Bx x c J)),λj y v' G O e3=>?_],λy Y e=>?_,I.free,I.f9,λp hp=>?_,ah #[oc,ap,I.f9 x c J] hs,by simpa using I.len] #[c,hs,.inr J]
  .show(hs.2 b (OR (Oq (Heap.lt_size e) (I.ok.Ie x c ab J)))).trans (I.base.keep b o e n U L)
  .let#[sl,G]:=I.base.slot b o e n U L;show#[sl,(hs.2 b (OR (Oq (Heap.lt_size e) (I.ok.Ie x c ab J)))).trans G]
  .let#[o',G]:=I.base.there b o e L;show#[o',(hs.2 b (OR (Oq (Heap.lt_size e) (I.ok.Ie x c ab J)))).trans G]
  .by_cases S:j=i
   .subst S;rwa[hi]at G;rwa[OL as]at O;show#[u,r,.inr #[.inl R,c,J,aB]]
   .rw[Oy (qs S)]at O;let#[u',r',q]:=hl j y v' G O e3;show#[u',r',?_];rcases q with q|⟨k,Y,e,z'⟩
    .show .inl q
    .show .inr #[k,Y,e,z'.sameBut hs ?_];rintro rfl;show S (pQ hN G (I.ok.inj _ _ _ e J▸hi))
  .by_cases ac:Y=c
   .subst ac;show#[_,aB]
   .let#[w2,z2]:=I.cell y Y e;show#[w2,z2.sameBut hs ac]
  .let#[e,n,ne,nf,d]:=I.pin p hp;show#[(hs.2 p.1 ?_).trans e,n,ne,nf,d];intro q;rw[q,ap]at e;let q':oc=p.2:=rn e;show d w' (by rw[<-q'];show aT)
theorem gx{M:SV}{A:L7}{E:Xp}{i:Nat}{x:Str}{v:V}{u:Value}{Q:Unit->kz->Prop}(I: ~~~H s)(L:X.N.Nodup)(hi:X.N[i]?=some x)(G:Loc X.env.scope x)(r:RelV v u)
  (h:∀s',Inv X pins (σ.set i (some v)) H s'->Q () s') (O:X.fn x=true\/X.env.scope.names.lookup x=some .local:=by first|show .inl rfl|show .inr rfl|assumption):wpAny M A (storeName X.env x u) Q E s :=
 rJ I L hi G r (λs' J _=>h s' J) O
theorem Inv.Ca{s':kz}{ch:List Addr}(I: ~~~H s)(J:s'.os=s.os)(u:Un (qA X.stack) ch H H' s.heap s'.heap)(L:jQ X.prog X.w H' s'.heap)(N:Sh s'.gens)
  (G:∀b∈ch,(b∈X.ex\/X.s₀.heap.objs.size<=b)/\b≠X.env.locals/\(∀x c,X.env.cells.lookup x=some c->c≠b)/\∀p∈X.pn++pins,p.1≠b): ~~~H' s':=by
 let#[h',g',d',t',o']:=s';let e:o'=s.os:=J;subst e;show I.call (g':=g') (t':=t') (d':=d') u L N G
end
abbrev XK:=Value->Option Addr->Hp->Prop
abbrev St:=List (Option V)
abbrev VK:=V->Hp->Prop
abbrev TE:=St->Hp->VK->Prop
abbrev TT:=St->Hp->(Bool->Hp->Prop)->Prop
abbrev TA:=St->Hp->(List V->Hp->Prop)->Prop
structure Ends where
 nx:St->Hp->Prop
 rt:VK
 bk:St->Hp->Prop:=λ_ _=>False
 ct:St->Hp->Prop:=λ_ _=>False
abbrev TS:=Ends->St->Hp->Prop
def EP(X:Cx)(pins:Xo)(σ:St)(Q:VK)(u:Value)(s':kz):Prop:=∃v H',~~~H' s'/\RelV v u/\Q v H'
def TP(X:Cx)(pins:Xo)(σ:St)(Q:Bool->Hp->Prop)(b:Bool)(s':kz):Prop:=∃H',~~~H' s'/\Q b H'
def AP(X:Cx)(pins:Xo)(σ:St)(Q:List V->Hp->Prop)(us:Xu)(s':kz):Prop:=∃vs H',~~~H' s'/\Vals vs us/\Q vs H'
def SP(X:Cx)(pins:Xo)(D:Ends)(f:Flow)(s':kz):Prop :=
 match f with
 |.next=>∃G H',Inv X pins G H' s'/\D.nx G H'
 |.brk=>∃G H',Inv X pins G H' s'/\D.bk G H'
 |.cont=>∃G H',Inv X pins G H' s'/\D.ct G H'
 |.ret u=>∃v G H',Inv X pins G H' s'/\RelV v u/\D.rt v H'
def PE(X:Cx)(e:Ot)(t:TE):Prop :=
 ∀(pins:Xo)(s:kz)(σ:St)(H:Hp)(Q:VK),~~~H s->t σ H Q->↑(eval e X.env) (EP X pins σ Q) X.xe s
def PT(X:Cx)(e:Ot)(t:TT):Prop :=
 ∀(pins:Xo)(s:kz)(σ:St)(H:Hp)(Q:Bool->Hp->Prop),~~~H s->t σ H Q->↑(isTrue e X.env (eval e X.env)) (TP X pins σ Q) X.xe s
def PW(X:Cx)(e:Ot)(t:TT):Prop :=
 ∀(G:RZ Value)(pins:Xo)(s:kz)(σ:St)(H:Hp)(Q:Bool->Hp->Prop),~~~H s->t σ H Q->↑(isTrue e X.env G) (TP X pins σ Q) X.xe s
theorem PW.pt{X:Cx}{e:Ot}{t:TT}(h:PW X e t):PT X e t:=h _
def PA(X:Cx)(es:List Ot)(t:TA):Prop :=
 ∀(pos:QY)(pins:Xo)(s:kz)(σ:St)(H:Hp)(Q:List V->Hp->Prop),~~~H s->t σ H Q->↑(V1 (backTo pos (starEach es X.env))) (AP X pins σ Q) X.xe s
def PS(X:Cx)(st:Ow)(t:TS):Prop :=
 ∀(pins:Xo)(s:kz)(σ:St)(H:Hp)(D:Ends),~~~H s->t D σ H->↑(exec st X.env) (SP X pins D) X.xe s
def vo(X:Cx)(st:List Ow)(t:TS):Prop :=
 ∀(pins:Xo)(s:kz)(σ:St)(H:Hp)(D:Ends),~~~H s->t D σ H->↑(execs st X.env) (SP X pins D) X.xe s
theorem bW{α:Type}{t:RZ α}{Q G:α->kz->Prop}{M:SV}{A:L7}{E:Xp}{s:kz}(h:wpAny M A t Q E s)(I:∀a s,Q a s->G a s):wpAny M A t G E s:=OI h I λ_ _ x=>x
section
variable{X:Cx}
inductive uO(i:Nat)(σ:St)(H:Hp)(Q:VK):Prop
 |mk(v:_)(_:σ[i]?=some (some v))(_:Q v H)
def tC(v:V):TE:=λ_ H Q=>Q v H
theorem Jk{i:Nat}{x:Str}{pos:QY}(hN:X.N[i]?=some x)(R:Lr X.env.scope x)(hd:(x==("__debug__" : Str))=false:=by decide)(Y:(x==("__classdict__" : Str))=false:=by decide):PE X (.Name x pos) (uO i):=by
 intros Q I h;let#[v,e,h]:=h;let#[m,S,hl]:=I.loc;let#[u,r,l]:=hl i x v hN e R;let J:EP X pins σ Q u s:=#[v,H,I,r,h];rcases l with⟨G,U⟩|⟨G,c,O,L⟩
 .show V9 (wpAny_loadName_local I.ok.kind G S U J) hd
 .rcases G with G|G
  .show V9 (wpAny_loadName_cell I.ok.kind G O L J) hd
  .show V9 (wpAny_loadName_free I.ok.kind G O L J Y) hd
theorem ak{i j pos}:PE X (.Constant (.int i) j pos) (tC (.int i)):=λ_ _ _ H _ I h=>wpAny_Constant_int #[.int i,H,I.tok _,#[0],h]
theorem kS{b j pos}:PE X (.Constant (.bool b) j pos) (tC (.bl b)):=λ_ _ _ H _ I h=>Constant_bool #[.bl b,H,I,rfl,h]
theorem fZ{j pos}:PE X (.Constant .none j pos) (tC .non):=λ_ _ _ H _ I h=>Constant_none #[.non,H,I,rfl,h]
theorem aF{x j pos}:PE X (.Constant (.str x) j pos) (tC (.str x)):=λ_ _ _ H _ I h=>Calls.Constant_str #[.str x,H,I.tok _,#[0],h]
def Gl(X:Cx)(x:Str):Prop:=X.env.kindOf x=some .globalImplicit
theorem iG{E:Xp}{pins:Xo}{s:kz}{σ:St}{H:Hp}{x:Str}{u:Value}{pos:QY}{Q:Xp}(I: ~~~H s)(J:Gl X x)(G:X.mg x=some u)(h:Q u s)
  (hd:(x==("__debug__" : Str))=false:=by decide):↑(eval (.Name x pos) X.env) Q E s :=
 Calls.Name_function_global I.ok.kind J (Calls.loadGlobal_global (by rw[I.ok.glob];show I.mod.glob.keeps I.bk) G h) hd
theorem jk{E:Xp}{pins:Xo}{s:kz}{σ:St}{H:Hp}{x:Str}{u:Value}{pos:QY}{Q:Xp}(I: ~~~H s)(L:Gl X x)(N:X.mg x=none)(G:OD x=some u)(h:Q u s)
  (J:x ≠ "__name__" := by decide) (hd:(x==("__debug__" : Str))=false:=by decide):↑(eval (.Name x pos) X.env) Q E s:=by
 let#[O,h1,h2]:=I.mod.blt;show Calls.Name_function_global I.ok.kind L (Calls.loadGlobal_builtin (by rw[I.ok.glob];show I.mod.glob.keeps I.bk) N (by rw[I.ok.blt];show h1.keeps I.bk) ((h2 x J).trans G) h) hd
theorem bM{x:Str}{v:V}{u:Value}{pos:QY}(J:Gl X x)(G:X.mg x=some u)(r:RelV v u)(hd:(x==("__debug__" : Str))=false:=by decide):PE X (.Name x pos) (tC v):=
 λ_ _ _ H _ I h=>iG I J G #[v,H,I,r,h] hd
theorem fB{x:Str}{v:V}{u:Value}{pos:QY}(N:Gl X x)(J:X.mg x=none)(G:OD x=some u)(r:RelV v u)(L:x ≠ "__name__" := by decide)(hd:(x==("__debug__" : Str))=false:=by decide):PE X (.Name x pos) (tC v):=
 λ_ _ _ H _ I h=>jk I N J G #[v,H,I,r,h] L hd
variable{a b:Ot}{ta tb:TE}{pos:QY}
def PC(X:Cx)(J:W4)(a b:Ot)(t:TE):Prop :=
 ∀(pins:Xo)(s:kz)(σ:St)(H:Hp)(Q:VK),~~~H s->t σ H Q ->
  ↑(eval a X.env) (λv G=>↑(eval b X.env) (λu I=>↑(PF J v u) (EP X pins σ Q) X.xe I) X.xe G) X.xe s
inductive NM(t:TE)(Q:Bool->Hp->Prop)(x:V)(H1:Hp):Prop
 |mk(c:_)(_:x=.bl c)(_:Q c H1)
def tB(t:TE):TT:=λσ H Q=>t σ H λx H1=>NM t Q x H1
theorem wo{G:W4}{t:TE}(h:PC X G a b t)(h1:Q6 G b=false:=by first|show nobehind _ ar ar|rfl):PE X (.Compare a [G] [b] pos) t:=λpins s σ H Q I J=>wpAny_Compare1 (h pins s σ H Q I J) h1
theorem iZ{G:W4}{t:TE}(h:PC X G a b t)(h1:Q6 G b=false:=by first|show nobehind _ ar ar|rfl):PT X (.Compare a [G] [b] pos) (tB t):=by
 intros Q I J;show Us (bW (h pins s σ H _ I J) λv S h1=>bW h1 λu s2 h2=>bW h2 λc s3 R=>?_) h1;let#[x,H1,O,N,L]:=R;let#[d,rfl,q]:=L;cases N;show Pz #[H1,O,q]
theorem gu{e:Ot}{t:TE}(h:PE X e t)(S:∀G,isTrue e X.env G=(do let v <-G;SW e.pos;Rg [v] (truthy v)):=by intro _;rfl):PT X e (tB t):=by
 intros Q I J;show isTrue_plain (bW (h pins s σ H _ I J) λv U O=>?_) (S _);let#[x,H1,R,N,L]:=O;let#[d,rfl,q]:=L;cases N;show Pz #[H1,R,q]
variable{tA tB':TT}{rest:List Ot}
def Nb(t u:TT):TT:=λσ H Q=>t σ H λc H1=>if c=true then u σ H1 Q else Q false H1
def N4(t u:TT):TT:=λσ H Q=>t σ H λc H1=>if c=true then Q true H1 else u σ H1 Q
def MW(t:TT):TT:=λσ H Q=>t σ H λc H1=>Q (!c) H1
theorem yI(G:PT X a tA):PW X (.BoolOp .And [a] pos) tA:=by
 intro J pins s σ H Q I h;show isTrue_and (bW (G pins s σ H Q I h) λc L e=>?_);cases c with
 |true=>show isTrue_and_nil e
 |false=>show e
theorem gO(G:PT X a tA):PW X (.BoolOp .Or [a] pos) tA:=by
 intro J pins s σ H Q I h;show isTrue_or (bW (G pins s σ H Q I h) λc L e=>?_);cases c with
 |false=>show isTrue_or_nil e
 |true=>show e
theorem BW(R:PT X a tA)(L:PW X (.BoolOp .And (b::rest) pos) tB'):PW X (.BoolOp .And (a::b::rest) pos) (Nb tA tB'):=by
 intro S pins s σ H Q I h;show isTrue_and (bW (R pins s σ H _ I h) λc N O=>?_);let#[H1,J,G]:=O;cases c with
 |true=>show L S pins N σ H1 Q J G
 |false=>show#[H1,J,G]
theorem ie(R:PT X a tA)(L:PW X (.BoolOp .Or (b::rest) pos) tB'):PW X (.BoolOp .Or (a::b::rest) pos) (N4 tA tB'):=by
 intro S pins s σ H Q I h;show isTrue_or (bW (R pins s σ H _ I h) λc N O=>?_);let#[H1,J,G]:=O;cases c with
 |true=>show#[H1,J,G]
 |false=>show L S pins N σ H1 Q J G
theorem sG(G:PT X a tA):PT X (.UnaryOp .Not a pos) (MW tA):=by
 intros Q I h;show isTrue_not (G pins s σ H (λc H1=>Q (!c) H1) I h)
inductive Cu(ta tb:TE)(σ:St)(Q:VK)(x:V)(H1:Hp):Prop
 |mk(c:_)(_:x=.bl c)(_:if c=true then tb σ H1 Q else Q (.bl false) H1)
def Kz(ta tb:TE):TE:=λσ H Q=>ta σ H λx H1=>Cu ta tb σ Q x H1
inductive F7(ta tb:TE)(σ:St)(Q:VK)(x:V)(H1:Hp):Prop
 |mk(c:_)(_:x=.bl c)(_:if c=true then Q (.bl true) H1 else tb σ H1 Q)
def Ms(ta tb:TE):TE:=λσ H Q=>ta σ H λx H1=>F7 ta tb σ Q x H1
inductive DW(ta:TE)(Q:VK)(x:V)(H1:Hp):Prop
 |mk(c:_)(_:x=.bl c)(_:Q (.bl (!c)) H1)
def JV(ta:TE):TE:=λσ H Q=>ta σ H λx H1=>DW ta Q x H1
theorem Bz{op}{t:TE}(h:PE X a t):PE X (.BoolOp op [a] pos) t:=λpins s σ H Q I G=>BoolOp_one (h pins s σ H Q I G)
theorem IP(R:PE X a ta)(L:PE X (.BoolOp .And (b::rest) pos) tb):PE X (.BoolOp .And (a::b::rest) pos) (Kz ta tb):=by
 intros Q I h;show BoolOp_and (bW (R pins s σ H _ I h) λv N S=>?_);let#[x,H1,J,O,G]:=S;let#[c,rfl,G]:=G;cases O;show Pz ?_;cases c with
 |true=>show L pins N σ H1 Q J G
 |false=>show#[.bl false,H1,J,rfl,G]
theorem JK(R:PE X a ta)(L:PE X (.BoolOp .Or (b::rest) pos) tb):PE X (.BoolOp .Or (a::b::rest) pos) (Ms ta tb):=by
 intros Q I h;show BoolOp_or (bW (R pins s σ H _ I h) λv N S=>?_);let#[x,H1,J,O,G]:=S;let#[c,rfl,G]:=G;cases O;show Pz ?_;cases c with
 |false=>show L pins N σ H1 Q J G
 |true=>show#[.bl true,H1,J,rfl,G]
theorem HN(L:PE X a ta):PE X (.UnaryOp .Not a pos) (JV ta):=by
 intros Q I h;show UnaryOp_ (bW (L pins s σ H _ I h) λv R O=>?_);let#[x,H1,N,J,G]:=O;let#[c,rfl,G]:=G;cases J;show not_of (Pz #[.bl (!c),H1,N,rfl,G])
end
def bw(K:HC)(H:Hp)(a:Addr)(xs:List V):Prop :=
 Rd H a (.lst xs) \/
  ∃(o:Obj)(its:Xt)(n:Nat),K.lookup a=some o/\o.cls=.type "list" /\ o.dict=none/\o.data=.seq its n/\its.size<=sizeLine/\Vals xs its.toList
def bP(K:HC)(H:Hp)(a:Addr)(xs:List V):Prop :=
 Rd H a (.tup xs) \/
  ∃(o:Obj)(its:Xt)(n:Nat),K.lookup a=some o/\o.cls=.type "tuple" /\ o.data=.seq its n/\its.size<=sizeLine/\Vals xs its.toList
def LY:Value->Option V
 |.none=>some .non
 |.bool b=>some (.bl b)
 |.int i _=>some (.int i)
 |.str x _=>some (.str x)
 |.bytes b _=>some (.byt b)
 |.float b _=>some (.flt b)
 |.ref a=>some (.ref a)
 |.type n=>some (.ty n)
 |_=>none
theorem RelV.abs{x:V}{u:Value}(r:RelV x u):LY u=some x:=by
 cases x with
 |non=>cases r;rfl
 |bl _=>cases r;rfl
 |int _=>let#[t,rfl]:=r;rfl
 |str _=>let#[t,rfl]:=r;rfl
 |byt _=>let#[t,rfl]:=r;rfl
 |flt _=>let#[t,rfl]:=r;rfl
 |ref _=>cases r;rfl
 |ty _=>cases r;rfl
theorem RelV.inj{x y:V}{u:Value}(r:RelV x u)(q:RelV y u):x=y:=rn (r.abs.symm.trans q.abs)
theorem Vals.inj:∀{xs ys:List V}{us:Xu},Vals xs us->Vals ys us->xs=ys
 |_,_,_,.nil,.nil=>rfl
 |_,_,_,.cons r t,.cons G t'=>by rw[r.inj G,Vals.inj t t']
section
variable{X:Cx}{pins:Xo}{σ:St}{H:Hp}{s:kz}{a:Addr}{xs ys:List V}
theorem bw.of{K:HC}(h:H a=some (.lst xs)):bw K H a xs:=.inl (.inl h)
theorem bP.of{K:HC}(h:H a=some (.tup xs)):bP K H a xs:=.inl (.inl h)
theorem Inv.list(I: ~~~H s)(h:bw X.K H a xs):∃its:List Value,Vals xs its/\PlainL s.heap a its.toArray/\xs.length<=sizeLine:=by
 rcases h with h|⟨o,its,n,G,J,hd,hs,L,r⟩
 .let#[z,its,n,r,e]:=h.ok I.bK;show#[its,r,#[_,n,e,1,rfl],z]
 .show#[its.toList,r,#[o,n,I.jP a o G,J,hd,by simpa using hs],?_];let e:=r.length;simp only[PV]at e;omega
theorem Inv.tuple(I: ~~~H s)(h:bP X.K H a xs):∃its:List Value,Vals xs its/\WL s.heap a its.toArray/\xs.length<=sizeLine:=by
 rcases h with h|⟨o,its,n,G,J,hs,L,r⟩
 .let#[z,its,r,p]:=h.ok I.bK;show#[its,r,p,z]
 .show#[its.toList,r,#[o,I.jP a o G,J,n,by simpa using hs],?_];let e:=r.length;simp only[PV]at e;omega
theorem Inv.ky(I: ~~~H s)(h:bw X.K H a xs)(h':bw X.K H a ys):xs=ys:=by
 let#[its,r,#[o,n,e,_,_,d],_]:=I.list h;let#[its',J,#[o',N,G,_,_,d'],_]:=I.list h';rwa[e]at G;rw[d]at d';injection d' with L _;have:its=its':=‹congrArg toList L›;subst this;show r.inj J
theorem Inv.zx(I: ~~~H s)(h:bP X.K H a xs)(h':bP X.K H a ys):xs=ys:=by
 let#[its,r,#[o,e,_,n,d],_]:=I.tuple h;let#[its',J,#[o',G,_,N,d'],_]:=I.tuple h';rwa[e]at G;rw[d]at d';injection d' with L _;have:its=its':=‹congrArg toList L›;subst this;show r.inj J
end
abbrev Cx.gN(X:Cx)(E:Xp):Cx:={ X with xe:=E }
abbrev Cx.nA(X:Cx):Cx:=X.gN λ_ _=>False
theorem Cx.Ok.gN{X:Cx}(ok:X.Ok)(E:Xp):(X.gN E).Ok :=
 #[ok.mod,ok.kind,ok.glob,ok.blt,ok.above,ok.inj,ok.has,ok.Ie,ok.hd,ok.frames,ok.Jw,ok.LI,ok.bs,ok.Bc,ok.x9,ok.wW,ok.jY,ok.EY]
theorem Cx.Ok.ck{X:Cx}{E:Xp}(ok:(X.gN E).Ok):X.Ok :=
 #[ok.mod,ok.kind,ok.glob,ok.blt,ok.above,ok.inj,ok.has,ok.Ie,ok.hd,ok.frames,ok.Jw,ok.LI,ok.bs,ok.Bc,ok.x9,ok.wW,ok.jY,ok.EY]
section
variable{X:Cx}{pins:Xo}{σ:St}{H:Hp}{s:kz}{E:Xp}
theorem Inv.gN(I: ~~~H s)(E:Xp):Inv (X.gN E) pins σ H s:=#[I.ok.gN E,I.os,I.bare,I.base,I.loc,I.cell,I.free,I.f9,I.pin,I.bK,I.len]
theorem Inv.ck(I:Inv (X.gN E) pins σ H s): ~~~H s:=#[I.ok.ck,I.os,I.bare,I.base,I.loc,I.cell,I.free,I.f9,I.pin,I.bK,I.len]
theorem SP.ck{D:Ends}{f:Flow}{s':kz}(h:SP (X.gN E) pins D f s'):SP X pins D f s':=by
 cases f with
 |next=>let#[G,H',I,q]:=h;show#[G,H',I.ck,q]
 |brk=>let#[G,H',I,q]:=h;show#[G,H',I.ck,q]
 |cont=>let#[G,H',I,q]:=h;show#[G,H',I.ck,q]
 |ret u=>let#[v,G,H',I,r,q]:=h;show#[v,G,H',I.ck,r,q]
theorem vo.nA{st:List Ow}{t:TS}(h:vo X.nA st t):vo X st t:=λpins s σ H D I G =>
 OI (h pins s σ H D (I.gN _) G) (λ_ _ q=>q.ck) λ_ _ z=>Pr z
variable{st:Ow}{rest:List Ow}{t u:TS}{e:Ot}{te:TE}{pos:QY}
def mJ:TS:=λD σ H=>D.nx σ H
def cy(t u:TS):TS:=λD σ H=>t { D with nx:=u D } σ H
theorem aI:vo X [] mJ:=λ_ _ σ H _ I h=>P7 #[σ,H,I,h]
theorem aj(h1:PS X st t)(h2:vo X rest u):vo X (st::rest) (cy t u):=by
 intros D I h;show RD (bW (h1 pins s σ H { D with nx:=u D } I h) λf G q=>?_);cases f with
 |next =>
  let#[L,H',J,q]:=q;show h2 pins G L H' D J q
 |ret v=>show q
 |brk=>show q
 |cont=>show q
theorem ao(h1:PS X st t):vo X [st] t:=by
 intros D I h;show RD (bW (h1 pins s σ H D I h) λf G q=>?_);cases f with
 |next=>show P7 q
 |ret v=>show q
 |brk=>show q
 |cont=>show q
theorem Inv.quiet{pins:Xo}{σ:St}{H:Hp}{s:kz}(I: ~~~H s):interactive X.env=false:=by simp[interactive,I.ok.kind]
def CV(te:TE):TS:=λD σ H=>te σ H λ_ H1=>D.nx σ H1
theorem aO(N:PE X e te)(hs:Ri e none pos.line X.env=pure false:=by rfl):PS X (.Expr e pos) (CV te):=by
 intros D I h;show wpAny_Expr_any (bW (N pins s σ H _ I h) λv O J=>by let#[x,H1,L,R,G]:=J;show#[σ,H1,L,G]) I.quiet hs
def zW(te:TE):TS:=λD σ H=>te σ H D.rt
theorem aK(O:PE X e te):PS X (.Return (some e) pos) (zW te):=by
 intros D I h;show Ve (bW (O pins s σ H _ I h) λv R J=>by let#[x,H1,L,N,G]:=J;show#[x,σ,H1,L,N,G])
def KH:TS:=λD _ H=>D.rt .non H
theorem tQ:PS X (.Return none pos) KH:=λ_ _ σ H _ I h=>wpAny_Return_none #[.non,σ,H,I,rfl,h]
def pY(c:TT)(t u:TS):TS:=λD σ H=>c σ H λb H1=>if b=true then t D σ H1 else u D σ H1
theorem aU{c:Ot}{a b:List Ow}{tc:TT}(S:PT X c tc)(O:vo X a t)(N:vo X b u):PS X (.If c a b pos) (pY tc t u):=by
 intros D I h;show wpAny_If (bW (S pins s σ H _ I h) λd J R=>?_);let#[H1,L,G]:=R;cases d with
 |true=>show O pins J σ H1 D L G
 |false=>show N pins J σ H1 D L G
def D0:TS:=λ_ _ _=>False
theorem eX:PS X st D0:=λ_ _ _ _ _ _ h=>h.elim
theorem dh{sts:List Ow}:vo X sts D0:=λ_ _ _ _ _ _ h=>h.elim
end
abbrev TG:=V->St->Hp->(St->Hp->Prop)->Prop
abbrev Jy:=List V->St->Hp->(St->Hp->Prop)->Prop
def PG(X:Cx)(I:Ot)(t:TG):Prop :=
 ∀(pins:Xo)(s:kz)(σ:St)(H:Hp)(v:V)(u:Value)(Q:St->Hp->Prop),~~~H s->RelV v u->t v σ H Q ->
  ↑(U3 I X.env u) (λ_ s'=>∃G H',Inv X pins G H' s'/\Q G H') X.xe s
def LH(X:Cx)(ts:List Ot)(t:Jy):Prop :=
 ∀(pins:Xo)(s:kz)(σ:St)(H:Hp)(vs:List V)(us:Xu)(Q:St->Hp->Prop),~~~H s->Vals vs us->t vs σ H Q ->
  ↑(UW ((So ts X.env).map (·.2)) us) (λ_ s'=>∃G H',Inv X pins G H' s'/\Q G H') X.xe s
abbrev zV:=V->V->V->Hp->(Hp->Prop)->Prop
def FG(X:Cx)(t:zV):Prop :=
 ∀(pins:Xo)(s:kz)(σ:St)(H:Hp)(o i v:V)(ov G u:Value)(Q:Hp->Prop),~~~H s->RelV o ov->RelV i G->RelV v u->t o i v H Q ->
  ↑(WU ov G u) (λ_ s'=>∃H',~~~H' s'/\Q H') X.xe s
abbrev LR:=V->V->Hp->VK->Prop
def Nl(X:Cx)(G:Vf)(t:LR):Prop :=
 ∀(pins:Xo)(s:kz)(σ:St)(H:Hp)(x y:V)(v u:Value)(Q:VK),~~~H s->RelV x v->RelV y u->t x y H Q ->
  ↑(inplaceOp G v u) (EP X pins σ Q) X.xe s
section
variable{X:Cx}{pos:QY}
def mH(i:Nat):TG:=λv σ H Q=>Q (σ.set i (some v)) H
theorem EB{i:Nat}{x:Str}(L:X.N.Nodup)(hi:X.N[i]?=some x)(G:Loc X.env.scope x)(O:X.fn x=true\/X.env.scope.names.lookup x=some .local:=by first|show .inl rfl|show .inr rfl|assumption):PG X (.Name x pos) (mH i):=by
 intros v u Q I r h;show SY (gx I L hi G r (λs' J=>#[_,H,J,h]) O)
theorem gH(i:Nat){x:Str}(J:X.N.Nodup)(hi:X.N[i]?=some x:=by rfl)(I:Loc X.env.scope x:=by first|show .inl rfl|show .inr rfl)(G:X.fn x=true\/X.env.scope.names.lookup x=some .local:=by first|show .inl rfl|show .inr rfl|assumption):PG X (.Name x pos) (mH i):=EB J hi I G
def Nm:Jy:=λvs σ H Q=>vs=[]/\Q σ H
inductive Dz(t:TG)(u:Jy)(vs:List V)(σ:St)(H:Hp)(Q:St->Hp->Prop):Prop
 |mk (v:_) (r:_) (_:vs=v::r) (_:t v σ H λσ' H'=>u r σ' H' Q):Dz t u vs σ H Q
theorem de:LH X [] Nm:=by
 intros vs us Q I r h;let#[e,h]:=h;subst e;cases r;show Vg #[σ,H,I,h]
theorem bj{e:Ot}{es:List Ot}{t:TG}{u:Jy}(h1:PG X e t)(h2:LH X es u)
  (hs:(So (e::es) X.env).map (·.2)=U3 e X.env::(So es X.env).map (·.2):=by rfl):LH X (e::es) (Dz t u):=by
 intros vs us Q I r h;let#[v,U,N,h]:=h;subst N;cases r with
 |cons r R =>
  rw[hs];show Sq (bW (h1 pins s σ H _ _ _ I r h) λ_ L J=>?_);let#[S,H1,O,G]:=J;show h2 pins L S H1 _ _ Q O R G
inductive JG(K:HC)(n:Nat)(t:Jy)(v:V)(σ:St)(H:Hp)(Q:St->Hp->Prop):Prop
 |mk(a:_)(xs:_)(_:v=.ref a)(_:bP K H a xs)(_:xs.length=n)(_:t xs σ H Q)
theorem dU{es:List Ot}{k:Nat}{t:Jy}{n:Nat}(hc:X.calm=true)(h:LH X es t)
  (N:(So es X.env).length=n:=by rfl) (R:(So es X.env).findIdx? (·.1)=none:=by rfl):PG X (.Tuple es k pos) (JG X.K n t):=by
 intros v u Q I r G;let#[a,xs,S,O,hl,G]:=G;subst S;cases r;let#[its,J,U,hz]:=I.tuple O;show assign_Tuple_tuple (I.ok.hd hc) U (by simp[N, <-hl,J.length]) R λh' L=>?_;let Y: ~~~H { s with heap:=h' }:=I.kept (t':=s.toks) λb o e=>L b o (OR (Heap.lt_size e)) e;show h pins _ σ H xs _ Q Y ‹J› G
def Nj(to G:TE)(t:zV):TG:=λv σ H Q=>to σ H λo H1=>G σ H1 λi H2=>t o i v H2 λH3=>Q σ H3
theorem eO{o i:Ot}{to J:TE}{t:zV}(S:PE X o to)(hi:PE X i J)(hs:FG X t)
  (R:∀v,U3 (.Subscript o i pos) X.env v=(do
   let ov <-Rg [v] (eval o X.env)
   let G <-Rg [v,ov] (eval i X.env)
   SW pos
   Rg [v,ov,G] (WU ov G v)
   release [v,ov,G] []):=by intro _;rfl):PG X (.Subscript o i pos) (Nj to J t):=by
 intros v u Q I r h;rw[R];show k9 (Py (bW (S pins s σ H _ I h) λov s1 ac=>?_));let#[x,H1,Y,N,q1]:=ac;show k9 (Py (bW (hi pins s1 σ H1 _ Y q1) λG s2 ab=>?_));let#[y,H2,I2,r2,O]:=ab;show k9 (RM (k9 (Py (bW (hs pins s2 σ H2 x y v ov G u _ I2 N r2 r O) λ_ s3 U=>?_))));let#[H3,I3,L]:=U;show wpAny_release #[σ,H3,I3,L]
def zN(te:TE)(g:TG):TS:=λD σ H=>te σ H λx H1=>g x σ H1 D.nx
theorem cU{tg e:Ot}{te:TE}{g:TG}(U:PE X e te)(N:PG X tg g)(hs:swapsWithSole [tg] e pos.line X.env=pure false:=by rfl)(G:swappedStores [tg] e X.env=pure none:=by rfl)
  (h1:(So [tg] X.env).map (·.2)=[U3 tg X.env]:=by rfl):PS X (.Assign [tg] e pos) (zN te g):=by
 intros D I h;show wpAny_Assign_stores (bW (U pins s σ H _ I h) λv L S=>?_) hs G;let#[x,H1,R,O,J]:=S;rw[h1];show bW (N pins L σ H1 x v _ R O J) λ_ s2 q=>q
theorem Jm{i:Nat}{x:Str}{e:Ot}{te:TE}{pos':QY}(U:X.N.Nodup)(hi:X.N[i]?=some x)(J:Loc X.env.scope x)(he:PE X e te)(hs:Ri e (some (.Name x pos')) pos.line X.env=pure false:=by rfl)(Y:X.fn x=true\/X.env.scope.names.lookup x=some .local:=by first|show .inl rfl|show .inr rfl|assumption) :
  PS X (.Assign [.Name x pos'] e pos) (zN te (mH i)):=by
 intros D I h;show Vh (bW (he pins s σ H _ I h) λv s1 R=>?_) hs;let#[y,H1,S,L,G]:=R;show gx S U hi J L (λs2 O=>#[_,H1,O,G]) Y
theorem dt(i:Nat){x:Str}{e:Ot}{te:TE}{pos':QY}(I:X.N.Nodup)(L:PE X e te)(hi:X.N[i]?=some x:=by rfl)(G:Loc X.env.scope x:=by first|show .inl rfl|show .inr rfl)(hs:Ri e (some (.Name x pos')) pos.line X.env=pure false:=by rfl)(J:X.fn x=true\/X.env.scope.names.lookup x=some .local:=by first|show .inl rfl|show .inr rfl|assumption):PS X (.Assign [.Name x pos'] e pos) (zN te (mH i)):=Jm I hi G L hs J
def Mm(i j:Nat)(ta:TA):TS:=λD σ H=>ta σ H λvs H1=>FH λv w=>vs=[v,w]/\D.nx ((σ.set i (some v)).set j (some w)) H1
theorem Ih{i j:Nat}{x y:Str}{a b:Ot}{ta:TA}{px O pt:QY}{kt k2 pt2}(hc:X.calm=true)(hN:X.N.Nodup)(hi:X.N[i]?=some x)(hj:X.N[j]?=some y)(am:i≠j)
  (S:X.env.scope.names.lookup x=some .local) (U:X.env.scope.names.lookup y=some .local) (ha:PA X [a,b] ta)
  (hw:swappedStores [.Tuple [.Name x px,.Name y O] kt pt] (.Tuple [a,b] k2 pt2) X.env=pure (some [x,y]))
  (hs:swapsWithSole [.Tuple [.Name x px,.Name y O] kt pt] (.Tuple [a,b] k2 pt2) pos.line X.env=pure false:=by rfl) :
  PS X (.Assign [.Tuple [.Name x px,.Name y O] kt pt] (.Tuple [a,b] k2 pt2) pos) (Mm i j ta):=by
 intros D I h;rw[exec_Assign_arm];show k9 (RM ?_);rw[hs];show k9 (wpAny_pure ?_);rw[Xk ar];show k9 (Tuple_ (bW (ha _ pins s σ H _ I h) λus J ah=>?_));let#[vs,H1,I1,r1,R]:=ah;let#[v,w,e1,R]:=R;subst e1;obtain⟨G,L,rfl,rv,ab⟩:∃G L,us=[G,L]/\RelV v G/\RelV w L:=by
  cases r1 with
  |cons p q =>
   cases q with
   |cons p' q' =>
    cases q';show#[_,0,p,p']
 show Qp ?_ dZ;let I2: ~~~H1 { J with heap:=J.heap.push { cls:=.type "tuple",data:=.seq [G,L].toArray } }:=I1.kept (t':=J.toks) λb o e=>Heap.get?_push_of_some _ e;rw[hw];show k9 (wpAny_pure ?_);change ↑(do rule "assign.swapped-stores";let items <-unpackItems (.ref J⁻¹) 2 none;UW [λv=>Vi X.env y v,λv=>Vi X.env x v] items.reverse;pure Flow.next) _ _ _;show k9 (QZ (k9 (unpackItems_tuple (items := ([G,L].toArray)) (I.ok.hd hc) (VB J.heap _) λh' ac=>?_)));let I3:=I2.kept (h':=h') (t':=J.toks) λb o e=>ac b o (OR (Heap.lt_size e)) e;change wpAny _ _ (UW [λv=>Vi X.env y v,λv=>Vi X.env x v] [L,G]>>=λ_=>pure Flow.next) _ _ _;show k9 (Sq (wpAny_bindName (gx I3 hN hj (.inl U) ab (λs2 I4=>?_) (.inr U))));show Sq (wpAny_bindName (gx I4 hN hi (.inl S) rv (λs3 Y=>Vg (wpAny_pure ?_)) (.inr S)));rw[List.set_comm _ _ (qs am)]at Y;show#[_,H1,Y,R]
def Lj(to I te:TE)(J:V->V->Hp->VK->Prop)(O:LR)(N:zV):TS:=λD σ H=>to σ H λo H1=>I σ H1 λi H2=>J o i H2 λx H3=>te σ H3 λy H4=>O x y H4 λz L=>N o i z L λG=>D.nx σ G
def JC(X:Cx)(t:V->V->Hp->VK->Prop):Prop :=
 ∀(pins:Xo)(s:kz)(σ:St)(H:Hp)(o i:V)(ov G:Value)(Q:VK),~~~H s->RelV o ov->RelV i G->t o i H Q ->
  ↑(RN ov G) (EP X pins σ Q) X.xe s
theorem yw{o i e:Ot}{to L te:TE}{N:V->V->Hp->VK->Prop}{ab:LR}{Y:zV}{U:Vf}{tpos:QY}(ho:PE X o to)(hi:PE X i L)(hg:JC X N)(he:PE X e te)(hp:Nl X U ab)(hs:FG X Y)
  (ha:∀ov G new,augStore i ov G new=(do Rg [new,ov,G] (WU ov G new);release [new,ov,G] [];pure .next):=by intros;rfl):PS X (.AugAssign (.Subscript o i tpos) U e pos) (Lj to L te N ab Y):=by
 intros D I h;show wpAny_AugAssign_SubscriptAny (bW (ho pins s σ H _ I h) λov s1 ac=>?_) ha;let#[S,H1,I1,J,q1]:=ac;show bW (hi pins s1 σ H1 _ I1 q1) λG s2 ah=>?_;let#[R,H2,I2,O,q2]:=ah;show bW (hg pins s2 σ H2 S R ov G _ I2 J O q2) λas s3 aB=>?_;let#[x3,H3,I3,r3,q3]:=aB;show bW (he pins s3 σ H3 _ I3 q3) λv s4 ap=>?_;let#[x4,H4,I4,r4,q4]:=ap;show bW (hp pins s4 σ H4 x3 x4 as v _ I4 r3 r4 q4) λnew s5 aT=>?_;let#[x5,H5,I5,r5,q5]:=aT;show bW (hs pins s5 σ H5 S R x5 ov G new _ I5 J O r5 q5) λ_ s6 am=>by let#[H6,I6,q6]:=am;show#[σ,H6,I6,q6]
def NO(f:Int->Int->Int):LR:=λx y H Q=>∃i j,x=.int i/\y=.int j/\Q (.int (f i j)) H
theorem Jp:Nl X .Add (NO λi j=>i+j):=by
 intros x y v u Q I L G h;let#[i,j,N,J,q]:=h;subst N;subst J;let#[t,rfl]:=L;let#[t',rfl]:=G;show V2 #[.int _,H,I.tok _,#[0],q]
theorem Ij:Nl X .Sub (NO λi j=>i-j):=by
 intros x y v u Q I L G h;let#[i,j,N,J,q]:=h;subst N;subst J;let#[t,rfl]:=L;let#[t',rfl]:=G;show isub_int #[.int _,H,I.tok _,#[0],q]
def Jo(c:TT)(tb:TS):TS:=λD σ H=>∃W:Nat->St->Hp->Prop,(∃m,W m σ H)/\∀m σ H,W m σ H ->
 c σ H λb H1=>if b=true then ∃N:St->Hp->Prop,(∀G H',N G H'->∃I,I<m/\W I G H')/\tb { D with nx:=N,ct:=N,bk:=D.nx } σ H1 else D.nx σ H1
theorem vG{c:Ot}{body:List Ow}{tc:TT}{tb:TS}(hp:VC (model X.prog X.w) X.A X.env X.xe)(hc:PT X c tc)(hb:vo X body tb):PS X (.While c body [] pos) (Jo tc tb):=by
 intros D I h;let#[W,#[m0,w0],ah]:=h;show wpAny_While (codeAny_whileLoop (λn s'=>∃ab H',Inv X pins ab H' s'/\W n ab H') ?_ m0 #[σ,H,I,w0]);rintro n s1 ⟨O,H1,I1,w1⟩;show Pa hp (bW (hc pins s1 O H1 _ I1 (ah n O H1 w1)) λb s2 ac=>?_);let#[H2,I2,L]:=ac;cases b with
 |true =>
  let#[N,hN,L]:=L;rw[Xl rfl];show Pa hp (bW (hb pins s2 O H2 _ I2 L) λf s3 J=>?_);cases f with
  |next =>
   let#[G,H3,U,R]:=J;let#[Y,hm,S]:=hN G H3 R;show#[Y,hm,G,H3,U,S]
  |cont =>
   let#[G,H3,U,R]:=J;let#[Y,hm,S]:=hN G H3 R;show#[Y,hm,G,H3,U,S]
  |brk=>show J
  |ret v=>show J
 |false =>
  rw[Xk By];show P7 #[O,H2,I2,L]
end
structure It where
 go:Nat->Hp->Prop
 En:Nat->Hp->V->Hp->Prop
 stop:Nat->Hp->Prop
def gz(X:Cx)(pins:Xo)(H:Hp)(b:Addr):Prop :=
 H b=none/\b≠X.env.locals/\b∉X.fs/\(b∈X.ex\/X.s₀.heap.objs.size<=b)/\(∀x c,X.env.cells.lookup x=some c->c≠b)/\∀p∈X.pn++pins,p.1≠b
theorem Inv.kT{X:Cx}{pins:Xo}{σ:St}{H H':Hp}{s:kz}{b:Addr}(I: ~~~H s)(G:s⁻¹<=b)(J:H' b=none):gz X pins H' b:=by
 show#[J,Vj (Oq I.lt G),I.J9 G,.inr (L1 I.sz G),λx c e z=>?_,λp L z=>?_]
 .let#[v,q]:=I.cell x c e;show absurd (Oq q.lt (by rw[z];show G)) (Q2 _)
 .show absurd (Oq (Heap.lt_size (I.pin p L).1) (by rw[z];show G)) (Q2 _)
structure Turn(P:se)(w:G1)(K:HC)(tg:Ot)(J:It)(fp:List Addr)(it:Addr)(tn:Nat->Heap->Prop):Prop where
 mem:it∈fp
 obj:∀i h,tn i h->∀b∈fp,∃o,h.get? b=some o/\∀v,o.data≠.cell v
 keep:∀i h h',tn i h->(∀b∈fp,∀o,h.get? b=some o->h'.get? b=some o)->tn i h'
 item:∀(X:Cx),X.prog=P->X.w=w->X.K=K->X.calm=true->∀(i:Nat)(pins:Xo)(s:kz)(σ:St)(H:Hp)(E:Xp),~~~H s->(∀b∈fp,gz X pins H b)->tn i s.heap->J.go i H ->
  wpAny (model P w) X.A (pyNext (.ref it)) (λr s1=>∃u,r=some u /\
   wpAny (model P w) X.A (Uq tg (.ref it) u) (λ_ s2=>∃x H',~~~H' s2/\RelV x u/\J.En i H x H'/\tn (i+1) s2.heap/\∀b∈fp,H' b=none) E s1) E s
 done:∀(X:Cx),X.prog=P->X.w=w->X.K=K->X.calm=true->∀(i:Nat)(pins:Xo)(s:kz)(σ:St)(H:Hp)(E:Xp),~~~H s->(∀b∈fp,gz X pins H b)->tn i s.heap->J.stop i H ->
  wpAny (model P w) X.A (pyNext (.ref it)) (λr s1=>r=none/\~~~H s1) E s
 self:∀(A:L7)(i:Nat)(s:kz)(Q:Xp)(E:Xp),tn i s.heap->Q (.ref it) s->wpAny (model P w) A (pyIter (.ref it)) Q E s
abbrev TI:=St->Hp->(It->Hp->Prop)->Prop
def NJ(X:Cx)(pins:Xo)(σ:St)(tg:Ot)(R:It->Hp->Prop)(I:Value)(s2:kz):Prop :=
 ∃(it:Addr)(fp:List Addr)(G:Nat->Heap->Prop)(J:It)(H':Hp),I=.ref it/\~~~H' s2/\Turn X.prog X.w X.K tg J fp it G/\G 0 s2.heap/\(∀b∈fp,gz X pins H' b)/\R J H'
def PI(X:Cx)(tg iter:Ot)(wi:TI):Prop :=
 ∀(pins:Xo)(s:kz)(σ:St)(H:Hp)(R:It->Hp->Prop),~~~H s->wi σ H R ->
  ↑(eval iter X.env) (λv G=>↑(pyIter v) (NJ X pins σ tg R) X.xe G) X.xe s
theorem rH{M:SV}{A:L7}{E:Xp}{s:kz}{tg:Ot}{it:Addr}{u:Value}{o:Obj}{n:String}{vs:Xt}{Q:Unit->kz->Prop}(J:s.heap.get? it=some o)(L:o.cls=.type n)(hd:o.data=.fields vs)
  (I:["enumerate","zip","dict_itemiterator","dict_reverseitemiterator","odict_iterator","itertools.zip_longest","itertools.pairwise"].contains n=false) (G:Q () s):wpAny M A (Uq tg (.ref it) u) Q E s:=by
 unfold Uq;cases tg<;>first
  |show wpAny_pure G
  |(cases u<;>first
    |show wpAny_pure G
    |(show k9 (wpAny_load J ?_)
      rw[L,hd];change wpAny M A (if (["enumerate","zip","dict_itemiterator","dict_reverseitemiterator","odict_iterator","itertools.zip_longest","itertools.pairwise"].contains n&&vs[0]?==some (rawInt _))=true then _ else _) Q E s;rw[Xk (by intro h;rwa[I,Bool.false_and]at h)];show wpAny_pure G))
def Em(K:HC)(a:Addr):It :=
 #[λi H=>∃xs x,bw K H a xs/\xs[i]?=some x,λi H x H'=>H'=H/\∀xs,bw K H a xs->xs[i]?=some x,λi H=>∃xs,bw K H a xs/\xs.length<=i]
def LN(K:HC)(a:Addr):It :=
 #[λi H=>∃xs x,bP K H a xs/\xs[i]?=some x,λi H x H'=>H'=H/\∀xs,bP K H a xs->xs[i]?=some x,λi H=>∃xs,bP K H a xs/\xs.length<=i]
def Fz(lo:Int)(n:Nat):It:=#[λi _=>i<n,λi H x H'=>H'=H/\x=.int (lo+i),λi _=>n<=i]
theorem zR{P:se}{w:G1}{K:HC}{tg:Ot}(a it:Addr):Turn P w K tg (Em K a) [it] it (λi h=>h.IsListIter it a i) where
 mem:=by simp
 obj:=λi h st b G=>by
  let e:b=it:=‹G›;subst e;let#[o,e,c,d]:=st;show#[o,e,λv z=>by rwa[d]at z]
 keep:=λi h h' st k=>st.at λo e=>k it (by simp) o e
 item:=by
  intro X S O R hc i pins s σ H E I N st hg;subst S O R;let#[xs,x,L,J]:=hg;let#[its,rv,p,hz]:=I.list L;let#[u,hu,ru]:=rv.get J;let#[f0,U,f2,f3,f4,Y]:=N it (by simp);show wpAny_pyNext_list_item st p.isList (x:=u) ‹hu› λh' ab sb=>?_;let I1: ~~~H { s with heap:=h' }:=I.turned (t':=s.toks) (λb o G e=>(sb.2 b G).trans e) f0 U f3 f4 Y;let#[o,e,c,d]:=id ab;show#[u,rfl,rH (s:={ s with heap:=h' }) e c d ar #[x,H,I1,ru,#[rfl,λys hy=>by rw[I.ky hy L];show J],ab,λb G=>(N b G).1]]
 done:=by
  intro X S O R hc i pins s σ H E I N st hg;subst S O R;let#[xs,L,J]:=hg;let#[its,rv,p,hz]:=I.list L;let#[f0,U,f2,f3,f4,Y]:=N it (by simp);let hl:=rv.length;show wpAny_pyNext_list_end (I.ok.hd hc) st p.isList (by simp;show le_of_eq_of_le (id (Qz hl)) J) λh' eb=>#[rfl,I.turned (t':=s.toks) (λb o G e=>eb b o G e) f0 U f3 f4 Y]
 self:=λ_ _ _ _ _ st h=>wpAny_pyIter_listiter st h
theorem wm{P:se}{w:G1}{K:HC}{tg:Ot}(a it:Addr):Turn P w K tg (LN K a) [it] it (λi h=>h.IsTupleIter it a i) where
 mem:=by simp
 obj:=λi h st b G=>by
  let e:b=it:=‹G›;subst e;let#[o,e,c,d]:=st;show#[o,e,λv z=>by rwa[d]at z]
 keep:=λi h h' st k=>st.at λo e=>k it (by simp) o e
 item:=by
  intro X S O R hc i pins s σ H E I N st hg;subst S O R;let#[xs,x,L,J]:=hg;let#[its,rv,p,hz]:=I.tuple L;let#[u,hu,ru]:=rv.get J;let#[f0,U,f2,f3,f4,Y]:=N it (by simp);show wpAny_pyNext_tuple_item st (show s.heap.IsTuple a its.toArray from p) (x:=u) ‹hu› λh' ab sb=>?_;let I1: ~~~H { s with heap:=h' }:=I.turned (t':=s.toks) (λb o G e=>(sb.2 b G).trans e) f0 U f3 f4 Y;let#[o,e,c,d]:=id ab;show#[u,rfl,rH (s:={ s with heap:=h' }) e c d ar #[x,H,I1,ru,#[rfl,λys hy=>by rw[I.zx hy L];show J],ab,λb G=>(N b G).1]]
 done:=by
  intro X S O R hc i pins s σ H E I N st hg;subst S O R;let#[xs,L,J]:=hg;let#[its,rv,p,hz]:=I.tuple L;let#[f0,U,f2,f3,f4,Y]:=N it (by simp);let hl:=rv.length;show wpAny_pyNext_tuple_end (I.ok.hd hc) st (show s.heap.IsTuple a its.toArray from p) (by simp;show le_of_eq_of_le (id (Qz hl)) J) λh' eb=>#[rfl,I.turned (t':=s.toks) (λb o G e=>eb b o G e) f0 U f3 f4 Y]
 self:=λ_ _ _ _ _ st h=>wpAny_pyIter_tupleiter st h
theorem yn{P:se}{w:G1}{K:HC}{tg:Ot}(it:Addr)(lo:Int)(n:Nat):Turn P w K tg (Fz lo n) [it] it (λi h=>UA h it (lo+(i:Nat)*1) ((n:Int)-(i:Nat)) 1) where
 mem:=by simp
 obj:=λi h st b G=>by
  let e:b=it:=‹G›;subst e;show#[_,st,λv z=>by
   let z':RT _=RE v:=z;cases z']
 keep:=λi h h' st k=>k it (by simp) _ st
 item:=by
  intro X R L O hc i pins s σ H E I J st hg;subst R L O;let#[N,S,f2,f3,Y,U]:=J it (by simp);let W:=W5 (prog:=X.prog) (w:=X.w) (I.ok.hd hc) it lo 1 n;show W.item i s _ _ hg st λv h' tk hv ab kk=>?_;let#[t,rfl]:=hv;let I1: ~~~H { s with heap:=h',toks:=tk }:=I.turned (λb o G e=>kk b o ‹G› e) N S f3 Y U;show#[0,rH (s:={ s with heap:=h',toks:=tk }) (n := "range_iterator") ab rfl rfl ar #[.int (lo+i),H,I1,#[t,?_],#[1],ab,λb G=>(J b G).1]];rw[Int.mul_one]
 done:=by
  intro X R L O hc i pins s σ H E I J st hg;subst R L O;let#[N,S,f2,f3,Y,U]:=J it (by simp);show TY (I.ok.hd hc) st (by have:n<=i:=hg;omega) λh' eb=>#[rfl,I.turned (t':=s.toks) (λb o G e=>eb b o G e) N S f3 Y U]
 self:=λ_ _ _ _ _ st h=>TZ st h
section
variable{X:Cx}{tg:Ot}
def KJ(K:HC)(tl:TE):TI:=λσ H R=>tl σ H λx H1=>∃a,x=.ref a/\(∃xs,bw K H1 a xs)/\R (Em K a) H1
def Mp(K:HC)(tl:TE):TI:=λσ H R=>tl σ H λx H1=>∃a,x=.ref a/\(∃xs,bP K H1 a xs)/\R (LN K a) H1
theorem eQ{l:Ot}{tl:TE}(Y:PE X l tl):PI X tg l (KJ X.K tl):=by
 intros R I h;show bW (Y pins s σ H _ I h) λv G U=>?_;let#[x,H1,J,S,L]:=U;let#[a,e,#[xs,O],q]:=L;subst e;cases S;let#[its,rv,p,hz]:=J.list O;show S6 p.isList ?_;show#[G⁻¹,[G⁻¹],2,H1,rfl,J.kept (t':=G.toks) λb o e=>Heap.get?_push_of_some _ e,zR a _,#[_,Heap.get?_push_size _ rfl,1],λb N=>?_,q];let e:b=G⁻¹:=‹N›;subst e;show J.kT (ti _) (J.bK.fresh (ti _))
theorem Hj{l:Ot}{tl:TE}(Y:PE X l tl):PI X tg l (Mp X.K tl):=by
 intros R I h;show bW (Y pins s σ H _ I h) λv G S=>?_;let#[x,H1,J,U,L]:=S;let#[a,e,#[xs,O],q]:=L;subst e;cases U;let#[its,rv,p,hz]:=J.tuple O;show wpAny_pyIter_tuple (show G.heap.IsTuple a its.toArray from p) ?_;show#[G⁻¹,[G⁻¹],2,H1,rfl,J.kept (t':=G.toks) λb o e=>Heap.get?_push_of_some _ e,wm a _,#[_,Heap.get?_push_size _ rfl,1],λb N=>?_,q];let e:b=G⁻¹:=‹N›;subst e;show J.kT (ti _) (J.bK.fresh (ti _))
theorem uP{pins:Xo}{σ:St}{H:Hp}{s:kz}{R:It->Hp->Prop}{E:Xp}{lo hi:Int}{t u v:Xe}{tk:Nat}(I: ~~~H s)(h1 : -(2^62)<=lo)(h2:lo<2^62)(S : -(2^62)<=hi)(O:hi<2^62)
  (q:R (Fz lo (hi-lo).toNat) H):↑(pyIter (.ref s⁻¹)) (NJ X pins σ tg R) E { s with heap:=s.heap.push { cls:=.type "range",data:=.fields ([.int lo t,.int hi u,.int 1 v].toArray) },toks:=tk }:=by
 show U4 (W6 ..) (small_one h1 h2 S O) ?_;let G: ~~~H { s with heap:=s.heap.push { cls:=.type "range",data:=.fields ([.int lo t,.int hi u,.int 1 v].toArray) },toks:=tk }:=I.kept λb o e=>Heap.get?_push_of_some _ e;show#[(s.heap.push { cls:=.type "range",data:=.fields ([.int lo t,.int hi u,.int 1 v].toArray) }).objs.size,[(s.heap.push { cls:=.type "range",data:=.fields ([.int lo t,.int hi u,.int 1 v].toArray) }).objs.size],2,H,rfl,
  G.kept (t':=tk) λb o e=>Heap.get?_push_of_some _ e,yn _ lo (hi-lo).toNat,?_,λb J=>?_,q]
 .let N:lo+((0:Nat):Int)*1=lo:=(by simp);let L:(((hi-lo).toNat:Nat):Int)-((0:Nat):Int)=Builtin.Range.rangeSize lo hi 1:=(by rw[rangeSize_one];split<;>omega);change UA _ _ (lo+((0:Nat):Int)*1) ((((hi-lo).toNat:Nat):Int)-((0:Nat):Int)) 1;rw[N,L];show Heap.get?_push_size _ rfl
 .let e:b=(s.heap.push { cls:=.type "range",data:=.fields ([.int lo t,.int hi u,.int 1 v].toArray) }).objs.size:=‹J›;subst e;show G.kT (ti _) (G.bK.fresh (ti _))
def Ln(ta:TA):TI:=λσ H R=>ta σ H λvs H1=>∃j:Int,vs=[.int j] /\ -(2^62)<=j/\j<2^62/\R (Fz 0 j.toNat) H1
def Lu(ta:TA):TI:=λσ H R=>ta σ H λvs H1=>FH λ(i j:Int)=>qN (vs=[.int i,.int j]) ((-(2^62)<=i/\i<2^62 /\ -(2^62)<=j/\j<2^62)) (R (Fz i (j-i).toNat) H1)
theorem An{a:Ot}{ta:TA}{p pos:QY}(L:Gl X "range")(U:X.mg "range" = none)(S:PA X [a] ta)(hs:starEach [a] X.env=[(false,eval a X.env)]:=by rfl):PI X tg (.Call (.Name "range" p) [a] [] pos) (Ln ta):=by
 intros R I h;show Call_ (jk I L U Wa (Pf (bW (S pos pins s σ H _ I h) λus s1 J=>?_) hs rfl));let#[vs,H1,Y,N,G]:=J;let#[j,e,G,O,q]:=G;subst e;cases N with
 |cons r rr =>
  cases rr;let#[t,rfl]:=r;show call_range_1 (uP Y af af G O ‹q›)
theorem gn{a b:Ot}{ta:TA}{p pos:QY}(hg:Gl X "range")(Y:X.mg "range" = none)(U:PA X [a,b] ta)(hs:starEach [a,b] X.env=[(false,eval a X.env),(false,eval b X.env)]:=by rfl)(L:starEach [b] X.env=[(false,eval b X.env)]:=by rfl) :
  PI X tg (.Call (.Name "range" p) [a,b] [] pos) (Lu ta):=by
 intros R I h;show Call_ (jk I hg Y Wa (Pf (bW (U pos pins s σ H _ I h) λus s1 ⟨vs,H1,I1,O,G⟩=>?_) (by rw[hs,L]) (by rw[L];rfl)));let#[i,j,e,#[G,S,N,q4],q]:=G;subst e;cases O with
 |cons r J =>
  cases J with
  |cons r' J =>
   cases J;let#[t,rfl]:=r;let#[t',rfl]:=r';show call_range_2 (uP I1 G S N q4 q)
def Ko(wi:TI)(g:TG)(tb:TS):TS:=λD σ H=>wi σ H λJ H1=>∃W:Nat->Nat->St->Hp->Prop,(∃m,W 0 m σ H1)/\∀i m σ H,W i m σ H ->
 (J.stop i H/\D.nx σ H)\/(J.go i H/\∃N:St->Hp->Prop,(∀G H',N G H'->∃I,I<m/\W (i+1) I G H')/\∀x H',J.En i H x H'->g x σ H' λL H2=>tb { D with nx:=N,ct:=N,bk:=D.nx } L H2)
def lK(fp:List Addr)(h:Heap):List (Addr×Obj):=fp.filterMap λb=>(h.get? b).map λo=>(b,o)
theorem fw{fp:List Addr}{h:Heap}{b:Addr}{o:Obj}(G:b∈fp)(e:h.get? b=some o):(b,o)∈lK fp h:=Sr.mpr #[b,G,by rw[e];rfl]
theorem z7{fp:List Addr}{h:Heap}{p:Addr×Obj}(I:p∈lK fp h):p.1∈fp/\h.get? p.1=some p.2:=by
 let#[b,G,e]:=Sr.mp I;cases q:h.get? b with
 |none=>rwa[q]at e
 |some o =>
  rw[q]at e;let J:(b,o)=p:=rn e;subst J;show#[G,q]
theorem Inv.pinned{pins:Xo}{σ:St}{H:Hp}{s:kz}{fp:List Addr}(I: ~~~H s)(R:∀b∈fp,gz X pins H b)(N:∀b∈fp,∃o,s.heap.get? b=some o/\∀v,o.data≠.cell v):Inv X (pins++lK fp s.heap) σ H s :=
 I.ny λp L=>(oR.mp L).elim (λz=>I.pin p (L3 _ z)) λz=>by
  let#[G,e]:=z7 z;let#[S,O,U,_]:=R p.1 G;let#[o,J,d]:=N p.1 G;rwa[e]at J;show#[e,S,O,U,d]
theorem Inv.eR{pins pl:Xo}{σ:St}{H:Hp}{s:kz}(I:Inv X (pins++pl) σ H s): ~~~H s:=I.ny λp G=>I.pin p (L3 _ (O8 _ G))
theorem dD{iter:Ot}{body:List Ow}{wi:TI}{g:TG}{tb:TS}{pos:QY}(U:VC (model X.prog X.w) X.A X.env X.xe)(hc:X.calm=true)(hi:PI X tg iter wi)(hg:PG X tg g)(R:vo X body tb)
  (hs:∀x,QV iter X.env x=pure x:=by intro _;rfl):PS X (.For tg iter body [] pos) (Ko wi g tb):=by
 intros D I h;show WN (bW (hi pins s σ H _ I h) λv s1 h1=>bW h1 λa8 s2 h2=>?_) hs;let#[it,fp,tn,J,H2,e,I2,T,a6,f2,W,#[m0,w0],a4]:=h2;subst e;let ah:∀{H':Hp},(∀b∈fp,H' b=none)->∀b∈fp,gz X pins H' b:=λhn b R=>#[hn b R,(f2 b R).2];show UR (λn s'=>∃i ab H',Inv X pins ab H' s'/\tn i s'.heap/\(∀b∈fp,H' b=none)/\W i n ab H') ?_ m0 #[(0),σ,H2,I2,a6,λb R=>(f2 b R).1,w0];rintro n s3 ⟨i,ac,H3,I3,ap,as,w3⟩;rcases a4 i n ac H3 w3 with⟨a3,qn⟩|⟨go,N,hN,step⟩
 .show Pa U (bW (T.done X rfl rfl rfl hc i pins s3 ac H3 X.xe I3 (ah as) ap a3) λr s4 aT=>?_);let#[hr,I4]:=aT;subst hr;show P7 #[ac,H3,I4,qn]
 .show Pa U (bW (T.item X rfl rfl rfl hc i pins s3 ac H3 X.xe I3 (ah as) ap go) λr s4 a0=>?_);let#[u,hr,h4]:=a0;subst hr;show Pa U (bW h4 λ_ s5 aB=>?_);let#[x,H5,I5,r5,y5,am,a2]:=aB;let a7:=I5.pinned (ah a2) (T.obj _ _ am);show Pa U (bW (hg _ s5 ac H5 x u _ a7 r5 (step x H5 y5)) λ_ s6 a1=>?_);let#[a5,H6,I6,q6]:=a1;show Pa U (bW (R _ s6 a5 H6 _ I6 q6) λf s7 S=>?_);let again:∀{O:St}{G:Hp},Inv X (pins++lK fp s5.heap) O G s7->N O G->∃m,m<n/\∃i ab H',Inv X pins ab H' s7/\tn i s7.heap/\(∀b∈fp,H' b=none)/\W i m ab H':=λ{O G} L Y=>by
   let#[m',hm,w7]:=hN O G Y;show#[m',hm,i+1,O,G,L.eR,T.keep _ _ _ am λb R o e=>(L.pin (b,o) (L3 _ (L3 _ (fw R e)))).1,λb R=>?_,w7];let#[o,e,d]:=T.obj _ _ am b R;show(L.pin (b,o) (L3 _ (L3 _ (fw R e)))).2.1
  cases f with
  |next=>let#[O,G,L,Y]:=S;show again L Y
  |cont=>let#[O,G,L,Y]:=S;show again L Y
  |brk=>let#[O,G,L,S]:=S;show#[O,G,L.eR,S]
  |ret v=>let#[x7,O,G,L,r7,S]:=S;show#[x7,O,G,L.eR,r7,S]
end
theorem eV{K:HC}{a:Addr}{xs:List V}{g:TG}{tb:TS}{D:Ends}{σ:St}{H:Hp}(Pv:Nat->St->Hp->Prop)(O:Pv 0 σ H)(R:∀i σ H,i<=xs.length->Pv i σ H->bw K H a xs)
  (hs:∀i x σ H,xs[i]?=some x->Pv i σ H->g x σ H λJ H2=>tb { D with nx:=Pv (i+1),ct:=Pv (i+1),bk:=D.nx } J H2) (hd:∀σ H,Pv xs.length σ H->D.nx σ H) :
  ∃W:Nat->Nat->St->Hp->Prop,(∃m,W 0 m σ H)/\∀i m σ H,W i m σ H ->
   ((Em K a).stop i H/\D.nx σ H)\/((Em K a).go i H/\∃N:St->Hp->Prop,(∀I H',N I H'->∃L,L<m/\W (i+1) L I H')/\∀x H',(Em K a).En i H x H'->g x σ H' λJ H2=>tb { D with nx:=N,ct:=N,bk:=D.nx } J H2):=by
 show#[λi m σ H=>m=xs.length-i/\i<=xs.length/\Pv i σ H,#[xs.length,by simp,OB _,O],?_];rintro i m σ H ⟨rfl,hi,p⟩;let q:=R i σ H hi p;cases G:i<xs.length
 .show .inr #[#[xs,xs[i],q,by simp[G]],Pv (i+1),λI H' S=>#[xs.length-(i+1),OU (PZ xs) i G,rfl,G,S],λx H' y=>?_];let#[e,y]:=y;subst e;show hs i x σ _ (y xs q) p
 .let e:i=xs.length:=af;subst e;show .inl #[#[xs,q,ti _],hd σ H p]
theorem jD{lo:Int}{n:Nat}{g:TG}{tb:TS}{D:Ends}{σ:St}{H:Hp}(Pv:Nat->St->Hp->Prop)(O:Pv 0 σ H)
  (hs:∀i σ H,i<n->Pv i σ H->g (.int (lo+i)) σ H λJ H2=>tb { D with nx:=Pv (i+1),ct:=Pv (i+1),bk:=D.nx } J H2) (hd:∀σ H,Pv n σ H->D.nx σ H) :
  ∃W:Nat->Nat->St->Hp->Prop,(∃m,W 0 m σ H)/\∀i m σ H,W i m σ H ->
   ((Fz lo n).stop i H/\D.nx σ H)\/((Fz lo n).go i H/\∃N:St->Hp->Prop,(∀I H',N I H'->∃L,L<m/\W (i+1) L I H')/\∀x H',(Fz lo n).En i H x H'->g x σ H' λJ H2=>tb { D with nx:=N,ct:=N,bk:=D.nx } J H2):=by
 show#[λi m σ H=>m=n-i/\i<=n/\Pv i σ H,#[n,by simp,OB _,O],?_];rintro i m σ H ⟨rfl,hi,p⟩;cases G:i<n
 .show .inr #[G,Pv (i+1),λI H' R=>#[n-(i+1),OU n i G,rfl,G,R],λx H' y=>?_];let#[e,y]:=y;subst e y;show hs i σ _ G p
 .let e:i=n:=af;subst e;show .inl #[ti _,hd σ H p]
abbrev R2:=V->V->Hp->VK->Prop
def mh(X:Cx)(f:Value->Value->RZ Value)(r:R2):Prop :=
 ∀(pins:Xo)(s:kz)(σ:St)(H:Hp)(x y:V)(v u:Value)(Q:VK),~~~H s->RelV x v->RelV y u->r x y H Q ->
  ↑(f v u) (EP X pins σ Q) X.xe s
def Mi(X:Cx)(f:Value->RZ Value)(r:V->Hp->VK->Prop):Prop :=
 ∀(pins:Xo)(s:kz)(σ:St)(H:Hp)(x:V)(v:Value)(Q:VK),~~~H s->RelV x v->r x H Q ->
  ↑(f v) (EP X pins σ Q) X.xe s
def eJ(X:Cx)(f:Value)(r:List V->Hp->VK->Prop):Prop :=
 ∀(pins:Xo)(s:kz)(σ:St)(H:Hp)(xs:List V)(us:Xu)(Q:VK),~~~H s->Vals xs us->r xs H Q ->
  ↑(call f us) (EP X pins σ Q) X.xe s
def Ej(r:R2)(ta tb:TE):TE:=λσ H Q=>ta σ H λx H1=>tb σ H1 λy H2=>r x y H2 Q
def Oa(r:V->Hp->VK->Prop)(ta:TE):TE:=λσ H Q=>ta σ H λx H1=>r x H1 Q
inductive rI(C:Int->Int->Prop)(g:Int->Int->V)(x:V)(y:V)(H:Hp)(Q:VK):Prop
 |mk(i:_)(j:_)(_:x=.int i)(_:y=.int j)(_:C i j)(_:Q (g i j) H)
inductive Gv(g:Int->Int->V)(x:V)(y:V)(H:Hp)(Q:VK):Prop
 |mk(i:_)(j:_)(_:x=.int i)(_:y=.int j)(_:Q (g i j) H)
inductive rU(g:Int->V)(x:V)(H:Hp)(Q:VK):Prop
 |mk(i:_)(_:x=.int i)(_:Q (g i) H)
section
variable{X:Cx}{a b c:Ot}{ta tb tc:TE}{pos:QY}
theorem Iw(ha:PE X a ta)(L:PE X b tb){pins:Xo}{s:kz}{σ:St}{H:Hp}{R:V->V->Hp->Prop}(I: ~~~H s)
  (h:ta σ H λx H1=>tb σ H1 λy H2=>R x y H2) {Q:Xp}{f:Value->Value->RZ Value}
  (hf:∀v u s2 x y H2,~~~H2 s2->RelV x v->RelV y u->R x y H2->↑(f v u) Q X.xe s2) :
  ↑(eval a X.env) (λv Y=>↑(eval b X.env) (λu ab=>↑(f v u) Q X.xe ab) X.xe Y) X.xe s:=by
 show bW (ha pins s σ H _ I h) λv N ac=>?_;let#[x,H1,I1,O,G]:=ac;show bW (L pins N σ H1 _ I1 G) λu s2 S=>?_;let#[y,H2,I2,J,U]:=S;show hf v u s2 x y H2 I2 O J U
theorem az{G:Vf}{r:R2}(R:mh X (Q7 G) r)(N:PE X a ta)(J:PE X b tb):PE X (.BinOp a G b pos) (Ej r ta tb):=by
 intros Q I h;show wpAny_BinOp (Iw N J I h λv u s2 x y H2 S O L q=>R pins s2 σ H2 x y v u Q S O L q)
theorem JM{G:UnaryOp}{r:V->Hp->VK->Prop}(R:Mi X (unaryOp G) r)(O:PE X a ta):PE X (.UnaryOp G a pos) (Oa r ta):=by
 intros Q I h;show UnaryOp_ (bW (O pins s σ H _ I h) λv L U=>by let#[x,H1,S,N,J]:=U;show R pins L σ H1 x v Q S N J)
theorem LK{f:Value->Value->RZ Value}{C:Int->Int->Prop}{g:Int->Int->Int}
  (rule:∀(i j:Int)(t u:Xe)(s:kz)(Q:Xp)(E:Xp),C i j->Q (.int (g i j) s.toks) { s with toks:=s.toks+1 }->↑(f (.int i t) (.int j u)) Q E s) :
  mh X f (rI C λi j=>.int (g i j)):=by
 intros x y v u Q I J G h;let#[i,j,rfl,rfl,L,q]:=h;let#[t,rfl]:=J;let#[t',rfl]:=G;show rule i j t t' s _ _ L #[.int (g i j),H,I.tok _,#[0],q]
theorem JY{f:Value->Value->RZ Value}{g:Int->Int->Int}
  (rule:∀(i j:Int)(t u:Xe)(s:kz)(Q:Xp)(E:Xp),Q (.int (g i j) s.toks) { s with toks:=s.toks+1 }->↑(f (.int i t) (.int j u)) Q E s) :
  mh X f (Gv λi j=>.int (g i j)):=by
 intros x y v u Q I J G h;let#[i,j,rfl,rfl,q]:=h;let#[t,rfl]:=J;let#[t',rfl]:=G;show rule i j t t' s _ _ #[.int (g i j),H,I.tok _,#[0],q]
theorem IT{f:Value->Value->RZ Value}{g:Int->Int->Bool}
  (rule:∀(i j:Int)(t u:Xe)(s:kz)(Q:Xp)(E:Xp),Q (.bool (g i j)) s->↑(f (.int i t) (.int j u)) Q E s) :
  mh X f (Gv λi j=>.bl (g i j)):=by
 intros x y v u Q I J G h;let#[i,j,rfl,rfl,q]:=h;let#[t,rfl]:=J;let#[t',rfl]:=G;show rule i j t t' s _ _ #[.bl (g i j),H,I,rfl,q]
def Mr(i j:Int):Prop:=0<j/\j<1073741824
def MN(i j:Int):Prop:=0<=j/\j<=1000000/\i.natAbs<2^64
def BZ(i j:Int):Prop:=(-(2^64)<i/\i<2^64)\/(-(2^64)<j/\j<2^64)
theorem BZ.ok{i j:Int}(h:BZ i j):IntMulOk i j:=by
 rcases h with⟨h1,h2⟩|⟨h1,h2⟩
 .show .of_left (intBits_le_64 h1 h2)
 .show .of_right (intBits_le_64 h1 h2)
theorem bu:mh X (Q7 .Add) (Gv λi j=>.int (i+j)):=JY λ_ _ _ _ _ _ _ q=>add_int q
theorem fW:mh X (Q7 .Sub) (Gv λi j=>.int (i-j)):=JY λ_ _ _ _ _ _ _ q=>sub_int q
theorem fY:mh X (Q7 .Mult) (rI BZ λi j=>.int (i*j)):=LK λ_ _ _ _ _ _ _ G q=>mul_int q G.ok
theorem bo:mh X (Q7 .FloorDiv) (rI Mr λi j=>.int (i/j)):=LK λi j _ _ _ _ _ G q=>by
 let h1:(0:Int)<j:=G.1;let h2:j<1073741824:=G.2;show floordiv_int af (by rw[Int.fdiv_eq_ediv_of_nonneg i af];show q) (.inl (PyProof.noPylong_small af))
theorem br:mh X (Q7 .Mod) (rI (λ_ j=>0<j) λi j=>.int (i%j)):=LK λi j _ _ _ _ _ G q=>by
 let h1:(0:Int)<j:=G;show mod_int' af (by rw[Int.fmod_eq_emod_of_nonneg i af];show q)
theorem wg:mh X (Q7 .Pow) (rI MN λi j=>.int (i^j.toNat)):=LK λ_ _ _ _ _ _ _ G q=>pow_int_small G.1 G.2.1 G.2.2 q
theorem Of{f:Value->RZ Value}{g:Int->Int}
  (rule:∀(i:Int)(t:Xe)(s:kz)(Q:Xp)(E:Xp),Q (.int (g i) s.toks) { s with toks:=s.toks+1 }->↑(f (.int i t)) Q E s) :
  Mi X f (rU λi=>.int (g i)):=by
 intros x v Q I G h;let#[i,rfl,q]:=h;let#[t,rfl]:=G;show rule i t s _ _ #[.int (g i),H,I.tok _,#[0],q]
theorem Jb:Mi X (unaryOp .USub) (rU λi=>.int (-i)):=Of λ_ _ _ _ _ q=>neg_int q
end
def vD:V->V->Bool
 |.non,.non=>true|.non,.int _=>true|.int _,.non=>true|.non,.bl _=>true|.bl _,.non=>true|.non,.str _=>true|.str _,.non=>true
 |.int _,.int _=>true|.bl _,.bl _=>true|.str _,.str _=>true|.byt _,.byt _=>true
 |.int _,.str _=>true|.str _,.int _=>true|.bl _,.str _=>true|.str _,.bl _=>true
 |_,_=>false
def He:R2:=λx y H Q=>vD x y=true/\Q (.bl (decide (x=y))) H
def N6:R2:=λx y H Q=>vD x y=true/\Q (.bl (!decide (x=y))) H
theorem y6{i j:Int}:decide (V.int i=V.int j)=(i==j):=by
 rw[QN];simp
theorem Dh{i j:Bool}:decide (V.bl i=V.bl j)=(i==j):=by
 rw[QN];simp
theorem yy{i j:Str}:decide (V.str i=V.str j)=(i==j):=by
 rw[QN];simp
theorem y0{i j:Array UInt8}:decide (V.byt i=V.byt j)=(i.toList==j.toList):=by
 rw[QN];cases i;cases j;simp
section
variable{X:Cx}{a b c:Ot}{ta tb tc:TE}{pos:QY}
theorem bS{pins:Xo}{σ:St}{H:Hp}{s:kz}{Q:VK}{k G:Bool}(I: ~~~H s)(q:Q (.bl k) H)(e:k=G):EP X pins σ Q (.bool G) s:=by
 subst e;show#[.bl k,H,I,rfl,q]
theorem bH:mh X (PF .Eq) He:=by
 intros x y v u Q I J G h;let#[hs,q]:=h;cases x with
 |non =>
  cases J;cases y with
  |non=>cases G;show PySem.EqNone.eq_none_none (bS I q (by simp))
  |bl j=>cases G;show PySem.EqNone.eq_none_bool (bS I q (by simp))
  |int j=>let#[t',rfl]:=G;show PySem.EqNone.eq_none_int (bS I q (by simp))
  |str j=>let#[t',rfl]:=G;show PySem.EqNone.eq_none_str (bS I q (by simp))
  |_=>show absurd (show false=true from hs) By
 |bl i =>
  cases J;cases y with
  |non=>cases G;show PySem.EqNone.eq_bool_none (bS I q (by simp))
  |bl j=>cases G;show eq_bool (bS I q Dh)
  |str j=>let#[t',rfl]:=G;show Wz (bS I q (by simp))
  |_=>show absurd (show false=true from hs) By
 |int i =>
  let#[t,rfl]:=J;cases y with
  |non=>cases G;show PySem.EqNone.eq_int_none (bS I q (by simp))
  |int j=>let#[t',rfl]:=G;show eq_int (bS I q y6)
  |str j=>let#[t',rfl]:=G;show WD (bS I q (by simp))
  |_=>show absurd (show false=true from hs) By
 |str i =>
  let#[t,rfl]:=J;cases y with
  |non=>cases G;show PySem.EqNone.eq_str_none (bS I q (by simp))
  |bl j=>cases G;show WA (bS I q (by simp))
  |int j=>let#[t',rfl]:=G;show WE (bS I q (by simp))
  |str j=>let#[t',rfl]:=G;show eq_str (bS I q yy)
  |_=>show absurd (show false=true from hs) By
 |byt i =>
  let#[t,rfl]:=J;cases y with
  |byt j=>let#[t',rfl]:=G;show PySem.W.eq_bytes (bS I q y0)
  |_=>show absurd (show false=true from hs) By
 |_=>cases y<;>show absurd (show false=true from hs) By
theorem Du:mh X (PF .NotEq) N6:=by
 intros x y v u Q I J G h;let#[hs,q]:=h;cases x with
 |non =>
  cases J;cases y with
  |non=>cases G;show PySem.EqNone.ne_none_none (bS I q (by simp))
  |bl j=>cases G;show PySem.EqNone.ne_none_bool (bS I q (by simp))
  |int j=>let#[t',rfl]:=G;show PySem.EqNone.ne_none_int (bS I q (by simp))
  |str j=>let#[t',rfl]:=G;show PySem.EqNone.ne_none_str (bS I q (by simp))
  |_=>show absurd (show false=true from hs) By
 |bl i =>
  cases J;cases y with
  |non=>cases G;show PySem.EqNone.ne_bool_none (bS I q (by simp))
  |bl j=>cases G;show ne_bool (bS I q (congrArg not Dh))
  |str j=>let#[t',rfl]:=G;show WB (bS I q (by simp))
  |_=>show absurd (show false=true from hs) By
 |int i =>
  let#[t,rfl]:=J;cases y with
  |non=>cases G;show PySem.EqNone.ne_int_none (bS I q (by simp))
  |int j=>let#[t',rfl]:=G;show ne_int (bS I q (congrArg not y6))
  |str j=>let#[t',rfl]:=G;show WG (bS I q (by simp))
  |_=>show absurd (show false=true from hs) By
 |str i =>
  let#[t,rfl]:=J;cases y with
  |non=>cases G;show PySem.EqNone.ne_str_none (bS I q (by simp))
  |bl j=>cases G;show WC (bS I q (by simp))
  |int j=>let#[t',rfl]:=G;show WH (bS I q (by simp))
  |str j=>let#[t',rfl]:=G;show ne_str (bS I q (congrArg not yy))
  |_=>show absurd (show false=true from hs) By
 |byt i =>
  let#[t,rfl]:=J;cases y with
  |byt j=>let#[t',rfl]:=G;show PySem.W.ne_bytes (bS I q (congrArg not y0))
  |_=>show absurd (show false=true from hs) By
 |_=>cases y<;>show absurd (show false=true from hs) By
theorem fP:mh X (PF .Lt) (Gv λi j=>.bl (decide (i<j))):=IT λ_ _ _ _ _ _ _ q=>lt_int q
theorem iL:mh X (PF .Gt) (Gv λi j=>.bl (decide (j<i))):=IT λ_ _ _ _ _ _ _ q=>gt_int q
theorem JR:mh X (PF .GtE) (Gv λi j=>.bl (decide (j<=i))):=IT λ_ _ _ _ _ _ _ q=>ge_int q
theorem CL:mh X (PF .Is) (λx y H Q=>y=.non/\Q (.bl (decide (x=.non))) H):=by
 intros x y v u Q I G J h;let#[rfl,q]:=h;cases J;show is_none_gen (bS I q ?_);cases x<;>first
  |(cases G;rfl)
  |(let#[t,rfl]:=G;rfl)
theorem aG(b:Ot){G:W4}(h:G≠.In:=by decide)(h2:G≠.NotIn:=by decide):Q6 G b=false:=by
 let J:(G==CmpOp.In)=false:=by cases G<;>first|rfl|show absurd rfl h
 let I:(G==CmpOp.NotIn)=false:=by cases G<;>first|rfl|show absurd rfl h2
 cases b<;>simp[Q6,J,I]
theorem kK{G:W4}{r:R2}(S:mh X (PF G) r)(N:PE X a ta)(J:PE X b tb)(R:Q6 G b=false):PE X (.Compare a [G] [b] pos) (Ej r ta tb):=by
 intros Q I h;show wpAny_Compare1 (Iw N J I h λv u s2 x y H2 U O L q=>S pins s2 σ H2 x y v u Q U O L q) R
inductive B7(t:TE)(Q:Bool->Hp->Prop)(x:V)(H':Hp):Prop
 |mk(k:_)(_:x=.bl k)(_:Q k H')
def qg(t:TE):TT:=λσ H Q=>t σ H λx H'=>B7 t Q x H'
theorem aD{G:W4}{r:R2}(ho:mh X (PF G) r)(ha:PE X a ta)(N:PE X b tb)(hm:Q6 G b=false):PT X (.Compare a [G] [b] pos) (qg (Ej r ta tb)):=by
 intros Q I h;show Us (bW (ha pins s σ H _ I h) λv O ⟨x,H1,I1,Y,J⟩=>bW (N pins O σ H1 _ I1 J) λu s2 ⟨y,H2,I2,L,q2⟩ =>
  bW (ho pins s2 σ H2 x y v u _ I2 Y L q2) λc s3 ⟨z,H3,R,U,k,e,S⟩=>?_) hm
 subst e;cases U;show Pz #[H3,R,S]
theorem oO:(sizeLine:Nat)<2^63:=by rw[vl];decide
theorem vals1{x:V}{us:Xu}(r:Vals [x] us):∃u,us=[u]/\RelV x u:=by
 cases r with
 |cons G I=>cases I;show#[0,G]
theorem vals2{x y:V}{us:Xu}(r:Vals [x,y] us):∃u G,us=[u,G]/\RelV x u/\RelV y G:=by
 cases r with
 |cons N I =>
  cases I with
  |cons L J=>cases J;show#[_,0,N,L]
theorem zu(J:X.calm=true):eJ X (.builtin "max") (λxs H Q=>∃i j,xs=[.int i,.int j]/\Q (.int (if j>i then j else i)) H):=by
 intros xs us Q I r h;let#[i,j,rfl,q]:=h;let#[u,L,rfl,#[t,rfl],#[t',rfl]]:=vals2 r;show max_two_ints (I.ok.hd J) λh' tk k=>#[_,H,I.kept k,?_,q];cases G:j>i
 .rw[Xl G,Xl G];show#[0]
 .rw[Xk G,Xk G];show#[0]
theorem fq:eJ X (.type "int") (λxs H Q=>(∃i,xs=[.int i]/\Q (.int i) H)\/∃k,xs=[.bl k]/\Q (.int (if k then 1 else 0)) H):=by
 intros xs us Q I r h;rcases h with⟨i,rfl,q⟩|⟨k,rfl,q⟩
 .let#[u,rfl,t,rfl]:=vals1 r;show call_int_int #[.int i,H,I,#[0],q]
 .let#[u,rfl,G]:=vals1 r;cases G;show call_int_bool #[.int (if k then 1 else 0),H,I.tok _,#[0],q]
end
structure xy(h:Heap)(x dx C:Addr)(mA:Xq):Prop where
 obj:h.get? x=some (instObj C dx)
 ns:h.Ns1 dx mA
 ne:dx≠x
theorem zC{h:Heap}{dx:Addr}{mA:Xq}(n:h.Ns1 dx mA):∃od,h.get? dx=some od/\∀name,lookIn name od=some (mA name):=by
 let#[o,es,ep,L,hd,N,_,I]:=n;show#[o,L,λname=>?_];let e:=I name;unfold nsFind findBy at e;rw[<-Array.find?_toList]at e;unfold lookIn;rw[hd];dsimp only
 set_option tactic.hygienic true in split
 .rename_i y q;rw[q]at e;show congrArg some e
 .rename_i q;rw[q]at e;let a:es.toList.any (·.refKey)=false:=by
   rw[Vk];intro y G;let#[z,t,O]:=N y (Array.mem_toList_iff.mp G);simp[DictEntry.refKey,O]
  let J:¬ es.toList.any (·.refKey)=true:=(by rw[a];show By);rw[Xk J];show congrArg some e
theorem xy.look{h:Heap}{x dx C:Addr}{mA:Xq}(I:xy h x dx C mA):∃od,PySem.W.InstAt h x (instObj C dx) C (some od)/\∀name,lookIn name od=some (mA name):=
 let ⟨od,G,J⟩:=zC I.ns
 #[od,#[I.obj,1,G],J]
section
variable{prog:se}{w:G1}{A:L7}{E:Xp}{s:kz}{K:HC}{x dx C f:Addr}{mA:Xq}{name:Str}{v:Value}
theorem get_map{O:Bool}{Q:Xp}(X:K.In s.heap)(I:xy s.heap x dx C mA)(S:Wb K C name=true)(N:WO K C=true)
  (G:OQ K (.ref C) name=some none) (L:mA name=some v) (R:handedIn v=true) (h:Q v { s with toks:=s.toks+1 }) :
  wpAny (model prog w) A (getAttr (.ref x) name O) Q E s:=by
 let#[od,J,U]:=I.look;show PySem.W.get_value X J (VR S).1 (PySem.W.findObj_own N G rfl (by rw[U,L])) R h
theorem DS{pl:RZ Bool}{Q:Value×List Value->kz->Prop}(X:K.In s.heap)(I:xy s.heap x dx C mA)(G:Wb K C name=true)
  (O:OQ K (.ref C) name=some (some (.ref f))) (N:isFn K (.ref f)=true) (L:mA name=none) (h:Q (.ref f,[.ref x]) s) :
  wpAny (model prog w) A (Rj (.ref x) name pl) Q E s:=by
 let#[od,J,R]:=I.look;show PySem.W.method_fn X J (VR G).1 (VR G).2 O (beq_iff_eq.mp N) (by change(lookIn name od).map (·.isSome)=some false;rw[R,L];rfl) h
theorem Fd{ns:List Str}{Q:Unit->kz->Prop}(X:K.In s.heap)(I:xy s.heap x dx C mA)
  (hs:OQ K (.ref C) "__setattr__" = some (some (.builtin "object.__setattr__"))) (U:plainOver K C=true) (ht:takerIn K C name=some none) (R:WO K C=true)
  (N:Vc mA ns) (hsz:ns.length<=sizeLine)
  (h:∀h',xy h' x dx C (λy=>if y=name then some v else mA y)->Heap.SameBut dx s.heap h'->Q () { s with heap:=h',toks:=s.toks+2 }) :
  wpAny (model prog w) A (setAttr (.ref x) name v) Q E s:=by
 let#[od,J,hl]:=I.look;show PySem.W.set_plain X J hs (PySem.W.osa_open (s:={ s with toks:=s.toks+1 }) (r:=none) X J U ht λb=>?_);let#[cd,hc,ab]:=PySem.W.any_some R;let O:s.heap.get? x=some #[.ref C,some dx,.plain, ([].toArray)]:=I.obj;show k9 (wpAny_pure (k9 (k9 (wpAny_loadPart O (k9 (Xf (s:={ s with toks:=s.toks+1 }) (PySem.W.looks_clsIn X hc) ?_))))));rw[ab];show wpAny_pure (a:=some dx) (k9 (wpAny_pure (k9 ?_)));show wpAny_nsSet1 (s:={ s with toks:=s.toks+1 }) I.ns λh' G L=>?_;let#[oD,am,ah,S,ac,Y]:=G.count (PySem.Within.cons name v N);show k9 (wpAny_lookBehind S (by rw[ac];show pastItsLine_dict (L1 Y (by rw[K4];show Qq hsz 1))) ?_);show wpAny_pure (h _ #[(L.2 _ (qs I.ne)).trans I.obj,G,I.ne] L)
theorem BV{R:WV->kz->Prop}{vs:Xu}{G:List (Str×Value)}(X:K.In s.heap)(I:makesIn K C=true)
  (hi:OQ K (.ref C) "__init__" = some (some (.ref f))) (J:PySem.W.typeIn K (.ref f)=some (.type "function"))
  (h:RO (model prog w) (A.under (.builtin "type.__call__" #[.ref C::vs,G])) (.call (.ref f) #[.ref (s⁻¹+1)::vs,G]) (PySem.W.InitBack (s⁻¹+1) R)
   { s with heap:=(s.heap.push emptyDict).push (instObj C s⁻¹) }) :
  RO (model prog w) A (.call (.ref C) #[vs,G]) R s:=by
 let#[L,g,d,t,os]:=s;show PySem.W.make_core (PySem.W.makes_of X I) (Ss X hi) (λself=>PySem.W.bind_fn X self J) (.inl rfl) h
end
def bt(f:Str)(v:V):List (Str×V)->List (Str×V)
 | []=>[(f,v)]
 |(g,x)::r=>if g=f then(g,v)::r else(g,x)::bt f v r
theorem aJ(f g:Str)(v:V):∀fs:List (Str×V),(bt f v fs).lookup g=if g=f then some v else fs.lookup g
 | []=>by
  change Rk g [(f,v)]=_;cases h:g=f
  .let G:(g==f)=true:=beq_iff_eq.mpr h;simp only[Rk,G,Xl h]
  .let G:(g==f)=false:=beq_eq_false_iff_ne.mpr h;simp only[Rk,G,Xk h]
 |(k,x)::r=>by
  let J:=aJ f g v r;rw[show bt f v ((k,x)::r)=(if k=f then(k,v)::r else(k,x)::bt f v r)from rfl];cases I:k=f
  .rw[Xl I];cases h:g=k
   .let G:(g==k)=true:=beq_iff_eq.mpr h;simp only[Rk,G,Xl (h.trans I)]
   .let G:(g==k)=false:=beq_eq_false_iff_ne.mpr h;simp only[Rk,G,Xk (λe:g=f=>h (e.trans I.symm))]
  .rw[Xk I];cases h:g=k
   .let G:(g==k)=true:=beq_iff_eq.mpr h;simp only[Rk,G,Xk (λe:g=f=>I (h.symm.trans e))]
   .let G:(g==k)=false:=beq_eq_false_iff_ne.mpr h;simp only[Rk,G];show J
theorem mj(f:Str)(v:V):∀fs:List (Str×V),f∈(bt f v fs).map (·.1)/\∀g,g∈fs.map (·.1)->g∈(bt f v fs).map (·.1)
 | []=>#[by simp[bt],λg h=>by simp at h]
 |(k,x)::r=>by
  let#[I,J]:=mj f v r;rw[show bt f v ((k,x)::r)=(if k=f then(k,v)::r else(k,x)::bt f v r)from rfl];cases G:k=f
  .rw[Xl G];subst G;show#[by simp,λg h=>by simpa using h]
  .rw[Xk G];show#[?_,λg h=>?_]
   .rw[PM];show Ou _ I
   .rw[PM]at h ⊢;rcases BY.mp h with e|e
    .show BY.mpr (.inl e)
    .show Ou _ (J g e)
theorem mO(f:Str)(v:V):∀fs:List (Str×V),(bt f v fs).length<=fs.length+1
 | []=>by simp[bt]
 |(k,x)::r=>by
  let I:=mO f v r;rw[show bt f v ((k,x)::r)=(if k=f then(k,v)::r else(k,x)::bt f v r)from rfl];cases G:k=f
  .rw[Xl G,K4,K4];omega
  .rw[Xk G,K4,K4];show Qq I 1
theorem gP.some_of{v:V}{o:Xv}(r:gP (some v) o):∃u,o=some u/\RelV v u:=by
 cases o with
 |none=>show(show False from r).elim
 |some u=>show#[u,rfl,r]
theorem gP.none_of{o:Xv}(r:gP none o):o=none:=by
 cases o with
 |none=>rfl
 |some u=>show(show False from r).elim
theorem Ae{v:V}{u:Value}(r:RelV v u):handedIn u=true:=by
 cases v with
 |non=>cases(show u=Value.none from r);rfl
 |bl b=>cases(show u=Value.bool b from r);rfl
 |int i=>let#[t,e]:=(show ∃t,u=Value.int i t from r);cases e;rfl
 |str x=>let#[t,e]:=(show ∃t,u=Value.str x t from r);cases e;rfl
 |byt b=>let#[t,e]:=(show ∃t,u=Value.bytes b t from r);cases e;rfl
 |flt b=>let#[t,e]:=(show ∃t,u=Value.float b t from r);cases e;rfl
 |ref a=>cases(show u=Value.ref a from r);rfl
 |ty n=>cases(show u=Value.type n from r);rfl
section
variable{P:se}{w:G1}{H H':Hp}{h h':Heap}{a C dx:Addr}{fs fs':List (Str×V)}
theorem nu(G:jQ P w H h)(e:H a=some (.ins C dx fs)):∃mA,xy h a dx C mA/\(∀f,gP (fs.lookup f) (mA f))/\Vc mA (fs.map (·.1))/\fs.length<=1000/\H dx=some (.own a):=by
 let#[d,z,ne,ob,mA,n,r,q]:=(show bZ P w H h a (.ins C dx fs)from G a _ e);show#[mA,#[ob,n,ne],r,q,z,d]
end
structure qL(K:HC)(C:Addr):Prop where
 pg:Wb K C Str.empty=true
 hd:WO K C=true
 po:plainOver K C=true
 sa:OQ K (.ref C) "__setattr__" = some (some (.builtin "object.__setattr__"))
theorem qL.get{K:HC}{C:Addr}(c:qL K C)(f:Str):Wb K C f=true:=c.pg
def dC(K:HC)(C:Addr)(f:Str):Prop:=OQ K (.ref C) f=some none
theorem dC.J2{K:HC}{C:Addr}{f:Str}(n:dC K C f):takerIn K C f=some none:=by
 unfold takerIn;rw[show OQ K (.ref C) f=some none from n];rfl
structure Meth(K:HC)(C:Addr)(m:Str)(f:Addr):Prop where
 at_:OQ K (.ref C) m=some (some (.ref f))
 fn:isFn K (.ref f)=true
 kp:T8 K (.ref f)=true
section
variable{X:Cx}{pins:Xo}{σ:St}{H:Hp}{s:kz}{a C dx:Addr}{fs:List (Str×V)}{f:Str}{v:V}{A:L7}{E:Xp}
theorem oM{b:Bool}{Q:Xp}(I: ~~~H s)(e:H a=some (.ins C dx fs))(c:qL X.K C)(n:dC X.K C f)(l:fs.lookup f=some v)
  (h:∀u s',~~~H s'->RelV v u->Q u s'):wpAny (model X.prog X.w) A (getAttr (.ref a) f b) Q E s:=by
 let#[mA,O,r,_,_,_]:=nu I.bK e;let#[u,J,G]:=gP.some_of (v:=v) (o:=mA f) (by rw[<-l];show r f);show get_map I.jP O (c.get f) c.hd n J (Ae G) (h u _ (I.tok _) G)
theorem iw{m:Str}{g:Addr}{pl:RZ Bool}{Q:Value×List Value->kz->Prop}(I: ~~~H s)(e:H a=some (.ins C dx fs))(c:qL X.K C)(k:Meth X.K C m g)(l:fs.lookup m=none)
  (h:Q (.ref g,[.ref a]) s):wpAny (model X.prog X.w) A (Rj (.ref a) m pl) Q E s:=by
 let#[mA,O,r,_,_,_]:=nu I.bK e;let G:mA m=none:=gP.none_of (by rw[<-l];show r m);show DS I.jP O (c.get m) k.at_ k.fn G h
theorem qk{y:V}{u:Value}{Q:Unit->kz->Prop}(I: ~~~H s)(e:H a=some (.ins C dx fs))(c:qL X.K C)(n:dC X.K C f)(hl:fs.length<1000)(L:RelV y u)
  (h:∀s',~~~(upd H a (.ins C dx (bt f y fs))) s'->Q () s'):wpAny (model X.prog X.w) A (setAttr (.ref a) f u) Q E s:=by
 let#[mA,O,r,wi,_,J]:=nu I.bK e;let U:(fs.map (·.1)).length<=sizeLine:=(by rw[mu,vl];omega);show Fd I.jP O c.sa c.po n.J2 c.hd wi U λh' G S=>h _ ?_;let hd:∃o,h'.get? dx=some o:=let ⟨o,_,_,Y,_⟩:=G.ns;#[o,Y];show I.write (x:=a) (e:=dx) (by rw[e];show PB) (.inr J) (λb q N z=>(S.2 b N).trans z) hd ?_;show#[by rw[ai O.ne];show J,?_,O.ne,G.obj,_,G.ns,λg=>?_,λg R=>?_]
 .have:=mO f y fs;show L1 this hl
 .change gP ((bt f y fs).lookup g) (if g=f then some u else mA g);rw[aJ];cases q:g=f
  .rw[Xl q,Xl q];show L
  .rw[Xk q,Xk q];show r g
 .by_cases q:g=f
  .rw[q];show(mj f y fs).1
  .show(mj f y fs).2 g (wi g λz=>R ?_);change(if g=f then some u else mA g)=none;rw[Xk q];show z
theorem Inv.made(I: ~~~H s): ~~~(upd (upd H s⁻¹ (.own (s⁻¹+1))) (s⁻¹+1) (.ins C s⁻¹ []))
  { s with heap:=(s.heap.push emptyDict).push (instObj C s⁻¹) }:=by
 let G:(s.heap.push emptyDict).get? s⁻¹=some emptyDict:=Heap.get?_push_size s.heap rfl;let O:((s.heap.push emptyDict).push (instObj C s⁻¹)).get? (s⁻¹+1)=some (instObj C s⁻¹):=by
  have:=Heap.get?_push_size (s.heap.push emptyDict) (o:=instObj C s⁻¹) rfl
  rwa [Heap.size_push]at this
 let J:(s.heap.push emptyDict).Ns s⁻¹ (λ_=>none):=#[emptyDict, ([].toArray),_,G,rfl,(λe R=>absurd R (by simp)),λ_=>rfl];let N:=I.laid (a:=s⁻¹) (o:=.own (s⁻¹+1)) (h':=s.heap.push emptyDict) (t':=s.toks) (λb u q=>Heap.get?_push_of_some _ q) (ti _) #[_,G];show N.laid (a:=s⁻¹+1) (o:=.ins C s⁻¹ []) (t':=s.toks) (λb u q=>Heap.get?_push_of_some _ q) (Wc (Heap.size_push _ _)) ?_;let ne:s⁻¹≠s⁻¹+1:=OR (RF _);show#[by rw[ai ne,ae],OB _,ne,O,λ_=>none,(Heap.Ns1.of_empty J).at λo q=>Heap.get?_push_of_some _ q,λ_=>PB,λy L=>absurd rfl L]
theorem Fq{prog:se}{w:G1}{env:Tt}{e:Ot}{f:Str}{pos:QY}{s:kz}{Q:Xp}(I:QR e f env (eval e env)=eval e env)
  (h:wpAny (model prog w) A (eval e env) (λo G=>wpAny (model prog w) A (getAttr o f true) Q E G) E s):wpAny (model prog w) A (eval (.Attribute e f pos) env) Q E s :=
 Attribute_any_ h (by rw[arm_eval_Attribute,I])
end
inductive Gy(K:HC)(ta:TE)(f:Str)(Q:VK)(x:V)(H1:Hp):Prop
 |mk(a:_)(C:_)(dx:_)(fs:_)(v:_)(_:x=.ref a)(_:H1 a=some (.ins C dx fs))(_:qL K C)(_:dC K C f)(_:fs.lookup f=some v)(_:Q v H1)
def EM(K:HC)(ta:TE)(f:Str):TE:=λσ H Q=>ta σ H λx H1=>Gy K ta f Q x H1
def Mh(K:HC)(ta tv:TE)(f:Str):TS:=λD σ H=>tv σ H λy H1=>ta σ H1 λx H2=>Lz λa C dx fs=>Eo (x=.ref a) (H2 a=some (.ins C dx fs)) (qL K C) (dC K C f) (fs.length<1000) (D.nx σ (upd H2 a (.ins C dx (bt f y fs))))
def Ku(X:Cx)(G:Vf)(rd:V->V->Hp->VK->Prop):Prop :=
 ∀(pins:Xo)(s:kz)(σ:St)(H:Hp)(x y:V)(u v:Value)(Q:VK),~~~H s->RelV x u->RelV y v->rd x y H Q->↑(inplaceOp G u v) (EP X pins σ Q) X.xe s
def EX(K:HC)(ta tv:TE)(rd:V->V->Hp->VK->Prop)(f:Str):TS:=λD σ H=>ta σ H λx H1=>Ep λa C dx fs v=>Eo (x=.ref a) (H1 a=some (.ins C dx fs)) (qL K C) (dC K C f) (fs.lookup f=some v) (tv σ H1 λy H2=>rd v y H2 λz H3=>∃G fs',H3 a=some (.ins C G fs')/\fs'.length<1000/\D.nx σ (upd H3 a (.ins C G (bt f z fs'))))
section
variable{X:Cx}{o e value:Ot}{f:Str}{pos pos' tpos:QY}{ta tv:TE}
theorem aL(U:PE X e ta)(G:QR e f X.env (eval e X.env)=eval e X.env):PE X (.Attribute e f pos) (EM X.K ta f):=by
 intros Q I h;show Fq G (bW (U pins s σ H _ I h) λu s1 J=>?_);let#[x,H1,R,N,a,C,dx,fs,v,ex,S,c,n,l,q]:=J;subst ex;obtain rfl:u=Value.ref a:=N;show oM R S c n l λY s2 O L=>#[v,H1,O,L,q]
theorem gp(R:PE X o ta)(G:PE X value tv)(hs:Ri value (some (.Attribute o f pos')) pos.line X.env=pure false):PS X (.Assign [.Attribute o f pos'] value pos) (Mh X.K ta tv f):=by
 intros D I h;show plainObj_wpAny_Assign_Attribute (bW (G pins s σ H _ I h) λu s1 L=>?_) hs;let#[y,H1,U,J,q]:=L;show bW (R pins s1 σ H1 _ U q) λov s2 N=>?_;let#[x,H2,S,rx,a,C,dx,fs,ex,ea,c,n,l,O]:=N;subst ex;obtain rfl:ov=Value.ref a:=rx;show qk S ea c n l J λs3 Y=>#[σ,_,Y,O]
theorem zE{G:Vf}{rd:V->V->Hp->VK->Prop}(U:PE X o ta)(J:PE X value tv)(am:Ku X G rd):PS X (.AugAssign (.Attribute o f tpos) G value pos) (EX X.K ta tv rd f):=by
 intros D I h;show wpAny_AugAssign_AttributeAny (bW (U pins s σ H _ I h) λov s1 ap=>?_);let#[x,H1,I1,rx,a,C,dx,fs,v,ex,ea,c,n,l,q]:=ap;subst ex;obtain rfl:ov=Value.ref a:=rx;show oM I1 ea c n l λu s2 Y ru=>bW (J pins s2 σ H1 _ Y q) λL s3 ab=>?_;let#[y,H2,I3,N,R]:=ab;show bW (am pins s3 σ H2 v y u L _ I3 ru N R) λw4 s4 ah=>?_;let#[z,H3,I4,rz,as,fs',ac,S,q4]:=ah;show qk I4 ac c n S rz λs5 O=>#[σ,_,O,q4]
inductive Kb(x:V)(y:V)(H:Hp)(Q:VK):Prop
 |mk(i:_)(j:_)(_:x=.int i)(_:y=.int j)(_:Q (.int (i+j)) H)
theorem Jq:Ku X .Add Kb:=by
 rintro pins s σ H x y u v Q I J G ⟨i,j,rfl,rfl,q⟩;let#[t,rfl]:=(show ∃t,u=Value.int i t from J);let#[t',rfl]:=(show ∃t',v=Value.int j t' from G);show V2 #[.int (i+j),H,I.tok _,#[0],q]
variable{pins:Xo}{σ:St}{H:Hp}{s:kz}{A:L7}{E:Xp}{Q:Xp}{c:Value}{b:Bool}
inductive kO(K:HC)(H:Hp):V->Value->Prop where
 |non:kO K H .non (.type "NoneType")
 |bl(x:Bool):kO K H (.bl x) (.type "bool")
 |int(i:Int):kO K H (.int i) (.type "int")
 |str(x:Str):kO K H (.str x) (.type "str")
 |flt(x:UInt64):kO K H (.flt x) (.type "float")
 |lst {a:Addr}{xs:List V}(e:H a=some (.lst xs)):kO K H (.ref a) (.type "list")
 |cW {a:Addr}{o:Obj}{xs:List V}(e:H a=some (.cW o (.lst xs))):kO K H (.ref a) (.type "list")
 |tup {a:Addr}{xs:List V}(e:H a=some (.tup xs)):kO K H (.ref a) (.type "tuple")
 |dK {a:Addr}{kvs:List (Key×V)}(e:H a=some (.dK kvs)):kO K H (.ref a) (.type "dict")
 |dT {a:Addr}{kvs:List (List Key×V)}(e:H a=some (.dT kvs)):kO K H (.ref a) (.type "dict")
 |ins {a C dx:Addr}{fs:List (Str×V)}(e:H a=some (.ins C dx fs)) (cl:qL K C) (ha:OQ K (.ref C) "__class__" = some (some (.builtin "object.__class__")))
   (hn:Si K (.builtin "object.__class__") "__get__" = some (some (.builtin "getset_descriptor.__get__"))) (htk:Ut K (.builtin "object.__class__")=some true)
   (hm:Uu K C (.type "object")=some true):kO K H (.ref a) (.ref C)
theorem Ai{x:V}{u t:Value}(I: ~~~H s)(G:RelV x u)(ty:kO X.K H x t)(e:IF X.K t c=some b)(h:∀tk,Q (.bool b) { s with toks:=tk }) :
  wpAny (model X.prog X.w) A (call (.builtin "isinstance") [u,c]) Q E s:=by
 cases ty with
 |non=>cases(show u=Value.none from G);show OY PySem.W.kitx_none I.jP PB e (λz=>nomatch z) h
 |bl y=>cases(show u=Value.bool y from G);show OY PySem.W.kitx_bool I.jP PB e (λz=>nomatch z) h
 |int i=>let#[t,q]:=(show ∃t,u=Value.int i t from G);cases q;show OY PySem.W.kitx_int I.jP PB e (λz=>nomatch z) h
 |str y=>let#[t,q]:=(show ∃t,u=Value.str y t from G);cases q;show OY PySem.W.kitx_str I.jP PB e (λz=>nomatch z) h
 |flt y=>let#[t,q]:=(show ∃t,u=Value.float y t from G);cases q;show OY PySem.W.kitx_float I.jP PB e (λz=>nomatch z) h
 | @lst a xs L =>
  cases(show u=Value.ref a from G);let#[_,_,n,_,h1]:=(show bZ X.prog X.w H s.heap a (.lst xs)from I.bK a _ L);show OY kitx_list I.jP #[_,h1,rfl] e (λz=>nomatch z) h
 | @cW a ob xs L =>
  cases(show u=Value.ref a from G);let#[_,_,_,n,_,h1]:=(show bZ X.prog X.w H s.heap a (.cW ob (.lst xs))from I.bK a _ L);show OY kitx_list I.jP #[_,h1,rfl] e (λz=>nomatch z) h
 | @tup a xs L =>
  cases(show u=Value.ref a from G);let#[_,_,_,p]:=(show bZ X.prog X.w H s.heap a (.tup xs)from I.bK a _ L);let#[o,h1,h2,_]:=p;show OY kitx_tuple I.jP #[o,h1,h2] e (λz=>nomatch z) h
 | @dK a kvs L =>
  cases(show u=Value.ref a from G);let#[_,_,vs,_,p]:=(show bZ X.prog X.w H s.heap a (.dK kvs)from I.bK a _ L);let#[o,es,ep,h1,h2,_]:=p;show OY kitx_dict I.jP #[o,h1,h2.1] e (λz=>nomatch z) h
 | @dT a kvs L =>
  cases(show u=Value.ref a from G);let#[_,_,xs,_,o,es,ep,h1,h2,_]:=(show bZ X.prog X.w H s.heap a (.dT kvs)from I.bK a _ L);show OY kitx_dict I.jP #[o,h1,h2.1] e (λz=>nomatch z) h
 | @ins a C dx fs L cl S N R U =>
  cases(show u=Value.ref a from G);let#[mA,O,_]:=nu I.bK L;let#[od,J,_]:=O.look;show OY (PySem.W.kitx_own (cl.get _) cl.hd S N R U) I.jP J e (λz=>nomatch z) h
end
structure dB(k:Nat)(A:L7):Prop where
 hd:A.handled=none
 dp:A.depth+3*k+5<recursionLimit
 un:A.units+16*k+200<QO
theorem dB.mono{j k:Nat}{A:L7}(r:dB k A)(h:j<=k):dB j A:=#[r.hd,by have:=r.dp;omega,by have:=r.un;omega]
theorem dB.deeper{k:Nat}{A:L7}(r:dB (k+1) A)(env:Tt):dB k (A.deeper env):=
 #[r.hd,by have:=r.dp;change A.depth+1+3*k+5<_;omega,by have:=r.un;change A.units+3+16*k+200<_;omega]
theorem wz{A:L7}{C:Addr}{us:Xu}{G:List (Str×Value)}:(A.under (.builtin "type.__call__" #[.ref C::us,G])).depth=A.depth+1:=by
 first|rfl|simp[Vl,Code.weight,Code.isCreation,Code.isGuard,Code.isCaller,W7,Vm,guardIds]
theorem xh{A:L7}{C:Addr}{us:Xu}{G:List (Str×Value)}:(A.under (.builtin "type.__call__" #[.ref C::us,G])).units=A.units+1:=by
 first|rfl|simp[Vl,Code.cUnits,W7,Vm]
theorem dB.make{k:Nat}{A:L7}(r:dB (k+1) A)(C:Addr)(us:Xu)(G:List (Str×Value)):dB k (A.under (.builtin "type.__call__" #[.ref C::us,G])):=
 #[r.hd,by have:=r.dp;rw[wz];omega,by have:=r.un;rw[xh];omega]
theorem dB.depth{k:Nat}{A:L7}(r:dB k A):A.depth<recursionLimit:=by have:=r.dp;omega
theorem dB.units{k:Nat}{A:L7}(r:dB k A):A.units+64<QO:=by have:=r.un;omega
theorem dB.lT{k:Nat}{A:L7}(r:dB k A):A.units<QO:=by have:=r.un;omega
def FN:TA:=λ_ H Q=>Q [] H
def JI(ta:TE)(G:TA):TA:=λσ H Q=>ta σ H λx H1=>G σ H1 λxs H2=>Q (x::xs) H2
section
variable{X:Cx}{e:Ot}{es:List Ot}{te:TE}{t:TA}{pos:QY}
theorem ag:PA X [] FN:=λ_ _ _ _ H Q I h=>Calls.spliced_nil #[[],H,I,.nil,h]
theorem aa(R:PE X e te)(hr:PA X es t)(hs:starEach (e::es) X.env=(false,eval e X.env)::starEach es X.env:=by rfl):PA X (e::es) (JI te t):=by
 intro pos pins s σ H Q I h;rw[hs];change wpAny _ _ (V1 ((false,eval e X.env)::backTo pos (starEach es X.env))) _ _ s;show Calls.spliced_cons (bW (R pins s σ H _ I h) λu L Y=>?_);let#[x,H1,U,N,G]:=Y;show bW (hr pos pins L σ H1 _ U G) λus s2 ab=>by let#[xs,H2,S,J,O]:=ab;show#[x::xs,H2,S,.cons N J,O]
def LU(t:TA):TE:=λσ H Q=>t σ H λxs H1=>xs.length<=sizeLine/\∀p,H1 p=none->Q (.ref p) (upd H1 p (.tup xs))
def Ki(t:TA):TE:=λσ H Q=>t σ H λxs H1=>xs.length<=sizeLine/\∀p,H1 p=none->Q (.ref p) (upd H1 p (.lst xs))
theorem cI{x1}(h:PA X es t):PE X (.Tuple es x1 pos) (LU t):=by
 intros Q I L;show wpAny_Tuple_spliced (bW (h pos pins s σ H _ I L) λus G N=>?_);let#[xs,H1,J,r,z,q]:=N;show#[by rw[<-r.length];show z,?_];let O:H1 G⁻¹=none:=J.bK.fresh (ti _);show#[.ref G⁻¹,upd H1 G⁻¹ (.tup xs),J.laid (t':=G.toks) (λb u e=>Heap.get?_push_of_some _ e) (ti _) ?_,rfl,q _ O];show#[z,us,r,#[_,Heap.get?_push_size _ rfl,rfl,0]]
theorem bV(h:PA X es t):PE X (.List es pos) (Ki t):=by
 intros Q I L;show wpAny_List_spliced (bW (h pos pins s σ H _ I L) λus G O=>?_);let#[xs,H1,J,r,z,q]:=O;show#[by rw[<-r.length];show z,?_];let N:H1 G⁻¹=none:=J.bK.fresh (ti _);show#[.ref G⁻¹,upd H1 G⁻¹ (.lst xs),J.laid (t':=G.toks) (λb u e=>Heap.get?_push_of_some _ e) (ti _) ?_,rfl,q _ N];show#[z,us,(0),r,Heap.get?_push_size _ rfl]
end
abbrev Sp:=List V->Hp->VK->XK->Prop
abbrev rZ:=List Tt->Hp->kz->XK->Value->kz->Prop
structure yh(P:se)(w:G1)(K:HC)(mg:Xq)(base:Heap)(A:L7)(outer:List Tt)(s:kz)(H:Hp):Prop where
 frames:A.frames=some outer
 mod:Mod K mg base
 bs:∀b o,base.get? b=some o->s.heap.get? b=some o/\H b=none
 Bc:base.objs.size<=s⁻¹
 jY:s.heap.FunFrames base outer
 EY:∀b∈qA outer,H b=none
 bK:jQ P w H s.heap
 bare:Sh s.gens
def CE(outer:List Tt)(P:se)(w:G1)(H:Hp)(s:kz)(Q:VK)(u:Value)(s':kz):Prop :=
 ∃v H',s'.os=s.os/\Sh s'.gens/\Un (qA outer) [] H H' s.heap s'.heap/\jQ P w H' s'.heap/\RelV v u/\Q v H'
def CR(CX:rZ)(outer:List Tt)(P:se)(w:G1)(H:Hp)(s:kz)(Q:VK)(E:XK)(r:WV)(s':kz):Prop :=
 match r with
 |.ok (.ret u)=>CE outer P w H s Q u s'
 |.ok _=>False
 |.error e=>CX outer H s E e s'
structure aV(P:se)(w:G1)(K:HC)(mg:Xq)(base:Heap)(CX:rZ)(k:Nat)(f:Addr)(fd:p4)(ps:List Str)(sp:Sp):Prop where
 len:∀vs H Q E,sp vs H Q E->vs.length=ps.length
 run:∀(A:L7)(outer:List Tt)(s:kz)(H:Hp)(args:Args)(us:Xu)(vs:List V)(Q:VK)(E:XK),dB k A->yh P w K mg base A outer s H->Vn s fd args (ps.zip us)->Vals vs us->sp vs H Q E ->
  RO (model P w) A (.call (.ref f) args) (CR CX outer P w H s Q E) s
theorem yh.make{P:se}{w:G1}{K:HC}{mg:Xq}{base:Heap}{A:L7}{outer:List Tt}{s:kz}{H:Hp}(e:yh P w K mg base A outer s H)(C:Addr)(us:Xu)(G:List (Str×Value)) :
  yh P w K mg base (A.under (.builtin "type.__call__" #[.ref C::us,G])) outer s H:=#[by first|show e.frames|(simpa[Vl,Code.envs,Vm,pushEnvs]using e.frames),e.mod,e.bs,e.Bc,e.jY,e.EY,e.bK,e.bare]
section
variable{X:Cx}{pins:Xo}{σ:St}{H:Hp}{s s':kz}
theorem Inv.Ik(I: ~~~H s):yh X.prog X.w X.K X.mg X.base X.A X.stack s H :=
 #[I.ok.frames,I.ok.mod,I.bs,L1 I.ok.Bc I.sz,I.stack,I.sN,I.bK,I.bare]
theorem Inv.after{Q:VK}{u:Value}(I: ~~~H s)(h:CE X.stack X.prog X.w H s Q u s'):EP X pins σ Q u s':=by
 let#[v,H',os,bare,un,J,r,q]:=h;let#[G,g,d,t,L]:=s';obtain rfl:L=s.os:=os;show#[v,H',I.call (h':=G) (g':=g) (d':=d) (t':=t) (ch:=[]) un J bare (λb z=>absurd z (by simp)),r,q]
end
def F5(sp:Sp)(dvs:List V)(E:XK)(t:TA):TE:=λσ H Q=>t σ H λvs H1=>sp (vs++dvs) H1 Q E
inductive Cp(C:Addr)(m:Str)(sp:Sp)(dvs:List V)(E:XK)(ta:TE)(t:TA)(σ:St)(Q:VK)(x:V)(H1:Hp):Prop
 |mk (a:_) (dx:_) (fs:_) (_:x=.ref a) (_:H1 a=some (.ins C dx fs)) (_:fs.lookup m=none) (_:t σ H1 λvs H2=>sp (x::(vs++dvs)) H2 Q E):Cp C m sp dvs E ta t σ Q x H1
def y4(C:Addr)(m:Str)(sp:Sp)(dvs:List V)(E:XK)(ta:TE)(t:TA):TE:=λσ H Q=>ta σ H λx H1=>Cp C m sp dvs E ta t σ Q x H1
def Gg(C:Addr)(sp:Sp)(dvs:List V)(E:XK)(t:TA):TE:=λσ H Q=>t σ H λvs H1=>∀x dx,H1 x=none->H1 dx=none->dx≠x ->
 sp (.ref x::(vs++dvs)) (upd (upd H1 dx (.own x)) x (.ins C dx [])) (λv H2=>v=.non/\Q (.ref x) H2) E
def Binds(K:HC)(fd:p4)(ps:List Str)(ds:Xu):Prop :=
 ∀(s:kz)(us:Xu),K.In s.heap->(us++ds).length=ps.length->Vn s fd #[us,[]] (ps.zip (us++ds))
theorem Binds.all{K:HC}{fd:p4}{ps:List Str}(h:∀us:List Value,us.length=ps.length->Wd fd #[us,[]]=pure (ps.zip us)):Binds K fd ps []:=λs us _ G=>by
 rw[T9]at G ⊢;show .of_eq (h us G)
def Passes(CX:rZ)(X:Cx)(E:XK):Prop:=∀(pins:Xo)(σ:St)(H:Hp)(s:kz)(e:Value)(s':kz),~~~H s->CX X.stack H s E e s'->X.xe e s'
section
variable{X:Cx}{CX:rZ}{k:Nat}{f C:Addr}{fd:p4}{ps:List Str}{sp:Sp}{dvs:List V}{ds:Xu}{E:XK}{x m:Str}{p pos apos:QY}{e o:Ot}{es:List Ot}{ta:TE}{t:TA}
theorem xg{pins:Xo}{σ:St}{H:Hp}{s:kz}{Q:VK}{us:Xu}{vs:List V}(F:aV X.prog X.w X.K X.mg X.base CX k f fd ps sp)(R:dB k X.A)(N:Binds X.K fd ps ds)(hd:Vals dvs ds)(L:Passes CX X E)
  (I: ~~~H s) (r:Vals vs us) (h:sp (vs++dvs) H Q E):↑(call (.ref f) us) (EP X pins σ Q) X.xe s:=by
 let J:Vals (vs++dvs) (us++ds):=r.append hd;let S:(us++ds).length=ps.length:=(by rw[<-J.length];show F.len _ _ _ _ h);show Su (Sj (F.run X.A X.stack s H #[us,[]] (us++ds) (vs++dvs) Q E R I.Ik (N s us I.jP S) J h) λr s' G=>?_);cases r with
 |error e=>show L pins σ H s e s' I G
 |ok O =>
  cases O with
  |ret u=>show I.after G
  |next=>show Pr G
  |brk=>show Pr G
  |cont=>show Pr G
theorem EW(F:aV X.prog X.w X.K X.mg X.base CX k f fd ps sp)(Y:dB k X.A)(N:Gl X x)(R:X.mg x=some (.ref f))(U:T8 X.K (.ref f)=true)(L:Binds X.K fd ps ds)(hd:Vals dvs ds)(J:Passes CX X E)
  (O:PA X (e::es) t) (ab:(x==("__debug__" : Str))=false:=by decide) (he:starEach (e::es) X.env=(false,eval e X.env)::starEach es X.env:=by rfl) (S:(backTo pos (starEach es X.env)).any (·.1)=false:=by rfl) :
  PE X (.Call (.Name x p) (e::es) [] pos) (F5 sp dvs E t):=by
 intros Q I h;show Qf (iG I N R ?_ ab);show Sv (h₀:=X.base) I.ok.mod.Ex U (bW (O pos pins s σ H _ I h) λus s1 ac=>?_) he S;let#[vs,H1,G,r,q]:=ac;show#[G.jP,?_];show xg F Y L hd J G r q
theorem EU{pl:RZ Bool}(he:PE X o ta)(c:qL X.K C)(G:Meth X.K C m f)(F:aV X.prog X.w X.K X.mg X.base CX k f fd ps sp)(hr:dB k X.A)(Y:Binds X.K fd ps ds)(hd:Vals dvs ds)(N:Passes CX X E)(S:PA X (e::es) t)
  (U:starEach (e::es) X.env=(false,eval e X.env)::starEach es X.env:=by rfl) (ac:(backTo pos (starEach es X.env)).any (·.1)=false:=by rfl)
  (ht:eval (.Call (.Attribute o m apos) (e::es) [] pos) X.env=(do
   let ov <-eval o X.env
   SW apos.atName
   let (f,first) <-Rg [ov] (Rj ov m pl)
   Tu pos f first (backTo pos (starEach (e::es) X.env)) (Ro pos (Qr [] X.env))):=by rfl) :
  PE X (.Call (.Attribute o m apos) (e::es) [] pos) (y4 C m sp dvs E ta t):=by
 intros Q I h;show Tj (pl:=pl) (bW (he pins s σ H _ I h) λu s1 R=>?_) ht;let#[x,H1,L,rx,a,dx,fs,ex,ea,l,q]:=R;subst ex;obtain rfl:u=Value.ref a:=rx;show iw L ea c G l ?_;show Sv (first:=[.ref a]) (h₀:=X.base) I.ok.mod.Ex G.kp (bW (S pos pins s1 σ H1 _ L q) λus s2 ab=>?_) U ac;let#[vs,H2,J,r,O]:=ab;show#[J.jP,?_];show xg (us:=.ref a::us) (vs:=.ref a::vs) F hr Y hd N J (.cons rfl r) O
theorem D9{pl:RZ Bool}(he:PE X o ta)(c:qL X.K C)(J:Meth X.K C m f)(F:aV X.prog X.w X.K X.mg X.base CX k f fd ps sp)(Y:dB k X.A)(N:Binds X.K fd ps ds)(hd:Vals dvs ds)(L:Passes CX X E)
  (S:eval (.Call (.Attribute o m apos) [] [] pos) X.env=(do
   let ov <-eval o X.env
   SW apos.atName
   let (f,first) <-Rg [ov] (Rj ov m pl)
   Tu pos f first (backTo pos (starEach [] X.env)) (Ro pos (Qr [] X.env))):=by rfl) :
  PE X (.Call (.Attribute o m apos) [] [] pos) (y4 C m sp dvs E ta FN):=by
 intros Q I h;show Tj (pl:=pl) (bW (he pins s σ H _ I h) λu s1 O=>?_) S;let#[x,H1,G,R,a,dx,fs,ex,U,l,q]:=O;subst ex;obtain rfl:u=Value.ref a:=R;show iw G U c J l ?_;show callWith_K0 (first:=[.ref a]) G.jP J.kp (xg (us:=[.ref a]) (vs:=[.ref a]) F Y N hd L G (.cons rfl .nil) q)
structure Mk(K:HC)(C f:Addr):Prop where
 makes:makesIn K C=true
 init:OQ K (.ref C) "__init__" = some (some (.ref f))
 fn:isFn K (.ref f)=true
 kp:T8 K (.ref C)=true
theorem vI{pins:Xo}{σ:St}{H:Hp}{s:kz}{Q:VK}{us:Xu}{vs:List V}(M:Mk X.K C f)(F:aV X.prog X.w X.K X.mg X.base CX k f fd ps sp)(hr:dB (k+1) X.A)(hb:Binds X.K fd ps ds)(hd:Vals dvs ds)
  (U:Passes CX X E) (I: ~~~H s) (r:Vals vs us)
  (h:∀x dx,H x=none->H dx=none->dx≠x->sp (.ref x::(vs++dvs)) (upd (upd H dx (.own x)) x (.ins C dx [])) (λv H2=>v=.non/\Q (.ref x) H2) E) :
  ↑(call (.ref C) us) (EP X pins σ Q) X.xe s:=by
 let L:=h (s⁻¹+1) s⁻¹ (I.bK.fresh (Sk _)) (I.bK.fresh (ti _)) (OR (RF _));let J:=Inv.made (C:=C) I;let N:Vals (V.ref (s⁻¹+1)::(vs++dvs)) (Value.ref (s⁻¹+1)::(us++ds)):=.cons rfl (r.append hd);let hl:(Value.ref (s⁻¹+1)::us++ds).length=ps.length:=by
  let e:=N.length;rw[F.len _ _ _ _ L]at e;show e.symm
 show Su (BV (f:=f) I.jP M.makes M.init (beq_iff_eq.mp M.fn) (Sj (F.run _ X.stack _ _ #[Value.ref (s⁻¹+1)::us,[]] (Value.ref (s⁻¹+1)::(us++ds)) _ _ E (hr.make C us [])
  (J.Ik.make C us []) (hb _ (Value.ref (s⁻¹+1)::us) J.jP hl) N L) λr s' G=>?_))
 cases r with
 |error e=>show U pins σ _ _ e s' J G
 |ok S =>
  cases S with
  |ret u =>
   let#[v,H',R,rv,O,Y]:=J.after G;subst O;show#[rv,#[V.ref (s⁻¹+1),H',R,rfl,Y]]
  |next=>show Pr G
  |brk=>show Pr G
  |cont=>show Pr G
theorem ng(M:Mk X.K C f)(F:aV X.prog X.w X.K X.mg X.base CX k f fd ps sp)(Y:dB (k+1) X.A)(N:Gl X x)(S:X.mg x=some (.ref C))(L:Binds X.K fd ps ds)(hd:Vals dvs ds)(J:Passes CX X E)
  (R:PA X (e::es) t) (ab:(x==("__debug__" : Str))=false:=by decide) (he:starEach (e::es) X.env=(false,eval e X.env)::starEach es X.env:=by rfl) (U:(backTo pos (starEach es X.env)).any (·.1)=false:=by rfl) :
  PE X (.Call (.Name x p) (e::es) [] pos) (Gg C sp dvs E t):=by
 intros Q I h;show Qf (iG I N S ?_ ab);show Sv (h₀:=X.base) I.ok.mod.Ex M.kp (bW (R pos pins s σ H _ I h) λus s1 O=>?_) he U;let#[vs,H1,G,r,q]:=O;show#[G.jP,?_];show vI M F Y L hd J G r q
theorem vy(M:Mk X.K C f)(F:aV X.prog X.w X.K X.mg X.base CX k f fd ps sp)(O:dB (k+1) X.A)(N:Gl X x)(J:X.mg x=some (.ref C))(L:Binds X.K fd ps ds)(hd:Vals dvs ds)(G:Passes CX X E)
  (R:(x==("__debug__" : Str))=false:=by decide):PE X (.Call (.Name x p) [] [] pos) (Gg C sp dvs E FN):=by
 intros Q I h;show Qf (iG I N J ?_ R);show callWith_K0 I.jP M.kp (vI (us:=[]) M F O L hd G I .nil h)
variable{ks:List Str}{kpos:QY}{kws:List UM}{te:TE}{tk:TA}{nm:Option Str}
variable{g:List Value->List Value->List Value}{gV:List V->List V->List V}
end
structure aE(N P:List Str)(sc:SU):Prop where
 kind:sc.kind=.function
 co:sc.isCoroutine=false
 gen:sc.isGenerator=false
 nd:N.Nodup
 pre:N.take P.length=P
 par:∀x∈P,sc.names.lookup x=some .local\/sc.names.lookup x=some .cell
 Ho:∀y∈sc.names,y.2≠.free
theorem bN{N P:List Str}{G:SU}(a:G.kind=.function:=by exact rfl)(b:G.isCoroutine=false:=by exact rfl)(c:G.isGenerator=false:=by exact rfl)(d:N.Nodup:=by decide +kernel)(e:N.take P.length=P:=by exact rfl)(f:∀x∈P,G.names.lookup x=some .local\/G.names.lookup x=some .cell:=by decide +kernel)(g:∀y∈G.names,y.2≠.free:=by decide +kernel):aE N P G:=#[a,b,c,d,e,f,g]
theorem rD{kindOf:Str->Option NameKind}{x:Str}:∀{binds:List (Str×Value)}{m:Xq},(∀v,(x,v)∉binds)->We kindOf binds m x=m x
 | [],_,_=>rfl
 |(n,v)::r,m,h=>by
  unfold We;rw[rD λw G=>h w (Ou _ G)];split
  .have:x≠n:=(by rintro rfl;show h v Oz);simp[this]
  .rfl
theorem qS{kindOf:Str->Option NameKind}{x:Str}:∀{binds:List (Str×Value)}{m:Xq},(∀v,(x,v)∉binds)->Wf kindOf binds m x=m x
 | [],_,_=>rfl
 |(n,v)::r,m,h=>by
  unfold Wf;rw[qS λw G=>h w (Ou _ G)];split
  .rfl
  .have:x≠n:=(by rintro rfl;show h v Oz);simp[this]
theorem qU{kindOf:Str->Option NameKind}{x:Str}{v:Value}:∀{P:List Str}{vs:Xu}{i:Nat}{m:Xq},P.Nodup->P[i]?=some x->vs[i]?=some v->kindOf x=some .local ->
  We kindOf (P.zip vs) m x=some v
 | [],_,_,_,_,h,_,_=>by simp at h
 |_::_,[],_,_,_,_,h,_=>by simp at h
 |p::P,w::vs,0,m,G,h1,h2,I=>by
  simp at h1 h2;subst h1;subst h2;change We kindOf ((p,w)::P.zip vs) m p=_;unfold We;rw[rD λv J=>(Ov.mp G).1 (Wg J).1,Xl I];simp
 |p::P,w::vs,i+1,m,G,h1,h2,I=>by
  change We kindOf ((p,w)::P.zip vs) m x=_;unfold We;show qU (i:=i) (Ov.mp G).2 ‹h1› ‹h2› I
theorem rO{kindOf:Str->Option NameKind}{x:Str}{v:Value}:∀{P:List Str}{vs:Xu}{i:Nat}{m:Xq},P.Nodup->P[i]?=some x->vs[i]?=some v->kindOf x≠some .local ->
  Wf kindOf (P.zip vs) m x=some v
 | [],_,_,_,_,h,_,_=>by simp at h
 |_::_,[],_,_,_,_,h,_=>by simp at h
 |p::P,w::vs,0,m,G,h1,h2,I=>by
  simp at h1 h2;subst h1;subst h2;change Wf kindOf ((p,w)::P.zip vs) m p=_;unfold Wf;rw[qS λv J=>(Ov.mp G).1 (Wg J).1,Xk I];simp
 |p::P,w::vs,i+1,m,G,h1,h2,I=>by
  change Wf kindOf ((p,w)::P.zip vs) m x=_;unfold Wf;show rO (i:=i) (Ov.mp G).2 ‹h1› ‹h2› I
def start(N:List Str)(vs:List V):St:=vs.map some++replicate (N.length-vs.length) none
def tD(CX:rZ)(P:se)(w:G1)(K:HC)(mg:Xq)(base:Heap)(N:List Str)(G:Str)(scope:SU)(f:Addr)(cd:Value)(A:L7)(outer:List Tt)(s:kz)(H:Hp)(E:XK):Cx where
 prog:=P
 w:=w
 K:=K
 mg:=mg
 base:=base
 A:=A.deeper (Sw G scope s⁻¹ f cd)
 N:=N
 s₀:=s
 H₀:=H
 env:=Sw G scope s⁻¹ f cd
 outer:=outer
 stack:=Sw G scope s⁻¹ f cd::outer
 ex:=[]
 calm:=true
 fn:=λ_=>true
 pn:=[]
 xe:=λe s'=>wpAny (model P w) (A.deeper (Sw G scope s⁻¹ f cd)) (leaving (Sw G scope s⁻¹ f cd) e) (λ_ I=>CX outer H s E e I) (λJ I=>CX outer H s E J I) s'
theorem vi{G:SU}{n:Nat}{x:Str}(h:G.names.lookup x=some .cell):∃c,(WQ n G.names []).lookup x=some c:=by
 let q:=Ua G.names n [] (.inl h);show Qw.mp q
theorem Ad{CX:rZ}{P:se}{w:G1}{K:HC}{mg:Xq}{base:Heap}{N ps:List Str}{L:Str}{scope:SU}{f:Addr}{cd:Value}{A:L7}{outer:List Tt}{s Y:kz}{H:Hp}{E:XK}{us:Xu}{vs:List V}
  (S:aE N ps scope) (hd:A.handled=none) (G:yh P w K mg base A outer s H) (hl:vs.length=ps.length) (r:Vals vs us)
  (x:InCallC s s⁻¹ (We (Sw L scope s⁻¹ f cd).kindOf (ps.zip us) λ_=>none) (WQ (s⁻¹+1) scope.names []) (Wf (Sw L scope s⁻¹ f cd).kindOf (ps.zip us) λ_=>none) Y) :
  Inv (tD CX P w K mg base N L scope f cd A outer s H E) [] (start N vs) H Y:=by
 let ab:ps.length<=N.length:=(by have:=congrArg PZ S.pre;rw[Oj]at this;omega);let#[h1,tk,rfl,U]:=x.done;let O:∀b:Addr,b∉(tD CX P w K mg base N L scope f cd A outer s H E).ex:=λb z=>absurd (show b∈([]:List Addr)from z) (by simp);show#[#[G.mod,S.kind,1,ti _,λy z c h1 h2=>?_,λy I=>?_,λy c _ h=>?_,λ_=>hd,Around.frames_deeper G.frames,.inr #[1],λb z=>absurd z (O b),G.bs,G.Bc,λb _ _=>O b,λb z=>absurd z (O b),G.jY,G.EY],
  rfl,G.bare,Un.kept U,#[_,x.toInCall.ns,λi y v h1 h2 h3=>?_],λy c h=>#[_,x.cell y c h],G.bK.fresh (ti _),λy c h=>?_,λp J=>absurd (show p∈([]:Xo)from J) (by simp),G.bK.kept U,?_]
 .show name_of_addr x.apart (PH h1) (PH h2)
 .let I:scope.names.lookup y=some .cell\/scope.names.lookup y=some .free:=I;rcases I with I|I
  .show vi I
  .show absurd rfl (S.Ho _ (PH I))
 .show V8 (x.above y c (PH h))
 .let hi:i<vs.length:=by
   unfold start at h2;cases hi:i<vs.length
   .show hi
   .rw[Pe ‹hi›]at h2;rw[List.getElem?_replicate]at h2;split at h2<;>cases h2
  let ha:vs[i]?=some v:=by
   unfold start at h2;rw[Pm ‹hi›,t5]at h2;cases e:vs[i]? with
   |none=>rwa[e]at h2
   |some a=>rwa[e]at h2;rfl
  let#[u,hu,rv]:=r.get ha;let J:ps[i]?=some y:=by
   rw[<-S.pre,List.getElem?_take_of_lt (OZ hi hl)];show h1
  let R:ps.Nodup:=(by rw[<-S.pre];show S.nd.sublist (Q3 _ _));show#[u,rv,?_];rcases S.par y (z6 J)with k|k
  .show .inl #[k,qU R J hu k]
  .let#[c,e]:=vi (n:=s⁻¹+1) k;show .inr #[.inl k,c,e,?_];let q:=x.cell y c e;rw[rO R J hu (by change scope.names.lookup y≠_;rw[k];decide)]at q;show q
 .show G.bK.fresh (V8 (x.above y c (PH h)))
 .unfold start;change _=N.length;rw[wh,mu,OV];omega
theorem F4{CX:rZ}{P:se}{w:G1}{K:HC}{mg:Xq}{base:Heap}{k:Nat}{f:Addr}{name G:Str}{am:Arguments}{body:List Ow}{scope:SU}{dV kV ac pm L ct oc:Value}{an od:Xw}
  {aB:Array (Option Value)}{N ps:List Str}{sp:Sp}(lk:K.lookup f=some #[oc,od,.func (WW name G am body scope dV kV ac pm an L ct),aB]) (ap:WX K L G=true) (S:aE N ps scope)
  (len:∀vs H Q E,sp vs H Q E->vs.length=ps.length)
  (as:∀(A:L7)(outer:List Tt)(s:kz)(H:Hp)(vs:List V)(Q:VK)(E:XK),dB k (A.deeper (Sw G scope s⁻¹ f L))->sp vs H Q E ->
   ∃t,vo (tD CX P w K mg base N G scope f L A outer s H E) body t/\t { nx:=λ_ H'=>Q .non H',rt:=Q } (start N vs) H) :
  aV P w K mg base CX (k+1) f (WW name G am body scope dV kV ac pm an L ct) ps sp:=by
 show#[len,λA outer s H args us vs Q E U O hb r ab=>?_];let hl:=len _ _ _ _ ab;let KX:K.In s.heap:=O.mod.Ex.keeps λb o e=>(O.bs b o e).1;let aT:s.heap.NoLimit:=O.mod.nolimit.keeps λb o e=>(O.bs b o e).1;let a1:∀y∈ps.zip us,scope.names.lookup y.1=some .local\/(scope.names.lookup y.1=some .cell/\((WQ (s⁻¹+1) scope.names []).lookup y.1).isSome=true):=λa0 hy=>by
  let#[n,v]:=a0;rcases S.par n (Wg hy).1 with q|q
  .show .inl q
  .show .inr #[q,Ua _ _ _ (.inl q)]
 show codeAny_call_function U.depth (KX _ _ lk) rfl S.co S.gen rfl (PySem.W.codeRec_of KX ap) (hb _ _ _ _ ?_);show wpAny_newFunctionEnv_cells S.kind a1 λenv he s1 x=>?_;subst he;show#[aT.keeps x.toInCall.keep,codeAny_func ?_];let#[t,ht,hq]:=as A outer s H vs Q E (U.deeper _) ab;let I:Inv (tD CX P w K mg base N G scope f L A outer s H E) [] (start N vs) H s1:=Ad S U.hd O hl r x;show OI (ht [] s1 (start N vs) H _ I hq) (λfl s' hs=>?_) λe s' hs=>hs;let ah:∀{R:St}{H':Hp}{v:V}{u:Value},Inv (tD CX P w K mg base N G scope f L A outer s H E) [] R H' s'->RelV v u->Q v H'->CE outer P w H s Q u s' :=
  λ{R H' v u} J Y q=>#[v,H',J.os,J.bare,J.base,J.bK,Y,q]
 cases fl with
 |ret u =>
  let#[v,R,H',J,Y,q]:=hs;show ah J Y q
 |next =>
  let#[R,H',J,q]:=hs;show ah (v:=V.non) (u:=Value.none) J rfl q
 |brk =>
  let#[_,_,_,q]:=hs;show Pr q
 |cont =>
  let#[_,_,_,q]:=hs;show Pr q
section
variable{X:Cx}{x:Str}{p pos:QY}{e:Ot}{es:List Ot}{t:TA}{id T:String}{r:List V->Hp->VK->Prop}
def NZ(r:List V->Hp->VK->Prop)(t:TA):TE:=λσ H Q=>t σ H λvs H1=>r vs H1 Q
theorem aQ(hc:eJ X (.builtin id) r)(O:Gl X x)(Y:X.mg x=none)(J:OD x=some (.builtin id))(U:PA X (e::es) t)(L:x ≠ "__name__" := by decide)(ac:(x==("__debug__" : Str))=false:=by decide)
  (he:starEach (e::es) X.env=(false,eval e X.env)::starEach es X.env:=by rfl) (ab:(backTo pos (starEach es X.env)).any (·.1)=false:=by rfl):PE X (.Call (.Name x p) (e::es) [] pos) (NZ r t):=by
 intros Q I h;show Qf (jk I O Y J ?_ L ac);show PyProof.Rows.callWith_builtin1 (bW (U pos pins s σ H _ I h) λus N R=>by let#[vs,H1,I1,S,G]:=R;show hc pins N σ H1 vs us Q I1 S G) he ab
theorem bU(hc:eJ X (.type T) r)(O:Gl X x)(Y:X.mg x=none)(J:OD x=some (.type T))(U:PA X (e::es) t)(L:x ≠ "__name__" := by decide)(ac:(x==("__debug__" : Str))=false:=by decide)
  (he:starEach (e::es) X.env=(false,eval e X.env)::starEach es X.env:=by rfl) (ab:(backTo pos (starEach es X.env)).any (·.1)=false:=by rfl):PE X (.Call (.Name x p) (e::es) [] pos) (NZ r t):=by
 intros Q I h;show Qf (jk I O Y J ?_ L ac);show Pf (bW (U pos pins s σ H _ I h) λus N S=>by let#[vs,H1,I1,R,G]:=S;show hc pins N σ H1 vs us Q I1 R G) he ab
end
end L2
namespace HT
open PySem PyProof.Rows
section
open PySem.SeqAt
open PySem.AutoSeq1 (wpAny_loadPart')
open PySem.MeetsSeq PySem.MeetsSeq2 PySem.MeetsSeq3
variable{prog:se}{w:G1}{A:L7}{E:Xp}{s:kz}
theorem FW{t b:Addr}{vs ws:Xu}{Q:Xp}(ht:WL s.heap t vs.toArray)(Y:WL s.heap b ws.toArray)(L:vs≠[])
  (h1:ws=[]->Q (.ref t) s) (h2:ws≠[]->Q (.ref s⁻¹) { s with heap:=s.heap.push { cls:=.type "tuple",data:=.seq (vs++ws).toArray } })
  (hsz:vs.length+ws.length<=sizeLine):wpAny (model prog w) A (Q7 .Add (.ref t) (.ref b)) Q E s:=by
 let#[#[cls,dd,data,sl],I,U,n,hd]:=id ht;let#[#[ab,xq,data2,S],J,R,N,O]:=id Y;simp only at U hd R O;subst U hd R O;let e:vs.toArray++ws.toArray=(vs++ws).toArray:=(by simp);cases G:ws=[]
 .show concat_meets #[_,I,rfl] #[_,J,rfl] VD seq_tuple_add Ub Tv (Tn _ _)
   (tuple_addW1 t b vs.toArray ws.toArray n N dd xq sl S ‹L› (by simp[G])) #[I,J,h1 G]
 .show concat_meets #[_,I,rfl] #[_,J,rfl] VD seq_tuple_add Ub Tv (Tn _ _)
   (tuple_addW2 t b vs.toArray ws.toArray n N dd xq sl S ‹L› ‹G› (by rw[qi,qi];show hsz)) #[I,J,?_]
  rw[e];show h2 G
def dE(n d:Nat):Option Int->Nat
 |none=>d
 |some v=>if v<0 then(v+(n:Int)).toNat else min v.toNat n
theorem nH(n d k:Nat):dE n d (some (k:Int))=min k n:=by
 change(if (k:Int)<0 then((k:Int)+(n:Int)).toNat else min (k:Int).toNat n)=min k n;rw[Xk af,Qc]
theorem Hs(n d:Nat)(hd:d<=n)(o:Option Int):dE n d o<=n:=by
 cases o with
 |none=>show hd
 |some v =>
  change(if v<0 then(v+(n:Int)).toNat else min v.toNat n)<=n;cases G:v<0
  .rw[Xl G];omega
  .rw[Xk G];show VE _ _
theorem yF(v:Int)(n d:Nat):(if v<0 then max (v+(n:Int)) 0 else min v (n:Int))=((dE n d (some v):Nat):Int):=by
 change(if v<0 then max (v+(n:Int)) 0 else min v (n:Int))=(((if v<0 then(v+(n:Int)).toNat else min v.toNat n):Nat):Int);cases G:v<0
 .simp only[Xl G];omega
 .simp only[Xk G];omega
theorem ym(lo hi:Option Int)(n:Nat):Builtin.Slice.sliceAdjust lo hi 1 (n:Int)=(((dE n 0 lo:Nat):Int),((dE n n hi:Nat):Int)):=by
 let h1:¬ ((1:Int)<0):=af;unfold Builtin.Slice.sliceAdjust;simp only[h1,if_false];show Vo ?_ ?_
 .cases lo with
  |none=>rfl
  |some v=>show yF v n 0
 .cases hi with
  |none=>rfl
  |some v=>show yF v n n
theorem xt(i j:Nat):Builtin.Slice.slicePlaces (i:Int) (j:Int) 1=j-i:=by
 unfold Builtin.Slice.slicePlaces;let h1:(1:Int)>0:=af;simp only[h1,if_true,Int.ediv_one];split<;>omega
theorem oj{v:Value}{o:Option Int}{Q:Option Int->kz->Prop}(p:Uc v o)(h:Q o s):wpAny (model prog w) A (Builtin.Slice.slicePartIndex v) Q E s:=by
 cases p with
 |none=>show slicePart_none h
 |int i t=>show slicePart_int h
theorem gU{sl:Addr}{G L:Value}{lo hi:Option Int}{n:Nat}{Q:Int×Int×Nat->kz->Prop}(hs:s.heap.IsSliceOf sl G L .none)(pl:Uc G lo)(N:Uc L hi)
  (h:Q (((dE n 0 lo:Nat):Int),1,dE n n hi-dE n 0 lo) s):wpAny (model prog w) A (Builtin.Slice.sliceApplied (.ref sl) (pure (n:Int))) Q E s:=by
 let#[os,J,O,I]:=id hs;unfold Builtin.Slice.sliceApplied Builtin.Slice.sliceFields;show k9 (k9 (RU J I (x:=G) rfl (k9 (RU J I (x:=L) rfl (k9 (RU J I (x:=.none) rfl (wpAny_pure ?_)))))));show k9 (slicePart_none ?_);change wpAny _ _ (if ((1:Int)==0)=true then _ else _) _ _ s;rw[Xk ar];show k9 (oj pl (k9 (oj N (k9 (wpAny_pure ?_)))));change wpAny _ _ (match Builtin.Slice.sliceAdjust lo hi 1 (n:Int)with|(lo,hi)=>pure (lo,(1:Int),Builtin.Slice.slicePlaces lo hi 1)) _ _ s;rw[ym lo hi n];change wpAny _ _ (pure (((dE n 0 lo:Nat):Int),(1:Int),Builtin.Slice.slicePlaces ((dE n 0 lo:Nat):Int) ((dE n n hi:Nat):Int) 1)) _ _ s;rw[xt];show wpAny_pure h
theorem BN(xs:Xt)(i k:Nat):((NC k).filterMap λ(m:Nat)=>xs[((i:Int)+(m:Int)*1).toNat]?).toArray=((xs.toList.drop i).take k).toArray:=by
 let e:(λ(m:Nat)=>xs[((i:Int)+(m:Int)*1).toNat]?)=λm=>xs[i+m]?:=by
  funext m;have:((i:Int)+(m:Int)*1).toNat=i+m:=af;rw[this]
 rw[e];have:=pick_run xs i k;rw[List.filterMap_map]at this;let G:((λx=>xs[x]?)∘λx=>i+x)=λm=>xs[i+m]?:=rfl;rw[G]at this;rw[this]
theorem lh{t sl:Addr}{items:Xt}{J L:Value}{lo hi:Option Int}{Q:Xp}(G:WL s.heap t items)(hs:s.heap.IsSliceOf sl J L .none)(pl:Uc J lo)(U:Uc L hi)
  (N:¬ (dE items.size 0 lo=0/\dE items.size items.size hi=items.size))
  (h:Q (.ref s⁻¹) { s with heap:=s.heap.push { cls:=.type "tuple",data:=.seq ((items.toList.drop (dE items.size 0 lo)).take (dE items.size items.size hi-dE items.size 0 lo)).toArray } })
  (hsz:items.size<=sizeLine):wpAny (model prog w) A (RN (.ref t) (.ref sl)) Q E s:=by
 let I:sizeOk (.seq ((items.toList.drop (dE items.size 0 lo)).take (dE items.size items.size hi-dE items.size 0 lo)).toArray):=by
  change((items.toList.drop (dE items.size 0 lo)).take (dE items.size items.size hi-dE items.size 0 lo)).toArray.size<=sizeLine;rw[qi,Oj,P1,PV];omega
 let hj:dE items.size items.size hi<=items.size:=Hs _ _ (ti _) hi;let#[os,S,R,ac]:=id hs;let Y:s.TypeIs (.ref sl) "slice" := #[os,S,R];unfold RN
 try with_reducible show Py ?_
 first|show k9 (wpAny_pure ?_)|skip
 show k9 (Vp G.typeIs ar ?_);show k9 (Tx (name:=Str.ofString "__getitem__") G.typeIs OO
  (RG OO G.typeIs US ?_ (U5 _ _)))
 change wpAny _ _ (Builtin.Tuple.tupleItemsOf (.ref t)>>=_) _ _ s;show k9 (tupleItemsOf_ G ?_);show k9 (Ud Y ?_);rw[Xl ar];show k9 (gU hs pl U ?_);let ab:¬ ((((dE items.size 0 lo:Nat):Int)==0&&(1:Int)==1&&(dE items.size items.size hi-dE items.size 0 lo)==items.size)=true):=by
  intro q;rw[Qe,Qe]at q;let O:((dE items.size 0 lo:Nat):Int)=0:=eq_of_beq q.1.1;let q2:dE items.size items.size hi-dE items.size 0 lo=items.size:=eq_of_beq q.2;show N #[Rp Int.ofNat_eq_zero O,af]
 change wpAny _ _ (if (((dE items.size 0 lo:Nat):Int)==0&&(1:Int)==1&&(dE items.size items.size hi-dE items.size 0 lo)==items.size)=true then _ else _) _ _ s;rw[Xk ab,BN]
 first
  |show k9 (m:=Builtin.Tuple.tupleExact _) (Qp (wpAny_pure #[0,wpAny_pure h]) I)
  |show k9 (m:=Builtin.Tuple.tupleExact _) (Qp (k9 (wpAny_pure (wpAny_pure #[0,wpAny_pure h]))) I)
  |show k9 (k9 (m:=Builtin.Tuple.tupleExact _) (Qp (wpAny_pure (wpAny_pure #[0,wpAny_pure h])) I))
  |show k9 (k9 (m:=Builtin.Tuple.tupleExact _) (Qp (wpAny_pure #[0,wpAny_pure h]) I))
end
end HT
namespace L2
open PySem PySem.Spec PyProof.Rows
abbrev TO:=St->Hp->(Option Int->Hp->Prop)->Prop
def PO(X:Cx)(e:Option Ot)(t:TO):Prop :=
 ∀(pins:Xo)(s:kz)(σ:St)(H:Hp)(Q:Option Int->Hp->Prop),~~~H s->t σ H Q ->
  ↑(evalPart e X.env) (λu s'=>∃o H',~~~H' s'/\Uc u o/\Q o H') X.xe s
def Fm:TO:=λ_ H Q=>Q none H
def KY(t:TE):TO:=λσ H Q=>t σ H λx H1=>∃i,x=.int i/\Q (some i) H1
theorem intsAre_of{ns:List Int}:∀{us:Xu},Vals (ns.map V.int) us->RP us ns:=by
 induction ns with
 |nil=>intro us r;rwa[V3]at r;show .nil
 |cons n ns I =>
  intro us r;rw[PM]at r;cases r with
  |cons J G =>
   let#[t,e]:=J;subst e;show .cons n t (I G)
section
variable{X:Cx}{e:Ot}{te:TE}{lo hi:Option Ot}{tl th:TO}{pos p2:QY}
theorem eg:PO X none Fm:=by
 intros Q I h;rw[evalPart_none];show wpAny_pure #[none,H,I,.none,h]
theorem cN(h:PE X e te):PO X (some e) (KY te):=by
 intros Q I G;rw[evalPart_some];show bW (h pins s σ H _ I G) λu R O=>?_;let#[x,H1,N,L,J]:=O;let#[i,rfl,q]:=J;let#[t,rfl]:=L;show#[some i,H1,N,.int i t,q]
def Kv(X:Cx)(r:V->Option Int->Option Int->Hp->VK->Prop):Prop :=
 ∀(pins:Xo)(s:kz)(σ:St)(H:Hp)(x:V)(v G I:Value)(lo hi:Option Int)(sl:Addr)(Q:VK),~~~H s->RelV x v->s.heap.IsSliceOf sl G I .none->Uc G lo->Uc I hi->r x lo hi H Q ->
  ∃T id,Wh (.type T) "__getitem__" = pure (some (.builtin id))/\s.TypeIs v T/\↑(RN v (.ref sl)) (EP X pins σ Q) X.xe s
def Ob(r:V->Option Int->Option Int->Hp->VK->Prop)(te:TE)(tl th:TO):TE:=λσ H Q=>te σ H λx H1=>tl σ H1 λl H2=>th σ H2 λu H3=>r x l u H3 Q
theorem cJ{r:V->Option Int->Option Int->Hp->VK->Prop}(hr:Kv X r)(he:PE X e te)(hl:PO X lo tl)(hu:PO X hi th):PE X (.Subscript e (.Slice lo hi none p2) pos) (Ob r te tl th):=by
 intros Q I h;show Wi (bW (he pins s σ H _ I h) λv s1 S=>?_);let#[x,H1,U,O,q1]:=S;show wpAny_Slice (bW (hl pins s1 σ H1 _ U q1) λG s2 ab=>?_);let#[l,H2,Y,pl,R]:=ab;show bW (hu pins s2 σ H2 _ Y R) λJ s3 ac=>?_;let#[u,H3,I3,pu,L]:=ac;rw[evalPart_none];show wpAny_pure ?_;let I4: ~~~H3 { s3 with heap:=s3.heap.push { cls:=.type "slice",data:=.fields ([G,J,.none].toArray) } }:=I3.kept (t':=s3.toks) λb ob q=>Heap.get?_push_of_some _ q;let#[T,id,N,ht,hg]:=hr pins { s3 with heap:=s3.heap.push { cls:=.type "slice",data:=.fields ([G,J,.none].toArray) } } σ H3 x v G J l u s3⁻¹ Q I4 O (Heap.IsSliceOf.new ..) pl pu L;change ↑(UX e (.Slice lo hi none p2) v (.ref s3⁻¹)) (EP X pins σ Q) X.xe { s3 with heap:=s3.heap.push { cls:=.type "slice",data:=.fields ([G,J,.none].toArray) } };show tail_any (ops:=[.ref s3⁻¹,v]) ht N hg (by with_unfolding_all rfl)
def fA(xs:List V)(lo hi:Option Int):List V:=(xs.drop (HT.dE xs.length 0 lo)).take (HT.dE xs.length xs.length hi-HT.dE xs.length 0 lo)
theorem mG(xs:List V)(lo hi:Option Int):(fA xs lo hi).length<=xs.length:=by
 unfold fA;rw[Oj,P1];omega
inductive Lq(K:HC)(x:V)(lo:Option Int)(hi:Option Int)(H:Hp)(Q:VK):Prop
 |mk(a:_)(xs:_)(_:x=.ref a)(_:bP K H a xs)(_:¬ (HT.dE xs.length 0 lo=0/\HT.dE xs.length xs.length hi=xs.length))(_:∀p,H p=none->Q (.ref p) (upd H p (.tup (fA xs lo hi))))
theorem IJ:Kv X (Lq X.K):=by
 intros x v U Y lo hi sl Q I R hs pl S h;let#[a,xs,rfl,O,N,q]:=h;cases R;let#[its,r,J,L]:=I.tuple O;let G:its.toArray.size=xs.length:=(by rw[qi];show r.length.symm);show#["tuple",_,OO.lookup,J.typeIs,?_];show HT.lh J hs pl S (by rw[G];show N) ?_ (by rw[G];show L);rw[G];show#[.ref s⁻¹,_,I.laid (t':=s.toks) (o:=.tup (fA xs lo hi)) (λb ob q=>Heap.get?_push_of_some _ q) (ti _) ?_,rfl,q _ (I.bK.fresh (ti _))];show#[L1 (mG xs lo hi) L,_,(r.drop (HT.dE xs.length 0 lo)).take (HT.dE xs.length xs.length hi-HT.dE xs.length 0 lo),VB _ _]
inductive Gh(K:HC)(x:V)(y:V)(H:Hp)(Q:VK):Prop
 |mk(a:_)(b:_)(xs:_)(ys:_)(_:x=.ref a)(_:y=.ref b)(_:bP K H a xs)(_:bP K H b ys)(_:xs≠[])(_:xs.length+ys.length<=sizeLine)(_:(ys=[]->Q (.ref a) H))(_:(ys≠[]->∀p,H p=none->Q (.ref p) (upd H p (.tup (xs++ys)))))
theorem Vals.tq{xs:List V}{us:Xu}(r:Vals xs us):us=[]↔xs=[]:=by
 cases r with
 |nil=>simp
 |cons _ _=>simp
theorem EO:mh X (Q7 .Add) (Gh X.K):=by
 intros x y v u Q I rx R h;let#[a,b,xs,ys,rfl,rfl,Y,S,O,L,N,U]:=h;cases rx;cases R;let#[its,J,p1,_]:=I.tuple Y;let#[ab,G,p2,_]:=I.tuple S;show HT.FW p1 p2 (λz=>O (J.tq.mp z)) (λz=>#[.ref a,H,I,rfl,N (G.tq.mp z)]) (λz=>?_) (by rw[<-J.length, <-G.length];show L);show#[.ref s⁻¹,_,I.laid (t':=s.toks) (o:=.tup (xs++ys)) (λb ob q=>Heap.get?_push_of_some _ q) (ti _) ?_,rfl,U (λw=>z (G.tq.mpr w)) _ (I.bK.fresh (ti _))];show#[by rw[wh];show L,_,J.append G,VB _ _]
end
def yu(n:Nat)(i:Int):Option Nat:=if 0<=i then(if i<n then some i.toNat else none)else if -(n:Int)<=i then some (i+n).toNat else none
def AW{α:Type}(xs:List α)(i:Int):Option α:=(yu xs.length i).bind λj=>xs[j]?
theorem yK{n:Nat}{i:Int}{j:Nat}(h:yu n i=some j):WR i n=some j/\j<n /\ -(n:Int)<=i/\i<n:=by
 unfold yu at h;cases G:0<=i
 .rw[Xl G]at h;cases h1:i<n
  .rw[Xl h1]at h;let e:i.toNat=j:=rn h;show#[by rw[Ta G h1,e],af,af,h1]
  .rw[Xk h1]at h;cases h
 .rw[Xk G]at h;by_cases h1 : -(n:Int)<=i
  .rw[Xl h1]at h;let e:(i+n).toNat=j:=rn h;show#[by rw[seqIndex_neg af h1,e],af,h1,af]
  .rw[Xk h1]at h;cases h
theorem r9{α:Type}{xs:List α}{i:Int}{v:α}(h:AW xs i=some v):∃j,WR i xs.length=some j/\xs[j]?=some v/\j<xs.length /\ -(xs.length:Int)<=i/\i<xs.length:=by
 unfold AW at h;cases e:yu xs.length i with
 |none=>rwa[e]at h
 |some j =>
  rw[e]at h;let#[h1,h2,I,G]:=yK e;show#[j,h1,h,h2,I,G]
theorem kD{α:Type}{xs:List α}{j:Nat}{v:α}(h:xs[j]?=some v):AW xs (j:Int)=some v:=by
 let G:j<xs.length:=(kQ.mp h).1;let e:yu xs.length (j:Int)=some j:=by
  unfold yu;rw[Xl af,Xl (Pn Vq G)];simp
 unfold AW;rw[e];show h
def EF(b:Ot):Prop:=∀o i,UB b false o i=operate [o,i] (RN o i)
def LP(X:Cx)(r:R2):Prop :=
 ∀(value G:Ot)(pins:Xo)(s:kz)(σ:St)(H:Hp)(x y:V)(v u:Value)(Q:VK),~~~H s->RelV x v->RelV y u->r x y H Q ->
  UB G false v u=operate [v,u] (RN v u)->↑(UX value G v u) (EP X pins σ Q) X.xe s
def N7(X:Cx)(id:String)(r:V->List V->Hp->VK->Prop):Prop :=
 ∀(pins:Xo)(s:kz)(σ:St)(H:Hp)(x:V)(xs:List V)(v:Value)(us:Xu)(Q:VK),~~~H s->RelV x v->Vals xs us->r x xs H Q ->
  ↑(call (.builtin id) (v::us)) (EP X pins σ Q) X.xe s
section
variable{X:Cx}{a b:Ot}{ta tb:TE}{pos:QY}
theorem aY{r:R2}(R:LP X r)(L:PE X a ta)(G:PE X b tb)(hs:EF b):PE X (.Subscript a b pos) (Ej r ta tb):=by
 intros Q I h;show Wi (Iw L G I h λv u s2 x y H2 O N J q=>R a b pins s2 σ H2 x y v u Q O N J q (hs _ _))
inductive FC(K:HC)(x:V)(y:V)(H:Hp)(Q:VK):Prop
 |mk(p:_)(xs:_)(i:_)(v:_)(_:x=.ref p)(_:y=.int i)(_:bw K H p xs)(_:AW xs i=some v)(_:Q v H)
inductive Kc(K:HC)(x:V)(y:V)(H:Hp)(Q:VK):Prop
 |mk(p:_)(xs:_)(i:_)(v:_)(_:x=.ref p)(_:y=.int i)(_:bP K H p xs)(_:AW xs i=some v)(_:Q v H)
theorem cn:LP X (FC X.K):=by
 intro value ab pins s σ H x y v u Q I rx O h hs;let#[p,xs,i,z,rfl,rfl,R,he,q]:=h;cases rx;let#[t,rfl]:=O;let#[its,r,pl,hz]:=I.list R;let#[j,h1,h2,h3,h4,Y]:=r9 he;let#[w,L,S]:=r.get h2;let U:=r.length;let hn:=oO;let J:EP X pins σ Q w s:=#[z,H,I,S,q];cases N:0<=i
 .let G:i.toNat=j:=by
   rw[Ta N Y]at h1;show rn h1
  show item_listR pl.isList N af (by rw[G];simpa using L) J hs
 .let G:(i+(its.toArray.size:Int)).toNat=j:=by
   rw[seqIndex_neg af h4]at h1;rw[qi, <-U];show rn h1
  show Ue (x:=w) pl.isList.typeIs Vr.lookup
   (Ug (Q:=λr s'=>r=w/\EP X pins σ Q r s') pl.isList af (by rw[qi]<;>omega) af (by rw[G];simpa using L) #[rfl,J]) hs
theorem bf:LP X (Kc X.K):=by
 intro value ab pins s σ H x y v u Q I S G h hs;let#[p,xs,i,z,rfl,rfl,J,U,q]:=h;cases S;let#[t,rfl]:=G;let#[its,r,pl,hz]:=I.tuple J;let#[j,h1,h2,h3,h4,h5]:=r9 U;let#[w,N,O]:=r.get h2;let R:=r.length;let Y:=oO;let L:EP X pins σ Q w s:=#[z,H,I,O,q];show Ue (x:=w) pl.typeIs OO.lookup
  (getItem_tuple (j:=j) (Q:=λr s'=>r=w/\EP X pins σ Q r s') pl af af (by rw[qi, <-R];show h1) ‹N› #[rfl,L]) hs
theorem x8(its:Xu)(n j:Nat)(u:Value):Obj.mapSeq (·.setIfInBounds j u) { cls:=.type "list",data:=.seq its.toArray n }={ cls:=.type "list",data:=.seq (its.set j u).toArray n }:=by
 simp[Obj.mapSeq]
theorem Inv.lst{pins:Xo}{σ:St}{H:Hp}{s:kz}{p:Addr}{xs:List V}(I: ~~~H s)(h:H p=some (.lst xs)) :
  ∃(its:Xu)(n:Nat),Vals xs its/\s.heap.get? p=some { cls:=.type "list",data:=.seq its.toArray n }/\xs.length<=sizeLine:=by
 let#[z,its,n,r,e]:=I.bK p _ h;show#[its,n,r,e,z]
theorem Inv.Iu{pins:Xo}{σ:St}{H:Hp}{s:kz}{p:Addr}{xs ys:List V}{its its':Xu}{n G:Nat}{f:Obj->Obj}(I: ~~~H s)(h:H p=some (.lst xs))
  (N:s.heap.get? p=some { cls:=.type "list",data:=.seq its.toArray n }) (J:f { cls:=.type "list",data:=.seq its.toArray n }={ cls:=.type "list",data:=.seq its'.toArray G }) (r:Vals ys its') (O:ys.length<=sizeLine) (t:Nat) :
  ~~~(upd H p (.lst ys)) { s with heap:=s.heap.update p f,toks:=t }:=by
 let e:(s.heap.update p f).get? p=some { cls:=.type "list",data:=.seq its'.toArray G }:=by
  rw[Heap.get?_update_self f N (by rw[J]<;>rfl),J]
 show I.write (x:=p) (e:=p) (by rw[h];trivial) (.inl rfl) (λb u L q=>(Heap.get?_update_other _ _ (qs L)).trans q) #[_,e] ?_;show#[O,its',G,r,e]
inductive F9(o:V)(i:V)(v:V)(H:Hp)(Q:(Hp->Prop)):Prop
 |mk(p:_)(xs:_)(k:_)(j:_)(_:o=.ref p)(_:i=.int k)(_:H p=some (.lst xs))(_:yu xs.length k=some j)(_:Q (upd H p (.lst (xs.set j v))))
theorem set_list:FG X F9:=by
 intros o i v ov iv u Q I ro ri rv h;let#[p,xs,k,j,rfl,rfl,S,Y,q]:=h;cases ro;let#[t,rfl]:=ri;let#[its,n,r,G,hz]:=I.lst S;let#[h1,h2,O,U]:=yK Y;let L:=r.length;let hn:=oO;let N: ~~~(upd H p (.lst (xs.set j v))) { s with heap:=s.heap.update p (Obj.mapSeq (·.setIfInBounds j u)) }:=
  I.Iu S G (x8 its n j u) (r.set rv j) (by rw[OS];show hz) s.toks
 cases R:0<=k
 .let J:k.toNat=j:=by
   rw[Ta R U]at h1;show rn h1
  show PySem.W.ki_setAt G R af (by rw[qi, <-L];show U) (by rw[J];show#[_,N,q])
 .let J:(k+(its.toArray.size:Int)).toNat=j:=by
   rw[seqIndex_neg af O]at h1;rw[qi, <-L];show rn h1
  show PySem.W.ki_setBack G af (by rw[qi, <-L];show O) af (by rw[J];show#[_,N,q])
theorem sh(lo hi:Option Int)(n:Nat):(Rl lo hi none n).1=((HT.dE n 0 lo:Nat):Int)/\(Rl lo hi none n).2.1=((HT.dE n n hi:Nat):Int)/\(Rl lo hi none n).2.2=1:=by
 show#[3,rfl]
 .cases lo with
  |none=>simp[Rl,HT.dE]
  |some i =>
   simp only[Rl,HT.dE,getD_none,show(1:Int)>0 by decide,if_true];cases h:i<0
   .simp only[h,if_true]<;>omega
   .simp only[h,if_false]<;>omega
 .cases hi with
  |none=>simp[Rl,HT.dE]
  |some i =>
   simp only[Rl,HT.dE,getD_none,show(1:Int)>0 by decide,if_true];cases h:i<0
   .simp only[h,if_true]<;>omega
   .simp only[h,if_false]<;>omega
theorem qO(its:Xu)(lo hi:Option Int):slicePick its.toArray lo hi none=((its.drop (HT.dE its.length 0 lo)).take (HT.dE its.length its.length hi-HT.dE its.length 0 lo)).toArray:=by
 let#[h1,h2,G]:=sh lo hi its.toArray.size;unfold slicePick;rw[h1,h2,G];simp only[sliceRange_one,pick_run,qi]<;>rfl
inductive IW(K:HC)(x:V)(lo:Option Int)(hi:Option Int)(H:Hp)(Q:VK):Prop
 |mk(a:_)(xs:_)(_:x=.ref a)(_:bw K H a xs)(_:∀p,H p=none->Q (.ref p) (upd H p (.lst (fA xs lo hi))))
theorem gh:Kv X (IW X.K):=by
 intros x v S U lo hi sl Q I N hs pl O h;let#[a,xs,rfl,J,q]:=h;cases N;let#[its,r,G,R]:=I.list J;let L:=r.length;show#["list",_,Vr.lookup,G.isList.typeIs,?_];show wpAny_getItem_list_slice G.isList hs pl O .none (by simp) ?_ (by rw[qi]<;>omega);rw[qO, <-L];show#[.ref s⁻¹,_,I.laid (t':=s.toks) (o:=.lst (fA xs lo hi)) (λb ob q=>Heap.get?_push_of_some _ q) (ti _) ?_,rfl,q _ (I.bK.fresh (ti _))];show#[L1 (mG xs lo hi) R,_,(0),(r.drop (HT.dE xs.length 0 lo)).take (HT.dE xs.length xs.length hi-HT.dE xs.length 0 lo),Heap.get?_push_size _ rfl]
def d0:V->Bool
 |.non=>true
 |.bl _=>true
 |.int _=>true
 |.str _=>true
 |_=>false
def mM:V->V->Bool
 |.non,.non=>true
 |.bl a,.bl b=>a==b
 |.bl a,.int b=>(if a then 1 else 0)==b
 |.int a,.bl b=>a==(if b then 1 else 0)
 |.int a,.int b=>a==b
 |.str a,.str b=>a==b
 |_,_=>false
theorem lV{A:L7}{s:kz}{y x:V}{u v:Value}(I:RelV y u)(G:RelV x v)(L:d0 y=true)(J:d0 x=true):QC A s u v (mM y x):=by
 cases y with
 |non =>
  cases I;cases x with
  |non=>cases G;show SeqAt.EqAt.same _
  |bl b=>cases G;show SeqAt.EqAt.none_bool b
  |int b=>let#[t,rfl]:=G;show SeqAt.EqAt.none_int b t
  |str b=>let#[t,rfl]:=G;show SeqAt.EqAt.none_str b t
  |_=>show absurd (show false=true from J) By
 |bl a =>
  cases I;cases x with
  |non=>cases G;show SeqAt.EqAt.bool_none a
  |bl b=>cases G;show RV a b
  |int b=>let#[t,rfl]:=G;show SeqAt.EqAt.bool_int a b t
  |str b=>let#[t,rfl]:=G;show SeqAt.EqAt.bool_str a b t
  |_=>show absurd (show false=true from J) By
 |int a =>
  let#[t',rfl]:=I;cases x with
  |non=>cases G;show SeqAt.EqAt.int_none a t'
  |bl b=>cases G;show SeqAt.EqAt.int_bool a t' b
  |int b=>let#[t,rfl]:=G;show SeqAt.EqAt.int_int a t' b t
  |str b=>let#[t,rfl]:=G;show U1 a t' b t
  |_=>show absurd (show false=true from J) By
 |str a =>
  let#[t',rfl]:=I;cases x with
  |non=>cases G;show SeqAt.EqAt.str_none a t'
  |bl b=>cases G;show SeqAt.EqAt.str_bool a t' b
  |int b=>let#[t,rfl]:=G;show U2 a t' b t
  |str b=>let#[t,rfl]:=G;show SeqAt.EqAt.str_str a t' b t
  |_=>show absurd (show false=true from J) By
 |_=>show absurd (show false=true from L) By
def xV(x:V)(u:Value):Bool:=match u with
 |.none=>mM .non x
 |.bool b=>mM (.bl b) x
 |.int i _=>mM (.int i) x
 |.str z _=>mM (.str z) x
 |_=>false
theorem Dc{x y:V}{u:Value}(r:RelV y u)(f:d0 y=true):xV x u=mM y x:=by
 cases y with
 |non=>cases r;rfl
 |bl b=>cases r;rfl
 |int i=>let#[t,rfl]:=r;rfl
 |str z=>let#[t,rfl]:=r;rfl
 |_=>show absurd (show false=true from f) By
theorem lD{x:V}:∀{xs:List V}{us:Xu},Vals xs us->xs.all d0=true->us.any (xV x)=xs.any λy=>mM y x
 |_,_,.nil,_=>rfl
 |y::xs,u::us,.cons r t,f=>by
  rw[all_cons,Qe]at f;rw[UC,UC,Dc r f.1,lD t f.2]
theorem iY{A:L7}{s:kz}{x:V}{v:Value}(I:RelV x v)(J:d0 x=true):∀{xs:List V}{us:Xu},Vals xs us->xs.all d0=true->∀u∈us,QC A s u v (xV x u)
 |_,_,.nil,_=>λu G=>by cases G
 |y::xs,u::us,.cons r t,f=>λL G=>by
  rw[all_cons,Qe]at f;rcases BY.mp G with rfl|G
  .rw[Dc r f.1];show lV r I f.1 J
  .show iY I J t f.2 L G
def HY(x:V)(xs:List V):Bool:=xs.any λy=>mM y x
inductive Ny(K:HC)(neg:Bool)(x:V)(y:V)(H:Hp)(Q:VK):Prop
 |mk(p:_)(xs:_)(_:y=.ref p)(_:(bw K H p xs\/bP K H p xs))(_:d0 x=true)(_:xs.all d0=true)(_:Q (.bl (if neg then !HY x xs else HY x xs)) H)
theorem rq:mh X (PF .In) (Ny X.K false):=by
 intros x y v u Q I L O h;let#[p,xs,rfl,G,N,fs,q]:=h;cases O;rcases G with G|G
 .let#[its,r,pl,R]:=I.list G;show SeqAt.in_listAt (xV x) pl.isList (λw J=>iY L N r fs w ‹J›) #[.bl _,H,I,5];rw[show its.toArray.any (xV x)=its.any (xV x)by simp,lD r fs];show q
 .let#[its,r,pl,R]:=I.tuple G;show SeqAt.in_tupleAt (xV x) pl (λw J=>iY L N r fs w ‹J›) #[.bl _,H,I,5];rw[show its.toArray.any (xV x)=its.any (xV x)by simp,lD r fs];show q
theorem iD:mh X (PF .NotIn) (Ny X.K true):=by
 intros x y v u Q I L O h;let#[p,xs,rfl,G,N,fs,q]:=h;cases O;rcases G with G|G
 .let#[its,r,pl,R]:=I.list G;show SeqAt.notIn_listAt (xV x) pl.isList (λw J=>iY L N r fs w ‹J›) #[.bl _,H,I,5];rw[show its.toArray.any (xV x)=its.any (xV x)by simp,lD r fs];show q
 .let#[its,r,pl,R]:=I.tuple G;show SeqAt.notIn_tupleAt (xV x) pl (λw J=>iY L N r fs w ‹J›) #[.bl _,H,I,5];rw[show its.toArray.any (xV x)=its.any (xV x)by simp,lD r fs];show q
theorem bF:eJ X (.builtin "len") (λxs H Q=>∃p ys,xs=[.ref p]/\(bw X.K H p ys\/bP X.K H p ys)/\Q (.int ys.length) H):=by
 intros xs us Q I r h;let#[p,ys,rfl,G,q]:=h;let#[u,rfl,N]:=vals1 r;cases N;let R:=oO;rcases G with G|G
 .let#[its,J,pl,O]:=I.list G;let L:=J.length;show Calls.call_len_list pl.isList (by simp only[qi]<;>omega) #[.int ys.length,H,I.tok _,#[s.toks+1,by rw[qi,L]],q]
 .let#[its,J,pl,O]:=I.tuple G;let L:=J.length;show len_tuple pl (by simp only[qi]<;>omega) #[.int ys.length,H,I.tok _,#[s.toks+1,by rw[qi,L]],q]
theorem dR:eJ X (.type "list") (λxs H Q=>∃p ys,xs=[.ref p]/\(bw X.K H p ys\/bP X.K H p ys)/\∀l,H l=none->Q (.ref l) (upd H l (.lst ys))):=by
 intros xs us Q I r h;let#[p,ys,rfl,N,q]:=h;let#[u,rfl,rx]:=vals1 r;cases rx;let U:∀(its:Xu),Vals ys its->ys.length<=sizeLine->∀(h':Heap)(J:Nat),(∀b o',s.heap.get? b=some o'->h'.get? b=some o') ->
   h'.get? s⁻¹=some { cls:=.type "list",dict:=none,data:=.seq its.toArray J,slots := ([].toArray) }->EP X pins σ Q (.ref s⁻¹) { s with heap:=h' }:=λits G O h' J L e =>
  #[.ref s⁻¹,_,I.laid (t':=s.toks) L (ti _) (show bZ X.prog X.w _ h' _ (.lst ys)from#[O,its,J,G,e]),rfl,q _ (I.bK.fresh (ti _))]
 rcases N with N|N
 .let#[its,G,pl,O]:=I.list N;let Y:=G.length;let#[o,R,S,n,hd]:=pl.isList;show call_list_seq p (.inl rfl) R S hd (λh' J L e=>U its G O h' J L e) (by simp only[qi]<;>omega)
 .let#[its,G,pl,O]:=I.tuple N;let Y:=G.length;let#[o,R,S,n,hd]:=pl;show call_list_seq p (.inr rfl) R S hd (λh' J L e=>U its G O h' J L e) (by simp only[qi]<;>omega)
theorem qM:eJ X (.type "tuple") (λxs H Q=>∃p ys,xs=[.ref p]/\((bw X.K H p ys/\∀l,H l=none->Q (.ref l) (upd H l (.tup ys)))\/(bP X.K H p ys/\Q (.ref p) H))):=by
 intros xs us Q I r h;let#[p,ys,rfl,h]:=h;let#[u,rfl,R]:=vals1 r;cases R;rcases h with⟨J,q⟩|⟨J,q⟩
 .let#[its,G,pl,N]:=I.list J;let U:=G.length;show call_tuple_list pl.isList (λh' O=>?_) (by simp only[qi]<;>omega);let L: ~~~H { s with heap:=h' }:=I.kept (t':=s.toks) O;let S: ~~~(upd H h'.objs.size (.tup ys)) { s with heap:=h'.push { cls:=.type "tuple",data:=.seq its.toArray } }:=
   L.laid (t':=s.toks) (λb o e=>Heap.get?_push_of_some _ e) (ti _) (show bZ X.prog X.w _ _ _ (.tup ys)from#[N,its,G,VB _ _])
  show#[.ref h'.objs.size,_,S,rfl,q _ (L.bK.fresh (ti _))]
 .let#[its,G,pl,N]:=I.tuple J;show call_tuple_same pl #[.ref p,H,I,rfl,q]
def NV(K:HC)(T:String)(x:V)(H:Hp):Prop:=match x with
 |.str _=>T = "str"
 |.int _=>T = "int"
 |.ref p=>(T = "list" /\ ∃xs,bw K H p xs)\/(T = "tuple" /\ ∃o,K.lookup p=some o/\o.cls=.type "tuple" /\ o.dict=none) \/
   (T = "dict" /\ ((∃kvs,H p=some (.dK kvs))\/∃kvs,H p=some (.dT kvs)))\/(T = "set" /\ ∃S n,H p=some (.set S n))
 |_=>False
theorem ID{pins:Xo}{σ:St}{H:Hp}{s:kz}{T:String}{x:V}{v:Value}(I: ~~~H s)(r:RelV x v)(ty:NV X.K T x H) :
  s.TypeIs v T/\∀a,v=.ref a->∃ob,s.heap.get? a=some ob/\ob.dict=none:=by
 cases x with
 |str z =>
  let#[t,rfl]:=r;cases(show T = "str" from ty);show#[typeIs_str s z t,λ_ e=>nomatch e]
 |int i =>
  let#[t,rfl]:=r;cases(show T = "int" from ty);show#[Wj s i t,λ_ e=>nomatch e]
 |ref p =>
  cases r;rcases ty with⟨rfl,xs,L⟩|⟨rfl,o,G,N,hd⟩|⟨rfl,G⟩|⟨rfl,S,n,G⟩
  .let#[its,_,pl,_]:=I.list L;show#[pl.isList.typeIs,λa e=>?_];cases e;let#[o,n,e,c,hd,_]:=pl;show#[o,e,hd]
  .show#[#[o,I.jP p o G,N],λa e=>?_];cases e;show#[o,I.jP _ o G,hd]
  .let z:∃o,s.heap.get? p=some o/\o.ExactDict:=by
    rcases G with⟨kvs,G⟩|⟨kvs,G⟩
    .let#[_,_,_,_,o,_,_,e,ex,_]:=I.bK p _ G;show#[o,e,ex]
    .let#[_,_,_,_,o,_,_,e,ex,_]:=I.bK p _ G;show#[o,e,ex]
   let#[o,e,ex]:=z;show#[#[o,e,ex.1],λa J=>?_];cases J;show#[o,e,ex.2.1]
  .let#[o,_,_,_,e,ex,_]:=I.bK p _ G;show#[#[o,e,ex.1],λa J=>?_];cases J;show#[o,e,ex.2.1]
 |_=>show Pr ty
def Od(K:HC)(T:String)(r:V->List V->Hp->VK->Prop)(to:TE)(t:TA):TE:=λσ H Q=>to σ H λx H1=>NV K T x H1/\t σ H1 λxs H2=>r x xs H2 Q
variable{o e:Ot}{es:List Ot}{to:TE}{t:TA}{name:Str}{apos cpos:QY}{T id:String}{r:V->List V->Hp->VK->Prop}
theorem gq(N:PlainAttrs T)(slot:Slot T name id)(S:VF (.builtin id)=pure (.type "method_descriptor"))(U:N7 X id r)(Y:PE X o to)(R:PA X (e::es) t)
  (ap:QR o name X.env (eval o X.env)=eval o X.env:=by rfl)
  (ac:((backTo cpos (starEach (e::es) X.env)).all (λx => !x.1)&&(Ro cpos (Qr [] X.env)).all (λx=>x.1.isSome)
   && decide ((e::es).length+([]:List UM).length+(if ([]:List UM).isEmpty then 0 else 1)<30))=true:=by rfl)
  (as:(apos.endLine==cpos.line)=true:=by rfl) (hs:starEach (e::es) X.env=(false,eval e X.env)::starEach es X.env:=by rfl) (ah:(backTo cpos (starEach es X.env)).any (·.1)=false:=by rfl) :
  PE X (.Call (.Attribute o name apos) (e::es) [] cpos) (Od X.K T r to t):=by
 intros Q I h;show wpAny_Call_method_late ap ac as rfl (bW (Y pins s σ H _ I h) λv s1 ab=>?_);let#[x,H1,J,G,ty,q1]:=ab;let#[h1,h2]:=ID J G ty;show#[T,id,N,slot,S,h1,h2,?_];let L:=R cpos pins s1 σ H1 _ J q1;rw[hs]at L ⊢;show Calls.callWith_builtin (by change(false||(backTo cpos (starEach es X.env)).any (·.1))=false;rw[ah]<;>rfl) (Calls.evalArgs_plain ?_);show bW L λus s2 am=>by let#[vs,H2,I2,r2,O]:=am;show U pins s2 σ H2 x vs v us Q I2 G r2 O
end
def EA(X:Cx)(id:String)(r:V->List V->Hp->VK->Prop):Prop :=
 ∀(pins:Xo)(s:kz)(σ:St)(H:Hp)(x:V)(xs:List V)(v:Value)(us:Xu)(Q:VK),~~~H s->RelV x v->Vals xs us->r x xs H Q ->
  ↑(call (.builtin id) (v::us)) (EP X pins σ Q) X.xe s
theorem Vals.one:∀{x:V}{us:Xu},Vals [x] us->∃u,us=[u]/\RelV x u
 |_,_,.cons r .nil=>#[0,r]
theorem Vals.eraseIdx:∀{xs:List V}{us:Xu}(i:Nat),Vals xs us->Vals (xs.eraseIdx i) (us.eraseIdx i)
 |_,_,_,.nil=>.nil
 |_,_,0,.cons _ t=>t
 |_,_,i+1,.cons r t=>.cons r (Vals.eraseIdx i t)
theorem Vals.rep{xs:List V}{us:Xu}(h:Vals xs us):∀k:Nat,Vals (replicate k xs).flatten (replicate k us).flatten
 |0=>.nil
 |k+1=>by
  rw[Qg,Qg,Qs,Qs];show Vals.append h (Vals.rep h k)
theorem q8{α:Type}:∀(l:List α)(i:Nat),(l.eraseIdx i).length<=l.length
 | [],_=>ti _
 |_::_,0=>Sk _
 |_::r,i+1=>Nat.succ_le_succ (q8 r i)
theorem foldl_rep(its:Xu):∀(k:Nat)(G:Xu),
  foldl (λL I=>L++I) G.toArray (replicate k its.toArray)=(G++(replicate k its).flatten).toArray
 |0,G=>by simp
 |k+1,G=>by
  let e:G.toArray++its.toArray=(G++its).toArray:=(by simp);let J:(G++its)++(replicate k its).flatten=G++(replicate (k+1) its).flatten:=by
   rw[Qg,Qs,OE]
  rw[<-J, <-foldl_rep its k (G++its), <-e,Qg,List.foldl_cons]
section
variable{X:Cx}{pins:Xo}{σ:St}{H:Hp}{s:kz}{l b:Addr}{xs ys zs:List V}
theorem Inv.Fu{its its':Xu}{n:Nat}{f:Array Value->Array Value}{t':Nat}(I: ~~~H s)(L:H l=some (.lst xs))
  (e:s.heap.get? l=some { cls:=.type "list",data:=.seq its.toArray n }) (N:f its.toArray=its'.toArray) (G:Vals ys its') (O:ys.length<=sizeLine) :
  ~~~(upd H l (.lst ys)) { s with heap:=s.heap.update l (Obj.mapSeq f),toks:=t' }:=by
 let q:=RH e f;rw[N]at q;show I.write (x:=l) (e:=l) (by rw[L];show trivial) (.inl rfl) (λS u J R=>(Heap.get?_update_other s.heap (Obj.mapSeq f) (qs J)).trans R) #[_,q] ?_;show#[O,its',_,G,q]
theorem Inv.Lp{its:Xu}{t':Nat}(I: ~~~H s)(G:Vals ys its)(J:ys.length<=sizeLine) :
  ~~~(upd H s⁻¹ (.lst ys)) { s with heap:=s.heap.push { cls:=.type "list",data:=.seq its.toArray },toks:=t' }:=
 I.laid (λ_ _ q=>Heap.get?_push_of_some _ q) (ti _) #[J,its,(0),G,Heap.get?_push_size _ rfl]
theorem Inv.fresh(I: ~~~H s):H s⁻¹=none:=I.bK.fresh (ti _)
theorem Inv.lL(I: ~~~H s)(G:H l=some (.lst xs)):xs.length<=sizeLine/\∃(its:Xu)(n:Nat),Vals xs its/\xs.length=its.length/\s.heap.get? l=some { cls:=.type "list",data:=.seq its.toArray n }:=by
 let#[z,its,n,r,e]:=I.bK l _ G;show#[z,its,n,r,r.length,e]
theorem vC{n:Nat}(h:n<=sizeLine):Builtin.List.listTooLong n=false:=by
 unfold Builtin.List.listTooLong;show decide_eq_false af
inductive yW(x:V)(vs:List V)(H:Hp)(Q:VK):Prop
 |mk(l:_)(xs:_)(y:_)(_:x=.ref l)(_:vs=[y])(_:H l=some (.lst xs))(_:xs.length<sizeLine)(_:Q .non (upd H l (.lst (xs++[y]))))
theorem ic:EA X "list.append" yW:=by
 intros x vs v us Q I L O h;let#[l,xs,y,rfl,rfl,G,N,q]:=h;cases L;let#[u,rfl,J]:=O.one;let#[z,its,n,r,R,e]:=I.lL G;show QD F.slot_list_append #[_,e,rfl] F.entry_list_append (F.args_list_append_2 _ _) (list_append l its.toArray n u (by rw[qi];omega)) #[e,?_];show#[.non,_,I.Fu (its':=its++[u]) G e (by simp) (r.append (.cons J .nil)) ?_,rfl,q];rw[wh,Po];show W.kdl_size N
inductive zc(x:V)(vs:List V)(H:Hp)(Q:VK):Prop
 |mk(l:_)(b:_)(xs:_)(zs:_)(_:x=.ref l)(_:vs=[.ref b])(_:H l=some (.lst xs))(_:H b=some (.lst zs))(_:xs.length+zs.length<=sizeLine)(_:Q .non (upd H l (.lst (xs++zs))))
theorem rC:EA X "list.extend" zc:=by
 intros x vs v us Q I S rv h;let#[l,b,xs,zs,rfl,rfl,J,N,hz,q]:=h;cases S;let#[u,rfl,Y]:=rv.one;cases Y;let#[z,its,n,r,hl,e]:=I.lL J;let#[z2,G,U,O,ab,R]:=I.lL N;let hsz:its.toArray.size+G.toArray.size<=sizeLine:=(by rw[qi,qi];omega);let L:¬ (!its.toArray.isEmpty&&Builtin.List.listTooLong (its.toArray.size+G.toArray.size))=true:=by
  rw[vC hsz,UD];show By
 show QD F.slot_list_extend #[_,e,rfl] F.entry_list_extend (F.args_list_extend_2 _ _)
  (AutoSeq1.list_extend_list_list_0 l its.toArray n b G.toArray U L (by rw[qi];show Qa hsz) (Uh hsz)) #[e,R,?_]
 show#[.non,_,I.Fu (its':=its++G) J e (by simp) (r.append O) ?_,rfl,q];rw[wh];omega
inductive Bu(x:V)(vs:List V)(H:Hp)(Q:VK):Prop
 |mk(l:_)(xs:_)(i:_)(k:_)(y:_)(_:x=.ref l)(_:vs=[.int i])(_:H l=some (.lst xs))(_ : -(2^63)<=i)(_:i<2^63)(_:WR i xs.length=some k)(_:xs[k]?=some y)(_:Q y (upd H l (.lst (xs.eraseIdx k))))
theorem BD:EA X "list.pop" Bu:=by
 intros x vs v us Q I O Y h;let#[l,xs,i,k,y,rfl,rfl,G,h1,h2,S,J,q]:=h;cases O;let#[u,rfl,N]:=Y.one;let#[t,rfl]:=N;let#[z,its,n,r,U,e]:=I.lL G;let#[w,L,R]:=r.get J;show QD F.slot_list_pop #[_,e,rfl] F.entry_list_pop (F.args_list_pop_2 _ _)
  (MeetsSeq.list_pop_at l its.toArray n i t k w (fitsIndex_both h1 h2) (by rw[qi, <-U];show S) (by rw[<-Qn];show L) (by rw[qi];omega)) #[e,?_]
 show#[y,_,I.Fu (its':=its.eraseIdx k) G e ?_ (r.eraseIdx k) ?_,R,q]
 .change its.toArray.eraseIdxIfInBounds k=(its.eraseIdx k).toArray;rw[RB]
 .have:=q8 xs k;show L1 this z
inductive JN(x:V)(y:V)(H:Hp)(Q:VK):Prop
 |mk(l:_)(b:_)(xs:_)(zs:_)(_:x=.ref l)(_:y=.ref b)(_:H l=some (.lst xs))(_:H b=some (.lst zs))(_:xs.length+zs.length<=sizeLine)(_:∀p,H p=none->Q (.ref p) (upd H p (.lst (xs++zs))))
theorem um:mh X (Q7 .Add) JN:=by
 intros x y v u Q I R L h;let#[l,b,xs,zs,rfl,rfl,O,S,hz,q]:=h;cases R;cases L;let#[z,its,n,r,hl,e]:=I.lL O;let#[z2,G,Y,J,ab,N]:=I.lL S;show PySem.P.add_list e N ?_ (by rw[qi,qi];omega);let U:its.toArray++G.toArray=(its++G).toArray:=(by simp);rw[U];show#[.ref _,_,I.Lp (t':=s.toks) (r.append J) (by rw[wh];omega),rfl,q _ I.fresh]
inductive J3(x:V)(y:V)(H:Hp)(Q:VK):Prop
 |mk(l:_)(k:_)(xs:_)(_:x=.ref l)(_:y=.int k)(_:H l=some (.lst xs))(_ : -(2^63)<=k)(_:k<2^63)(_:xs.length*k.toNat<=sizeLine)(_:∀p,H p=none->Q (.ref p) (upd H p (.lst (replicate k.toNat xs).flatten)))
theorem len_rep{α:Type}(xs:List α)(k:Nat):(replicate k xs).flatten.length=k*xs.length:=by
 induction k with
 |zero=>simp
 |succ k G=>rw[Qg,Qs,wh,G,Nat.succ_mul,Nat.add_comm]
theorem qe:mh X (Q7 .Mult) J3:=by
 intros x y v u Q I rx O h;let#[l,k,xs,rfl,rfl,hH,h1,h2,L,q]:=h;cases rx;let#[t,rfl]:=O;let#[z,its,n,r,hl,e]:=I.lL hH;let S:its.toArray.size*k.toNat<=sizeLine:=(by rw[qi, <-hl];show L);let ab:¬ its.toArray.size*k.toNat>(2^63-1)/8:=by
  have:(sizeLine:Nat)<=(2^63-1)/8:=ar;omega
 let ac:¬ (!Builtin.List.listFitsIndex k)=true:=by
  rw[fitsIndex_both h1 h2];show By
 let Y:¬ Builtin.List.listTooLong (its.toArray.size*k.toNat)=true:=by
  rw[vC S];show By
 let N:foldl (λJ G=>J++G) ([].toArray) (replicate (if its.toArray.isEmpty=true then 0 else k.toNat) its.toArray)=(replicate k.toNat its).flatten.toArray:=by
  let R:∀m:Nat,foldl (λJ G=>J++G) ([].toArray) (replicate m its.toArray)=(replicate m its).flatten.toArray:=λm=>by
   have:=foldl_rep its m [];rw[VU]at this;show this
  rw[R];cases its with
  |nil=>simp
  |cons a r'=>rw[Xk (by simp)]
 show wpAny_binaryOp_repeat_ref (T := "list") (U := "int") ar #[_,e,rfl] (λs'=>Wj s' k t) noFill_list_mul F.fills_int_mul F.slot_int_rmul repeat_list F.slot_int_index.lookup
  (QD F.slot_int_rmul (Wj s k t) F.entry_int_rmul (F.args_int_rmul_2 _ _) (int___rmul___int_list k t l its.toArray n)
   #[e,rfl,#[_,e,rfl],QD F.slot_list_mul #[_,e,rfl] F.entry_list_mul (F.args_list_mul_2 _ _) (AutoListH.list___mul___list_int_3 l its.toArray n k t ac ab Y) #[e,?_]])
 rw[N];show#[.ref _,_,I.Lp (t':=s.toks) (r.rep k.toNat) (by rw[len_rep,Nat.mul_comm];show L),rfl,q _ I.fresh]
variable{prog:se}{w:G1}{A:L7}{E:Xp}
end
end L2
namespace Att
open PySem PySem.W PySem.Calls PyProof.Rows
theorem mU{P:Params}{h:Heap}:∀(ns:List Int)(vs:Xu),WellAll P h vs (ns.map WData.int)->RP vs ns:=by
 intro ns
 induction ns with
 |nil =>
  intro vs w;rwa[V3]at w;show .nil
 |cons n ns G =>
  intro vs w;rw[PM]at w;cases w with
  |cons a b =>
   cases a;show .cons _ _ (G _ b)
theorem zQ{l:RW}{n:Nat}(O:l.most=some n){P:Params}{h:Heap}{args:List WData}{J:Xu}
  (L:l.row.toRowW.claim.pre args=true) (Y:WellAll P h J args) :
  ∃a vs ns,J=[Value.ref a]/\args=[WData.list (ns.map WData.int)]/\h.get? a=some { cls:=.type "list",data:=.seq vs.toArray }/\RP vs ns/\ns.length<=n:=by
 let ab:WShape.hasAll [] args [.list .int]=true:=(pre_splitW L).1;let N:l.pre.holds [] { args:=args }=true:=(pre_splitW L).2;let#[d,r,rfl,h1,h2]:=hasAllW_cons ab;obtain rfl:=hasAllW_nil h2;let#[xs,rfl,h3]:=hasW_list h1;let#[ns,rfl]:=items_int h3;let U:ns.length<=n:=by
  unfold OpenLaw.pre at N;let G:(WTm.not (.lt (.lit (.int (n:Int))) (.len (.arg 0)))).holds [] { args:=[.list (ns.map .int)] }=true:=by
   let G:=(holds_andW N).1;rw[O]at G;show G
  let I:=condW_of G (w_not (w_lt w_lit (w_len_list (w_arg rfl))));rw[mu]at I;show OA λq=>?_;let R:(n:Int)<((ns.length:Nat):Int):=Pn Vq q
  first
   |(rw[decide_eq_true R]at I;show absurd I ar)
   |(simp at I;omega)
 cases Y with
 |cons w1 w2 =>
  cases w2;cases w1 with
  |list ho S=>show#[2,ns,1,ho,mU ns _ S,U]
theorem z8(l:RW)(args:List WData):l.row.toRowW.claim.post args (.bool true) args=true :=
 postW_of (r:=l.row.toRowW) (X:=(true==true))
  (show Xg [] (.bool true) .bool=true by first|rfl|decide|simp[Xg,WShape.arms,WShape.armsAll])
  (show(WTm.eq .res (.lit (.bool true))).value [] { args:=args,res:=some (.bool true),after:=args }=some (.bool (true==true))from w_eq_bool (w_res rfl) w_lit) rfl
theorem uL{l:RW}{n:Nat}{q:se}{loose:List Str}{XP:(Str->Option Value)->Heap->Prop}{O:G1->Heap->Prop}{d:DefRec}
  (U:l.most=some n) (ab:d.params.defaults=[])
  (call:∀(w:G1)(s₀ I:kz)(mg N:Xq)(J:Addr)(o:Obj)(pm cd L:Value)(a:Addr)(vs:Xu)(ns:List Int),
   Ground q loose [] XP w s₀ mg N I.heap->O w I.heap ->
   I.heap.get? J=some o->o.data=.func (docDef d.name d.params d.body d.scope pm cd L)->I.heap.CodeRec cd d.name->mg d.name=some (.ref J) ->
   I.heap.get? a=some { cls:=.type "list",data:=.seq vs.toArray }->RP vs ns->ns.length<=n->I.gens = ([].toArray) ->
   RO (model l.prog w) UN (.call (.ref J) #[[.ref a],[]]) (λr s'=>r=.ok (.ret (.bool true))/\OldK I.heap s'.heap/\s'.os=I.os/\Sh s'.gens) I) :
  V4 q loose XP O l.row.toRowW d [] (λf vs=>Wk f vs):=by
 intro w s₀ I mg N G Y J o pm cd L S kV ho hd ap R ac hg args a1 as aB a3 a4 am a2;obtain rfl:S=.none:=Dflts.none R ab;obtain rfl:kV=.none:=Dflts.noKw R;let#[a,vs,ns,rfl,rfl,aT,a0,ah]:=zQ U aB am;show enter_call (Sj (call w s₀ I mg N J o pm cd L a vs ns G Y ho (fd_plain hd) ap ac aT a0 ah hg) λr s' hq=>?_);let#[rfl,h2,h3,h4]:=hq;show#[.inl #[.bool true,.bool true,[],rfl,λ_=>rfl,.bool true,z8 l _,λ_=>#[Tc,λ_ hm=>(nomatch hm)]],h2,h3,h4]
section
variable{prog:se}{w:G1}{A:L7}{E:Xp}{s:kz}{K:HC}
end
end Att
namespace L2
open PySem PySem.Spec PyProof.Rows
theorem lZ:∀{vs:Xu}{ns:List Int},RP vs ns->Vals (ns.map V.int) vs
 |_,_,.nil=>.nil
 |_,_,.cons n t h=>.cons #[t,rfl] (lZ h)
def HP(H:Hp):Prop:=∀b,H b=none\/∃o xs,H b=some (.cW o (.lst xs))
theorem DV{P:se}{w:G1}{K:HC}{mg R:Xq}{CX:rZ}{k:Nat}{S a:Addr}{fd:p4}{x:Str}{sp:Sp}{G:kz}{vs:Xu}{ns:List Int}
  (U:K.In G.heap) (ab:G.heap.Ns Ox mg) (I:G.heap.Ns V7 R) (a4:∀x:Str,x ≠ "__name__" -> R x=OD x) (a3:G.heap.NoLimit) (hg:G.gens = ([].toArray))
  (J:G.heap.get? a=some { cls:=.type "list",data:=.seq vs.toArray }) (hi:RP vs ns) (hl:ns.length<=sizeLine) (hr:dB k UN)
  (F:∀base:Heap,K.In base->base.Ns Ox mg->aV P w K mg base CX k S fd [x] sp) (aB:∀(s:kz)(u:Value),Vn s fd #[[u],[]] [(x,u)])
  (aT:∀H:Hp,HP H->bw K H a (ns.map V.int)->sp [.ref a] H (λv _=>v=.bl true) λ_ _ _=>False)
  (a2:∀H e s',CX [] H G (λ_ _ _=>False) e s'->False) :
  RO (model P w) UN (.call (.ref S) #[[.ref a],[]]) (λr s'=>r=.ok (.ret (.bool true))/\OldK G.heap s'.heap/\s'.os=G.os/\Sh s'.gens) G:=by
 let rv:=lZ hi;let a1:=hi.length;let ah:∀H:Hp,HP H->bw K H a (ns.map V.int)->jQ P w H G.heap->(∀b,H b≠none->b=a)->(H a≠none->K.lookup a=none) ->
   RO (model P w) UN (.call (.ref S) #[[.ref a],[]]) (λr s'=>r=.ok (.ret (.bool true))/\OldK G.heap s'.heap/\s'.os=G.os/\Sh s'.gens) G:=by
  intro H hO hS bK Y hK;let ac:∀{b:Addr}{o:Obj},G.heap.get? b=some o->H b=none->(tT G.heap H).get? b=some o:=λe n=>BO e n;let ap:∀{b:Addr}{o:Obj}{es:Array DictEntry}{ep:Nat},G.heap.get? b=some o->o.data=.dict es ep->H b=none:=λ{b o es ep} e d=>by
   cases q:H b with
   |none=>rfl
   |some u =>
    let O:b=a:=Y b (by rw[q];simp);subst O;rwa[J]at e;let d':Wl vs.toArray _=Data.dict es ep:=d;cases d'
  let L:∀{b:Addr}{m:Xq},G.heap.Ns b m->(tT G.heap H).Ns b m:=λ{b m} as=>(by let#[o,es,ep,e,d,r]:=as;show#[o,es,ep,ac e (ap e d),d,r]);let am:K.In (tT G.heap H):=λb o e=>ac (U b o e) (by
   cases q:H b with
   |none=>rfl
   |some u =>
    let O:b=a:=Y b (by rw[q];simp);subst O;rwa[hK (by rw[q];simp)]at e)
  let hM:Mod K mg (tT G.heap H):=#[am,L ab,#[R,L I,a4],let ⟨mc,h1,h2⟩:=a3;#[mc,L h1,h2]];let e0:yh P w K mg (tT G.heap H) UN [] G H:=#[rfl,hM,λb o e=>ET e,Wc (Am _ _),6,λb I=>absurd (show b∈([]:List Addr)from I) (by simp),bK,.of_eq hg];show Sj ((F _ am (L ab)).run UN [] G H #[[.ref a],[]] [.ref a] [.ref a] _ _ hr e0 (aB G (.ref a)) (.cons rfl .nil) (aT H hO hS)) λr s' h=>?_;cases r with
  |error e=>show(a2 H e s' h).elim
  |ok fl =>
   cases fl with
   |next=>show Pr h
   |brk=>show Pr h
   |cont=>show Pr h
   |ret u =>
    let#[v,H',os,bare,un,a0,r',q]:=h;let q':v=.bl true:=q;subst q';obtain rfl:u=Value.bool true:=r';show#[rfl,OldK.of_keep λb o e=>?_,os,bare];cases q:H b with
    |none=>show un.keep b o e q (by intro z;show absurd (show b∈([]:List Addr)from z) (by simp)) (by simp)
    |some u =>
     rcases hO b with z|⟨ob,xs,z⟩
     .rw[q]at z;cases z
     .let z2:=un.mV b ob _ z;let#[e1,_]:=bK b _ z;let#[e2,_]:=a0 b _ z2;rwa[e]at e1;show e2
 cases N:K.lookup a with
 |some o =>
  let e:=U a o N;rwa[J]at e;show ah (λ_=>none) (λ_=>.inl rfl) (.inr #[_,vs.toArray,_,N,1,rfl,by rw[qi,a1];show hl,by simpa using rv]) (λb u z=>by let z':(none:Option HO)=some u:=z;cases z') (λb z=>absurd rfl z) λz=>absurd rfl z
 |none =>
  show ah (λb=>if b=a then some (.cW { cls:=.type "list",data:=.seq vs.toArray } (.lst (ns.map V.int)))else none) (λb=>?_) (.inl (.inr #[{ cls:=.type "list",data:=.seq vs.toArray },Xl rfl])) (λb u z=>?_) (λb z=>?_) λ_=>N
  .by_cases I:b=a
   .show .inr #[2,Xl I]
   .show .inl (Xk I)
  .by_cases I:b=a
   .let z':=(Xl I).symm.trans z;cases z';subst I;show#[J,by rw[mu];show hl,vs,_,rv,J]
   .let z':=(Xk I).symm.trans z;cases z'
  .by_cases I:b=a
   .show I
   .show absurd (Xk I) z
theorem E8{l:RW}{n k:Nat}{q:se}{loose:List Str}{XP:(Str->Option Value)->Heap->Prop}{N:G1->Heap->Prop}{d:DefRec}{K:Params->HC}{CX:G1->rZ}{sp:G1->Sp}{x:Str}
  (O:l.most=some n) (ap:n<=sizeLine) (R:d.params.defaults=[]) (hr:dB k UN)
  (S:∀(w:G1)(h:Heap),N w h->(K w.params).In h)
  (F:∀(w:G1)(mg:Xq)(I:Addr)(h:Heap),(K w.params).In h->h.Ns Ox mg->mg d.name=some (.ref I) ->
   ∃fd:p4,(∀(s:kz)(u:Value),Vn s fd #[[u],[]] [(x,u)]) /\
    ∀base:Heap,(K w.params).In base->base.Ns Ox mg->aV l.prog w (K w.params) mg base (CX w) k I fd [x] (sp w))
  (ah:∀(w:G1)(H:Hp)(a:Addr)(ns:List Int),ns.length<=n->HP H->bw (K w.params) H a (ns.map V.int)->sp w [.ref a] H (λv _=>v=.bl true) λ_ _ _=>False)
  (am:∀(w:G1)(H:Hp)(s:kz)(e:Value)(s':kz),CX w [] H s (λ_ _ _=>False) e s'->False) :
  V4 q loose XP N l.row.toRowW d [] (λf vs=>Wk f vs):=by
 show Att.uL O R λw s₀ ab mg mb I o pm cd aB a vs ns G Y ho hd aT U ac as L hg=>?_;let J:=S w _ Y;let#[fd,hb,hF]:=F w mg I _ J G.T.g U;show DV J G.T.g G.T.b G.T.builtins G.T.nolimit hg ac as (L1 L ap) hr hF hb (λH hO hS=>ah w H a ns L hO hS) λH e s'=>am w H ab e s'
def inClass(s:Ow)(j:Nat):Ow:=match s with
 |.ClassDef _ _ _ body _ _ _ _ _ _ _=>body.getD j (.Pass #[(0),(0),(0),(0)])
 |_=>.Pass #[(0),(0),(0),(0)]
def gI(s:Ow):Arguments:=match s with
 |.FunctionDef _ a _ _ _ _ _ _ _ _=>a
 |_=>{ posonlyargs:=[],args:=[],vararg:=none,kwonlyargs:=[],kw_defaults:=[],kwarg:=none,defaults:=[] }
def eD(s:Ow):List Ow:=match s with
 |.FunctionDef _ _ b _ _ _ _ _ _ _=>b
 |_=>[]
def aw(s:Ow):SU:=match s with
 |.FunctionDef _ _ _ _ _ _ G _ _ _=>G
 |_=>{ kind:=.function,names:=[],isGenerator:=false,isCoroutine:=false }
abbrev aZ:rZ:=λ_ _ _ _ _ _=>False
abbrev E0:XK:=λ_ _ _=>False
theorem aC{X:Cx}:Passes aZ X E0:=λ_ _ _ _ _ _ _ h=>h.elim
structure cE(K:HC)(x qual:Str)(st:Ow)(f:Addr)(fd:p4):Prop where
 ex:∃(oc:Value)(od:Xw)(kV doc pm:Value)(an:Xw)(cdv ct:Value)(osl:Array (Option Value)),
  fd=WW x qual (gI st) (eD st) (aw st) .none kV doc pm an cdv ct/\K.lookup f=some #[oc,od,.func fd,osl]/\WX K cdv qual=true
 kp:T8 K (.ref f)=true
section
variable{P:se}{w:G1}{K:HC}{mg:Xq}{base:Heap}
theorem cE.ok{x I:Str}{st:Ow}{f:Addr}{fd:p4}{N ps:List Str}{k:Nat}{sp:Sp}(F:cE K x I st f fd)(S:aE N ps (aw st))(len:∀vs H Q E,sp vs H Q E->vs.length=ps.length)
  (O:∀(G:Value)(A:L7)(outer:List Tt)(s:kz)(H:Hp)(vs:List V)(Q:VK)(E:XK),dB k (A.deeper (Sw I (aw st) s⁻¹ f G))->sp vs H Q E ->
   ∃t,vo (tD aZ P w K mg base N I (aw st) f G A outer s H E).nA (eD st) t/\t { nx:=λ_ H'=>Q .non H',rt:=Q } (start N vs) H):↥aV (k+1) f fd ps sp:=by
 let#[oc,od,kV,Y,pm,an,G,ct,ab,rfl,J,L]:=F.ex;show F4 J L S len λA outer s H vs Q E U R=>?_;let#[t,h,q]:=O G A outer s H vs Q E U R;show#[t,h.nA,q]
theorem cE.dS{x G:Str}{st:Ow}{f:Addr}{fd:p4}{N ps:List Str}{k:Nat}{sp:Sp}(F:cE K x G st f fd)(S:aE N ps (aw st))
  (J:∀(I:Value)(A:L7)(outer:List Tt)(s:kz)(H:Hp)(vs:List V)(Q:VK)(E:XK),dB k (A.deeper (Sw G (aw st) s⁻¹ f I))->sp vs H Q E ->
   ∃t,vo (tD aZ P w K mg base N G (aw st) f I A outer s H E).nA (eD st) t/\t { nx:=λ_ H'=>Q .non H',rt:=Q } (start N vs) H) (len:∀vs H Q E,sp vs H Q E->vs.length=ps.length:=by intro vs H Q E h;cases h<;>subst_vars<;>rfl):↥aV (k+1) f fd ps sp:=F.ok S len J
theorem cE.binds{x J:Str}{st:Ow}{f:Addr}{fd:p4}{ps:List Str}(F:cE K x J st f fd)
  (h:∀(kV I pm:Value)(an:Xw)(G ct:Value)(us:Xu),us.length=ps.length->Wd (WW x J (gI st) (eD st) (aw st) .none kV I pm an G ct) #[us,[]]=pure (ps.zip us)):Binds K fd ps []:=by
 let#[oc,od,kV,I,pm,an,G,ct,N,rfl,L,O]:=F.ex;show .all (h kV I pm an G ct)
theorem uv{x I:Str}{st:Ow}{f:Addr}{oc:Value}{od an:Xw}{L:Array (Option Value)}{kV J pm G ct:Value}(l:K.lookup f=some #[oc,od,.func (WW x I (gI st) (eD st) (aw st) .none kV J pm an G ct),L])
  (c:WX K G I=true) (k:T8 K (.ref f)=true):cE K x I st f (WW x I (gI st) (eD st) (aw st) .none kV J pm an G ct):=#[#[oc,od,kV,J,pm,an,G,ct,L,rfl,l,c],k]
end
theorem bz{A:L7}{k:Nat}(G:dB k A):A.units+1<QO:=Qh (UT (by decide:1<=64) _) G.units
theorem jw{n:Nat}(h:n<=1000):n<sizeLine:=Qh h ar
section
variable{X:Cx}
theorem pv(i:Nat){x:Str}{pos:QY}(J:X.N[i]?=some x:=by rfl)(G:Lr X.env.scope x:=by first|show Xh rfl|show Xi (Xh rfl)|show Xi (Xi rfl))(hd:(x==("__debug__" : Str))=false:=by decide)
  (I:(x==("__classdict__" : Str))=false:=by decide):PE X (.Name x pos) (uO i):=Jk J G hd I
end
theorem b9{A B:Prop}(h:B):if false=true then A else B:=by
 rw[Xk By];show h
theorem eS{A B:Prop}(h:A):if true=true then A else B:=by
 rw[Xl rfl];show h
theorem gM{c A B:Prop}[Decidable c](h1:c->A)(h2:¬ c->B):if c then A else B:=by
 cases h:c
 .rw[Xl h];show h1 h
 .rw[Xk h];show h2 h
def aP(H H':Hp):Prop:=∀b o,H b=some o->H' b=some o
theorem aP.refl(H:Hp):aP H H:=λ_ _ h=>h
theorem aP.trans{H H1 H2:Hp}(a:aP H H1)(b:aP H1 H2):aP H H2:=λc o h=>b c o (a c o h)
theorem aP.free{H H':Hp}(e:aP H H'){l:Addr}(h:H' l=W8):H l=W8:=by
 cases q:H l with
 |none=>rfl
 |some o =>
  rwa[e l o q]at h
def uk(X:Cx)(G:List Str)(scope:SU)(cl:List (Str×Addr))(C:Addr)(s₀:kz)(H₀:Hp)(ex:List Addr):Cx where
 prog:=X.prog
 w:=X.w
 K:=X.K
 mg:=X.mg
 base:=X.base
 A:=X.A
 N:=G
 s₀:=s₀
 H₀:=H₀
 env:=Wm scope cl C X.env
 outer:=X.stack
 stack:=X.stack
 ex:=ex
 fn:=λ_=>false
 calm:=X.calm
 pn:=[]
 xe:=λ_ _=>False
def hV(t:Str)(caps:List (Str×Nat)):List Str:=t::caps.map (·.1)
def gL(caps:List (Str×Nat))(σ:St)(v:Option V):St:=v::caps.map λp=>(σ[p.2]?).join
structure kZ(X:Cx)(scope:SU)(cl:List (Str×Addr))(t:Str)(caps:List (Str×Nat)):Prop where
 kind:scope.kind=.function
 Hz:∀y∈scope.names,y.2≠.cell
 names:∀y∈scope.names,y.2=.local->scope.names.lookup y.1=some .local
 NU:scope.names.lookup t=some .local
 KQ:closureFor scope X.env=pure cl
 sub:∀p∈cl,X.env.cells.lookup p.1=some p.2
 has:((relabel scope X.env).names.all λy => !(y.2 == .cell||y.2 == .free)||(cl.lookup y.1).isSome)=true
 Og:∀p∈caps,X.N[p.2]?=some p.1/\(X.env.kindOf p.1=some .cell\/X.env.kindOf p.1=some .free)/\((relabel scope X.env).names.lookup p.1=some .cell\/(relabel scope X.env).names.lookup p.1=some .free)
 nd:(hV t caps).Nodup
section
variable{X:Cx}{scope:SU}{cl:List (Str×Addr)}{t:Str}{caps:List (Str×Nat)}{pins:Xo}{σ:St}{H:Hp}{s:kz}{C:Addr}{fp:List Addr}
theorem kZ.look(K:kZ X scope cl t caps){x:Str}{c:Addr}(h:cl.lookup x=some c):X.env.cells.lookup x=some c:=K.sub (x,c) (PH h)
theorem kZ.hs(K:kZ X scope cl t caps){x:Str}(h:(relabel scope X.env).names.lookup x=some .cell\/(relabel scope X.env).names.lookup x=some .free):∃c,cl.lookup x=some c:=by
 let G:∀k,(relabel scope X.env).names.lookup x=some k->(k==NameKind.cell||k==NameKind.free)=true->∃c,cl.lookup x=some c:=λk e I=>by
  have:=OG.mp K.has (x,k) (PH e);dsimp only at this;rw[I]at this;show Qw.mp ‹this›
 rcases h with h|h
 .show G _ h rfl
 .show G _ h rfl
theorem NF(I: ~~~H s)(K:kZ X scope cl t caps)(J:∀b∈fp,gz X pins H b)(R:∀b∈fp,b<s⁻¹)(L:s⁻¹<=C):(uk X (hV t caps) scope cl C s H fp).Ok where
 mod:=I.ok.mod
 kind:=K.kind
 glob:=I.ok.glob
 blt:=I.ok.blt
 above:=L
 inj:=λx y c h1 h2=>I.ok.inj x y c (K.look h1) (K.look h2)
 has:=λx O=>K.hs O
 Ie:=λx c h=>nomatch (show false=true from h)
 hd:=I.ok.hd
 frames:=I.ok.frames
 Jw:=.inl rfl
 LI:=λb G=>#[OR (Oq (R b G) L),λx c e=>(J b G).2.2.2.2.1 x c (K.look e)]
 bs:=I.bs
 Bc:=L1 I.ok.Bc I.sz
 x9:=λb o e G=>by
  rcases(J b G).2.2.2.1 with z|z
  .show I.ok.x9 b o e z
  .show absurd (Oq (Heap.lt_size e) (L1 I.ok.Bc z)) (Q2 _)
 wW:=λb G N=>by
  rcases BY.mp (I.sj b N)with e|e
  .show(J b G).2.1 e
  .show(J b G).2.2.1 e
 jY:=I.stack
 EY:=I.sN
theorem Nc{O:Heap}{m:Xq}{tk:Nat}(I: ~~~H s)(K:kZ X scope cl t caps)(hf:∀b∈fp,gz X pins H b)(ho:∀b∈fp,b<s⁻¹)(hC:s⁻¹<=C)
  (R:∀b o,s.heap.get? b=some o->O.get? b=some o) (ns:O.Ns C m):Inv (uk X (hV t caps) scope cl C s H fp) [] (gL caps σ none) H { s with heap:=O,toks:=tk }:=by
 let Y:∀c v,s.heap.IsCell c v->O.IsCell c v:=λc v ah=>(by let#[o,e,d]:=ah;show#[o,R c o e,d]);show#[NF I K hf ho hC,rfl,I.bare,Un.kept R,#[m,ns,λi x v e1 U e3=>?_],λx c e=>?_,I.bK.fresh hC,λx c e=>I.f9 x c (K.look e),λp G=>absurd (show p∈([]:Xo)from G) (by simp),I.bK.kept R,by simp[gL,hV,uk]]
 .cases i with
  |zero =>
   let L:some (none:Option V)=some (some v):=U;cases L
  |succ j =>
   let J:(caps.map (·.1))[j]?=some x:=e1;let L:(caps.map λp=>(σ[p.2]?).join)[j]?=some (some v):=U;rw[t5]at J L;cases G:caps[j]? with
   |none=>rwa[G]at J
   |some p =>
    rw[G]at J L;let ex:p.1=x:=rn J;let N:(σ[p.2]?).join=some v:=rn L;let as:σ[p.2]?=some (some v):=by
     cases q:σ[p.2]? with
     |none=>rwa[q]at N
     |some z=>rw[q]at N;show congrArg some N
    let#[hN,S,ab]:=K.Og p (z6 G);subst ex;let#[m',_,hl]:=I.loc;let am:Lr X.env.scope p.1:=by
     rcases S with z|z
     .show .inr (.inl z)
     .show .inr (.inr z)
    let#[u,r,l]:=hl p.2 p.1 v hN as am;let#[c,hc]:=K.hs ab;rcases l with⟨z,_⟩|⟨_,c',ac,ap⟩
    .rcases S with y|y<;>(rwa[y]at z)
    .rw[K.look hc]at ac;cases ac;show#[u,r,.inr #[ab,c,hc,Y c _ ap]]
 .let#[v,z]:=I.cell x c (K.look e);show#[v,Y c v z]
theorem Inv.JW{D:Addr}{ys:List V}{its:Xu}{n:Nat}(I: ~~~H s)(f:gz X pins H D)(e:s.heap.get? D=some { cls:=.type "list",data:=.seq its.toArray n })(r:Vals ys its)(S:ys.length<=sizeLine) :
  ~~~(upd H D (.lst ys)) s:=by
 let#[J,R,f2,U,N,Y]:=f;let#[L,g,d,tk,os]:=s;show I.step (g':=g) (d':=d) (t':=tk) (h':=L) (ch:=[D]) (λb G=>?_) (λb o _ _ _ e _=>e) (λb o _ _ _ e _=>#[o.slots,e]) (λb o G _ n=>?_) (λb o _ e=>#[o,e]) (λb xs q=>?_) (λb o u q=>?_) (λb ps q=>#[([].toArray),?_]) (λm O=>O) (λb u q=>?_) I.bare
 .let z:b=D:=‹G›;subst z;show#[U,R,N,Y]
 .rw[ai (λz=>G (by simp[z]))];show n
 .rw[ai (au q J)];show q
 .rw[ai (au q J)];show q
 .rw[ai (au q J),q];simp
 .by_cases G:b=D
  .subst G;rwa[ae]at q;show#[S,its,n,r,e]
  .rw[ai G]at q;show(I.bK b u q).iP (λ_ _ _ z=>z) (λc z=>by rw[ai (au z J)];show z) λc xs z=>by rw[ai (au z J)];show z
end
def LS(X:Cx)(ifs:List Ot)(t:TT):Prop :=
 ∀(pins:Xo)(s:kz)(σ:St)(H:Hp)(Q:Bool->Hp->Prop),~~~H s->t σ H Q ->
  ↑(forIn ifs true λc r=>if r=true then do let ok <-isTrue c X.env (eval c X.env);pure (VW ok)else pure (VW r)) (TP X pins σ Q) X.xe s
def qx:TT:=λ_ H Q=>Q true H
theorem gB{X:Cx}:LS X [] qx:=λ_ _ _ H _ I h=>wpAny_tests_nil #[H,I,h]
def iX(caps:List (Str×Nat))(tt:TT)(te:TE)(σ:St)(J:It)(Q:List V->Hp->Prop)(W:Nat->Nat->List V->Hp->Prop):Prop :=
 ∀i m ys H,W i m ys H->(J.stop i H/\Q ys H)\/(J.go i H/\∃N:List V->Hp->Prop,(∀G H',N G H'->∃I,I<m/\W (i+1) I G H')/\∀x H',J.En i H x H'->tt (gL caps σ (some x)) H' λb H2 =>
  if b=true then te (gL caps σ (some x)) H2 (λy H3=>ys.length<sizeLine/\N (ys++[y]) H3)else N ys H2)
def Gn(caps:List (Str×Nat))(wi:TI)(tt:TT)(te:TE):TE:=λσ H Q=>wi σ H λJ H1 =>
 ∃W:Nat->Nat->List V->Hp->Prop,(∃m,W 0 m [] H1)/\iX caps tt te σ J (λys H2=>∀p,H2 p=none->Q (.ref p) (upd H2 p (.lst ys))) W
section
variable{X:Cx}{scope:SU}{cl:List (Str×Addr)}{t:Str}{caps:List (Str×Nat)}{elt iter:Ot}{ifs:List Ot}{px pos:QY}{wi:TI}{tt:TT}{te:TE}
theorem oZ{pins:Xo}{σ:St}{H:Hp}{s:kz}{J:It}{fp:List Addr}{it:Addr}{tn:Nat->Heap->Prop}{W:Nat->Nat->List V->Hp->Prop}{QE:List V->Hp->Prop}{E:Xp}{RR:Value->Addr->WV->kz->Prop}{m0:Nat}
  (K:kZ X scope cl t caps) (hc:X.calm=true)
  (ht:∀C s₀ H₀ ex,LS (uk X (hV t caps) scope cl C s₀ H₀ ex) ifs tt) (he:∀C s₀ H₀ ex,PE (uk X (hV t caps) scope cl C s₀ H₀ ex) elt te)
  (I: ~~~H s) (T:Turn X.prog X.w X.K (.Name t px) J fp it tn) (st:tn 0 s.heap) (U:∀b∈fp,gz X pins H b) (w0:W 0 m0 [] H) (hW:iX caps tt te σ J QE W)
  (b8:∀D C ys H' s' m,H' D=none->~~~(upd H' D (.lst ys)) s'->s'.heap.Ns C m->gz X pins (upd H' D (.lst ys)) C->QE ys H'->RR (.ref D) C (.ok .next) s') :
  ↑(newList []) (λba ab=>↑(newFunctionEnv scope X.env.globals cl [] X.env.qual none .none (some X.env)) (λbi ce =>
   RO (model X.prog X.w) X.A (.compStart (.ListComp elt [#[.Name t px,iter,ifs,(0)]] scope pos) 0 (.ref it) ba { bi with scope:=relabel scope X.env }) (RR ba bi.locals) ce) E ab) E s:=by
 show Qp (wpAny_newFunctionEnv K.Hz (by intro y hy;simp at hy) (λah aB ap=>?_) K.kind);dsimp only at aB ap ⊢;generalize a6:s.heap.push { cls:=.type "list",dict:=none,data:=.seq ([]:Xu).toArray }=H2 at aB ap ⊢;let hC:H2.objs.size=s⁻¹+1:=(by rw[<-a6,Heap.size_push]);let am:s⁻¹≠H2.objs.size:=(by rw[hC];show OR (RF _));let a5:s⁻¹<=H2.objs.size:=(by rw[hC];show Sk _);let below:∀b,b<s⁻¹->b≠H2.objs.size:=λb G=>(by rw[hC];show OR (Rq G));let bb:∀b o,s.heap.get? b=some o->ah.get? b=some o:=λb o e=>ap.extBut b o (below b (Heap.lt_size e)) (Heap.get?_push_of_some _ (a6▸Heap.get?_push_of_some _ e));let b6:ah.get? s⁻¹=some { cls:=.type "list",data:=.seq ([]:Xu).toArray }:=ap.extBut _ _ am (Heap.get?_push_of_some _ (a6▸Heap.get?_push_size _ rfl));let ho:∀b∈fp,b<s⁻¹:=λb G=>let ⟨_,e,_⟩:=T.obj 0 _ st b G;Heap.lt_size e;let bn:s⁻¹∉fp:=λhm=>Q2 _ (ho _ hm);let bd:tn 0 ah:=T.keep 0 _ _ st λb _ o e=>bb b o e;let b0:s⁻¹∉qA X.stack:=λz=>by
  rcases BY.mp (I.sj _ z)with e|e
  .show absurd (e▸I.lt) (Q2 _)
  .show I.J9 (ti _) e
 let b2:∀x c,cl.lookup x=some c->c≠s⁻¹:=λx c e z=>by
  let#[v,q]:=I.cell x c (K.look e);show absurd (z▸q.lt) (Q2 _)
 let a7:∀{pl:Xo}{L:Hp},(∀b∈fp,L b=none)->(∀p∈pl,p.1∉fp)->∀b∈fp,gz (uk X (hV t caps) scope cl H2.objs.size s H fp) pl L b:=λ{pl L} hn S b G =>
  #[hn b G,below b (ho b G),(NF I K U ho a5).wW b G,.inl G,λx c e=>(U b G).2.2.2.2.1 x c (K.look e),λp bY z=>by
   let b1:p∈pl:=bY;show S p b1 (z▸G)]
 let bl:∀ab:kz,ab={ s with heap:=ah,toks:=s.toks+([]:List (Str×Value)).length } ->
   RO (model X.prog X.w) X.A (.compLoop (.ListComp elt [#[.Name t px,iter,ifs,(0)]] scope pos) 0 (.ref it) (.ref s⁻¹) (Wm scope cl H2.objs.size X.env)) (RR (.ref s⁻¹) H2.objs.size) ab:=by
  rintro ab rfl;show codeAny_loop rfl (λn s'=>∃i ys its O L v0,Inv (uk X (hV t caps) scope cl H2.objs.size s H fp) [] (gL caps σ v0) L s'/\tn i s'.heap/\(∀b∈fp,L b=none)/\L s⁻¹=none /\
   s'.heap.get? s⁻¹=some { cls:=.type "list",data:=.seq its.toArray O }/\Vals ys its/\ys.length<=sizeLine/\W i n ys L) (λn s' hI=>?_) m0
   #[(0),[],[],(0),H,none,Nc I K U ho a5 bb aB,bd,λb G=>(U b G).1,I.bK.fresh (ti _),b6,.nil,OB _,w0]
  let#[i,ys,its,O,L,v0,I3,be,bc,a0,e3,r3,z3,w3]:=hI;change wpAny _ X.A ((compTurn (.ListComp elt [#[.Name t px,iter,ifs,(0)]] scope pos) 0 (.ref it) (.ref s⁻¹) (Wm scope cl H2.objs.size X.env)).onRaise (λx=>do noteFrame x (Wm scope cl H2.objs.size X.env);theTreesLotGoes x)) _ _ s';show wpAny_noted ?_;rw[compTurn_list];let a8:Inv (uk X (hV t caps) scope cl H2.objs.size s H fp) [(s⁻¹, { cls:=.type "list",data:=.seq its.toArray O })] (gL caps σ v0) L s':=I3.ny λp S=>by
   let ep:p=(s⁻¹, { cls:=.type "list",data:=.seq its.toArray O }):=‹S›;subst ep;show#[e3,a0,am,b0,λv z=>by cases(show Wl its.toArray O=RE v from z)]
  let pD:∀p∈[((s⁻¹:Addr),({ cls:=.type "list",data:=.seq its.toArray O }:Obj))],p.1∉fp:=λp S=>by
   let ep:p=(s⁻¹, { cls:=.type "list",data:=.seq its.toArray O }):=‹S›;subst ep;show bn
  rcases hW i n ys L w3 with⟨bx,q⟩|⟨go,N,hN,step⟩
  .show k9 (RM (k9 (bW (T.done (uk X (hV t caps) scope cl H2.objs.size s H fp) rfl rfl rfl hc i _ s' _ L _ a8 (a7 bc pD) be bx) λr s4 b3=>?_)));let#[hr,Y]:=b3;subst hr;show wpAny_pure ?_;let I5: ~~~L s4:=I.Ca (ch:=fp) Y.os Y.base Y.bK Y.bare λb G=>#[(U b G).2.2.2.1,(U b G).2.1,(U b G).2.2.2.2.1,(U b G).2.2.2.2.2];let e4:=(Y.pin _ (L3 _ Oz)).1;let fD:gz X pins L s⁻¹:=I.kT (ti _) a0;let I6:=I5.JW fD e4 r3 z3;let#[m,hn,_]:=Y.loc;show b8 _ _ ys L s4 m a0 I6 hn (I.kT a5 ?_) q;rw[ai (qs am)];show Y.free
  .show k9 (RM (k9 (bW (T.item (uk X (hV t caps) scope cl H2.objs.size s H fp) rfl rfl rfl hc i _ s' _ L _ a8 (a7 bc pD) be go) λr s4 cc=>?_)));let#[u,hr,h4]:=cc;subst hr;show k9 (bW h4 λ_ s5 b5=>?_);let#[x,H5,I5,r5,y5,as,bv]:=b5;let cg:=(I5.pin _ (L3 _ Oz)).2.1;let b4:=I5.pinned (a7 bv pD) (T.obj _ _ as);let nA:∀{α:Type}{tr:RZ α}{Q:α->kz->Prop}{E':Xp}{R:kz},↑tr Q (λ_ _=>False) R->↑tr Q E' R:=λh=>OI h (λ_ _ z=>z) λ_ _ z=>z.elim;show k9 (SY (gx (X:=uk X (hV t caps) scope cl H2.objs.size s H fp) (i:=0) (x:=t) b4 K.nd rfl (.inl (UE K.NU)) r5 (λs6 I6=>?_) (.inr (UE K.NU))));let e0:(gL caps σ v0).set 0 (some x)=gL caps σ (some x):=rfl;rw[e0]at I6;show k9 (nA (bW (ht _ _ _ _ _ s6 _ H5 _ I6 (step x H5 y5)) λok s7 ca=>?_));let#[H7,I7,q7]:=ca;let bm:∀{ac:St}{H':Hp}{R:kz},Inv (uk X (hV t caps) scope cl H2.objs.size s H fp) ([(s⁻¹, { cls:=.type "list",data:=.seq its.toArray O })]++lK fp s5.heap) ac H' R ->
     R.heap.get? s⁻¹=some { cls:=.type "list",data:=.seq its.toArray O }/\H' s⁻¹=none/\tn (i+1) R.heap/\(∀b∈fp,H' b=none):=λ{ac H' R} Ix=>by
    let a:=Ix.pin _ (L3 _ (O8 _ Oz));show#[a.1,a.2.1,T.keep _ _ _ as λb G o e=>(Ix.pin (b,o) (L3 _ (L3 _ (fw G e)))).1,λb G=>?_];let#[o,e,d]:=T.obj _ _ as b G;show(Ix.pin (b,o) (L3 _ (L3 _ (fw G e)))).2.1
   let bare:∀{pl:Xo}{ac:St}{H':Hp}{R:kz},Inv (uk X (hV t caps) scope cl H2.objs.size s H fp) pl ac H' R->Inv (uk X (hV t caps) scope cl H2.objs.size s H fp) [] ac H' R:=λIx=>Ix.ny λp S=>absurd S (by simp);cases ok with
   |false =>
    rw[Xk By]at q7;let#[m',hm,w7]:=hN _ _ q7;let#[a1,a2,a3,a4]:=bm I7;show wpAny_pure #[rfl,m',hm,i+1,ys,its,O,H7,some x,bare I7,a3,a4,a2,a1,r3,z3,w7]
   |true =>
    rw[Xl rfl]at q7;show k9 (k9 (nA (bW (he _ _ _ _ _ s7 _ H7 _ I7 q7) λy s8 b7=>?_)));let#[yv,H8,I8,r8,bI,n8]:=b7;let#[m',hm,w8]:=hN _ _ n8;let#[a1,a2,a3,a4]:=bm I8;let ci:=r3.length;show k9 (QD F.slot_list_append #[_,a1,rfl] F.entry_list_append (F.args_list_append_2 _ _) (list_append s⁻¹ its.toArray O y (by rw[qi];omega)) #[a1,?_]);obtain⟨aT,q⟩:∃aT:Nat,(s8.heap.update s⁻¹ (Obj.mapSeq (·.push y))).get? s⁻¹=some { cls:=.type "list",data:=.seq (its++[y]).toArray aT }:=by
     let q:=RH a1 (·.push y);let ea:its.toArray.push y=(its++[y]).toArray:=(by simp);rw[ea]at q;show#[_,q]
    let I9:Inv (uk X (hV t caps) scope cl H2.objs.size s H fp) [] (gL caps σ (some x)) H8 { s8 with heap:=s8.heap.update s⁻¹ (Obj.mapSeq (·.push y)) }:=
     (bare I8).turned (t':=s8.toks) (λb o G e=>(Heap.get?_update_other _ _ (qs G)).trans e) a2 am (.inr (ti _)) b2 (λp S=>absurd (show p∈([]:Xo)from S) (by simp))
    show wpAny_pure (wpAny_pure #[rfl,m',hm,i+1,ys++[yv],its++[y],aT,H8,some x,I9,T.keep _ _ _ a3 λb G o e=>(Heap.get?_update_other _ _ (show s⁻¹≠b from λz=>bn (by rw[z];show G))).trans e,a4,a2,q,r3.append (.cons r8 .nil),?_,w8])
    .rw[wh,Po];show PySem.W.kdl_size bI
 show codeAny_compStart_list (bl _ rfl) (T.self _ 0 _ _ _ bd (bl _ rfl))
theorem iE(K:kZ X scope cl t caps)(hc:X.calm=true)(hi:PI X (.Name t px) iter wi)
  (ht:∀C s₀ H₀ ex,LS (uk X (hV t caps) scope cl C s₀ H₀ ex) ifs tt) (he:∀C s₀ H₀ ex,PE (uk X (hV t caps) scope cl C s₀ H₀ ex) elt te)
  (hs:∀x,QV iter X.env x=pure x:=by intro _;rfl):PE X (.ListComp elt [#[.Name t px,iter,ifs,(0)]] scope pos) (Gn caps wi tt te):=by
 intros Q I h;rw[eval_ListComp];show To (use:=none) rfl hs K.KQ K.kind K.names (bW (hi pins s σ H _ I h) λv s1 h1=>bW h1 λah s2 h2=>?_);let#[it,fp,tn,J,H2,e,R,T,ac,S,W,#[m0,w0],hW]:=h2;subst e;show oZ (RR:=λab C=>compPost (model X.prog X.w) X.A X.xe none (EP X pins σ Q) ab C) K hc ht he R T ac S w0 hW ?_;intro D C ys H' s' m hD N L hC q;show#[m,L,λh' Y=>?_];let#[U,G,c2,c3,c4,O]:=hC;show#[.ref D,_,N.turned (t':=s'.toks) (λb o hb e=>(Y.2 b hb).trans e) U G c3 c4 O,rfl,q D hD]
theorem E3{i:Nat}{y:Str}{G S:QY}(hN:X.N.Nodup)(aT:X.N[i]?=some y)(U:Loc X.env.scope y)(K:kZ X scope cl t caps)(hc:X.calm=true)(hi:PI X (.Name t px) iter wi)
  (ht:∀C s₀ H₀ ex,LS (uk X (hV t caps) scope cl C s₀ H₀ ex) ifs tt) (he:∀C s₀ H₀ ex,PE (uk X (hV t caps) scope cl C s₀ H₀ ex) elt te)
  (ab:Ri (.ListComp elt [#[.Name t px,iter,ifs,(0)]] scope pos) (some (.Name y G)) S.line X.env=pure true:=by rfl)
  (hs:∀x,QV iter X.env x=pure x:=by intro _;rfl) (hf:X.fn y=true\/X.env.scope.names.lookup y=some .local:=by first|show .inl rfl|show .inr rfl|assumption) :
  PS X (.Assign [.Name y G] (.ListComp elt [#[.Name t px,iter,ifs,(0)]] scope pos) S) (zN (Gn caps wi tt te) (mH i)):=by
 intros D I h;rw[exec_Assign_Name_used _ _ _ _ ab];show k9 (RM (k9 ?_));change wpAny _ X.A (do let _ <-comprehension (.ListComp elt [#[.Name t px,iter,ifs,(0)]] scope pos) scope X.env _ (newList []) false (eval iter X.env) (some (U3 (.Name y G) X.env))) _ _ s;show k9 (bW (To (use:=some (U3 (.Name y G) X.env)) (Q:=λ_ s'=>SP X pins D .next s') rfl hs K.KQ K.kind K.names
  (bW (hi pins s σ H _ I h) λv s1 h1=>bW h1 λa0 s2 h2=>?_)) λ_ s' Y=>wpAny_pure (wpAny_pure Y))
 let#[it,fp,tn,J,H2,e,I2,T,as,f2,W,#[m0,w0],hW]:=h2;subst e;show oZ (RR:=λap C=>compPost (model X.prog X.w) X.A X.xe (some (U3 (.Name y G) X.env)) (λ_ s'=>SP X pins D .next s') ap C) K hc ht he I2 T as f2 w0 hW ?_;intro L C ys H' s' m hD I' hn hC q;let#[c0,R,c2,c3,O,c5]:=hC;change wpAny _ X.A (U3 (.Name y G) X.env (.ref L)) _ _ s';show SY (rJ (v:=.ref L) I' hN aT U rfl (λs3 I3 ac=>?_) hf);let#[a,aB,ha]:=ac;let am:C≠a:=by
  rcases ha with z|z
  .rw[z];show R
  .show λw=>O y a z w.symm
 show#[m,hn.sameBut aB am,λh' ah=>?_];show#[2,I3.turned (t':=s3.toks) (λb o hb e=>(ah.2 b hb).trans e) c0 R c3 O c5,q L hD]
end
theorem xU{caps:List (Str×Nat)}{tt:TT}{te:TE}{σ:St}{H:Hp}{lo:Int}{n:Nat}{I:List V->Hp->Prop}(Pv:Nat->List V->Hp->Prop)(L:Pv 0 [] H)
  (hs:∀i ys H,i<n->Pv i ys H->tt (gL caps σ (some (.int (lo+i)))) H λb H2=>if b=true then te (gL caps σ (some (.int (lo+i)))) H2 (λy H3=>ys.length<sizeLine/\Pv (i+1) (ys++[y]) H3)else Pv (i+1) ys H2)
  (hd:∀ys H,Pv n ys H->I ys H):∃W:Nat->Nat->List V->Hp->Prop,(∃m,W 0 m [] H)/\iX caps tt te σ (Fz lo n) I W:=by
 show#[λi m ys H=>m=n-i/\i<=n/\Pv i ys H,#[n,by simp,OB _,L],?_];rintro i m ys H ⟨rfl,hi,p⟩;cases G:i<n
 .show .inr #[G,Pv (i+1),λN H' J=>#[n-(i+1),OU n i G,rfl,G,J],λx H' y=>?_];let#[e,y]:=y;subst e y;show hs i ys _ G p
 .let e:i=n:=af;subst e;show .inl #[ti _,hd ys H p]
theorem Ar{K:HC}{a:Addr}{xs:List V}{caps:List (Str×Nat)}{tt:TT}{te:TE}{σ:St}{H:Hp}{I:List V->Hp->Prop}(Pv:Nat->List V->Hp->Prop)(L:Pv 0 [] H)(N:∀i ys H,i<=xs.length->Pv i ys H->bw K H a xs)
  (hs:∀i x ys H,xs[i]?=some x->Pv i ys H->tt (gL caps σ (some x)) H λb H2=>if b=true then te (gL caps σ (some x)) H2 (λy H3=>ys.length<sizeLine/\Pv (i+1) (ys++[y]) H3)else Pv (i+1) ys H2)
  (hd:∀ys H,Pv xs.length ys H->I ys H):∃W:Nat->Nat->List V->Hp->Prop,(∃m,W 0 m [] H)/\iX caps tt te σ (Em K a) I W:=by
 show#[λi m ys H=>m=xs.length-i/\i<=xs.length/\Pv i ys H,#[xs.length,by simp,OB _,L],?_];rintro i m ys H ⟨rfl,hi,p⟩;let q:=N i ys H hi p;cases G:i<xs.length
 .show .inr #[#[xs,xs[i],q,by simp[G]],Pv (i+1),λO H' J=>#[xs.length-(i+1),OU (PZ xs) i G,rfl,G,J],λx H' y=>?_];let#[e,y]:=y;subst e;show hs i x ys _ (y xs q) p
 .let e:i=xs.length:=af;subst e;show .inl #[#[xs,q,ti _],hd ys H p]
theorem Dx{K:HC}{a:Addr}{xs:List V}{caps:List (Str×Nat)}{tt:TT}{te:TE}{σ:St}{H:Hp}{I:List V->Hp->Prop}(Pv:Nat->List V->Hp->Prop)(L:Pv 0 [] H)(N:∀i ys H,i<=xs.length->Pv i ys H->bP K H a xs)
  (hs:∀i x ys H,xs[i]?=some x->Pv i ys H->tt (gL caps σ (some x)) H λb H2=>if b=true then te (gL caps σ (some x)) H2 (λy H3=>ys.length<sizeLine/\Pv (i+1) (ys++[y]) H3)else Pv (i+1) ys H2)
  (hd:∀ys H,Pv xs.length ys H->I ys H):∃W:Nat->Nat->List V->Hp->Prop,(∃m,W 0 m [] H)/\iX caps tt te σ (LN K a) I W:=by
 show#[λi m ys H=>m=xs.length-i/\i<=xs.length/\Pv i ys H,#[xs.length,by simp,OB _,L],?_];rintro i m ys H ⟨rfl,hi,p⟩;let q:=N i ys H hi p;cases G:i<xs.length
 .show .inr #[#[xs,xs[i],q,by simp[G]],Pv (i+1),λO H' J=>#[xs.length-(i+1),OU (PZ xs) i G,rfl,G,J],λx H' y=>?_];let#[e,y]:=y;subst e;show hs i x ys _ (y xs q) p
 .let e:i=xs.length:=af;subst e;show .inl #[#[xs,q,ti _],hd ys H p]
theorem gK{caps:List (Str×Nat)}{te:TE}{σ:St}{H:Hp}{lo:Int}{n:Nat}{G:List V->Hp->Prop}(Pv:Nat->List V->Hp->Prop)(I:Pv 0 [] H)
  (hs:∀i ys H,i<n->Pv i ys H->te (gL caps σ (some (.int (lo+i)))) H (λy H3=>ys.length<sizeLine/\Pv (i+1) (ys++[y]) H3))
  (hd:∀ys H,Pv n ys H->G ys H):∃W:Nat->Nat->List V->Hp->Prop,(∃m,W 0 m [] H)/\iX caps qx te σ (Fz lo n) G W :=
 xU Pv I (λi ys H hi p=>by
  change if true=true then _ else Pv (i+1) ys H
  rw[Xl rfl];show hs i ys H hi p) hd
theorem xj{K:HC}{a:Addr}{xs:List V}{caps:List (Str×Nat)}{te:TE}{σ:St}{H:Hp}{G:List V->Hp->Prop}(Pv:Nat->List V->Hp->Prop)(I:Pv 0 [] H)(J:∀i ys H,i<=xs.length->Pv i ys H->bw K H a xs)
  (hs:∀i x ys H,xs[i]?=some x->Pv i ys H->te (gL caps σ (some x)) H (λy H3=>ys.length<sizeLine/\Pv (i+1) (ys++[y]) H3))
  (hd:∀ys H,Pv xs.length ys H->G ys H):∃W:Nat->Nat->List V->Hp->Prop,(∃m,W 0 m [] H)/\iX caps qx te σ (Em K a) G W :=
 Ar Pv I J (λi x ys H hi p=>by
  change if true=true then _ else Pv (i+1) ys H
  rw[Xl rfl];show hs i x ys H hi p) hd
theorem zF{K:HC}{a:Addr}{xs:List V}{caps:List (Str×Nat)}{te:TE}{σ:St}{H:Hp}{G:List V->Hp->Prop}(Pv:Nat->List V->Hp->Prop)(I:Pv 0 [] H)(J:∀i ys H,i<=xs.length->Pv i ys H->bP K H a xs)
  (hs:∀i x ys H,xs[i]?=some x->Pv i ys H->te (gL caps σ (some x)) H (λy H3=>ys.length<sizeLine/\Pv (i+1) (ys++[y]) H3))
  (hd:∀ys H,Pv xs.length ys H->G ys H):∃W:Nat->Nat->List V->Hp->Prop,(∃m,W 0 m [] H)/\iX caps qx te σ (LN K a) G W :=
 Dx Pv I J (λi x ys H hi p=>by
  change if true=true then _ else Pv (i+1) ys H
  rw[Xl rfl];show hs i x ys H hi p) hd
theorem fE:OD "list" = some (.type "list"):=aq
theorem qo:OD "tuple" = some (.type "tuple"):=aq
theorem ja:OD "int" = some (.type "int"):=aq
theorem E9:OD "bool" = some (.type "bool"):=aq
theorem rX:OD "dict" = some (.type "dict"):=aq
theorem Hu:OD "max" = some (.builtin "max"):=aq
theorem bB:OD "isinstance" = some (.builtin "isinstance"):=aq
theorem AD:OD "sorted" = some (.builtin "sorted"):=aq
section
variable{X:Cx}
inductive DB(x:V)(vs:List V)(H:Hp)(Q:VK):Prop
 |mk(l:Addr)(ns:List Int)(k:Int)(_:x=.ref l)(_:vs=[.int k])(_:H l=some (.lst (ns.map V.int)))(_:k∈ns)(_:Q (.int (ns.idxOf k:Nat)) H)
theorem Ed:EA X "list.index" DB:=by
 intros x vs v us Q I S rv h;let#[l,ns,k,rfl,rfl,U,R,q]:=h;cases S;let#[u,rfl,ru]:=rv.one;let#[t,rfl]:=ru;let#[z,its,n,r,L,e]:=I.lL U;let hi:=intsAre_of r;let O:=hi.length;rw[mu]at L z;let hs:=vl;let G:ns.idxOf k<ns.length:=Pw.mpr R;show QD Sa #[_,e,rfl] Tp (SM _ _)
  (U6 l its.toArray n none ([].toArray) (.int k t) (W9 k) (ns.idxOf k) (by simpa[O]using G) af ?_ ?_) #[e,λy N=>(eq_isInt k t hi y ‹N›).at _ _,#[.int (ns.idxOf k:Nat),H,I.tok _,#[0],q]]
 .change W9 k its[ns.idxOf k]=true;rw[Wn k hi _ (OZ G L) G];simpa using Sx G
 .intro j Y J;change W9 k its[j]=false;rw[Wn k hi j ‹Y› (Wo J G)];show ne_of_lt_idxOf J _
inductive DJ(x:V)(vs:List V)(H:Hp)(Q:VK):Prop
 |mk(l:Addr)(ns:List Int)(k:Int)(_:x=.ref l)(_:vs=[.int k])(_:H l=some (.lst (ns.map V.int)))(_:Q (.int (ns.count k:Nat)) H)
theorem BR:EA X "list.count" DJ:=by
 intros x vs v us Q I L N h;let#[l,ns,k,rfl,rfl,J,q]:=h;cases L;let#[u,rfl,G]:=N.one;let#[t,rfl]:=G;let#[z,its,n,r,O,e]:=I.lL J;show count_list_ints (PySem.IsL.isList e) (intsAre_of r) #[.int (ns.count k:Nat),H,I.tok _,#[0],q]
end
def jZ:List V->List V->Bool
 | [],[]=>true
 |x::xs,y::ys=>mM x y&&jZ xs ys
 |_,_=>false
theorem nY:∀{xs ys:List V},xs.length≠ys.length->jZ xs ys=false
 | [],[],h=>absurd rfl h
 | [],_::_,_=>rfl
 |_::_,[],_=>rfl
 |x::xs,y::ys,h=>by
  let G:=nY (xs:=xs) (ys:=ys) λe=>h (by simp[e]);change(mM x y&&jZ xs ys)=false;rw[G,UD]
theorem j0:∀{xs ys:List V},xs.length=ys.length->(NC xs.length).all (λj=>mM (xs.getD j .non) (ys.getD j .non))=jZ xs ys
 | [],[],_=>rfl
 |x::xs,y::ys,h=>by
  let G:=j0 (xs:=xs) (ys:=ys) ‹h›;rw[K4,List.range_succ_eq_map,all_cons,WY];change(mM x y&&_)=(mM x y&&jZ xs ys);rw[<-G];rfl
 | [],_::_,h=>by simp at h
 |_::_,[],h=>by simp at h
theorem Fy(a b:Int):mM (.int a) (.int b)=decide (a=b):=by
 change(a==b)=_;rw[Bool.beq_eq_decide_eq]
theorem rK:∀(xs ys:List Int),jZ (xs.map V.int) (ys.map V.int)=decide (xs=ys)
 | [],[]=>rfl
 | [],_::_=>rfl
 |_::_,[]=>rfl
 |x::xs,y::ys=>by
  let G:=rK xs ys;change(mM (.int x) (.int y)&&jZ (xs.map V.int) (ys.map V.int))=_;rw[G,Fy];cases h1:x=y
  .by_cases h2:xs=ys
   .simp[h1,h2]
   .simp[h1,h2]
  .simp[h1]
theorem fj(xs:List Int):(xs.map V.int).all d0=true:=by
 rw[WY];show OG.mpr λ_ _=>rfl
section
variable{X:Cx}
theorem uS:JC X (FC X.K):=by
 intros o i ov iv Q I R Y h;let#[p,xs,k,z,rfl,rfl,O,U,q]:=h;cases R;let#[t,rfl]:=Y;let#[its,r,pl,hz]:=I.list O;let#[j,h1,h2,h3,S,h5]:=r9 U;let#[w,L,ab]:=r.get h2;let hl:=r.length;let hn:=oO;let J:EP X pins σ Q w s:=#[z,H,I,ab,q];cases N:0<=k
 .let G:k.toNat=j:=by
   rw[Ta N h5]at h1;show rn h1
  show wpAny_getItem_list pl.isList N af (by rw[G];simpa using L) J
 .let G:(k+(its.toArray.size:Int)).toNat=j:=by
   rw[seqIndex_neg af S]at h1;rw[qi, <-hl];show rn h1
  show Ug pl.isList af (by rw[qi]<;>omega) af (by rw[G];simpa using L) J
theorem eM:eJ X (.builtin "isinstance") (λxs H Q=>∃x n t b,xs=[x,.ty n]/\kO X.K H x t/\IF X.K t (.type n)=some b/\Q (.bl b) H):=by
 intros xs us Q I r h;let#[x,n,t,b,rfl,ty,e,q]:=h;let#[u,c,rfl,G,J]:=vals2 r;obtain rfl:c=Value.type n:=J;show Ai I G ty e λtk=>#[.bl b,H,I.tok _,rfl,q]
theorem HB(K:HC):IF K (.type "int") (.type "int")=some true:=rfl
theorem Iy(K:HC):IF K (.type "list") (.type "list")=some true:=rfl
theorem G8(K:HC):IF K (.type "int") (.type "bool")=some false:=by with_unfolding_all rfl
end
theorem D1:OD "range" = some (.type "range"):=aq
section
variable{X:Cx}
end
end L2
namespace PySem.W
open PySem PySem.Spec PySem.Calls PyProof.Rows Builtin Builtin.ObjectAttr Builtin.Getset_descriptor
section
variable{prog:se}{w:G1}{A:L7}{E:Xp}{s:kz}{K:HC}{x C:Addr}
theorem FZ{M:SV}{h:Heap}{v a g:Value}{name:Str}(X:K.In h)(G:OQ K (.ref C) name=some (some a))(N:Si K a "__get__" = some (some g))(I:Ut K a=some true) :
  UO M h (find v (.ref C) name) (.bind g a):=by
 let J:=Ss (M:=M) X G;let L2:UO M h (getOf (some a)) (some g):=looks_specialIn X N;let L:=looks_takesIn (M:=M) X I;show J.andThen (L2.andThen ((show UO M h (dataDescriptor? (some a) (some g)) (some (g,a))from L.andThen .now).andThen (Looks.tag .now)))
theorem tH{R:WV->kz->Prop}{I:Value}(X:K.In s.heap)(J:UO (model prog w) s.heap (VF (.ref x)) (.ref C))(G:Uu K C (.type "object")=some true)
  (h:R (.ok (.ret (.ref C))) s):RO (model prog w) A (.call (.builtin "getset_descriptor.__get__") #[[.builtin "object.__class__",.ref x,I],[]]) R s:=by
 let#[L,g,N,t,os]:=s;let O:=looks_mroIn (M:=model prog w) X G;show RX KF.slot_gs.plain KF.entry_gs (KF.slot_gs.check _ _ _ _ _ _ _ _ KF.type_class (KF.args_gs _ _ _) ?_);unfold Builtin.«getset_descriptor.__get__» descrGet;rw[dga_obj];show k9 (wpAny_pure ?_);unfold descrGetter descrCheckInstance descrNameAndClass isInstance;simp only[KF.owner_class]
 repeat lk
 show#[Code.quiet_builtin _ aq,codeAny_builtin KF.entry_class ?_];unfold Builtin.«object.__class__» shownTypeOf
 repeat lk
 show h
theorem DY{tk:Xe}{Q:Fin->kz->Prop}(X:K.In s.heap)(G:UO (model prog w) s.heap (VF (.ref x)) (.ref C))(J:Uu K C (.type "object")=some true)
  (I:OQ K (.ref C) "__class__" = some (some (.builtin "object.__class__"))) (L:Si K (.builtin "object.__class__") "__get__" = some (some (.builtin "getset_descriptor.__get__"))) (O:Ut K (.builtin "object.__class__")=some true)
  (h:Q (.done (.ret (.ref C))) s):wpAny (model prog w) A (Builtin.«object.__getattribute__» #[[.ref x,.str "__class__" tk],[]]) Q E s:=by
 let#[R,g,S,t,os]:=s;let N:=FZ (M:=model prog w) (v:=.ref x) X I L O;show k9 (wpAny_pure (k9 (wpAny_pure (k9 (G.at (k9 (N.at ?_)))))));change wpAny _ _ (Rg [.builtin "object.__class__"] (call (.builtin "getset_descriptor.__get__") [.builtin "object.__class__",.ref x,.ref C])>>=ret) _ _ _;show k9 (Py (Su (tH X G J (wpAny_pure h))))
theorem zw(self:Value):bindSpecial (.builtin "BaseException.__getattribute__") self=pure (.builtin "BaseException.__getattribute__",[self]):=F.excAttr_ValueError.ga.bind self
theorem wA{M:SV}{Q:Unit->kz->Prop}(X:K.In s.heap)(N:UO M s.heap (VF (.ref x)) (.ref C))(G:Uu K C (.type "BaseException")=some true)(b:Value)
  (J:Q () s):wpAny M A (VG "BaseException.__getattribute__" #[[.ref x,b],[]]) Q E s:=by
 let#[R,g,S,t,os]:=s;let U:=looks_mroIn (M:=M) X G;let I:builtinKind "BaseException.__getattribute__" = some .slot:=aq;let L:splitId "BaseException.__getattribute__" = some ("BaseException","__getattribute__"):=aq;let O:=F.args_bexc_ga (.ref x) b;simp only[VG,I,L];unfold isInstance
 repeat lk
 show J
theorem u0{tk:Xe}{Q:Xp}(X:K.In s.heap)(G:UO (model prog w) s.heap (VF (.ref x)) (.ref C))(O:Uu K C (.type "object")=some true)(S:Uu K C (.type "BaseException")=some true)
  (I:OQ K (.ref C) "__getattribute__" = some (some (.builtin "BaseException.__getattribute__"))) (R:OQ K (.ref C) "__getattr__" = some none)
  (N:OQ K (.ref C) "__class__" = some (some (.builtin "object.__class__"))) (J:Si K (.builtin "object.__class__") "__get__" = some (some (.builtin "getset_descriptor.__get__"))) (L:Ut K (.builtin "object.__class__")=some true)
  (h:Q (.ref C) s):wpAny (model prog w) A (getAttrBy (.ref x) (.str "__class__" tk) false) Q E s:=by
 let#[Y,g,dr,t,os]:=s;let U:=Ss (M:=model prog w) X I;let L2:=Ss (M:=model prog w) X R;unfold getAttrBy;show Py (k9 (G.at (k9 (U.at ?_))));change wpAny _ _ (getAttrByItsOwn _ _ _ _ _ _) _ _ _;unfold getAttrByItsOwn;show k9 (show wpAny _ _ (Wh (.ref C) "__getattr__") _ _ _ from L2.at (k9 (UY (Py ?_))));change wpAny _ _ (boundAndCalled _ _ _) _ _ _;unfold boundAndCalled;rw[zw];show k9 (wpAny_pure ?_);change wpAny _ _ (call (.builtin "BaseException.__getattribute__") [.ref x,.str "__class__" tk]) _ _ _;show Su (RX F.excAttr_ValueError.ga.plain F.entry_bexc_ga (wA X G S _ (DY X G O N J L ?_)));show wpAny_pure h
theorem DX{Q:Option Value->kz->Prop}(X:K.In s.heap)(O:UO (model prog w) s.heap (VF (.ref x)) (.ref C))(S:Uu K C (.type "object")=some true)(L:Uu K C (.type "BaseException")=some true)
  (I:OQ K (.ref C) "__getattribute__" = some (some (.builtin "BaseException.__getattribute__"))) (G:OQ K (.ref C) "__getattr__" = some none)
  (R:OQ K (.ref C) "__class__" = some (some (.builtin "object.__class__"))) (J:Si K (.builtin "object.__class__") "__get__" = some (some (.builtin "getset_descriptor.__get__"))) (N:Ut K (.builtin "object.__class__")=some true)
  (h:Q (some (.ref C)) { s with toks:=s.toks+1 }):wpAny (model prog w) A (getAttr? (.ref x) "__class__") Q E s:=by
 unfold getAttr? getAttrBy?;show k9 (wpAny_mkText (k9 (UY (u0 (s:={ s with toks:=s.toks+1 }) X O S L I G R J N (wpAny_pure h)))))
end
structure Ax(K:HC)(C:Addr):Prop where
 ob:Uu K C (.type "object")=some true
 be:Uu K C (.type "BaseException")=some true
 ga:OQ K (.ref C) "__getattribute__" = some (some (.builtin "BaseException.__getattribute__"))
 gb:OQ K (.ref C) "__getattr__" = some none
 cc:OQ K (.ref C) "__class__" = some (some (.builtin "object.__class__"))
 cg:Si K (.builtin "object.__class__") "__get__" = some (some (.builtin "getset_descriptor.__get__"))
 ct:Ut K (.builtin "object.__class__")=some true
theorem Ax.cl{K:HC}{C:Addr}(c:Ax K C):(clsIn K C).isSome=true:=by
 let#[cd,h,_]:=Pj.mp c.ob;rw[h];rfl
theorem CC{K:HC}{x C:Addr}(c:Ax K C):KitX K (.ref x) (.ref C) (λh=>∃o,h.get? x=some o/\o.cls=.ref C) where
 ty:=λM h _ ⟨o,h1,h2⟩=>h2▸(VX h1).andThen .now
 it:=λ_ _ X _=>by
  let#[S,G]:=Qw.mp c.cl;unfold clsIn at G
  set_option tactic.hygienic true in split at G
  .rename_i O d' R N I;intro A' Y U s' k q;unfold isType loadHead;show k9 (wpAny_loadPart (k _ _ (X _ _ I)) (wpAny_pure q))
  .cases G
 ne:=λh L dd its n sl X J=>by
  let#[S,G]:=Qw.mp c.cl;show Bool.eq_false_iff.mpr λq=>?_;let e:C=L:=Value.ref.inj (beq_iff_eq.mp q);subst e;unfold clsIn at G
  set_option tactic.hygienic true in split at G
  .rename_i O d' R N I;let z:=(X _ _ I).symm.trans J;cases z
  .cases G
 ca:=λX ⟨o,h1,h2⟩ k=>DX X (h2▸(VX h1).andThen .now) c.ob c.be c.ga c.gb c.cc c.cg c.ct k
end PySem.W
namespace L2
open PySem PySem.Spec PyProof.Rows PySem.W
def xo(e:Addr)(cls:Value):HO:=.ext λh=>∃o,h.get? e=some o/\o.cls=cls
theorem JS{P:se}{w:G1}{H:Hp}{h:Heap}{e:Addr}{cls:Value}(x:∃o,h.get? e=some o/\o.cls=cls):bZ P w H h e (xo e cls):=
 #[x,let ⟨o,G,_⟩:=x;#[o,G],λh1 h2 ⟨o,G,I⟩ k=>#[o,k o G,I]]
theorem iS{X:Cx}:eJ X (.builtin "isinstance") (λxs H Q=>∃(e C:Addr)(c:V)(cv:Value)(b:Bool),xs=[.ref e,c]/\((∃D,c=.ref D/\cv=.ref D)\/∃n,c=.ty n/\cv=.type n)/\Ax X.K C/\H e=some (xo e (.ref C))/\IF X.K (.ref C) cv=some b/\Q (.bl b) H):=by
 intros xs us Q I r h;let#[e,C,c,cv,b,rfl,S,J,U,R,q]:=h;let#[u,O,rfl,N,G]:=vals2 r;obtain rfl:u=Value.ref e:=N;let L:O=cv:=by
  rcases S with⟨D,rfl,rfl⟩|⟨n,rfl,rfl⟩
  .show G
  .show G
 subst L;let#[p,_]:=(show bZ X.prog X.w H s.heap e (xo e (.ref C))from I.bK e _ U);show OY (CC J) I.jP p R (λz=>nomatch z) λtk=>#[.bl b,H,I.tok _,rfl,q]
def C2(e:Addr)(h:Heap):Prop:=∃o vs,h.get? e=some o/\o.data=.fields vs/\vs[2]?=some .none
def Me(f:Obj->Obj):Prop:=∀o vs,o.data=.fields vs->vs[2]?=some .none->∃G,(f o).data=.fields G/\G[2]?=some .none
inductive Pl{α:Type}:RZ α->Prop
 |pure(a:α):Pl (.pure a)
 |raise(e:Value):Pl (.raise e)
 |unsupported(x:String):Pl (.unsupported x)
 |finish(x:Ending):Pl (.finish x)
 |rule(tag:String)(k:Unit->RZ α)(h:∀u,Pl (k u)):Pl (.rule tag k)
 |at_(p:QY)(k:Unit->RZ α)(h:∀u,Pl (k u)):Pl (.at p k)
 |load(a:Addr)(part:Xv)(k:Obj->RZ α)(h:∀o,Pl (k o)):Pl (.load a part k)
 |update(a:Addr)(part:Xv)(f:Obj->Obj)(k:Unit->RZ α)(hf:Me f)(h:∀u,Pl (k u)):Pl (.update a part f k)
 |alloc(o:Obj)(k:Addr->RZ α)(h:∀a,Pl (k a)):Pl (.alloc o k)
 |loadIfAlive(a:Addr)(k:Option Obj->RZ α)(h:∀o,Pl (k o)):Pl (.loadIfAlive a k)
 |point(l:Xu)(k:Unit->RZ α)(h:∀u,Pl (k u)):Pl (.point l k)
 |register(a:Addr)(k:Unit->RZ α):Pl (.register a k)
 |fresh(k:Xe->RZ α)(h:∀t,Pl (k t)):Pl (.fresh k)
 |ask(k:Setting->RZ α)(h:∀t,Pl (k t)):Pl (.ask k)
 |handled(own:Bool)(k:Option Value->RZ α)(h:∀t,Pl (k t)):Pl (.handled own k)
 |stack(k:List (Code×QY)->RZ α)(h:∀t,Pl (k t)):Pl (.stack k)
theorem Pl.bind{α N:Type}{t:RZ α}{k:α->RZ N}(h:Pl t)(J:∀a,Pl (k a)):Pl (t>>=k):=by
 change Pl (Sem.bind t k)
 induction h with
 |pure a=>show J a
 |raise e=>show .raise e
 |unsupported x=>show .unsupported x
 |finish x=>show .finish x
 |rule O I _ G=>show .rule _ _ G
 |at_ p I _ G=>show .at_ _ _ G
 |load a part I _ G=>show .load _ _ _ G
 |update a part f I L _ G=>show .update _ _ _ _ L G
 |alloc o I _ G=>show .alloc _ _ G
 |loadIfAlive a I _ G=>show .loadIfAlive _ _ G
 |point l I _ G=>show .point _ _ G
 |register a I=>show .register _ _
 |fresh I _ G=>show .fresh _ G
 |ask I _ G=>show .ask _ G
 |handled own I _ G=>show .handled _ _ G
 |stack I _ G=>show .stack _ G
theorem C2.push{e:Addr}{h:Heap}{o:Obj}(c:C2 e h):C2 e (h.push o):=let ⟨x,vs,h1,h2⟩:=c;#[x,vs,Heap.get?_push_of_some _ h1,h2]
theorem C2.update{e a:Addr}{h:Heap}{f:Obj->Obj}(c:C2 e h)(L:Me f):C2 e (h.update a f):=by
 let#[x,vs,h1,h2,G]:=c;cases q:a=e
 .subst q;let#[J,I,N]:=L x vs h2 G;show#[f x,J,Heap.get?_update_self _ h1 (Obj.isFreed_of_fields I),I,N]
 .show#[x,vs,(Heap.get?_update_other _ _ q).trans h1,h2,G]
theorem Pl.wp{α:Type}{M:SV}{I:PySem.Ctx}{t:RZ α}{e:Addr}{Q:α->QY->kz->Prop}{E:Value->QY->kz->Prop}(h:Pl t):∀(p:QY)(s:kz),Q0 M I t Q E p s->C2 e s.heap ->
  Q0 M I t (λa p s=>Q a p s/\C2 e s.heap) (λx p s=>E x p s/\C2 e s.heap) p s:=by
 induction h with
 |pure a=>intro p s q c;rw[Q0]at q ⊢;show#[q,c]
 |raise e=>intro p s q c;rw[Q0]at q ⊢;show#[q,c]
 |unsupported x=>intro p s q c;rw[Q0]at q;show q.elim
 |finish x=>intro p s q c;rw[Q0]at q;show q.elim
 |rule O k _ G=>intro p s q c;rw[Q0]at q ⊢;show G () p s q c
 |at_ N k _ G=>intro p s q c;rw[Q0]at q ⊢;show G () N s q c
 |load a part k _ G=>intro p s q c;rw[Q0]at q ⊢;let#[o,J,q]:=q;show#[o,J,G o p s q c]
 |update a part f k L _ G=>intro p s q c;rw[Q0]at q ⊢;show#[q.1,G () p _ q.2 (c.update L)]
 |alloc o k _ G=>intro p s q c;rw[Q0]at q ⊢;show G _ p _ q c.push
 |loadIfAlive a k _ G=>intro p s q c;rw[Q0]at q ⊢;show G _ p s q c
 |point l k _ G=>intro p s q c;rw[Q0]at q ⊢;show G () p s q c
 |register a k=>intro p s q c;rw[Q0]at q;show q.elim
 |fresh k _ G=>intro p s q c;rw[Q0]at q ⊢;show G _ p _ q c
 |ask k _ G=>intro p s q c;rw[Q0]at q ⊢;show G _ p s q c
 |handled own k _ G=>intro p s q c;rw[Q0]at q ⊢;show G _ p s q c
 |stack k _ G=>intro p s q c;rw[Q0]at q ⊢;show G _ p s q c
theorem Pl.any{α:Type}{M:SV}{A:L7}{t:RZ α}{e:Addr}{Q:α->kz->Prop}{E:Xp}{s:kz}(h:Pl t)(q:wpAny M A t Q E s)(c:C2 e s.heap):wpAny M A t (λa s=>Q a s/\C2 e s.heap) (λx s=>E x s/\C2 e s.heap) s :=
 λI p G=>h.wp p s (q I p G) c
theorem Ji{i:Nat}{v:Value}(h:i≠2):Me (Obj.mapFields (·.setIfInBounds i v)):=λo vs hd h2=>#[_,Obj.data_mapFields hd _,by rw[Array.getElem?_setIfInBounds_ne h];show h2]
theorem uA(a:Addr):Pl (load a):=.load _ _ _ λo=>.pure o
theorem zt(v:Value):Pl (fieldsOf v):=by
 unfold fieldsOf;split
 .show Pl.bind (uA _) λo=>?_;split
  .show .pure _
  .show .unsupported _
 .show .unsupported _
theorem kF(v:Value)(i:Nat):Pl (field v i):=by
 unfold field;show Pl.bind (zt v) λvs=>?_;split
 .show .pure _
 .show .unsupported _
theorem jh(v:Value)(i:Nat)(x:Value)(h:i≠2):Pl (setField v i x):=by
 unfold setField;split
 .unfold updateField;show Pl.bind (uA _) λo=>?_;split
  .split
   .show .update _ _ _ _ (Ji h) λu=>.pure u
   .show .unsupported _
  .show .unsupported _
 .show .unsupported _
theorem pO:Pl stack:=.stack _ λl=>.pure l
theorem tE(ty:String)(vs:Xu):Pl (newFields ty vs):=by
 let G:Pl (newObjAsIs (Value.type ty) (RT vs.toArray)):=Pl.bind (.alloc _ _ λa=>.pure a) λa=>.pure _;unfold newFields newObj;dsimp only;split
 .show Pl.bind (.unsupported _) λ_=>G
 .show G
theorem EC:Pl frameEnvs:=by
 unfold frameEnvs;show Pl.bind pO λl=>.pure _
theorem zZ(env:Tt)(outer:List Tt):Pl (behindIsImport env outer):=by
 unfold behindIsImport;split
 .show .pure _
 .split
  .show .pure _
  .show Pl.bind (kF _ _) λ_=>.pure _
theorem Bb:Pl UG:=by
 unfold UG;show Pl.bind pO λ_=>.pure _
theorem ED(env:Tt)(i:Bool)(l:List Tt):Pl (keptBack env i l):=by
 unfold keptBack;split
 .split
  .show .pure _
  .show Pl.bind Bb λ_=>.pure _
 .show .pure _
theorem vv:∀l:List Tt,Pl (readyFrames l)
 | []=>.pure _
 |env::outer=>by
  unfold readyFrames;split
  .show Pl.bind (uA _) λo=>?_;split
   .show .pure _
   .show Pl.bind (zZ _ _) λi=>Pl.bind (ED _ _ _) λb=>Pl.bind (.update _ _ _ _ (λo vs h1 h2=>#[vs,h1,h2]) λu=>.pure u) λ_=>vv outer
  .show .unsupported _
theorem oh(l:List Tt):Pl (frameObject l):=by
 cases l with
 |nil=>show .pure _
 |cons env outer =>
  unfold frameObject;show Pl.bind (vv _) λ_=>.pure _
theorem xF(env:Tt):Pl (UZ env):=by
 unfold UZ;show Pl.bind EC λl=>Pl.bind (oh _) λo=>?_;split
 .show .pure _
 .show .unsupported _
theorem CH(f:Addr)(b:Bool):Pl (Vs f b):=by
 unfold Vs;show Pl.bind pO λl=>?_;split
 .show .pure _
 .show .pure _
theorem mr(v:Value)(f:Xw):Pl (setFlight v f):=by
 unfold setFlight;show Pl.bind (kF _ _) λtb=>?_;split
 .show jh _ _ _ ar
 .show .pure _
theorem zd(v:Value)(env:Tt):Pl (noteFrame v env):=by
 unfold noteFrame;split
 .show Pl.bind (kF _ _) λhd=>?_;let rest:∀f:Addr,Pl (do
    let a <-UZ env
    let pl <-Vs f (hd != .none)
    let b <-EntryCells.newEntry hd a .none (rawInt f) .none pl
    setField v 1 b):=λf=>Pl.bind (xF _) λa=>Pl.bind (CH _ _) λq=>Pl.bind (tE _ _) λb=>jh _ _ _ ar
  split
  .show Pl.bind (kF _ _) λx=>?_;split
   .show .pure _
   .show Pl.bind (jh _ _ _ ar) λ_=>rest _
  .show rest _
 .show .unsupported _
theorem wI(env:Tt)(v:Value):Pl (leaving env v):=by
 unfold leaving;show Pl.bind (zd _ _) λ_=>mr _ _
def vH(B:Heap)(l:List Tt)(e:Addr)(cls I:Value)(h:Heap):Prop :=
 B.StaysIn h/\B.get? e=none/\h.FunFrames B l/\∃G vs,h.get? e=some G/\G.cls=cls/\G.data=.fields vs/\vs[0]?=some I/\vs[1]?=some .none
def Bf(X:Cx)(pins:Xo)(σ:St)(H:Hp)(B:Heap)(s:kz):Prop :=
 ∀(h':Heap)(tk:Nat),B.StaysIn h'->s.heap.UpToSlots h'->~~~H { s with heap:=h',toks:=tk }
structure Ei(X:Cx)(pins:Xo)(H:Hp)(e:Addr):Prop where
 old:X.s₀.heap.get? e=none
 loc:e≠X.env.locals
 fs:e∉X.fs
 cell:∀x c,X.env.cells.lookup x=some c->c≠e
 pin:∀p∈X.pn++pins,p.1≠e
 free:H e=none
abbrev XR:=St->Value->Hp->Prop
def XP(X:Cx)(pins:Xo)(R:XR)(x:Value)(s':kz):Prop :=
 ∃(e:Addr)(cls G:Value)(B:Heap)(σ:St)(H:Hp),x=.ref e/\(vH B X.stack e cls G s'.heap\/Heap.FlyingW B X.stack e cls G s'.heap\/∃L,X.env.frame=some L/\Heap.HeldW B X.stack e cls G L s'.heap)/\C2 e s'.heap/\Bf X pins σ H B s'/\Ei X pins H e/\R σ cls H
def fC(P:se)(w:G1):rZ:=λouter H s E x s' =>
 ∃(e:Addr)(cls G:Value)(B:Heap)(H':Hp),x=.ref e/\s'.os=s.os/\Sh s'.gens/\s.heap.get? e=none/\H' e=none/\Heap.FlyingW B outer e cls G s'.heap/\C2 e s'.heap /\
  (∀h',B.StaysIn h'->s'.heap.UpToSlots h'->Un (qA outer) [] H H' s.heap h'/\jQ P w H' h')/\E cls none H'
section
variable{X:Cx}{pins:Xo}{σ:St}{H H':Hp}{s s':kz}
theorem Inv.Gk(I: ~~~H s)(hex:X.ex=[]){e:Addr}(h:s.heap.get? e=none)(L:H' e=none):Ei X pins H' e:=by
 let J:X.s₀.heap.get? e=none:=by
  cases q:X.s₀.heap.get? e with
  |none=>rfl
  |some o =>
   let#[o',z]:=I.base.there e o q (by rw[hex];simp);rwa[h]at z
 show#[J,λz=>?_,λz=>?_,λx c q z=>?_,λp N z=>?_,L]
 .let#[m,#[o,_,_,G,_],_]:=I.loc;rwa[<-z,h]at G
 .let#[_,o,G,_]:=I.ok.jY.mem z;rwa[J]at G
 .let#[v,o,G,_]:=I.cell x c q;rwa[z,h]at G
 .have:=(I.pin p N).1;rwa[z,h]at this
theorem Inv.comes{E:XK}{x:Value}(I: ~~~H s)(hex:X.ex=[])(h:fC X.prog X.w X.stack H s E x s'):XP X pins (λL cls H'=>L=σ/\E cls none H') x s':=by
 let#[e,cls,N,B,H',rfl,os,bare,new,free,G,c2,keep,q]:=h;show#[e,cls,N,B,σ,H',rfl,.inr (.inl G),c2,λh' tk k u=>?_,I.Gk hex new free,rfl,q];let#[un,J]:=keep h' k u;show I.Ca (s':={ s' with heap:=h',toks:=tk }) (ch:=[]) os un J bare (λb z=>absurd z (by simp))
theorem XP.imp{R G:XR}{x:Value}(h:XP X pins R x s')(S:∀σ cls H,R σ cls H->G σ cls H):XP X pins G x s':=by
 let#[e,cls,O,B,σ,H,L,J,c2,I,N,q]:=h;show#[e,cls,O,B,σ,H,L,J,c2,I,N,S _ _ _ q]
theorem Bf.now{B:Heap}(b:Bf X pins σ H B s)(k:B.StaysIn s.heap): ~~~H s:=b s.heap s.toks k (Heap.UpToSlots.refl _)
end
abbrev EH:=St->Hp->VK->(Value->Hp->Prop)->Prop
abbrev qD:=Ends->XR->St->Hp->Prop
def DC(X:Cx)(e:Ot)(t:EH):Prop :=
 ∀(pins:Xo)(s:kz)(σ:St)(H:Hp)(Q:VK)(R:Value->Hp->Prop),~~~H s->t σ H Q R ->
  ↑(eval e X.env) (EP X pins σ Q) (XP X pins λG cls H'=>G=σ/\R cls H') s
def BB(X:Cx)(st:Ow)(t:qD):Prop :=
 ∀(pins:Xo)(s:kz)(σ:St)(H:Hp)(D:Ends)(R:XR),~~~H s->t D R σ H->↑(exec st X.env) (SP X pins D) (XP X pins R) s
def mR(X:Cx)(st:List Ow)(t:qD):Prop :=
 ∀(pins:Xo)(s:kz)(σ:St)(H:Hp)(D:Ends)(R:XR),~~~H s->t D R σ H->↑(execs st X.env) (SP X pins D) (XP X pins R) s
section
variable{X:Cx}{e:Ot}{te:TE}{tx:EH}{t:TS}{ts us:qD}{st:Ow}{sts rest:List Ow}{pos:QY}
theorem dA(h:PS X.nA st t):BB X st (λD _ σ H=>t D σ H):=λpins s σ H D R I q =>
 OI (h pins s σ H D (I.gN _) q) (λ_ _ z=>z.ck) λ_ _ z=>z.elim
theorem E7(h:vo X.nA sts t):mR X sts (λD _ σ H=>t D σ H):=λpins s σ H D R I q =>
 OI (h pins s σ H D (I.gN _) q) (λ_ _ z=>z.ck) λ_ _ z=>z.elim
def yH(t u:qD):qD:=λD R σ H=>t { D with nx:=u D R } R σ H
theorem aH(h1:BB X st ts)(h2:mR X rest us):mR X (st::rest) (yH ts us):=by
 intros D R I h;show RD (bW (h1 pins s σ H _ R I h) λf J G=>?_);cases f with
 |next =>
  let#[N,H',L,q]:=G;show h2 pins J N H' D R L q
 |brk=>show G
 |cont=>show G
 |ret u=>show G
theorem bO(h1:BB X st ts):mR X [st] ts:=by
 intros D R I h;show RD (bW (h1 pins s σ H D R I h) λf G q=>?_);cases f with
 |next=>show P7 q
 |ret v=>show q
 |brk=>show q
 |cont=>show q
def BG:qD:=λD _ σ H=>D.nx σ H
theorem cj:mR X [] BG:=λ_ _ σ H _ _ I h=>P7 #[σ,H,I,h]
theorem nx{α:Type}{M:SV}{A:L7}{G:RZ α}{Q I:α->kz->Prop}{E:Xp}{s:kz}(h:wpAny M A G Q (λ_ _=>False) s)(J:∀a s,Q a s->I a s):wpAny M A G I E s :=
 OI h J λ_ _ z=>z.elim
def Hi(te:EH):qD:=λD R σ H=>te σ H (λ_ H1=>D.nx σ H1) (R σ)
theorem XP.at{pins:Xo}{σ:St}{R:XR}{x:Value}{s':kz}(h:XP X pins (λG cls H'=>G=σ/\R σ cls H') x s'):XP X pins R x s':=h.imp λ_ _ _ ⟨e,q⟩=>e▸q
theorem gy(L:DC X e tx)(hs:Ri e none pos.line X.env=pure false:=by rfl):BB X (.Expr e pos) (Hi tx):=by
 intros D R I h;show wpAny_Expr_any (OI (L pins s σ H _ _ I h) (λv N ⟨x,H1,J,O,G⟩=>#[σ,H1,J,G]) λ_ _ z=>z.at) I.quiet hs
def Kp(te:EH):qD:=λD R σ H=>te σ H D.rt (R σ)
theorem iB(N:DC X e tx):BB X (.Return (some e) pos) (Kp tx):=by
 intros D R I h;show Ve (OI (N pins s σ H _ _ I h) (λv O ⟨x,H1,J,L,G⟩=>#[x,σ,H1,J,L,G]) λ_ _ z=>z.at)
def GW(te:EH)(i:Nat):qD:=λD R σ H=>te σ H (λv H1=>D.nx (σ.set i (some v)) H1) (R σ)
theorem ER{i:Nat}{x:Str}{pos':QY}(U:X.N.Nodup)(hi:X.N[i]?=some x)(J:Loc X.env.scope x)(he:DC X e tx)(hs:Ri e (some (.Name x pos')) pos.line X.env=pure false:=by rfl)(Y:X.fn x=true\/X.env.scope.names.lookup x=some .local:=by first|show .inl rfl|show .inr rfl|assumption) :
  BB X (.Assign [.Name x pos'] e pos) (GW tx i):=by
 intros D R I h;show Vh (OI (he pins s σ H _ _ I h) (λv s1 ⟨y,H1,S,L,G⟩=>?_) λ_ _ z=>z.at) hs;show gx S U hi J L (λs2 O=>#[_,H1,O,G]) Y
theorem AR(i:Nat){x:Str}{pos':QY}(I:X.N.Nodup)(L:DC X e tx)(hi:X.N[i]?=some x:=by rfl)(G:Loc X.env.scope x:=by first|show .inl rfl|show .inr rfl)(hs:Ri e (some (.Name x pos')) pos.line X.env=pure false:=by rfl)(J:X.fn x=true\/X.env.scope.names.lookup x=some .local:=by first|show .inl rfl|show .inr rfl|assumption):BB X (.Assign [.Name x pos'] e pos) (GW tx i):=ER I hi G L hs J
def KG(c:TT)(t u:qD):qD:=λD R σ H=>c σ H λb H1=>if b=true then t D R σ H1 else u D R σ H1
theorem dF{c:Ot}{a b:List Ow}{tc:TT}(S:PT X.nA c tc)(O:mR X a ts)(N:mR X b us):BB X (.If c a b pos) (KG tc ts us):=by
 intros D R I h;show wpAny_If (nx (S pins s σ H _ (I.gN _) h) λd J ⟨H1,L,G⟩=>?_);cases d with
 |true=>show O pins J σ H1 D R L.ck G
 |false=>show N pins J σ H1 D R L.ck G
variable{k:Nat}{f C:Addr}{fd:p4}{ps:List Str}{sp:Sp}{dvs:List V}{ds:Xu}{x m:Str}{p apos:QY}{o:Ot}{es:List Ot}{ta:TE}{t:TA}
theorem zb{pins:Xo}{σ:St}{H:Hp}{s:kz}{Q:VK}{R:Value->Hp->Prop}{us:Xu}{vs:List V}(F:aV X.prog X.w X.K X.mg X.base (fC X.prog X.w) k f fd ps sp)(S:dB k X.A)(L:Binds X.K fd ps ds)(hd:Vals dvs ds)(hex:X.ex=[])
  (I: ~~~H s) (r:Vals vs us) (h:sp (vs++dvs) H Q λcls _ H'=>R cls H'):↑(call (.ref f) us) (EP X pins σ Q) (XP X pins λO cls H'=>O=σ/\R cls H') s:=by
 let J:Vals (vs++dvs) (us++ds):=r.append hd;let U:(us++ds).length=ps.length:=(by rw[<-J.length];show F.len _ _ _ _ h);show Su (Sj (F.run X.A X.stack s H #[us,[]] (us++ds) (vs++dvs) Q _ S I.Ik (L s us I.jP U) J h) λr s' G=>?_);cases r with
 |error e=>show I.comes (E:=λcls _ H'=>R cls H') hex (show fC X.prog X.w X.stack H s (λcls _ H'=>R cls H') e s' from G)
 |ok N =>
  cases N with
  |ret u=>show I.after G
  |next=>show Pr G
  |brk=>show Pr G
  |cont=>show Pr G
def CJ(sp:Sp)(dvs:List V)(t:TA):EH:=λσ H Q R=>t σ H λvs H1=>sp (vs++dvs) H1 Q λcls _ H'=>R cls H'
def Cw(C:Addr)(m:Str)(sp:Sp)(dvs:List V)(ta:TE)(t:TA):EH:=λσ H Q R=>ta σ H λx H1=>∃a dx fs,x=.ref a/\H1 a=some (.ins C dx fs)/\fs.lookup m=none /\
 t σ H1 λvs H2=>sp (x::(vs++dvs)) H2 Q λcls _ H'=>R cls H'
theorem Cy(F:aV X.prog X.w X.K X.mg X.base (fC X.prog X.w) k f fd ps sp)(Y:dB k X.A)(hex:X.ex=[])(L:Gl X x)(O:X.mg x=some (.ref f))(U:T8 X.K (.ref f)=true)(J:Binds X.K fd ps ds)(hd:Vals dvs ds)
  (N:PA X.nA (e::es) t) (ab:(x==("__debug__" : Str))=false:=by decide) (he:starEach (e::es) X.env=(false,eval e X.env)::starEach es X.env:=by rfl) (S:(backTo pos (starEach es X.env)).any (·.1)=false:=by rfl) :
  DC X (.Call (.Name x p) (e::es) [] pos) (CJ sp dvs t):=by
 intros Q R I h;show Qf (iG I L O ?_ ab);show Sv (h₀:=X.base) I.ok.mod.Ex U (nx (N pos pins s σ H _ (I.gN _) h) λus s1 ⟨vs,H1,G,r,q⟩=>#[G.ck.jP,?_]) he S;show zb F Y J hd hex G.ck r q
theorem C0{pl:RZ Bool}(he:PE X.nA o ta)(c:qL X.K C)(G:Meth X.K C m f)(F:aV X.prog X.w X.K X.mg X.base (fC X.prog X.w) k f fd ps sp)(hr:dB k X.A)(hex:X.ex=[])(U:Binds X.K fd ps ds)(hd:Vals dvs ds)(O:PA X.nA (e::es) t)
  (S:starEach (e::es) X.env=(false,eval e X.env)::starEach es X.env:=by rfl) (ab:(backTo pos (starEach es X.env)).any (·.1)=false:=by rfl)
  (ht:eval (.Call (.Attribute o m apos) (e::es) [] pos) X.env=(do
   let ov <-eval o X.env
   SW apos.atName
   let (f,first) <-Rg [ov] (Rj ov m pl)
   Tu pos f first (backTo pos (starEach (e::es) X.env)) (Ro pos (Qr [] X.env))):=by rfl) :
  DC X (.Call (.Attribute o m apos) (e::es) [] pos) (Cw C m sp dvs ta t):=by
 intros Q R I h;show Tj (pl:=pl) (nx (he pins s σ H _ (I.gN _) h) λu Y ⟨x,H1,L,rx,a,dx,fs,ex,ea,l,q⟩=>?_) ht;subst ex;obtain rfl:u=Value.ref a:=rx;show iw L.ck ea c G l ?_;show Sv (first:=[.ref a]) (h₀:=X.base) I.ok.mod.Ex G.kp (nx (O pos pins Y σ H1 _ L q) λus s2 ⟨vs,H2,J,r,N⟩=>#[J.ck.jP,?_]) S ab;show zb (us:=.ref a::us) (vs:=.ref a::vs) F hr U hd hex J.ck (.cons rfl r) N
end
def Cj:List Value:=[.type "ValueError",.type "Exception",.type "BaseException",.type "object"]
theorem Fv{K:HC}{h:Heap}{C:Addr}{L:Xu}{I:String}(X:K.In h)(q:excIn K C L I=true) :
  ∃bm N nm q bs hdct sn sub ab col dd k0 k1 k2 k3 k5 mN,h.get? C=some (excClassObj nm q C N bs bm hdct sn sub ab col dd k0 k1 k2 k3 k5 I)/\h.Ns N mN/\mN "__init__" = none/\OwnTail h L bm:=by
 unfold excIn at q
 set_option tactic.hygienic true in split at q
 .rename_i dd cd sl S
  set_option tactic.hygienic true in split at q
  .rename_i C' bm k0 k1 k2 k3 n k5 J hs;simp only[Qe,beq_iff_eq,Bool.not_eq_true']at q;let#[#[#[#[#[rfl,rfl],O],ht],G],R]:=q;let#[nm,bs,ac,ns,U,hd,sn,sub,ab,col,del]:=cd;dsimp only at J O G R;subst J O;let Y:sl = ([k0,k1,k2,k3,some (.builtin n),k5].toArray):=by
    let#[l]:=sl;simp only at hs;rw[hs]
   subst Y;show#[bm,ns,nm,U,bs,hd,sn,sub,ab,col,dd,k0,k1,k2,k3,k5,_,X _ _ S,.of_isNs (PySem.W.isNs_of_in X G),PySem.W.nsMap_none_of_in X G R,PySem.W.tail_of_in X ht]
  .cases q
 .cases q
theorem vV{P:se}{w:G1}{H:Hp}{h:Heap}{a:Addr}{o:HO}(x:bZ P w H h a o):∃ob,h.get? a=some ob:=by
 cases o with
 |lst xs=>let#[_,_,_,_,e]:=x;show#[_,e]
 |tup xs=>let#[_,_,_,p]:=x;let#[o,e,_]:=p;show#[_,e]
 |dK kvs=>let#[_,_,_,_,o,_,_,e,_]:=x;show#[_,e]
 |dT kvs=>let#[_,_,_,_,o,_,_,e,_]:=x;show#[_,e]
 |set S n=>let#[o,_,_,_,e,_]:=x;show#[_,e]
 |ins C dx fs=>let#[_,_,_,e,_]:=x;show#[_,e]
 |own y=>let#[_,e]:=x;show#[_,e]
 |xd fs=>let#[_,#[_,_,_,e,_],_]:=x;show#[_,e]
 |rng lo hi=>let#[_,_,_,e]:=x;show#[_,e]
 |cW ob u=>let#[e,_]:=x;show#[_,e]
 |tbl ps=>show#[_,(show h.get? a=some _ from x)]
 |met f y=>show#[_,(show h.get? a=some _ from x)]
 |ext G=>let#[_,e,_]:=x;show e
section
variable{X:Cx}{pins:Xo}{σ:St}{H:Hp}{s:kz}
theorem Inv.raised{h':Heap}{e:Addr}{cls:Value}{vs:Xu}(I: ~~~H s)(hex:X.ex=[])(J:Heap.MadeExcOf s.heap h' e cls vs):XP X pins (λY c H'=>Y=σ/\c=cls/\H'=H) (.ref e) { s with heap:=h' }:=by
 let#[t,L,ac,ht]:=J.there;let U:∀env∈X.stack,∀a,env.frame=some a->a∈qA X.stack:=λenv L a hf=>Sr.mpr #[env,L,hf];let nf:∀b u,H b=some u->b∉qA X.stack:=λb u q z=>(by rwa[I.sN b z]at q);let hB:∀b,s.heap.get? b=none->(WT s.heap (qA X.stack)).get? b=none:=λb q=>by
  cases z:(WT s.heap (qA X.stack)).get? b with
  |none=>rfl
  |some o=>rwa[V6 _ z]at q
 show#[e,cls,.ref t,WT s.heap (qA X.stack),σ,H,rfl,.inl #[λb o q=>J.keeps b o (V6 _ q),hB e J.new,?_,2,L,1,1],#[2,L,1],λO tk k u=>?_,I.Gk hex J.new ?_,1,rfl]
 .show(PySem.W.funFrames_hide I.stack U).of_keeps λb o q _=>#[o,J.keeps b o q,rfl]
 .let N:∀b o,s.heap.get? b=some o->b∉qA X.stack->O.get? b=some o:=λb o q nb=>k b o (hideAll_get _ q nb);let sl:∀b o,s.heap.get? b=some o->b∈qA X.stack->∃sl,O.get? b=some { o with slots:=sl }:=λb o q G=>by
   let#[_,o',S,hd]:=I.stack.mem G;rwa[q]at S;show u b o (J.keeps b o q) hd
  show I.Ca (s':={ s with heap:=O,toks:=tk }) (ch:=[]) rfl #[λb o q n G _=>N b o q G,λb o q n G _=>sl b o q G,λb o q n _=>n,λb o q _=>?_,λb xs q=>q,λb o u q=>q,λb ps q=>#[([].toArray),by rw[q];simp]] (λa o q=>?_) I.bare (λb z=>absurd z (by simp))
  .by_cases G:b∈qA X.stack
   .let#[ab,q']:=sl b o q G;show#[_,q']
   .show#[o,N b o q G]
  .show(I.bK a o q).iP (λc v hc qc=>N c v qc ?_) (λ_ z=>z) λ_ _ z=>z;rcases hc with z|z
   .rw[z];show nf a o q
   .show nf c _ z
 .cases z:H e with
  |none=>rfl
  |some o =>
   let#[ob,R]:=vV (I.bK e o z);rwa[J.new]at R
end
abbrev TJ:=Str->St->Hp->(Str->Hp->Prop)->Prop
def PJ(X:Cx)(vs:List Ot)(t:TJ):Prop :=
 ∀(pins:Xo)(s:kz)(σ:St)(H:Hp)(G:Str)(Q:Str->Hp->Prop),~~~H s->t G σ H Q->Joins (model X.prog X.w) X.A X.xe (evalEach vs X.env) G (λout I=>∃H',~~~H' I/\Q out H') s
section
variable{X:Cx}{v v2:Ot}{vs:List Ot}{te:TE}{t:TJ}{pos:QY}
def Ka:TJ:=λacc _ H Q=>Q acc H
def HW(te:TE)(t:TJ):TJ:=λG σ H Q=>te σ H λx H1=>∃y,x=.str y/\(G++y).length<=sizeLine/\t (G++y) σ H1 Q
theorem jW:PJ X [] Ka:=λ_ s _ H _ _ I h=>show ∃H',_ from#[H,I,h]
theorem cG(R:PE X v te)(N:PJ X vs t):PJ X (v::vs) (HW te t):=by
 intros S Q I h;change wpAny _ _ (eval v X.env) _ _ s;show bW (R pins s σ H _ I h) λu G ⟨x,H1,L,J,y,ex,O,q⟩=>?_;subst ex;let#[tk,rfl]:=J;show#[y,tk,rfl,O,N pins G σ H1 _ Q L q]
theorem ir(h:PJ X (v::v2::vs) t):PE X (.JoinedStr (v::v2::vs) pos) (λσ H Q=>t Str.empty σ H λout H'=>out.length<=sizeLine/\Q (.str out) H'):=by
 intros Q I q;show wpAny_JoinedStr ?_;let z:=h pins s σ H Str.empty _ I q;let U:∀(l:List (RZ Value))(J:Str)(s:kz),Joins (model X.prog X.w) X.A X.xe l J (λout G=>∃H',~~~H' G/\out.length<=sizeLine/\Q (.str out) H') s ->
   Joins (model X.prog X.w) X.A X.xe l J (λout G=>out.length<=sizeLine/\EP X pins σ Q (.str out G.toks) { G with toks:=G.toks+1 }) s:=by
  intro l
  induction l with
  |nil =>
   intro J s ⟨H',R,N,L⟩;show#[N,.str J,H',R.tok _,#[0],L]
  |cons a r S =>
   intro J s O;show bW O λu G ⟨y,tk,e,N,L⟩=>#[y,tk,e,N,S _ _ L]
 show U _ _ _ z
theorem kl(N:PE X v te):PE X (.FormattedValue v (-1) none pos) (λσ H Q=>te σ H λx H1=>∃i:Int,x=.int i/\i.natAbs.log2<1920/\Q (.str (toString i)) H1):=by
 intros Q I h;show wpAny_FormattedValue_plain (bW (N pins s σ H _ I h) λu O ⟨x,H1,J,G,i,ex,L,q⟩=>?_);subst ex;let#[tk,rfl]:=G;show wpAny_formatField_int L #[.str (toString i),H1,J.tok _,#[0],q]
end
theorem len_app(a b:Str):(a++b).length=a.length+b.length:=strLen_append a b
theorem Fj{i:Int}(h:i.natAbs.log2<1920):(toString i:Str).length<=1921:=by
 let e:=int_text_length_le (k:=1920) ar h;change(Str.ofString (toString i)).length<=1921;rw[PySem.ofString_length];show e
section
variable{X:Cx}{C:Addr}{x:Str}{np cpos pos:QY}{e₀:Ot}{es:List Ot}{t:TA}
theorem fm(hg:Gl X x)(U:X.mg x=some (.ref C))(O:excIn X.K C Cj "ValueError.__new__" = true)(hc:X.calm=true)(hex:X.ex=[])(S:PA X.nA (e₀::es) t)
  (J:starEach (e₀::es) X.env=(false,eval e₀ X.env)::starEach es X.env:=by rfl) (ah:(backTo cpos (starEach es X.env)).any (·.1)=false:=by rfl) (hd:(x==("__debug__" : Str))=false:=by decide) :
  BB X (.Raise (some (.Call (.Name x np) (e₀::es) [] cpos)) none pos) (λD R σ H=>t σ H λvs H1=>vs.length<=sizeLine/\R σ (.ref C) H1):=by
 intros D R I h;let#[tl,N,nm,q,bs,hdct,sn,sub,ab,col,dd,k0,k1,k2,k3,k5,mN,hC,Y,ac,T]:=Fv I.ok.mod.Ex O;show wpAny_Raise_call_subT (C:=C) (nm:=nm) (q:=q) (N:=N) (bs:=bs) (bm:=tl) (hdct:=hdct) (sn:=sn) (sub:=sub) (ab:=ab) (col:=col) (dd:=dd) (k0:=k0) (k1:=k1) (k2:=k2) (k3:=k3) (k5:=k5)
  F.excBase_ValueError (mN:=mN) (T.hasType F.excBase_ValueError.hasBase) (I.ok.hd hc) (by rw[J];change(false||(backTo cpos (starEach es X.env)).any (·.1))=false;rw[ah];rfl) ac (iG I hg U #[5] hd)
 let h2:=S cpos pins s σ H _ (I.gN _) h;rw[J]at h2 ⊢;show Calls.evalArgs_plain (nx h2 λus s2 ⟨vs,H1,G,r,hl,q1⟩=>#[5,G.ck.bk _ _ hC,Y.keeps G.ck.bk,T.keeps G.ck.bk,λh' e L=>?_])
 .change us.length<=sizeLine;rw[<-r.length];show hl
 .show(G.ck.raised hex L).imp λ_ _ _ ⟨a,b,c⟩=>by subst a b c;show q1
variable{P:se}{w:G1}{K:HC}{mg:Xq}{base:Heap}
theorem uf{M:SV}{A:L7}{E:Xp}{s:kz}{B:Heap}{env:Tt}{outer:List Tt}{L e:Addr}{cls I:Value}{Q:Unit->kz->Prop}
  (R:A.frames=some (env::outer)) (G:env.frame=some L) (h:vH B (env::outer) e cls I s.heap\/Heap.FlyingW B (env::outer) e cls I s.heap\/∃L,env.frame=some L/\Heap.HeldW B (env::outer) e cls I L s.heap)
  (N:∀h',Heap.FlyingW B outer e cls I h'->s.heap.UpToSlots h'->Q () { s with heap:=h' }):wpAny M A (leaving env (.ref e)) Q E s:=by
 rcases h with⟨h1,h2,Y,oe,vs,he,hc,hd,h0,U⟩|h|⟨L',S,O⟩
 .subst hc;show wpAny_leaving_firstW R Y G he h1 h2 hd U h0 λh' ⟨k1,⟨_,_,k2⟩,k3,k4⟩=>N h' #[k1,h2,k2,k3] k4
 .show wpAny_leaves_onW R G h N
 .rw[G]at S;cases S;let#[g1,g2,g3,g4]:=id O;show k9 (Ui G g4 (wpAny_landsW O λh' J up=>N h' #[J.1,J.2.1,?_,J.2.2.2] up));show(show h'.FunFrames B (env::outer)from J.2.2.1).2.2
theorem vN{M:SV}{A:L7}{E:Xp}{s:kz}{B:Heap}{env:Tt}{outer:List Tt}{L e:Addr}{cls G:Value}{Q:Unit->kz->Prop}
  (N:A.frames=some (env::outer)) (O:env.frame=some L) (h:vH B (env::outer) e cls G s.heap\/Heap.FlyingW B (env::outer) e cls G s.heap\/∃L,env.frame=some L/\Heap.HeldW B (env::outer) e cls G L s.heap) (c:C2 e s.heap)
  (R:∀h',Heap.FlyingW B outer e cls G h'->s.heap.UpToSlots h'->C2 e h'->Q () { s with heap:=h' }):wpAny M A (leaving env (.ref e)) Q E s :=
 OI ((wI env (.ref e)).any (E:=λ_ _=>False) (uf (Q:=λ_ s'=>∃h',s'={ s with heap:=h' }/\Heap.FlyingW B outer e cls G h'/\s.heap.UpToSlots h') N O h λh' f u=>#[h',rfl,f,u]) c)
  (λ_ s' ⟨⟨h',I,f,u⟩,J⟩=>by subst I;show R h' f u J) λ_ _ z=>z.1.elim
theorem cE.N9{x O:Str}{st:Ow}{f:Addr}{fd:p4}{N ps:List Str}{k:Nat}{sp:Sp}(F:cE K x O st f fd)(S:aE N ps (aw st))(len:∀vs H Q E,sp vs H Q E->vs.length=ps.length)
  (am:∀(G:Value)(A:L7)(outer:List Tt)(s:kz)(H:Hp)(vs:List V)(Q:VK)(E:XK),dB k (A.deeper (Sw O (aw st) s⁻¹ f G))->sp vs H Q E ->
   ∃t,mR (tD (fC P w) P w K mg base N O (aw st) f G A outer s H E) (eD st) t/\t { nx:=λ_ H'=>Q .non H',rt:=Q } (λ_ cls H'=>E cls none H') (start N vs) H):⇑aV (k+1) f fd ps sp:=by
 let#[oc,od,kV,as,pm,an,G,ct,aB,rfl,lk,ac]:=F.ex;show F4 lk ac S len λA outer s H vs Q E hr ap=>?_;let#[t,h,q]:=am G A outer s H vs Q E hr ap;show#[λD σ H'=>t D (λ_ cls H'=>E cls none H') σ H',λpins s1 σ H1 D I q1=>?_,q];show OI (h pins s1 σ H1 D _ I q1) (λ_ _ z=>z) λv s2 hx=>?_;let#[e,cls,a0,B,aT,H2,rfl,Y,c2,U,new,hE]:=hx;let iP:B.StaysIn s2.heap:=by
  rcases Y with z|z|⟨_,_,z⟩
  .show z.1
  .show z.1
  .show z.1
 let R:=U.now iP;show vN (L:=s⁻¹) R.ok.frames rfl Y c2 λh' ab up c3=>?_;show#[e,cls,a0,B,H2,rfl,R.os,R.bare,new.old,new.free,ab,c3,λah k u=>(λJ=>#[J.base,J.bK]) (U ah s2.toks k (up.trans u)),hE]
theorem cE.jL{x G:Str}{st:Ow}{f:Addr}{fd:p4}{N ps:List Str}{k:Nat}{sp:Sp}(F:cE K x G st f fd)(S:aE N ps (aw st))
  (J:∀(I:Value)(A:L7)(outer:List Tt)(s:kz)(H:Hp)(vs:List V)(Q:VK)(E:XK),dB k (A.deeper (Sw G (aw st) s⁻¹ f I))->sp vs H Q E ->
   ∃t,mR (tD (fC P w) P w K mg base N G (aw st) f I A outer s H E) (eD st) t/\t { nx:=λ_ H'=>Q .non H',rt:=Q } (λ_ cls H'=>E cls none H') (start N vs) H) (len:∀vs H Q E,sp vs H Q E->vs.length=ps.length:=by intro vs H Q E h;cases h<;>subst_vars<;>rfl):⇑aV (k+1) f fd ps sp:=F.N9 S len J
end
abbrev Cx.hand(X:Cx)(e:Addr):Cx:={ X with A:=X.A.mark (some (.ref e)),calm:=false }
section
variable{X:Cx}{pins:Xo}{σ:St}{H:Hp}{s:kz}
theorem Cx.Ok.hand(ok:X.Ok)(e:Addr):(X.hand e).Ok :=
 #[ok.mod,ok.kind,ok.glob,ok.blt,ok.above,ok.inj,ok.has,ok.Ie,(λz=>Bool.noConfusion z),ok.frames,ok.Jw,ok.LI,ok.bs,ok.Bc,ok.x9,ok.wW,ok.jY,ok.EY]
theorem Inv.hand(I: ~~~H s)(e:Addr):Inv (X.hand e) pins σ H s:=#[I.ok.hand e,I.os,I.bare,I.base,I.loc,I.cell,I.free,I.f9,I.pin,I.bK,I.len]
theorem Inv.HQ{e:Addr}(I:Inv (X.hand e) pins σ H s)(ok:X.Ok): ~~~H s:=#[ok,I.os,I.bare,I.base,I.loc,I.cell,I.free,I.f9,I.pin,I.bK,I.len]
theorem Inv.IM{e:Addr}{cls:Value}(I: ~~~H s)(n:Ei X pins H e)(x:∃o,s.heap.get? e=some o/\o.cls=cls): ~~~(upd H e (xo e cls)) s:=by
 let ne:∀b o,H b=some o->b≠e:=λb o q=>au q n.free;show#[I.ok,I.os,I.bare,#[I.base.keep,I.base.slot,λb o q O L=>?_,I.base.there,λb xs q=>?_,λb o u q=>?_,λb ps q=>?_],I.loc,I.cell,?_,λy c q=>?_,λp J=>?_,λb u q=>?_,I.len]
 .rw[ai (λz=>by rwa[z,n.old]at q)];show I.base.free b o q O L
 .let z:=I.base.pF b xs q;rw[ai (ne _ _ z)];show z
 .let z:=I.base.mV b o u q;rw[ai (ne _ _ z)];show z
 .let#[U,z]:=I.base.pq b ps q;show#[U,by rw[ai (ne _ _ z)];show z]
 .rw[ai (qs n.loc)];show I.free
 .rw[ai (n.cell y c q)];show I.f9 y c q
 .let#[N,R,S]:=I.pin p J;show#[N,by rw[ai (n.pin p J)];show R,S]
 .by_cases G:b=e
  .subst G;rwa[ae]at q;show JS x
  .rw[ai G]at q;show(I.bK b u q).iP (λ_ _ _ z=>z) (λc z=>by rw[ai (ne _ _ z)];show z) λc xs z=>by rw[ai (ne _ _ z)];show z
theorem Inv.unset{i:Nat}{n:Str}{m:Xq}{h':Heap}{v:Xv}{tk:Nat}(I: ~~~H s)(hN:X.N.Nodup)(hi:X.N[i]?=some n)(hl:X.env.kindOf n=some .local)
  (hm:s.heap.Ns X.env.locals m) (ac:∀(i:Nat)(x:Str)(v:V),X.N[i]?=some x->σ[i]?=some (some v)->Lr X.env.scope x->∃u,RelV v u/\Look X.env s.heap m x u)
  (hn:h'.Ns X.env.locals (λx=>if x=n then v else m x)) (hs:Heap.SameBut X.env.locals s.heap h'):Inv X pins (σ.set i none) H { s with heap:=h',toks:=tk }:=by
 let ab:i<σ.length:=(by rw[I.len];show(kQ.mp hi).1);let Bx:=I.Bx;let S:∀b o,X.s₀.heap.get? b=some o->b≠X.env.locals:=λb o e=>OR (Oq (Heap.lt_size e) I.ok.above);show#[I.ok,I.os,I.bare,#[λb o e n U L=>?_,λb o e n U L=>?_,I.base.free,λb o e L=>?_,I.base.pF,I.base.mV,I.base.pq],#[_,hn,λj y v' G O e3=>?_],λy c e=>?_,I.free,I.f9,λp hp=>?_,λb ob e=>?_,by simpa using I.len]
 .show(hs.2 b (S b o e)).trans (I.base.keep b o e n U L)
 .let#[sl,G]:=I.base.slot b o e n U L;show#[sl,(hs.2 b (S b o e)).trans G]
 .let#[o',G]:=I.base.there b o e L;show#[o',(hs.2 b (S b o e)).trans G]
 .by_cases R:j=i
  .subst R;rwa[OL ab]at O
  .rw[Oy (qs R)]at O;let#[u',r',q]:=ac j y v' G O e3;show#[u',r',?_];rcases q with⟨k,e⟩|⟨k,c,e,z⟩
   .show .inl #[k,?_];have:y≠n:=λe=>R (pQ hN G (e▸hi));simp[this,e]
   .show .inr #[k,c,e,z.sameBut hs (Bx y c e)]
 .let#[Y,z]:=I.cell y c e;show#[Y,z.sameBut hs (Bx y c e)]
 .let#[e,n,ne,nf,d]:=I.pin p hp;show#[(hs.2 p.1 ne).trans e,n,ne,nf,d]
 .show(I.bK b ob e).iP (λc Y J q=>(hs.2 c ?_).trans q) (λ_ q=>q) λ_ _ q=>q;rintro rfl;rcases J with J|J
  .rw[<-J,I.free]at e;cases e
  .rw[I.free]at J;cases J
end
theorem uU{M:SV}{A:L7}{E:Xp}{s:kz}{B:Heap}{env:Tt}{outer:List Tt}{L e:Addr}{cls I:Value}{Q:Unit->kz->Prop}
  (R:A.frames=some (env::outer)) (G:env.frame=some L) (h:vH B (env::outer) e cls I s.heap\/Heap.FlyingW B (env::outer) e cls I s.heap\/∃L,env.frame=some L/\Heap.HeldW B (env::outer) e cls I L s.heap)
  (J:∀h',Heap.HeldW B (env::outer) e cls I L h'->s.heap.UpToSlots h'->Q () { s with heap:=h' }):wpAny M A (noteFrame (.ref e) env) Q E s:=by
 rcases h with⟨h1,h2,Y,oe,vs,U,hc,hd,h0,O⟩|h|⟨L',S,N⟩
 .subst hc;unfold noteFrame;simp only[G];show k9 (RU U hd O ?_);rw[Xk ar];show wpAny_entryW R Y G U h1 h2 hd (Q1.mp O).1 h0 λh' ⟨k1,k2,k3,k4⟩=>J h' #[k1,h2,k2,k3] k4
 .show wpAny_looks_onW R G h J
 .rw[G]at S;cases S;show Ui G N.2.2.2 (J s.heap N (Heap.UpToSlots.refl _))
theorem pz{M:SV}{A:L7}{E:Xp}{s:kz}{B:Heap}{env:Tt}{outer:List Tt}{L e:Addr}{cls G:Value}{Q:Unit->kz->Prop}
  (N:A.frames=some (env::outer)) (O:env.frame=some L) (h:vH B (env::outer) e cls G s.heap\/Heap.FlyingW B (env::outer) e cls G s.heap\/∃L,env.frame=some L/\Heap.HeldW B (env::outer) e cls G L s.heap) (c:C2 e s.heap)
  (R:∀h',Heap.HeldW B (env::outer) e cls G L h'->s.heap.UpToSlots h'->C2 e h'->Q () { s with heap:=h' }):wpAny M A (noteFrame (.ref e) env) Q E s :=
 OI ((zd (.ref e) env).any (E:=λ_ _=>False) (uU (Q:=λ_ s'=>∃h',s'={ s with heap:=h' }/\Heap.HeldW B (env::outer) e cls G L h'/\s.heap.UpToSlots h') N O h λh' f u=>#[h',rfl,f,u]) c)
  (λ_ s' ⟨⟨h',I,f,u⟩,J⟩=>by subst I;show R h' f u J) λ_ _ z=>z.1.elim
theorem EL{M:SV}{A:L7}{E:Xp}{s:kz}{B:Heap}{l:List Tt}{e L:Addr}{cls G:Value}{Q:Unit->kz->Prop}(I:Heap.HeldW B l e cls G L s.heap)(c:C2 e s.heap)
  (O:∀h',Heap.FlyingW B l e cls G h'->s.heap.UpToSlots h'->C2 e h'->Q () { s with heap:=h' }):wpAny M A (setFlight (.ref e) none) Q E s :=
 OI ((mr (.ref e) none).any (E:=λ_ _=>False) (wpAny_landsW (Q:=λ_ s'=>∃h',s'={ s with heap:=h' }/\Heap.FlyingW B l e cls G h'/\s.heap.UpToSlots h') I λh' f u=>#[h',rfl,f,u]) c)
  (λ_ s' ⟨⟨h',J,f,u⟩,N⟩=>by subst J;show O h' f u N) λ_ _ z=>z.1.elim
theorem Dl{M:SV}{A:L7}{E:Xp}{s:kz}{B:Heap}{l:List Tt}{e:Addr}{cls G:Value}{Q:Unit->kz->Prop}(I:Heap.FlyingW B l e cls G s.heap)(c:C2 e s.heap)
  (N:∀h',Heap.FlyingW B l e cls G h'->s.heap.UpToSlots h'->C2 e h'->Q () { s with heap:=h' }):wpAny M A (setFlight (.ref e) none) Q E s :=
 OI ((mr (.ref e) none).any (E:=λ_ _=>False) (lands_againW (Q:=λ_ s'=>∃h',s'={ s with heap:=h' }/\Heap.FlyingW B l e cls G h'/\s.heap.UpToSlots h') I λh' f u=>#[h',rfl,f,u]) c)
  (λ_ s' ⟨⟨h',J,f,u⟩,L⟩=>by subst J;show N h' f u L) λ_ _ z=>z.1.elim
def Kh(i:Nat)(D:Ends):Ends:={ nx:=λσ H=>D.nx (σ.set i none) H,rt:=D.rt,bk:=λσ H=>D.bk (σ.set i none) H,ct:=λσ H=>D.ct (σ.set i none) H }
def Mx(K:HC)(C:Addr)(i:Nat)(tb:qD)(ts:TS):TS:=λD σ H=>tb D (λG cls H'=>exmOne K cls (.ref C)=some true/\∀e,H' e=none->ts (Kh i D) (G.set i (some (.ref e))) (upd H' e (xo e cls))) σ H
section
variable{X:Cx}{C:Addr}{i:Nat}{x n:Str}{np hpos pos:QY}{body suite:List Ow}{b₀:Ow}{tb:qD}{ts:TS}
theorem BX(hex:X.ex=[])(a3:X.stack=X.env::X.outer)(hf:X.env.frame=some X.env.locals)(hg:Gl X x)(hm:X.mg x=some (.ref C))(hN:X.N.Nodup)(hi:X.N[i]?=some n)(hl:X.env.scope.names.lookup n=some .local)
  (hb:mR X body tb) (hs:∀e,vo (X.hand e).nA (b₀::suite) ts) (hd:(x==("__debug__" : Str))=false:=by decide) :
  PS X (.Try body [.ExceptHandler (some (.Name x np)) (some n) (b₀::suite) hpos] [] [] pos) (Mx X.K C i tb ts):=by
 intros D I h;show wpAny_Try_except (OI (hb pins s σ H D _ I h) (λf S q=>?_) λv S hx=>?_)
 .cases f with
  |next=>show P7 q
  |ret v=>show q
  |brk=>show q
  |cont=>show q
 let#[e,cls,a0,B,bb,H1,rfl,fl,c2,be,new,as,hk]:=hx;let iP:B.StaysIn S.heap:=by
  rcases fl with z|z|⟨_,_,z⟩
  .show z.1
  .show z.1
  .show z.1
 let I1:=be.now iP;let am:=I1.ok.frames;rw[a3]at fl am;let a6:=I1.ok;show pz am hf fl c2 λh4 held a2 c4=>?_;show EL held c4 λh5 ac aT c5=>?_;let ah:=a2.trans aT;let I5:=(be h5 S.toks ac.1 ah).hand e;let#[ob,a1,a7]:=ac.there;show wpAny_handleBy_cons (codeAny_handlers_test (iG (X:=X.hand e) I5 hg hm ?_ hd)) (by intro q;cases q);let LT:UO (model X.prog X.w) h5 (VF (.ref e)) cls:=a7▸(VX a1).andThen .now;show(PySem.W.exm_one I5.jP LT as).here (s:={ S with heap:=h5 }) ?_;show codeAny_handlers_suite_as ?_;show Dl ac c5 λh6 ap ba c6=>?_;let I6:=be h6 S.toks ap.1 (ah.trans ba);let a5:=(I6.IM (cls:=cls) new ap.there).hand e;show gx (X:=X.hand e) (v:=.ref e) a5 hN hi (.inl hl) rfl (λs7 I7=>?_) (.inr hl);show nx (hs e pins s7 _ _ _ (I7.gN _) (hk e new.free)) λf s8 U=>?_;let Y:∀{O:St}{J:Hp}{Q:kz->Prop},Inv (X.hand e).nA pins O J s8->(∀L,Inv X pins (O.set i none) J L->Q L) ->
   ↑(do Vi X.env n .none;unbindBehindTheSuite X.env n hpos) (λ_ L=>Q L) X.xe s8:=λ{O J Q} G k=>by
  let ab:Inv X pins O J s8:=(G.ck).HQ a6;let#[m,hn,a8]:=ab.loc;show wpAny_nameGoes_keeps hl hn (by rw[ab.ok.kind];rfl) λh' v aB a4=>k _ (ab.unset hN hi hl hn a8 aB a4)
 cases f with
 |next =>
  let#[O,J,G,q]:=U;show Y G λL R=>#[2,R,q]
 |brk =>
  let#[O,J,G,q]:=U;show Y G λL R=>#[2,R,q]
 |cont =>
  let#[O,J,G,q]:=U;show Y G λL R=>#[2,R,q]
 |ret u =>
  let#[v,O,J,G,rv,q]:=U;show Y G λL R=>#[v,2,R,rv,q]
variable{tg:Ot}
theorem XP.passes{pins:Xo}{R:XR}(S:X.stack=X.env::X.outer)(G:X.env.frame=some X.env.locals):VC (model X.prog X.w) X.A X.env (XP X pins R):=by
 intro x Y hx;let#[e,cls,a0,B,ah,H1,rfl,I,c2,N,new,q]:=hx;let iP:B.StaysIn Y.heap:=by
  rcases I with z|z|⟨_,_,z⟩
  .show z.1
  .show z.1
  .show z.1
 let I1:=N.now iP;let O:=I1.ok.frames;rw[S]at I O;show pz O G I c2 λh4 held ac c4=>?_;let#[g1,g2,g3,oe,vs,T,oT,ts,k1,#[k2,k3],U,k5,k6,k7,L,J,ab]:=id held;change wpAny _ _ _ _ _ _;rw[G];show k9 (RU k1 U k5 ?_);rw[Xk (by simp)];unfold setFlight;show k9 (RU k1 U k5 ?_);rw[Xl (by simp)];show wpAny_setField L J (Q1.mp ab).1 ?_;let eu:=Heap.update_setField_same h4 T oT ts 3 (rawInt X.env.locals) L J ab;change XP X pins R (.ref e) { Y with heap:=h4.update T (Obj.mapFields λx=>x.setIfInBounds 3 (rawInt X.env.locals)) };rw[eu];show#[e,cls,a0,B,ah,H1,rfl,.inr (.inr #[X.env.locals,G,by rw[S];show held]),c4,λh' tk k u=>N h' tk k (ac.trans u),new,q]
theorem XP.eR{pins pl:Xo}{R:XR}{x:Value}{s':kz}(h:XP X (pins++pl) R x s'):XP X pins R x s':=by
 let#[e,cls,L,B,N,H1,rfl,G,c2,J,new,q]:=h;show#[e,cls,L,B,N,H1,rfl,G,c2,λh' tk k u=>(J h' tk k u).eR,#[new.old,new.loc,new.fs,new.cell,λp I=>new.pin p ?_,new.free],q];rcases oR.mp I with m|m
 .show O8 _ m
 .show L3 _ (O8 _ m)
def JU(wi:TI)(g:TG)(tb:qD):qD:=λD R σ H=>Ko wi g (λG I H'=>tb G R I H') D σ H
theorem yV{iter:Ot}{body:List Ow}{wi:TI}{g:TG}{tb:qD}{pos:QY}(a3:X.stack=X.env::X.outer)(hf:X.env.frame=some X.env.locals)(hc:X.calm=true)(hi:PI X.nA tg iter wi)(hg:PG X.nA tg g)(G:mR X body tb)
  (hs:∀x,QV iter X.env x=pure x:=by intro _;rfl):BB X (.For tg iter body [] pos) (JU wi g tb):=by
 intros D R I h;let Y:VC (model X.prog X.w) X.A X.env (XP X pins R):=XP.passes a3 hf;show WN (nx (hi pins s σ H _ (I.gN _) h) λv s1 h1=>nx h1 λa7 s2 h2=>?_) hs;let#[it,fp,tn,J,H2,e,aT,T,a5,aB,W,#[m0,w0],a2]:=h2;let I2:=aT.ck;let f2:∀b∈fp,gz X pins H2 b:=λb G=>aB b G;subst e;let ah:∀{H':Hp},(∀b∈fp,H' b=none)->∀b∈fp,gz X pins H' b:=λhn b G=>#[hn b G,(f2 b G).2];show UR (λn s'=>∃i ab H',Inv X pins ab H' s'/\tn i s'.heap/\(∀b∈fp,H' b=none)/\W i n ab H') ?_ m0 #[(0),σ,H2,I2,a5,λb G=>(f2 b G).1,w0];rintro n s3 ⟨i,ac,H3,I3,ap,as,w3⟩;rcases a2 i n ac H3 w3 with⟨a1,qn⟩|⟨go,N,hN,step⟩
 .show Pa Y (bW (T.done X rfl rfl rfl hc i pins s3 ac H3 _ I3 (ah as) ap a1) λr s4 ⟨hr,I4⟩=>?_);subst hr;show P7 #[ac,H3,I4,qn]
 .show Pa Y (bW (T.item X rfl rfl rfl hc i pins s3 ac H3 _ I3 (ah as) ap go) λr s4 ⟨u,hr,h4⟩=>?_);subst hr;show Pa Y (bW h4 λ_ s5 ⟨x,H5,I5,r5,y5,am,a0⟩=>?_);let a6:=I5.pinned (ah a0) (T.obj _ _ am);show Pa Y (nx (hg _ s5 ac H5 x u _ (a6.gN _) r5 (step x H5 y5)) λ_ s6 ⟨a4,H6,I6,q6⟩=>?_);show Pa Y (OI (G _ s6 a4 H6 _ R I6.ck q6) (λf s7 U=>?_) λ_ _ z=>z.eR);let again:∀{S:St}{L:Hp},Inv X (pins++lK fp s5.heap) S L s7->N S L->∃m,m<n/\∃i ab H',Inv X pins ab H' s7/\tn i s7.heap/\(∀b∈fp,H' b=none)/\W i m ab H':=λ{S L} O n7=>by
   let#[m',hm,w7]:=hN S L n7;show#[m',hm,i+1,S,L,O.eR,T.keep _ _ _ am λb G o e=>(O.pin (b,o) (L3 _ (L3 _ (fw G e)))).1,λb G=>?_,w7];let#[o,e,d]:=T.obj _ _ am b G;show(O.pin (b,o) (L3 _ (L3 _ (fw G e)))).2.1
  cases f with
  |next=>let#[S,L,O,n7]:=U;show again O n7
  |cont=>let#[S,L,O,n7]:=U;show again O n7
  |brk=>let#[S,L,O,U]:=U;show#[S,L,O.eR,U]
  |ret v=>let#[x7,S,L,O,r7,U]:=U;show#[x7,S,L,O.eR,r7,U]
variable{t u r:TS}{D:Ends}{σ:St}{H:Hp}
abbrev Le(u G:TS):Prop:=∀D σ H,u D σ H->G D σ H
theorem Le.rfl:Le u u:=λ_ _ _ h=>h
theorem N1{c:TT}(k:∀t' G,Le t t'->Le u G->pY c t' G D σ H):pY c t u D σ H:=k t u Le.rfl Le.rfl
theorem iT{te:TE}{i:Nat}(k:∀Q:V->Hp->Prop,(∀x H1,u D (σ.set i (some x)) H1->Q x H1)->te σ H Q):cy (zN te (mH i)) u D σ H:=k _ λ_ _ h=>h
theorem Kt{te:TE}(k:∀Q:V->Hp->Prop,(∀x H1,u D σ H1->Q x H1)->te σ H Q):cy (CV te) u D σ H:=k _ λ_ _ h=>h
theorem Ga{te:TE}(k:∀Q:V->Hp->Prop,(∀x H1,D.nx σ H1->Q x H1)->te σ H Q):CV te D σ H:=k _ λ_ _ h=>h
theorem LX{te:TE}(k:∀Q:V->Hp->Prop,(∀x H1,D.rt x H1->Q x H1)->te σ H Q):zW te D σ H:=k _ λ_ _ h=>h
theorem bQ{A B:Hp->Prop}{Q:Bool->Hp->Prop}(e:Q=λb H1=>if b=true then A H1 else B H1):(∀H1,A H1->Q true H1)/\∀H1,B H1->Q false H1:=by
 subst e;show#[λ_ h=>eS h,λ_ h=>b9 h]
theorem gY{c:TT}(k:∀Q:Bool->Hp->Prop,(∀H1,t { D with nx:=r D } σ H1->Q true H1)->(∀H1,r D σ H1->Q false H1)->c σ H Q):cy (pY c t mJ) r D σ H:=k _ (bQ rfl).1 (bQ (A:=λH1=>t { D with nx:=r D } σ H1) rfl).2
theorem F6{c:TT}{te:TE}(k:∀Q:Bool->Hp->Prop,(∀H1,zW te D σ H1->Q true H1)->(∀H1,r D σ H1->Q false H1)->c σ H Q):cy (pY c (zW te) mJ) r D σ H:=k _ (bQ rfl).1 (bQ (A:=λH1=>zW te D σ H1) rfl).2
theorem BS{c:TT}(k:∀Q:Bool->Hp->Prop,(∀H1,t D σ H1->Q true H1)->(∀H1,D.nx σ H1->Q false H1)->c σ H Q):pY c t mJ D σ H:=k _ (bQ rfl).1 (bQ (A:=λH1=>t D σ H1) rfl).2
theorem pV{Q:Bool->Hp->Prop}{b:Bool}{H:Hp}(t:b=true->Q true H)(f:¬ b=true->Q false H):Q b H:=by
 cases b
 .show f (by intro z;cases z)
 .show t rfl
theorem cK{t r:qD}{R:XR}{c:TT}(k:∀Q:Bool->Hp->Prop,(∀H1,t { D with nx:=r D R } R σ H1->Q true H1)->(∀H1,r D R σ H1->Q false H1)->c σ H Q):yH (KG c t BG) r D R σ H:=k _ (bQ rfl).1 (bQ (A:=λH1=>t { D with nx:=r D R } R σ H1) rfl).2
theorem oi{c:TT}(G:St->Hp->Prop)(mk:(∀σ H,G σ H->r D σ H)->∀Q:Bool->Hp->Prop,(∀H1,t { D with nx:=r D } σ H1->Q true H1)->(∀H1,G σ H1->Q false H1)->c σ H Q)(h:∀σ H,G σ H->r D σ H):cy (pY c t mJ) r D σ H:=mk h _ (bQ rfl).1 λH1 p=>(bQ (A:=λH1=>t { D with nx:=r D } σ H1) rfl).2 H1 (h _ _ p)
def Ev(te:TE)(σ:St)(H:Hp)(v:V):Prop:=∀Q:V->Hp->Prop,Q v H->te σ H Q
theorem cO{i:Nat}{v:V}(h:σ[i]?=some (some v)):Ev (uO i) σ H v:=λ_ q=>#[_,h,q]
theorem cQ{v:V}:Ev (tC v) σ H v:=λ_ q=>q
theorem iQ{ta tb:TE}{x y:V}{Q:Bool->Hp->Prop}(a:Ev ta σ H x)(b:Ev tb σ H y)(s:vD x y=true)(n:¬ x=y)(q:Q false H):qg (Ej He ta tb) σ H Q:=a _ (b _ #[s,0,by rw[decide_eq_false n];show q])
theorem eqT{ta tb:TE}{x:V}{Q:Bool->Hp->Prop}(a:Ev ta σ H x)(b:Ev tb σ H x)(s:vD x x=true)(q:Q true H):qg (Ej He ta tb) σ H Q:=a _ (b _ #[s,0,by rw[decide_eq_true rfl];show q])
theorem share(G:St->Hp->Prop)(mk:∀I,(∀σ H,G σ H->I D σ H)->cy t I D σ H)(h:∀σ H,G σ H->u D σ H):cy t u D σ H:=mk u h
variable{κ:Type}[DecidableEq κ]
def eL(kvs:List (κ×V))(k:κ):Option V:=(kvs.find? λG=>decide (G.1=k)).map (·.2)
def putK(kvs:List (κ×V))(k:κ)(v:V):List (κ×V):=
 if (kvs.any λG=>decide (G.1=k))=true then kvs.map (λG=>if G.1=k then(G.1,v)else G)else kvs++[(k,v)]
def ou(kvs:List (κ×V))(k:κ):List (κ×V):=kvs.filter λG=>decide (G.1≠k)
theorem fO{p:κ×V}{r:List (κ×V)}{k:κ}(e:p.1=k):eL (p::r) k=some p.2:=by simp[eL,RJ,e]
theorem cA{p:κ×V}{r:List (κ×V)}{k:κ}(e:¬ p.1=k):eL (p::r) k=eL r k:=by simp[eL,RJ,e]
theorem kY(k:κ):∀kvs:List (κ×V),(kvs.any λG=>decide (G.1=k))=(eL kvs k).isSome
 | []=>rfl
 |p::r=>by
  rw[UC];cases e:p.1=k
  .simp only[fO e,decide_eq_true e,Bool.true_or,Option.isSome_some]
  .rw[cA e,decide_eq_false e,Bool.false_or];show kY k r
theorem gE(kvs:List (κ×V))(k:κ)(v:V):(putK kvs k v).length<=kvs.length+1:=by
 unfold putK;split
 .rw[mu];omega
 .rw[wh,K4,U7];omega
theorem kJ{kvs:List (κ×V)}{k:κ}(v:V)(h:eL kvs k=none):putK kvs k v=kvs++[(k,v)]:=by
 unfold putK;rw[kY,h];show Xk ar
theorem gP.gZ{o:Option V}{u:Xv}(r:gP o u):o.isSome=u.isSome:=by
 cases o with
 |none=>cases u with
  |none=>rfl
  |some _=>show(show False from r).elim
 |some _=>cases u with
  |none=>show(show False from r).elim
  |some _=>rfl
theorem gP.getD{o:Option V}{u:Xv}{d:V}{d':Value}(r:gP o u)(rd:RelV d d'):RelV (o.getD d) (u.getD d'):=by
 cases o with
 |none=>cases u with
  |none=>show rd
  |some _=>show(show False from r).elim
 |some _=>cases u with
  |none=>show(show False from r).elim
  |some _=>show r
theorem KV.val{kvs:List (κ×V)}{vs:List (κ×Value)}(r:KV kvs vs)(k:κ):gP (eL kvs k) (Uj vs k):=by
 unfold KV at r
 induction r with
 |nil=>show PB
 | @cons p q ps G h t J =>
  let#[h1,h2]:=h;cases e:p.1=k
  .let I:q.1=k:=h1.symm.trans e;let b:Uj (q::G) k=some q.2:=(by simp[Uj,RJ,I]);rw[fO e,b];show h2
  .let I:¬ q.1=k:=λz=>e (h1.trans z);let b:Uj (q::G) k=Uj G k:=(by simp[Uj,RJ,I]);rw[cA e,b];show J
theorem KV.any{kvs:List (κ×V)}{vs:List (κ×Value)}(r:KV kvs vs)(k:κ):(kvs.any λG=>decide (G.1=k))=vs.any λG=>decide (G.1=k):=by
 unfold KV at r
 induction r with
 |nil=>rfl
 |cons h t I=>rw[UC,UC,I,h.1]
theorem KV.IC{kvs:List (κ×V)}{vs:List (κ×Value)}(r:KV kvs vs)(k:κ){y:V}{u:Value}(I:RelV y u) :
  KV (kvs.map λG=>if G.1=k then(G.1,y)else G) (vs.map λG=>if G.1=k then(G.1,u)else G):=by
 unfold KV at r ⊢
 induction r with
 |nil=>show .nil
 | @cons p q ps L h t J =>
  rw[PM,PM];show .cons ?_ J;let#[h1,h2]:=h;cases e:p.1=k
  .rw[Xl e,Xl (h1.symm.trans e)];show#[h1,I]
  .rw[Xk e,Xk (λz=>e (h1.trans z))];show#[h1,h2]
theorem KV.put{kvs:List (κ×V)}{vs:List (κ×Value)}(r:KV kvs vs)(k:κ){y:V}{u:Value}(G:RelV y u):KV (putK kvs k y) (stored vs k u):=by
 unfold putK stored;rw[r.any k];cases e:(vs.any λI=>decide (I.1=k))=true
 .rw[Xl e,Xl e];show r.IC k G
 .rw[Xk e,Xk e];show Paired.snoc r #[rfl,G]
theorem KV.drop{kvs:List (κ×V)}{vs:List (κ×Value)}(r:KV kvs vs)(k:κ):KV (ou kvs k) (without vs k):=by
 unfold KV at r ⊢;unfold ou without
 induction r with
 |nil=>show .nil
 | @cons p q ps J h t G =>
  let#[h1,h2]:=h;rw[P4,P4];cases e:p.1=k
  .let a:¬ decide (p.1≠k)=true:=(by simp[e]);let b:¬ decide (q.1≠k)=true:=(by simp[h1.symm.trans e]);rw[Xk a,Xk b];show G
  .let I:¬ q.1=k:=λz=>e (h1.trans z);let a:decide (p.1≠k)=true:=(by simp[e]);let b:decide (q.1≠k)=true:=(by simp[I]);rw[Xl a,Xl b];show .cons #[h1,h2] G
theorem KV.keys{kvs:List (κ×V)}{vs:List (κ×Value)}(r:KV kvs vs):kvs.map (·.1)=vs.map (·.1):=by
 unfold KV at r
 induction r with
 |nil=>rfl
 |cons h t G=>rw[PM,PM,G,h.1]
theorem KV.length{kvs:List (κ×V)}{vs:List (κ×Value)}(r:KV kvs vs):kvs.length=vs.length:=Paired.length r
theorem Ec(kvs:List (κ×V))(k:κ):(ou kvs k).length<=kvs.length:=QS _ _
end
theorem jM{P:se}{w:G1}{k:Key}{u:Value}(r:RelV (kV k) u):(bG P w).is k u=true:=by
 cases k with
 |inl i=>let#[t,e]:=(show ∃t,u=Value.int i t from r);subst e;show vT P w i t
 |inr x=>let#[t,e]:=(show ∃t,u=Value.str x t from r);subst e;show uV P w x t
theorem qR{P:se}{w:G1}:∀{ks:List Key}{us:Xu},Vals (ks.map kV) us->ItemsAre (bG P w) ks us
 | [],_,r=>by rwa[V3]at r;show .nil
 |k::ks,_,r=>by
  rw[PM]at r;cases r with
  |cons h t=>show .cons (jM h) (qR t)
abbrev KT(H:Hp):List (List Key×V)->List (List Key×Addr×Value)->Prop:=Paired λp q=>p.1=q.1/\H q.2.1=some (.tup (p.1.map kV))/\RelV p.2 q.2.2
theorem KT.val{H:Hp}{kvs:List (List Key×V)}{xs:List (List Key×Addr×Value)}(r:KT H kvs xs)(k:List Key):gP (eL kvs k) ((VS xs k).map (·.2)):=by
 induction r with
 |nil=>show PB
 | @cons p q ps G h t J =>
  let#[h1,_,h2]:=h;cases e:p.1=k
  .let I:q.1=k:=h1.symm.trans e;let b:VS (q::G) k=some q.2:=(by simp[VS,RJ,I]);rw[fO e,b];show h2
  .let I:¬ q.1=k:=λz=>e (h1.trans z);let b:VS (q::G) k=VS G k:=(by simp[VS,RJ,I]);rw[cA e,b];show J
theorem KT.IC{H:Hp}{kvs:List (List Key×V)}{xs:List (List Key×Addr×Value)}(r:KT H kvs xs)(k:List Key){y:V}{u:Value}(I:RelV y u) :
  KT H (kvs.map λG=>if G.1=k then(G.1,y)else G) (xs.map (putAt k u)):=by
 induction r with
 |nil=>show .nil
 | @cons p q ps N h t L =>
  rw[PM,PM];show .cons ?_ L;let#[h1,h2,J]:=h;unfold putAt;cases e:p.1=k
  .rw[Xl e,Xl (h1.symm.trans e)];show#[h1,h2,I]
  .rw[Xk e,Xk (λz=>e (h1.trans z))];show#[h1,h2,J]
theorem KT.put{H:Hp}{kvs:List (List Key×V)}{xs:List (List Key×Addr×Value)}(r:KT H kvs xs)(k:List Key){b:Addr}{y:V}{u:Value}(I:H b=some (.tup (k.map kV)))(G:RelV y u) :
  KT H (putK kvs k y) (storedH xs k b u):=by
 let e:(kvs.any λJ=>decide (J.1=k))=(VS xs k).isSome:=by
  rw[kY,(r.val k).gZ,Sy]
 unfold putK storedH;rw[e];cases q:(VS xs k).isSome=true
 .rw[Xl q,Xl q];show r.IC k G
 .rw[Xk q,Xk q];show Paired.snoc r #[rfl,I,G]
theorem KT.keeps{H H':Hp}{kvs:List (List Key×V)}{xs:List (List Key×Addr×Value)}(r:KT H kvs xs)(G:∀b ys,H b=some (.tup ys)->H' b=some (.tup ys)):KT H' kvs xs :=
 Paired.DH r λ_ _ z=>#[z.1,G _ _ z.2.1,z.2.2]
section
variable{P:se}{w:G1}{H:Hp}{h:Heap}{a:Addr}
theorem Gd{u:HO}(ok:jQ P w H h)(e:Rd H a u):bZ P w H h a u:=e.ok ok
theorem kX{kvs:List (Key×V)}(ok:jQ P w H h)(e:Rd H a (.dK kvs)):kvs.length<=sizeLine/\(a==Qv)=false/\∃vs,KV kvs vs/\h.DictOf (bG P w) a vs :=
 show bZ P w H h a (.dK kvs)from Gd ok e
theorem jm{kvs:List (Key×V)}(ok:jQ P w H h)(e:H a=some (.dK kvs)):kvs.length<=sizeLine/\(a==Qv)=false/\∃vs,KV kvs vs/\h.DictOf (bG P w) a vs:=kX ok (.inl e)
theorem jS{ks:List Key}(ok:jQ P w H h)(e:H a=some (.tup (ks.map kV))):(Sn (bG P w)).is h ks a:=by
 let#[_,its,r,o,h1,h2,n,G]:=(show bZ P w H h a (.tup (ks.map kV))from ok a _ e);show#[o,its.toArray,n,h1,h2,G,by simpa using qR r]
theorem mI{kvs:List (List Key×V)}(ok:jQ P w H h)(e:Rd H a (.dT kvs)):kvs.length<=sizeLine/\(a==Qv)=false /\
  ∃xs,KT H kvs xs/\h.DictOfH (Sn (bG P w)) a xs:=by
 let#[z,y,xs,r,o,es,ep,h1,h2,L,J,O]:=(show bZ P w H h a (.dT kvs)from Gd ok e);show#[z,y,xs,r,o,es,ep,h1,h2,L,J,λx G=>?_,O];let all:∀{l:List (List Key×V)}{m:List (List Key×Addr×Value)},KT H l m->∀x∈m,(Sn (bG P w)).is h x.1 x.2.1:=by
  intro l m q
  induction q with
  |nil=>intro x G;show nomatch G
  | @cons p q ps R I t N =>
   intro x G;rcases BY.mp G with e|G
   .subst e;show jS ok (by rw[<-I.1];show I.2.1)
   .show N x G
 show all r x G
theorem Kf{kvs:List (List Key×V)}(ok:jQ P w H h)(e:H a=some (.dT kvs)):kvs.length<=sizeLine/\(a==Qv)=false /\
  ∃xs,KT H kvs xs/\h.DictOfH (Sn (bG P w)) a xs:=mI ok (.inl e)
end
def dY(H:Hp)(a:Addr)(y:V)(r:Option V):Prop :=
 (∃kvs k,Rd H a (.dK kvs)/\y=kV k/\r=eL kvs k)\/∃kvs k b,Rd H a (.dT kvs)/\y=.ref b/\H b=some (.tup (k.map kV))/\r=eL kvs k
def hU(H:Hp)(a:Addr)(y v:V)(H':Hp):Prop :=
 (∃kvs k,H a=some (.dK kvs)/\y=kV k/\kvs.length<sizeLine/\H'=upd H a (.dK (putK kvs k v))) \/
 ∃kvs k b,H a=some (.dT kvs)/\y=.ref b/\H b=some (.tup (k.map kV))/\kvs.length<sizeLine/\H'=upd H a (.dT (putK kvs k v))
theorem dY.k{H:Hp}{a:Addr}{kvs:List (Key×V)}{k:Key}(e:H a=some (.dK kvs)):dY H a (kV k) (eL kvs k):=.inl #[kvs,k,.inl e,1]
theorem hU.k{H:Hp}{a:Addr}{kvs:List (Key×V)}{k:Key}{v:V}(e:H a=some (.dK kvs))(G:kvs.length<sizeLine):hU H a (kV k) v (upd H a (.dK (putK kvs k v))):=.inl #[kvs,k,e,rfl,G,rfl]
section
variable{X:Cx}{pins:Xo}{σ:St}{H:Hp}{s:kz}{a:Addr}{y v:V}{u r:Value}{o:Option V}{A:L7}{E:Xp}
theorem Inv.big(I: ~~~H s):Qv<s⁻¹:=by
 let h:Ox<s⁻¹:=(I.mod.glob.keeps I.bk).lt;show Wo ar h
theorem AF{Q:Xp}(hu:A.units+1<QO)(I: ~~~H s)(g:dY H a y (some v))(R:RelV y u)(h:∀G s',~~~H s'->RelV v G->Q G s') :
  wpAny (model X.prog X.w) A (RN (.ref a) u) Q E s:=by
 rcases g with⟨kvs,k,e,O,l⟩|⟨kvs,k,b,e,O,Y,l⟩
 .subst O;let#[z,hd,vs,L,dd]:=kX I.bK e;let#[G,J,N]:=gP.some_of (v:=v) (o:=Uj vs k) (by rw[l];show L.val k);show wpAny_getItem_of (jM R) dd.mapOf J (h G _ (I.tok _) N)
 .subst O;cases(show u=Value.ref b from R);let#[z,hd,xs,L,dd]:=mI I.bK e;let#[G,J,N]:=gP.some_of (v:=v) (o:=(VS xs k).map (·.2)) (by rw[l];show L.val k);let#[p,U,S]:=o8.mp J;show wpAny_getItem_heap (Qi hu) (jS I.bK Y) dd U ?_;rw[S];show h G _ (I.tok _) N
theorem Nr{Q:Xp}(O:A.units+1<QO)(I: ~~~H s)(g:dY H a y o)(L:RelV y u)(h:∀s',~~~H s'->Q (.bool o.isSome) s') :
  wpAny (model X.prog X.w) A (PF .In u (.ref a)) Q E s:=by
 rcases g with⟨kvs,k,e,J,l⟩|⟨kvs,k,b,e,J,N,l⟩
 .subst J;let#[z,hd,vs,G,dd]:=kX I.bK e;show wpAny_in_of (jM L) hd dd.mapOf ?_;rw[<-(G.val k).gZ, <-l];show h _ (I.tok _)
 .subst J;cases(show u=Value.ref b from L);let#[z,hd,xs,G,dd]:=mI I.bK e;show wpAny_in_heap (Qi O) (jS I.bK N) hd dd ?_;let q:=(G.val k).gZ;rw[Sy]at q;rw[<-q, <-l];show h _ (I.tok _)
theorem EZ{Q:Xp}(O:A.units+1<QO)(I: ~~~H s)(g:dY H a y o)(L:RelV y u)(h:∀s',~~~H s'->Q (.bool (!o.isSome)) s') :
  wpAny (model X.prog X.w) A (PF .NotIn u (.ref a)) Q E s:=by
 rcases g with⟨kvs,k,e,J,l⟩|⟨kvs,k,b,e,J,N,l⟩
 .subst J;let#[z,hd,vs,G,dd]:=kX I.bK e;show wpAny_notIn_of (jM L) hd dd.mapOf ?_;rw[<-(G.val k).gZ, <-l];show h _ (I.tok _)
 .subst J;cases(show u=Value.ref b from L);let#[z,hd,xs,G,dd]:=mI I.bK e;show wpAny_notIn_heap (Qi O) (jS I.bK N) hd dd ?_;let q:=(G.val k).gZ;rw[Sy]at q;rw[<-q, <-l];show h _ (I.tok _)
theorem kP{h':Heap}{t':Nat}{ob:HO}(I: ~~~H s)(J:KL (H a))(hs:Heap.SameBut a s.heap h')(L:∃q,h'.get? a=some q)(new:bZ X.prog X.w (upd H a ob) h' a ob) :
  ~~~(upd H a ob) { s with heap:=h',toks:=t' }:=
 I.write (x:=a) (e:=a) J (.inl rfl) (λb q G z=>(hs.2 b G).trans z) L new
theorem oa{P:se}{w:G1}{H':Hp}{h':Heap}{kvs:List (Key×V)}{vs:List (Key×Value)}(z:kvs.length<=sizeLine)(hd:(a==Qv)=false)(G:KV kvs vs)(dd:h'.DictOf (bG P w) a vs) :
  bZ P w H' h' a (.dK kvs):=#[z,hd,vs,G,dd]
theorem qX{H':Hp}{Q:Unit->kz->Prop}(hu:A.units+1<QO)(I: ~~~H s)(g:hU H a y v H')(U:RelV y u)(rv:RelV v r)(h:∀s',~~~H' s'->Q () s') :
  wpAny (model X.prog X.w) A (WU (.ref a) u r) Q E s:=by
 rcases g with⟨kvs,k,e,S,l,N⟩|⟨kvs,k,b,e,S,eb,l,N⟩
 .subst S N;let#[z,hd,vs,G,dd]:=jm I.bK e;let R:vs.length<=sizeLine:=(by rw[<-G.length];show z);let O:(putK kvs k v).length<=sizeLine:=(by have:=gE kvs k v;show L1 this l);show wpAny_setItem_pairs (hsz:=R) (jM U) dd λh' L hs=>h _ ?_;let he:∃q,h'.get? a=some q:=let ⟨q,_,_,J,_⟩:=L;#[q,J];show kP I (by rw[e];show PB) hs he (oa O hd (G.put k rv) L)
 .subst S N;cases(show u=Value.ref b from U);let#[z,hd,xs,G,dd]:=Kf I.bK e;let R:xs.length<=sizeLine:=(by rw[<-Paired.length G];show z);let O:(putK kvs k v).length<=sizeLine:=(by have:=gE kvs k v;show L1 this l);show wpAny_setItem_heap (hsz:=R) (Qi hu) (jS I.bK eb) dd λh' L hs=>h _ ?_;let#[q,es,ep,J,h2,h3,h4,_,h5]:=L;show kP I (by rw[e];show PB) hs #[q,J] #[O,hd,_,(G.put k eb rv).keeps λc ys Y=>?_,q,es,ep,J,h2,h3,h4,h5];rw[ai (cY Y e (λz=>nomatch z))];show Y
variable{kvs:List (Key×V)}{k:Key}
theorem KA{v:V}{G:Xu}{Q:Xp}(I: ~~~H s)(e:H a=some (.dK kvs))(L:RelV (kV k) u)(l:eL kvs k=some v)(O:G=[]\/∃x,G=[x])
  (h:∀J s',~~~(upd H a (.dK (ou kvs k))) s'->RelV v J->Q J s'):wpAny (model X.prog X.w) A (call (.builtin "dict.pop") (.ref a::u::G)) Q E s:=by
 let#[z,hd,vs,N,dd]:=jm I.bK e;let#[J,S,ab]:=gP.some_of (v:=v) (o:=Uj vs k) (by rw[<-l];show N.val k);let Y:(keyPart u).isSome=true:=by
  cases k with
  |inl i=>let#[t,q]:=(show ∃t,u=Value.int i t from L);subst q;rfl
  |inr x=>let#[t,q]:=(show ∃t,u=Value.str x t from L);subst q;rfl
 let ha:argsOk "dict.pop" #[.ref a::u::G,[]]:=by
  rcases O with q|⟨x,q⟩
  .subst q;show PySem.F.args_dict_pop_2 _ _
  .subst q;show PySem.F.args_dict_pop_3 _ _ _
 show QF Uv dd.typeIs PySem.F.entry_dict_pop ha (meets_dict_pop_there (bG X.prog X.w) a (jM L) G O Y)
  #[vs,J,dd,by rw[<-N.length];show z,S,λh' R hs=>h J _ ?_ ab]
 let he:∃q,h'.get? a=some q:=let ⟨q,_,_,U,_⟩:=R;#[q,U];show kP I (by rw[e];show PB) hs he (oa (L1 (Ec kvs k) z) hd (N.drop k) R)
theorem JX{Q:Xp}(I: ~~~H s)(e:Rd H a (.dK kvs))(h:∀t s',~~~H s'->Q (.int kvs.length t) s'):wpAny (model X.prog X.w) A (call (.builtin "len") [.ref a]) Q E s:=by
 let#[z,hd,vs,G,dd]:=kX I.bK e;show call_len_dict hd dd (by rw[<-G.length];rw[vl]at z;omega) ?_;rw[<-G.length];show h _ _ (I.tok _)
end
def JQ(i:Ot):Prop:=∀ov G,UB i false ov G=operate [ov,G] (RN ov G)
theorem Fh{prog:se}{w:G1}{A:L7}{E:Xp}{s:kz}{env:Tt}{value I:Ot}{pos:QY}{T id:String}{Q:Xp}
  (Y:Wh (.type T) "__getitem__" = pure (some (.builtin id))) (hs:JQ I)
  (h:wpAny (model prog w) A (eval value env) (λo O=>wpAny (model prog w) A (eval I env) (λi G=>G.TypeIs o T/\wpAny (model prog w) A (RN o i) Q E G) E O) E s) :
  wpAny (model prog w) A (eval (.Subscript value I pos) env) Q E s:=by
 show Wi (OI h (λo O U=>OI U (λi G L=>?_) λ_ _ x=>x) λ_ _ x=>x);let#[N,L]:=L;unfold UX;show k9 ?_;rw[getitemInPython_of_ne N.not_modules];show k9 (wpAny_specialOf N Y ?_);let J:wpAny (model prog w) A (UB I false o i) (λr R=>wpAny (model prog w) A (letTemporaryGo value o r>>=λ_=>pure r) Q E R) E G:=by
  rw[hs o i];show wpAny_operating (OI L (λr R S=>k9 (wpAny_letTemporaryGo (wpAny_pure S))) λ_ _ x=>x)
 first
  |show wpAny_pure (k9 J)
  |show k9 (wpAny_pure (k9 J))
  |show k9 J
theorem uX{X:Cx}{pins:Xo}{σ:St}{H:Hp}{s:kz}{a:Addr}{y:V}{o:Option V}(I: ~~~H s)(g:dY H a y o):s.TypeIs (.ref a) "dict" := by
 rcases g with⟨kvs,k,e,_,_⟩|⟨kvs,k,b,e,_,_,_⟩
 .let#[_,_,vs,_,dd]:=kX I.bK e;show dd.typeIs
 .let#[_,_,xs,_,dd]:=mI I.bK e;show dd.typeIs
inductive Co(td ty:TE)(Q:VK)(x:V)(y:V)(H2:Hp):Prop
 |mk(a:_)(v:_)(_:x=.ref a)(_:dY H2 a y (some v))(_:Q v H2)
def Kd(td ty:TE):TE:=λσ H Q=>td σ H λx H1=>ty σ H1 λy H2=>Co td ty Q x y H2
inductive GV(ty td:TE)(Q:VK)(y:V)(x:V)(H2:Hp):Prop
 |mk(a:_)(o:_)(_:x=.ref a)(_:dY H2 a y o)(_:Q (.bl o.isSome) H2)
def MQ(ty td:TE):TE:=λσ H Q=>ty σ H λy H1=>td σ H1 λx H2=>GV ty td Q y x H2
inductive vE(ty td:TE)(Q:VK)(y:V)(x:V)(H2:Hp):Prop
 |mk(a:_)(o:_)(_:x=.ref a)(_:dY H2 a y o)(_:Q (.bl (!o.isSome)) H2)
def FD(ty td:TE):TE:=λσ H Q=>ty σ H λy H1=>td σ H1 λx H2=>vE ty td Q y x H2
def Kg(td ty tv:TE):TS:=λD σ H=>tv σ H λv H1=>td σ H1 λx H2=>ty σ H2 λy H3=>FH λa H4=>qN (x=.ref a) (hU H3 a y v H4) (D.nx σ H4)
section
variable{X:Cx}{o i e value:Ot}{pos pos' tpos:QY}{td ty tv:TE}
theorem bJ(hu:X.A.units+1<QO)(N:PE X o td)(hi:PE X i ty)(hs:JQ i):PE X (.Subscript o i pos) (Kd td ty):=by
 intros Q I h;show Fh PySem.F.slot_dict_getitem.lookup hs (bW (N pins s σ H _ I h) λu s1 S=>?_);let#[x,H1,R,rx,U]:=S;show bW (hi pins s1 σ H1 _ R U) λiv s2 Y=>?_;let#[y,H2,G,J,a,v,ex,g,L]:=Y;subst ex;obtain rfl:u=Value.ref a:=rx;show#[uX G g,AF hu G g J λw' s3 I3 O=>#[v,H2,I3,O,L]]
theorem mx(O:X.A.units+1<QO)(hi:PE X i ty)(Y:PE X o td):PC X .In i o (MQ ty td):=by
 intros Q I h;show bW (hi pins s σ H _ I h) λiv L ab=>?_;let#[y,H1,I1,N,G]:=ab;show bW (Y pins L σ H1 _ I1 G) λu s2 S=>?_;let#[x,H2,I2,U,a,ov,ex,g,R]:=S;subst ex;obtain rfl:u=Value.ref a:=U;show Nr O I2 g N λs3 J=>#[.bl ov.isSome,H2,J,rfl,R]
theorem gT(R:X.A.units+1<QO)(hi:PE X i ty)(ho:PE X o td):PC X .NotIn i o (FD ty td):=by
 intros Q I h;show bW (hi pins s σ H _ I h) λiv L S=>?_;let#[y,H1,I1,N,G]:=S;show bW (ho pins L σ H1 _ I1 G) λu s2 O=>?_;let#[x,H2,I2,Y,a,ov,ex,g,U]:=O;subst ex;obtain rfl:u=Value.ref a:=Y;show EZ R I2 g N λs3 J=>#[.bl (!ov.isSome),H2,J,rfl,U]
theorem kA(hu:X.A.units+1<QO)(R:PE X o td)(hi:PE X i ty)(G:PE X value tv)(hs:Ri value (some (.Subscript o i pos')) pos.line X.env=pure false) :
  PS X (.Assign [.Subscript o i pos'] value pos) (Kg td ty tv):=by
 intros D I h;show wpAny_Assign_Subscript (bW (G pins s σ H _ I h) λr s1 Y=>?_) hs;let#[v,H1,S,rv,q1]:=Y;show bW (R pins s1 σ H1 _ S q1) λu s2 N=>?_;let#[x,H2,I2,rx,O]:=N;show bW (hi pins s2 σ H2 _ I2 O) λiv s3 U=>?_;let#[y,H3,I3,J,a,H4,ex,g,L]:=U;subst ex;obtain rfl:u=Value.ref a:=rx;show qX hu I3 g J rv λs4 I4=>#[σ,H4,I4,L]
end
theorem uT{P:se}{w:G1}{H:Hp}(h:Heap)(G:Qv<h.objs.size):bZ P w H (h.push { cls:=.type "dict",data:=.dict ([].toArray) }) h.objs.size (.dK []):=
 #[OB _,beq_eq_false_iff_ne.mpr (qs (OR G)),[],.nil,Heap.DictOf.new h]
def IK:TE:=λ_ H Q=>∀p,H p=none->Q (.ref p) (upd H p (.dK []))
section
variable{X:Cx}{pos:QY}
theorem dQ:PE X (.Dict [] [] pos) IK:=λpins s σ H Q I h =>
 wpAny_Dict_empty #[.ref s⁻¹,_,I.laid (a:=s⁻¹) (o:=.dK []) (t':=s.toks) (λ_ _ q=>Heap.get?_push_of_some _ q) (ti _) (uT s.heap I.big),rfl,h _ (I.bK.fresh (ti _))]
end
def xO:List (TE×TE)->St->Hp->(List (V×V)->Hp->Prop)->Prop
 | [],_,H,Q=>Q [] H
 |(tk,tv)::r,σ,H,Q=>tk σ H λx H1=>tv σ H1 λy H2=>xO r σ H2 λps H3=>Q ((x,y)::ps) H3
abbrev VV:List (V×V)->List (Value×Value)->Prop:=Paired λp q=>RelV p.1 q.1/\RelV p.2 q.2
def LD(X:Cx)(pos:QY)(keys:List (Option Ot))(values:List Ot)(G:List (TE×TE)):Prop :=
 ∀(pins:Xo)(s:kz)(σ:St)(H:Hp)(Q:List (V×V)->Hp->Prop),~~~H s->xO G σ H Q ->
  ↑(evalPairs (pairTrees keys values X.env pos)) (λvs s'=>∃ps H',~~~H' s'/\VV ps vs/\Q ps H') X.xe s
theorem FU{X:Cx}{pos:QY}:LD X pos [] [] []:=λpins s σ H Q I h=>pairTrees_nil_walk #[[],H,I,.nil,h]
theorem kB{X:Cx}{pos:QY}{k v:Ot}{ks:List (Option Ot)}{vs:List Ot}{tk tv:TE}{G:List (TE×TE)}(Y:PE X k tk)(J:PE X v tv)(hr:LD X pos ks vs G) :
  LD X pos (some k::ks) (v::vs) ((tk,tv)::G):=λpins s σ H Q I h =>
 pairTrees_cons_walk (bW (Y pins s σ H _ I h) λu s1 ⟨x,H1,U,rx,q1⟩=>bW (J pins s1 σ H1 _ U q1) λw2 s2 ⟨y,H2,S,L,O⟩ =>
  bW (hr pins s2 σ H2 _ S O) λws s3 ab=>by let#[ps,H3,I3,R,N]:=ab;show#[(x,y)::ps,H3,I3,.cons #[rx,L] R,N])
def lQ(kvs J:List (Key×V)):List (Key×V):=J.foldl (λI G=>putK I G.1 G.2) kvs
theorem KV.merge:∀{I:List (Key×V)}{G:List (Key×Value)}{kvs:List (Key×V)}{vs:List (Key×Value)},KV I G->KV kvs vs->KV (lQ kvs I) (merged vs G):=by
 intro I G kvs vs r;unfold KV at r
 induction r generalizing kvs vs with
 |nil=>intro q;show q
 | @cons p q ps N h t L =>
  intro J;let e:KV (putK kvs p.1 p.2) (stored vs q.1 q.2):=by
   have:=J.put p.1 h.2;rw[<-h.1];show this
  show L e
theorem jO:∀(G kvs:List (Key×V)),(lQ kvs G).length<=kvs.length+G.length
 | [],kvs=>by change kvs.length<=kvs.length+0;omega
 |p::r,kvs=>by
  let h1:=jO r (putK kvs p.1 p.2);let h2:=gE kvs p.1 p.2;change(lQ (putK kvs p.1 p.2) r).length<=_;rw[K4];omega
theorem pE{P:se}{w:G1}:∀{kvs:List (Key×V)}{ws:List (Value×Value)},VV (kvs.map λI=>(kV I.1,I.2)) ws->∃G,Carries (bG P w) ws G/\KV kvs G
 | [],_,r=>by rwa[V3]at r;show#[[],PB,.nil]
 |p::kvs,_,r=>by
  rw[PM]at r;cases r with
  | @cons a b L bs h t =>
   let#[G,c,q]:=pE (P:=P) (w:=w) t;let#[N,J]:=b;show#[(p.1,J)::G,#[jM h.1,rfl,c],.cons #[rfl,h.2] q]
def KP(I:List (TE×TE)):TE:=λσ H Q=>∀p,H p=none->xO I σ (upd H p (.dK [])) λps H2=>H2 p=some (.dK [])/\∃kvs:List (Key×V),ps=kvs.map (λG=>(kV G.1,G.2))/\kvs.length<=15/\Q (.ref p) (upd H2 p (.dK (lQ [] kvs)))
theorem EN{X:Cx}{pos:QY}{keys:List (Option Ot)}{values:List Ot}{L:List (TE×TE)}(h:LD X pos keys values L)(ac:keys.all (·.isSome)=true)(hl:keys.length=values.length)(Y:keys≠[])
  (ab:keys.length<=15):PE X (.Dict keys values pos) (KP L):=by
 intros Q I q;let O:=I.bK.fresh (ti s⁻¹);let I1:=I.laid (a:=s⁻¹) (o:=.dK []) (h':=s.heap.push { cls:=.type "dict",data:=.dict ([].toArray) }) (t':=s.toks) (λ_ _ q=>Heap.get?_push_of_some _ q) (ti _) (uT s.heap I.big);show wpAny_Dict_walk (knd:=bG X.prog X.w) ac hl Y ab (bW (h pins _ σ _ _ I1 (q _ O)) λws s2 N=>?_);let#[ps,H2,G,U,e,kvs,ep,lk,S]:=N;subst ep;let#[rs,c,rk]:=pE (P:=X.prog) (w:=X.w) U;let#[z,hd,ah,r0,dd]:=jm G.bK e;cases r0;show#[rs,c,dd,λh' J hs=>#[.ref s⁻¹,_,?_,rfl,S]];let hz:(lQ [] kvs).length<=sizeLine:=by
  let h1:=jO kvs [];rw[U7]at h1;rw[vl];omega
 let he:∃q,h'.get? s⁻¹=some q:=let ⟨q,_,_,R,_⟩:=J;#[q,R];show kP G (by rw[e];show PB) hs he (oa hz hd (rk.merge .nil) J)
structure M1(X:Cx)(o:Ot)(m:Str)(apos:QY)(e:Ot)(cpos:QY):Prop where
 base:QR o m X.env (eval o X.env)=eval o X.env
 Kw:((backTo cpos (starEach [e] X.env)).all (λx => !x.1)&&(Ro cpos (Qr [] X.env)).all (λx=>x.1.isSome)
  && decide (([e]:List Ot).length+([]:List UM).length+(if ([]:List UM).isEmpty then 0 else 1)<30))=true
 line:(apos.endLine==cpos.line)=true
 trees:backTo cpos (starEach [e] X.env)=[(false,eval e X.env)]
structure M2(X:Cx)(o:Ot)(m:Str)(apos:QY)(e f:Ot)(cpos:QY):Prop where
 base:QR o m X.env (eval o X.env)=eval o X.env
 Kw:((backTo cpos (starEach [e,f] X.env)).all (λx => !x.1)&&(Ro cpos (Qr [] X.env)).all (λx=>x.1.isSome)
  && decide (([e,f]:List Ot).length+([]:List UM).length+(if ([]:List UM).isEmpty then 0 else 1)<30))=true
 line:(apos.endLine==cpos.line)=true
 trees:backTo cpos (starEach [e,f] X.env)=[(false,eval e X.env),(false,eval f X.env)]
def Li(H:Hp)(a:Addr):Prop:=(∃kvs,Rd H a (.dK kvs))\/∃kvs,Rd H a (.dT kvs)
theorem lF{X:Cx}{pins:Xo}{σ:St}{H:Hp}{s:kz}{a:Addr}(I: ~~~H s)(d:Li H a) :
  s.TypeIs (.ref a) "dict" /\ (∀b,Value.ref a=.ref b->∃ob,s.heap.get? b=some ob/\ob.dict=none)/\(a==Qv)=false:=by
 rcases d with⟨kvs,e⟩|⟨kvs,e⟩
 .let#[_,hd,vs,_,dd]:=kX I.bK e;show#[dd.typeIs,λb q=>?_,hd];cases q;let#[ob,_,_,h1,h2,_]:=dd;show#[ob,h1,h2.2.1]
 .let#[_,hd,xs,_,dd]:=mI I.bK e;show#[dd.typeIs,λb q=>?_,hd];cases q;let#[ob,_,_,h1,h2,_]:=dd;show#[ob,h1,h2.2.1]
section
variable{X:Cx}{pins:Xo}{σ:St}{H:Hp}{s:kz}{a:Addr}{y d:V}{u r:Value}{o:Option V}{A:L7}{E:Xp}
theorem HL{Q:Xp}(R:A.units+1<QO)(I: ~~~H s)(g:dY H a y o)(L:RelV y u)(h:∀N s',~~~H s'->RelV (o.getD .non) N->Q N s') :
  wpAny (model X.prog X.w) A (call (.builtin "dict.get") [.ref a,u]) Q E s:=by
 rcases g with⟨kvs,k,e,J,l⟩|⟨kvs,k,b,e,J,O,l⟩
 .subst J;let#[z,hd,vs,G,dd]:=kX I.bK e;show QF Q8 dd.typeIs Sz (Tz _ _) (meets_dict_get (bG X.prog X.w) a (jM L) hd) #[_,dd.mapOf,h _ _ (I.tok _) ?_];rw[l];show(G.val k).getD rfl
 .subst J;cases(show u=Value.ref b from L);let#[z,hd,xs,G,dd]:=mI I.bK e;show QF Q8 dd.typeIs Sz (Tz _ _) (meetsH_dict_get (Sn (bG X.prog X.w)) a b hd) #[Qi R,k,xs,jS I.bK O,dd,h _ _ (I.tok _) ?_];rw[l];show(G.val k).getD rfl
theorem Je{Q:Xp}(R:A.units+1<QO)(I: ~~~H s)(g:dY H a y o)(L:RelV y u)(rd:RelV d r)(h:∀N s',~~~H s'->RelV (o.getD d) N->Q N s') :
  wpAny (model X.prog X.w) A (call (.builtin "dict.get") [.ref a,u,r]) Q E s:=by
 rcases g with⟨kvs,k,e,J,l⟩|⟨kvs,k,b,e,J,O,l⟩
 .subst J;let#[z,hd,vs,G,dd]:=kX I.bK e;show QF Q8 dd.typeIs Sz (TB _ _ _) (meets_dict_get_default (bG X.prog X.w) a (jM L) hd r) #[_,dd.mapOf,h _ _ (I.tok _) ?_];rw[l];show(G.val k).getD rd
 .subst J;cases(show u=Value.ref b from L);let#[z,hd,xs,G,dd]:=mI I.bK e;show QF Q8 dd.typeIs Sz (TB _ _ _) (meetsH_dict_get_default (Sn (bG X.prog X.w)) a b hd r) #[Qi R,k,xs,jS I.bK O,dd,h _ _ (I.tok _) ?_];rw[l];show(G.val k).getD rd
end
inductive yP(td ty:TE)(σ:St)(Q:VK)(x:V)(H1:Hp):Prop
 |mk (a:_) (_:x=.ref a) (_:Li H1 a) (_:ty σ H1 λy H2=>∃o,dY H2 a y o/\Q (o.getD .non) H2):yP td ty σ Q x H1
def HM(td ty:TE):TE:=λσ H Q=>td σ H λx H1=>yP td ty σ Q x H1
inductive yL(td ty tx:TE)(σ:St)(Q:VK)(x:V)(H1:Hp):Prop
 |mk (a:_) (_:x=.ref a) (_:Li H1 a) (_:ty σ H1 λy H2=>tx σ H2 λz H3=>∃o,dY H3 a y o/\Q (o.getD z) H3):yL td ty tx σ Q x H1
def Ia(td ty tx:TE):TE:=λσ H Q=>td σ H λx H1=>yL td ty tx σ Q x H1
inductive yT(td ty:TE)(σ:St)(Q:VK)(x:V)(H1:Hp):Prop
 |mk (a:_) (_:x=.ref a) (_:Li H1 a) (_:ty σ H1 λy H2=>∃kvs k v,H2 a=some (.dK kvs)/\y=kV k/\eL kvs k=some v/\Q v (upd H2 a (.dK (ou kvs k)))):yT td ty σ Q x H1
def IE(td ty:TE):TE:=λσ H Q=>td σ H λx H1=>yT td ty σ Q x H1
section
variable{X:Cx}{o e f:Ot}{apos cpos:QY}{td ty tx:TE}
theorem Cc(hu:X.A.units+1<QO)(N:PE X o td)(he:PE X e ty)(m:M1 X o "get" apos e cpos):PE X (.Call (.Attribute o "get" apos) [e] [] cpos) (HM td ty):=by
 intros Q I h;show Rr m.base m.Kw m.line QP Q8 Uw (bW (N pins s σ H _ I h) λu s1 ac=>?_);let#[x,H1,G,rx,a,ex,d,S]:=ac;subst ex;obtain rfl:u=Value.ref a:=rx;let#[t1,U,_]:=lF G d;show#[t1,U,?_];rw[m.trees];show Calls.callWith_builtin rfl (Calls.evalArgs_plain (Calls.spliced_cons (bW (he pins s1 σ H1 _ G S) λiv s2 ab=>?_)));let#[y,H2,R,J,ov,g,L]:=ab;show Calls.spliced_nil ?_;show HL hu R g J λw' s3 Y O=>#[_,H2,Y,O,L]
theorem vR(hu:X.A.units+1<QO)(R:PE X o td)(he:PE X e ty)(Y:PE X f tx)(m:M2 X o "get" apos e f cpos):PE X (.Call (.Attribute o "get" apos) [e,f] [] cpos) (Ia td ty tx):=by
 intros Q I h;show Rr m.base m.Kw m.line QP Q8 Uw (bW (R pins s σ H _ I h) λu s1 O=>?_);let#[x,H1,G,rx,a,ex,d,q1]:=O;subst ex;obtain rfl:u=Value.ref a:=rx;let#[t1,t2,_]:=lF G d;show#[t1,t2,?_];rw[m.trees];show Calls.callWith_builtin rfl (Calls.evalArgs_plain (Calls.spliced_cons (bW (he pins s1 σ H1 _ G q1) λiv s2 ⟨y,H2,S,J,N⟩ =>
  Calls.spliced_cons (bW (Y pins s2 σ H2 _ S N) λfv s3 ⟨z,H3,I3,rz,ov,g,L⟩=>Calls.spliced_nil ?_))))
 show Je hu I3 g J rz λw' s4 I4 U=>#[_,H3,I4,U,L]
theorem fN(N:PE X o td)(he:PE X e ty)(m:M1 X o "pop" apos e cpos):PE X (.Call (.Attribute o "pop" apos) [e] [] cpos) (IE td ty):=by
 intros Q I h;show Rr m.base m.Kw m.line QP Uv PySem.F.type_dict_pop (bW (N pins s σ H _ I h) λu s1 ab=>?_);let#[x,H1,G,rx,a,ex,d,S]:=ab;subst ex;obtain rfl:u=Value.ref a:=rx;let#[t1,U,_]:=lF G d;show#[t1,U,?_];rw[m.trees];show Calls.callWith_builtin rfl (Calls.evalArgs_plain (Calls.spliced_cons (bW (he pins s1 σ H1 _ G S) λiv s2 ac=>?_)));let#[y,H2,R,J,kvs,k,v,ea,ey,l,L]:=ac;show Calls.spliced_nil ?_;subst ey;show KA R ea J l (.inl rfl) λw' s3 Y O=>#[v,_,Y,O,L]
variable{pins:Xo}{σ:St}{H:Hp}{s:kz}{a:Addr}{kvs:List (Key×V)}{A:L7}{E:Xp}
variable{y:V}{u:Value}
theorem mD:eJ X (.builtin "len") (λxs H Q=>∃a kvs,xs=[V.ref a]/\H a=some (.dK kvs)/\Q (.int kvs.length) H):=by
 intros xs us Q I r h;let#[a,kvs,rfl,L,q]:=h;let#[u,rfl,J]:=vals1 r;cases J;show JX I (.inl L) λt s' G=>#[.int kvs.length,H,G,#[t,rfl],q]
variable{κ:Type}[DecidableEq κ]
theorem gC:∀{l:List κ}{k:κ},l.Nodup->¬ k∈l->(l++[k]).Nodup
 | [],k,_,_=>by simp
 |a::r,k,h,G=>by
  let#[h1,h2]:=Ov.mp h;change(a::(r++[k])).Nodup;show Ov.mpr #[λm=>?_,gC h2 λm=>G (BY.mpr (Xi m))];rcases oR.mp m with q|q
  .show h1 q
  .show G (BY.mpr (Xh (nc.mp q).symm))
variable{k:Key}{r:Value}{d:V}
theorem Hw{Q:Xp}(I: ~~~H s)(e:H a=some (.dK kvs))(S:RelV (kV k) u)(rd:RelV d r)(hl:kvs.length<sizeLine)
  (h1:∀v L s',eL kvs k=some v->~~~H s'->RelV v L->Q L s') (h2:∀s',eL kvs k=none->~~~(upd H a (.dK (putK kvs k d))) s'->Q r s') :
  wpAny (model X.prog X.w) A (call (.builtin "dict.setdefault") [.ref a,u,r]) Q E s:=by
 let#[z,hd,vs,G,dd]:=jm I.bK e;show QF Sb dd.typeIs PySem.F.entry_dict_setdefault (PySem.F.args_dict_setdefault_3 _ _ _) (kt_meets_setdefault (bG X.prog X.w) a (jM S) hd r)
  #[vs,dd,by rw[<-G.length];show z,λv J=>?_,λR h' O hs=>?_]
 .let q:=G.val k;cases l:eL kvs k with
  |none=>rw[l]at q;rwa[gP.none_of q]at J
  |some y =>
   rw[l]at q;let#[L,N,Y]:=gP.some_of q;rwa[J]at N;show h1 y v _ l (I.tok _) Y
 .let l:eL kvs k=none:=by
   cases l:eL kvs k with
   |none=>rfl
   |some y =>
    let q:=G.val k;rwa[l,R]at q
  let he:∃q,h'.get? a=some q:=let ⟨q,_,_,U,_⟩:=O;#[q,U];show h2 _ l (kP I (by rw[e];show PB) hs he (oa (by have:=gE kvs k d;show L1 this hl) hd (G.put k rd) O))
end
inductive zf(td ty tx:TE)(σ:St)(Q:VK)(x:V)(H1:Hp):Prop
 |mk (a:_) (_:x=.ref a) (_:Li H1 a) (_:ty σ H1 λy H2=>tx σ H2 λz H3=>∃kvs k,H3 a=some (.dK kvs)/\y=kV k/\kvs.length<sizeLine/\(∀v,eL kvs k=some v->Q v H3)/\(eL kvs k=none->Q z (upd H3 a (.dK (putK kvs k z))))):zf td ty tx σ Q x H1
def Iq(td ty tx:TE):TE:=λσ H Q=>td σ H λx H1=>zf td ty tx σ Q x H1
section
variable{X:Cx}{o e f:Ot}{apos cpos:QY}{td ty tx:TE}
theorem CO(S:PE X o td)(he:PE X e ty)(hf:PE X f tx)(m:M2 X o "setdefault" apos e f cpos):PE X (.Call (.Attribute o "setdefault" apos) [e,f] [] cpos) (Iq td ty tx):=by
 intros Q I h;show Rr m.base m.Kw m.line QP Sb PySem.F.type_dict_setdefault (bW (S pins s σ H _ I h) λu s1 ab=>?_);let#[x,H1,J,rx,a,ex,d,q1]:=ab;subst ex;obtain rfl:u=Value.ref a:=rx;let#[t1,t2,_]:=lF J d;show#[t1,t2,?_];rw[m.trees];show Calls.callWith_builtin rfl (Calls.evalArgs_plain (Calls.spliced_cons (bW (he pins s1 σ H1 _ J q1) λiv s2 ⟨y,H2,U,N,R⟩ =>
  Calls.spliced_cons (bW (hf pins s2 σ H2 _ U R) λfv s3 ⟨z,H3,I3,L,kvs,k,ea,ey,hl,O,q4⟩=>Calls.spliced_nil ?_))))
 subst ey;show Hw I3 ea N L hl (λv w' s4 l G Y=>#[v,_,G,Y,O v l]) λs4 l G=>#[z,_,G,L,q4 l]
variable{pins:Xo}{σ:St}{H:Hp}{s:kz}{a:Addr}{o:Obj}{u:HO}{kvs:List (Key×V)}
theorem Inv.swap{w:HO}(I: ~~~H s)(h:H a=some u)(h1:∀o G,X.H₀ a≠some (.cW o G))(h2:∀xs,u≠.tup xs)(Y:∀ps,u≠.tbl ps)(U:∀x,u≠.own x)(new:bZ X.prog X.w (upd H a w) s.heap a w): ~~~(upd H a w) s:=by
 let ne:∀b,H b=none->b≠a:=λb q z=>(by rwa[z,h]at q);show#[I.ok,I.os,I.bare,#[I.base.keep,I.base.slot,λb o q S N=>?_,I.base.there,λb xs q=>?_,λb o G q=>?_,λb ps q=>?_],I.loc,I.cell,?_,λy c q=>?_,λp R=>?_,λb v q=>?_,I.len]
 .let z:=I.base.free b o q S N;rw[ai (ne b z)];show z
 .let z:=I.base.pF b xs q;rw[ai (λe=>h2 xs (by rw[e,h]at z;show rn z))];show z
 .let z:=I.base.mV b o G q;rw[ai (λe=>h1 o G (by rw[<-e];show q))];show z
 .let#[ab,z]:=I.base.pq b ps q;show#[ab,by rw[ai (λe=>Y _ (by rw[e,h]at z;show rn z))];show z]
 .rw[ai (ne _ I.free)];show I.free
 .rw[ai (ne _ (I.f9 y c q))];show I.f9 y c q
 .let#[O,L,a3]:=I.pin p R;show#[O,by rw[ai (ne _ L)];show L,a3]
 .by_cases J:b=a
  .subst J;rwa[ae]at q;show new
  .rw[ai J]at q;show(I.bK b v q).iP (λ_ _ _ z=>z) (λc z=>by rw[ai (λe=>U b (by rw[e,h]at z;show rn z))];show z) λc xs z=>by rw[ai (λe=>h2 xs (by rw[e,h]at z;show rn z))];show z
theorem Inv.freeze(I: ~~~H s)(h:H a=some (.dK kvs))(J:s.heap.get? a=some o)(h1:∀o G,X.H₀ a≠some (.cW o G)): ~~~(upd H a (.cW o (.dK kvs))) s :=
 I.swap h h1 (λ_ z=>nomatch z) (λ_ z=>nomatch z) (λ_ z=>nomatch z) #[J,(show bZ X.prog X.w H s.heap a (.dK kvs)from I.bK a _ h)]
theorem Inv.HX(I: ~~~H s)(h:H a=some (.cW o (.dK kvs)))(h1:∀o G,X.H₀ a≠some (.cW o G)): ~~~(upd H a (.dK kvs)) s :=
 I.swap h h1 (λ_ z=>nomatch z) (λ_ z=>nomatch z) (λ_ z=>nomatch z) (show bZ X.prog X.w H s.heap a (.cW o (.dK kvs))from I.bK a _ h).2
end
def AU(o:Obj):Nat:=match o.data with
 |.dict _ ep=>ep
 |_=>0
def Jn(a:Addr)(o:Obj)(kvs:List (Key×V)):It :=
 #[λi H=>H a=some (.cW o (.dK kvs))/\i<kvs.length,λi H x H'=>H'=H/\∃k v,kvs[i]?=some (k,v)/\x=kV k,λi H=>H a=some (.cW o (.dK kvs))/\kvs.length<=i]
theorem wk{P:se}{w:G1}{k:Key}{u:Value}(h:(bG P w).is k u=true):RelV (kV k) u:=by
 rcases cH (show oJ k u=true from h)with⟨i,t,rfl,rfl⟩|⟨x,t,rfl,rfl⟩
 .show#[t,rfl]
 .show#[t,rfl]
theorem lY{P:se}{w:G1}{H:Hp}{h:Heap}{a:Addr}{o:Obj}{kvs:List (Key×V)}(ok:jQ P w H h)(e:H a=some (.cW o (.dK kvs))):(a==Qv)=false/\∃vs,KV kvs vs/\h.DictAt (bG P w) a vs (AU o):=by
 let#[I,_,hd,vs,r,o',es,ep,h1,h2,G,L]:=(show bZ P w H h a (.cW o (.dK kvs))from ok a _ e);rwa[I]at h1;let J:AU o=ep:=(by unfold AU;rw[G]);show#[hd,vs,r,o,es,I,h2,by rw[J];show G,L]
theorem AK{P:se}{w:G1}{K:HC}{tg:Ot}(a it:Addr)(aB:a≠it)(o:Obj)(kvs:List (Key×V)):Turn P w K tg (Jn a o kvs) [it] it (λi h=>h.IsKeyIter it a i kvs.length (AU o)) where
 mem:=by simp
 obj:=λi h st b G=>by
  let e:b=it:=‹G›;subst e;let#[ob,h1,_,U]:=st;show#[ob,h1,λv z=>by rwa[U]at z]
 keep:=λi h h' st k=>st.at λo e=>k it (by simp) o e
 item:=by
  intro X Y O S hc i pins s σ H E I L st hg;subst Y O S;let#[ab,N]:=hg;let#[f0,f1,f2,f3,f4,f5]:=L it (by simp);let#[hd,vs,r,R]:=lY I.bK ab;let J:=r.length;obtain⟨⟨k,x⟩,hx⟩:∃p,vs[i]?=some p:=#[vs[i]'(OZ N J),by simp];let ap:∃v,kvs[i]?=some (k,v):=by
   let hi:i<kvs.length:=N;show#[(kvs[i]).2,?_];let e:=r.keys;let e1:(kvs.map (·.1))[i]?=(vs.map (·.1))[i]?:=(by rw[e]);rw[t5,t5,hx,vu hi]at e1;let e2:kvs[i].1=k:=rn e1;rw[vu hi, <-e2]
  let#[v,hv]:=ap;rw[J]at st ⊢;show wpAny_pyNext_dict_item st R hx λas h' ah ac am=>?_;let I1: ~~~H { s with heap:=h',toks:=s.toks }:=I.turned (λb o G e=>(am.2 b G).trans e) f0 f1 f3 f4 f5;let#[ob,h1,h2,U]:=id ac;show#[0,rH (s:={ s with heap:=h' }) (n := "dict_keyiterator") h1 h2 U ar #[kV k,H,I1,wk ah,#[rfl,k,v,hv,rfl],ac,λb G=>(L b G).1]]
 done:=by
  intro X Y O S hc i pins s σ H E I L st hg;subst Y O S;let#[ab,N]:=hg;let#[f0,f1,f2,f3,f4,f5]:=L it (by simp);let#[hd,vs,r,R]:=lY I.bK ab;let J:=r.length;rw[J]at st;show wpAny_pyNext_dict_end (I.ok.hd hc) st R (by simp;show le_of_eq_of_le (id (Qz J)) N) λh' eb=>#[rfl,I.turned (t':=s.toks) (λb o G e=>eb b o G e) f0 f1 f3 f4 f5]
 self:=λ_ _ _ _ _ st h=>wpAny_pyIter_keyiter st h
def JP(H₀:Hp)(td:TE):TI:=λσ H R=>td σ H λx H1=>FH λa kvs=>Ju (x=.ref a) (H1 a=some (.dK kvs)) ((∀o G,H₀ a≠some (.cW o G))) (∀o,R (Jn a o kvs) (upd H1 a (.cW o (.dK kvs))))
section
variable{X:Cx}{tg:Ot}
theorem sE{l:Ot}{td:TE}(hl:PE X l td):PI X tg l (JP X.H₀ td):=by
 intros R I h;show bW (hl pins s σ H _ I h) λv G Y=>?_;let#[x,H1,N,U,a,kvs,e,L,O,q]:=Y;subst e;cases U;let#[_,hd,vs,ab,dd]:=jm N.bK L;let#[ob,es,ep,h1,h2,h3,h4]:=id dd;let J:=N.freeze L h1 O;let lt:a<G⁻¹:=Heap.lt_size h1;let S:G.heap.DictAt (bG X.prog X.w) a vs (AU ob):=#[ob,es,h1,h2,by unfold AU;rw[h3],h4];show wpAny_pyIter_dict hd S ?_;show#[G⁻¹,[G⁻¹],_,Jn a ob kvs,0,J.kept (t':=G.toks) λb o e=>Heap.get?_push_of_some _ e,AK a _ (OR lt) ob kvs,#[_,Heap.get?_push_size _ rfl,5],λb hb=>?_,q ob]
 .rw[ab.length];rfl
 .let e:b=G⁻¹:=‹hb›;subst e;show J.kT (ti _) (J.bK.fresh (ti _))
def J8(H₀:Hp)(t:TS):TS:=λD σ H=>t { D with
 nx:=λI H'=>∃a o kvs,H' a=some (.cW o (.dK kvs))/\(∀o G,H₀ a≠some (.cW o G))/\D.nx I (upd H' a (.dK kvs))
 rt:=λv H'=>∃a o kvs,H' a=some (.cW o (.dK kvs))/\(∀o G,H₀ a≠some (.cW o G))/\D.rt v (upd H' a (.dK kvs)) } σ H
theorem m5{st:Ow}{t:TS}(h:PS X st t):PS X st (J8 X.H₀ t):=by
 intros D I q;show bW (h pins s σ H _ I q) λf S G=>?_;cases f with
 |next =>
  let#[O,H',N,a,o,kvs,R,J,L]:=G;show#[O,_,N.HX R J,L]
 |ret u =>
  let#[v,O,H',N,r,a,o,kvs,R,J,L]:=G;show#[v,O,_,N.HX R J,r,L]
 |brk=>show G
 |cont=>show G
end
theorem uW{a:Addr}{o:Obj}{kvs:List (Key×V)}{g:TG}{tb:TS}{D:Ends}{σ:St}{H:Hp}(Pv:Nat->St->Hp->Prop)(O:Pv 0 σ H)(S:∀i σ H,i<=kvs.length->Pv i σ H->H a=some (.cW o (.dK kvs)))
  (hs:∀i k v σ H,kvs[i]?=some (k,v)->Pv i σ H->g (kV k) σ H λJ H2=>tb { D with nx:=Pv (i+1),ct:=Pv (i+1),bk:=D.nx } J H2) (hd:∀σ H,Pv kvs.length σ H->D.nx σ H) :
  ∃W:Nat->Nat->St->Hp->Prop,(∃m,W 0 m σ H)/\∀i m σ H,W i m σ H ->
   ((Jn a o kvs).stop i H/\D.nx σ H)\/((Jn a o kvs).go i H/\∃N:St->Hp->Prop,(∀I H',N I H'->∃L,L<m/\W (i+1) L I H')/\∀x H',(Jn a o kvs).En i H x H'->g x σ H' λJ H2=>tb { D with nx:=N,ct:=N,bk:=D.nx } J H2):=by
 show#[λi m σ H=>m=kvs.length-i/\i<=kvs.length/\Pv i σ H,#[kvs.length,by simp,OB _,O],?_];rintro i m σ H ⟨rfl,hi,p⟩;let q:=S i σ H hi p;cases G:i<kvs.length
 .show .inr #[#[q,G],Pv (i+1),λI H' U=>#[kvs.length-(i+1),OU (PZ kvs) i G,rfl,G,U],λx H' y=>?_];let#[e,k,v,R,ex]:=y;subst e ex;show hs i k v σ _ R p
 .let e:i=kvs.length:=af;subst e;show .inl #[#[q,ti _],hd σ H p]
section
variable{X:Cx}
inductive K7(K:HC)(x:V)(y:V)(H:Hp)(Q:VK):Prop
 |mk(p:_)(q:_)(xs:_)(ys:_)(_:x=.ref p)(_:y=.ref q)(_:bw K H p xs)(_:bw K H q ys)(_:xs.all d0=true)(_:ys.all d0=true)(_:Q (.bl (!jZ xs ys)) H)
theorem Hf(Y:X.A.units<QO):mh X (PF .NotEq) (K7 X.K):=by
 intros x y v u Q I rx ry h;let#[p,q,xs,ys,rfl,rfl,hx,hy,fx,fy,R]:=h;cases rx;cases ry;let#[its,r,pl,hz]:=I.list hx;let#[O,S,N,ah]:=I.list hy;let L:=r.length;let U:=S.length;cases e:xs.length=ys.length
 .show WI (e:=λj=>mM (xs.getD j .non) (ys.getD j .non)) pl.isList N.isList (by rw[qi,qi];omega) Y (λj h1 h2=>?_) _ _ _ _ #[.bl (!jZ xs ys),H,I,?_,R]
  .let J:j<xs.length:=(by rw[qi]at h1;show OZ h1 (id (Qz L)));let G:j<ys.length:=OZ h2 (id (Qz U));let#[a,ea,ra]:=r.get (i:=j) (x:=xs[j]) (by simp[J]);let#[b,eb,rb]:=S.get (i:=j) (x:=ys[j]) (by simp[G]);let#[_,ab]:=kQ.mp ea;let#[_,ac]:=kQ.mp eb;let g1:xs.getD j .non=xs[j]:=(by simp[J]);let g2:ys.getD j .non=ys[j]:=(by simp[G]);change QC _ _ its.toArray[j] O.toArray[j] (mM (xs.getD j .non) (ys.getD j .non));rw[g1,g2];let f1:d0 xs[j]=true:=OG.mp fx _ (Qd J);let f2:d0 ys[j]=true:=OG.mp fy _ (Qd G);let z:=lV (A:=X.A.in1) (s:=s) ra rb f1 f2;let a1:its.toArray[j]=a:=‹ab›;let a2:O.toArray[j]=b:=‹ac›;rw[a1,a2];show z
  .change Value.bool _=Value.bool _;rw[qi, <-L,j0 e]
 .show Vt pl.isList N.isList ?_ Y _ _ _ _ #[.bl (!jZ xs ys),H,I,?_,R]
  .rw[qi,qi, <-L, <-U];show bne_iff_ne.mpr e
  .change Value.bool _=Value.bool _;rw[nY e];rfl
end
def HJ(lo st:Int)(n:Nat):It:=#[λi _=>i<n,λi H x H'=>H'=H/\x=.int (lo+i*st),λi _=>n<=i]
theorem uK{P:se}{w:G1}{K:HC}{tg:Ot}(it:Addr)(lo st:Int)(n:Nat):Turn P w K tg (HJ lo st n) [it] it (λi h=>UA h it (lo+(i:Nat)*st) ((n:Int)-(i:Nat)) st) where
 mem:=by simp
 obj:=λi h st b G=>by
  let e:b=it:=‹G›;subst e;show#[_,st,λv z=>by
   let z':RT _=RE v:=z;cases z']
 keep:=λi h h' st k=>k it (by simp) _ st
 item:=by
  intro X R L O hc i pins s σ H E I J ab hg;subst R L O;let#[N,S,f2,f3,Y,U]:=J it (by simp);let W:=W5 (prog:=X.prog) (w:=X.w) (I.ok.hd hc) it lo st n;show W.item i s _ _ hg ab λv h' tk hv ac kk=>?_;let#[t,rfl]:=hv;let I1: ~~~H { s with heap:=h',toks:=tk }:=I.turned (λb o G e=>kk b o ‹G› e) N S f3 Y U;show#[0,rH (s:={ s with heap:=h',toks:=tk }) (n := "range_iterator") ac rfl rfl ar #[.int (lo+i*st),H,I1,#[t,rfl],#[1],ac,λb G=>(J b G).1]]
 done:=by
  intro X R L O hc i pins s σ H E I J ab hg;subst R L O;let#[N,S,f2,f3,Y,U]:=J it (by simp);show TY (I.ok.hd hc) ab (by have:n<=i:=hg;omega) λh' eb=>#[rfl,I.turned (t':=s.toks) (λb o G e=>eb b o G e) N S f3 Y U]
 self:=λ_ _ _ _ _ st h=>TZ st h
def Lk(ta:TA):TI:=λσ H R=>ta σ H λvs H1=>∃(i j st:Int)(n:Nat),vs=[.int i,.int j,.int st]/\Builtin.Range.small i j st=true/\Builtin.Range.rangeSize i j st=(n:Int)/\st≠0/\Builtin.divisionGoesByPylong (j-i) st=false/\R (HJ i st n) H1
section
variable{X:Cx}{tg:Ot}
theorem As{a b c:Ot}{ta:TA}{p pos:QY}(hg:Gl X "range")(hm:X.mg "range" = none)(ha:PA X [a,b,c] ta)(hs:starEach [a,b,c] X.env=[(false,eval a X.env),(false,eval b X.env),(false,eval c X.env)]:=by rfl)(O:starEach [b,c] X.env=[(false,eval b X.env),(false,eval c X.env)]:=by rfl) :
  PI X tg (.Call (.Name "range" p) [a,b,c] [] pos) (Lk ta):=by
 intros R I h;show Call_ (jk I hg hm Wa (Pf (bW (ha pos pins s σ H _ I h) λus J ⟨vs,H1,I1,Y,N⟩=>?_) (by rw[hs,O]) (by rw[O];rfl)));let#[i,j,st,n,e,N,q2,S,q4,q]:=N;subst e;cases Y with
 |cons r G =>
  cases G with
  |cons r' G =>
   cases G with
   |cons ab G =>
    cases G;let#[t,rfl]:=r;let#[t',rfl]:=r';let#[U,rfl]:=ab;show call_range_3 S ?_ (.inl q4);show U4 (W6 ..) N ?_;let L: ~~~H1 { J with heap:=J.heap.push { cls:=.type "range",data:=.fields ([.int i t,.int j t',.int st U].toArray) },toks:=J.toks }:=I1.kept λb o e=>Heap.get?_push_of_some _ e;show#[_,[_],2,H1,rfl,L.kept (t':=J.toks) λb o e=>Heap.get?_push_of_some _ e,uK _ i st n,?_,λb hb=>?_,q]
    .let e1:i+((0:Nat):Int)*st=i:=(by simp);let e2:(n:Int)-((0:Nat):Int)=Builtin.Range.rangeSize i j st:=(by rw[q2];omega);change UA _ _ (i+((0:Nat):Int)*st) ((n:Int)-((0:Nat):Int)) st;rw[e1,e2];show Heap.get?_push_size _ rfl
    .let e:=nc.mp hb;subst e;show L.kT (ti _) (L.bK.fresh (ti _))
end
theorem BA(K:HC):IF K (.type "int") (.type "tuple")=some false:=by with_unfolding_all rfl
theorem DF(K:HC):IF K (.type "int") (.type "list")=some false:=by with_unfolding_all rfl
theorem Ba(K:HC):IF K (.type "int") (.type "dict")=some false:=by with_unfolding_all rfl
theorem Cs(K:HC):IF K (.type "str") (.type "tuple")=some false:=by with_unfolding_all rfl
theorem Dv(K:HC):IF K (.type "str") (.type "list")=some false:=by with_unfolding_all rfl
theorem Bi(K:HC):IF K (.type "str") (.type "dict")=some false:=by with_unfolding_all rfl
theorem Bl(K:HC):IF K (.type "NoneType") (.type "tuple")=some false:=by with_unfolding_all rfl
theorem D3(K:HC):IF K (.type "NoneType") (.type "list")=some false:=by with_unfolding_all rfl
theorem CW(K:HC):IF K (.type "NoneType") (.type "dict")=some false:=by with_unfolding_all rfl
theorem HD(K:HC):IF K (.type "tuple") (.type "tuple")=some true:=rfl
end L2
namespace Srt
open PySem PyProof.Rows
structure SI(a₀:Array G0)(st:ON):Prop where
 perm:(DD st).Perm a₀
 kind:kindOf st=Q9
 failed:Ra st=none
structure Ks(a₀:Array G0):Prop where
 ik:IntKeys a₀
 nd:(a₀.toList.map λp=>QB p.1).Nodup
def lI(xs:Array G0)(lo hi:Nat):Prop:=∀i j,lo<=i->i<=j->j<hi->K xs i<=K xs j
theorem SI.size{a₀:Array G0}{st:ON}(h:SI a₀ st):(DD st).size=a₀.size:=h.perm.size_eq
theorem we{a₀ xs:Array G0}(L:xs.Perm a₀)(k:Ks a₀){i:Nat}(hi:i<xs.size):∃t q,xs[i]?=some (.int (K xs i) t,q):=by
 let I:xs[i]∈a₀.toList:=(Qj.mp L).mem_iff.mp (by simp);let#[n,t,G]:=k.ik _ I;let e:xs[i]?=some xs[i]:=getElem?_pos _ i hi;let J:xs[i]=(.int n t,xs[i].2):=Vo G rfl;show#[t,xs[i].2,?_];unfold K;rw[e,J];rfl
theorem key_ne{a₀ xs:Array G0}(J:xs.Perm a₀)(k:Ks a₀){i j:Nat}(hi:i<j)(G:j<xs.size):K xs i≠K xs j:=by
 let L:=(Qj.mp J).map λp:G0=>QB p.1;let I:(xs.toList.map λp=>QB p.1).Nodup:=L.nodup_iff.mpr k.nd;let h1:i<xs.size:=Wo hi G;let a:=PK.mp I i j ‹h1› ‹G› hi;unfold K;rw[getElem?_pos xs i h1,getElem?_pos xs j G];simpa using a
theorem SI.setArr{a₀:Array G0}{st:ON}(h:SI a₀ st){xs:Array G0}(G:xs.Perm (DD st)):SI a₀ (setArr st xs):=#[G.trans h.perm,h.kind,h.failed]
section
variable{prog:se}{w:G1}{A:L7}{E:Xp}{s:kz}{a₀:Array G0}
theorem ud{st:ON}{x y:G0}{a b:Int}{t u:Xe}{Q:Option Bool->ON->Prop}(J:kindOf st=Q9)(G:x.1=.int a t)(I:y.1=.int b u)(h:Q (some (decide (a<b))) st) :
  W3 (model prog w) A E s (lt' x y) Q st:=by
 rw[lt'_eq];show nq (Rt ?_);rw[J,keyLt'_oneType,G,I];show nq (TC (UY (oneLt_int #[rfl,pa h])))
theorem bE{st:ON}{xs:Array G0}{i:Nat}{p:G0}{Q:G0->ON->Prop}(hi:xs[i]?=some p)(h:Q p st):W3 (model prog w) A E s (elem' xs i) Q st:=by
 rw[elem'_eq,hi];show pa h
theorem rh{st:ON}{i j:Nat}{Q:Option Bool->ON->Prop}(S:SI a₀ st)(k:Ks a₀)(hi:i<a₀.size)(G:j<a₀.size)(h:Q (some (decide (K (DD st) i<K (DD st) j))) st) :
  W3 (model prog w) A E s (ltAt' i j) Q st:=by
 let#[t,p,J]:=we S.perm k (by rw[S.size];show hi);let#[u,q,I]:=we S.perm k (by rw[S.size];show G);show wpS_ltAt S.kind J I h
structure Cut(a₀:Array G0)(st st':ON)(lo:Nat):Prop where
 S:SI a₀ st'
 pre:∀i,i<lo->(DD st')[i]?=(DD st)[i]?
 pend:Om st'=Om st
theorem BM{st:ON}{lo nrem:Nat}{Q:Option Nat->ON->Prop}(S:SI a₀ st)(k:Ks a₀)(hn:lo+nrem<=a₀.size)(h1:1<=nrem)
  (h:∀m G,Cut a₀ st G lo->1<=m->m<=nrem->lI (DD G) lo (lo+m)->Q (some m) G):W3 (model prog w) A E s (countRun' lo nrem) Q st:=by
 rw[countRun'_eq];show nq (PN (OP (I:=λx c G=>qN (G=st) (c=(none,x)) (lI (DD st) lo (lo+x))) (Q:=λc G=>G=st/\∃n,c=(none,n)/\1<=n/\n<=nrem/\lI (DD st) lo (lo+n)/\(n=nrem\/K (DD st) (lo+n)<K (DD st) (lo+n-1))) ?_ ?_ ?_) ?_)
 .rintro x c G Y ac ⟨rfl,rfl,hs⟩;dsimp only;show nq (rh S k af af ?_);cases c:K (DD G) (lo+x)<K (DD G) (lo+x-1)
  .simp only[c,decide_true,if_true];show pa #[rfl,x,rfl,Y,af,hs,.inr c]
  .simp only[c,decide_false,PQ,if_false];show pa #[1,λi j hi L O=>?_];cases z:j<lo+x
   .show hs i j hi L z
   .by_cases U:i=j
    .rw[U];show OX _
    .have:=hs i (lo+x-1) hi af af;let R:j=lo+x:=QW O z;rw[R];omega
 .rintro c G ⟨rfl,rfl,hs⟩;rw[show max 1 nrem=nrem by omega]at hs ⊢;show#[rfl,nrem,rfl,h1,ti _,hs,.inl rfl]
 .show#[1,λi j hi L O=>by rw[show i=j by omega];show OX _]
 .rintro c G ⟨rfl,n,rfl,n1,n2,hs,as⟩;dsimp only;cases e:n=nrem
  .rw[Xl ‹e›];show pa (h n G #[S,λ_ _=>rfl,rfl] n1 n2 hs)
  .rw[Xk ‹e›];let am:=as.resolve_left e;cases g:n>1
   .rw[Xl g];show nq (rh S k af af ?_);let r:K (DD G) lo<K (DD G) (lo+n-1):=by
     let a:=hs lo (lo+n-1) (ti _) af af;let b:=key_ne S.perm k (i:=lo) (j:=lo+n-1) af (by rw[S.size];omega);omega
    simp only[r,decide_true,if_true];show pa (h n G #[S,λ_ _=>rfl,rfl] n1 n2 hs)
   .rw[Xk g];let e1:n=1:=af;subst e1;show nq (TC (QZ #[5]));let ap:∀i j,lo<=i->i<=j->j<lo+2->K (DD G) j<=K (DD G) i:=λi j hi L O=>by
     cases z:i=j
     .rw[z];show OX _
     .let ei:i=lo:=af;let R:j=lo+1:=af;rw[ei,R];show OJ am
    show nq (PN (OP (I:=λx c J=>qN (J=G) (c=(none,x,0)) (∀i j,lo<=i->i<=j->j<lo+x->K (DD G) j<=K (DD G) i)) (Q:=λc J=>J=G/\∃n,c=(none,n,0)/\2<=n/\n<=nrem/\∀i j,lo<=i->i<=j->j<lo+n->K (DD G) j<=K (DD G) i) ?_ ?_ ?_) ?_)
    .rintro x c J Y ac ⟨rfl,rfl,hd⟩;dsimp only;show nq (rh S k af af ?_);cases c:K (DD J) (lo+x)<K (DD J) (lo+x-1)
     .simp only[c,decide_true,if_true];rw[Xk af];show pa #[1,λi j hi L O=>?_];cases z:j<lo+x
      .show hd i j hi L z
      .by_cases U:i=j
       .rw[U];show OX _
       .have:=hd i (lo+x-1) hi af af;let R:j=lo+x:=QW O z;rw[R];omega
     .simp only[c,decide_false,PQ,if_false];show nq (rh S k af af ?_);let r:K (DD J) (lo+x-1)<K (DD J) (lo+x):=by
       let b:=key_ne S.perm k (i:=lo+x-1) (j:=lo+x) af (by rw[S.size];omega);omega
      simp only[r,decide_true,if_true];show pa #[rfl,x,rfl,Y,af,hd]
    .rintro c J ⟨rfl,rfl,hd⟩;rw[show max (1+1) nrem=nrem by omega]at hd ⊢;show#[rfl,nrem,rfl,af,ti _,hd]
    .show#[1,ap]
    .rintro c J ⟨rfl,n,rfl,m1,m2,hd⟩;dsimp only;rw[Xk af];show nq (wpS_reverse ?_);let hsz:lo+n<=(DD J).size:=(by rw[S.size];omega);let S3:=S.setArr (mirror_perm (DD J) lo (lo+n) ((lo+n-lo)/2));let C3:Cut a₀ J (setArr J (Wq (DD J) lo (lo+n) ((lo+n-lo)/2))) lo:=by
      show#[S3,λi hi=>?_,rfl];change(Wq (DD J) lo (lo+n) ((lo+n-lo)/2))[i]?=_;rw[getElem?_mirror_all hsz,Xk af]
     let ah:lI (DD (setArr J (Wq (DD J) lo (lo+n) ((lo+n-lo)/2)))) lo (lo+n):=λi j hi L O=>by
      change K (Wq (DD J) lo (lo+n) ((lo+n-lo)/2)) i<=K (Wq (DD J) lo (lo+n) ((lo+n-lo)/2)) j;rw[K_mirror hsz,K_mirror hsz,Xl af,Xl af];show hd _ _ af (Nat.sub_le_sub_left L (lo+(lo+n)-1)) af
     generalize setArr J (Wq (DD J) lo (lo+n) ((lo+n-lo)/2))=ab at S3 C3 ah ⊢;show nq (PN (OP (I:=λx c N=>qN (N=ab) (c=(none,x)) (lI (DD ab) lo (lo+x))) (Q:=λc N=>N=ab/\∃m,c=(none,m)/\1<=m/\m<=nrem/\lI (DD ab) lo (lo+m)) ?_ ?_ ?_) ?_)
     .rintro x c N Y ac ⟨rfl,rfl,hs⟩;dsimp only;show nq (rh S3 k af af ?_);cases c:K (DD N) (lo+x)<K (DD N) (lo+x-1)
      .simp only[c,decide_true,if_true];show pa #[rfl,x,rfl,af,af,hs]
      .simp only[c,decide_false,PQ,if_false];show pa #[1,λi j hi L O=>?_];cases z:j<lo+x
       .show hs i j hi L z
       .by_cases U:i=j
        .rw[U];show OX _
        .have:=hs i (lo+x-1) hi af af;let R:j=lo+x:=QW O z;rw[R];omega
     .rintro c N ⟨rfl,rfl,hs⟩;rw[show max n nrem=nrem by omega]at hs ⊢;show#[rfl,nrem,rfl,h1,ti _,hs]
     .show#[1,ah]
     .rintro c N ⟨rfl,m,rfl,q1,q2,hs⟩;show pa (h m N C3 q1 q2 hs)
theorem Cg{st:ON}{lo n ok:Nat}{Q:Bool->ON->Prop}(S:SI a₀ st)(k:Ks a₀)(hn:lo+n<=a₀.size)(h1:1<=ok)(bK:ok<=n)(hs:lI (DD st) lo (lo+ok))
  (h:∀G,Cut a₀ st G lo->lI (DD G) lo (lo+n)->Q true G):W3 (model prog w) A E s (binarySort' lo n ok) Q st:=by
 rw[binarySort'_eq];show nq (PN (OP (I:=λx c G=>qN (c=(none,())) (Cut a₀ st G lo) (lI (DD G) lo (lo+x))) (Q:=λc G=>qN (c=(none,())) (Cut a₀ st G lo) (lI (DD G) lo (lo+n))) ?_ ?_ ?_) ?_)
 .rintro x c G as aB ⟨rfl,C,L⟩;let R:lo+x<(DD G).size:=(by rw[C.S.size];omega);show nq (PN (OP (I:=λy c J=>J=G/\∃l r,c=(none,l,r)/\l<=r/\r<=x/\r-l<=x-y/\(∀i,lo<=i->i<lo+l->K (DD G) i<=K (DD G) (lo+x))/\∀i,lo+r<=i->i<lo+x->K (DD G) (lo+x)<K (DD G) i)
   (Q:=λc J=>J=G/\∃l,c=(none,l,l)/\l<=x/\(∀i,lo<=i->i<lo+l->K (DD G) i<=K (DD G) (lo+x))/\∀i,lo+l<=i->i<lo+x->K (DD G) (lo+x)<K (DD G) i) ?_ ?_ ?_) ?_)
  .rintro y c J am ap ⟨rfl,l,r,rfl,lr,U,hm,O,N⟩;dsimp only;cases g:l>=r
   .rw[Xl g];obtain rfl:l=r:=af;show pa #[rfl,l,rfl,U,O,N]
   .rw[Xk g];show nq (rh C.S k af af ?_);cases c:K (DD J) (lo+x)<K (DD J) (lo+(l+r)/2)
    .simp only[c,decide_true,if_true];show pa #[rfl,l,(l+r)/2,rfl,af,af,af,O,λi hi ab=>?_];have:=L (lo+(l+r)/2) i af hi af;show SA c this
    .simp only[c,decide_false,PQ,if_false];show pa #[rfl,(l+r)/2+1,r,rfl,af,af,af,λi hi ab=>?_,N];have:=L i (lo+(l+r)/2) hi (Ru ab) af;omega
  .rintro c J ⟨rfl,l,r,rfl,lr,U,hm,O,N⟩;obtain rfl:l=r:=af;show#[rfl,l,rfl,U,O,N]
  .show#[rfl,(0),x,rfl,af,af,af,λi hi ac=>by omega,λi hi ac=>by omega]
  .rintro c J ⟨rfl,l,rfl,lx,O,N⟩;dsimp only;rw[moveDown'_eq];show nq (QG (pa #[rfl,#[C.S.setArr (bubble_perm _ _ _),λi hi=>?_,C.pend],λi j hi ah hj=>?_]))
   .change(bubble (DD J) (lo+x) (lo+x-(lo+l)))[i]?=_;rw[getElem?_bubble R _ (WZ (lo+x) (lo+l)),Xk af,Xk af];show C.pre i hi
   .change K (bubble (DD J) (lo+x) (lo+x-(lo+l))) i<=K (bubble (DD J) (lo+x) (lo+x-(lo+l))) j;rw[K_bubble R (WZ (lo+x) (lo+l)),K_bubble R (WZ (lo+x) (lo+l)),show lo+x-(lo+x-(lo+l))=lo+l by omega];cases Y:i=lo+l
    .rw[Xl Y];cases c2:j=lo+l
     .rw[Xl c2];show OX _
     .rw[Xk c2,Xl af];have:=N (j-1) af af;show OJ this
    .rw[Xk Y];cases c2:j=lo+l
     .rw[Xl c2,Xk af];show O i hi af
     .rw[Xk c2];cases c3:lo+l<i/\i<=lo+x
      .rw[Xl c3,Xl af];show L _ _ af (Nat.sub_le_sub_right ah 1) af
      .rw[Xk c3];cases c4:lo+l<j/\j<=lo+x
       .rw[Xl c4];show L _ _ af af af
       .rw[Xk c4];show L _ _ af af af
 .rintro c G ⟨rfl,C,L⟩;rw[show max (max ok 1) n=n by omega]at L;show#[rfl,C,L]
 .rw[show max ok 1=ok by show Nat.max_eq_left h1];show#[rfl,#[S,λ_ _=>rfl,rfl],hs]
 .rintro c G ⟨rfl,C,L⟩;show pa (h G C L)
end
def E2:Bool->G0->Array G0->Nat->Nat->Nat->StateT ON RZ (Option Nat):=sortPriv% PySem.Builtin.gallop
def gS(left:Bool)(a:Int)(xs:Array G0)(base i:Nat):Bool:=if left then decide (K xs (base+i)<a)else !decide (a<K xs (base+i))
section
variable{prog:se}{w:G1}{A:L7}{E:Xp}{s:kz}{a₀:Array G0}
def tM(left:Bool)(G:G0)(xs:Array G0)(base i:Nat):StateT ON RZ (Option Bool):=
 bind (elem' xs (base+i)) λx=>ite (left=true) (lt' x G) (bind (lt' G x) λr=>pure (Option.map (λb => !b) r))
theorem IH{st:ON}{left:Bool}{G:G0}{a:Int}{t u:Xe}{q:Value}{xs:Array G0}{base i:Nat}{Q:Option Bool->ON->Prop}(I:kindOf st=Q9)(J:G.1=.int a t)(L:xs[base+i]?=some (.int (K xs (base+i)) u,q))
  (h:Q (some (gS left a xs base i)) st):W3 (model prog w) A E s (tM left G xs base i) Q st:=by
 unfold tM;show nq (bE L ?_);unfold gS at h;cases left with
 |true=>show ud I rfl J h
 |false=>show nq (ud I J rfl (pa h))
theorem jq{left:Bool}{a:Int}{xs:Array G0}{base n i j:Nat}(hs:lI xs base (base+n))(G:i<=j)(I:j<n)(h:gS left a xs base j=true):gS left a xs base i=true:=by
 have:=hs (base+i) (base+j) af (Pn Rn G) (Nat.add_lt_add_left I base);unfold gS at h ⊢;cases left with
 |true =>
  let z:K xs (base+j)<a:=of_decide_eq_true h;show decide_eq_true (SD this z)
 |false =>
  let z:¬ a<K xs (base+j):=of_decide_eq_false ‹h›;change(!decide (a<K xs (base+i)))=true;rw[decide_eq_false af];rfl
theorem jA{left:Bool}{a:Int}{xs:Array G0}{base n i j:Nat}(hs:lI xs base (base+n))(G:i<=j)(I:j<n)(h:gS left a xs base i=false):gS left a xs base j=false:=by
 cases e:gS left a xs base j with
 |false=>rfl
 |true=>rwa[jq hs G I e]at h
theorem eK{st:ON}{left:Bool}{ab:G0}{a:Int}{t:Xe}{xs:Array G0}{base n hint:Nat}{Q:Option Nat->ON->Prop}(hk:kindOf st=Q9)(aB:ab.1=.int a t)(hx:∀i,i<n->∃t q,xs[base+i]?=some (.int (K xs (base+i)) t,q))
  (hs:lI xs base (base+n)) (hh:hint<n) (h:∀r,r<=n->(∀i,i<r->gS left a xs base i=true)->(∀i,r<=i->i<n->gS left a xs base i=false)->Q (some r) st) :
  W3 (model prog w) A E s (E2 left ab xs base n hint) Q st:=by
 let B:∀{i:Nat}{Q:Option Bool->ON->Prop},i<n->Q (some (gS left a xs base i)) st->W3 (model prog w) A E s (tM left ab xs base i) Q st:=λhi q=>by
  let#[u,v,e]:=hx _ hi;show IH hk aB e q
 show nq (B hh ?_);cases c:gS left a xs base hint with
 |true =>
  dsimp only;rw[Xl rfl];show nq (PN (OP (I:=λx c G=>G=st/\∃l o,c=(none,l,o)/\l<o/\x+1<=o/\hint+l<n/\gS left a xs base (hint+l)=true) (Q:=λc G=>G=st/\∃l o,c=(none,l,o)/\l<o/\hint+l<n/\gS left a xs base (hint+l)=true/\(n-hint<=o\/(hint+o<n/\gS left a xs base (hint+o)=false))) ?_ ?_ ?_) ?_)
  .rintro x c G ah ap ⟨rfl,l,o,rfl,lo,xo,S,L⟩;dsimp only;cases g:o>=n-hint
   .rw[Xl g];show pa #[rfl,l,o,rfl,lo,S,L,.inl g]
   .rw[Xk g];show nq (B (i:=hint+o) af ?_);cases c2:gS left a xs base (hint+o)with
    |true=>show pa #[rfl,o,2*o+1,rfl,af,af,af,c2]
    |false=>show pa #[rfl,l,o,rfl,lo,S,L,.inr #[af,c2]]
  .rintro c G ⟨rfl,l,o,rfl,lo,xo,S,L⟩;show#[rfl,l,o,rfl,lo,S,L,.inl af]
  .show#[rfl,(0),(1),rfl,af,af,hh,c]
  .rintro c G ⟨rfl,l,o,rfl,lo,S,L,ac⟩;dsimp only;let f1:∀i,i<hint+l+1->gS left a xs base i=true:=λi hi=>jq hs (j:=hint+l) (Ru hi) S L;let f2:∀i,hint+min o (n-hint)<=i->i<n->gS left a xs base i=false:=λi hi U=>by
    rcases ac with g|⟨g1,g2⟩
    .omega
    .show jA hs (i:=hint+o) af U g2
   let Y:hint+l+1<=hint+min o (n-hint):=af;let f4:hint+min o (n-hint)<=n:=af;generalize hint+l+1=am at f1 Y ⊢;generalize hint+min o (n-hint)=as at f2 Y f4 ⊢;show nq (PN (OP (I:=λx c O=>O=G/\∃l r,c=(none,l,r)/\l<=r/\r<=n/\r-l<=n-x/\(∀i,i<l->gS left a xs base i=true)/\∀i,r<=i->i<n->gS left a xs base i=false) (Q:=λc O=>O=G/\∃r,c=(none,r,r)/\r<=n/\(∀i,i<r->gS left a xs base i=true)/\∀i,r<=i->i<n->gS left a xs base i=false) ?_ ?_ ?_) ?_)
   .rintro x c O ah ap ⟨rfl,l,r,rfl,lr,R,hm,N,J⟩;dsimp only;cases g:l>=r
    .rw[Xl g];obtain rfl:l=r:=af;show pa #[rfl,l,rfl,R,N,J]
    .rw[Xk g];show nq (B (i:=l+(r-l)/2) af ?_);cases c2:gS left a xs base (l+(r-l)/2)with
     |true=>show pa #[rfl,l+(r-l)/2+1,r,rfl,af,R,af,λi hi=>jq hs (j:=l+(r-l)/2) (Ru hi) af c2,J]
     |false=>show pa #[rfl,l,l+(r-l)/2,rfl,af,af,af,N,λi hi U=>jA hs hi U c2]
   .rintro c O ⟨rfl,l,r,rfl,lr,R,hm,N,J⟩;obtain rfl:l=r:=af;show#[rfl,l,rfl,R,N,J]
   .show#[rfl,am,as,rfl,Y,f4,af,f1,f2]
   .rintro c O ⟨rfl,r,rfl,R,N,J⟩;show pa (h r R N J)
 |false =>
  dsimp only;rw[Xk ar];show nq (PN (OP (I:=λx c G=>G=st/\∃l o,c=(none,l,o)/\l<o/\x+1<=o/\l<=hint/\gS left a xs base (hint-l)=false) (Q:=λc G=>G=st/\∃l o,c=(none,l,o)/\l<o/\l<=hint/\gS left a xs base (hint-l)=false/\(hint+1<=o\/(o<=hint/\gS left a xs base (hint-o)=true))) ?_ ?_ ?_) ?_)
  .rintro x c G ah ap ⟨rfl,l,o,rfl,lo,xo,S,L⟩;dsimp only;cases g:o>=hint+1
   .rw[Xl g];show pa #[rfl,l,o,rfl,lo,S,L,.inl g]
   .rw[Xk g];show nq (B (i:=hint-o) (VH hh) ?_);cases c2:gS left a xs base (hint-o)with
    |true=>show pa #[rfl,l,o,rfl,lo,S,L,.inr #[OA g,c2]]
    |false=>show pa #[rfl,o,2*o+1,rfl,af,af,OA g,c2]
  .rintro c G ⟨rfl,l,o,rfl,lo,xo,S,L⟩;show#[rfl,l,o,rfl,lo,S,L,.inl af]
  .show#[rfl,(0),(1),rfl,af,af,OB _,c]
  .rintro c G ⟨rfl,l,o,rfl,lo,S,L,ac⟩;dsimp only;let f1:∀i,i<hint+1-min o (hint+1)->gS left a xs base i=true:=λi hi=>by
    rcases ac with g|⟨g1,g2⟩
    .omega
    .show jq hs (j:=hint-o) af (VH hh) g2
   let f2:∀i,hint-l<=i->i<n->gS left a xs base i=false:=λi hi U=>jA hs hi U L;let Y:hint+1-min o (hint+1)<=hint-l:=af;let f4:hint-l<=n:=af;generalize hint+1-min o (hint+1)=am at f1 Y ⊢;generalize hint-l=as at f2 Y f4 ⊢;show nq (PN (OP (I:=λx c O=>O=G/\∃l r,c=(none,l,r)/\l<=r/\r<=n/\r-l<=n-x/\(∀i,i<l->gS left a xs base i=true)/\∀i,r<=i->i<n->gS left a xs base i=false) (Q:=λc O=>O=G/\∃r,c=(none,r,r)/\r<=n/\(∀i,i<r->gS left a xs base i=true)/\∀i,r<=i->i<n->gS left a xs base i=false) ?_ ?_ ?_) ?_)
   .rintro x c O ah ap ⟨rfl,l,r,rfl,lr,R,hm,N,J⟩;dsimp only;cases g:l>=r
    .rw[Xl g];obtain rfl:l=r:=af;show pa #[rfl,l,rfl,R,N,J]
    .rw[Xk g];show nq (B (i:=l+(r-l)/2) af ?_);cases c2:gS left a xs base (l+(r-l)/2)with
     |true=>show pa #[rfl,l+(r-l)/2+1,r,rfl,af,R,af,λi hi=>jq hs (j:=l+(r-l)/2) (Ru hi) af c2,J]
     |false=>show pa #[rfl,l,l+(r-l)/2,rfl,af,af,af,N,λi hi U=>jA hs hi U c2]
   .rintro c O ⟨rfl,l,r,rfl,lr,R,hm,N,J⟩;obtain rfl:l=r:=af;show#[rfl,l,rfl,R,N,J]
   .show#[rfl,am,as,rfl,Y,f4,af,f1,f2]
   .rintro c O ⟨rfl,r,rfl,R,N,J⟩;show pa (h r R N J)
end
def le(p q:G0):Prop:=QB p.1<=QB q.1
structure Up(a:Array G0):Prop where
 ik:IntKeys a
 up:a.toList.Pairwise le
theorem Up.at{a:Array G0}(u:Up a){i:Nat}(hi:i<a.size):∃t q,a[i]?=some (.int (K a i) t,q):=by
 let#[n,t,G]:=u.ik a[i] (by simp);let e:a[i]?=some a[i]:=getElem?_pos _ i hi;let I:a[i]=(.int n t,a[i].2):=Vo G rfl;show#[t,a[i].2,?_];unfold K;rw[e,I];rfl
theorem Up.LO{a:Array G0}(u:Up a):lI a 0 a.size:=λi j _ I G=>by
 cases e:i=j
 .rw[e];show OX _
 .let hi:i<a.size:=Qh I G;let z:=PK.mp u.up i j ‹hi› ‹G› (Pb I e);rw[K_eq hi,K_eq G];simpa[le]using z
theorem lI.sub{a:Array G0}{lo hi G I:Nat}(h:lI a lo hi)(h1:lo<=G)(h2:I<=hi):lI a G I:=λi j hi J L=>h i j (L1 h1 hi) J (Oq L h2)
structure MI(a b out:Array G0)(ia ib:Nat):Prop where
 la:ia<=a.size
 lb:ib<=b.size
 pm:(out.toList++a.toList.drop ia++b.toList.drop ib).Perm (a.toList++b.toList)
 up:out.toList.Pairwise le
 ba:∀p∈out.toList,∀q∈a.toList.drop ia,le p q
 bb:∀p∈out.toList,∀q∈b.toList.drop ib,le p q
theorem MI.sz{a b out:Array G0}{G I:Nat}(m:MI a b out G I):out.size+(a.size-G)+(b.size-I)=a.size+b.size:=by
 have:=m.pm.length_eq;simp at this;omega
theorem MI.vS{a b out S:Array G0}{G N:Nat}(m:MI a b out G N)(Y:Up a){k:Nat}(hk:G+k<=a.size)(L:S.toList=out.toList++(a.toList.drop G).take k)(h:∀p∈(a.toList.drop G).take k,∀q∈b.toList.drop N,le p q):MI a b S (G+k) N:=by
 let hd:a.toList.drop (G+k)=(a.toList.drop G).drop k:=(by rw[Wr]);let O:(a.toList.drop G).Pairwise le:=Y.up.sublist (Sl _ _);let R:=O;rw[<-PR k (a.toList.drop G)]at R;let#[p1,p2,U]:=OC.mp R;show#[hk,m.lb,3,λp J q I=>?_,λp J q I=>?_]
 .rw[L,hd,OE out.toList,PR];show m.pm
 .rw[L,OC];show#[m.up,p1,λp O q I=>m.ba p O q (Sd I)]
 .rw[hd]at I;rw[L]at J;rcases oR.mp J with z|z
  .show m.ba p z q (RY I)
  .show U p z q I
 .rw[L]at J;rcases oR.mp J with z|z
  .show m.bb p z q I
  .show h p z q I
theorem MI.vt{a b out S:Array G0}{O G:Nat}(m:MI a b out O G)(Y:Up b){k:Nat}(hk:G+k<=b.size)(L:S.toList=out.toList++(b.toList.drop G).take k)(h:∀p∈(b.toList.drop G).take k,∀q∈a.toList.drop O,le p q):MI a b S O (G+k):=by
 let hd:b.toList.drop (G+k)=(b.toList.drop G).drop k:=(by rw[Wr]);let N:(b.toList.drop G).Pairwise le:=Y.up.sublist (Sl _ _);let R:=N;rw[<-PR k (b.toList.drop G)]at R;let#[p1,p2,U]:=OC.mp R;show#[m.la,hk,3,λp J q I=>?_,λp J q I=>?_]
 .show Se ?_ m.pm;rw[L,hd];let e:b.toList.drop G=(b.toList.drop G).take k++(b.toList.drop G).drop k:=(PR _ _).symm
  conv=>rhs;rw[e]
  generalize (b.toList.drop G).take k=T;generalize (b.toList.drop G).drop k=D;rw[OE,OE,OE];show QT _ ?_;rw[<-OE, <-OE];show QH _ Q4
 .rw[L,OC];show#[m.up,p1,λp N q I=>m.bb p N q (Sd I)]
 .rw[L]at J;rcases oR.mp J with z|z
  .show m.ba p z q I
  .show h p z q I
 .rw[hd]at I;rw[L]at J;rcases oR.mp J with z|z
  .show m.bb p z q (RY I)
  .show U p z q I
def Good(a b R:Array G0):Prop:=R.toList.Perm (a.toList++b.toList)/\R.toList.Pairwise le
theorem eF{a:Array G0}{i:Nat}{q:G0}(h:q∈a.toList.drop i):∃j,i<=j/\j<a.size/\QB q.1=K a j:=by
 let#[n,G,e]:=UH.mp h;let I:i+n<a.size:=by
  rw[P1]at G;simp at G;show Qk G
 show#[i+n,af,I,?_];rw[K_eq I, <-e,Vu];simp
theorem eI{a:Array G0}{i k:Nat}{q:G0}(h:q∈(a.toList.drop i).take k):∃j,j<k/\i+j<a.size/\QB q.1=K a (i+j):=by
 let#[n,I,e]:=UH.mp h;rw[Oj,P1]at I;simp at I;let G:i+n<a.size:=af;show#[n,af,G,?_];rw[K_eq G, <-e,Rv,Vu];simp
theorem MI.iI{a b out:Array G0}{G I:Nat}(m:MI a b out G I)(U:Up a)(ub:Up b)(hi:G<a.size){p:G0}(J:a[G]?=some p)(h:∀j,I<=j->j<b.size->K a G<=K b j):MI a b (out.push p) (G+1) I:=by
 let ep:a[G]=p:=(by rw[getElem?_pos a G hi]at J;show rn J);show m.vS U (k:=1) (Vv hi) ?_ λx L q O=>?_
 .rw[Td,Qt ‹hi›];simp[ep]
 .let#[j,Y,_,e]:=eI L;let#[R,h2,S,N]:=eF O;have:j=0:=af;subst this;change QB x.1<=QB q.1;rw[e,N];show h R h2 S
theorem MI.mF{a b out:Array G0}{I G:Nat}(m:MI a b out I G)(ua:Up a)(U:Up b)(hi:G<b.size){p:G0}(J:b[G]?=some p)(h:∀j,I<=j->j<a.size->K b G<=K a j):MI a b (out.push p) I (G+1):=by
 let ep:b[G]=p:=(by rw[getElem?_pos b G hi]at J;show rn J);show m.vt U (k:=1) (Vv hi) ?_ λx L q O=>?_
 .rw[Td,Qt ‹hi›];simp[ep]
 .let#[j,Y,_,e]:=eI L;let#[R,h2,S,N]:=eF O;have:j=0:=af;subst this;change QB x.1<=QB q.1;rw[e,N];show h R h2 S
theorem vK{a:Array G0}{i k:Nat}:(a.extract i (i+k)).toList=(a.toList.drop i).take k:=by
 rw[SE,Qm];congr 1;show RC i k
theorem kj{a:Array G0}{i:Nat}:(a.extract i a.size).toList=a.toList.drop i:=by
 rw[SE,Qm];show Ph ?_;rw[P1];simp
theorem MI.qW{a b out:Array G0}{I G:Nat}(m:MI a b out I G)(J:Up a)(h:G=b.size):Good a b (out++a.extract I a.size++b.extract G b.size):=by
 let e:(out++a.extract I a.size++b.extract G b.size).toList=out.toList++a.toList.drop I++b.toList.drop G:=by
  rw[Px,Px,kj,kj]
 show#[by rw[e];show m.pm,?_];rw[e,h,List.drop_of_length_le (l:=b.toList) (by simp),T9,OC];show#[m.up,J.up.sublist (Sl _ _),λp N q L=>m.ba p N q L]
theorem MI.last{a b out:Array G0}{G I:Nat}(m:MI a b out G I)(S:Up a)(U:Up b)(hi:G+1=a.size)(h:∀j,I<=j->j<b.size->K b j<=K a G):Good a b (out++b.extract I b.size++a.extract G a.size):=by
 let e:(out++b.extract I b.size++a.extract G a.size).toList=out.toList++b.toList.drop I++a.toList.drop G:=by
  rw[Px,Px,kj,kj]
 show#[3]
 .rw[e];show Se ?_ m.pm;rw[OE,OE];show QT _ Q4
 .rw[e,OC,OC];show#[#[m.up,U.up.sublist (Sl _ _),λp L q J=>m.bb p L q J],S.up.sublist (Sl _ _),λp L q J=>?_];rcases oR.mp L with z|z
  .show m.ba p z q J
  .let#[j,h1,h2,R]:=eF z;let#[O,h3,Y,N]:=eF J;have:O=G:=af;subst this;change QB p.1<=QB q.1;rw[R,N];show h j h1 h2
theorem MI.Hn{a b out:Array G0}{G I:Nat}(m:MI a b out G I)(Y:Up a){k:Nat}(hk:G+k<=a.size)(h:∀i j,i<k->I<=j->j<b.size->K a (G+i)<=K b j):MI a b (out++a.extract G (G+k)) (G+k) I :=
 m.vS Y hk (by rw[Px,vK]) λp N q L=>by
  let#[j,h1,h2,R]:=eI N;let#[O,U,S,J]:=eF L;change QB p.1<=QB q.1;rw[R,J];show h j O h1 U S
theorem MI.Cq{a b out:Array G0}{I G:Nat}(m:MI a b out I G)(Y:Up b){k:Nat}(hk:G+k<=b.size)(h:∀i j,i<k->I<=j->j<a.size->K b (G+i)<=K a j):MI a b (out++b.extract G (G+k)) I (G+k):=
 m.vt Y hk (by rw[Px,vK]) λp N q L=>by
  let#[j,h1,h2,R]:=eI N;let#[O,U,S,J]:=eF L;change QB p.1<=QB q.1;rw[R,J];show h j O h1 U S
theorem BJ{a:Int}{xs:Array G0}{base n r:Nat}(J:∀i,i<r->gS false a xs base i=true)(G:∀i,r<=i->i<n->gS false a xs base i=false):(∀i,i<r->K xs (base+i)<=a)/\∀j,base+r<=j->j<base+n->a<K xs j:=by
 show#[λi hi=>?_,λj I L=>?_]
 .have:=J i hi;unfold gS at this;simpa using this
 .have:=G (j-base) (Ux I) af;unfold gS at this;rw[show base+(j-base)=j by omega]at this;simpa using this
theorem vp{a:Int}{xs:Array G0}{base n r:Nat}(J:∀i,i<r->gS true a xs base i=true)(G:∀i,r<=i->i<n->gS true a xs base i=false):(∀i,i<r->K xs (base+i)<a)/\∀j,base+r<=j->j<base+n->a<=K xs j:=by
 show#[λi hi=>?_,λj I L=>?_]
 .have:=J i hi;unfold gS at this;simpa using this
 .have:=G (j-base) (Ux I) af;unfold gS at this;rw[show base+(j-base)=j by omega]at this;simpa using this
theorem MI.grow{a b out O:Array G0}{L J I B:Nat}(m:MI a b out L J)(G:MI a b O I B)(h1:L<=I)(h2:J<=B):out.size<=O.size:=by
 let R:=m.sz;let N:=G.sz;have:=G.la;have:=G.lb;omega
def D7:Array G0->Array G0->StateT ON RZ (Array G0):=sortPriv% PySem.Builtin.mergeLo
structure vW(st st':ON):Prop where
 arr:DD st'=DD st
 kind:kindOf st'=kindOf st
 failed:Ra st'=Ra st
 pend:Om st'=Om st
section
variable{prog:se}{w:G1}{A:L7}{E:Xp}{s:kz}{a₀:Array G0}
theorem aS{α:Type}{c:Prop}[Decidable c]{m n:StateT ON RZ α}{Q:α->ON->Prop}{st:ON}(h1:c->W3 (model prog w) A E s m Q st)(h2:¬ c->W3 (model prog w) A E s n Q st):W3 (model prog w) A E s (if c then m else n) Q st:=by
 cases z:c
 .rw[Xl z];show h1 z
 .rw[Xk z];show h2 z
def Ht:Nat->StateT ON RZ Unit:=sortPriv% PySem.Builtin.setMinGallop
theorem zp{G st:ON}{g:Nat}{Q:Unit->ON->Prop}(k:vW G st)(h:∀I,vW G I->Q () I):W3 (model prog w) A E s (Ht g) Q st :=
 QG (h _ #[k.arr,k.kind,k.failed,k.pend])
theorem wJ{st:ON}{a b:Array G0}{Q:Array G0->ON->Prop}(hk:kindOf st=Q9)(N:Up a)(O:Up b)(na:1<=a.size)(nb:1<=b.size)(h0:K b 0<K a 0)(hl:∀j,j<b.size->K b j<K a (a.size-1))
  (h:∀R ah,Good a b R->vW st ah->Q R ah):W3 (model prog w) A E s (D7 a b) Q st:=by
 show nq (TC (QZ #[5]));let#[t0,q0,e0]:=O.at (i:=0) (Vx nb);show nq (bE e0 ?_);let sa:=N.LO;let sb:=O.LO;let M0:MI a b ([(Value.int (K b 0) t0,q0)].toArray) 0 1:=by
  let M:MI a b ([].toArray) 0 0:=#[OB _,OB _,by simp,Tc,(λp hp=>by cases hp),(λp hp=>by cases hp)];show M.mF N O (Vx nb) e0 λj _ hj=>by
   have:=sa 0 j af af hj;omega
 show aS (λg=>?_) (λg=>?_)
 .show pa (h _ _ (M0.qW N ‹g›) #[1,1])
 let g1:¬ 1=b.size:=‹g›;show aS (λg=>?_) (λg=>?_)
 .let g':0+1=a.size:=‹g›;show pa (h _ _ (M0.last N O g' λj _ hj=>?_) #[1,1]);have:=hl j hj;rw[<-g']at this;show OJ this
 let g2:¬ 0+1=a.size:=‹g›;show nq (Rt ?_);show nq (PN (OP (I:=λx c ah=>Lz λout G J mg=>Eo (c=(none,out,G,J,mg)) (MI a b out G J) (G+1<a.size) (J<b.size) (x+1<=out.size) (vW st ah)) (Q:=λc ah=>∃R,qN (Good a b R) (c.1=some R) (vW st ah)) ?_ ?_ ?_) ?_)
 .rintro x c a5 bn bv ⟨out,G,J,mg,rfl,M,S,L,lo,K1⟩;show nq (PN (OP (I:=λy c ah=>Ep λU G J ac bc=>Eo (c=(none,U,G,J,ac,bc)) (MI a b U G J) (G+1<a.size) (J<b.size) (out.size+y<=U.size) (vW st ah))
   (Q:=λc ah=>vW st ah/\((∃R,Good a b R/\c.1=some R)\/(Ep λU G J ac bc=>JA (c=(none,U,G,J,ac,bc)) (MI a b U G J) (G+1<a.size) (J<b.size) (out.size+1<=U.size)))) ?_ ?_ ?_) ?_)
  .rintro y c a4 be bl ⟨U,G,J,ac,bc,rfl,M,S,L,ba,K2⟩;let bd:kindOf a4=Q9:=K2.kind.trans hk;let#[tb,qb,eb]:=O.at L;let#[ta,qa,ea]:=N.at (i:=G) (Te S);show nq (bE eb (nq (bE ea (nq (ud bd rfl rfl ?_)))));cases c:K b J<K a G
   .rw[decide_eq_true c];show nq (bE eb ?_);let M2:=M.mF N O L eb λj h1 h2=>by
     have:=sa G j af h1 h2;omega
    show aS (λg=>?_) (λg=>?_)
    .show pa #[K2,.inl #[_,M2.qW N ‹g›,rfl]]
    .let g':¬ J+1=b.size:=‹g›;let sz:(U.push (Value.int (K b J) tb,qb)).size=U.size+1:=TF ..;show aS (λg=>?_) (λg=>?_)
     .show pa #[K2,.inr #[U.push (Value.int (K b J) tb,qb),G,J+1,_,0,M2,S,Pb L g',af]]
     .show pa #[U.push (Value.int (K b J) tb,qb),G,J+1,_,0,M2,S,Pb L g',af,K2]
   .rw[decide_eq_false c];show nq (bE ea ?_);let M2:=M.iI N O (Te S) ea λj h1 h2=>by
     have:=sb J j af h1 h2;omega
    show aS (λg=>?_) (λg=>?_)
    .let g':G+1+1=a.size:=‹g›;show pa #[K2,.inl #[_,M2.last N O g' (λj h1 h2=>?_),rfl]];have:=hl j h2;rw[show a.size-1=G+1 by show Pn Qu (id (Qz g'))]at this;show OJ this
    .let g':¬ G+1+1=a.size:=‹g›;let sz:(U.push (Value.int (K a G) ta,qa)).size=U.size+1:=TF ..;show aS (λg=>?_) (λg=>?_)
     .show pa #[K2,.inr #[U.push (Value.int (K a G) ta,qa),G+1,J,_,0,M2,Pb S g',L,af]]
     .show pa #[U.push (Value.int (K a G) ta,qa),G+1,J,_,0,M2,Pb S g',L,af,K2]
  .rintro c a4 ⟨U,G,J,ac,bc,rfl,M,S,L,ba,K2⟩;show#[K2,.inr #[2,2,0,M,S,L,af]]
  .show#[out,G,J,_,0,M,S,L,af,K1]
  .rintro c a4 ⟨K2,⟨R,hR,e⟩|⟨U,G,J,ac,bc,rfl,M,S,L,ba⟩⟩
   .let#[c1,c2]:=c;cases e;show pa #[R,hR,rfl,K2]
   .show nq (TC (QZ #[5]));show nq (PN (OP (I:=λy c ah=>Ls λap G J mg ac bc=>Eo (c=(none,ap,G,J,mg,ac,bc)) (MI a b ap G J) (G+1<a.size) (J<b.size) (U.size<=ap.size) (vW st ah))
     (Q:=λc ah=>vW st ah/\((∃R,Good a b R/\c.1=some R)\/(Ls λap G J mg ac bc=>JA (c=(none,ap,G,J,mg,ac,bc)) (MI a b ap G J) (G+1<a.size) (J<b.size) (U.size<=ap.size)))) ?_ ?_ ?_) ?_)
    .rintro y c a7 be bl ⟨ap,G,J,a6,ac,bc,rfl,M,S,L,am,K3⟩;show aS (λg=>?_) (λg=>?_)
     all_goals
      show nq (zp K3 λa8 Y=>?_);let a3:kindOf a8=Q9:=Y.kind.trans hk;let#[tb,qb,eb]:=O.at L;show nq (bE eb (nq (eK (base:=G) (n:=a.size-G) (hint:=0) a3 rfl (λi hi=>N.at (Qk hi)) (sa.sub (OB _) af) af λr hr r1 r2=>?_)));let#[R1,R2]:=BJ r1 r2;rw[show G+(a.size-G)=a.size by omega]at R2;let bi:G+r<a.size:=by
       cases z:G+r<a.size
       .show z
       .let a1:=R1 (a.size-1-G) af;rw[show G+(a.size-1-G)=a.size-1 by omega]at a1;have:=hl J L;omega
      let M1:=M.Hn N (k:=r) (Tf bi) λi j hi h1 h2=>Qb (R1 i hi) (sb J j (OB _) h1 h2);show aS (λg2=>?_) (λg2=>?_)
      .show aS (λg3=>?_) (λg3=>?_)
       .let g':G+r+1=a.size:=‹g3›;show pa #[Y,.inl #[_,M1.last N O g' (λj h1 h2=>?_),rfl]];have:=hl j h2;rw[show a.size-1=G+r by omega]at this;show OJ this
       .let bm:¬ G+r+1=a.size:=‹g3›;show aS (λg4=>?_) (λg4=>?_)
        .let g':G+r=a.size:=‹g4›;omega
        .clear g4;let M2:=M1.mF N O L eb λj h1 h2=>OJ (R2 j af h2);show nq (bE eb ?_);show aS (λg5=>pa #[Y,.inl #[_,M2.qW N ‹g5›,rfl]]) (λg5=>?_);let as:¬ J+1=b.size:=‹g5›;let#[ta,qa,ea]:=N.at (i:=G+r) af;show nq (bE ea (nq (eK (base:=J+1) (n:=b.size-(J+1)) (hint:=0) a3 rfl (λi hi=>O.at (Qk hi)) (sb.sub (OB _) af) af λr' a0 a2 aT=>?_)));let#[T1,T2]:=vp a2 aT;rw[show J+1+(b.size-(J+1))=b.size by show RQ L]at T2;let M3:=M2.Cq O (k:=r') (Rp (QI L) a0) λi j hi h1 h2=>OJ (SA (T1 i hi) (sa _ j (OB _) h1 h2));show aS (λg6=>?_) (λg6=>?_)
         .show aS (λg7=>pa #[Y,.inl #[_,M3.qW N ‹g7›,rfl]]) (λg7=>?_);let bb:¬ J+1+r'=b.size:=‹g7›;show nq (bE ea ?_);let M4:=M3.iI N O af ea λj h1 h2=>T2 j af h2;show aS (λg8=>?_) (λg8=>?_)
          .let ab:G+r+1+1=a.size:=‹g8›;show pa #[Y,.inl #[_,M4.last N O ab (λj h1 h2=>?_),rfl]];have:=hl j h2;rw[show a.size-1=G+r+1 by show Pn Qu (id (Qz ab))]at this;show OJ this
          .let ab:¬ G+r+1+1=a.size:=‹g8›;show aS (λg9=>pa #[Y,.inr #[_,G+r+1,J+1+r',2,0,M4,af,af,L1 am (M.grow M4 af af)]]) (λg9=>pa #[_,G+r+1,J+1+r',2,0,M4,af,af,L1 am (M.grow M4 af af),Y])
         .let aB:r'=0:=af;subst aB;show nq (bE ea ?_);let M4:=M2.iI N O af ea λj h1 h2=>T2 j af h2;show aS (λg8=>?_) (λg8=>?_)
          .let ab:G+r+1+1=a.size:=‹g8›;show pa #[Y,.inl #[_,M4.last N O ab (λj h1 h2=>?_),rfl]];have:=hl j h2;rw[show a.size-1=G+r+1 by show Pn Qu (id (Qz ab))]at this;show OJ this
          .let ab:¬ G+r+1+1=a.size:=‹g8›;show aS (λg9=>pa #[Y,.inr #[_,G+r+1,J+1,2,0,M4,af,Pb L as,L1 am (M.grow M4 af af)]]) (λg9=>pa #[_,G+r+1,J+1,2,0,M4,af,Pb L as,L1 am (M.grow M4 af af),Y])
      .let r0:r=0:=af;subst r0;let M2:=M.mF N O L eb λj h1 h2=>OJ (R2 j af h2);show nq (bE eb ?_);show aS (λg5=>pa #[Y,.inl #[_,M2.qW N ‹g5›,rfl]]) (λg5=>?_);let as:¬ J+1=b.size:=‹g5›;let#[ta,qa,ea]:=N.at (i:=G) af;show nq (bE ea (nq (eK (base:=J+1) (n:=b.size-(J+1)) (hint:=0) a3 rfl (λi hi=>O.at (Qk hi)) (sb.sub (OB _) af) af λr' a0 a2 aT=>?_)));let#[T1,T2]:=vp a2 aT;rw[show J+1+(b.size-(J+1))=b.size by show RQ L]at T2;let M3:=M2.Cq O (k:=r') (Rp (QI L) a0) λi j hi h1 h2=>OJ (SA (T1 i hi) (sa _ j (OB _) h1 h2));show aS (λg6=>?_) (λg6=>?_)
       .show aS (λg7=>pa #[Y,.inl #[_,M3.qW N ‹g7›,rfl]]) (λg7=>?_);let bb:¬ J+1+r'=b.size:=‹g7›;show nq (bE ea ?_);let M4:=M3.iI N O af ea λj h1 h2=>T2 j af h2;show aS (λg8=>?_) (λg8=>?_)
        .let ab:G+1+1=a.size:=‹g8›;show pa #[Y,.inl #[_,M4.last N O ab (λj h1 h2=>?_),rfl]];have:=hl j h2;rw[show a.size-1=G+1 by show Pn Qu (id (Qz ab))]at this;show OJ this
        .let ab:¬ G+1+1=a.size:=‹g8›;show aS (λg9=>pa #[Y,.inr #[_,G+1,J+1+r',2,0,M4,Pb S ab,af,L1 am (M.grow M4 af af)]]) (λg9=>pa #[_,G+1,J+1+r',2,0,M4,Pb S ab,af,L1 am (M.grow M4 af af),Y])
       .let aB:r'=0:=af;subst aB;show nq (bE ea ?_);let M4:=M2.iI N O af ea λj h1 h2=>T2 j af h2;show aS (λg8=>?_) (λg8=>?_)
        .let ab:G+1+1=a.size:=‹g8›;show pa #[Y,.inl #[_,M4.last N O ab (λj h1 h2=>?_),rfl]];have:=hl j h2;rw[show a.size-1=G+1 by show Pn Qu (id (Qz ab))]at this;show OJ this
        .let ab:¬ G+1+1=a.size:=‹g8›;show aS (λg9=>pa #[Y,.inr #[_,G+1,J+1,2,0,M4,Pb S ab,Pb L as,L1 am (M.grow M4 af af)]]) (λg9=>pa #[_,G+1,J+1,2,0,M4,af,af,L1 am (M.grow M4 af af),Y])
    .rintro c a7 ⟨ap,G,J,a6,ac,bc,rfl,M,S,L,am,K3⟩;show#[K3,.inr #[2,2,_,0,M,S,L,am]]
    .show#[U,G,J,2,0,M,S,L,ti _,K2]
    .rintro c a7 ⟨K3,⟨R,hR,e⟩|⟨ap,G,J,a6,ac,bc,rfl,M,S,L,am⟩⟩
     .let#[c1,c2]:=c;cases e;show pa #[R,hR,rfl,K3]
     .show nq (zp K3 λa8 Y=>?_);show pa #[ap,G,J,0,M,S,L,af,Y]
 .rintro c a5 ⟨out,G,J,mg,rfl,M,S,L,lo,K1⟩;exfalso;have:=M.sz;omega
 .show#[2,_,0,M0,Pb na g2,Pb nb g1,ti _,#[1,1]]
 .rintro c a5 ⟨R,hR,e,K1⟩;let#[c1,c2]:=c;cases e;show pa (h R a5 hR K1)
end
def seg(a:Array G0)(k n:Nat):List G0:=(a.toList.drop k).take (n-k)
theorem jH{a:Array G0}{k n:Nat}(h:k<=n):a.toList.take n=a.toList.take k++seg a k n:=by
 unfold seg;let e:a.toList.take k=(a.toList.take n).take k:=(by rw[List.take_take,Tg h]);rw[e, <-List.drop_take,PR]
theorem m9{a:Array G0}{k n:Nat}{q:G0}(h:q∈seg a k n):∃j,k<=j/\j<n/\j<a.size/\QB q.1=K a j:=by
 let#[j,h1,h2,e]:=eI h;show#[k+j,af,Qk h1,h2,e]
theorem m7{a:Array G0}{n:Nat}{q:G0}(h:q∈a.toList.take n):∃j,j<n/\j<a.size/\QB q.1=K a j:=by
 have:q∈(a.toList.drop 0).take n:=(by rw[Ws];show h);let#[j,h1,h2,e]:=eI this;rw[Wt]at h2 e;show#[j,h1,h2,e]
theorem iy{a:Array G0}{k n:Nat}:(a.extract k n).toList=seg a k n:=by
 unfold seg;rw[SE,Qm]
theorem nW{a:Array G0}{n:Nat}:(a.extract 0 n).toList=a.toList.take n:=by
 rw[SE,Qm];simp
theorem zh{a:Array G0}{k:Nat}(h:k<a.size):seg a k (k+1)=[a[k]]:=by
 unfold seg;rw[Qt ‹h›];simp
structure MH(a b out:Array G0)(na nb:Nat):Prop where
 la:na<=a.size
 lb:nb<=b.size
 pm:(a.toList.take na++b.toList.take nb++out.toList.reverse).Perm (a.toList++b.toList)
 up:out.toList.reverse.Pairwise le
 ab:∀p∈a.toList.take na,∀q∈out.toList,le p q
 bb:∀p∈b.toList.take nb,∀q∈out.toList,le p q
theorem MH.sz{a b out:Array G0}{G I:Nat}(m:MH a b out G I):out.size+G+I=a.size+b.size:=by
 have:=m.pm.length_eq;let h1:=m.la;let h2:=m.lb;simp at this;omega
theorem MH.grow{a b out O:Array G0}{J G I B:Nat}(m:MH a b out J G)(L:MH a b O I B)(h1:I<=J)(h2:B<=G):out.size<=O.size:=by
 let R:=m.sz;let N:=L.sz;omega
theorem nV{out:Array G0}{l r:List G0}{q:G0}(h:out.toList.reverse=l++r.reverse)(G:q∈out.toList):q∈l\/q∈r:=by
 have:q∈out.toList.reverse:=Pp.mpr G;rw[h]at this;rcases oR.mp this with z|z
 .show .inl z
 .show .inr (Pp.mp z)
theorem MH.vS{a b out U:Array G0}{G R k:Nat}(m:MH a b out G R)(ua:Up a)(S:k<=G)(O:U.toList.reverse=seg a k G++out.toList.reverse)(h:∀i j,i<R->i<b.size->k<=j->j<G->K b i<=K a j):MH a b U k R:=by
 let L:=jH (a:=a) S;let N:(a.toList.take G).Pairwise le:=ua.up.sublist (Q3 _ _);rw[L]at N;let#[p1,p2,p3]:=OC.mp N;let ac:=m.la;show#[L1 S ac,m.lb,3,λp J q I=>?_,λp J q I=>?_]
 .show Se ?_ m.pm;rw[O,L];generalize seg a k G=T;generalize a.toList.take k=D;generalize b.toList.take R=B;rw[OE,OE,OE];show QT _ ?_;rw[<-OE, <-OE];show QH _ Q4
 .rw[O,OC];show#[p2,m.up,λp N q I=>m.ab p ?_ q (Pp.mp I)];rw[L];show L3 _ N
 .rcases nV O I with z|z
  .show p3 p J q z
  .show m.ab p ?_ q z;rw[L];show O8 _ J
 .rcases nV O I with z|z
  .let#[i,i1,i2,e1]:=m7 J;let#[j,j1,j2,j3,Y]:=m9 z;change QB p.1<=QB q.1;rw[e1,Y];show h i j i1 i2 j1 j2
  .show m.bb p J q z
theorem MH.vt{a b out U:Array G0}{O G k:Nat}(m:MH a b out O G)(ub:Up b)(S:k<=G)(R:U.toList.reverse=seg b k G++out.toList.reverse)(h:∀i j,i<O->i<a.size->k<=j->j<G->K a i<=K b j):MH a b U O k:=by
 let L:=jH (a:=b) S;let N:(b.toList.take G).Pairwise le:=ub.up.sublist (Q3 _ _);rw[L]at N;let#[p1,p2,p3]:=OC.mp N;let Y:=m.lb;show#[m.la,L1 S Y,3,λp J q I=>?_,λp J q I=>?_]
 .show Se ?_ m.pm;rw[R,L];generalize seg b k G=T;generalize b.toList.take k=D;generalize a.toList.take O=B;rw[OE,OE,OE]
 .rw[R,OC];show#[p2,m.up,λp N q I=>m.bb p ?_ q (Pp.mp I)];rw[L];show L3 _ N
 .rcases nV R I with z|z
  .let#[i,i1,i2,e1]:=m7 J;let#[j,j1,j2,j3,e2]:=m9 z;change QB p.1<=QB q.1;rw[e1,e2];show h i j i1 i2 j1 j2
  .show m.ab p J q z
 .rcases nV R I with z|z
  .show p3 p J q z
  .show m.bb p ?_ q z;rw[L];show O8 _ J
theorem MH.iI{a b out:Array G0}{G I:Nat}(m:MH a b out G I)(O:Up a)(J:1<=G){p:G0}(L:a[G-1]?=some p)(h:∀i,i<I->i<b.size->K b i<=K a (G-1)):MH a b (out.push p) (G-1) I:=by
 let N:=m.la;let hi:G-1<a.size:=UI J N;let ep:a[G-1]=p:=(by rw[getElem?_pos a _ hi]at L;show rn L);show m.vS O (WZ G 1) ?_ λi j h1 h2 R S=>?_
 .have:=zh hi;rw[show G-1+1=G by show SF J]at this;rw[this,Td,Rw,ep];rfl
 .rw[show j=G-1 by omega];show h i h1 h2
theorem MH.mF{a b out:Array G0}{I G:Nat}(m:MH a b out I G)(N:Up b)(J:1<=G){p:G0}(L:b[G-1]?=some p)(h:∀i,i<I->i<a.size->K a i<=K b (G-1)):MH a b (out.push p) I (G-1):=by
 let O:=m.lb;let hi:G-1<b.size:=UI J O;let ep:b[G-1]=p:=(by rw[getElem?_pos b _ hi]at L;show rn L);show m.vt N (WZ G 1) ?_ λi j h1 h2 R S=>?_
 .have:=zh hi;rw[show G-1+1=G by show SF J]at this;rw[this,Td,Rw,ep];rfl
 .rw[show j=G-1 by omega];show h i h1 h2
theorem MH.Hn{a b out:Array G0}{G I k:Nat}(m:MH a b out G I)(J:Up a)(L:k<=G)(h:∀i j,i<I->i<b.size->k<=j->j<G->K b i<=K a j):MH a b (out++(a.extract k G).reverse) k I :=
 m.vS J L (by rw[Px,Rw,SG,UJ,iy]) h
theorem MH.Cq{a b out:Array G0}{I G k:Nat}(m:MH a b out I G)(J:Up b)(L:k<=G)(h:∀i j,i<I->i<a.size->k<=j->j<G->K a i<=K b j):MH a b (out++(b.extract k G).reverse) I k :=
 m.vt J L (by rw[Px,Rw,SG,UJ,iy]) h
theorem MH.done{a b out:Array G0}{I G:Nat}(m:MH a b out I G)(N:Up a)(O:Up b)(h:I=0\/G=0):Good a b (a.extract 0 I++b.extract 0 G++out.reverse):=by
 let e:(a.extract 0 I++b.extract 0 G++out.reverse).toList=a.toList.take I++b.toList.take G++out.toList.reverse:=by
  rw[Px,Px,nW,nW,SG]
 show#[by rw[e];show m.pm,?_];rw[e];rcases h with h|h
 .rw[h,UP,VU,OC];show#[O.up.sublist (Q3 _ _),m.up,λp L q J=>m.bb p L q (Pp.mp J)]
 .rw[h,UP,T9,OC];show#[N.up.sublist (Q3 _ _),m.up,λp L q J=>m.ab p L q (Pp.mp J)]
theorem MH.first{a b out:Array G0}{J G:Nat}(m:MH a b out J G)(S:Up a)(U:Up b)(Y:G=1)(h:∀j,j<a.size->K b 0<=K a j):Good a b (b.extract 0 G++a.extract 0 J++out.reverse):=by
 let e:(b.extract 0 G++a.extract 0 J++out.reverse).toList=b.toList.take G++a.toList.take J++out.toList.reverse:=by
  rw[Px,Px,nW,nW,SG]
 show#[3]
 .rw[e];show(QH _ Q4).trans m.pm
 .rw[e,OC,OC];show#[#[U.up.sublist (Q3 _ _),S.up.sublist (Q3 _ _),λp L q I=>?_],m.up,λp L q I=>?_]
  .let#[i,i1,i2,R]:=m7 L;let#[j,j1,O,N]:=m7 I;change QB p.1<=QB q.1;rw[R,N,show i=0 by omega];show h j O
  .rcases oR.mp L with z|z
   .show m.bb p z q (Pp.mp I)
   .show m.ab p z q (Pp.mp I)
def AX:Array G0->Array G0->StateT ON RZ (Array G0):=sortPriv% PySem.Builtin.mergeHi
section
variable{prog:se}{w:G1}{A:L7}{E:Xp}{s:kz}{a₀:Array G0}
theorem w9{st:ON}{a b:Array G0}{Q:Array G0->ON->Prop}(hk:kindOf st=Q9)(L:Up a)(N:Up b)(J:1<=a.size)(G:1<=b.size)(h0:K b 0<K a 0)(hl:∀j,j<b.size->K b j<K a (a.size-1))
  (h:∀R ab,Good a b R->vW st ab->Q R ab):W3 (model prog w) A E s (AX a b) Q st:=by
 show nq (TC (QZ #[5]));let sa:=L.LO;let sb:=N.LO;let as:∀j,j<a.size->K b 0<=K a j:=λj hj=>by
  have:=sa 0 j (OB _) (OB _) hj;omega
 let#[t0,q0,e0]:=L.at (i:=a.size-1) af;show nq (bE e0 ?_);let M0:MH a b ([(Value.int (K a (a.size-1)) t0,q0)].toArray) (a.size-1) b.size:=by
  let M:MH a b ([].toArray) a.size b.size:=#[ti _,ti _,(by rw[Ph (l:=a.toList) (by simp),Ph (l:=b.toList) (by simp)];simp),Tc,(λp _ q hq=>by cases hq),(λp _ q hq=>by cases hq)];show M.iI L J e0 λi h1 h2=>OJ (hl i h2)
 show aS (λg=>pa (h _ _ (M0.done L N (.inl ‹g›)) #[1,1])) (λg=>?_);let g1:¬ a.size-1=0:=‹g›;show aS (λg=>pa (h _ _ (M0.first L N ‹g› as) #[1,1])) (λg=>?_);let g2:¬ b.size=1:=‹g›;show nq (Rt ?_);show nq (PN (OP (I:=λx c ab=>Lz λJ G out mg=>Eo (c=(none,J,G,out,mg)) (MH a b out J G) (1<=J) (2<=G) (x+1<=out.size) (vW st ab)) (Q:=λc ab=>∃R,qN (Good a b R) (c.1=some R) (vW st ab)) ?_ ?_ ?_) ?_)
 .rintro x c a4 bI bK ⟨J,G,out,mg,rfl,M,la,lb,lo,K1⟩;show nq (PN (OP (I:=λy c ab=>Ep λJ G S ac bc=>Eo (c=(none,J,G,S,ac,bc)) (MH a b S J G) (1<=J) (2<=G) (out.size+y<=S.size) (vW st ab))
   (Q:=λc ab=>vW st ab/\((∃R,Good a b R/\c.1=some R)\/(Ep λJ G S ac bc=>JA (c=(none,J,G,S,ac,bc)) (MH a b S J G) (1<=J) (2<=G) (out.size+1<=S.size)))) ?_ ?_ ?_) ?_)
  .rintro y c a3 bm bn ⟨J,G,S,ac,bc,rfl,M,la,lb,a8,K2⟩;let bi:kindOf a3=Q9:=K2.kind.trans hk;let lA:=M.la;let lB:=M.lb;let#[tb,qb,eb]:=N.at (i:=G-1) af;let#[ta,qa,ea]:=L.at (i:=J-1) af;show nq (bE eb (nq (bE ea (nq (ud bi rfl rfl ?_)))));cases c:K b (G-1)<K a (J-1)
   .rw[decide_eq_true c];show nq (bE ea ?_);let M2:=M.iI L af ea λi h1 h2=>OJ (SD (sb i (G-1) (OB _) af af) c);show aS (λg=>pa #[K2,.inl #[_,M2.done L N (.inl ‹g›),rfl]]) (λg=>?_);let g':¬ J-1=0:=‹g›;let sz:(S.push (Value.int (K a (J-1)) ta,qa)).size=S.size+1:=TF ..;show aS (λg=>pa #[K2,.inr #[J-1,G,S.push (Value.int (K a (J-1)) ta,qa),_,0,M2,af,lb,af]]) (λg=>pa #[J-1,G,S.push (Value.int (K a (J-1)) ta,qa),_,0,M2,af,lb,af,K2])
   .rw[decide_eq_false c];show nq (bE eb ?_);let M2:=M.mF N af eb λi h1 h2=>Qb (sa i (J-1) (OB _) af af) (Wu.mp c);show aS (λg=>pa #[K2,.inl #[_,M2.first L N ‹g› as,rfl]]) (λg=>?_);let g':¬ G-1=1:=‹g›;let sz:(S.push (Value.int (K b (G-1)) tb,qb)).size=S.size+1:=TF ..;show aS (λg=>pa #[K2,.inr #[J,G-1,S.push (Value.int (K b (G-1)) tb,qb),_,0,M2,la,af,af]]) (λg=>pa #[J,G-1,S.push (Value.int (K b (G-1)) tb,qb),_,0,M2,la,af,af,K2])
  .rintro c a3 ⟨J,G,S,ac,bc,rfl,M,la,lb,a8,K2⟩;show#[K2,.inr #[J,G,S,_,0,M,la,lb,af]]
  .show#[J,G,out,_,0,M,la,lb,af,K1]
  .rintro c a3 ⟨K2,⟨R,hR,e⟩|⟨J,G,S,ac,bc,rfl,M,la,lb,a8⟩⟩
   .let#[c1,c2]:=c;cases e;show pa #[R,hR,rfl,K2]
   .show nq (TC (QZ #[5]));show nq (PN (OP (I:=λy c ab=>Ls λJ G ah mg ac bc=>Eo (c=(none,J,G,ah,mg,ac,bc)) (MH a b ah J G) (1<=J) (2<=G) (S.size<=ah.size) (vW st ab))
     (Q:=λc ab=>vW st ab/\((∃R,Good a b R/\c.1=some R)\/(Ls λJ G ah mg ac bc=>JA (c=(none,J,G,ah,mg,ac,bc)) (MH a b ah J G) (1<=J) (2<=G) (S.size<=ah.size)))) ?_ ?_ ?_) ?_)
    .rintro y c a6 bm bn ⟨J,G,ah,a5,ac,bc,rfl,M,la,lb,am,K3⟩;show aS (λg=>?_) (λg=>?_)
     all_goals
      show nq (zp K3 λa7 O=>?_);let a2:kindOf a7=Q9:=O.kind.trans hk;let lA:=M.la;let lB:=M.lb;let#[tb,qb,eb]:=N.at (i:=G-1) af;show nq (bE eb (nq (eK (base:=0) (n:=J) (hint:=J-1) a2 rfl (λi hi=>L.at af) (sa.sub (OB _) af) af λr hr r1 r2=>?_)));let#[R1,R2]:=BJ r1 r2;simp only[Wt]at R1 R2;let M1:=M.Hn L (k:=r) af λi j h1 h2 h3 h4=>OJ (SD (sb i (G-1) (OB _) af af) (R2 j h3 h4));show aS (λg2=>?_) (λg2=>?_)
      .show aS (λg3=>pa #[O,.inl #[_,M1.done L N (.inl ‹g3›),rfl]]) (λg3=>?_);let bv:¬ r=0:=‹g3›;let M2:=M1.mF N af eb λi h1 h2=>R1 i af;show nq (bE eb ?_);show aS (λg5=>pa #[O,.inl #[_,M2.first L N ‹g5› as,rfl]]) (λg5=>?_);let ba:¬ G-1=1:=‹g5›;let#[ta,qa,ea]:=L.at (i:=r-1) af;show nq (bE ea (nq (eK (base:=0) (n:=G-1) (hint:=G-1-1) a2 rfl (λi hi=>N.at af) (sb.sub (OB _) af) af λY be a1 aT=>?_)));let#[T1,T2]:=vp a1 aT;simp only[Wt]at T1 T2;let M3:=M2.Cq N (k:=Y) af λi j h1 h2 h3 h4=>Qb (sa i (r-1) (OB _) af af) (T2 j h3 h4);show aS (λg6=>?_) (λg6=>?_)
       .show aS (λg7=>pa #[O,.inl #[_,M3.first L N ‹g7› as,rfl]]) (λg7=>?_);let bb:¬ Y=1:=‹g7›;show aS (λap=>pa #[O,.inl #[_,M3.done L N (.inr ‹ap›),rfl]]) (λap=>?_);let bd:¬ Y=0:=‹ap›;show nq (bE ea ?_);let M4:=M3.iI L af ea λi h1 h2=>OJ (T1 i af);show aS (λU=>pa #[O,.inl #[_,M4.done L N (.inl ‹U›),rfl]]) (λU=>?_);let a0:¬ r-1=0:=‹U›;show aS (λg9=>pa #[O,.inr #[r-1,Y,2,_,0,M4,af,af,L1 am (M.grow M4 af af)]]) (λg9=>pa #[r-1,Y,2,_,0,M4,af,af,L1 am (M.grow M4 af af),O])
       .let bl:¬ G-1-Y>0:=g6;let aB:Y=G-1:=af;subst aB;show nq (bE ea ?_);let M4:=M2.iI L af ea λi h1 h2=>OJ (T1 i af);show aS (λU=>pa #[O,.inl #[_,M4.done L N (.inl ‹U›),rfl]]) (λU=>?_);let a0:¬ r-1=0:=‹U›;show aS (λg9=>pa #[O,.inr #[r-1,G-1,2,_,0,M4,af,af,L1 am (M.grow M4 af af)]]) (λg9=>pa #[r-1,G-1,2,_,0,M4,af,af,L1 am (M.grow M4 af af),O])
      .let bx:¬ J-r>0:=g2;let r0:r=J:=af;subst r0;let M2:=M.mF N af eb λi h1 h2=>R1 i af;show nq (bE eb ?_);show aS (λg5=>pa #[O,.inl #[_,M2.first L N ‹g5› as,rfl]]) (λg5=>?_);let ba:¬ G-1=1:=‹g5›;let#[ta,qa,ea]:=L.at (i:=r-1) af;show nq (bE ea (nq (eK (base:=0) (n:=G-1) (hint:=G-1-1) a2 rfl (λi hi=>N.at af) (sb.sub (OB _) af) af λY be a1 aT=>?_)));let#[T1,T2]:=vp a1 aT;simp only[Wt]at T1 T2;let M3:=M2.Cq N (k:=Y) af λi j h1 h2 h3 h4=>Qb (sa i (r-1) (OB _) af af) (T2 j h3 h4);show aS (λg6=>?_) (λg6=>?_)
       .show aS (λg7=>pa #[O,.inl #[_,M3.first L N ‹g7› as,rfl]]) (λg7=>?_);let bb:¬ Y=1:=‹g7›;show aS (λap=>pa #[O,.inl #[_,M3.done L N (.inr ‹ap›),rfl]]) (λap=>?_);let bd:¬ Y=0:=‹ap›;show nq (bE ea ?_);let M4:=M3.iI L af ea λi h1 h2=>OJ (T1 i af);show aS (λU=>pa #[O,.inl #[_,M4.done L N (.inl ‹U›),rfl]]) (λU=>?_);let a0:¬ r-1=0:=‹U›;show aS (λg9=>pa #[O,.inr #[r-1,Y,2,_,0,M4,af,af,L1 am (M.grow M4 af af)]]) (λg9=>pa #[r-1,Y,2,_,0,M4,af,af,L1 am (M.grow M4 af af),O])
       .let bl:¬ G-1-Y>0:=g6;let aB:Y=G-1:=af;subst aB;show nq (bE ea ?_);let M4:=M2.iI L af ea λi h1 h2=>OJ (T1 i af);show aS (λU=>pa #[O,.inl #[_,M4.done L N (.inl ‹U›),rfl]]) (λU=>?_);let a0:¬ r-1=0:=‹U›;show aS (λg9=>pa #[O,.inr #[r-1,G-1,2,_,0,M4,af,af,L1 am (M.grow M4 af af)]]) (λg9=>pa #[r-1,G-1,2,_,0,M4,af,af,L1 am (M.grow M4 af af),O])
    .rintro c a6 ⟨J,G,ah,a5,ac,bc,rfl,M,la,lb,am,K3⟩;show#[K3,.inr #[J,G,ah,2,0,M,la,lb,am]]
    .show#[J,G,S,2,0,M,la,lb,ti _,K2]
    .rintro c a6 ⟨K3,⟨R,hR,e⟩|⟨J,G,ah,a5,ac,bc,rfl,M,la,lb,am⟩⟩
     .let#[c1,c2]:=c;cases e;show pa #[R,hR,rfl,K3]
     .show nq (zp K3 λa7 O=>?_);show pa #[J,G,ah,0,M,la,lb,af,O]
 .rintro c a4 ⟨J,G,out,mg,rfl,M,la,lb,lo,K1⟩;exfalso;have:=M.sz;omega
 .show#[2,_,0,M0,af,af,ti _,#[1,1]]
 .rintro c a4 ⟨R,hR,e,K1⟩;let#[c1,c2]:=c;cases e;show pa (h R a4 hR K1)
end
def putAll(a:Array G0)(o n:Nat)(l:List G0):Array G0:=(l.zipIdx n).foldl (λa (p,j)=>a.setIfInBounds (o+j) p) a
theorem jR(o:Nat):∀(l:List G0)(n:Nat)(a:Array G0),o+n+l.length<=a.size->∀i,(putAll a o n l)[i]?=if o+n<=i/\i<o+n+l.length then l[i-(o+n)]? else a[i]?
 | [],n,a,_,i=>by
  rw[Xk (by rw[U7];omega)];rfl
 |p::l,n,a,h,i=>by
  rw[K4]at h;change(putAll (a.setIfInBounds (o+n) p) o (n+1) l)[i]?=_;rw[jR o l (n+1) _ (by rw[Array.size_setIfInBounds];omega),K4,Array.getElem?_setIfInBounds];cases c:o+(n+1)<=i/\i<o+(n+1)+l.length
  .rw[Xl c,Xl af,show i-(o+n)=(i-(o+(n+1)))+1 by omega];simp
  .rw[Xk c];cases d:o+n=i
   .rw[Xl d,Xl (Nat.lt_of_add_right_lt h),Xl af, <-d];simp
   .rw[Xk d,Xk af]
theorem uJ{a:Array G0}{o:Nat}{l:List G0}(h:o+l.length<=a.size):(putAll a o 0 l).toList=a.toList.take o++l++a.toList.drop (o+l.length):=by
 apply QJ;intro i;let e:=jR o l 0 a af i;rw[Qn,e,OE];cases G:i<o
 .rw[Xk af,Pm (by rw[Oj];simp;omega),RS];simp[G]
 .rw[Pe (by rw[Oj];omega)];let I:(a.toList.take o).length=o:=(by rw[Oj];simp;omega);rw[I];cases c2:i<o+l.length
  .rw[Xl af,Pm af];rfl
  .rw[Xk af,Pe af,Tq,Qn];congr 1;omega
theorem vO{a:Array G0}{lo hi i:Nat}(h:i<hi-lo)(hs:hi<=a.size):K (a.extract lo hi) i=K a (lo+i):=by
 show V5 ?_;rw[Array.getElem?_extract];rw[Xl af]
theorem pA{a:Array G0}{lo hi:Nat}(hs:hi<=a.size):(a.extract lo hi).size=hi-lo:=by
 rw[Array.size_extract];omega
theorem Dw{a₀ a:Array G0}(N:a.Perm a₀)(k:Ks a₀){lo hi:Nat}(hs:hi<=a.size)(h:lI a lo hi):Up (a.extract lo hi):=by
 show#[λp I=>k.ik p ((Qj.mp N).mem_iff.mp ?_),PK.mpr λi j L O U=>?_]
 .rw[iy]at I;show RY (Sd I)
 .let sz:=pA (a:=a) (lo:=lo) hs;let S:i<(a.extract lo hi).size:=(by rw[<-PV];show L);let R:j<(a.extract lo hi).size:=(by rw[<-PV];show O);let G:=K_eq S;let J:=K_eq R;rw[vO af hs]at G J;let z:=h (lo+i) (lo+j) af af af;rw[G,J]at z;simpa[le]using z
theorem parts{a:Array G0}{lo mid hi:Nat}(h1:lo<=mid)(h2:mid<=hi):a.toList=a.toList.take lo++(seg a lo mid++seg a mid hi)++a.toList.drop hi:=by
 let G:=jH (a:=a) h1;let I:=jH (a:=a) h2;rw[<-OE, <-G, <-I,PR]
theorem yX{a R:Array G0}{lo mid hi:Nat}(h1:lo<=mid)(h2:mid<=hi)(h3:hi<=a.size)(G:Good (a.extract lo mid) (a.extract mid hi) R) :
  R.size=hi-lo/\(putAll a lo 0 R.toList).Perm a/\(∀i,¬ (lo<=i/\i<hi)->(putAll a lo 0 R.toList)[i]?=a[i]?)/\lI (putAll a lo 0 R.toList) lo hi/\∀i,lo<=i->i<hi->∃j,lo<=j/\j<hi/\K (putAll a lo 0 R.toList) i=K a j:=by
 let#[L,g2]:=G;let sz:R.size=hi-lo:=by
  have:=L.length_eq;simp only[wh,PV]at this;rw[pA (L1 h2 h3),pA h3]at this;omega
 let hl:R.toList.length=hi-lo:=(by rw[PV];show sz);let get:=jR lo R.toList 0 a af;let O:∀i,lo<=i->i<hi->∃(h:i-lo<R.size),K (putAll a lo 0 R.toList) i=QB (R[i-lo]).1:=λi ab ah=>by
  let S:i-lo<R.size:=af;show#[S,?_];let e:=get i;rw[Xl af]at e;unfold K;rw[e,Qn,Nat.add_zero,getElem?_pos R (i-lo) S]
 show#[sz,?_,λi hi=>?_,λi j hi ac U=>?_,λi ab ah=>?_]
 .rw[Qj,uJ af]
  conv=>rhs;rw[parts (a:=a) h1 h2]
  rw[hl,show lo+(hi-lo)=hi by omega];show QH _ (QT _ ?_);rw[<-iy, <-iy];show L
 .rw[get i,Xk af]
 .let#[Y,J]:=O i hi (Qh ac U);let#[a2,e2]:=O j (L1 hi ac) U;rw[J,e2];cases z:i=j
  .subst z;show OX _
  .have:=PK.mp g2 (i-lo) (j-lo) ‹Y› ‹a2› af;simpa[le]using this
 .let#[Y,J]:=O i ab ah;let hm:R[i-lo]∈(a.extract lo mid).toList++(a.extract mid hi).toList:=L.mem_iff.mp (by simp);rw[J];rcases oR.mp hm with z|z
  .rw[iy]at z;let#[j,N,I,j3,e]:=m9 z;show#[j,N,Oq I h2,e]
  .rw[iy]at z;let#[j,N,I,j3,e]:=m9 z;show#[j,L1 h1 N,I,e]
structure Io(a₀:Array G0)(st st':ON)(i lo n:Nat)(pw:Nat):Prop where
 S:SI a₀ st'
 out:∀j,¬ (lo<=j/\j<lo+n)->(DD st')[j]?=(DD st)[j]?
 up:lI (DD st') lo (lo+n)
 pend:Om st'=((Om st).setIfInBounds i (lo,n,pw)).eraseIdxIfInBounds (i+1)
section
variable{prog:se}{w:G1}{A:L7}{E:Xp}{s:kz}{a₀:Array G0}
theorem Jl{st x:ON}{Q:PUnit->ON->Prop}(h:Q #[] x):W3 (model prog w) A E s (set x:StateT ON RZ PUnit) Q st:=by
 unfold W3;rw[StateT.run_set];show wpAny_pure #[rfl,h]
theorem CB{st:ON}{i I J pw nb am:Nat}{Q:Bool->ON->Prop}(S:SI a₀ st)(k:Ks a₀)(h1:(Om st)[i]?=some (I,J,pw))(h2:(Om st)[i+1]?=some (I+J,nb,am))(n1:1<=J)(n2:1<=nb)(hsz:I+J+nb<=a₀.size)
  (u1:lI (DD st) I (I+J)) (u2:lI (DD st) (I+J) (I+J+nb)) (h:∀ac,Io a₀ st ac i I (J+nb) pw->Q true ac):W3 (model prog w) A E s (mergeAt' i) Q st:=by
 show nq (Rt ?_);let hs:=S.size;let ka:∀{j:Nat},j<(DD st).size->∃t q,(DD st)[j]?=some (.int (K (DD st) j) t,q):=λY=>we S.perm k Y;rw[h1,h2];show nq (Jl ?_);let#[tb,qb,eb]:=ka (j:=I+J) af;show nq (bE eb (nq (eK (base:=I) (n:=J) (hint:=0) S.kind rfl (λi hi=>ka af) u1 af λr hr r1 r2=>?_)));let#[R1,R2]:=BJ r1 r2;show aS (λg=>?_) (λg=>?_)
 .let g':J-r=0:=‹g›;show pa (h _ #[#[S.perm,S.kind,S.failed],λ_ _=>rfl,λi j hi N Y=>?_,rfl]);change K (DD st) i<=K (DD st) j;cases U:j<I+J
  .show u1 i j hi N U
  .by_cases c2:i<I+J
   .let O:=R1 (i-I) af;rw[show I+(i-I)=i by show RQ hi]at O;show Qb O (u2 (I+J) j (ti _) (OA U) af)
   .show u2 i j (OA c2) N af
 let g':¬ J-r=0:=‹g›;let#[ta,qa,ea]:=ka (j:=I+r+(J-r)-1) af;show nq (bE ea (nq (eK (base:=I+J) (n:=nb) (hint:=nb-1) S.kind rfl (λi hi=>ka af) u2 (Nat.sub_one_lt_of_lt n2) λL as ap ah=>?_)));let#[T1,T2]:=vp ap ah;show aS (λg=>?_) (λg=>?_)
 .let aB:L=0:=‹g›;show pa (h _ #[#[S.perm,S.kind,S.failed],λ_ _=>rfl,λi j hi N Y=>?_,rfl]);change K (DD st) i<=K (DD st) j;cases U:j<I+J
  .show u1 i j hi N U
  .by_cases c2:i<I+J
   .show Qb (u1 i (I+r+(J-r)-1) hi af af) (T2 j af af)
   .show u2 i j (OA c2) N af
 let g2:¬ L=0:=‹g›;let ux:Up ((DD st).extract (I+r) (I+J)):=Dw S.perm k af λi j hi N Y=>u1 i j (Qa hi) N Y;let uy:Up ((DD st).extract (I+J) (I+J+L)):=Dw S.perm k af λi j hi N Y=>u2 i j hi N af;let sx:((DD st).extract (I+r) (I+J)).size=J-r:=(by rw[pA af];show Nat.add_sub_add_left I J r);let sy:((DD st).extract (I+J) (I+J+L)).size=L:=(by rw[pA af];show RC (I+J) L);let x0:K ((DD st).extract (I+J) (I+J+L)) 0<K ((DD st).extract (I+r) (I+J)) 0:=by
  rw[vO af af,vO af af];show R2 (I+r) (ti _) af
 let xl:∀j,j<((DD st).extract (I+J) (I+J+L)).size->K ((DD st).extract (I+J) (I+J+L)) j<K ((DD st).extract (I+r) (I+J)) (((DD st).extract (I+r) (I+J)).size-1):=λj Y=>by
  rw[vO af af,vO af af,sx,show I+r+(J-r-1)=I+r+(J-r)-1 by omega];show T1 j (OZ Y sy)
 show aS (λg=>?_) (λg=>?_)
 .show nq (wJ S.kind ux uy (by rw[sx];show Pn QK g') (by rw[sy];show Pn QK g2) x0 xl λR Xa G KC=>?_);let#[z1,z2,z3,z4,z5]:=yX (a:=DD st) (lo:=I+r) (mid:=I+J) (hi:=I+J+L) (Pn Rn hr) af af G;show nq (QG (nq (Rt (pa ?_))));let hf:Ra Xa=none:=KC.failed.trans S.failed;let hc:DD Xa=DD st:=KC.arr;change Q (Ra Xa).isNone (U8 (kindOf Xa) (putAll (DD Xa) (I+r) 0 R.toList) (Om Xa) (gallopOf Xa) (Ra Xa));rw[hf,hc];show h _ #[#[z2.trans S.perm,KC.kind.trans S.kind,rfl],λj Y=>z3 j af,λi j hi N Y=>?_,KC.pend];change K (putAll (DD st) (I+r) 0 R.toList) i<=K (putAll (DD st) (I+r) 0 R.toList) j;let out:∀i,¬ (I+r<=i/\i<I+J+L)->K (putAll (DD st) (I+r) 0 R.toList) i=K (DD st) i:=λi hi=>V5 (z3 i hi);cases U:i<I+r
  .rw[out i af];let ab:∀j,I+r<=j->j<I+J+nb->K (DD st) i<=K (DD st) j:=λj h1 h2=>by
    cases c:j<I+J
    .show u1 i j hi af c
    .let O:=R1 (i-I) (SN hi U);rw[show I+(i-I)=i by show RQ hi]at O;show Qb O (u2 (I+J) j (ti _) (OA c) h2)
   cases c2:I+r<=j/\j<I+J+L
   .let#[j',q1,q2,e]:=z5 j c2.1 c2.2;rw[e];show ab j' q1 af
   .rw[out j c2];cases c3:j<I+r
    .show u1 i j hi N af
    .show ab j (OA c3) af
  .by_cases c2:i<I+J+L
   .by_cases c3:j<I+J+L
    .show z4 i j (OA U) N c3
    .rw[out j (Pn not_and λa=>c3)];let#[i',q1,q2,e]:=z5 i (OA U) c2;rw[e];cases c4:i'<I+J
     .let O:=T2 j (OA c3) af;show Qb (u1 i' (I+r+(J-r)-1) (Qa q1) af af) O
     .show u2 i' j (OA c4) af af
   .rw[out i (Pn not_and λa=>c2),out j af];show u2 i j af N af
 .show nq (w9 S.kind ux uy (by rw[sx];show Pn QK g') (by rw[sy];show Pn QK g2) x0 xl λR Xa G KC=>?_);let#[z1,z2,z3,z4,z5]:=yX (a:=DD st) (lo:=I+r) (mid:=I+J) (hi:=I+J+L) (Pn Rn hr) af af G;show nq (QG (nq (Rt (pa ?_))));let hf:Ra Xa=none:=KC.failed.trans S.failed;let hc:DD Xa=DD st:=KC.arr;change Q (Ra Xa).isNone (U8 (kindOf Xa) (putAll (DD Xa) (I+r) 0 R.toList) (Om Xa) (gallopOf Xa) (Ra Xa));rw[hf,hc];show h _ #[#[z2.trans S.perm,KC.kind.trans S.kind,rfl],λj Y=>z3 j af,λi j hi N Y=>?_,KC.pend];change K (putAll (DD st) (I+r) 0 R.toList) i<=K (putAll (DD st) (I+r) 0 R.toList) j;let out:∀i,¬ (I+r<=i/\i<I+J+L)->K (putAll (DD st) (I+r) 0 R.toList) i=K (DD st) i:=λi hi=>V5 (z3 i hi);cases U:i<I+r
  .rw[out i af];let ab:∀j,I+r<=j->j<I+J+nb->K (DD st) i<=K (DD st) j:=λj h1 h2=>by
    cases c:j<I+J
    .show u1 i j hi af c
    .let O:=R1 (i-I) (SN hi U);rw[show I+(i-I)=i by show RQ hi]at O;show Qb O (u2 (I+J) j (ti _) (OA c) h2)
   cases c2:I+r<=j/\j<I+J+L
   .let#[j',q1,q2,e]:=z5 j c2.1 c2.2;rw[e];show ab j' q1 af
   .rw[out j c2];cases c3:j<I+r
    .show u1 i j hi N af
    .show ab j (OA c3) af
  .by_cases c2:i<I+J+L
   .by_cases c3:j<I+J+L
    .show z4 i j (OA U) N c3
    .rw[out j (Pn not_and λa=>c3)];let#[i',q1,q2,e]:=z5 i (OA U) c2;rw[e];cases c4:i'<I+J
     .let O:=T2 j (OA c3) af;show Qb (u1 i' (I+r+(J-r)-1) (Qa q1) af af) O
     .show u2 i' j (OA c4) af af
   .rw[out i (Pn not_and λa=>c2),out j af];show u2 i j af N af
end
def Chain(xs:Array G0):Nat->List (Nat×Nat×Nat)->Nat->Prop
 |s,[],e=>s=e
 |s,(t,n,_)::r,e=>t=s/\1<=n/\lI xs s (s+n)/\Chain xs (s+n) r e
theorem Chain.le{xs:Array G0}:∀{s:Nat}{l:List (Nat×Nat×Nat)}{e:Nat},Chain xs s l e->s+l.length<=e
 |s,[],e,h=>Wc h
 |s,(t,n,p)::r,e,⟨_,h2,_,G⟩=>by
  have:=Chain.le G;rw[K4];omega
theorem Chain.app{xs:Array G0}:∀{s:Nat}{l G:List (Nat×Nat×Nat)}{e:Nat},Chain xs s (l++G) e↔∃m,Chain xs s l m/\Chain xs m G e
 |s,[],G,e=>#[λh=>#[s,rfl,h],λ⟨m,h1,h2⟩=>by rw[show s=m from h1];show h2]
 |s,(t,n,p)::r,G,e=>by
  constructor
  .rintro⟨h1,h2,L,N⟩;let#[m,I,J]:=Chain.app.mp N;show#[m,#[h1,h2,L,I],J]
  .rintro⟨m,⟨h1,h2,L,I⟩,J⟩;show#[h1,h2,L,Chain.app.mpr #[m,I,J]]
theorem lI.congr{xs ys:Array G0}{lo hi:Nat}(h:lI xs lo hi)(e:∀i,lo<=i->i<hi->ys[i]?=xs[i]?):lI ys lo hi:=λi j hi G I=>by
 rw[V5 (e i hi (Qh G I)),V5 (e j (L1 hi G) I)];show h i j hi G I
theorem Chain.congr{xs ys:Array G0}:∀{s:Nat}{l:List (Nat×Nat×Nat)}{e:Nat},Chain xs s l e->(∀i,s<=i->i<e->ys[i]?=xs[i]?)->Chain ys s l e
 |s,[],e,h,_=>h
 |s,(t,n,p)::r,e,⟨h1,h2,I,G⟩,q=>by
  have:=Chain.le G;show#[h1,h2,I.congr λi a b=>q i a af,G.congr λi a b=>q i (Qa a) b]
structure RI(a₀:Array G0)(st:ON)(lo:Nat):Prop where
 S:SI a₀ st
 ch:Chain (DD st) 0 (Om st).toList lo
 le:lo<=a₀.size
theorem Il{α:Type}{l:List α}{i:Nat}(h:i+1<l.length):∃G x y I,l=G++x::y::I/\G.length=i:=by
 show#[l.take i,l[i],l[i+1],l.drop (i+2),3]
 .rw[<-Qt af, <-Qt (Te h),PR]
 .rw[Oj];omega
theorem rF{p:Array (Nat×Nat×Nat)}{G I:List (Nat×Nat×Nat)}{x y z:Nat×Nat×Nat}{i:Nat}(h:p.toList=G++x::y::I)(hi:G.length=i):((p.setIfInBounds i z).eraseIdxIfInBounds (i+1)).toList=G++z::I:=by
 let#[l]:=p;subst h;subst hi;simp;rw[List.eraseIdx_append_of_length_le af];simp
theorem FK{c:Bool}{n:Nat}(h:¬ n<=1):(if c=true then n-2-1 else n-2)+1<n:=by
 cases c
 .rw[Xk ar];omega
 .rw[Xl rfl];omega
theorem xK{α G:Type}{l:List α}{i:Nat}{f:α->α}{g:α->G}(h:∀x,g (f x)=g x):(l.modify i f).map g=l.map g:=by
 apply QJ;intro j;rw[t5,t5,List.getElem?_modify];cases l[j]? with
 |none=>rfl
 |some x =>
  cases c:i=j
  .simp[c,h]
  .simp[c]
theorem Chain.same{xs:Array G0}:∀{s:Nat}{l G:List (Nat×Nat×Nat)}{e:Nat},Chain xs s l e->G.map (λx=>(x.1,x.2.1))=l.map (λx=>(x.1,x.2.1))->Chain xs s G e
 |s,[],G,e,h,q=>by
  cases G with
  |nil=>show h
  |cons x r=>cases q
 |s,(t,n,p)::r,G,e,⟨h1,h2,S,R⟩,q=>by
  cases G with
  |nil=>cases q
  |cons x U =>
   let#[t',N,Y]:=x;rw[PM,PM]at q;let#[L,O]:=List.cons.inj q;let#[I,J]:=Th L;let I:t'=t:=I;let J:N=n:=J;subst I;subst J;show#[h1,h2,S,R.same O]
theorem RI.push{a₀:Array G0}{st:ON}{lo n p:Nat}(R:RI a₀ st lo)(G:1<=n)(I:lo+n<=a₀.size)(u:lI (DD st) lo (lo+n)):RI a₀ (setPending st ((Om st).push (lo,n,p))) (lo+n):=by
 show#[#[R.S.perm,R.S.kind,R.S.failed],?_,I];change Chain (DD st) 0 ((Om st).push (lo,n,p)).toList (lo+n);rw[Td];show Chain.app.mpr #[lo,R.ch,rfl,G,u,rfl]
theorem RI.last{a₀:Array G0}{st:ON}{lo:Nat}(R:RI a₀ st lo){f:Nat×Nat×Nat->Nat×Nat×Nat}(G:∀x,((f x).1,(f x).2.1)=(x.1,x.2.1))(i:Nat):RI a₀ (setPending st ((Om st).modify i f)) lo:=by
 show#[#[R.S.perm,R.S.kind,R.S.failed],?_,R.le];change Chain (DD st) 0 ((Om st).modify i f).toList lo;show R.ch.same ?_;rw[Array.toList_modify];show xK G
section
variable{prog:se}{w:G1}{A:L7}{E:Xp}{s:kz}{a₀:Array G0}
theorem j9{st:ON}{lo i:Nat}{Q:Bool->ON->Prop}(R:RI a₀ st lo)(k:Ks a₀)(hi:i+1<(Om st).size)
  (h:∀J,RI a₀ J lo->(∀j,lo<=j->(DD J)[j]?=(DD st)[j]?)->(Om J).size+1=(Om st).size->Q true J):W3 (model prog w) A E s (mergeAt' i) Q st:=by
 let#[l1,x,y,Y,e,N]:=Il (l:=(Om st).toList) (i:=i) ‹hi›;let#[G,I,O]:=x;let#[sb,L,U]:=y;let ch:=R.ch;rw[e]at ch;let#[m,c1,e1,n1,u1,e2,n2,u2,c2]:=Chain.app.mp ch;subst e1;subst e2;let b1:=c1.le;let b2:=c2.le;let ab:=R.le;let g1:(Om st)[i]?=some (G,I,O):=by
  rw[<-Qn,e, <-N];simp
 let g2:(Om st)[i+1]?=some (G+I,L,U):=by
  rw[<-Qn,e, <-N];simp
 show CB R.S k g1 g2 n1 n2 af u1 u2 λJ M=>h J #[M.S,?_,R.le] (λj hj=>M.out j af) ?_
 .rw[M.pend,rF e N];show Chain.app.mpr #[G,c1.congr λj _ hj=>M.out j af,rfl,Uh n1,M.up,?_];rw[show G+(I+L)=G+I+L by omega];show c2.congr λj hj _=>M.out j af
 .let p1:(Om J).toList.length=(l1++(G,I+L,O)::Y).length:=(by rw[M.pend,rF e N]);let p2:(Om st).toList.length=(l1++(G,I,O)::(G+I,L,U)::Y).length:=(by rw[e]);simp only[PV,wh,K4]at p1 p2;omega
theorem z9{st:ON}{Q:Unit->ON->Prop}(k:Ks a₀)(S:SI a₀ st)(hp:Om st = ([].toArray))(h2:2<=a₀.size)(h:∀O,(DD O).Perm a₀->Ra O=none->SortedTo (DD O) a₀.size->Q () O):W3 (model prog w) A E s sortRuns' Q st:=by
 rw[sortRuns'_eq];show nq (Rt ?_);let hsz:=S.size;let a1:(DD st).size=a₀.size:=hsz;dsimp only;rw[hsz];show nq (PN (OP (I:=λx c O=>∃lo,qN (c=(none,lo)) (RI a₀ O lo) (x<=lo)) (Q:=λc O=>c=(none,a₀.size)/\RI a₀ O a₀.size) ?_ ?_ ?_) ?_)
 .rintro x c a3 aB a0 ⟨lo,rfl,R,hx⟩;let ac:=R.le;show aS (λg=>?_) (λg=>?_)
  .let g':a₀.size<=lo:=g;obtain rfl:lo=a₀.size:=af;show pa #[rfl,R]
  let g':¬ a₀.size<=lo:=g;show nq (BM R.S k (lo:=lo) (nrem:=a₀.size-lo) af af λm J C m1 m2 us=>?_);dsimp only;show aS (λgm=>?_) (λgm=>?_)
  .show nq (TC (QZ #[5]));generalize hf:min (a₀.size-lo) (minRun' a₀.size a₀.size 0)=n;show nq (Cg C.S k (lo:=lo) (n:=n) (ok:=m) af m1 af us λab C3 ah=>?_);let Y:RI a₀ ab lo:=#[C3.S,by
    rw[C3.pend,C.pend];show R.ch.congr λi _ hi=>(C3.pre i hi).trans (C.pre i hi),R.le]
   show nq (Rt ?_);cases e:(Om ab).back? with
   |none=>show nq (QG (pa #[lo+n,rfl,Y.push af af ah,af]))
   |some t =>
    let#[s1,n1,p1]:=t;show nq (PN (OP (I:=λy c G=>qN (c=(none,())) (RI a₀ G lo) (∀j,lo<=j->(DD G)[j]?=(DD ab)[j]?)) (Q:=λc G=>qN (c=(none,())) (RI a₀ G lo) (∀j,lo<=j->(DD G)[j]?=(DD ab)[j]?)) ?_ ?_ ?_) ?_)
    .rintro y c G ap as ⟨rfl,L,N⟩;show nq (Rt ?_);cases g:(Om G).size>1
     .rw[Xl g,getElem?_pos (Om G) ((Om G).size-2) af];show aS (λ_=>pa #[rfl,L,N]) (λ_=>?_);show nq (j9 L k af λam R5 o5 _=>pa #[rfl,R5,λj U=>(o5 j U).trans (N j U)])
     .rw[Xk g];show pa #[rfl,L,N]
    .show λc G q=>q
    .show#[rfl,Y,λ_ _=>rfl]
    .rintro c G ⟨rfl,L,N⟩;show nq (QG (nq (QG (pa #[lo+n,5,af]))));show RI.push (L.last (f:=λx=>(x.fst,x.2.fst,power' a₀.size (2*s1+n1) (2*s1+n1+n1+n) a₀.size)) (λx=>rfl) _) af af (ah.congr λi h1 _=>N i h1)
  .let Y:RI a₀ J lo:=#[C.S,by
    rw[C.pend];show R.ch.congr λi _ hi=>C.pre i hi,R.le]
   show nq (Rt ?_);cases e:(Om J).back? with
   |none=>show nq (QG (pa #[lo+m,rfl,Y.push af (Rp (QI ac) m2) us,Wv hx m1]))
   |some t =>
    let#[s1,n1,p1]:=t;show nq (PN (OP (I:=λy c G=>qN (c=(none,())) (RI a₀ G lo) (∀j,lo<=j->(DD G)[j]?=(DD J)[j]?)) (Q:=λc G=>qN (c=(none,())) (RI a₀ G lo) (∀j,lo<=j->(DD G)[j]?=(DD J)[j]?)) ?_ ?_ ?_) ?_)
    .rintro y c G ap as ⟨rfl,L,N⟩;show nq (Rt ?_);cases g:(Om G).size>1
     .rw[Xl g,getElem?_pos (Om G) ((Om G).size-2) af];show aS (λ_=>pa #[rfl,L,N]) (λ_=>?_);show nq (j9 L k af λam R5 o5 _=>pa #[rfl,R5,λj U=>(o5 j U).trans (N j U)])
     .rw[Xk g];show pa #[rfl,L,N]
    .show λc G q=>q
    .show#[rfl,Y,λ_ _=>rfl]
    .rintro c G ⟨rfl,L,N⟩;show nq (QG (nq (QG (pa #[lo+m,5,Wv hx m1]))));show RI.push (L.last (f:=λx=>(x.fst,x.2.fst,power' a₀.size (2*s1+n1) (2*s1+n1+n1+m) a₀.size)) (λx=>rfl) _) af (Rp (QI ac) m2) (us.congr λi h1 _=>N i h1)
 .rintro c O ⟨lo,rfl,R,hx⟩;have:=R.le;obtain rfl:lo=a₀.size:=Nat.le_antisymm this hx;show#[rfl,R]
 .show#[(0),rfl,#[S,by rw[hp];rfl,OB _],ti _]
 .rintro c O ⟨rfl,R⟩;dsimp only;show nq (PN (OP (I:=λx c J=>qN (c=(none,())) (RI a₀ J a₀.size) ((Om J).size+x<=a₀.size)) (Q:=λc J=>qN (c=(none,())) (RI a₀ J a₀.size) ((Om J).size<=1)) ?_ ?_ ?_) ?_)
  .rintro x c J aB a0 ⟨rfl,R2,ac⟩;show nq (Rt ?_);show aS (λg=>pa #[rfl,R2,g]) (λg=>?_);show nq (j9 R2 k ?_ λab Y _ a2=>?_)
   .show FK g
   .show pa #[rfl,Y,af]
  .rintro c J ⟨rfl,R2,ac⟩;show#[rfl,R2,af]
  .show#[rfl,R,?_];have:=R.ch.le;simpa using this
  .rintro c J ⟨rfl,R2,ac⟩;show pa (h J R2.S.perm R2.S.failed ?_);let ch:=R2.ch;cases e:(Om J).toList with
   |nil =>
    rw[e]at ch;have:0=a₀.size:=ch;omega
   |cons x r =>
    let hr:r=[]:=by
     let z:(Om J).toList.length=r.length+1:=(by rw[e];rfl);rw[PV]at z;show OW.mp af
    subst hr;let#[t,n,p]:=x;rw[e]at ch;let#[_,_,u,e2]:=ch;let e3:0+n=a₀.size:=e2;rw[e3]at u;show λi j aT U=>u i j (OB _) aT U
end
theorem JH{vs:Xu}{ns:List Int}(G:RP vs ns)(I:ns.Nodup):Ks (Uk vs):=by
 show#[G.intKeys,?_];let e:((Uk vs).toList.map λp=>QB p.1)=ns:=by
  rw[pairsOf_toList, <-G.nums]
  conv=>rhs;rw[<-VI (l₁:=vs) (l₂:=vs) (ti _)]
  rw[Ql];rfl
 rw[e];show I
section
variable{prog:se}{w:G1}{A:L7}{E:Xp}{s:kz}
theorem AO{a:Addr}{vs:Xu}{ns:List Int}{n:Nat}{P:Fin->kz->Prop}(R:s.heap.get? a=some (seqObj "list" vs.toArray n))(S:RP vs ns)(hn:ns.Nodup)(hz:vs.length<=1000)
  (k:∀(out:Xt)(ns':List Int),RP out.toList ns'->ns'.Perm ns->ns'.Pairwise (· <= ·)->P (.done (.ret .none)) { s with heap:=sortedHeap s.heap a vs out }):wpAny (model prog w) A (Builtin.«list.sort» #[[.ref a],[]]) P E s:=by
 let lz:sizeLine=16777216:=vl;rw[list_sort_plain];let lt:=Heap.lt_size R;show k9 (listItems_at R rfl (k9 (U0 R rfl ?_ (by simp only[qi];omega))));obtain⟨ep,Y⟩:∃ep,(s.heap.update a (Obj.mapSeq λ_ => ([].toArray))).get? a=some (seqObj "list" ([].toArray) ep):=#[_,get?_update_seq R λ_ => ([].toArray)];show k9 (VT Y rfl (k9 (wpAny_newTuple (k9 (wpAny_newList (Py ?_))))));let at2:(((s.heap.update a (Obj.mapSeq λ_ => ([].toArray))).push (seqObj "tuple" vs.toArray 0)).push (seqObj "list" ([].toArray) 0)).get? a=some (seqObj "list" ([].toArray) ep):=by
  let l1:a<((s.heap.update a (Obj.mapSeq λ_ => ([].toArray))).push (seqObj "tuple" vs.toArray 0)).objs.size:=(by rw[size_push',Heap.size_update];show Rq lt);rw[Heap.get?_push_ne _ _ _ (OR l1),Heap.get?_push_ne _ _ _ (by rw[Heap.size_update];show OR lt)];show Y
 let done:∀G:ON,(DD G).Perm (Uk vs)->SortedTo (DD G) (Uk vs).size->P (.done (.ret .none)) { s with heap:=sortedHeap s.heap a vs ((DD G).map (·.2)) }:=λG N O=>by
  let#[ns',w1,w2,w3]:=sorted_out S N O;show k _ ns' w1 w2 w3
 change wpAny (model prog w) A _ P E { s with heap:=((s.heap.update a (Obj.mapSeq λ_ => ([].toArray))).push (seqObj "tuple" vs.toArray 0)).push (seqObj "list" ([].toArray) 0) };dsimp only;cases L:vs.toArray.size<2
 .rw[Xl L,Xl L];show k9 (wpAny_pure ?_);rw[StateT.run_pure];show k9 (wpAny_pure (k9 (VT at2 rfl (k9 (U0 at2 rfl ?_ (OB _) ?_)))))
  .simp only[bne_self_eq_false,PQ,if_false];show wpAny_pure (done (U8 general' (vs.toArray.zip vs.toArray) ([].toArray) 7 none) (VY _) λi j ab hj=>?_);rw[Ul]at hj;rw[qi]at L;rw[show i=j by omega];show OX _
  .change(Array.map (λx:G0=>x.2) (vs.toArray.zip vs.toArray)).size<=sizeLine+1;rw[Ww];change(Uk vs).size<=sizeLine+1;rw[Ul];omega
 .rw[Xk L,Xk L];rw[qi]at L;obtain⟨J,v2,I,rfl⟩:∃J v2 I,vs=J::v2::I:=by
   match vs,L with
   | [],z=>show absurd ar z
   | [_],z=>show absurd (by rw[Po];decide) z
   |J::v2::I,_=>show#[J,v2,I,rfl]
  rw[keyKind_ints S];let sr:=z9 (prog:=prog) (w:=w) (A:=A) (E:=E) (s:={ s with heap:=((s.heap.update a (Obj.mapSeq λ_ => ([].toArray))).push (seqObj "tuple" (J::v2::I).toArray 0)).push (seqObj "list" ([].toArray) 0) }) (JH S hn)
   (st:=U8 Q9 (Uk (J::v2::I)) ([].toArray) 7 none) (Q:=λ_ G=>qN ((DD G).Perm (Uk (J::v2::I))) (Ra G=none) (SortedTo (DD G) (Uk (J::v2::I)).size)) #[VY _,1] rfl (by rw[Ul];show Uy rfl) λG N O U=>#[N,O,U]
  show k9 (wpAny_pure (k9 (OI sr ?_ λ_ _ e=>e)));rintro⟨⟨⟩,G⟩ s' ⟨rfl,N,O,U⟩;dsimp only;show k9 (VT at2 rfl (k9 (U0 at2 rfl ?_ (OB _) ?_)))
  .rw[O];simp only[bne_self_eq_false,PQ,if_false];show wpAny_pure (done G N U)
  .change(Array.map (λx:G0=>x.2) (DD G)).size<=sizeLine+1;rw[Ww,N.size_eq,Ul];omega
theorem xb{l:Addr}{vs:Xu}{ns:List Int}{Q:Xp}(R:s.heap.IsList l vs.toArray)(J:RP vs ns)(L:ns.Nodup)(S:vs.length<=1000)
  (k:∀(out:Xt)(ns':List Int),RP out.toList ns'->ns'.Perm ns->ns'.Pairwise (· <= ·)->Q (.ref (s⁻¹+1)) { s with heap:=sortedAll s.heap vs out }):wpAny (model prog w) A (call (.builtin "sorted") [.ref l]) Q E s:=by
 let U:sizeLine=16777216:=vl;show Calls.call_function_entry kind_sorted plain_sorted entry_sorted (args_sorted1 _) ?_;show k9 (m:=checkCount "sorted" 1 1 _) (wpAny_pure (k9 (collect_list R (k9 (wpAny_newList ?_)) af)));let I:((s.heap.push (seqObj "list" ([].toArray) 0)).update s⁻¹ (Obj.mapSeq (· ++ vs.toArray))).objs.size=s⁻¹+1:=(by rw[Heap.size_update,size_push']);let G:=Heap.get?_push_size ((s.heap.push (seqObj "list" ([].toArray) 0)).update s⁻¹ (Obj.mapSeq (· ++ vs.toArray))) (o:=seqObj "list" vs.toArray 0) rfl;rw[I]at G;change wpAny _ _ _ _ _ { s with heap:=((s.heap.push (seqObj "list" ([].toArray) 0)).update s⁻¹ (Obj.mapSeq (· ++ vs.toArray))).push (seqObj "list" vs.toArray 0) };rw[I];show k9 (Py (RG slot_list_sort #[_,G,rfl] entry_list_sort (AO G J L S λout ns' w1 O N=>#[0,wpAny_pure #[0,k out ns' w1 O N]]) (args_list_sort _)))
variable{T:String}{r d:Addr}{n:Nat}{P:Nat->Value->Prop}{OK:Heap->Prop}
end
end Srt
namespace L2
open PySem PySem.Spec PyProof.Rows
section
variable{X:Cx}
theorem sJ:eJ X (.builtin "sorted") (λxs H Q=>∃(p:Addr)(ns:List Int),xs=[.ref p]/\bw X.K H p (ns.map V.int)/\ns.Nodup/\ns.length<=1000/\∀(l:Addr)(ns':List Int),H l=none->ns'.Perm ns->ns'.Pairwise (· <= ·)->Q (.ref l) (upd H l (.lst (ns'.map V.int)))):=by
 intros xs us Q I r h;let#[p,ns,rfl,O,R,hn,q]:=h;let#[u,rfl,S]:=vals1 r;cases S;let#[its,J,pl,hz]:=I.list O;let L:=intsAre_of J;let Y:=J.length;rw[mu]at Y;show Srt.xb pl.isList L R af λout ns' N G U=>?_;let#[e,he]:=sortedAll_at s.heap its out;let hs:=vl;show#[.ref (s⁻¹+1),_,I.laid (t':=s.toks) (λb o e=>sortedAll_old e) (Sk _) (show bZ X.prog X.w _ _ _ (.lst (ns'.map V.int))from#[by rw[mu,G.length_eq];omega,out.toList,e,lZ N,by simpa using he]),rfl,q _ ns' (I.bK.fresh (Sk _)) G U]
end
end L2
namespace Srt
open PySem PyProof.Rows
theorem uH{prog:se}{w:G1}{A:L7}{I:Addr}{fp wr:List Addr}{G:Array Vd->Array Vd->Prop}{n:Nat}{P:Nat->Value->Prop}{St:Nat->kz->Prop}(W:WalksS prog w A I fp wr G n P St)(m:Nat)(R:Nat->Value->Prop) :
  WalksS prog w A I fp wr G (m+n) (λj v=>(j<m/\R j v)\/(m<=j/\P (j-m) v)) (λi s=>m<=i/\St (i-m) s) where
 sub:=W.sub
 grefl:=W.grefl
 gtrans:=W.gtrans
 frame:=λi s h' tk st J O=>#[st.1,W.frame (i-m) s h' tk st.2 J O]
 item:=λi s Q E hi st h=>W.item (i-m) s Q E (by have:=st.1;omega) st.2 λv s' N L S=>h v s' (.inr #[st.1,N]) #[by have:=st.1;omega,by rw[show i+1-m=i-m+1 by have:=st.1;omega];show L] S
 done:=λs Q E st h=>W.done s Q E (by have:=st.2;rwa [show m+n-m=n by omega]at this) h
 self:=λi s Q E st h=>W.self (i-m) s Q E st.2 h
section
variable{prog:se}{w:G1}{A:L7}{s:kz}{T:String}{r d:Addr}{n:Nat}{P:Nat->Value->Prop}{OK:Heap->Prop}
theorem wy{R:WV->kz->Prop}(Z:PySem.W.KdlSrc prog w T r d n P OK)(hh:A.handled=none)(Y:OK s.heap)(S:Addr)(sr:S≠r)(sd:S≠d)(res:Value)(G:Xt)(c:Nat)(hS:s.heap.get? S=some { cls:=.type "list",data:=.seq G c })(hz:G.size+n<sizeLine)
  (k:∀h' tk O J,(∀b o,b≠S->s.heap.get? b=some o->h'.get? b=some o)->h'.get? S=some { cls:=.type "list",data:=.seq O J }->ItemsOf (λj v=>(j<G.size/\G[j]?=some v)\/(G.size<=j/\P (j-G.size) v)) O (G.size+n)->R (.ok (.ret res)) { s with heap:=h',toks:=tk }) :
  wpAny (model prog w) A.in1 (Builtin.List.listExtendWith (.ref S) (.ref r) res) (λap s'=>match ap with|.done f=>R (.ok f) s' |.again J=>J.quiet=true/\RO (model prog w) A J R s') (λe s'=>R (.error e) s') s:=by
 let nI:S≠s⁻¹:=OR (Heap.lt_size hS);let#[oI,St,as,W,ab]:=Z.iter A.in1 s hh Y;let ah:S∉[s⁻¹,d]:=λz=>by
  rcases BY.mp z with e|z
  .show nI e
  .show sd (nc.mp z)
 let am:∀(h:Heap)(U tk:Nat),St 0 h->(∀b o,b≠S->s.heap.get? b=some o->h.get? b=some o)->h.get? S=some { cls:=.type "list",data:=.seq G U } ->
   RO (model prog w) A (.builtin "list.extend.loop" #[[.ref S,.ref s⁻¹,res],[]]) R { s with heap:=h,toks:=tk }:=by
  intro h U tk q0 N L;let WS:=uH W.toS G.size λj v=>G[j]?=some v;show codeAny_extend_loopS WS (V8 hz) S ah res n G.size _ G U af af #[ti _,by rw[Nat.sub_self];show q0] L #[rfl,λj v e=>.inl #[?_,e]] λs' O J mv e1 e2=>?_
  .show(Q1.mp e).1
  .rw[Moved.eq_with mv];show k s'.heap s'.toks O J (λb o I e=>mv.heap b o (λz=>?_) (N b o I e)) e1 e2;rcases BY.mp z with z|z
   .show I z
   .show Q2 _ (nc.mp z▸Heap.lt_size e)
 unfold Builtin.List.listExtendWith;show k9 (Ud (T:=T) (Z.type s Y) ?_);let ns:Builtin.List.listSameRef (.ref S) (.ref r)=false:=(by simp[Builtin.List.listSameRef,sr]);simp only[ns,Z.notList,Z.notTuple,Bool.or_false,PQ,if_false];show k9 (as _ _ ?_);let S1:=Heap.get?_push_of_some oI hS;show k9 (Py (Z.hint _ _ _ _ (Z.keep _ _ Y λb _ o e=>Heap.get?_push_of_some _ e) ?_));show wpAny_ite_split (λ_=>?_) (λ_=>wpAny_pure #[plainId_quiet SO _,am _ c _ ab (λb o _ e=>Heap.get?_push_of_some _ e) S1]);show k9 (QZ (k9 ?_));change wpAny _ _ (updateSeq S (·.push .none)>>=λ_=>updateSeq S (·.pop)) _ _ _;let N:=RH S1 (·.push Value.none);let L:=RH N (·.pop);let ep:(G.push Value.none).pop=G:=Array.pop_push ..;show k9 (wpAny_updateSeq S1 rfl (wpAny_updateSeq N rfl (wpAny_pure #[plainId_quiet SO _,?_]) ?_ ?_) ?_ ?_)
 .rw[ep]at L;show am _ _ _ (W.frame 0 _ _ ab λb I o e=>?_) (λb o I e=>?_) L
  .let ac:b≠S:=λz=>ah (z▸I);show(Heap.get?_update_other _ _ (qs ac)).trans ((Heap.get?_update_other _ _ (qs ac)).trans e)
  .show(Heap.get?_update_other _ _ (qs I)).trans ((Heap.get?_update_other _ _ (qs I)).trans (Heap.get?_push_of_some _ e))
 .change(G.push Value.none).size<=sizeLine;rw[TF];omega
 .change((G.push Value.none).pop).size<=sizeLine+1;rw[ep];omega
 .omega
 .change(G.push Value.none).size<=sizeLine+1;rw[TF];omega
end
end Srt
namespace L2
open PySem PySem.Spec PyProof.Rows
theorem tN:∀{xs:List V}{vs:Xu},xs.length=vs.length->(∀(j:Nat)(x:V)(v:Value),xs[j]?=some x->vs[j]?=some v->RelV x v)->Vals xs vs
 | [],[],_,_=>.nil
 |x::xs,v::vs,G,h=>.cons (h 0 x v rfl rfl) (tN ‹G› λj a b I J=>h (j+1) a b ‹I› ‹J›)
 | [],_::_,G,_=>by simp at G
 |_::_,[],G,_=>by simp at G
section
variable{X:Cx}
inductive vf(x:V)(vs:List V)(H:Hp)(Q:VK):Prop
 |mk (l:_) (d:_) (xs:_) (kvs:_) (_:x=.ref l) (_:vs=[.ref d]) (_:H l=some (.lst xs)) (_:H d=some (.dK kvs)) (_:xs.length+kvs.length<sizeLine) (_:Q .non (upd H l (.lst (xs++kvs.map λkv=>kV kv.1)))):vf x vs H Q
theorem yg(hc:X.calm=true):EA X "list.extend" vf:=by
 intros x vs v us Q I rx rv h;let#[l,d,xs,kvs,rfl,rfl,O,hD,hz,q]:=h;cases rx;let#[u,rfl,ru]:=rv.one;cases ru;let#[z,its,n,r,hl,e]:=I.lL O;let#[_,hd,vs,U,dd]:=jm I.bK hD;let#[ep,ac]:=dd.dictAt;let ah:=U.length;let Y:l≠d:=λz=>(by rwa[z,hD]at O);show Su (RX Qy.plain PySem.F.entry_list_extend (Qy.check _ _ _ _ _ _ _ _ #[_,e,rfl] (PySem.F.args_list_extend_2 _ _) ?_));change wpAny _ _ (Builtin.List.listExtendWith (.ref l) (.ref d) .none) _ _ s;show Srt.wy (R:=λr s'=>match r with|.ok (.ret v)=>EP X pins σ Q v s' |.ok _=>False|.error e=>X.xe e s') (PySem.W.kdl_dict (knd:=bG X.prog X.w) (kvs:=vs) (ep:=ep) hd) (I.ok.hd hc) ac l Y Y .none its.toArray n e (by rw[qi];omega) λh' tk L c' k1 k2 k3=>#[.non,_,?_,rfl,q];let#[sz,it]:=k3;let sz:L.size=its.length+vs.length:=(by rw[sz,qi]);show I.write (x:=l) (e:=l) (by rw[O];show trivial) (.inl rfl) k1 #[_,k2] (show bZ X.prog X.w _ _ _ (.lst _)from#[?_,L.toList,c',tN ?_ λj x v G hv=>?_,by simpa using k2])
 .rw[wh,mu];omega
 .let al:L.toList.length=L.size:=PV;rw[wh,mu];omega
 .let ab:L[j]?=some v:=(by rw[<-Qn];show hv);rcases it j v ab with⟨S,N⟩|⟨S,N⟩
  .rw[qi]at S;rw[Pm af]at G;let#[b,eb,rb]:=r.get G;have:its[j]?=some v:=‹N›;rwa[this]at eb;show rb
  .rw[qi]at S N;let#[k,y,e1,e2]:=N;rw[Pe af,t5]at G;let J:(vs.map (·.1))[j-its.length]?=some k:=(by rw[t5,e1];rfl);rw[<-U.keys,t5]at J;rw[show j-xs.length=j-its.length by omega]at G;cases e4:kvs[j-its.length]? with
   |none=>rwa[e4]at J
   |some kv =>
    rw[e4]at J G;obtain rfl:kv.1=k:=rn J;obtain rfl:kV kv.1=x:=rn G;show wk e2
def Nn(K:HC):R2:=λx y H Q=>∃p q xs ys,x=.ref p/\y=.ref q/\bP K H p xs/\bP K H q ys/\xs.all d0=true/\ys.all d0=true/\Q (.bl (jZ xs ys)) H
theorem qY:∀{xs ys:List V},((NC (min xs.length ys.length)).all (λj=>mM (xs.getD j .non) (ys.getD j .non))&&xs.length==ys.length)=jZ xs ys:=by
 intro xs ys;cases e:xs.length=ys.length
 .rw[e,Nat.min_self,beq_self_eq_true,Bool.and_true, <-j0 e,e]
 .rw[nY e,beq_eq_false_iff_ne.mpr e,UD]
theorem Bg(hu:X.A.units<QO):mh X (PF .Eq) (Nn X.K):=by
 intros x y v u Q I rx U h;let#[p,q,xs,ys,rfl,rfl,R,S,fx,fy,Y]:=h;cases rx;cases U;let#[its,r,pl,hz]:=I.tuple R;let#[L,N,O,am]:=I.tuple S;let hl:=r.length;let ac:=N.length;show SeqAt.eq_tupleAt (e:=λj=>mM (xs.getD j .non) (ys.getD j .non)) pl O hu (λj h1 h2=>?_) #[.bl (jZ xs ys),H,I,?_,Y]
 .rw[qi]at h1 h2;let J:j<xs.length:=af;let G:j<ys.length:=af;let#[a,ea,ra]:=r.get (i:=j) (x:=xs[j]) (by simp[J]);let#[b,eb,rb]:=N.get (i:=j) (x:=ys[j]) (by simp[G]);let#[_,ab]:=kQ.mp ea;let#[_,ah]:=kQ.mp eb;let g1:xs.getD j .non=xs[j]:=(by simp[J]);let g2:ys.getD j .non=ys[j]:=(by simp[G]);change QC _ _ its.toArray[j] L.toArray[j] (mM (xs.getD j .non) (ys.getD j .non));let a1:its.toArray[j]=a:=‹ab›;let a2:L.toArray[j]=b:=‹ah›;rw[g1,g2,a1,a2];show lV ra rb (OG.mp fx _ (Qd J)) (OG.mp fy _ (Qd G))
 .change Value.bool _=Value.bool _;rw[qi,qi, <-hl, <-ac,qY]
end
def qy(K:HC)(H:Hp):Nat->V->V->Prop
 |0,x,y=>x=y/\d0 x=true
 |n+1,x,y=>(x=y/\d0 x=true)\/∃p q xs ys,x=.ref p/\y=.ref q/\p≠q/\((bw K H p xs/\bw K H q ys)\/(bP K H p xs/\bP K H q ys))/\Paired (qy K H n) xs ys
theorem vQ:∀{x:V},d0 x=true->mM x x=true:=by
 intro x h;cases x<;>first|(simp[mM];done)|show nomatch h
theorem xQ{α G:Type}{F:α->G->Prop}:∀{xs:List α}{ys:List G},Paired F xs ys->xs.length=ys.length
 |_,_,.nil=>rfl
 |_,_,.cons _ t=>by rw[K4,K4,xQ t]
theorem GN{α G:Type}{F:α->G->Prop}:∀{xs:List α}{ys:List G},Paired F xs ys->∀(j:Nat)(x:α)(y:G),xs[j]?=some x->ys[j]?=some y->F x y
 |_,_,.nil,j,_,_,h,_=>by simp at h
 |_,_,.cons r t,0,x,y,h1,h2=>by simp at h1 h2;subst h1;subst h2;show r
 |_,_,.cons r t,j+1,x,y,h1,h2=>GN t j x y ‹h1› ‹h2›
section
variable{X:Cx}{pins:Xo}{σ:St}{H:Hp}{s:kz}
theorem jU{n:Nat}{A:L7}{xs ys:List V}{its G:Xu}(r:Vals xs its)(I:Vals ys G)(O:Paired (qy X.K H n) xs ys)
  (ih:∀{x y:V}{v u:Value},qy X.K H n x y->RelV x v->RelV y u->QC A s v u true) (j:Nat) (h1:j<its.toArray.size) (h2:j<G.toArray.size):QC A s its.toArray[j] G.toArray[j] true:=by
 let hl:=r.length;let ac:=I.length;rw[qi]at h1 h2;let L:j<xs.length:=af;let J:j<ys.length:=af;let#[a,ea,Y]:=r.get (i:=j) (x:=xs[j]) (by simp[L]);let#[b,eb,S]:=I.get (i:=j) (x:=ys[j]) (by simp[J]);let#[_,R]:=kQ.mp ea;let#[_,ab]:=kQ.mp eb;let N:its.toArray[j]=a:=‹R›;let U:G.toArray[j]=b:=‹ab›;rw[N,U];show ih (GN O j _ _ (by simp[L]) (by simp[J])) Y S
theorem yJ(I: ~~~H s):∀(n:Nat){A:L7}{x y:V}{v u:Value},A.units+n<QO->qy X.K H n x y->RelV x v->RelV y u->QC A s v u true
 |0,A,x,y,v,u,_,⟨e,f⟩,L,J=>by
  subst e;let z:=lV (A:=A) (s:=s) L J f f
  rwa [vQ f]at z
 |n+1,A,x,y,v,u,hu,h,L,J=>by
  rcases h with⟨e,f⟩|⟨p,q,xs,ys,rfl,rfl,S,ab,R⟩
  .subst e;let z:=lV (A:=A) (s:=s) L J f f
   rwa [vQ f]at z
  .cases L;cases J;let Y:A.in1.units+n<QO:=(by change A.units+1+n<QO;omega);let U:∀{x y:V}{v u:Value},qy X.K H n x y->RelV x v->RelV y u->QC A.in1 s v u true:=λa b c=>yJ I n Y a b c;let hl:=xQ R;rcases ab with⟨h1,h2⟩|⟨h1,h2⟩
   .let#[its,r,pl,_]:=I.list h1;let#[O,G,N,_]:=I.list h2;let l1:=r.length;let l2:=G.length;let z:=SeqAt.RcAt.lists (A:=A) (s:=s) (e:=λ_=>true) pl.isList N.isList (by rw[qi,qi];omega) af (jU r G R U);let e:((NC its.toArray.size).all λ_=>true)=true:=OG.mpr λ_ _=>rfl;rw[e]at z;show U9 S z
   .let#[its,r,pl,_]:=I.tuple h1;let#[O,G,N,_]:=I.tuple h2;let l1:=r.length;let l2:=G.length;let z:=SeqAt.RcAt.tuples (A:=A) (s:=s) (e:=λ_=>true) pl N af (jU r G R U);let e:((NC (min its.toArray.size O.toArray.size)).all (λ_=>true)&&its.toArray.size==O.toArray.size)=true:=by
     rw[Qe];show#[OG.mpr λ_ _=>rfl,by rw[qi,qi];show beq_iff_eq.mpr af]
    rw[e]at z;show U9 S z
end
end L2
namespace PySem
open PySem.Sem (wp)
section
variable{prog:se}{w:G1}{A:L7}{E:Xp}{h:Heap}{g:Array Vd}{d:Drawn}{t:Nat}{os:OsState}{a:Addr}{its:Xt}{n:Nat}
end
open PyProof.Rows
namespace F
end F
section
variable{prog:se}{w:G1}{K:Type}[DecidableEq K]{knd:KeyKind prog w K}{A:L7}{E:Xp}
end
end PySem
namespace L2
open PySem PySem.Spec PyProof.Rows
section
variable{X:Cx}{scope:SU}{cl:List (Str×Addr)}{t:Str×Str}{caps:List (Str×Nat)}{pins:Xo}{σ:St}{H:Hp}{s:kz}{C:Addr}{fp:List Addr}
variable{elt iter:Ot}{ifs:List Ot}{px pos:QY}{es:List Ot}{kx:Nat}{g:TG}{wi:TI}{tt:TT}{te:TE}
end
theorem HK:OD "zip" = some (.type "zip"):=aq
theorem ur:OD "enumerate" = some (.type "enumerate"):=aq
theorem yq:OD "all" = some (.builtin "all"):=aq
section
variable{X:Cx}{pins:Xo}{σ:St}{H:Hp}{s:kz}{h':Heap}
theorem Inv.kU{t':Nat}{ch:List Addr}(I: ~~~H s)(k:∀b o,b∉ch->s.heap.get? b=some o->h'.get? b=some o)(J:∀b∈ch,gz X pins H b): ~~~H { s with heap:=h',toks:=t' }:=by
 let L:∀b u,H b=some u->b∉ch:=λb u e z=>(by rwa[(J b z).1]at e);show I.step (g':=s.gens) (d':=s.drawn) (ch:=ch) (λb N=>?_) (λb o _ _ G e _=>k b o G e) (λb o _ _ G e _=>#[o.slots,k b o G e]) (λ_ _ _ _ n=>n)
  (λb o G e=>#[o,k b o G e]) (λ_ _ e=>e) (λ_ _ _ e=>e) (λb ps e=>#[([].toArray),by rw[e];simp]) (λm R=>?_) (λb u e=>?_) I.bare
 .let#[_,U,f2,Y,O,f5]:=J b N;show#[Y,U,O,f5]
 .let#[o,es,ep,S,r]:=R;show#[o,es,ep,k _ o (λz=>(J _ z).2.1 rfl) S,r]
 .show(I.bK b u e).iP (λc v G q=>k c v ?_ q) (λ_ q=>q) λ_ _ q=>q;rcases G with z|z
  .rw[z];show L b u e
  .show L c _ z
theorem Inv.wO{D:Addr}{ys:List V}{its:Xu}(I: ~~~H s)(f:gz X pins H D)(e:WL s.heap D its.toArray)(r:Vals ys its)(S:ys.length<=sizeLine) :
  ~~~(upd H D (.tup ys)) s:=by
 let#[J,R,f2,U,N,Y]:=f;let#[L,g,d,tk,os]:=s;show I.step (g':=g) (d':=d) (t':=tk) (h':=L) (ch:=[D]) (λb G=>?_) (λb o _ _ _ e _=>e) (λb o _ _ _ e _=>#[o.slots,e]) (λb o G _ n=>?_) (λb o _ e=>#[o,e]) (λb xs q=>?_) (λb o u q=>?_) (λb ps q=>#[([].toArray),?_]) (λm O=>O) (λb u q=>?_) I.bare
 .let z:b=D:=‹G›;subst z;show#[U,R,N,Y]
 .rw[ai (λz=>G (by simp[z]))];show n
 .rw[ai (au q J)];show q
 .rw[ai (au q J)];show q
 .rw[ai (au q J),q];simp
 .by_cases G:b=D
  .subst G;rwa[ae]at q;show#[S,its,r,e]
  .rw[ai G]at q;show(I.bK b u q).iP (λ_ _ _ z=>z) (λc z=>by rw[ai (au z J)];show z) λc xs z=>by rw[ai (au z J)];show z
end
def JO(K:HC)(I G:Addr):It :=
 #[λi H=>∃xs ys x y,bw K H I xs/\bw K H G ys/\xs[i]?=some x/\ys[i]?=some y,
  λi H v H'=>∃T x y,v=.ref T/\H T=none/\H'=upd H T (.tup [x,y])/\(∀xs,bw K H I xs->xs[i]?=some x)/\∀ys,bw K H G ys->ys[i]?=some y,
  λi H=>∃xs ys,bw K H I xs/\bw K H G ys/\(xs.length<=i\/ys.length<=i)]
def N3(z TI TO G I L J:Addr)(i:Nat)(h:Heap):Prop:=IsZip h z TI TO .none/\IsPair h TI (.ref G) (.ref I)/\(∃a b,IsPair h TO a b)/\h.IsListIter G L i/\h.IsListIter I J i
theorem wG:2<=sizeLine:=by rw[vl];decide
theorem CY{P:se}{w:G1}{K:HC}{es:List Ot}{kx:Nat}{px:QY}{z TI TO O N l1 l2:Addr}(D:ZipApart z TI TO O N l1 l2):Turn P w K (.Tuple es kx px) (JO K l1 l2) [z,TI,TO,O,N] z (N3 z TI TO O N l1 l2) where
 mem:=by simp
 obj:=by
  rintro i h ⟨S,J,⟨a,b',L⟩,h1,h2⟩ b G;simp only[BY,DO,or_false]at G;rcases G with rfl|rfl|rfl|rfl|rfl
  .show#[_,S,λv q=>by cases(show RT _=RE v from q)]
  .show#[_,J,λv q=>by cases(show Wl _ _=RE v from q)]
  .show#[_,L,λv q=>by cases(show Wl _ _=RE v from q)]
  .let#[o,e,c,d]:=h1;show#[o,e,λv q=>by rwa[d]at q]
  .let#[o,e,c,d]:=h2;show#[o,e,λv q=>by rwa[d]at q]
 keep:=λi h h' ⟨S,J,⟨a,b,L⟩,h1,h2⟩ k=>#[k z (by simp) _ S,k TI (by simp) _ J,#[a,b,k TO (by simp) _ L],h1.at λo e=>k O (by simp) o e,h2.at λo e=>k N (by simp) o e]
 item:=by
  intro X hP hw hK hc i pins s σ H E I Y st hg;subst hP hw hK;let#[S,J,#[a,b,L],h1,h2]:=st;let#[xs,ys,x,y,q1,q2,e1,e2]:=hg;let#[a4,ab,p1,_]:=I.list q1;let#[am,ah,p2,_]:=I.list q2;let#[u1,a0,aB]:=ab.get e1;let#[u2,a6,ap]:=ah.get e2;let f4:∀b∈[z,TO,O,N],gz X pins H b:=λb G=>Y b (by simp only[BY,DO,or_false]at G ⊢;rcases G with h|h|h|h<;>simp[h]);show wpAny_pyNext_zip_item D S J L h1 h2 p1.isList p2.isList (x:=u1) (y:=u2) ‹a0› ‹a6› λh' z' as a1 a2 pT sz kk=>?_;let I1: ~~~H { s with heap:=h' }:=I.kU (t':=s.toks) (ch:=[z,TO,O,N]) (λb o G e=>kk b o (λq=>G (by simp[q])) (λq=>G (by simp[q])) (λq=>G (by simp[q])) (λq=>G (by simp[q])) e) f4;show#[0,wpAny_letOwnedTupleGo_zip z' λU z2 R=>?_];replace R:Heap.SameBut z h' U:=R;let I2: ~~~H { s with heap:=U }:=I1.kU (s:={ s with heap:=h' }) (h':=U) (t':=s.toks) (ch:=[z]) (λb o G e=>(R.2 b (λq=>G (by simp[q]))).trans e) λb G=>Y b (by simp only[nc]at G;simp[G]);let fT:gz X pins H s⁻¹:=I.kT (ti _) (I.bK.fresh (ti _));let nz:s⁻¹≠z:=Vj (Heap.lt_size S);let a3:IsPair U s⁻¹ u1 u2:=R.extBut _ _ nz pT;let I3: ~~~(upd H s⁻¹ (.tup [x,y])) { s with heap:=U }:=I2.wO (its:=[u1,u2]) fT #[_,a3,rfl,0] (.cons aB (.cons ap .nil)) wG;show#[.ref s⁻¹,_,I3,rfl,#[_,x,y,rfl,fT.1,rfl,λzs ac=>by rw[I.ky ac q1];show e1,λzs ac=>by rw[I.ky ac q2];show e2],#[z2,R.extBut _ _ D.TIz (kk _ _ D.TIz D.TITO D.TIi1 D.TIi2 J),#[2,R.extBut _ _ D.TOz as],a1.extBut R.extBut D.i1z,a2.extBut R.extBut D.i2z],λb G=>?_];let nb:b≠s⁻¹:=by
   intro q;simp only[BY,DO,or_false]at G;let#[o1,g1,_]:=h1;let#[o2,g2,_]:=h2;rcases G with e|e|e|e|e<;>rw[e]at q
   .show nz q.symm
   .show OR (Heap.lt_size J) q
   .show OR (Heap.lt_size L) q
   .show OR (Heap.lt_size g1) q
   .show OR (Heap.lt_size g2) q
  rw[ai nb];show(Y b G).1
 done:=by
  intro X hP hw hK hc i pins s σ H E I Y st hg;subst hP hw hK;let#[S,J,#[a,b,L],h1,h2]:=st;let#[xs,ys,q1,q2,e]:=hg;let#[a4,ab,p1,_]:=I.list q1;let#[am,ah,p2,_]:=I.list q2;let a5:=ab.length;let aT:=ah.length;let f4:∀b∈[z,TO,O,N],gz X pins H b:=λb G=>Y b (by simp only[BY,DO,or_false]at G ⊢;rcases G with h|h|h|h<;>simp[h]);show wpAny_pyNext_zip_end (I.ok.hd hc) D S J L h1 h2 p1.isList p2.isList (e.elim (λe=>.inl (by simp;show le_of_eq_of_le (id (Qz a5)) e)) λe=>.inr (by simp;show le_of_eq_of_le (id (Qz aT)) e)) λh' kk=>#[rfl,I.kU (t':=s.toks) (ch:=[z,TO,O,N]) (λb o G e=>kk b o (λq=>G (by simp[q])) (λq=>G (by simp[q])) (λq=>G (by simp[q])) (λq=>G (by simp[q])) e) f4]
 self:=λ_ _ _ _ _ st h=>VJ st.1 h
section
variable{X:Cx}
def LZ(K:HC)(ta:TA):TI:=λσ H R=>ta σ H λvs H1=>FH λI G=>Ju (vs=[.ref I,.ref G]) ((∃xs,bw K H1 I xs)) ((∃ys,bw K H1 G ys)) (R (JO K I G) H1)
theorem HV{es:List Ot}{kx:Nat}{px:QY}{a b:Ot}{ta:TA}{p pos:QY}(hg:Gl X "zip")(hm:X.mg "zip" = none)(ha:PA X [a,b] ta)(hs:starEach [a,b] X.env=[(false,eval a X.env),(false,eval b X.env)]:=by rfl)(Y:starEach [b] X.env=[(false,eval b X.env)]:=by rfl) :
  PI X (.Tuple es kx px) (.Call (.Name "zip" p) [a,b] [] pos) (LZ X.K ta):=by
 intros R I h;show Call_ (jk I hg hm HK (Pf (bW (ha pos pins s σ H _ I h) λus G ⟨vs,H1,J,r1,q1⟩=>?_) (by rw[hs,Y]) (by rw[Y];rfl)));let#[S,O,rfl,#[xs,g1],#[ys,g2],q]:=q1;let#[u1,u2,rfl,e1,e2]:=vals2 r1;obtain rfl:u1=Value.ref S:=e1;obtain rfl:u2=Value.ref O:=e2;let#[aT,a0,L,_]:=J.list g1;let#[aB,a1,p2,_]:=J.list g2;let ah:S<G⁻¹:=let ⟨_,e,_⟩:=L.isList;Heap.lt_size e;let as:O<G⁻¹:=let ⟨_,e,_⟩:=p2.isList;Heap.lt_size e;show call_zip_2 L.isList p2.isList λh' U ab ac ap am hsz hk=>?_;show VJ U ?_;show#[G⁻¹+4,[G⁻¹+4,G⁻¹+2,G⁻¹+3,G⁻¹,G⁻¹+1],2,H1,rfl,J.kept (t':=G.toks) hk,CY (zipApart_new ah as),#[U,ab,#[2,ac],ap,am],λb N=>?_,q];let le:G⁻¹<=b:=by
  simp only[BY,DO,or_false]at N;rcases N with e|e|e|e|e<;>rw[e]<;>first|show ti _|show VL _ _
 show J.kT le (J.bK.fresh le)
def J5(K:HC)(l:Addr):It :=
 #[λi H=>∃xs x,bw K H l xs/\xs[i]?=some x,
  λi H v H'=>∃T x,v=.ref T/\H T=none/\H'=upd H T (.tup [.int i,x])/\∀xs,bw K H l xs->xs[i]?=some x,
  λi H=>∃xs,bw K H l xs/\xs.length<=i]
def N5(e it l:Addr)(i:Nat)(h:Heap):Prop:=(∃G,IsEnum h e it i G)/\h.IsListIter it l i
theorem zM{P:se}{w:G1}{K:HC}{es:List Ot}{kx:Nat}{px:QY}{e it l:Addr}(D:e≠it):Turn P w K (.Tuple es kx px) (J5 K l) [e,it] e (N5 e it l) where
 mem:=by simp
 obj:=by
  rintro i h ⟨⟨S,J⟩,h1⟩ b G;simp only[BY,DO,or_false]at G;rcases G with rfl|rfl
  .show#[_,J,λv q=>by cases(show RT _=RE v from q)]
  .let#[o,e,c,d]:=h1;show#[o,e,λv q=>by rwa[d]at q]
 keep:=λi h h' ⟨⟨S,J⟩,h1⟩ k=>#[#[S,k e (by simp) _ J],h1.at λo q=>k it (by simp) o q]
 item:=by
  intro X hP Y hK hc i pins s σ H E I L st hg;subst hP Y hK;let#[#[S,J],h1]:=st;let#[xs,x,U,R]:=hg;let#[ap,ab,p1,_]:=I.list U;let#[u1,ah,ac]:=ab.get R;show wpAny_pyNext_enum_item J h1 p1.isList (x:=u1) ‹ah› D λh' eo a1 pT sz kk=>?_;let I1: ~~~H { s with heap:=h',toks:=s.toks+1 }:=I.kU (t':=s.toks+1) (ch:=[e,it]) (λb o G q=>kk b o (λz=>G (by simp[z])) (λz=>G (by simp[z])) q) L;show#[0,wpAny_letOwnedTupleGo_enum eo λO e2 N=>?_];replace N:Heap.SameBut e h' O:=N;let I2: ~~~H { s with heap:=O,toks:=s.toks+1 }:=I1.kU (s:={ s with heap:=h',toks:=s.toks+1 }) (h':=O) (t':=s.toks+1) (ch:=[e]) (λb o G q=>(N.2 b (λz=>G (by simp[z]))).trans q) λb G=>L b (by simp only[nc]at G;simp[G]);let fT:gz X pins H s⁻¹:=I.kT (ti _) (I.bK.fresh (ti _));let ne:s⁻¹≠e:=Vj (Heap.lt_size J);let am:=N.extBut _ _ ne pT;let I3: ~~~(upd H s⁻¹ (.tup [.int i,x])) { s with heap:=O,toks:=s.toks+1 }:=I2.wO (its:=[.int i s.toks,u1]) fT #[_,am,rfl,0] (.cons #[0] (.cons ac .nil)) wG;show#[.ref s⁻¹,_,I3,rfl,#[_,x,rfl,fT.1,rfl,λzs aB=>by rw[I.ky aB U];show R],#[#[u1,?_],a1.extBut N.extBut (qs D)],λb G=>?_]
  .let ec:((i+1:Nat):Int)=(i:Int)+1:=(by push_cast;rfl);rw[ec];show e2
  .let nb:b≠s⁻¹:=by
    intro q;simp only[BY,DO,or_false]at G;let#[o1,g1,_]:=h1;rcases G with z|z<;>rw[z]at q
    .show ne q.symm
    .show OR (Heap.lt_size g1) q
   rw[ai nb];show(L b G).1
 done:=by
  intro X hP Y hK hc i pins s σ H E I L st hg;subst hP Y hK;let#[#[S,J],h1]:=st;let#[xs,U,R]:=hg;let#[ap,ab,p1,_]:=I.list U;let as:=ab.length;let#[f0,f1,f2,f3,f4,f5]:=L it (by simp);show wpAny_pyNext_enum_end (I.ok.hd hc) J h1 p1.isList (by simp;show le_of_eq_of_le (id (Qz as)) R) λh' eb=>#[rfl,I.turned (t':=s.toks) (λb o G q=>eb b o G q) f0 f1 f3 f4 f5]
 self:=λ_ _ _ _ _ st h=>let ⟨⟨_,J⟩,_⟩:=st;Vy J h
def K0(K:HC)(ta:TA):TI:=λσ H R=>ta σ H λvs H1=>∃l,vs=[.ref l]/\(∃xs,bw K H1 l xs)/\R (J5 K l) H1
theorem Fn{es:List Ot}{kx:Nat}{px:QY}{a:Ot}{ta:TA}{p pos:QY}(hg:Gl X "enumerate")(hm:X.mg "enumerate" = none)(Y:PA X [a] ta)(hs:starEach [a] X.env=[(false,eval a X.env)]:=by rfl) :
  PI X (.Tuple es kx px) (.Call (.Name "enumerate" p) [a] [] pos) (K0 X.K ta):=by
 intros R I h;show Call_ (jk I hg hm ur (Pf (bW (Y pos pins s σ H _ I h) λus G ab=>?_) hs rfl));let#[vs,H1,J,O,q1]:=ab;let#[l,rfl,#[xs,g1],q]:=q1;let#[U,rfl,S]:=vals1 O;obtain rfl:U=Value.ref l:=S;let#[ac,ah,p1,_]:=J.list g1;show call_enumerate_list p1.isList λh' N hi hsz hk=>?_;show Vy N ?_;show#[G⁻¹+1,[G⁻¹+1,G⁻¹],2,H1,rfl,J.kept (t':=G.toks) hk,zM (l:=l) (Nat.succ_ne_self _),#[#[_,N],hi],λb L=>?_,q];let le:G⁻¹<=b:=by
  simp only[BY,DO,or_false]at L;rcases L with e|e<;>rw[e]<;>first|show ti _|show VL _ _
 show J.kT le (J.bK.fresh le)
theorem ue:∀{bs:List Bool}{its:Xu},Vals (bs.map V.bl) its->its=bs.map Value.bool
 | [],_,.nil=>rfl
 |b::bs,_,.cons r t=>by rw[ue t,show _=Value.bool b from r];rfl
theorem ml(hc:X.calm=true):eJ X (.builtin "all") (λxs H Q=>∃(l:Addr)(bs:List Bool),xs=[.ref l]/\bw X.K H l (bs.map V.bl)/\Q (.bl (bs.all id)) H):=by
 intros xs us Q I r h;let#[l,bs,rfl,hl,q]:=h;let#[u,rfl,ru]:=vals1 r;obtain rfl:u=Value.ref l:=ru;let#[its,rv,p,_]:=I.list hl;let R:=ue rv;subst R;let J:=p.isList;let U:l<s⁻¹:=let ⟨_,e,_⟩:=J;Heap.lt_size e;show call_all_walk (S6 J ?_);show#[s⁻¹,[s⁻¹,l],[s⁻¹],(bs.map Value.bool).toArray.size,2,λi=>(bs[i]?).getD true,rfl,Xj (A:=X.A.in1) (I.ok.hd hc) _ l (OR U) (bs.map Value.bool).toArray,
  #[#[_,Heap.get?_push_size _ rfl,1],J.push _],λi v s' Q' E' Y N=>?_,λh' tk O=>?_]
 .let ab:(bs.map Value.bool).toArray[i]?=some v:=Y;let G:(bs.map Value.bool)[i]?=some v:=‹ab›;rw[t5]at G;cases L:bs[i]? with
  |none=>rwa[L]at G
  |some b =>
   rw[L]at G;let S:Value.bool b=v:=rn G;subst S;simp only[L,VM]at N;show Pz N
 .let e:((NC (bs.map Value.bool).toArray.size).all λi=>(bs[i]?).getD true)=bs.all id:=by
   rw[qi,mu];show LSm.range_all bs
  rw[e];show#[.bl _,H,I.kept (WJ O),rfl,q]
end
theorem Bw{K:HC}{a:Addr}{xs:List V}{g:TG}{tb:TS}{D:Ends}{σ:St}{H:Hp}(Pv:Nat->St->Hp->Prop)(U:Pv 0 σ H)(Y:∀i σ H,i<=xs.length->Pv i σ H->bw K H a xs)
  (hs:∀i x σ H T,xs[i]?=some x->H T=none->Pv i σ H->g (.ref T) σ (upd H T (.tup [.int i,x])) λL H2=>tb { D with nx:=Pv (i+1),ct:=Pv (i+1),bk:=D.nx } L H2) (hd:∀σ H,Pv xs.length σ H->D.nx σ H) :
  ∃W:Nat->Nat->St->Hp->Prop,(∃m,W 0 m σ H)/\∀i m σ H,W i m σ H ->
   ((J5 K a).stop i H/\D.nx σ H)\/((J5 K a).go i H/\∃N:St->Hp->Prop,(∀I H',N I H'->∃O,O<m/\W (i+1) O I H')/\∀x H',(J5 K a).En i H x H'->g x σ H' λL H2=>tb { D with nx:=N,ct:=N,bk:=D.nx } L H2):=by
 show#[λi m σ H=>m=xs.length-i/\i<=xs.length/\Pv i σ H,#[xs.length,by simp,OB _,U],?_];rintro i m σ H ⟨rfl,hi,p⟩;let J:=Y i σ H hi p;cases G:i<xs.length
 .show .inr #[#[xs,xs[i],J,by simp[G]],Pv (i+1),λI H' p'=>#[xs.length-(i+1),OU (PZ xs) i G,rfl,G,p'],?_];rintro v H' ⟨T,x,rfl,R,rfl,S⟩;show hs i x σ H T (S xs J) R p
 .let e:i=xs.length:=af;subst e;show .inl #[#[xs,J,ti _],hd σ H p]
section
variable{X:Cx}
inductive za(H₀:Hp)(t:TE)(Q:VK)(v:V)(H':Hp):Prop
 |mk(a:_)(o:_)(kvs:_)(_:H' a=some (.cW o (.dK kvs)))(_:(∀o u',H₀ a≠some (.cW o u')))(_:Q v (upd H' a (.dK kvs)))
def Ip(H₀:Hp)(t:TE):TE:=λσ H Q=>t σ H λv H'=>za H₀ t Q v H'
theorem yU{e:Ot}{t:TE}(h:PE X e t):PE X e (Ip X.H₀ t):=by
 intros Q I q;show bW (h pins s σ H _ I q) λu R G=>?_;let#[v,H',N,r,a,o,kvs,O,J,L]:=G;show#[v,_,N.HX O J,r,L]
end
theorem pB:entryFor table "dict_itemiterator.__iter__" = some Builtin.«dict_keyiterator.__iter__» :=
 entryFor_alias (id' := "dict_keyiterator.__iter__") (by kernel_rfl) (by first|rfl|decide +kernel|(unfold String.splitOn;simp +decide [String.splitOnAux])) aq (by kernel_rfl)
theorem iO{prog:se}{w:G1}{A:L7}{E:Xp}{s:kz}{it d:Addr}{i n ep:Nat}{ok ov:Value}{Q:Xp}(I:IsItemIter s.heap it d i n ep ok ov)(h:Q (.ref it) s):wpAny (model prog w) A (pyIter (.ref it)) Q E s:=by
 let G:s.TypeIs (.ref it) "dict_itemiterator" := #[_,I,rfl];show wpAny_pyIter_slot G Rb (RG Rb G pB ?_ (PySem.F.args_dict_itemiterator_iter_1 _));change wpAny _ _ (ret (.ref it)) _ _ s;show wpAny_pure #[0,"dict_itemiterator",_,G,PySem.F.slot_dict_itemiterator_next.lookup,h]
def Jz(a:Addr)(o:Obj)(kvs:List (Key×V)):It :=
 #[λi H=>H a=some (.cW o (.dK kvs))/\i<kvs.length,λi H x H'=>∃T k v,x=.ref T/\H T=none/\kvs[i]?=some (k,v)/\H'=upd H T (.tup [kV k,v]),λi H=>H a=some (.cW o (.dK kvs))/\kvs.length<=i]
theorem Di:∀{kvs:List (Key×V)}{vs:List (Key×Value)},Paired (λ(p:Key×V)(q:Key×Value)=>p.1=q.1/\RelV p.2 q.2) kvs vs->∀{i:Nat},i<kvs.length->∃k v x,kvs[i]?=some (k,v)/\vs[i]?=some (k,x)/\RelV v x
 |_,_,.nil,_,h=>by simp at h
 |p::_,I::_,.cons q _,0,_=>#[p.1,p.2,I.2,rfl,by rw[q.1];rfl,q.2]
 |_::_,_::_,.cons _ t,i+1,h=>by
  let#[k,v,x,L,J,G]:=Di t (i:=i) ‹h›;show#[k,v,x,by simpa using L,by simpa using J,G]
theorem Gs{kvs:List (Key×V)}{vs:List (Key×Value)}(r:KV kvs vs){i:Nat}(hi:i<kvs.length):∃k v x,kvs[i]?=some (k,v)/\vs[i]?=some (k,x)/\RelV v x:=Di r hi
theorem xG{P:se}{w:G1}{K:HC}{es:List Ot}{kx:Nat}{px:QY}(a it:Addr)(aB:a≠it)(o:Obj)(kvs:List (Key×V)):Turn P w K (.Tuple es kx px) (Jz a o kvs) [it] it (λi h=>∃ok ov,IsItemIter h it a i kvs.length (AU o) ok ov) where
 mem:=by simp
 obj:=λi h st b G=>by
  let e:b=it:=‹G›;subst e;let#[ok,ov,st]:=st;show#[_,st,λv q=>by cases(show RT _=RE v from q)]
 keep:=λi h h' st k=>let ⟨ok,ov,st⟩:=st;#[ok,ov,k it (by simp) _ st]
 item:=by
  intro X hP hw hK hc i pins s σ H E I R st hg;subst hP hw hK;let#[ac,ah]:=hg;let#[Y,J,f2,U,N,L]:=R it (by simp);let#[hd,vs,r,da]:=lY I.bK ac;let ab:=r.length;let#[k,v,x,e1,e2,e3]:=Gs r ah;let#[ok,ov,st]:=st;rw[ab]at st ⊢;show wpAny_pyNext_items_item st da e2 λas h' am ho hT hsz hk=>?_;let I1: ~~~H { s with heap:=h',toks:=s.toks }:=I.turned (λb o G e=>hk b o G e) Y J U N L;show#[0,wpAny_letOwnedTupleGo_items ho λO e4 S=>?_];replace S:Heap.SameBut it h' O:=S;let I2: ~~~H { s with heap:=O,toks:=s.toks }:=I1.turned (s:={ s with heap:=h',toks:=s.toks }) (h':=O) (t':=s.toks) (λb o G e=>(S.2 b G).trans e) Y J U N L;let fT:gz X pins H s⁻¹:=I.kT (ti _) (I.bK.fresh (ti _));let ne:s⁻¹≠it:=Vj (Heap.lt_size st);let ap:=S.extBut _ _ ne hT;let I3: ~~~(upd H s⁻¹ (.tup [kV k,v])) { s with heap:=O,toks:=s.toks }:=I2.wO (its:=[as,x]) fT #[_,ap,rfl,0] (.cons (wk am) (.cons e3 .nil)) wG;show#[.ref s⁻¹,_,I3,rfl,#[_,k,v,rfl,fT.1,e1,rfl],#[2,e4],λb G=>?_];let nb:b≠s⁻¹:=λq=>ne (by rw[<-q];simpa using G);rw[ai nb];show(R b G).1
 done:=by
  intro X hP hw hK hc i pins s σ H E I R st hg;subst hP hw hK;let#[ac,ah]:=hg;let#[Y,J,f2,U,N,L]:=R it (by simp);let#[hd,vs,r,da]:=lY I.bK ac;let ab:=r.length;let#[ok,ov,st]:=st;rw[ab]at st;show wpAny_pyNext_items_end (I.ok.hd hc) st da (by simp;omega) λh' eb=>#[rfl,I.turned (t':=s.toks) (λb o G e=>eb b o G e) Y J U N L]
 self:=λ_ _ _ _ _ st h=>by
  let#[ok,ov,st]:=st;show iO st h
section
variable{X:Cx}
def HR(H₀:Hp)(td:TE):TI:=λσ H R=>td σ H λx H1=>FH λa kvs=>Ju (x=.ref a) (H1 a=some (.dK kvs)) ((∀o G,H₀ a≠some (.cW o G))) (∀o,R (Jz a o kvs) (upd H1 a (.cW o (.dK kvs))))
theorem vP{es:List Ot}{kx:Nat}{px:QY}{o:Ot}{apos cpos:QY}{td:TE}(ho:PE X o td)(ac:QR o "items" X.env (eval o X.env)=eval o X.env:=by rfl)(as:(apos.endLine==cpos.line)=true:=by rfl):PI X (.Tuple es kx px) (.Call (.Attribute o "items" apos) [] [] cpos) (HR X.H₀ td):=by
 intros R I h;show TH ac as (bW (ho pins s σ H _ I h) λu G ap=>?_);let#[x,H1,N,rx,a,kvs,ex,J,U,q]:=ap;subst ex;obtain rfl:u=Value.ref a:=rx;let#[t1,t2,hd]:=lF N (.inl #[kvs,.inl J]);let#[_,_,vs,aT,dd]:=jm N.bK J;show#["dict","dict.items",QP,TK,PySem.F.type_dict_items,t1,t2,Calls.callWith_builtin rfl (UU ?_)];show QF TK dd.typeIs PySem.F.entry_dict_items (PySem.F.args_dict_items_1 _) (meets_dict_items (bG X.prog X.w) a hd) #[#[vs,dd],?_];let nw:=Heap.get?_push_size G.heap (o:={ cls:=.type "dict_items",data:=.fields ([.ref a].toArray) }) rfl;let S: ~~~H1 { G with heap:=G.heap.push { cls:=.type "dict_items",data:=.fields ([.ref a].toArray) },toks:=G.toks }:=N.kept λb o e=>Heap.get?_push_of_some _ e;let#[_,aB,ab,ah,xq]:=jm S.bK J;let#[ob,am,ep,L,g2,g3,g4]:=id xq;let O:=S.freeze J L U;let lt:a<(G.heap.push { cls:=.type "dict_items",data:=.fields ([.ref a].toArray) }).objs.size:=Heap.lt_size L;let Y:(G.heap.push { cls:=.type "dict_items",data:=.fields ([.ref a].toArray) }).DictAt (bG X.prog X.w) a ab (AU ob):=#[ob,am,L,g2,by unfold AU;rw[g3],g4];show wpAny_pyIter_items #[_,nw,1] Y ?_;show#[(G.heap.push { cls:=.type "dict_items",data:=.fields ([.ref a].toArray) }).objs.size,[(G.heap.push { cls:=.type "dict_items",data:=.fields ([.ref a].toArray) }).objs.size],_,Jz a ob kvs,0,O.kept (t':=G.toks) λb o e=>Heap.get?_push_of_some _ e,xG a _ (OR lt) ob kvs,#[.none,.none,?_],λb hb=>?_,q ob]
 .rw[ah.length];show Heap.get?_push_size _ rfl
 .let e:b=(G.heap.push { cls:=.type "dict_items",data:=.fields ([.ref a].toArray) }).objs.size:=‹hb›;subst e;show O.kT (ti _) (O.bK.fresh (ti _))
end
def Lx(a:Addr)(o:Obj)(kvs:List (Key×V)):It :=
 #[λi H=>H a=some (.cW o (.dK kvs))/\i<kvs.length,λi H x H'=>H'=H/\∃k,kvs[i]?=some (k,x),λi H=>H a=some (.cW o (.dK kvs))/\kvs.length<=i]
theorem zB{P:se}{w:G1}{K:HC}{tg:Ot}(a it:Addr)(ap:a≠it)(o:Obj)(kvs:List (Key×V)):Turn P w K tg (Lx a o kvs) [it] it (λi h=>h.IsValIter it a i kvs.length (AU o)) where
 mem:=by simp
 obj:=λi h st b G=>by
  let e:b=it:=‹G›;subst e;let#[ob,h1,_,J]:=st;show#[ob,h1,λv z=>by rwa[J]at z]
 keep:=λi h h' ⟨ob,h1,h2,J⟩ k=>#[ob,k it (by simp) _ h1,h2,J]
 item:=by
  intro X U N S hc i pins s σ H E I L st hg;subst U N S;let#[ab,ac]:=hg;let#[f0,Y,f2,f3,f4,f5]:=L it (by simp);let#[hd,vs,r,O]:=lY I.bK ab;let R:=r.length;let#[k,v,x,e1,e2,e3]:=Gs r ac;rw[R]at st ⊢;show wpAny_pyNext_values_item st O e2 λh' ah am=>?_;let I1: ~~~H { s with heap:=h',toks:=s.toks }:=I.turned (λb o G e=>(am.2 b G).trans e) f0 Y f3 f4 f5;let#[ob,h1,h2,J]:=id ah;show#[0,rH (s:={ s with heap:=h' }) (n := "dict_valueiterator") h1 h2 J ar #[v,H,I1,e3,#[rfl,k,e1],ah,λb G=>(L b G).1]]
 done:=by
  intro X U N S hc i pins s σ H E I L st hg;subst U N S;let#[ab,ac]:=hg;let#[f0,Y,f2,f3,f4,f5]:=L it (by simp);let#[hd,vs,r,O]:=lY I.bK ab;let R:=r.length;rw[R]at st;show wpAny_pyNext_values_end (I.ok.hd hc) st O (by simp;omega) λh' eb=>#[rfl,I.turned (t':=s.toks) (λb o G e=>eb b o G e) f0 Y f3 f4 f5]
 self:=λ_ _ _ _ _ st h=>wpAny_pyIter_valiter st h
section
variable{X:Cx}{tg:Ot}
def Ky(H₀:Hp)(td:TE):TI:=λσ H R=>td σ H λx H1=>FH λa kvs=>Ju (x=.ref a) (H1 a=some (.dK kvs)) ((∀o G,H₀ a≠some (.cW o G))) (∀o,R (Lx a o kvs) (upd H1 a (.cW o (.dK kvs))))
theorem Fl{o:Ot}{apos cpos:QY}{td:TE}(ho:PE X o td)(ah:QR o "values" X.env (eval o X.env)=eval o X.env:=by rfl)(as:(apos.endLine==cpos.line)=true:=by rfl):PI X tg (.Call (.Attribute o "values" apos) [] [] cpos) (Ky X.H₀ td):=by
 intros R I h;show TH ah as (bW (ho pins s σ H _ I h) λu G ac=>?_);let#[x,H1,N,rx,a,kvs,ex,J,U,q]:=ac;subst ex;obtain rfl:u=Value.ref a:=rx;let#[t1,t2,hd]:=lF N (.inl #[kvs,.inl J]);let#[_,_,vs,aT,dd]:=jm N.bK J;show#["dict","dict.values",QP,Tr,PySem.F.type_dict_values,t1,t2,Calls.callWith_builtin rfl (UU ?_)];show QF Tr dd.typeIs PySem.F.entry_dict_values (PySem.F.args_dict_values_1 _) (meets_dict_values (bG X.prog X.w) a hd) #[#[vs,dd],?_];let nw:=Heap.get?_push_size G.heap (o:={ cls:=.type "dict_values",data:=.fields ([.ref a].toArray) }) rfl;let S: ~~~H1 { G with heap:=G.heap.push { cls:=.type "dict_values",data:=.fields ([.ref a].toArray) },toks:=G.toks }:=N.kept λb o e=>Heap.get?_push_of_some _ e;let#[_,aB,ab,am,xq]:=jm S.bK J;let#[ob,ap,ep,L,g2,g3,g4]:=id xq;let O:=S.freeze J L U;let lt:a<(G.heap.push { cls:=.type "dict_values",data:=.fields ([.ref a].toArray) }).objs.size:=Heap.lt_size L;let Y:(G.heap.push { cls:=.type "dict_values",data:=.fields ([.ref a].toArray) }).DictAt (bG X.prog X.w) a ab (AU ob):=#[ob,ap,L,g2,by unfold AU;rw[g3],g4];show wpAny_pyIter_values #[_,nw,1] Y ?_;show#[(G.heap.push { cls:=.type "dict_values",data:=.fields ([.ref a].toArray) }).objs.size,[(G.heap.push { cls:=.type "dict_values",data:=.fields ([.ref a].toArray) }).objs.size],_,Lx a ob kvs,0,O.kept (t':=G.toks) λb o e=>Heap.get?_push_of_some _ e,zB a _ (OR lt) ob kvs,?_,λb hb=>?_,q ob]
 .rw[am.length];show#[_,Heap.get?_push_size _ rfl,1]
 .let e:b=(G.heap.push { cls:=.type "dict_values",data:=.fields ([.ref a].toArray) }).objs.size:=‹hb›;subst e;show O.kT (ti _) (O.bK.fresh (ti _))
end
end L2
namespace Srt
open PySem PyProof.Rows
section
variable{prog:se}{w:G1}{A:L7}{E:Xp}{s:kz}{a₀:Array G0}
variable{T:String}{r d:Addr}{n:Nat}{P:Nat->Value->Prop}{OK:Heap->Prop}
end
end Srt
variable{P:se}{w:G1}{K:HC}{mg:Xq}{base:Heap}{f:Addr}{fd:p4}
namespace L2
open PySem PySem.Spec PyProof.Rows
section
variable{X:Cx}
end
theorem rj{K:HC}{a:Addr}{xs:List V}{g:TG}{tb:qD}{R:XR}{D:Ends}{σ:St}{H:Hp}(Pv:Nat->St->Hp->Prop)(L:Pv 0 σ H)(O:∀i σ H,i<=xs.length->Pv i σ H->bw K H a xs)
  (hs:∀i x σ H,xs[i]?=some x->Pv i σ H->g x σ H λG H2=>tb { D with nx:=Pv (i+1),ct:=Pv (i+1),bk:=D.nx } R G H2) (hd:∀σ H,Pv xs.length σ H->D.nx σ H) :
  ∃W:Nat->Nat->St->Hp->Prop,(∃m,W 0 m σ H)/\∀i m σ H,W i m σ H ->
   ((Em K a).stop i H/\D.nx σ H)\/((Em K a).go i H/\∃N:St->Hp->Prop,(∀I H',N I H'->∃J,J<m/\W (i+1) J I H')/\∀x H',(Em K a).En i H x H'->g x σ H' λG H2=>tb { D with nx:=N,ct:=N,bk:=D.nx } R G H2):=
 eV (tb:=λD σ H=>tb D R σ H) Pv L O hs hd
end L2
namespace Sp
open PySem PySem.StrLaws PySem.Builtin PySem.Builtin.Str
end Sp
namespace L2
open PySem PySem.Spec PyProof.Rows PySem.Builtin PySem.Builtin.Str
section
variable{X:Cx}
theorem pW(S:X.calm=true):eJ X (.builtin "sum") (λxs H Q=>∃(p:Addr)(ns:List Int),xs=[.ref p]/\bw X.K H p (ns.map V.int)/\Q (.int ns.sum) H):=by
 intros xs us Q I r h;let#[p,ns,rfl,N,q]:=h;let#[u,rfl,O]:=vals1 r;cases O;let#[its,U,pl,Y]:=I.list N;let G:=intsAre_of U;let L:=G.numsOf;let#[ys,e]:=G.allInts.items;let J:=pl.isList;rw[e]at J;show sum_intListG (I.ok.hd S) J λh' tk t' R=>?_;let hs:preSum (numAt ys) ys.size=ns.sum:=by
  rw[preSum_eq,Ph (by simp), <-nums_intItems, <-e];rw[show its.toArray.toList=its from rfl,L]
 show#[.int ns.sum,H,I.kept R,#[_,by rw[hs]],q]
theorem zI:eJ X (.type "range") (λxs H Q=>∃i j:Int,xs=[.int i,.int j]/\∀p,H p=none->Q (.ref p) (upd H p (.rng i j))):=by
 intros xs us Q I r h;let#[i,j,rfl,q]:=h;let#[u,G,rfl,#[t,rfl],#[t',rfl]]:=vals2 r;show call_range_2 #[.ref s⁻¹,_,I.laid (λb o e=>Heap.get?_push_of_some _ e) (ti _) ?_,rfl,q _ (I.bK.fresh (ti _))];show#[2,_,Heap.get?_push_size s.heap rfl]
def yN(K:HC):List V->Hp->VK->Prop:=λxs H Q=>∃p ys,xs=[.ref p]/\(bw K H p ys\/bP K H p ys)/\Q (.int (ys.length:Nat)) H
theorem Ah:eJ X (.builtin "len") (yN X.K):=bF
theorem pG(hc:X.calm=true):eJ X (.type "list") (λxs H Q=>∃(p:Addr)(i:Int)(n:Nat),xs=[.ref p]/\H p=some (.rng i (i+n))/\n<=1000 /\ -1000<=i/\i<=1000/\∀l,H l=none->Q (.ref l) (upd H l (.lst ((NC n).map λk:Nat=>V.int (i+k))))):=by
 intros xs us Q I r h;let#[p,i,n,rfl,S,hn,i0,i1,q]:=h;let#[u,rfl,U]:=vals1 r;cases U;let hs:=vl;let#[t,u,v,e]:=(show bZ X.prog X.w H s.heap p (.rng i (i+n))from I.bK p _ S);show call_list_range (n:=n) (I.ok.hd hc) e (small_one af af af af) (by rw[rangeSize_one];split<;>omega) af λh' tk J c' L R it=>?_;let rv:Vals ((NC n).map λk:Nat=>V.int (i+k)) J.toList:=by
  let#[h1,h2]:=it;show tN ?_ λj x v G N=>?_
  .rw[mu,O0];simpa using h1.symm
  .rw[t5]at G;let#[k,O,rfl]:=o8.mp G;let Y:k=j:=by
    have:=kQ.mp O;let#[_,e]:=this;simpa using e.symm
   let#[t,e]:=h2 j v ‹N›;show#[t,by rw[e,Y];congr 1;omega]
 show#[.ref s⁻¹,_,I.laid L (ti _) (show bZ X.prog X.w _ h' _ (.lst ((NC n).map λk:Nat=>V.int (i+k)))from#[by rw[mu,O0];omega,J.toList,c',rv,by simpa using R]),rfl,q _ (I.bK.fresh (ti _))]
end
theorem xw{a:Addr}{o:Obj}{kvs:List (Key×V)}{caps:List (Str×Nat)}{te:TE}{σ:St}{H:Hp}{J:List V->Hp->Prop}(Pv:Nat->List V->Hp->Prop)(N:Pv 0 [] H)
  (R:∀i zs H,i<=kvs.length->Pv i zs H->H a=some (.cW o (.dK kvs)))
  (hs:∀i k v zs H,kvs[i]?=some (k,v)->Pv i zs H->te (gL caps σ (some (kV k))) H (λz H3=>zs.length<sizeLine/\Pv (i+1) (zs++[z]) H3))
  (hd:∀zs H,Pv kvs.length zs H->J zs H):∃W:Nat->Nat->List V->Hp->Prop,(∃m,W 0 m [] H)/\iX caps qx te σ (Jn a o kvs) J W:=by
 show#[λi m zs H=>m=kvs.length-i/\i<=kvs.length/\Pv i zs H,#[kvs.length,by simp,OB _,N],?_];rintro i m zs H ⟨rfl,hi,p⟩;let I:=R i zs H hi p;cases G:i<kvs.length
 .show .inr #[#[I,G],Pv (i+1),λS H' L=>#[kvs.length-(i+1),OU (PZ kvs) i G,rfl,G,L],?_];rintro x H' ⟨rfl,k,v,O,rfl⟩;unfold qx;dsimp only;rw[Xl rfl];show hs i k v zs _ O p
 .let e:i=kvs.length:=af;subst e;show .inl #[#[I,ti _],hd zs H p]
theorem tZ{caps:List (Str×Nat)}{te:TE}{σ:St}{H:Hp}{lo st:Int}{n:Nat}{I:List V->Hp->Prop}(Pv:Nat->List V->Hp->Prop)(L:Pv 0 [] H)
  (hs:∀i ys H,i<n->Pv i ys H->te (gL caps σ (some (.int (lo+i*st)))) H (λy H3=>ys.length<sizeLine/\Pv (i+1) (ys++[y]) H3))
  (hd:∀ys H,Pv n ys H->I ys H):∃W:Nat->Nat->List V->Hp->Prop,(∃m,W 0 m [] H)/\iX caps qx te σ (HJ lo st n) I W:=by
 show#[λi m ys H=>m=n-i/\i<=n/\Pv i ys H,#[n,by simp,OB _,L],?_];rintro i m ys H ⟨rfl,hi,p⟩;cases G:i<n
 .show .inr #[G,Pv (i+1),λN H' J=>#[n-(i+1),OU n i G,rfl,G,J],λx H' y=>?_];let#[e,y]:=y;subst e y;unfold qx;dsimp only;rw[Xl rfl];show hs i ys _ G p
 .let e:i=n:=af;subst e;show .inl #[ti _,hd ys H p]
theorem Fs{K:HC}{a b:Addr}{xs ys:List V}{g:TG}{tb:TS}{D:Ends}{σ:St}{H:Hp}(Pv:Nat->St->Hp->Prop)(Y:Pv 0 σ H)(he:xs.length=ys.length)
  (hl:∀i σ H,i<=xs.length->Pv i σ H->bw K H a xs/\bw K H b ys)
  (hs:∀i x y σ H T,xs[i]?=some x->ys[i]?=some y->H T=none->Pv i σ H->g (.ref T) σ (upd H T (.tup [x,y])) λO H2=>tb { D with nx:=Pv (i+1),ct:=Pv (i+1),bk:=D.nx } O H2)
  (hd:∀σ H,Pv xs.length σ H->D.nx σ H) :
  ∃W:Nat->Nat->St->Hp->Prop,(∃m,W 0 m σ H)/\∀i m σ H,W i m σ H ->
   ((JO K a b).stop i H/\D.nx σ H)\/((JO K a b).go i H/\∃N:St->Hp->Prop,(∀I H',N I H'->∃R,R<m/\W (i+1) R I H')/\∀x H',(JO K a b).En i H x H'->g x σ H' λO H2=>tb { D with nx:=N,ct:=N,bk:=D.nx } O H2):=by
 show#[λi m σ H=>m=xs.length-i/\i<=xs.length/\Pv i σ H,#[xs.length,by simp,OB _,Y],?_];rintro i m σ H ⟨rfl,hi,p⟩;let#[L,J]:=hl i σ H hi p;cases G:i<xs.length
 .let ab:i<ys.length:=OZ G he;show .inr #[#[xs,ys,xs[i],ys[i],L,J,by simp[G],by simp[ab]],Pv (i+1),λI H' p'=>#[xs.length-(i+1),OU (PZ xs) i G,rfl,G,p'],?_];rintro v H' ⟨T,x,y,rfl,S,rfl,U,e2⟩;show hs i x y σ H T (U _ L) (e2 _ J) S p
 .let e:i=xs.length:=af;subst e;show .inl #[#[xs,ys,L,J,.inl (ti _)],hd σ H p]
inductive Md(P:se)(w:G1)(K:HC)(mg:Xq)(base:Heap)(cx:rZ)(k:Nat)(C:Addr)(m:Str)(sp:Sp):Prop
 |mk(f:Addr)(fd:p4)(ps:List Str)(_:aV P w K mg base cx k f fd ps sp)(_:Binds K fd ps [])(_:Meth K C m f)
inductive Df(P:se)(w:G1)(K:HC)(mg:Xq)(base:Heap)(cx:rZ)(k:Nat)(x:Str)(sp:Sp):Prop
 |mk(f:Addr)(fd:p4)(ps:List Str)(_:aV P w K mg base cx k f fd ps sp)(_:Binds K fd ps [])(_:mg x=some (.ref f))(_:T8 K (.ref f)=true)
section
variable{X:Cx}{CX:rZ}{k j:Nat}{C:Addr}{sp:Sp}{E:XK}{x m:Str}{p pos apos:QY}{e o:Ot}{es:List Ot}{ta:TE}{t:TA}
theorem pm{pl:RZ Bool}(S:PE X o ta)(c:qL X.K C)(F:Md X.prog X.w X.K X.mg X.base CX k C m sp)(O:dB j X.A)(I:Passes CX X E)(G:PA X (e::es) t)(N:k<=j:=by decide)
  (R:starEach (e::es) X.env=(false,eval e X.env)::starEach es X.env:=by rfl) (L:(backTo pos (starEach es X.env)).any (·.1)=false:=by rfl)
  (J:eval (.Call (.Attribute o m apos) (e::es) [] pos) X.env=(do
   let ov <-eval o X.env
   SW apos.atName
   let (f,first) <-Rg [ov] (Rj ov m pl)
   Tu pos f first (backTo pos (starEach (e::es) X.env)) (Ro pos (Qr [] X.env))):=by rfl) :
  PE X (.Call (.Attribute o m apos) (e::es) [] pos) (y4 C m sp [] E ta t):=by
 let#[f,fd,_,g,b,q]:=F;show EU S c q g (O.mono N) b .nil I G R L J
theorem pJ{pl:RZ Bool}(N:PE X o ta)(c:qL X.K C)(F:Md X.prog X.w X.K X.mg X.base CX k C m sp)(L:dB j X.A)(G:Passes CX X E)(J:k<=j:=by decide)
  (I:eval (.Call (.Attribute o m apos) [] [] pos) X.env=(do
   let ov <-eval o X.env
   SW apos.atName
   let (f,first) <-Rg [ov] (Rj ov m pl)
   Tu pos f first (backTo pos (starEach [] X.env)) (Ro pos (Qr [] X.env))):=by rfl) :
  PE X (.Call (.Attribute o m apos) [] [] pos) (y4 C m sp [] E ta FN):=by
 let#[f,fd,_,g,b,q]:=F;show D9 N c q g (L.mono J) b .nil G I
theorem pc(F:Df X.prog X.w X.K X.mg X.base CX k x sp)(O:dB j X.A)(I:Passes CX X E)(G:PA X (e::es) t)(L:Gl X x:=by rfl)(N:k<=j:=by decide)
  (R:(x==("__debug__" : Str))=false:=by decide) (S:starEach (e::es) X.env=(false,eval e X.env)::starEach es X.env:=by rfl) (J:(backTo pos (starEach es X.env)).any (·.1)=false:=by rfl) :
  PE X (.Call (.Name x p) (e::es) [] pos) (F5 sp [] E t):=by
 let#[f,fd,_,g,b,q,r]:=F;show EW g (O.mono N) L q r b .nil I G R S J
end
end L2
namespace St
open PySem L2
def top(i:Nat):Ow:=PySem.Challenge.pw_ownroom_k10_rooms_deed_by_deed.main.body.getD i (.Pass #[(0),(0),(0),(0)])
abbrev pU:Ow:=inClass (top 10) 0
abbrev Bo:Ow:=inClass (top 10) 1
abbrev Eg:Ow:=inClass (top 10) 3
abbrev Ck:Ow:=inClass (top 10) 2
abbrev B9:Ow:=inClass (top 10) 7
abbrev xn:Ow:=inClass (top 10) 4
abbrev yd:Ow:=inClass (top 10) 5
abbrev GZ:Ow:=inClass (top 10) 6
abbrev sY:Ow:=inClass (top 10) 8
theorem kc:¬ (("owners" : Str) = "contents"):=aq
def kR(ow co:Addr):List (Str×V):=bt "contents" (.ref co) (bt "owners" (.ref ow) [])
theorem gF(ow co:Addr):(kR ow co).lookup ("owners" : Str)=some (.ref ow):=by
 unfold kR;rw[aJ,Xk kc,aJ,Xl rfl]
theorem sR(ow co:Addr):(kR ow co).lookup ("contents" : Str)=some (.ref co):=by
 unfold kR;rw[aJ,Xl rfl]
theorem aW(ow co:Addr){m:Str}(h1:¬ m = "contents")(h2:¬ m = "owners"):(kR ow co).lookup m=none:=by
 unfold kR;rw[aJ,Xk h1,aJ,Xk h2]
 all_goals rfl
def ff(H:Hp)(M:Xm):V->Option (List Int)->Prop
 |.non,none=>True
 |.ref a,some ns=>¬ M a/\H a=some (.lst (ns.map V.int))
 |_,_=>False
structure aX(C:Addr)(H:Hp)(M:Xm)(p ow co:Addr)(os:List Int)(pg:List (Option (List Int))):Prop where
 ob:∃dx,H p=some (.ins C dx (kR ow co))
 hw:H ow=some (.lst (os.map V.int))
 hc:∃cs,H co=some (.lst cs)/\Paired (ff H M) cs pg
def Off(B:Xm)(H H':Hp):Prop:=∀b o,H b=some o->¬ B b->H' b=some o
theorem ff.off{B M:Xm}{H H':Hp}(h:Off B H H')(G:∀b,B b->M b):∀{v:V}{x:Option (List Int)},ff H M v x->ff H' M v x
 |.non,none,_=>trivial
 |.ref a,some ns,⟨h1,h2⟩=>#[h1,h a _ h2 λz=>h1 (G a z)]
theorem jJ{B M:Xm}{H H':Hp}(h:Off B H H')(G:∀b,B b->M b){cs:List V}{pg:List (Option (List Int))}(q:Paired (ff H M) cs pg):Paired (ff H' M) cs pg :=
 Paired.DH q λ_ _ z=>z.off h G
theorem oE{α G:Type}{F:α->G->Prop}:∀{xs:List α}{ys:List G}{i:Nat}{y:G},Paired F xs ys->ys[i]?=some y->∃x,xs[i]?=some x/\F x y
 |_,_,_,_,.nil,e=>by simp at e
 |_,_,0,_,.cons r _,e=>by simp at e;subst e;show#[0,r]
 |_,_,i+1,y,.cons _ t,e=>by
  let#[u,h1,h2]:=oE (i:=i) (y:=y) t ‹e›;show#[u,by simpa using h1,h2]
theorem j6{α G:Type}{F:α->G->Prop}{x:α}{y:G}(r:F x y):∀{xs:List α}{ys:List G}(i:Nat),Paired F xs ys->Paired F (xs.set i x) (ys.set i y)
 |_,_,_,.nil=>.nil
 |_,_,0,.cons _ t=>.cons r t
 |_,_,i+1,.cons q t=>.cons q (j6 r i t)
theorem oU{α G:Type}{F:α->G->Prop}{x:α}{y:G}(r:F x y):∀n:Nat,Paired F (replicate n x) (replicate n y)
 |0=>.nil
 |n+1=>.cons r (oU r n)
structure Txt(K:HC)(mg:Xq)(C:Addr):Prop where
 cl:qL K C
 nO:dC K C "owners"
 nC:dC K C "contents"
 len:mg "len" = none
 list:mg "list" = none
 pc:∃u,mg "PAGE_CELLS" = some u/\RelV (.int 8) u
inductive jj(C:Addr)(v:List V)(H:Hp)(Q:VK)(e:XK):Prop
 |mk(p dx:Addr)(n:Nat)(_:v=[.ref p,.int n])(_:n<=60)(_:H p=some (.ins C dx []))(_:∀(ow co:Addr)(H':Hp),H ow=none->H co=none->ow≠co->(∀M,aX C H' M p ow co (replicate n 0) (replicate n none))->Off (· = p) H H'->Q .non H')
def eY(os:List Int)(n:Int):Int:=if n<0\/(os.length:Int)<=n then 0 else os.getD n.toNat 0
theorem m6{os:List Int}{n:Int}(h:eY os n≠0):0<=n/\n.toNat<os.length/\n<os.length/\n=(n.toNat:Int):=by
 unfold eY at h;cases z:n<0\/(os.length:Int)<=n
 .rw[Xl z]at h;show absurd rfl h
 .omega
theorem xJ{os:List Int}{j:Nat}(h:j<os.length):eY os (j:Int)=os.getD j 0:=by
 unfold eY;rw[Xk af];simp
inductive ix(C:Addr)(v:List V)(H:Hp)(Q:VK)(e:XK):Prop
 |mk(p ow co:Addr)(M:Xm)(os:List Int)(pg:List (Option (List Int)))(n:Int)(_:v=[.ref p,.int n])(_:aX C H M p ow co os pg)(_:os.length<=60)(_:Q (.int (eY os n)) H)
inductive hX(C:Addr)(v:List V)(H:Hp)(Q:VK)(e:XK):Prop
 |mk(p ow co:Addr)(M:Xm)(os:List Int)(pg:List (Option (List Int)))(n:Int)(_:v=[.ref p,.int n])(_:aX C H M p ow co os pg)(_:os.length<=60)(_:eY os n≠0)(_:Q .non H)
inductive yo(C:Addr)(v:List V)(H:Hp)(Q:VK)(e:XK):Prop
 |mk (p ow co:Addr) (M:Xm) (os:List Int) (pg:List (Option (List Int))) (_:v=[.ref p]) (_:aX C H M p ow co os pg) (_:M ow) (_:M co) (_:(∀b,M b->H b≠none)) (_:ow≠co) (_:os.length=pg.length) (_:os.length<=60) (_:(¬ (0:Int)∈os->Q .non H)) (_:((0:Int)∈os->∀H',aX C H' M p ow co (os.set (os.idxOf 0) 1) (pg.set (os.idxOf 0) (some (replicate 8 0)))->Off (λb=>b=ow\/b=co) H H'->Q (.int (os.idxOf 0:Nat)) H')):yo C v H Q e
inductive sD(C:Addr)(v:List V)(H:Hp)(Q:VK)(e:XK):Prop
 |mk (p ow co:Addr) (M:Xm) (os:List Int) (pg:List (Option (List Int))) (n:Int) (_:v=[.ref p,.int n]) (_:aX C H M p ow co os pg) (_:M ow) (_:M co) (_:ow≠co) (_:os.length<=60) (_:eY os n≠0) (_:∀H',aX C H' M p ow co (os.set n.toNat (eY os n-1)) pg->Off (λb=>b=ow\/b=co) H H'->Q .non H'):sD C v H Q e
inductive uC(C:Addr)(v:List V)(H:Hp)(Q:VK)(e:XK):Prop
 |mk (p ow co:Addr) (M:Xm) (os:List Int) (pg:List (Option (List Int))) (n:Int) (_:v=[.ref p,.int n]) (_:aX C H M p ow co os pg) (_:M ow) (_:M co) (_:ow≠co) (_:os.length<=60) (_:eY os n≠0) (_:∀H',aX C H' M p ow co (os.set n.toNat (eY os n+1)) pg->Off (λb=>b=ow\/b=co) H H'->Q .non H'):uC C v H Q e
inductive tm(C:Addr)(v:List V)(H:Hp)(Q:VK)(e:XK):Prop
 |mk(p ow co:Addr)(M:Xm)(os:List Int)(pg:List (Option (List Int)))(_:v=[.ref p])(_:aX C H M p ow co os pg)(_:Q (.int (os.count 0:Nat)) H)
inductive mW(C:Addr)(v:List V)(H:Hp)(Q:VK)(e:XK):Prop
 |mk(p ow co:Addr)(M:Xm)(os:List Int)(pg:List (Option (List Int)))(n:Int)(ns:List Int)(_:v=[.ref p,.int n])(_:aX C H M p ow co os pg)(_:os.length<=60)(_:eY os n≠0)(_:pg[n.toNat]?=some (some ns))(_:∀l,H l=none->Q (.ref l) (upd H l (.lst (ns.map V.int))))
inductive yG(K:HC)(C:Addr)(v:List V)(H:Hp)(Q:VK)(e:XK):Prop
 |mk (p ow co c:Addr) (M:Xm) (os:List Int) (pg:List (Option (List Int))) (n:Int) (ns:List Int) (_:v=[.ref p,.int n,.ref c]) (_:aX C H M p ow co os pg) (_:M ow) (_:M co) (_:(∀b,M b->H b≠none)) (_:ow≠co) (_:os.length=pg.length) (_:os.length<=60) (_:eY os n≠0) (_:bw K H c (ns.map V.int)) (_:∀H',aX C H' M p ow co os (pg.set n.toNat (some ns))->Off (λb=>b=ow\/b=co) H H'->Q .non H'):yG K C v H Q e
theorem rep1{α:Type}(x:α)(n:Nat):(replicate n [x]).flatten=replicate n x:=by
 induction n with
 |zero=>rfl
 |succ n G=>rw[Qg,Qs,G,Qg];rfl
theorem Nd:aE ["self","many"] ["self","many"] (aw pU):=L2.bN
theorem sM{C:Addr}(F:cE K "__init__" "Store.__init__" pU f fd)(T:Txt K mg C):↥aV 1 f fd ["self","many"] (jj C):=by
 show F.dS Nd (λa0 A outer s H vs Q E hr h=>?_);let#[p,dx,n,rfl,hn,S,k]:=h;show#[_,aj (gp (pv 0) (az qe (bV (aa ak ag)) (pv 1)) rfl) (ao (gp (pv 0) (az qe (bV (aa fZ ag)) (pv 1)) rfl)),?_];let hs:=vl;show#[ar,λN ah=>?_];let am:p≠N:=au S ah;show#[0,N,n,0,rfl,ae,af,af,by rw[Po];omega,λow J=>?_];let as:ow≠N:=λz=>(by rwa[z,ae]at J);rw[ai as]at J;let U:p≠ow:=au S J;show#[0,p,C,dx,[],rfl,by rw[ai U,ai am];show S,T.cl,T.nO,ar,?_];show#[ar,λL I=>?_];let ac:L≠p:=λz=>(by rwa[z,ae]at I);rw[ai ac]at I;let ab:L≠ow:=λz=>(by rwa[z,ae]at I);rw[ai ab]at I;let ap:L≠N:=λz=>(by rwa[z,ae]at I);rw[ai ap]at I;show#[0,L,n,0,rfl,ae,af,af,by rw[Po];omega,λco G=>?_];let aT:co≠L:=λz=>(by rwa[z,ae]at G);rw[ai aT]at G;let R:co≠p:=λz=>(by rwa[z,ae]at G);rw[ai R]at G;let O:co≠ow:=λz=>(by rwa[z,ae]at G);rw[ai O]at G;let aB:co≠N:=λz=>(by rwa[z,ae]at G);rw[ai aB]at G;show#[0,p,C,dx,0,by rw[ai (qs R),ai (qs ac),ae],T.cl,T.nC,by change 1<1000;decide,?_];rw[show((n:Int)).toNat=n by omega,rep1,rep1];show k ow co _ J G (qs O) (λM=>#[#[dx,ae],?_,#[_,?_,oU (show ff _ M .non none from trivial) n]]) λb o e hb=>?_
 .rw[ai (qs U),ai (qs O),ai (qs ab),ai (qs U),ae,List.map_replicate]
 .rw[ai R,ae]
 .let Y:b≠p:=hb;rw[ai Y,ai (au e G),ai (au e I),ai Y,ai (au e J),ai (au e ah)];show e
theorem LF:aE ["self","n"] ["self","n"] (aw xn):=L2.bN
theorem Dj{C:Addr}(F:cE K "count" "Store.count" xn f fd)(T:Txt K mg C):↥aV 1 f fd ["self","n"] (ix C):=by
 show F.dS LF (λL A outer s H vs Q E N h=>?_);let#[p,ow,co,M,os,pg,n,rfl,S,O,k]:=h;let#[#[dx,h1],I,_]:=id S;show#[_,aj (aU (ie (aD fP (pv 1) ak (aG _)) (gO (aD JR (pv 1) (aQ bF (by rfl) T.len boot_len (aa (aL (pv 0) rfl) ag)) (aG _)))).pt (ao (aK ak)) aI)
  (ao (aK (aY cn (aL (pv 0) rfl) (pv 1) cz))),?_]
 show#[0,_,0,rfl,0,?_];show gM (λc=>?_) (λc=>?_)
 .show eS ?_;let J:n<0:=‹c›;unfold eY at k;rw[Xl (.inl J)]at k;show k
 .let J:¬ n<0:=‹c›;show#[0,0,p,C,dx,_,0,h1,T.cl,T.nO,gF _ _,ow,0,.inl (bw.of I),_,0,rfl,0,?_];show gM (λd=>?_) (λd=>?_)
  .let d':(os.length:Int)<=n:=‹d›;unfold eY at k;rw[Xl (.inr d')]at k;show k
  .let d':¬ (os.length:Int)<=n:=‹d›;obtain⟨j,rfl⟩:∃j:Nat,n=j:=#[n.toNat,af];let G:j<os.length:=af;rw[xJ G]at k;show#[0,p,C,dx,_,0,h1,T.cl,T.nO,gF _ _,0,ow,_,j,.int (os.getD j 0),1,bw.of I,kD ?_,k];rw[t5,vu G];simp[G]
theorem N8:aE ["self","n"] ["self","n"] (aw sY):=L2.bN
theorem AB{C:Addr}(F:cE K "refuse_free" "Store.refuse_free" sY f fd)(T:Txt K mg C)(G:↥Md 1 C "count" (ix C)) :
  ↥aV 2 f fd ["self","n"] (hX C):=by
 show F.dS N8 (λO A outer s H vs Q E I h=>?_);let#[p,ow,co,M,os,pg,n,rfl,S,L,J,k]:=h;let#[#[dx,h1],N,_]:=id S;show#[_,ao (aU (aD bH (pm (pv 0) T.cl G I aC (aa (pv 1) ag)) ak (aG _)) (dh) aI),?_];show#[0,p,dx,0,h1,aW _ _ aq aq,0,p,ow,co,M,os,pg,n,rfl,S,L,rfl,0,?_];show gM (λc=>?_) (λc=>?_)
 .show absurd ‹c› J
 .show k
theorem LM:aE ["self","n"] ["self","n"] (aw Eg):=L2.bN
theorem gW{H:Hp}{M:Xm}{a:Addr}{o:HO}{cs:List V}{pg:List (Option (List Int))}(G:M a)(q:Paired (ff H M) cs pg):Paired (ff (upd H a o) M) cs pg :=
 jJ (B:=(· = a)) (λb u e I=>by rw[ai (show b≠a from I)];show e) (λb z=>by rw[show b=a from z];show G) q
theorem mq{H:Hp}{M:Xm}{a:Addr}{o:HO}{cs:List V}{pg:List (Option (List Int))}(G:H a=none)(q:Paired (ff H M) cs pg):Paired (ff (upd H a o) M) cs pg :=
 jJ (B:=λ_=>False) (λb u e _=>by rw[ai (au e G)];show e) (λb z=>z.elim) q
theorem jF{H:Hp}{p a C dx:Addr}{fs:List (Str×V)}{xs:List V}(h:H p=some (.ins C dx fs))(h':H a=some (.lst xs)):p≠a:=cY h h' (by intro z;cases z)
theorem Fb{C:Addr}(F:cE K "less" "Store.less" Eg f fd)(T:Txt K mg C)(GG:↥Md 2 C "refuse_free" (hX C)) :
  ↥aV 3 f fd ["self","n"] (sD C):=by
 show F.dS LM (λab A outer s H vs Q E hr h=>?_);let#[p,ow,co,M,os,pg,n,rfl,S,L,mc,O,U,J,k]:=h;let#[#[dx,h1],G,cs,N,hp]:=id S;show#[_,aj (aO (pm (pv 0) T.cl GG hr aC (aa (pv 1) ag)))
  (ao (yw (aL (pv 0) rfl) (pv 1) (uS) ak Ij set_list)),?_]
 show#[0,p,dx,0,h1,aW _ _ aq aq,0,p,ow,co,M,os,pg,n,rfl,S,U,J,?_];let#[h0,I,hn,R]:=m6 J;generalize n.toNat=j at *;subst R;show#[0,p,C,dx,_,0,h1,T.cl,T.nO,gF _ _,0,ow,_,j,.int (os.getD j 0),1,bw.of G,kD (by rw[t5,vu I];simp[I]),_,0,rfl,ow,_,j,j,1,G,3]
 .unfold yu;rw[mu,Xl af,Xl af];simp
 .rw[xJ I]at k;show k _ #[#[dx,by rw[ai (jF h1 G)];show h1],?_,#[cs,by rw[ai (qs O)];show N,gW L hp]] λb o e Y=>?_
  .rw[ae,W0]
  .rw[ai (λz=>Y (.inl z))];show e
theorem N2:aE ["self","n"] ["self","n"] (aw yd):=L2.bN
theorem Ee{C:Addr}(F:cE K "cells" "Store.cells" yd f fd)(T:Txt K mg C)(Y:↥Md 2 C "refuse_free" (hX C)) :
  ↥aV 3 f fd ["self","n"] (mW C):=by
 show F.dS N2 (λab A outer s H vs Q E hr h=>?_);let#[p,ow,co,M,os,pg,n,ns,rfl,S,O,G,U,k]:=h;let#[#[dx,h1],hw,cs,J,R]:=id S;show#[_,aj (aO (pm (pv 0) T.cl Y hr aC (aa (pv 1) ag)))
  (ao (aK (bU dR (by rfl) T.list fE (aa (aY cn (aL (pv 0) rfl) (pv 1) cz) ag)))),?_]
 show#[0,p,dx,0,h1,aW _ _ aq aq,0,p,ow,co,M,os,pg,n,rfl,S,O,G,?_];let#[h0,hj,hn,N]:=m6 G;generalize n.toNat=j at *;subst N;let#[v,I,cv]:=oE R U;obtain⟨a,rfl,L⟩:∃a,v=.ref a/\H a=some (.lst (ns.map V.int)):=by
  cases v with
  |ref a=>show#[a,rfl,cv.2]
  |_=>show Pr cv
 show#[0,p,C,dx,_,0,h1,T.cl,T.nC,sR _ _,0,co,cs,j,0,rfl,bw.of J,kD I,a,0,.inl (bw.of L),k]
theorem Kq:aE ["self","n","cells"] ["self","n","cells"] (aw GZ):=L2.bN
theorem kg{α G:Type}{F:α->G->Prop}:∀{xs:List α}{ys:List G},Paired F xs ys->xs.length=ys.length
 |_,_,.nil=>rfl
 |_,_,.cons _ t=>by rw[K4,K4,kg t]
theorem Hv{C:Addr}(F:cE K "put" "Store.put" GZ f fd)(T:Txt K mg C)(GG:↥Md 2 C "refuse_free" (hX C)) :
  ↥aV 3 f fd ["self","n","cells"] (yG K C):=by
 show F.dS Kq (λah A outer s H vs Q E hr h=>?_);let#[p,ow,co,c,M,os,pg,n,ns,rfl,S,mw,mc,mt,U,ab,hl,O,R,k]:=h;let#[#[dx,h1],L,cs,I,N]:=id S;show#[_,aj (aO (pm (pv 0) T.cl GG hr aC (aa (pv 1) ag)))
  (ao (cU (bU dR (by rfl) T.list fE (aa (pv 2) ag)) (eO (aL (pv 0) rfl) (pv 1) set_list))),?_]
 show#[0,p,dx,0,h1,aW _ _ aq aq,0,p,ow,co,M,os,pg,n,rfl,S,hl,O,?_];let#[h0,hj,hn,Y]:=m6 O;generalize n.toNat=j at *;subst Y;let ac:=kg N;show#[0,c,0,.inl R,λl J=>?_];let G:∀{b:Addr}{o:HO},H b=some o->b≠l:=λe=>au e J;show#[0,p,C,dx,_,0,by rw[ai (G h1)];show h1,T.cl,T.nC,sR _ _,0,co,cs,j,j,1,by rw[ai (G I)];show I,3]
 .unfold yu;rw[Xl af,Xl af];simp
 .let hM:¬ M l:=λz=>mt l z J;show k _ #[#[dx,by rw[ai (jF h1 I),ai (G h1)];show h1],by rw[ai U,ai (G L)];show L,#[_,ae,gW mc (j6 #[hM,ae] j (mq J N))]] λb o e hb=>?_;rw[ai (λz=>hb (.inr z)),ai (G e)];show e
theorem NK:aE ["self","n"] ["self"] (aw Bo):=L2.bN
theorem Oh(os:List Int):HY (.int 0) (os.map V.int)=decide ((0:Int)∈os):=by
 unfold HY;rw[List.any_map,QN,RK,decide_eq_true_iff];constructor
 .rintro⟨x,G,e⟩;let I:x=0:=by
   have:(x==(0:Int))=true:=e;simpa using this
  subst I;show G
 .intro h;show#[(0),h,rfl]
theorem Fx{C:Addr}(F:cE K "take" "Store.take" Bo f fd)(T:Txt K mg C):↥aV 1 f fd ["self"] (yo C):=by
 show F.dS NK (λah A outer s H vs Q E hr h=>?_);let#[p,ow,co,M,os,pg,rfl,S,mw,mc,mt,U,ab,hl,k0,k1]:=h;let#[#[dx,h1],I,cs,O,hp]:=id S;let#[u8,m8,r8]:=T.pc;let hs:=vl;show#[_,aj (aU (aD iD ak (aL (pv 0) rfl) (by with_unfolding_all rfl)) (ao (aK fZ)) aI)
  (aj (dt 1 NK.nd (gq OM Sa TL Ed (aL (pv 0) rfl) (aa ak ag)))
  (aj (cU ak (eO (aL (pv 0) rfl) (pv 1) set_list))
  (aj (cU (az qe (bV (aa ak ag)) (bM (by rfl) m8 r8)) (eO (aL (pv 0) rfl) (pv 1) set_list))
  (ao (aK (pv 1)))))),?_]
 show#[0,p,C,dx,_,0,h1,T.cl,T.nO,gF _ _,ow,0,.inl (bw.of I),rfl,fj _,0,?_];change if (!HY (.int 0) (os.map V.int))=true then _ else _
 rw[Oh];cases c:(0:Int)∈os
 .rw[decide_eq_true c];show b9 ?_;let hj:os.idxOf 0<os.length:=Pw.mpr c;let ac:=kg hp;show#[0,p,C,dx,_,0,h1,T.cl,T.nO,gF _ _,.inl #[4,bw.of I],ow,os,(0),1,I,c,?_];let k2:=k1 c;generalize os.idxOf 0=j at *;show#[0,p,C,dx,_,0,h1,T.cl,T.nO,gF _ _,0,ow,_,j,j,1,I,3]
  .unfold yu;rw[mu,Xl af,Xl (Pn Vq hj)];simp
  .show#[ar,λl L=>?_];let R:l≠ow:=λz=>(by rwa[z,ae]at L);rw[ai R]at L;show#[l,(8),0,rfl,ae,af,af,by rw[Po];show fit_le rfl,λq G=>?_];let ql:q≠l:=λz=>(by rwa[z,ae]at G);rw[ai ql]at G;let qw:q≠ow:=λz=>(by rwa[z,ae]at G);rw[ai qw]at G;let J:∀{b:Addr}{o:HO},H b=some o->b≠l:=λe=>au e L;let N:∀{b:Addr}{o:HO},H b=some o->b≠q:=λe=>au e G;show#[0,p,C,dx,_,0,by rw[ai (N h1),ai (J h1),ai (jF h1 I)];show h1,T.cl,T.nC,sR _ _,0,co,cs,j,j,1,by rw[ai (N O),ai (J O),ai (qs U)];show O,3]
   .unfold yu;rw[Xl af,Xl af];simp
   .show#[0,?_];let hM:¬ M q:=λz=>mt q z G;show k2 _ #[#[dx,by rw[ai (jF h1 O),ai (N h1),ai (J h1),ai (jF h1 I)];show h1],?_,#[_,ae,gW mc (j6 #[hM,by rw[ae];rfl] j (mq (by rw[ai ql,ai qw];show G) (mq (by rw[ai R];show L) (gW mw hp))))]] λb o e Y=>?_
    .rw[ai U,ai (N I),ai (J I),ae,W0]
    .rw[ai (λz=>Y (.inr z)),ai (N e),ai (J e),ai (λz=>Y (.inl z))];show e
 .rw[decide_eq_false c];show k0 c
theorem Mb:aE ["self","n"] ["self","n"] (aw Ck):=L2.bN
theorem EV{C:Addr}(F:cE K "more" "Store.more" Ck f fd)(T:Txt K mg C)(GG:↥Md 2 C "refuse_free" (hX C)) :
  ↥aV 3 f fd ["self","n"] (uC C):=by
 show F.dS Mb (λab A outer s H vs Q E hr h=>?_);let#[p,ow,co,M,os,pg,n,rfl,S,L,mc,O,U,J,k]:=h;let#[#[dx,h1],G,cs,N,hp]:=id S;show#[_,aj (aO (pm (pv 0) T.cl GG hr aC (aa (pv 1) ag)))
  (ao (yw (aL (pv 0) rfl) (pv 1) (uS) ak Jp set_list)),?_]
 show#[0,p,dx,0,h1,aW _ _ aq aq,0,p,ow,co,M,os,pg,n,rfl,S,U,J,?_];let#[h0,I,hn,R]:=m6 J;generalize n.toNat=j at *;subst R;show#[0,p,C,dx,_,0,h1,T.cl,T.nO,gF _ _,0,ow,_,j,.int (os.getD j 0),1,bw.of G,kD (by rw[t5,vu I];simp[I]),_,0,rfl,ow,_,j,j,1,G,3]
 .unfold yu;rw[mu,Xl af,Xl af];simp
 .rw[xJ I]at k;show k _ #[#[dx,by rw[ai (jF h1 G)];show h1],?_,#[cs,by rw[ai (qs O)];show N,gW L hp]] λb o e Y=>?_
  .rw[ae,W0]
  .rw[ai (λz=>Y (.inl z))];show e
theorem Nf:aE ["self"] ["self"] (aw B9):=L2.bN
theorem FV{C:Addr}(F:cE K "free" "Store.free" B9 f fd)(T:Txt K mg C):↥aV 1 f fd ["self"] (tm C):=by
 show F.dS Nf (λI A outer s H vs Q E J h=>?_);let#[p,ow,co,M,os,pg,rfl,S,k]:=h;let#[#[dx,h1],G,_]:=id S;show#[_,ao (aK (gq OM Ur TM BR (aL (pv 0) rfl) (aa ak ag))),?_];show#[0,p,C,dx,_,0,h1,T.cl,T.nO,gF _ _,.inl #[4,bw.of G],ow,os,(0),1,G,k]
end St
namespace Tb
open PySem L2
def top(i:Nat):Ow:=PySem.Challenge.pw_ownroom_k10_rooms_deed_by_deed.main.body.getD i (.Pass #[(0),(0),(0),(0)])
abbrev yZ:Ow:=top 29
abbrev pU:Ow:=inClass (top 30) 0
abbrev HE:Ow:=inClass (top 30) 1
abbrev IZ:Ow:=inClass (top 30) 2
abbrev wq:Ow:=inClass (top 30) 3
abbrev wQ:Ow:=inClass (top 30) 4
theorem av{H:Hp}{l:Addr}{X:HO}(h:H l=none):aP H (upd H l X):=λb o e=>by rw[ai (au e h)];show e
def Off(B:Xm)(H H':Hp):Prop:=∀b o,H b=some o->¬ B b->H' b=some o
section
variable{α:Type}
def look(l:List (Int×α))(k:Int):Option α:=(l.find? λx=>decide (x.1=k)).map (·.2)
def dk(f:α->V)(l:List (Int×α)):List (Key×V):=l.map λx=>(vr x.1,f x.2)
def bg(l:List (Int×α))(k:Int)(a:α):List (Int×α):=l.map λx=>if x.1=k then(k,a)else x
def bp(l:List (Int×α))(k:Int):List (Int×α):=l.filter λx=>decide (x.1≠k)
theorem iW(k:Int):look ([]:List (Int×α)) k=none:=rfl
theorem aR(x:Int×α)(l:List (Int×α))(k:Int):look (x::l) k=if x.1=k then some x.2 else look l k:=by
 unfold look;rw[RJ];cases h:x.1=k
 .rw[decide_eq_true h,Xl h];rfl
 .rw[decide_eq_false h,Xk h]
theorem dg(f:α->V)(k:Int):∀l:List (Int×α),eL (dk f l) (vr k)=(look l k).map f
 | []=>rfl
 |x::l=>by
  let G:=dg f k l;change eL ((vr x.1,f x.2)::dk f l) (vr k)=_;rw[aR];cases h:x.1=k
  .rw[Xl h,fO (by rw[h])];rfl
  .rw[Xk h,cA (λe=>h (VQ e)),G]
theorem aA{l:List (Int×α)}{k:Int}{a:α}(h:look l k=some a):(k,a)∈l:=by
 unfold look at h;let#[x,G,e]:=o8.mp h;let h1:=List.mem_of_find?_eq_some G;let h2:x.1=k:=‹List.find?_some G›;rw[<-h2, <-e];show h1
theorem cu{l:List (Int×α)}{k:Int}(h:look l k=none):¬ k∈l.map (·.1):=by
 unfold look at h;rw[Rx,List.find?_eq_none]at h;rintro m;let#[x,G,e]:=qj.mp m;show h x G (decide_eq_true e)
theorem bX{l:List (Int×α)}{k:Int}{a:α}(I:(l.map (·.1)).Nodup)(h:(k,a)∈l):look l k=some a:=by
 induction l with
 |nil=>cases h
 |cons x l J =>
  rw[aR];let#[G,L]:=Ov.mp (show(x.1::l.map (·.1)).Nodup from I);rcases BY.mp h with e|m
  .rw[<-e,Xl rfl]
  .have:¬ x.1=k:=λe=>G (e▸qj.mpr #[_,m,rfl]);rw[Xk this];show J L m
theorem Jr(f:α->V)(l:List (Int×α))(k:Int):((dk f l).any λG=>decide (G.1=vr k))=(look l k).isSome:=by
 rw[kY,dg];cases look l k<;>rfl
theorem cV{f:α->V}{l:List (Int×α)}{k:Int}{a:α}(h:look l k=none):putK (dk f l) (vr k) (f a)=dk f (l++[(k,a)]):=by
 rw[kJ _ (by rw[dg,h];rfl)];unfold dk;rw[L0];rfl
theorem jc{f:α->V}{l:List (Int×α)}{k:Int}{a b:α}(h:look l k=some b):putK (dk f l) (vr k) (f a)=dk f (bg l k a):=by
 unfold putK;rw[Xl (by rw[Jr,h];rfl)];unfold dk bg;rw[Ql,Ql];congr 1;funext x;change(if (vr x.1:Key)=vr k then((vr x.1:Key),f a)else(vr x.1,f x.2))=((vr (if x.1=k then(k,a)else x).1:Key),f (if x.1=k then(k,a)else x).2);cases e:x.1=k
 .rw[Xl (by rw[e]),Xl e,e]
 .rw[Xk (λz=>e (VQ z)),Xk e]
theorem fM(f:α->V)(l:List (Int×α))(k:Int):ou (dk f l) (vr k)=dk f (bp l k):=by
 unfold ou dk bp;rw[VZ];congr 1;congr 1;funext x;change decide (¬ (vr x.1:Key)=vr k)=decide (¬ x.1=k);cases e:x.1=k
 .rw[e];simp
 .simp[e]
theorem bC{l:List (Int×α)}{k:Int}{a:α}(j:Int)(h:look l k=none):look (l++[(k,a)]) j=if j=k then some a else look l j:=by
 induction l with
 |nil =>
  change look [(k,a)] j=_;rw[aR,iW];cases e:j=k
  .rw[Xl e,Xl e.symm]
  .rw[Xk e,Xk (qs e)]
 |cons x l I =>
  rw[aR]at h;cases e:x.1=k
  .rw[Xl e]at h;cases h
  .rw[Xk e]at h;change look (x::(l++[(k,a)])) j=_;rw[aR,aR,I h];cases G:x.1=j
   .rw[Xl G,Xl G,Xk (λz=>e (G.trans z))]
   .rw[Xk G,Xk G]
theorem bT{l:List (Int×α)}{k:Int}{a b:α}(j:Int)(h:look l k=some b):look (bg l k a) j=if j=k then some a else look l j:=by
 induction l with
 |nil=>cases h
 |cons x l I =>
  rw[aR]at h;change look ((if x.1=k then(k,a)else x)::bg l k a) j=_;cases e:x.1=k
  .rw[Xl e,aR,aR];cases G:j=k
   .rw[Xl G.symm,Xl G]
   .rw[Xk (qs G),Xk G,Xk (λz=>G (z.symm.trans e))];clear I h
    induction l with
    |nil=>rfl
    |cons y l I =>
     change look ((if y.1=k then(k,a)else y)::bg l k a) j=_;cases J:y.1=k
     .rw[Xl J,aR,aR,Xk (qs G),Xk (λz=>G (z.symm.trans J)),I]
     .rw[Xk J,aR,aR,I]
  .rw[Xk e]at h;rw[Xk e,aR,aR,I h];cases G:x.1=j
   .rw[Xl G,Xl G,Xk (λz=>e (G.trans z))]
   .rw[Xk G,Xk G]
theorem cB(l:List (Int×α))(k j:Int):look (bp l k) j=if j=k then none else look l j:=by
 induction l with
 |nil =>
  change look [] j=if j=k then none else look [] j
  rw[iW];split<;>rfl
 |cons x l I =>
  unfold bp at *;rw[P4];cases e:x.1=k
  .rw[Xk (by simp[e]),I,aR];cases G:j=k
   .rw[Xl G,Xl G]
   .rw[Xk G,Xk G,Xk (λz=>G (z.symm.trans e))]
  .rw[Xl (by simp[e]),aR,aR,I];cases G:x.1=j
   .rw[Xl G,Xl G,Xk (λz=>e (G.trans z))]
   .rw[Xk G,Xk G]
theorem gw(l:List (Int×α))(k:Int)(a:α):(bg l k a).map (·.1)=l.map (·.1):=by
 unfold bg;rw[Ql];congr 1;funext x;change(if x.1=k then(k,a)else x).1=x.1;cases e:x.1=k
 .rw[Xl e,e]
 .rw[Xk e]
theorem kq(l:List (Int×α))(k:Int):(bp l k).map (·.1)=(l.map (·.1)).filter λx=>decide (x≠k):=by
 unfold bp;rw[VZ];rfl
theorem iu(l:List (Int×α))(k:Int)(a:α):(bg l k a).length=l.length:=by unfold bg;rw[mu]
theorem mem_set{l:List (Int×α)}{k:Int}{a:α}{x:Int×α}(h:x∈bg l k a):x=(k,a)\/(x∈l/\x.1≠k):=by
 unfold bg at h;let#[y,G,e]:=qj.mp h;cases c:y.1=k
 .rw[Xl c]at e;show .inl e.symm
 .rw[Xk c]at e;subst e;show .inr #[G,c]
theorem cw{l:List (Int×α)}{k:Int}{x:Int×α}(h:x∈bp l k):x∈l/\x.1≠k:=by
 unfold bp at h;let#[h1,h2]:=QM.mp h;show#[h1,of_decide_eq_true h2]
theorem cR(f:α->V)(l:List (Int×α)):(dk f l).length=l.length:=by unfold dk;rw[mu]
theorem nj{l:List (Int×α)}{k:Int}{a:α}(J:(l.map (·.1)).Nodup)(h:look l k=some a):(bp l k).length+1=l.length:=by
 induction l with
 |nil=>cases h
 |cons x l L =>
  let#[I,N]:=Ov.mp (show(x.1::l.map (·.1)).Nodup from J);rw[aR]at h;unfold bp at *;rw[P4];cases e:x.1=k
  .rw[Xk (by simp[e])];have:l.filter (λx=>decide (x.1≠k))=l:=by
    rw[SH];intro y G;have:y.1≠k:=λz=>I (by rw[e, <-z];show qj.mpr #[_,G,rfl]);simpa using this
   rw[this,K4]
  .rw[Xk e]at h;rw[Xl ‹e›,K4,K4,L N h]
end
abbrev vY:=List (Int×(Addr×List V))
abbrev kh:=List (Int×(Addr×vY))
def fS:Addr×List V->V:=λx=>.ref x.1
def fF:Addr×vY->V:=λx=>.ref x.1
def BF:V->Bool
 |.int _=>true
 |.str _=>true
 |_=>false
def oy(xs:List V):Bool:=xs.all BF&&decide (xs.length<1000)
theorem FR{xs:List V}(h:oy xs=true):xs.all BF=true:=(UK.mp h).1
theorem F0{xs:List V}(h:oy xs=true):xs.length<1000:=of_decide_eq_true (UK.mp h).2
def kR(fs:Addr):List (Str×V):=bt "first_step" (.ref fs) []
theorem lR(fs:Addr):(kR fs).lookup ("first_step" : Str)=some (.ref fs):=by
 unfold kR;rw[aJ,Xl rfl]
theorem aW(fs:Addr){m:Str}(h:¬ m = "first_step"):(kR fs).lookup m=none:=by
 unfold kR;rw[aJ,Xk h]
 all_goals rfl
structure iK(H:Hp)(k:Int)(sec:vY):Prop where
 ht:∀y∈sec,H y.2.1=some (.tup y.2.2)/\oy y.2.2=true/\y.1/8=k/\0<=y.1/\y.1<64
 ns:(sec.map (·.1)).Nodup
 ne:sec≠[]
structure TabAt(C:Addr)(H:Hp)(p fs:Addr)(tb:kh):Prop where
 ob:∃dx,H p=some (.ins C dx (kR fs))
 hf:H fs=some (.dK (dk fF tb))
 hd:∀x∈tb,H x.2.1=some (.dK (dk fS x.2.2))
 hs:∀x∈tb,iK H x.1 x.2.2
 nk:(tb.map (·.1)).Nodup
 na:∀x∈tb,∀y∈tb,x.2.1=y.2.1->x.1=y.1
 nf:∀x∈tb,x.2.1≠fs
def dN(tb:kh)(q:Int):Option (List V):=(look tb (q/8)).bind λx=>(look x.2 q).map (·.2)
def fK(fs:Addr)(tb:kh):Addr->Prop:=λb=>b=fs\/∃x∈tb,b=x.2.1
theorem iK.keep{H H':Hp}{k:Int}{I:vY}(S:iK H k I)(h:∀b xs,H b=some (.tup xs)->H' b=some (.tup xs)):iK H' k I :=
 #[λy G=>#[h _ _ (S.ht y G).1,(S.ht y G).2],S.ns,S.ne]
theorem TabAt.same{C:Addr}{H H':Hp}{p fs:Addr}{tb:kh}(T:TabAt C H p fs tb)(s:aP H H'):TabAt C H' p fs tb:=by
 let#[#[dx,h1],h2,L,J,O,I,N]:=T;show#[#[dx,s _ _ h1],s _ _ h2,λx G=>s _ _ (L x G),λx G=>(J x G).keep λb xs e=>s _ _ e,O,I,N]
theorem TabAt.put{C:Addr}{H H':Hp}{p fs d:Addr}{tb:kh}{k:Int}{I sec':vY}(T:TabAt C H p fs tb)(N:look tb k=some (d,I))(o:Off (· = d) H H')(hd:H' d=some (.dK (dk fS sec')))(S:iK H' k sec'):TabAt C H' p fs (bg tb k (d,sec')):=by
 let#[#[dx,h1],h2,Y,h4,h5,U,R]:=T;let L:=aA N;let ab:=Y _ L;let O:∀x∈tb,x.1≠k->x.2.1≠d:=λx G hk e=>hk (U x G _ L e);let same:dk fF (bg tb k (d,sec'))=dk fF tb:=by
  let e:=jc (f:=fF) (a:=(d,sec')) N;rw[<-e];let e2:=jc (f:=fF) (a:=(d,I)) N;let e3:fF (d,sec')=fF (d,I):=rfl;rw[e3,e2];unfold dk bg;rw[Ql];show P6 λx G=>?_;change((vr (if x.1=k then(k,(d,I))else x).1:Key),fF (if x.1=k then(k,(d,I))else x).2)=(vr x.1,fF x.2);cases c:x.1=k
  .rw[Xl c,c];have:look tb k=some x.2:=bX h5 (by rw[<-c];show G);rw[N]at this;rw[<-rn this]
  .rw[Xk c]
 show#[#[dx,o _ _ h1 (cY h1 ab (by intro z;cases z))],by rw[same];show o _ _ h2 (qs (R _ L)),λx G=>?_,λx G=>?_,by rw[gw];show h5,λx G y J e=>?_,λx G=>?_]
 .rcases mem_set G with rfl|⟨G,c⟩
  .show hd
  .show o _ _ (Y x G) (O x G c)
 .rcases mem_set G with rfl|⟨G,c⟩
  .show S
  .show(h4 x G).keep λb xs e=>o _ _ e (cY e ab (by intro z;cases z))
 .rcases mem_set G with rfl|⟨G,c⟩<;>rcases mem_set J with rfl|⟨J,c'⟩
  .rfl
  .show absurd e.symm (O y J c')
  .show absurd e (O x G c)
  .show U x G y J e
 .rcases mem_set G with rfl|⟨G,c⟩
  .show(R _ L:d≠fs)
  .show R x G
theorem TabAt.add{C:Addr}{H H':Hp}{p fs d:Addr}{tb:kh}{k:Int}{sec':vY}(T:TabAt C H p fs tb)(hl:look tb k=none)(J:H d=none)(o:Off (· = fs) H H')(hf:H' fs=some (.dK (dk fF (tb++[(k,(d,sec'))]))))(hd:H' d=some (.dK (dk fS sec')))(S:iK H' k sec') :
  TabAt C H' p fs (tb++[(k,(d,sec'))]):=by
 let#[#[dx,h1],h2,N,Y,h5,U,O]:=T;let L:∀x∈tb,x.2.1≠d:=λx G=>au (N x G) J;let R:d≠fs:=λe=>(by rwa[e,h2]at J);show#[#[dx,o _ _ h1 (cY h1 h2 (by intro z;cases z))],hf,λx G=>?_,λx G=>?_,?_,λx G y I e=>?_,λx G=>?_]
 .rcases oR.mp G with G|G
  .show o _ _ (N x G) (O x G)
  .rw[nc.mp G];show hd
 .rcases oR.mp G with G|G
  .show(Y x G).keep λb xs e=>o _ _ e (cY e h2 (by intro z;cases z))
  .rw[nc.mp G];show S
 .rw[L0];show gC h5 (cu hl)
 .rcases oR.mp G with G|G<;>rcases oR.mp I with I|I
  .show U x G y I e
  .rw[nc.mp I]at e;show absurd e (L x G)
  .rw[nc.mp G]at e;show absurd e.symm (L y I)
  .rw[nc.mp G,nc.mp I]
 .rcases oR.mp G with G|G
  .show O x G
  .rw[nc.mp G];show R
theorem TabAt.del{C:Addr}{H H':Hp}{p fs d:Addr}{tb:kh}{k:Int}{S:vY}(T:TabAt C H p fs tb)(hl:look tb k=some (d,S))(o:Off (λb=>b=d\/b=fs) H H')(Y:H' fs=some (.dK (dk fF (bp tb k)))):TabAt C H' p fs (bp tb k):=by
 let#[#[dx,h1],h2,L,U,h5,J,O]:=T;let N:=aA hl;let I:=L _ N;show#[#[dx,o _ _ h1 λz=>z.elim (cY h1 I (by intro z;cases z)) (cY h1 h2 (by intro z;cases z))],Y,λx G=>?_,λx G=>?_,?_,λx G y R e=>J x (cw G).1 y (cw R).1 e,λx G=>O x (cw G).1]
 .let#[G,c]:=cw G;show o _ _ (L x G) λz=>z.elim (λe=>c (J x G _ N e)) (O x G)
 .let#[G,c]:=cw G;show(U x G).keep λb xs e=>o _ _ e λz=>z.elim (cY e I (by intro z;cases z)) (cY e h2 (by intro z;cases z))
 .rw[kq];show h5.filter _
theorem Es:∀(n:Nat)(a:Int)(l:List Int),l.Nodup->(∀x∈l,a<=x/\x<a+n)->l.length<=n
 |0,a,l,_,h=>by
  cases l with
  |nil=>show ti _
  |cons x r=>have:=h x Oz;omega
 |n+1,a,l,I,h=>by
  let R:=Es n a (l.filter λx=>decide (x≠a+n)) (I.filter _) λx L=>by
   let#[h1,h2]:=QM.mp L;let U:=h x h1;let S:x≠a+n:=of_decide_eq_true h2;omega
  let e:(l.filter λx=>decide (x≠a+n)).length+1>=l.length:=by
   clear R h
   induction l with
   |nil=>simp
   |cons x r G =>
    let#[O,J]:=Ov.mp I;rw[P4];cases c:x=a+n
    .rw[Xk (by simp[c])];have:r.filter (λx=>decide (x≠a+n))=r:=by
      rw[SH];intro y N;have:y≠a+n:=λe=>O (by rw[c, <-e];show N);simpa using this
     rw[this];simp
    .rw[Xl ‹c›];have:=G J;rw[K4,K4];show Qq (G J) 1
  omega
theorem iK.len{H:Hp}{k:Int}{G:vY}(S:iK H k G):G.length<=64:=by
 have:=Es 64 0 (G.map (·.1)) S.ns λx I=>by
  let#[y,J,rfl]:=qj.mp I;have:=S.ht y J;omega
 rwa [mu]at this
theorem TabAt.kb{C:Addr}{H:Hp}{p fs:Addr}{tb:kh}(T:TabAt C H p fs tb):∀x∈tb,0<=x.1/\x.1<8:=λx G=>by
 let S:=T.hs x G;cases e:x.2.2 with
 |nil=>show absurd e S.ne
 |cons y r =>
  have:=S.ht y (by rw[e];show Oz);omega
theorem TabAt.len{C:Addr}{H:Hp}{p fs:Addr}{tb:kh}(T:TabAt C H p fs tb):tb.length<=8:=by
 have:=Es 8 0 (tb.map (·.1)) T.nk λx G=>by
  let#[y,I,rfl]:=qj.mp G;have:=T.kb y I;show And.symm ((λ{a b}=>Rp And.comm) this)
 rwa [mu]at this
theorem TabAt.vb{C:Addr}{H:Hp}{p fs:Addr}{tb:kh}(T:TabAt C H p fs tb){q:Int}(h:dN tb q≠none):0<=q/\q<64:=by
 unfold dN at h;cases e:look tb (q/8)with
 |none=>rw[e]at h;show absurd rfl h
 |some a =>
  rw[e,Q5]at h;cases G:look a.2 q with
  |none=>rw[G]at h;show absurd rfl h
  |some b =>
   have:=(T.hs _ (aA e)).ht _ (aA G);omega
end Tb
namespace L2
open PySem PySem.Spec PyProof.Rows
section
variable{X:Cx}
theorem qV{α G:Type}(f:α->G):∀(l:List α)(i:Nat),(l.map f).eraseIdx i=(l.eraseIdx i).map f
 | [],_=>rfl
 |_::_,0=>rfl
 |a::l,i+1=>by
  change f a::(l.map f).eraseIdx i=f a::(l.eraseIdx i).map f;rw[qV f l i]
inductive yz(x:V)(vs:List V)(H:Hp)(Q:VK):Prop
 |mk(l:Addr)(ns:List Int)(k:Int)(_:x=.ref l)(_:vs=[.int k])(_:H l=some (.lst (ns.map V.int)))(_:k∈ns)(_:Q .non (upd H l (.lst ((ns.erase k).map V.int))))
theorem rA:EA X "list.remove" yz:=by
 intros x vs v us Q I S rv h;let#[l,ns,k,rfl,rfl,L,J,q]:=h;cases S;let#[u,rfl,ru]:=rv.one;let#[t,rfl]:=ru;let#[z,its,n,r,N,e]:=I.lL L;let hi:=intsAre_of r;let R:=hi.length;let ab:=N;rw[mu]at N z;let hs:=vl;let G:ns.idxOf k<ns.length:=Pw.mpr J;show QD TN #[_,e,rfl] PySem.F.entry_list_remove (PySem.F.args_list_remove_2 _ _)
  (MeetsSeq.list_remove l its.toArray n (.int k t) (W9 k) (λy O=>eq_isInt k t hi y ‹O›) (ns.idxOf k) (by simpa[R]using G) ?_ ?_ (by rw[qi];omega)) #[e,?_]
 .change W9 k its[ns.idxOf k]=true;rw[Wn k hi _ af G];simpa using Sx G
 .intro j Y U;change W9 k its[j]=false;rw[Wn k hi j ‹Y› af];show ne_of_lt_idxOf U _
 .show#[.non,_,I.Fu (its':=its.eraseIdx (ns.idxOf k)) L e ?_ ?_ ?_,?_,q]
  .change its.toArray.eraseIdxIfInBounds _=(its.eraseIdx _).toArray;rw[RB]
  .rw[List.erase_eq_eraseIdx_of_idxOf rfl, <-qV];show r.eraseIdx _
  .rw[mu];have:=List.length_erase_of_mem J;omega
  .trivial
end
def j7(K:HC)(H:Hp)(a:Addr)(xs:List V):Prop:=H a=some (.tup xs)\/bP K (λ_=>none) a xs
theorem j7.sq{K:HC}{H:Hp}{a:Addr}{xs:List V}(h:j7 K H a xs):bP K H a xs:=by
 rcases h with h|h
 .show bP.of h
 .rcases h with h|h
  .rcases h with h|⟨o,h⟩
   .cases h
   .cases h
  .show .inr h
theorem j7.keep{K:HC}{H H':Hp}{a:Addr}{xs:List V}(h:j7 K H a xs)(s:∀o,H a=some o->H' a=some o):j7 K H' a xs:=by
 rcases h with h|h
 .show .inl (s _ h)
 .show .inr h
theorem j7.off{K:HC}{H H':Hp}{a:Addr}{xs:List V}(h:j7 K H a xs)(s:H a=some (.tup xs)->H' a=some (.tup xs)):j7 K H' a xs:=by
 rcases h with h|h
 .show .inl (s h)
 .show .inr h
theorem Ao{X:Cx}:eJ X (.builtin "isinstance") (λxs H Q=>(∃x n t b,xs=[x,.ty n]/\kO X.K H x t/\IF X.K t (.type n)=some b/\Q (.bl b) H)\/∃a ys,xs=[.ref a,.ty "tuple"]/\bP X.K H a ys/\Q (.bl true) H):=by
 intros xs us Q I r h;rcases h with h|⟨a,ys,rfl,G,q⟩
 .show eM pins s σ H xs us Q I r h
 .let#[u,c,rfl,J,L]:=vals2 r;obtain rfl:c=Value.type "tuple" := L;cases(show u=Value.ref a from J);let#[its,_,#[o,h1,h2,_],_]:=I.tuple G;show OY kitx_tuple I.jP #[o,h1,h2] (HD _) (λz=>nomatch z) λtk=>#[.bl true,H,I.tok _,rfl,q]
end L2
namespace Tb
open PySem L2
structure C6(mg:Xq):Prop where
 wC:mg "isinstance" = none
 tuple:mg "tuple" = none
 list:mg "list" = none
 dict:mg "dict" = none
 len:mg "len" = none
 sorted:mg "sorted" = none
def DP:V->Bool
 |.int _=>true
 |.str _=>true
 |.non=>true
 |_=>false
inductive tW(vs:List V)(H:Hp)(Q:VK)(e:XK):Prop
 |mk(v:_)(_:vs=[v])(_:DP v=true)(_:Q v H)
def xH(K:HC):Sp:=λvs H Q _=>(∃v,vs=[v]/\DP v=true/\Q v H)\/∃(a:Addr)(xs:List V),vs=[.ref a]/\j7 K H a xs/\oy xs=true/\∀H' l,aP H H'->H l=none->H' l=some (.tup xs)->Q (.ref l) H'
theorem Eu:∀{v:V},BF v=true->DP v=true
 |.int _,_=>rfl
 |.str _,_=>rfl
theorem LF:aE ["value","copied","key"] ["value"] (aw yZ):=L2.bN
theorem Ds(F:cE K "own_copy" "own_copy" yZ f fd)(T:C6 mg):↥aV 1 f fd ["value"] tW:=by
 show F.dS LF (λI A outer s H vs Q E J h=>?_);let#[v,rfl,G,k]:=h;show#[_,(aj (aU (gu (aQ eM (by rfl) T.wC bB (aa (pv 0) (aa (fB (v:=.ty "tuple") (by rfl) T.tuple qo rfl) ag)))) (ao eX) aI)
  (aj (aU (gu (aQ eM (by rfl) T.wC bB (aa (pv 0) (aa (fB (v:=.ty "list") (by rfl) T.list fE rfl) ag)))) (ao eX) aI)
  (aj (aU (gu (aQ eM (by rfl) T.wC bB (aa (pv 0) (aa (fB (v:=.ty "dict") (by rfl) T.dict rX rfl) ag)))) (aj eX
  (aj eX
  (ao eX))) aI)
  (ao (aK (pv 0)))))),?_]
 cases v with
 |int i=>show#[0,.int i,"tuple",_,false,rfl,.int i,BA _,false,rfl,b9 #[0,.int i,"list",_,false,rfl,.int i,DF _,false,rfl,b9 #[0,.int i,"dict",_,false,rfl,.int i,Ba _,false,rfl,b9 #[0,k]]]]
 |str i=>show#[0,.str i,"tuple",_,false,rfl,.str i,Cs _,false,rfl,b9 #[0,.str i,"list",_,false,rfl,.str i,Dv _,false,rfl,b9 #[0,.str i,"dict",_,false,rfl,.str i,Bi _,false,rfl,b9 #[0,k]]]]
 |non=>show#[0,.non,"tuple",_,false,rfl,.non,Bl _,false,rfl,b9 #[0,.non,"list",_,false,rfl,.non,D3 _,false,rfl,b9 #[0,.non,"dict",_,false,rfl,.non,CW _,false,rfl,b9 #[0,k]]]]
 |_=>cases G
theorem FA(F:cE K "own_copy" "own_copy" yZ f fd)(T:C6 mg)(U:↥Df 1 "own_copy" tW):↥aV 2 f fd ["value"] (xH K):=by
 show F.ok LF (λvs H Q E h=>?_) (λah A outer s H vs Q E hr h=>?_)
 .rcases h with⟨v,rfl,_⟩|⟨a,xs,rfl,_⟩
  .rfl
  .rfl
 .show#[_,(aj (aU (gu (aQ Ao (by rfl) T.wC bB (aa (pv 0) (aa (fB (v:=.ty "tuple") (by rfl) T.tuple qo rfl) ag)))) (ao (aK (bU qM (by rfl) T.tuple qo (aa (iE (cl:=[]) (caps:=[]) #[rfl,aq,aq,rfl,by kernel_rfl,by intro p L;simp at L,by kernel_rfl,by intro p L;simp at L,aq] rfl (Hj (pv 0)) (λ_ _ _ _=>gB) (λ_ _ _ _=>(pc U hr aC (aa (pv 0) ag)))) ag)))) aI)
   (aj (aU (gu (aQ eM (by rfl) T.wC bB (aa (pv 0) (aa (fB (v:=.ty "list") (by rfl) T.list fE rfl) ag)))) (ao eX) aI)
   (aj (aU (gu (aQ eM (by rfl) T.wC bB (aa (pv 0) (aa (fB (v:=.ty "dict") (by rfl) T.dict rX rfl) ag)))) (aj eX
   (aj eX
   (ao eX))) aI)
   (ao (aK (pv 0)))))),?_]
  rcases h with⟨v,rfl,R,k⟩|⟨a,xs,rfl,I,N,k⟩
  .cases v with
   |int i=>show#[0,.inl #[.int i,"tuple",_,false,rfl,.int i,BA _,false,rfl,b9 #[0,.int i,"list",_,false,rfl,.int i,DF _,false,rfl,b9 #[0,.int i,"dict",_,false,rfl,.int i,Ba _,false,rfl,b9 #[0,k]]]]]
   |str i=>show#[0,.inl #[.str i,"tuple",_,false,rfl,.str i,Cs _,false,rfl,b9 #[0,.str i,"list",_,false,rfl,.str i,Dv _,false,rfl,b9 #[0,.str i,"dict",_,false,rfl,.str i,Bi _,false,rfl,b9 #[0,k]]]]]
   |non=>show#[0,.inl #[.non,"tuple",_,false,rfl,.non,Bl _,false,rfl,b9 #[0,.non,"list",_,false,rfl,.non,D3 _,false,rfl,b9 #[0,.non,"dict",_,false,rfl,.non,CW _,false,rfl,b9 #[0,k]]]]]
   |_=>cases R
  .let hs:=vl;let S:=FR N;let hn:=F0 N;show#[0,.inr #[a,xs,rfl,I.sq,true,rfl,eS ?_]];show#[0,a,rfl,#[xs,I.sq],?_];show zF (xs:=xs) (λi ys H'=>H'=H/\ys=xs.take i) #[1] (λi ys H' _ p=>by rw[p.1];show I.sq) (λi x ys H' hi p=>?_) (λys H' p l hl=>?_)
   .let#[rfl,rfl]:=p;let#[O,ab]:=kQ.mp hi;show#[0,x,rfl,Eu (OG.mp S x (ab▸Qd O)),?_,5]
    .rw[Oj];omega
    .rw[Wx,hi];rfl
   .let#[rfl,rfl]:=p;rw[Pt];show#[l,xs,rfl,.inl #[bw.of ae,λJ G=>?_]];let Y:J≠l:=λz=>(by rwa[z,ae]at G);let ac:H' J=none:=(by rw[ai Y]at G;show G);show k _ J ((av hl).trans (av G)) ac ae
structure Txt(K:HC)(mg:Xq)(C:Addr):Prop where
 cl:qL K C
 nF:dC K C "first_step"
 sp:∃u,mg "STEP_PAGES" = some u/\RelV (.int 8) u
def K8(H:Hp)(v:V):Option (List V)->Prop
 |none=>v=.non
 |some xs=>∃t,v=.ref t/\H t=some (.tup xs)
inductive jj(C:Addr)(v:List V)(H:Hp)(Q:VK)(e:XK):Prop
 |mk(p dx:Addr)(_:v=[.ref p])(_:H p=some (.ins C dx []))(_:∀(fs:Addr)(H':Hp),H fs=none->TabAt C H' p fs []->Off (· = p) H H'->Q .non H')
inductive rT(C:Addr)(vs:List V)(H:Hp)(Q:VK)(e:XK):Prop
 |mk(p fs:Addr)(tb:kh)(q:Int)(_:vs=[.ref p,.int q])(_:TabAt C H p fs tb)(_:∀H' v,aP H H'->K8 H' v (dN tb q)->Q v H')
inductive uR(K:HC)(C:Addr)(v:List V)(H:Hp)(Q:VK)(e:XK):Prop
 |mk(p fs t:Addr)(tb:kh)(q:Int)(xs:List V)(_:v=[.ref p,.int q,.ref t])(_:TabAt C H p fs tb)(_:0<=q)(_:q<64)(_:j7 K H t xs)(_:oy xs=true)(_:∀H' tb',TabAt C H' p fs tb'->(∀j,dN tb' j=if j=q then some xs else dN tb j)->Off (fK fs tb) H H'->(∀b,fK fs tb' b->fK fs tb b\/H b=none)->Q .non H')
inductive tG(C:Addr)(v:List V)(H:Hp)(Q:VK)(e:XK):Prop
 |mk(p fs:Addr)(tb:kh)(q:Int)(_:v=[.ref p,.int q])(_:TabAt C H p fs tb)(_:∀H' tb',TabAt C H' p fs tb'->(∀j,dN tb' j=if j=q then none else dN tb j)->(tb'.length=tb.length\/tb'.length+1=tb.length)->Off (fK fs tb) H H'->(∀b,fK fs tb' b->fK fs tb b\/H b=none)->Q .non H')
def gA(tb:kh):List Int:=tb.flatMap λx=>x.2.2.map (·.1)
inductive dH(C:Addr)(v:List V)(H:Hp)(Q:VK)(e:XK):Prop
 |mk(p fs:Addr)(tb:kh)(_:v=[.ref p])(_:TabAt C H p fs tb)(_:∀H' l (ns:List Int),aP H H'->H l=none->H' l=some (.lst (ns.map V.int))->ns.Perm (gA tb)->ns.Pairwise (· <= ·)->Q (.ref l) H')
theorem vx{C:Addr}{H:Hp}{p fs:Addr}{tb:kh}(T:TabAt C H p fs tb)(q:Int):q∈gA tb↔dN tb q≠none:=by
 unfold gA;rw[RL];constructor
 .rintro⟨x,G,L⟩;let#[y,I,rfl]:=qj.mp L;let S:=T.hs x G;unfold dN;rw[(S.ht y I).2.2.1,bX T.nk G,Q5,bX S.ns I];simp
 .intro h;unfold dN at h;cases e:look tb (q/8)with
  |none=>rw[e]at h;show absurd rfl h
  |some a =>
   rw[e,Q5]at h;cases J:look a.2 q with
   |none=>rw[J]at h;show absurd rfl h
   |some b=>show#[_,aA e,qj.mpr #[_,aA J,rfl]]
theorem kr{C:Addr}{H:Hp}{p fs:Addr}{tb:kh}(T:TabAt C H p fs tb):(gA tb).Nodup:=by
 let hs:=T.hs;let hk:=T.nk;clear T
 induction tb with
 |nil=>show Qo
 |cons x r ih =>
  let#[Y,O]:=Ov.mp (show(x.1::r.map (·.1)).Nodup from hk);change(x.2.2.map (·.1)++gA r).Nodup;rw[Ry];show#[(hs x Oz).ns,ih (λy G=>hs y (Ou _ G)) O,λa S b I e=>Y ?_];let#[y,G,rfl]:=qj.mp S;let#[z,L,I]:=RL.mp I;let#[J,U,rfl]:=qj.mp I;let N:=((hs x Oz).ht y G).2.2.1;let R:=((hs z (Ou _ L)).ht J U).2.2.1;let e':y.1=J.1:=e;rw[<-N,e',R];show qj.mpr #[z,L,rfl]
theorem uN{C:Addr}{H:Hp}{p fs:Addr}{tb:kh}(T:TabAt C H p fs tb)(i:Nat):(gA (tb.take i)).length<=64:=by
 let h1:(gA tb).length<=64:=Es 64 0 (gA tb) (kr T) λx G=>by
  have:=T.vb ((vx T x).mp G);show And.symm ((λ{a b}=>Rp And.comm) this)
 let h2:(gA (tb.take i)).length<=(gA tb).length:=by
  conv=>rhs;rw[<-PR i tb]
  unfold gA;rw[Sg,wh];omega
 show L1 h2 h1
theorem vL{tb:kh}{q:Int}{d:Addr}{G:vY}(h:look tb (q/8)=some (d,G)):dN tb q=(look G q).map (·.2):=by
 unfold dN;rw[h,Q5]
theorem uM{tb:kh}{q:Int}(h:look tb (q/8)=none):dN tb q=none:=by
 unfold dN;rw[h];rfl
theorem rS{tb:kh}{k q:Int}{d:Addr}{G sec':vY}{o:Option (Addr×List V)}(I:look tb k=some (d,G))(J:q/8=k)(h:∀j,look sec' j=if j=q then o else look G j)(j:Int) :
  dN (bg tb k (d,sec')) j=if j=q then o.map (·.2)else dN tb j:=by
 unfold dN;rw[bT (j/8) I];cases c:j/8=k
 .rw[Xl c,Q5,h j,c,I,Q5];cases e:j=q
  .rw[Xl e,Xl e]
  .rw[Xk e,Xk e]
 .rw[Xk c,Xk (λe=>c (by rw[e];show J))]
theorem zS{tb:kh}{k q:Int}{d:Addr}{sec':vY}{o:Option (Addr×List V)}(G:look tb k=none)(I:q/8=k)(h:∀j,look sec' j=if j=q then o else none)(j:Int) :
  dN (tb++[(k,(d,sec'))]) j=if j=q then o.map (·.2)else dN tb j:=by
 unfold dN;rw[bC (j/8) G];cases c:j/8=k
 .rw[Xl c,Q5,h j,c,G];cases e:j=q
  .rw[Xl e,Xl e]
  .rw[Xk e,Xk e];rfl
 .rw[Xk c,Xk (λe=>c (by rw[e];show I))]
theorem zG{tb:kh}{k q:Int}{d:Addr}{G:vY}(J:look tb k=some (d,G))(I:q/8=k)(h:∀j,j≠q->look G j=none)(j:Int) :
  dN (bp tb k) j=if j=q then none else dN tb j:=by
 unfold dN;rw[cB];cases c:j/8=k
 .rw[Xl c,c,J];cases e:j=q
  .rw[Xl e];rfl
  .rw[Xk e,Q5,h j e];rfl
 .rw[Xk c,Xk (λe=>c (by rw[e];show I))]
theorem FX{H:Hp}{k q:Int}{I:vY}{l:Addr}{xs:List V}(S:iK H k I)(O:H l=some (.tup xs))(J:oy xs=true)(N:q/8=k)(L:0<=q)(h1:q<64) :
  ∃sec',putK (dk fS I) (vr q) (.ref l)=dk fS sec'/\(∀j,look sec' j=if j=q then some (l,xs)else look I j)/\iK H k sec':=by
 cases e:look I q with
 |none =>
  show#[I++[(q,(l,xs))],cV (f:=fS) (a:=(l,xs)) e,λj=>bC j e,λy G=>?_,?_,by simp]
  .rcases oR.mp G with G|G
   .show S.ht y G
   .rw[nc.mp G];show#[O,J,N,L,h1]
  .rw[L0];show gC S.ns (cu e)
 |some b =>
  show#[bg I q (l,xs),jc (f:=fS) (a:=(l,xs)) e,λj=>bT j e,λy G=>?_,3]
  .rcases mem_set G with rfl|⟨G,_⟩
   .show#[O,J,N,L,h1]
   .show S.ht y G
  .rw[gw];show S.ns
  .intro z;have:=iu I q (l,xs);rw[z]at this;show S.ne (OW.mp this.symm)
theorem jb{B:Xm}{H H' G:Hp}(s:aP H H')(o:Off B H' G):Off B H G:=λb u e I=>o b u (s b u e) I
theorem tP{B:Xm}{H:Hp}{a:Addr}{X:HO}(h:B a):Off B H (upd H a X):=λb u e G=>by rw[ai (λz=>G (by rw[z];show h))];show e
theorem Off.mono{B G:Xm}{H H':Hp}(o:Off B H H')(h:∀b,B b->G b):Off G H H':=λb u e I=>o b u e λz=>I (h b z)
theorem Jj{C:Addr}{H:Hp}{p fs:Addr}{tb:kh}(T:TabAt C H p fs tb):(dk fF tb).length<sizeLine:=by
 let h:=T.len;let hs:=vl;rw[cR];omega
theorem Hg{H:Hp}{k:Int}{G:vY}(S:iK H k G):(dk fS G).length<sizeLine:=by
 let h:=S.len;let hs:=vl;rw[cR];omega
theorem ze{fs d:Addr}{tb:kh}{k:Int}{J sec':vY}(I:(k,(d,J))∈tb){b:Addr}(h:fK fs (bg tb k (d,sec')) b):fK fs tb b:=by
 rcases h with h|⟨x,G,h⟩
 .show .inl h
 .rcases mem_set G with rfl|⟨G,_⟩
  .show .inr #[_,I,h]
  .show .inr #[x,G,h]
theorem Ez{fs:Addr}{tb:kh}{k:Int}{b:Addr}(h:fK fs (bp tb k) b):fK fs tb b:=by
 rcases h with h|⟨x,G,h⟩
 .show .inl h
 .show .inr #[x,(cw G).1,h]
theorem lX(tb:kh)(k:Int):eL (dk fF tb) (vr k)=(look tb k).map fF:=dg fF k tb
theorem wt(G:vY)(k:Int):eL (dk fS G) (vr k)=(look G k).map fS:=dg fS k G
theorem Nd:aE ["self"] ["self"] (aw pU):=L2.bN
theorem sM{C:Addr}(F:cE K "__init__" "Table.__init__" pU f fd)(T:Txt K mg C):↥aV 1 f fd ["self"] (jj C):=by
 show F.dS Nd (λN A outer s H vs Q E O h=>?_);let#[p,dx,rfl,J,k]:=h;show#[_,(ao (gp (pv 0) dQ rfl)),?_];intro fs I;let np:p≠fs:=au J I;show#[0,p,C,dx,[],rfl,by rw[ai np];show J,T.cl,T.nF,ar,?_];show k fs _ I #[#[dx,by rw[ae];rfl],by rw[ai (qs np),ae];rfl,λx G=>(DO G).elim,λx G=>(DO G).elim,.nil,λx G=>(DO G).elim,λx G=>(DO G).elim] λb u e L=>?_;rw[ai L,ai (au e I)];show e
theorem ND:aE ["self","page","second"] ["self","page"] (aw HE):=L2.bN
theorem HA{C:Addr}(F:cE K "get" "Table.get" HE f fd)(T:Txt K mg C)(U:↥Df 2 "own_copy" (xH K)):↥aV 3 f fd ["self","page"] (rT C):=by
 let#[u8,N,R]:=T.sp;show F.dS ND (λab A outer s H vs Q E J h=>?_);let#[p,fs,tb,q,rfl,TT,k]:=h;let#[dx,h1]:=TT.ob;show#[_,(aj (dt 2 ND.nd (vR (bz J) (aL (pv 0) rfl) (az bo (pv 1) (bM (by rfl) N R)) dQ #[1,1]))
  (ao (aK (pc U J aC (aa (Cc (bz J) (pv 2) (pv 1) #[1,1]) ag))))),?_]
 show#[0,p,C,dx,_,.ref fs,rfl,h1,T.cl,T.nF,lR fs,fs,rfl,.inl #[_,.inl TT.hf],0,_,0,rfl,#[ar,ar],λe Y=>?_];let G:=av (X:=.dK []) Y;let I:=TT.same G;show#[_,dY.k (k:=.inl (q/8)) I.hf,?_];rw[lX];cases c:look tb (q/8)with
 |none =>
  show#[0,e,rfl,.inl #[_,.inl ae],0,_,dY.k (k:=.inl q) ae,.inl #[.non,1,k _ _ G ?_]];rw[uM c];rfl
 |some a =>
  let#[d,O]:=a;let L:=aA c;let hd:=I.hd _ L;show#[0,d,rfl,.inl #[_,.inl hd],0,_,dY.k (k:=.inl q) hd,?_];rw[wt];let le:=vL c;cases c2:look O q with
  |none =>
   show .inl #[.non,1,k _ _ G ?_];rw[le,c2];rfl
  |some b =>
   let#[t,xs]:=b;let hs:=(I.hs _ L).ht _ (aA c2);show .inr #[t,xs,rfl,.inl hs.1,hs.2.1,λH' l s' ac S=>k _ _ (G.trans s') ?_];rw[le,c2];show#[l,rfl,S]
theorem LM:aE ["self","page","entry","second"] ["self","page","entry"] (aw IZ):=L2.bN
theorem Ja{C:Addr}(F:cE K "lay" "Table.lay" IZ f fd)(T:Txt K mg C)(GC:↥Df 2 "own_copy" (xH K)):↥aV 3 f fd ["self","page","entry"] (uR K C):=by
 let#[u8,m8,r8]:=T.sp;show F.dS LM (λap A outer s H vs Q E hr h=>?_);let#[p,fs,t,tb,q,xs,rfl,TT,q0,q1,ht,G,k]:=h;let#[dx,h1]:=TT.ob;show#[_,(aj (dt 3 LM.nd (CO (aL (pv 0) rfl) (az bo (pv 1) (bM (by rfl) m8 r8)) dQ #[1,1]))
  (ao (kA (bz hr) (pv 3) (pv 1) (pc GC hr aC (aa (pv 2) ag)) rfl))),?_]
 show#[0,p,C,dx,_,.ref fs,rfl,h1,T.cl,T.nF,lR fs,fs,rfl,.inl #[_,.inl TT.hf],0,_,0,rfl,#[ar,ar],λe N=>?_];let U:=av (X:=.dK []) N;let T1:=TT.same U;show#[_,.inl (q/8),T1.hf,rfl,Jj T1,λv I=>?_,λI=>?_]
 .rw[lX]at I;cases c:look tb (q/8)with
  |none=>rwa[c]at I
  |some a =>
   let#[d,am]:=a;rw[c]at I;obtain rfl:V.ref d=v:=rn I;let O:=aA c;show#[0,.inr #[t,xs,rfl,ht.keep λo e=>U _ _ e,G,λH2 l s2 ah S=>?_]];let R:=T1.same s2;let#[sec',Y,e2,S']:=FX (R.hs _ O) S G rfl q0 q1;let hd:=R.hd _ O;show#[0,0,d,0,hU.k (k:=.inl q) hd (Hg (R.hs _ O)),?_];rw[Y];let L:Off (· = d) H2 (upd H2 d (.dK (dk fS sec'))):=tP rfl;show k _ _ (R.put c L ae (S'.keep λb ys J=>L _ _ J (cY J hd (by intro z;cases z)))) (λj=>rS c rfl e2 j) (jb (U.trans s2) (L.mono λb z=>.inr #[_,O,z])) λb z=>.inl (ze O z)
 .rw[lX]at I;let c:look tb (q/8)=none:=by
   cases c:look tb (q/8)with
   |none=>rfl
   |some a=>rwa[c]at I
  let ep:putK (dk fF tb) (vr (q/8)) (.ref e)=dk fF (tb++[(q/8,(e,[]))]):=cV (f:=fF) (a:=(e,[])) c;rw[ep];let ef:e≠fs:=λz=>au TT.hf N z.symm;let hE:upd (upd H e (.dK [])) fs (.dK (dk fF (tb++[(q/8,(e,[]))]))) e=some (.dK []):=(by rw[ai ef,ae]);let o1:Off (· = fs) H (upd (upd H e (.dK [])) fs (.dK (dk fF (tb++[(q/8,(e,[]))])))):=λb u J hb=>(by rw[ai hb,ai (au J N)];show J);show#[0,.inr #[t,xs,rfl,ht.off λe=>o1 _ _ e (cY e TT.hf (by intro z;cases z)),G,λH2 l s2 ah S=>?_]];let ab:=s2 _ _ hE;show#[0,0,e,0,hU.k (k:=.inl q) ab ar,?_];let Y:putK ([]:List (Key×V)) (vr q) (.ref l)=dk fS [(q,(l,xs))]:=rfl;rw[Y];let L:Off (· = e) H2 (upd H2 e (.dK (dk fS [(q,(l,xs))]))):=tP rfl;let oA:Off (· = fs) H (upd H2 e (.dK (dk fS [(q,(l,xs))]))):=λb u J hb=>L b u (s2 _ _ (o1 b u J hb)) (au J N);let ac:(upd H2 e (.dK (dk fS [(q,(l,xs))]))) l=some (.tup xs):=L _ _ S (cY S ab (by intro z;cases z));show k _ _ (TT.add (sec':=[(q,(l,xs))]) c N oA ?_ ae #[λy hy=>?_,?_,by simp]) (λj=>zS (o:=some (l,xs)) c rfl (λj=>?_) j) (oA.mono λb z=>.inl z) λb z=>?_
  rotate_left 4
  .rcases z with z|⟨x,G,z⟩
   .show .inl (.inl z)
   .rcases oR.mp G with G|G
    .show .inl (.inr #[x,G,z])
    .rw[nc.mp G]at z;rw[z];show .inr N
  .show L _ _ (s2 _ _ ae) (qs ef) |>.trans ?_;unfold dk;rw[L0,L0];rfl
  .rw[nc.mp hy];show#[ac,G,rfl,q0,q1]
  .simp
  .rw[aR,iW];cases z:j=q
   .rw[Xl z,Xl z.symm]
   .rw[Xk z,Xk (qs z)]
theorem Mt:aE ["self","page","k","second"] ["self","page"] (aw wq):=L2.bN
theorem AY{C:Addr}(F:cE K "clear" "Table.clear" wq f fd)(T:Txt K mg C)(TP:C6 mg):↥aV 1 f fd ["self","page"] (tG C):=by
 let#[u8,m8,r8]:=T.sp;let R:=T;show F.dS Mt (λam A outer s H vs Q E hr h=>?_);let#[p,fs,tb,q,rfl,TT,k]:=h;let#[dx,h1]:=TT.ob;replace T:=TP;show#[_,(aj (dt 2 Mt.nd (az bo (pv 1) (bM (by rfl) m8 r8)))
  (aj (dt 3 Mt.nd (vR (bz hr) (aL (pv 0) rfl) (pv 2) dQ #[1,1]))
  (aj (aU (iZ (gT (bz hr) (pv 1) (pv 3))) (ao tQ) aI)
  (aj (aO (fN (pv 3) (pv 1) #[1,1]))
  (ao (aU (aD bH (aQ mD (by rfl) T.len boot_len (aa (pv 3) ag)) ak (aG _)) (ao (aO (fN (aL (pv 0) rfl) (pv 2) #[1,1]))) aI)))))),?_]
 show#[0,_,0,rfl,#[ar,ar],?_];show#[0,p,C,dx,_,.ref fs,rfl,h1,R.cl,R.nF,lR fs,fs,rfl,.inl #[_,.inl TT.hf],0,λe he=>?_];let J:=av (X:=.dK []) he;let I:=TT.same J;show#[_,dY.k (k:=.inl (q/8)) I.hf,?_];rw[lX];cases c:look tb (q/8)with
 |none =>
  show#[0,0,e,0,dY.k (k:=.inl q) ae,true,rfl,eS ?_];show k _ _ I (λj=>?_) (.inl rfl) (jb J λb u N _=>N) λb z=>.inl z;cases z:j=q
  .rw[Xl z,z];show uM c
  .rw[Xk z]
 |some a =>
  let#[d,G]:=a;let L:=aA c;let hd:=I.hd _ L;let S:=I.hs _ L;show#[0,0,d,0,dY.k (k:=.inl q) hd,?_];rw[wt];cases c2:look G q with
  |none =>
   show#[true,rfl,eS ?_];show k _ _ I (λj=>?_) (.inl rfl) (jb J λb u N _=>N) λb z=>.inl z;cases z:j=q
   .rw[Xl z,z,vL c,c2];rfl
   .rw[Xk z]
  |some b =>
   show#[false,rfl,b9 ?_];show#[0,d,rfl,.inl #[_,.inl hd],0,_,.inl q,fS b,hd,rfl,by rw[wt,c2];rfl,?_];rw[fM];show#[0,d,0,ae,5];let O:Off (· = d) (upd H e (.dK [])) (upd (upd H e (.dK [])) d (.dK (dk fS (bp G q)))):=tP rfl;cases z:bp G q=[]
   .let Y:decide (V.int ((dk fS (bp G q)).length:Nat)=V.int 0)=true:=(by rw[z];rfl);rw[Y];show#[true,rfl,eS ?_];let ac:d≠fs:=TT.nf _ L;let ab:(upd (upd H e (.dK [])) d (.dK (dk fS (bp G q)))) fs=some (.dK (dk fF tb)):=O _ _ I.hf (qs ac);let ah:(upd (upd H e (.dK [])) d (.dK (dk fS (bp G q)))) p=some (.ins C dx (kR fs)):=O _ _ (J _ _ h1) (cY (J _ _ h1) hd (by intro z;cases z));show#[0,p,C,dx,_,.ref fs,rfl,ah,R.cl,R.nF,lR fs,fs,rfl,.inl #[_,.inl ab],0,_,.inl (q/8),fF (d,G),ab,rfl,by rw[lX,c];rfl,?_];rw[fM];let o3:Off (λb=>b=d\/b=fs) (upd H e (.dK [])) (upd (upd (upd H e (.dK [])) d (.dK (dk fS (bp G q)))) fs (.dK (dk fF (bp tb (q/8))))):=λb u N hb=>by
     rw[ai λz=>hb (.inr z),ai λz=>hb (.inl z)];show N
    show k _ _ (I.del c o3 ae) (λj=>zG c rfl (λj hj=>?_) j) (.inr ?_) (jb J (o3.mono λb z=>z.elim (λz=>.inr #[_,L,z]) .inl)) λb z=>.inl (Ez z)
    .have:=cB G q j;rw[z,iW,Xk hj]at this;show this.symm
    .show nj TT.nk c
   .let Y:decide (V.int ((dk fS (bp G q)).length:Nat)=V.int 0)=false:=decide_eq_false λy=>by
     injection y with y;rw[cR]at y;show z (OW.mp af)
    rw[Y];show#[false,rfl,b9 ?_];let S2:iK (upd (upd H e (.dK [])) d (.dK (dk fS (bp G q)))) (q/8) (bp G q):=#[λy hy=>?_,?_,z]
    .show k _ _ (I.put c O ae S2) (λj=>rS c rfl (λj=>cB G q j) j) (.inl (iu _ _ _)) (jb J (O.mono λb z=>.inr #[_,L,z])) λb z=>.inl (ze L z)
    .let U:=S.ht y (cw hy).1;show#[O _ _ U.1 (cY U.1 hd (by intro z;cases z)),U.2]
    .rw[kq];show S.ns.filter _
theorem Kq:aE ["self","found","k"] ["self"] (aw wQ):=L2.bN
theorem DL{C:Addr}(F:cE K "pages" "Table.pages" wQ f fd)(N:Txt K mg C)(T:C6 mg):↥aV 1 f fd ["self"] (dH C):=by
 show F.dS Kq (λas A outer s H vs Q E hr h=>?_);let#[p,fs,tb,rfl,TT,k]:=h;let#[dx,h1]:=TT.ob;let G:=TT.hf;let hs:=vl;show#[_,(aj (dt 1 Kq.nd (bV ag))
  (aj (m5 (dD Ol rfl (sE (aL (pv 0) rfl)) (gH 2 Kq.nd) (ao (aO (gq OM Qy TU (yg rfl) (pv 1) (aa (bJ (bz hr) (aL (pv 0) rfl) (pv 2) cz) ag))))))
  (ao (aK (aQ sJ (by rfl) T.sorted AD (aa (pv 1) ag)))))),?_]
 let ab:∀o U,H fs≠some (.cW o U):=λo U z=>(by rwa[G]at z);show#[ar,λl I=>?_];let sl:=av (X:=.lst []) I;let O:l≠fs:=λz=>au G I z.symm;let am:p≠l:=au h1 I;let ah:p≠fs:=cY h1 G (by intro z;cases z);show#[0,p,C,dx,_,.ref fs,rfl,sl _ _ h1,N.cl,N.nF,lR fs,fs,0,sl _ _ G,ab,λo=>?_];show uW (kvs:=dk fF tb) (λi σ H'=>H'=upd (upd H l (.lst ((gA (tb.take i)).map V.int))) fs (.cW o (.dK (dk fF tb)))/\∃v,σ=#v[.ref p,.ref l,v]) #[rfl,0] (λi σ H' _ h=>by rw[h.1,ae]) (λi k v σ H' hi h=>?_) (λσ H' h=>?_)
 .let#[rfl,v',rfl]:=h;unfold dk at hi;rw[t5]at hi;cases e:tb[i]? with
  |none=>rwa[e]at hi
  |some x =>
   rw[e]at hi;let#[rfl,rfl]:=Th (rn hi);let L:x∈tb:=z6 e;let hd:=TT.hd x L;let dl:x.2.1≠l:=au hd I;let df:x.2.1≠fs:=TT.nf x L;let aB:i<tb.length:=(kQ.mp e).1;let Es:=uN TT i;let bx:=(TT.hs x L).len;let S:(upd (upd H l (.lst ((gA (tb.take i)).map V.int))) fs (.cW o (.dK (dk fF tb)))) l=some (.lst ((gA (tb.take i)).map V.int)):=(by rw[ai O,ae]);show#[0,.inl #[4,bw.of S],0,p,C,dx,_,.ref fs,rfl,by rw[ai ah,ai am];show h1,N.cl,N.nF,lR fs,0,fs,.ref x.2.1,rfl,.inl #[dk fF tb,.inl x.1,.inr #[o,ae],5],l,x.2.1,_,dk fS x.2.2,1,S,by rw[ai df,ai dl];show hd,3]
   .rw[lX,bX TT.nk L];rfl
   .rw[mu,cR];omega
   .show#[?_,0];rw[Wx,e];funext b;cases z:b=l
    .rw[z,ae,ai O,ae];let ek:(dk fS x.2.2).map (λkv=>kV kv.1)=(x.2.2.map (·.1)).map V.int:=by
      unfold dk;rw[Ql,Ql];rfl
     rw[ek, <-L0];unfold gA;rw[Sg];simp
    .rw[ai z];cases R:b=fs
     .rw[R,ae,ae]
     .rw[ai R,ai R,ai z,ai z]
 .let#[rfl,v',rfl]:=h;show#[fs,o,_,ae,ab,?_];rw[cR,Pt];let e0:upd (upd (upd H l (.lst ((gA tb).map V.int))) fs (.cW o (.dK (dk fF tb)))) fs (.dK (dk fF tb))=upd H l (.lst ((gA tb).map V.int)):=by
   funext b;cases z:b=fs
   .rw[z,ae,ai (qs O)];show G.symm
   .rw[ai z,ai z]
  rw[e0];let Es:=uN TT tb.length;rw[Pt]at Es;let ap:=av (X:=.lst ((gA tb).map V.int)) I;show#[0,l,gA tb,rfl,bw.of ae,kr TT,af,λY ns' J hp hs=>?_];let ac:Y≠l:=λz=>(by rwa[z,ae]at J);show k _ Y ns' (ap.trans (av J)) (by rw[ai ac]at J;show J) ae hp hs
end Tb
namespace Rm
open PySem L2
def top(i:Nat):Ow:=PySem.Challenge.pw_ownroom_k10_rooms_deed_by_deed.main.body.getD i (.Pass #[(0),(0),(0),(0)])
abbrev iA:Ow:=top 20
abbrev js:Ow:=top 21
abbrev uc:Ow:=top 22
abbrev nU:Ow:=top 23
abbrev lq:Ow:=top 24
abbrev uD:Ow:=top 25
abbrev B6:Ow:=top 26
theorem av{H:Hp}{l:Addr}{X:HO}(h:H l=none):aP H (upd H l X):=λb o e=>by rw[ai (au e h)];show e
theorem E5{H H':Hp}{l:Addr}{X:HO}(s:aP H H')(h:H l=none):aP H (upd H' l X):=λb o e=>by rw[ai (au e h)];show s b o e
structure pj(K:HC)(mg:Xq)(x:Str)(C:Addr):Prop where
 HS:mg x=some (.ref C)
 Ir:excIn K C Cj "ValueError.__new__" = true
structure yj(mg:Xq):Prop where
 vb:∃u,mg "ROOM_PAGES" = some u/\RelV (.int 64) u
 cells:∃u,mg "PAGE_CELLS" = some u/\RelV (.int 8) u
 list:mg "list" = none
 range:mg "range" = none
 len:mg "len" = none
def bq(p m:Int):Prop:=m<1\/p<0\/64<p+m
def aM(p m:Int):List Int:=(NC m.toNat).map λk:Nat=>p+k
inductive dv(v:List V)(H:Hp)(Q:VK)(e:XK):Prop
 |mk(p m:Int)(_:v=[.int p,.int m])(_:¬ bq p m)(_:∀(H':Hp)(l:Addr),aP H H'->H l=none->H' l=some (.lst ((aM p m).map V.int))->Q (.ref l) H')
theorem jg(q:Int):∀G:List Int,HY (.int q) (G.map V.int)=decide (q∈G)
 | []=>rfl
 |m::G=>by
  let I:=jg q G;unfold HY at I ⊢;rw[PM,UC,I];cases e:q=m
  .rw[e];simp[mM]
  .let J:m≠q:=qs e;simp[mM,e,J]
inductive iq(v:List V)(H:Hp)(Q:VK)(e:XK):Prop
 |mk(a b:Addr)(ms ps:List Int)(_:v=[.ref a,.ref b])(_:H a=some (.lst (ms.map V.int)))(_:H b=some (.lst (ps.map V.int)))(_:(∀q∈ps,q∈ms))(_:Q .non H)
theorem Ke:aE ["page","many"] ["page","many"] (aw iA):=L2.bN
theorem tX(F:cE K "pages_from" "pages_from" iA f fd)(T:yj mg):↥aV 1 f fd ["page","many"] dv:=by
 let#[ah,R,ab]:=T.vb;show F.dS Ke (λac A outer s H vs Q E hr h=>?_);let#[p,m,rfl,G,O]:=h;let hs:=vl;let L:¬ m<1:=λz=>G (.inl z);let N:¬ p<0:=λz=>G (.inr (.inl z));let d3:¬ 64<p+m:=λz=>G (.inr (.inr z));show#[_,(aj (aU (PW.pt (ie (aD fP (pv 1) ak (aG _)) (ie (aD fP (pv 0) ak (aG _)) (gO (aD iL (az bu (pv 0) (pv 1)) (bM (by rfl) R ab) (aG _)))))) dh aI)
  (ao (aK (bU (pG rfl) (by rfl) T.list fE (aa (bU zI (by rfl) T.range D1 (aa (pv 0) (aa (az bu (pv 0) (pv 1)) ag))) ag))))),?_]
 show gY λ_ S Y=>?_;clear S;show#[0,_,0,rfl,0,?_];show gM (λc=>absurd (of_decide_eq_true c) L) (λ_=>?_);show#[0,_,0,rfl,0,?_];show gM (λc=>absurd (of_decide_eq_true c) N) (λ_=>?_);show#[0,0,_,0,4,0,rfl,0,?_];show pV (λc=>absurd (of_decide_eq_true c) d3) (λ_=>Y _ ?_);show#[0,0,0,_,0,rfl,p,p+m,rfl,λpr U=>?_];let I:=av (X:=.rng p (p+m)) U;show#[pr,p,m.toNat,rfl,by rw[ae,Rh af],af,af,af,λl J=>?_];show O _ l (I.trans (av J)) (I.free J) ?_;rw[ae];unfold aM;rw[Ql];rfl
theorem FL:aE ["mapped","pages","page"] ["mapped","pages"] (aw js):=L2.bN
theorem vz(F:cE K "refuse_unmapped" "refuse_unmapped" js f fd):↥aV 1 f fd ["mapped","pages"] iq:=by
 show F.dS FL (λS A outer s H vs Q E Y h=>?_);let#[a,b,U,ps,rfl,N,I,O,L]:=h;show#[_,(ao (dD Ol rfl (eQ (pv 1)) (gH 2 FL.nd) (ao (aU (aD iD (pv 2) (pv 0) (by with_unfolding_all rfl)) dh aI)))),?_];show#[0,b,rfl,#[_,bw.of I],?_];show eV (K:=K) (a:=b) (xs:=ps.map V.int) (λi σ H2=>∃v2:Option V,σ=#v[.ref a,.ref b,v2]/\H2=H) #[0,rfl] (λi σ H2 _ R=>by let#[_,_,e]:=R;rw[e];show bw.of I) ?_ ?_
 .rintro i x σ H2 G ⟨v2,rfl,rfl⟩;rw[t5]at G;let#[q,J,rfl]:=o8.mp G;show#[0,0,a,0,.inl (bw.of N),rfl,fj _,0,?_];rw[jg,decide_eq_true (O q (z6 J))];show b9 #[0,rfl]
 .rintro σ H2 ⟨v2,rfl,rfl⟩;show L
theorem jI{p m:Int}(h:¬ bq p m):∀q∈aM p m,0<=q/\q<64/\q.natAbs.log2<1920:=λq G=>by
 unfold aM at G;let#[k,L,rfl]:=qj.mp G;rw[OH]at L;let h1:¬ m<1:=λz=>h (.inl z);let h2:¬ p<0:=λz=>h (.inr (.inl z));let N:¬ 64<p+m:=λz=>h (.inr (.inr z));show#[af,af,?_];cases z:(p+(k:Int)).natAbs=0
 .rw[z];decide
 .rw[log2_lt z];let J:(p+(k:Int)).natAbs<64:=af;let I:(64:Nat)<2^1920:=aq;show Wo J I
inductive mX(v:List V)(H:Hp)(Q:VK)(e:XK):Prop
 |mk(a:Addr)(ms:List Int)(p m:Int)(_:v=[.ref a,.int p,.int m])(_:H a=some (.lst (ms.map V.int)))(_:¬ bq p m)(_:(∀q∈aM p m,¬ q∈ms))(_:∀(H':Hp)(l:Addr),aP H H'->H l=none->H' l=some (.lst ((aM p m).map V.int))->Q (.ref l) H')
inductive oH(v:List V)(H:Hp)(Q:VK)(e:XK):Prop
 |mk(a:Addr)(ms:List Int)(p m:Int)(_:v=[.ref a,.int p,.int m])(_:H a=some (.lst (ms.map V.int)))(_:¬ bq p m)(_:(∀q∈aM p m,q∈ms))(_:∀(H':Hp)(l:Addr),aP H H'->H l=none->H' l=some (.lst ((aM p m).map V.int))->Q (.ref l) H')
def dX(ad:Int):Int:=ad/8
def dW(ad n:Int):Int:=(ad+n-1)/8-ad/8+1
def cD(ad n:Int)(G:List Int):Prop:=n<0\/(0<n/\(bq (dX ad) (dW ad n)\/¬ ∀q∈aM (dX ad) (dW ad n),q∈G))
def ay(ad n:Int):List Int:=if n=0 then[]else aM (dX ad) (dW ad n)
inductive jy(v:List V)(H:Hp)(Q:VK)(e:XK):Prop
 |mk(a:Addr)(ms:List Int)(ad n:Int)(_:v=[.ref a,.int ad,.int n])(_:H a=some (.lst (ms.map V.int)))(_:¬ cD ad n ms)(_:∀(H':Hp)(l:Addr),aP H H'->H l=none->H' l=some (.lst ((ay ad n).map V.int))->Q (.ref l) H')
theorem wa:aE ["mapped","page","many","pages","wanted"] ["mapped","page","many"] (aw uc):=L2.bN
theorem CK(F:cE K "pages_to_map" "pages_to_map" uc f fd)(GP:↥Df 1 "pages_from" dv):↥aV 2 f fd ["mapped","page","many"] mX:=by
 show F.dS wa (λab A outer s H vs Q E hr h=>?_);let#[a,ms,p,m,rfl,S,nb,N,O]:=h;show#[_,(aj (dt 3 wa.nd (pc GP hr aC (aa (pv 1) (aa (pv 2) ag))))
  (aj (dD Ol rfl (eQ (pv 3)) (gH 4 wa.nd) (ao (aU (aD rq (pv 4) (pv 0) (by with_unfolding_all rfl)) dh aI)))
  (ao (aK (pv 3))))),?_]
 show#[0,0,p,m,rfl,nb,λH1 l L R G=>?_];show#[0,l,rfl,#[_,bw.of G],?_];show eV (K:=K) (a:=l) (xs:=(aM p m).map V.int) (λi σ H2=>∃I:Option V,σ=#v[.ref a,.int p,.int m,.ref l,I]/\H2=H1) #[0,rfl] (λi σ H2 _ U=>by let#[_,_,e]:=U;rw[e];show bw.of G) ?_ ?_
 .rintro i x σ H2 J ⟨I,rfl,rfl⟩;rw[t5]at J;let#[q,Y,rfl]:=o8.mp J;show#[0,0,a,0,.inl (bw.of (L _ _ S)),rfl,fj _,0,?_];rw[jg,decide_eq_false (N q (z6 Y))];show b9 #[0,rfl]
 .rintro σ H2 ⟨I,rfl,rfl⟩;show#[0,O _ l L R G]
theorem CF:aE ["mapped","page","many","pages"] ["mapped","page","many"] (aw nU):=L2.bN
theorem AH(F:cE K "pages_to_drop" "pages_to_drop" nU f fd)(R:↥Df 1 "pages_from" dv)(O:↥Df 1 "refuse_unmapped" iq):↥aV 2 f fd ["mapped","page","many"] oH:=by
 show F.dS CF (λab A outer s H vs Q E J h=>?_);let#[a,Y,p,m,rfl,U,nb,L,N]:=h;show#[_,(aj (dt 3 CF.nd (pc R J aC (aa (pv 1) (aa (pv 2) ag))))
  (aj (aO (pc O J aC (aa (pv 0) (aa (pv 3) ag))))
  (ao (aK (pv 3))))),?_]
 show#[0,0,p,m,rfl,nb,λH1 l G S I=>?_];show#[0,0,a,l,Y,aM p m,rfl,G _ _ U,I,L,#[0,N _ l G S I]]
theorem ox:aE ["mapped","address","many","first","last","pages"] ["mapped","address","many"] (aw lq):=L2.bN
theorem ya(F:cE K "pages_of_cells" "pages_of_cells" lq f fd)(T:yj mg)(GP:↥Df 1 "pages_from" dv)(GU:↥Df 1 "refuse_unmapped" iq):↥aV 2 f fd ["mapped","address","many"] jy:=by
 let#[u8,I,N]:=T.cells;show F.dS ox (λab A outer s H vs Q E Y h=>?_);let#[a,U,ad,n,rfl,ha,G,J]:=h;show#[_,(aj (aU (aD bH (pv 2) ak (aG _)) (ao (aK (bV ag))) aI)
  (aj (aU (aD fP (pv 2) ak (aG _)) dh aI)
  (aj (dt 3 ox.nd (az bo (pv 1) (bM (by rfl) I N)))
  (aj (dt 4 ox.nd (az bo (az fW (az bu (pv 1) (pv 2)) ak) (bM (by rfl) I N)))
  (aj (dt 5 ox.nd (pc GP Y aC (aa (pv 3) (aa (az bu (az fW (pv 4) (pv 3)) ak) ag))))
  (aj (aO (pc GU Y aC (aa (pv 0) (aa (pv 5) ag))))
  (ao (aK (pv 5))))))))),?_]
 show#[0,rfl,0,?_];show gM (λc=>?_) (λc=>?_)
 .let e:n=0:=V.int.inj (of_decide_eq_true c);show#[ar,λl O=>?_];show J _ l (av O) O ?_;rw[ae];unfold ay;rw[Xl e];rfl
 let ne:¬ n=0:=λz=>c (decide_eq_true (by rw[z]));let nn:¬ n<0:=λz=>G (.inl z);let S:0<n:=af;let np:¬ bq (dX ad) (dW ad n):=λz=>G (.inr #[S,.inl z]);let ni:∀q∈aM (dX ad) (dW ad n),q∈U:=PL λz=>G (.inr #[S,.inr z]);show#[0,_,0,rfl,0,?_];show gM (λc'=>absurd (of_decide_eq_true c') nn) (λ_=>?_);show#[0,_,0,rfl,#[ar,ar],0,0,_,0,4,0,4,0,rfl,#[ar,ar],?_];show#[0,0,0,_,0,4,0,rfl,dX ad,dW ad n,rfl,np,λH1 l R nl L=>?_];show#[0,0,a,l,U,aM (dX ad) (dW ad n),rfl,R _ _ ha,L,ni,#[0,J _ l R nl ?_]];unfold ay;rw[Xk ne];show L
theorem sO{ws:List Int}{s n:Nat}:fA (ws.map V.int) (some (s:Int)) (some ((s:Int)+(n:Int)))=((ws.drop s).take n).map V.int:=by
 unfold fA;rw[mu,HT.nH,show((s:Int)+(n:Int))=((s+n:Nat):Int)by push_cast;rfl,HT.nH, <-WK, <-map_take];congr 1;cases h:s<=ws.length
 .rw[Tg h];cases h2:s+n<=ws.length
  .rw[Tg h2,show s+n-s=n by show RC s n]
  .rw[Sm (Nat.le_of_not_ge h2),Ph (by rw[P1];omega),Ph (by rw[P1];omega)]
 .rw[Sm af,Sm af,QL (ti _),QL af];simp
theorem ph{ws:List Int}{s:Nat}:fA (ws.map V.int) none (some (s:Int))=(ws.take s).map V.int:=by
 unfold fA;rw[mu,HT.nH,show HT.dE ws.length 0 none=0 from rfl,Ws,Nat.sub_zero, <-map_take];congr 1;cases h:s<=ws.length
 .rw[Tg h]
 .rw[Sm af,Ph (ti _),Ph af]
theorem AA{ws:List Int}{s:Nat}:fA (ws.map V.int) (some (s:Int)) none=(ws.drop s).map V.int:=by
 unfold fA;rw[mu,HT.nH,show HT.dE ws.length ws.length none=ws.length from rfl, <-WK, <-map_take];congr 1;cases h:s<=ws.length
 .rw[Tg h,Ph (by rw[P1];omega)]
 .rw[Sm af,QL (ti _),QL af];simp
theorem fg{K:HC}{H H':Hp}{a:Addr}{xs:List V}(h:bw K H a xs)(s:∀o,H a=some o->H' a=some o):bw K H' a xs:=by
 rcases h with(h|⟨o,h⟩)|h
 .show .inl (.inl (s _ h))
 .show .inl (.inr #[o,s _ h])
 .show .inr h
theorem yc{α I:Type}{F G:α->I->Prop}(h:∀x y,F x y->G x y):∀{xs:List α}{ys:List I},Paired F xs ys->Paired G xs ys
 |_,_,.nil=>.nil
 |_,_,.cons q t=>.cons (h _ _ q) (yc h t)
theorem yf{α I:Type}{F:α->I->Prop}{xs G:List α}{ys J:List I}(p:Paired F xs ys)(h:Paired F G J):Paired F (xs++G) (ys++J):=by
 induction p with
 |nil=>show h
 |cons q _ L=>show .cons q L
theorem xY{α G:Type}{F:α->G->Prop}{x:α}{xs:List α}{ys:List G}(p:Paired F xs ys)(h:x∈xs):∃y,F x y:=by
 induction p with
 |nil=>cases h
 |cons q _ I =>
  rcases BY.mp h with e|h
  .show#[_,e▸q]
  .show I h
inductive oK(v:List V)(H:Hp)(Q:VK)(e:XK):Prop
 |mk(a:Addr)(ws:List Int)(ad:Int)(n:Nat)(_:v=[.ref a,.int ad,.int n])(_:H a=some (.lst (ws.map V.int)))(_:∀(H':Hp)(l:Addr),aP H H'->H l=none->H' l=some (.lst (((ws.drop (ad%8).toNat).take n).map V.int))->Q (.ref l) H')
def fh(ws:List Int)(s:Nat)(cs:List Int):List Int:=ws.take s++cs++ws.drop (s+cs.length)
def gQ(k:Nat)(ws:List Int):List (List Int):=(NC k).map λi=>(ws.drop (8*i)).take 8
inductive w6(K:HC)(v:List V)(H:Hp)(Q:VK)(e:XK):Prop
 |mk (a c:Addr) (ws cs:List Int) (ad:Int) (k:Nat) (_:v=[.ref a,.int ad,.ref c]) (_:H a=some (.lst (ws.map V.int))) (_:bw K H c (cs.map V.int)) (_:ws.length<=600) (_:cs.length<=600) (_:k<=64) (_:(fh ws (ad%8).toNat cs).length=8*k) (_:∀(H':Hp)(l:Addr)(rs:List Addr),aP H H'->H l=none->H' l=some (.lst (rs.map V.ref))->Paired (λr (row:List Int)=>H' r=some (.lst (row.map V.int))) rs (gQ k (fh ws (ad%8).toNat cs))->(∀r∈rs,H r=none)->rs.Nodup->Q (.ref l) H'):w6 K v H Q e
theorem MJ:∀k:Nat,k<65->Builtin.Range.small 0 (8*(k:Int)) 8=true/\Builtin.Range.rangeSize 0 (8*(k:Int)) 8=(k:Int)/\Builtin.divisionGoesByPylong (8*(k:Int)-0) 8=false:=aq
theorem Lb:aE ["whole","address","many","start"] ["whole","address","many"] (aw uD):=L2.bN
theorem zA(F:cE K "run_within" "run_within" uD f fd)(T:yj mg):↥aV 1 f fd ["whole","address","many"] oK:=by
 let#[S,J,N]:=T.cells;show F.dS Lb (λR A outer s H vs Q E U h=>?_);let#[a,ws,ad,n,rfl,L,k]:=h;show#[_,(aj (dt 3 Lb.nd (az br (pv 1) (bM (by rfl) J N)))
  (ao (aK (cJ gh (pv 0) (cN (pv 3)) (cN (az bu (pv 3) (pv 2))))))),?_]
 show#[0,_,0,rfl,xi,?_];let O:=Pu ad (show(8:Int)≠0 by decide);show#[0,0,ad%8,rfl,0,0,_,0,rfl,ad%8+n,rfl,a,0,bw.of L,λl G=>?_];let e:ad%8=((ad%8).toNat:Int):=(Rh O).symm;let I:fA (ws.map V.int) (some (ad%8)) (some (ad%8+n))=((ws.drop (ad%8).toNat).take n).map V.int:=by
  rw[e];show sO
 show k _ l (av G) G (by rw[ae,I])
theorem Jc:aE ["whole","address","cells","start","changed"] ["whole","address","cells"] (aw B6):=L2.bN
theorem EK(F:cE K "pages_with" "pages_with" B6 f fd)(T:yj mg):↥aV 1 f fd ["whole","address","cells"] (w6 K):=by
 let#[u8,m8,r8]:=T.cells;show F.dS Jc (λa3 A outer s H vs Q E hr h=>?_);let#[a,c,ws,cs,ad,j,rfl,ha,hc,hw,a4,hj,a2,k]:=h;let hs:=vl;show#[_,(aj (dt 3 Jc.nd (az br (pv 1) (bM (by rfl) m8 r8)))
  (aj (dt 4 Jc.nd (az um (az um (cJ gh (pv 0) eg (cN (pv 3))) (bU dR (by rfl) T.list fE (aa (pv 2) ag))) (cJ gh (pv 0) (cN (az bu (pv 3) (aQ bF (by rfl) T.len boot_len (aa (pv 2) ag)))) eg)))
  (ao (aK (iE (cl:=[("changed",s⁻¹+1)]) (caps:=[("changed",4)]) #[rfl,aq,aq,rfl,by kernel_rfl,by intro p G;simp only[BY,DO,or_false]at G;rcases G with rfl<;>first|rfl|show#[rfl,.inl rfl,.inl rfl]|show#[rfl,.inl rfl,.inr rfl],by kernel_rfl,by intro p G;simp only[BY,DO,or_false]at G;rcases G with rfl<;>first|rfl|show#[rfl,.inl rfl,.inl rfl]|show#[rfl,.inl rfl,.inr rfl],aq] rfl (As (by rfl) T.range (aa ak (aa (aQ bF (by rfl) T.len boot_len (aa (pv 4) ag)) (aa (bM (by rfl) m8 r8) ag)))) (λ_ _ _ _=>gB) (λ_ _ _ _=>(cJ (show Kv _ (IW K)from gh) (pv 1) (cN (pv 0)) (cN (az bu (pv 0) (bM (by rfl) m8 r8)))))))))),?_]
 show iT λ_ jt=>?_;show#[0,_,0,rfl,xi,?_];let m0:=Pu ad (show(8:Int)≠0 by decide);let e:ad%8=((ad%8).toNat:Int):=(Rh m0).symm;show jt _ _ ?_;change cy _ _ _ [some (V.ref a),some (.int ad),some (.ref c),some (.int (ad%8)),none] H;rw[e];generalize (ad%8).toNat=st at *;clear e m0;show iT λ_ jt=>?_;show#[0,0,(st:Int),rfl,a,0,bw.of ha,λO a0=>?_];rw[ph];let s1:=av (X:=.lst ((ws.take st).map V.int)) a0;let e1:(upd H O (.lst ((ws.take st).map V.int))) O=some (.lst ((ws.take st).map V.int)):=ae;show#[0,c,0,.inl (fg hc (s1 _)),λl2 aT=>?_];let s2:=av (X:=.lst (cs.map V.int)) aT;show#[O,l2,_,0,rfl,s2 _ _ e1,ae,by rw[mu,mu,Oj];omega,λS a1=>?_];rw[<-L0];let s3:=av (X:=.lst ((ws.take st++cs).map V.int)) a1;let Y:=(s1.trans s2).trans s3;let e3:(upd (upd (upd H O (.lst ((ws.take st).map V.int))) l2 (.lst (cs.map V.int))) S (.lst ((ws.take st++cs).map V.int))) S=some (.lst ((ws.take st++cs).map V.int)):=ae;generalize upd (upd (upd H O (.lst ((ws.take st).map V.int))) l2 (.lst (cs.map V.int))) S (.lst ((ws.take st++cs).map V.int))=H3 at *;show#[0,0,0,c,0,.inl (fg hc (Y _)),_,0,rfl,0,a,0,bw.of (Y _ _ ha),λR as=>?_];rw[show((st:Int)+((cs.map V.int).length:Nat))=((st+cs.length:Nat):Int)by rw[mu];push_cast;rfl,AA];let s4:=av (X:=.lst ((ws.drop (st+cs.length)).map V.int)) as;show#[S,R,_,0,rfl,s4 _ _ e3,ae,by rw[mu,mu,wh,Oj,P1];omega,λN aB=>?_];rw[<-L0,show ws.take st++cs++ws.drop (st+cs.length)=fh ws st cs from rfl];let S5:aP H (upd (upd H3 R (.lst ((ws.drop (st+cs.length)).map V.int))) N (.lst ((fh ws st cs).map V.int))):=(Y.trans s4).trans (av aB);let e5:(upd (upd H3 R (.lst ((ws.drop (st+cs.length)).map V.int))) N (.lst ((fh ws st cs).map V.int))) N=some (.lst ((fh ws st cs).map V.int)):=ae;generalize upd (upd H3 R (.lst ((ws.drop (st+cs.length)).map V.int))) N (.lst ((fh ws st cs).map V.int))=H5 at *;generalize fh ws st cs=sp at *;let#[r1,r2,r3]:=MJ j (Nat.lt_succ_of_le hj);show jt _ _ (LX λ_ jr=>?_);show#[0,N,0,.inl (bw.of e5),(0),8*(j:Int),(8),j,by rw[mu,a2];push_cast;rfl,r1,r2,ar,r3,?_];show tZ (lo:=0) (st:=8) (n:=j) (λi ys U=>∃I:List Addr,Eo (ys=I.map V.ref) (I.length=i) (Paired (λr (ap:List Int)=>U r=some (.lst (ap.map V.int))) I (gQ i sp)) (aP H5 U) ((∀r∈I,H5 r=none)) I.Nodup) #[[],1,.nil,aP.refl _,(λ_ h=>nomatch h),Qo] ?_ ?_
 .rintro i ys U hi ⟨I,rfl,ac,G,L,hn,nd⟩;show#[0,0,0,0,_,0,rfl,0,N,0,bw.of (L _ _ e5),λr ab=>?_];rw[show(0+(i:Int)*8)=((8*i:Nat):Int)by push_cast;omega,show(((8*i:Nat):Int)+8)=((8*i:Nat):Int)+((8:Nat):Int)from rfl,sO];let sr:=av (X:=.lst (((sp.drop (8*i)).take 8).map V.int)) ab;show#[by rw[mu];omega,I++[r],by rw[L0];rfl,by rw[wh,ac];rfl,?_,L.trans sr,λx J=>?_,?_]
  .unfold gQ at G ⊢;rw[Um,L0];show yf (yc (λx y h=>sr _ _ h) G) (.cons ae .nil)
  .rcases oR.mp J with J|J
   .show hn x J
   .rw[nc.mp J];show L.free ab
  .show Ry.mpr #[nd,Ov.mpr #[by simp,Qo],λx J y hy=>?_];rw[nc.mp hy];intro z;let#[ap,ah]:=xY G J;rwa[z,ab]at ah
 .rintro ys U ⟨I,rfl,ac,G,L,hn,nd⟩ l6 am;let s7:=av (X:=.lst (I.map V.ref)) am;show jr _ _ (k _ l6 I ((S5.trans L).trans s7) ((S5.trans L).free am) ae (yc (λx y h=>s7 _ _ h) G) (λr h=>S5.free (hn r h)) nd)
end Rm
namespace Pg
def upd{α:Type}(f:Bool->α)(b:Bool)(v:α):Bool->α:=λc=>if c=b then v else f c
def ed{α:Type}(f:Int->α)(k:Int)(v:α):Int->α:=λj=>if j=k then v else f j
theorem ae{α:Type}{f:Bool->α}{b:Bool}{v:α}:upd f b v b=v:=Xl rfl
theorem bh{α:Type}{f:Bool->α}{b c:Bool}{v:α}(h:c≠b):upd f b v c=f c:=Xk h
theorem bA{α:Type}{f:Int->α}{b:Int}{v:α}:ed f b v b=v:=Xl rfl
theorem aN{α:Type}{f:Int->α}{b c:Int}{v:α}(h:c≠b):ed f b v c=f c:=Xk h
structure PS where
 ow:Bool->List Int
 co:Bool->List (Option (List Int))
 pl:Int->Option (Bool×Nat)
 ls:Int
 inf:List Int
def Vw(s:PS)(k:Int)(cs:List Int)(c:Int):Prop:=∃b n,s.pl k=some (b,n)/\(s.co b)[n]?=some (some cs)/\(s.ow b)[n]?=some c
structure Good(s:PS):Prop where
 rg:∀k p,s.pl k=some p->1<=k/\k<=s.ls
 va:∀k b n,s.pl k=some (b,n)->∃cs c,(s.co b)[n]?=some (some cs)/\(s.ow b)[n]?=some c/\1<=c/\cs.length=8
 inj:∀k j p,s.pl k=some p->s.pl j=some p->k=j
 on:∀b n c,(s.ow b)[n]?=some c->c=0\/∃k,s.pl k=some (b,n)
 ln:∀b,(s.co b).length=(s.ow b).length
 nd:s.inf.Nodup
 fi:∀k,k∈s.inf↔∃n,s.pl k=some (true,n)
def yM(s:PS)(b:Bool)(k:Int)(cs:List Int)(c:Int):PS :=
 { ow:=upd s.ow b ((s.ow b).set ((s.ow b).idxOf 0) c),co:=upd s.co b ((s.co b).set ((s.ow b).idxOf 0) (some cs)),pl:=ed s.pl k (some (b,(s.ow b).idxOf 0)),ls:=s.ls,inf:=if b=true then s.inf++[k]else s.inf }
def qJ(s:PS)(k:Int)(b:Bool)(n:Nat):PS :=
 { ow:=upd s.ow b ((s.ow b).set n 0),co:=s.co,pl:=ed s.pl k none,ls:=s.ls,inf:=s.inf.erase k }
def cM(s:PS)(b:Bool)(n:Nat)(c:Int):PS:={ s with ow:=upd s.ow b ((s.ow b).set n c) }
def write(s:PS)(b:Bool)(n:Nat)(cs:List Int):PS:={ s with co:=upd s.co b ((s.co b).set n (some cs)) }
theorem v5{l:List Int}(h:(0:Int)∈l):l[l.idxOf 0]?=some 0:=by
 let G:l.idxOf 0<l.length:=Pw.mpr h;rw[vu G,Sx G]
theorem xW{l:List Int}(h:(0:Int)∈l):l.idxOf 0<l.length:=Pw.mpr h
section
variable{s:PS}{b:Bool}{k:Int}{cs:List Int}{c:Int}{n:Nat}
theorem yR(G:Good s)(h:(0:Int)∈s.ow b):∀j,s.pl j≠some (b,(s.ow b).idxOf 0):=by
 intro j e;let#[cs,c,_,h2,I,_]:=G.va _ _ _ e;rwa[v5 h]at h2;omega
theorem pZ(G:Good s)(h0:(0:Int)∈s.ow b)(Y:s.pl k=none)(h1:1<=k)(h2:k<=s.ls)(h3:1<=c)(h4:cs.length=8):Good (yM s b k cs c):=by
 let hl:=xW h0;let hf:=yR G h0;let ab:(s.ow b).idxOf 0<(s.co b).length:=(by rw[G.ln b];show hl);show#[3,3,3,?_]
 .intro j p e;cases L:j=k
  .subst L;show#[h1,h2]
  .show G.rg j p (by rw[<-e];show(aN L).symm)
 .intro j J R e;cases L:j=k
  .subst L;let e:some (b,(s.ow b).idxOf 0)=some (J,R):=(by rw[<-e];show bA.symm);cases e;show#[cs,c,3,h3,h4]
   .change(upd s.co b _ b)[_]?=_;rw[ae,OL ab]
   .change(upd s.ow b _ b)[_]?=_;rw[ae,OL hl]
  .let O:s.pl j=some (J,R):=(by rw[<-e];show(aN L).symm);let#[ac,c',e1,e2,e3,e4]:=G.va _ _ _ O;show#[ac,c',3,e3,e4]
   .change(upd s.co b _ J)[_]?=_;cases I:J=b
    .subst I;rw[ae,Oy (λq=>hf j (by rw[O,q]))];show e1
    .rw[bh I];show e1
   .change(upd s.ow b _ J)[_]?=_;cases I:J=b
    .subst I;rw[ae,Oy (λq=>hf j (by rw[O,q]))];show e2
    .rw[bh I];show e2
 .intro j S p e N;cases L:j=k
  .by_cases U:S=k
   .rw[L,U]
   .subst L;let e:some (b,(s.ow b).idxOf 0)=some p:=(by rw[<-e];show bA.symm);let N:s.pl S=some p:=(by rw[<-N];show(aN U).symm);show absurd (N.trans e.symm) (hf S)
  .let O:s.pl j=some p:=(by rw[<-e];show(aN L).symm);cases U:S=k
   .subst U;let N:some (b,(s.ow b).idxOf 0)=some p:=(by rw[<-N];show bA.symm);show absurd (O.trans N.symm) (hf j)
   .let N:s.pl S=some p:=(by rw[<-N];show(aN U).symm);show G.inj _ _ _ O N
 .intro J R c' e;let e:(upd s.ow b ((s.ow b).set ((s.ow b).idxOf 0) c) J)[R]?=some c':=e;cases I:J=b
  .subst I;cases en:(s.ow J).idxOf 0=R
   .show .inr #[k,by change ed s.pl k _ k=_;rw[bA,en]]
   .rw[ae,Oy en]at e;rcases G.on _ _ _ e with h|⟨j,h⟩
    .show .inl h
    .show .inr #[j,?_];change ed s.pl k _ j=_;rw[aN (λq=>by rwa[q,Y]at h)];show h
  .rw[bh I]at e;rcases G.on _ _ _ e with h|⟨j,h⟩
   .show .inl h
   .show .inr #[j,?_];change ed s.pl k _ j=_;rw[aN (λq=>by rwa[q,Y]at h)];show h
 .intro J;change(upd s.co b _ J).length=(upd s.ow b _ J).length;cases I:J=b
  .subst I;rw[ae,ae,OS,OS];show G.ln _
  .rw[bh I,bh I];show G.ln _
 .change(if b=true then s.inf++[k]else s.inf).Nodup;cases I:b=true
  .rw[Xl I];show Ry.mpr #[G.nd,by simp,?_];intro x hx y hy e;rw[nc]at hy;subst hy;subst e;let#[m,hm]:=(G.fi x).mp hx;rwa[Y]at hm
  .rw[Xk I];show G.nd
 .intro j;change j∈(if b=true then s.inf++[k]else s.inf)↔∃m,ed s.pl k (some (b,(s.ow b).idxOf 0)) j=some (true,m);cases L:j=k
  .subst L;rw[bA];cases I:b=true
   .subst I;rw[Xl rfl];show#[λ_=>#[0],λ_=>by simp]
   .rw[Xk I,G.fi];show#[λ⟨m,h⟩=>(by rwa[Y]at h),λ⟨m,h⟩=>(by cases h;show absurd rfl I)]
  .rw[aN L, <-G.fi];cases I:b=true
   .rw[Xl I];simp[L]
   .rw[Xk I]
theorem pS(I:(0:Int)∈s.ow b)(G:Good s):Vw (yM s b k cs c) k cs c:=by
 show#[b,(s.ow b).idxOf 0,bA,3]
 .change(upd s.co b _ b)[_]?=_;rw[ae,OL (by rw[G.ln b];show xW I)]
 .change(upd s.ow b _ b)[_]?=_;rw[ae,OL (xW I)]
theorem mE(G:Good s)(h0:(0:Int)∈s.ow b){j:Int}(S:j≠k){U:List Int}{Y:Int}:Vw (yM s b k cs c) j U Y↔Vw s j U Y:=by
 let hf:=yR G h0;let A:∀I J,s.pl j=some (I,J)->((yM s b k cs c).co I)[J]?=(s.co I)[J]?/\((yM s b k cs c).ow I)[J]?=(s.ow I)[J]?:=by
  intro I J e;change(upd s.co b _ I)[J]?=_/\(upd s.ow b _ I)[J]?=_;cases O:I=b
  .subst O;have:(s.ow I).idxOf 0≠J:=λq=>hf j (by rw[e,q]);rw[ae,ae,Oy this,Oy this];show#[1]
  .rw[bh O,bh O];show#[1]
 constructor
 .rintro⟨I,J,L,R,N⟩;let L:s.pl j=some (I,J):=(by rw[<-L];show(aN S).symm);show#[I,J,L,by rw[<-(A _ _ L).1];show R,by rw[<-(A _ _ L).2];show N]
 .rintro⟨I,J,L,R,N⟩;show#[I,J,(aN S).trans L,by rw[(A _ _ L).1];show R,by rw[(A _ _ L).2];show N]
theorem km(G:Good s)(N:s.pl k=some (b,n)):Good (qJ s k b n):=by
 let#[ac,c0,g1,g2,_,_]:=G.va _ _ _ N;let hn:n<(s.ow b).length:=(kQ.mp g2).1;let up:∀{j p},(qJ s k b n).pl j=some p->j≠k/\s.pl j=some p:=by
  intro j p e;cases J:j=k
  .subst J;let O:(none:Option (Bool×Nat))=some p:=(by rw[<-e];show bA.symm);cases O
  .show#[J,by rw[<-e];show(aN J).symm]
 show#[3,3,3,?_]
 .intro j p e;show G.rg j p (up e).2
 .intro j I S e;let#[J,O]:=up e;let#[ab,U,e1,Y,e3,e4]:=G.va _ _ _ O;show#[ab,U,e1,?_,e3,e4];change(upd s.ow b _ I)[_]?=_;cases L:I=b
  .subst L;rw[ae,Oy (λq=>J (G.inj _ _ _ O (by rw[N,q])))];show Y
  .rw[bh L];show Y
 .intro j j' p e e';show G.inj _ _ _ (up e).2 (up e').2
 .intro I S U e;let e:(upd s.ow b ((s.ow b).set n 0) I)[S]?=some U:=e;cases L:I=b
  .subst L;cases R:n=S
   .subst R;rwa[ae,OL hn]at e;show .inl rfl
   .rw[ae,Oy R]at e;rcases G.on _ _ _ e with h|⟨j,h⟩
    .show .inl h
    .show .inr #[j,?_];change ed s.pl k _ j=_;rw[aN (λq=>by rwa[q,N]at h;show R rfl)];show h
  .rw[bh L]at e;rcases G.on _ _ _ e with h|⟨j,h⟩
   .show .inl h
   .show .inr #[j,?_];change ed s.pl k _ j=_;rw[aN (λq=>by rwa[q,N]at h;show L rfl)];show h
 .intro I;change(s.co I).length=(upd s.ow b _ I).length;cases L:I=b
  .subst L;rw[ae,OS];show G.ln _
  .rw[bh L];show G.ln _
 .show G.nd.erase k
 .intro j;change j∈s.inf.erase k↔∃m,ed s.pl k none j=some (true,m);rw[Rc G.nd,G.fi];cases J:j=k
  .subst J;rw[bA];show#[λh=>absurd rfl h.1,λ⟨m,h⟩=>by cases h]
  .rw[aN J];show#[λh=>h.2,λh=>#[J,h]]
theorem jv(G:Good s)(hk:s.pl k=some (b,n)){j:Int}(O:j≠k){U:List Int}{Y:Int}:Vw (qJ s k b n) j U Y↔Vw s j U Y:=by
 let A:∀I J,s.pl j=some (I,J)->((qJ s k b n).ow I)[J]?=(s.ow I)[J]?:=by
  intro I J e;change(upd s.ow b _ I)[J]?=_;cases S:I=b
  .subst S;rw[ae,Oy (λq=>O (G.inj _ _ _ e (by rw[hk,q])))]
  .rw[bh S]
 constructor
 .rintro⟨I,J,L,R,N⟩;let L:s.pl j=some (I,J):=(by rw[<-L];show(aN O).symm);show#[I,J,L,R,by rw[<-A _ _ L];show N]
 .rintro⟨I,J,L,R,N⟩;show#[I,J,(aN O).trans L,R,by rw[A _ _ L];show N]
theorem vk(G:Good s)(I:s.pl k=some (b,n)):(0:Int)∈(qJ s k b n).ow b:=by
 let#[R,N,O,L,_,_]:=G.va _ _ _ I;let J:n<(s.ow b).length:=(kQ.mp L).1;change(0:Int)∈upd s.ow b _ b;rw[ae];show z6 (OL J)
theorem kM(G:Good s)(Y:s.pl k=some (b,n))(hc:1<=c):Good (cM s b n c):=by
 let#[ac,c0,g1,g2,_,g4]:=G.va _ _ _ Y;let hn:n<(s.ow b).length:=(kQ.mp g2).1;show#[G.rg,?_,G.inj,3,G.nd,G.fi]
 .intro j I L e;let#[ab,R,e1,U,S,e4]:=G.va j I L e;let A:∃O,(upd s.ow b ((s.ow b).set n c) I)[L]?=some O/\1<=O:=by
   cases J:I=b
   .subst J;rw[ae];cases N:n=L
    .subst N;show#[c,OL hn,hc]
    .rw[Oy N];show#[R,U,S]
   .rw[bh J];show#[R,U,S]
  let#[O,a1,a2]:=A;show#[ab,O,e1,a1,a2,e4]
 .intro I L R e;let e:(upd s.ow b ((s.ow b).set n c) I)[L]?=some R:=e;cases J:I=b
  .subst J;rw[ae]at e;cases N:n=L
   .subst N;show .inr #[k,Y]
   .rw[Oy N]at e;show G.on _ _ _ e
  .rw[bh J]at e;show G.on _ _ _ e
 .intro I;change(s.co I).length=(upd s.ow b _ I).length;cases J:I=b
  .subst J;rw[ae,OS];show G.ln _
  .rw[bh J];show G.ln _
theorem jT(G:Good s)(I:s.pl k=some (b,n)){O:Int}(h:Vw s k cs O):Vw (cM s b n c) k cs c:=by
 let#[R,S,J,N,L]:=h;rwa[I]at J;show#[b,n,I,N,?_];change(upd s.ow b _ b)[_]?=_;rw[ae,OL (kQ.mp L).1]
theorem d9(G:Good s)(hk:s.pl k=some (b,n)){j:Int}(Y:j≠k){S:List Int}{U:Int}:Vw (cM s b n c) j S U↔Vw s j S U:=by
 let A:∀I J,s.pl j=some (I,J)->((cM s b n c).ow I)[J]?=(s.ow I)[J]?:=by
  intro I J e;change(upd s.ow b _ I)[J]?=_;cases R:I=b
  .subst R;rw[ae,Oy (λq=>Y (G.inj _ _ _ e (by rw[hk,q])))]
  .rw[bh R]
 constructor
 .rintro⟨I,J,L,O,N⟩;show#[I,J,L,O,by rw[<-A _ _ L];show N]
 .rintro⟨I,J,L,O,N⟩;show#[I,J,L,O,by rw[A _ _ L];show N]
theorem wu(G:Good s)(hk:s.pl k=some (b,n))(hc:cs.length=8):Good (write s b n cs):=by
 let#[ab,c0,g1,g2,_,g4]:=G.va _ _ _ hk;let hn:n<(s.co b).length:=(kQ.mp g1).1;show#[G.rg,?_,G.inj,G.on,?_,G.nd,G.fi]
 .intro j I N e;let#[R,c',O,e2,Y,S]:=G.va j I N e;let A:∃L,(upd s.co b ((s.co b).set n (some cs)) I)[N]?=some (some L)/\L.length=8:=by
   cases J:I=b
   .subst J;rw[ae];cases U:n=N
    .subst U;show#[cs,OL hn,hc]
    .rw[Oy U];show#[R,O,S]
   .rw[bh J];show#[R,O,S]
  let#[L,a1,a2]:=A;show#[L,c',a1,e2,Y,a2]
 .intro I;change(upd s.co b _ I).length=(s.ow I).length;cases J:I=b
  .subst J;rw[ae,OS];show G.ln _
  .rw[bh J];show G.ln _
theorem Bv(G:Good s)(I:s.pl k=some (b,n)){N:List Int}(h:Vw s k N c):Vw (write s b n cs) k cs c:=by
 let#[R,S,J,O,L]:=h;rwa[I]at J;show#[b,n,I,?_,L];change(upd s.co b _ b)[_]?=_;rw[ae,OL (kQ.mp O).1]
theorem jf(G:Good s)(hk:s.pl k=some (b,n)){j:Int}(Y:j≠k){S:List Int}{U:Int}:Vw (write s b n cs) j S U↔Vw s j S U:=by
 let A:∀I J,s.pl j=some (I,J)->((write s b n cs).co I)[J]?=(s.co I)[J]?:=by
  intro I J e;change(upd s.co b _ I)[J]?=_;cases R:I=b
  .subst R;rw[ae,Oy (λq=>Y (G.inj _ _ _ e (by rw[hk,q])))]
  .rw[bh R]
 constructor
 .rintro⟨I,J,L,O,N⟩;show#[I,J,L,by rw[<-A _ _ L];show O,N]
 .rintro⟨I,J,L,O,N⟩;show#[I,J,L,by rw[A _ _ L];show O,N]
end
end Pg
namespace Pg
theorem sum_set{l:List Int}{n:Nat}{x y:Int}(h:l[n]?=some x):(l.set n y).sum=l.sum-x+y:=by
 induction l generalizing n with
 |nil=>cases h
 |cons a l G =>
  cases n with
  |zero =>
   cases h;change(y::l).sum=_;simp only[QA];omega
  |succ n =>
   let h:l[n]?=some x:=h;change(a::l.set n y).sum=_;simp only[QA,G h];omega
def all(s:PS):Int:=(s.ow true).sum+(s.ow false).sum
theorem uw{ow:Bool->List Int}{b:Bool}{n:Nat}{x y:Int}(h:(ow b)[n]?=some x) :
  (upd ow b ((ow b).set n y) true).sum+(upd ow b ((ow b).set n y) false).sum=(ow true).sum+(ow false).sum-x+y:=by
 cases b
 .rw[bh ar,ae,sum_set h];omega
 .rw[ae,bh ar,sum_set h];omega
section
variable{s s':PS}{b:Bool}{k:Int}{cs:List Int}{c:Int}{n:Nat}
theorem sW(G:(0:Int)∈s.ow b):all (yM s b k cs c)=all s+c:=by
 have:=uw (ow:=s.ow) (y:=c) (v5 G);unfold all yM;dsimp only;omega
theorem su{G:Int}(h:(s.ow b)[n]?=some G):all (qJ s k b n)=all s-G:=by
 have:=uw (ow:=s.ow) (y:=0) h;unfold all qJ;dsimp only;omega
theorem mK{G:Int}(h:(s.ow b)[n]?=some G):all (cM s b n c)=all s-G+c:=by
 have:=uw (ow:=s.ow) (y:=c) h;unfold all cM;dsimp only;omega
theorem eB{f:Bool->List Int}{n:Nat}{x:Int}(G:Bool):(upd f b ((f b).set n x) G).length=(f G).length:=by
 cases e:G=b
 .subst e;rw[ae,OS]
 .rw[bh e]
structure Kept(s s':PS)(k:Int):Prop where
 ot:∀j cs' c',j≠k->(Vw s' j cs' c'↔Vw s j cs' c')
 ln:∀b,(s'.ow b).length=(s.ow b).length
 fr:(0:Int)∈s'.ow true->(0:Int)∈s.ow true/\∀j m,j≠k->s.pl j=some (true,m)->s'.pl j=some (true,m)
theorem DG{l:List Int}{n:Nat}{x:Int}(G:x≠0)(h:(0:Int)∈l.set n x):(0:Int)∈l:=by
 rcases SQ h with h|h
 .show h
 .show absurd h.symm G
theorem AN(G:Good s)(J:(0:Int)∈s.ow true)(N:1<=c):Kept s (yM s true k cs c) k :=
 #[λj L O I=>mE G J I,λb=>eB b,λh=>#[J,λj m I e=>(aN I).trans e]]
def out(s:PS)(k0:Int)(I:Nat)(J:List Int)(G:Int):PS:=yM (qJ s k0 true I) false k0 J G
theorem uZ(G:Good s){k0:Int}{I:Nat}{L:List Int}{J:Int}(N:s.pl k0=some (true,I))(hv:Vw s k0 L J)(hf:(0:Int)∈s.ow false) :
  Good (out s k0 I L J)/\Vw (out s k0 I L J) k0 L J/\(∀j S U,j≠k0->(Vw (out s k0 I L J) j S U↔Vw s j S U))/\(0:Int)∈(out s k0 I L J).ow true/\all (out s k0 I L J)=all s /\
  (∀b,((out s k0 I L J).ow b).length=(s.ow b).length)/\(∀j,j≠k0->(out s k0 I L J).pl j=s.pl j):=by
 let#[b',n',e1,e2,e3]:=hv;rwa[N]at e1;let#[ab,c9,a1,a2,a3,a4]:=G.va _ _ _ N;rwa[e2]at a1;rwa[e3]at a2;let Y:=km G N;let R:(0:Int)∈(qJ s k0 true I).ow false:=by
  show(bh (f:=s.ow) (v:=(s.ow true).set I 0) (show false≠true by decide)).symm▸hf
 let hn:(qJ s k0 true I).pl k0=none:=bA;let hr:=G.rg _ _ N;show#[pZ Y R hn hr.1 hr.2 a3 a4,pS R Y,3,3,?_]
 .intro j S U O;show(mE Y R O).trans (jv G N O)
 .show(bh (f:=(qJ s k0 true I).ow) (b:=false) (v:=((qJ s k0 true I).ow false).set (((qJ s k0 true I).ow false).idxOf 0) J) (show true≠false by decide)).symm▸vk G N
 .change all (yM _ _ _ _ _)=_;rw[sW R,su e3];omega
 .intro b;show(eB (f:=(qJ s k0 true I).ow) b).trans (eB b)
 .intro j O;show(aN O).trans (aN O)
inductive BI(s:PS)(k:Int)(cs:List Int)(c:Int):PS->Prop
 |free:(0:Int)∈s.ow true->BI s k cs c (yM s true k cs c)
 |full {k0:Int}{r:List Int}{n0:Nat}{cs0:List Int}{c0:Int}:¬ (0:Int)∈s.ow true->(0:Int)∈s.ow false->s.inf=k0::r->s.pl k0=some (true,n0)->Vw s k0 cs0 c0->BI s k cs c (yM (out s k0 n0 cs0 c0) true k cs c)
structure NG(s:PS)(k:Int)(cs:List Int)(c:Int)(s':PS):Prop where
 good:Good s'
 vw:Vw s' k cs c
 fr:∃m,s'.pl k=some (true,m)
 kept:Kept s s' k
 ls:s'.ls=s.ls
 al:all s'=all s+c
theorem GB(G:Good s)(U:s.pl k=none)(h1:1<=k)(h2:k<=s.ls)(h3:1<=c)(h4:cs.length=8)(h:BI s k cs c s'):NG s k cs c s':=by
 cases h with
 |free S=>show#[pZ G S U h1 h2 h3 h4,pS S G,#[_,bA],AN G S h3,rfl,sW S]
 | @full k0 r I L J nf hf hi hp hv =>
  let#[g1,g2,g3,R,g5,g6,g7]:=uZ G hp hv hf;let ab:k≠k0:=λe=>(by rwa[e,hp]at U);let ah:(out s k0 I L J).pl k=none:=(by rw[g7 k ab];show U);show#[pZ g1 R ah h1 h2 h3 h4,pS R g1,#[_,bA],#[3,?_],5]
  .intro j ac c' hj;rw[mE g1 R hj];cases e:j=k0
   .subst e;constructor
    .intro Y;let#[x1,x2,y1,y2,y3]:=Y;let#[z1,z2,w1,O,N]:=g2;rwa[y1]at w1;rwa[y2]at O;rwa[y3]at N;show hv
    .intro Y;let#[x1,x2,y1,y2,y3]:=Y;let#[z1,z2,w1,O,N]:=hv;rwa[y1]at w1;rwa[y2]at O;rwa[y3]at N;show g2
   .show g3 j ac c' e
  .intro b;show(eB (f:=(out s k0 I L J).ow) b).trans (g6 b)
  .intro h;exfalso;apply nf;let h:(0:Int)∈upd (out s k0 I L J).ow true (((out s k0 I L J).ow true).set (((out s k0 I L J).ow true).idxOf 0) c) true:=h;rw[ae]at h;let e1:(out s k0 I L J).ow true=(s.ow true).set I 0:=by
    show(bh (f:=(qJ s k0 true I).ow) (b:=false) (v:=((qJ s k0 true I).ow false).set (((qJ s k0 true I).ow false).idxOf 0) J) (show true≠false by decide)).trans (show upd s.ow true ((s.ow true).set I 0) true=_ from ae)
   rw[e1]at h;let#[i,am,e]:=PD h;let hl:i<(s.ow true).length:=‹am›;let hz:(0:Int)∈(s.ow true).set I 0:=e1▸R;let e0:((s.ow true).set I 0).idxOf 0=I:=by
    let q:=v5 hz;cases en:I=((s.ow true).set I 0).idxOf 0
    .show en.symm
    .rw[Oy en]at q;show absurd (z6 q) nf
   rw[VN]at e;split at e
   .omega
   .rename_i ne;rw[VN]at e;split at e
    .rename_i e2;show absurd (e0.trans e2) ne
    .show e▸Qd hl
  .rw[sW R,g5]
theorem JL(G:Good s)(hf:(0:Int)∈s.ow true\/(0:Int)∈s.ow false)(S:s.ow true≠[]):((0:Int)∈s.ow true)\/(¬ (0:Int)∈s.ow true/\(0:Int)∈s.ow false/\∃k0 r I L J,s.inf=k0::r/\s.pl k0=some (true,I)/\Vw s k0 L J):=by
 cases h:(0:Int)∈s.ow true
 .show .inl h
 .show .inr #[h,hf.resolve_left h,?_];let R:0<(s.ow true).length:=List.length_pos_iff.mpr S;let Y:(s.ow true)[0]?=some (s.ow true)[0]:=vu R;rcases G.on _ _ _ Y with e|⟨j,e⟩
  .show absurd (e▸Qd R) h
  .let O:j∈s.inf:=(G.fi j).mpr #[_,e];cases hi:s.inf with
   |nil=>rwa[hi]at O
   |cons k0 r =>
    let#[I,N]:=(G.fi k0).mp (by rw[hi];show Oz);let#[L,J,a1,U,_,_]:=G.va _ _ _ N;show#[k0,r,I,L,J,rfl,N,true,I,N,a1,U]
end
end Pg
namespace Pg
section
variable{s s':PS}{b:Bool}{k:Int}{cs:List Int}{c:Int}{n:Nat}
theorem Vw.one{J:List Int}{L:Int}(h:Vw s k cs c)(h':Vw s k J L):J=cs/\L=c:=by
 let#[Y,U,R,N,O]:=h;let#[z1,S,w1,I,G]:=h';rwa[R]at w1;rwa[N]at I;rwa[O]at G;show#[1]
theorem Good.vw(G:Good s)(h:Vw s k cs c):1<=c/\cs.length=8:=by
 let#[x1,x2,S,N,R]:=h;let#[U,Y,J,I,L,O]:=G.va _ _ _ S;rwa[N]at J;rwa[R]at I;show#[L,O]
def used(s:PS)(k:Int):PS:={ s with inf:=s.inf.erase k++[k] }
theorem AE(G:Good s)(L:s.pl k=some (true,n)):Good (used s k):=by
 show#[G.rg,G.va,G.inj,G.on,G.ln,3]
 .show Ry.mpr #[G.nd.erase k,by simp,?_];intro x J y I e;rw[nc]at I;subst I;subst e;show((Rc G.nd).mp J).1 rfl
 .intro j;change j∈s.inf.erase k++[k]↔_;rw[oR,nc,Rc G.nd,G.fi];constructor
  .rintro(h|h)
   .show h.2
   .subst h;show#[n,L]
  .intro h;cases e:j=k
   .show .inr e
   .show .inl #[e,h]
inductive FE(s:PS)(k:Int):PS->Prop
 |here {n:Nat}:s.pl k=some (true,n)->FE s k (used s k)
 |away {n:Nat}{cs:List Int}{c:Int}{s':PS}:s.pl k=some (false,n)->Vw s k cs c->BI (qJ s k false n) k cs c s'->FE s k s'
structure Oe(s:PS)(k:Int)(s':PS):Prop where
 good:Good s'
 vw:∀j cs c,Vw s' j cs c↔Vw s j cs c
 fr:∃m,s'.pl k=some (true,m)
 kept:Kept s s' k
 ls:s'.ls=s.ls
 al:all s'=all s
theorem rl(G:Good s)(h:FE s k s'):Oe s k s':=by
 cases h with
 |here I=>show#[AE G I,λ_ _ _=>UQ,#[_,I],#[λ_ _ _ _=>UQ,λ_=>rfl,λh=>#[h,λ_ _ _ e=>e]],1]
 | @away n cs c _ I J hb =>
  let GR:=km G I;let U:=G.rg _ _ I;let Y:=G.vw J;let B:=GB GR (show ed s.pl k none k=none from bA) U.1 U.2 Y.1 Y.2 hb;let e3:(s.ow false)[n]?=some c:=by
   let#[x1,x2,S,y2,y3]:=J;rwa[I]at S;show y3
  show#[B.good,?_,B.fr,#[3,?_],B.ls,?_]
  .intro j O R;cases e:j=k
   .subst e;constructor
    .intro h;let#[L,N]:=B.vw.one h;subst L;subst N;show J
    .intro h;let#[L,N]:=J.one h;subst L;subst N;show B.vw
   .show(B.kept.ot j O R e).trans (jv G I e)
  .intro j O R e;show(B.kept.ot j O R e).trans (jv G I e)
  .intro b;show(B.kept.ln b).trans (eB b)
  .intro h;let#[a1,a2]:=B.kept.fr h;let e0:(qJ s k false n).ow true=s.ow true:=bh (f:=s.ow) (v:=(s.ow false).set n 0) (show true≠false by decide);show#[e0▸a1,λj m e hj=>a2 j m e ((aN e).trans hj)]
  .rw[B.al,su e3];omega
def next(s:PS):PS:={ s with ls:=s.ls+1 }
theorem qZ(G:Good s):Good (next s):=#[λk p h=>by have:=G.rg k p h;show#[this.1,by change k<=s.ls+1;omega],G.va,G.inj,G.on,G.ln,G.nd,G.fi]
theorem gj(G:Good s):s.pl (s.ls+1)=none:=by
 cases h:s.pl (s.ls+1)with
 |none=>rfl
 |some p=>have:=G.rg _ _ h;omega
theorem mf(G:Good s)(J:0<=s.ls)(I:cs.length=8)(h:BI (next s) (s.ls+1) cs 1 s'):NG (next s) (s.ls+1) cs 1 s' :=
 GB (qZ G) (gj G) af (OX _) (OX _) I h
inductive F8(s:PS)(k:Int):PS->Prop
 |more {b:Bool}{n:Nat}{cs:List Int}{c:Int}:s.pl k=some (b,n)->Vw s k cs c->1<c->F8 s k (cM s b n (c-1))
 |last {b:Bool}{n:Nat}{cs:List Int}:s.pl k=some (b,n)->Vw s k cs 1->F8 s k (qJ s k b n)
theorem vj(I:s.pl k=some (b,n))(J:Vw s k cs c):(s.ow b)[n]?=some c:=by
 let#[N,O,G,R,L]:=J;rwa[I]at G;show L
structure Oc(s:PS)(k:Int)(c:Int)(s':PS):Prop where
 good:Good s'
 ot:∀j cs' c',j≠k->(Vw s' j cs' c'↔Vw s j cs' c')
 me:∀cs' c',Vw s' k cs' c'↔(1<c/\c'=c-1/\Vw s k cs' c)
 pl:∀j,j≠k->s'.pl j=s.pl j
 ln:∀b,(s'.ow b).length=(s.ow b).length
 ls:s'.ls=s.ls
 al:all s'=all s-1
 kept:1<c->Kept s s' k
theorem yA(G:Good s)(L:Vw s k cs c)(h:F8 s k s'):Oc s k c s':=by
 cases h with
 | @more b n ab c1 I Y hc =>
  let#[J,O]:=L.one Y;subst J;subst O;let U:=vj I L;show#[kM G I af,λj S R N=>d9 G I N,?_,λ_ _=>rfl,λb=>eB b,rfl,3]
  .intro S R;let W:=jT (c:=c1-1) G I L;constructor
   .intro h;let#[J,O]:=W.one h;subst J;subst O;show#[hc,rfl,L]
   .rintro⟨_,q,h⟩;let#[J,O]:=L.one h;subst J;subst q;show W
  .rw[mK U];omega
  .intro _;show#[λj S R N=>d9 G I N,λb=>eB b,λh=>#[?_,λ_ _ _ e=>e]];let h:(0:Int)∈upd s.ow b ((s.ow b).set n (c1-1)) true:=h;cases e:true=b
   .subst e;rw[ae]at h;show DG af h
   .rw[bh e]at h;show h
 | @last b n ab I Y =>
  let#[J,O]:=L.one Y;subst J;subst O;let U:=vj I L;show#[km G I,λj S R N=>jv G I N,?_,λ_ N=>aN N,λb=>eB b,5,λh=>absurd h ar]
  .intro S R;constructor
   .rintro⟨x1,x2,y1,_,_⟩;let y9:(none:Option (Bool×Nat))=some (x1,x2):=(by rw[<-y1];show bA.symm);cases y9
   .rintro⟨q,_,_⟩;show absurd q ar
  .rw[su U]
theorem DK(G:Good s)(I:s.pl k=some (b,n))(J:Vw s k cs c):Good (cM s b n (c+1))/\Vw (cM s b n (c+1)) k cs (c+1)/\all (cM s b n (c+1))=all s+1:=by
 have:=G.vw J;show#[kM G I af,jT G I J,?_];rw[mK (vj I J)];omega
end
end Pg
namespace Pg
abbrev Ent:=Option Int
def full(es:List Ent):Int:=(es.countP (·.isSome):Nat)
structure RI(s:PS)(es:List Ent):Prop where
 good:Good s
 l0:0<=s.ls
 ne:s.ow true≠[]
 is:∀k,some k∈es->∃cs c,Vw s k cs c
 ct:∀k cs c,Vw s k cs c->c=(es.count (some k):Nat)
 al:all s=full es
 rm:es.length<=(s.ow true).length+(s.ow false).length
section
variable{s s':PS}{es r:List Ent}{k:Int}{cs:List Int}{c:Int}
theorem RI.perm{G:List Ent}(R:RI s es)(p:es.Perm G):RI s G :=
 #[R.good,R.l0,R.ne,λk h=>R.is k (p.mem_iff.mpr h),λk cs c h=>by rw[<-p.count_eq];show R.ct k cs c h,by rw[R.al];unfold full;rw[p.countP_eq],by rw[<-p.length_eq];show R.rm]
theorem ju:full (none::es)=full es:=by unfold full;rw[List.countP_cons_of_neg (by simp)]
theorem ig:full (some k::es)=full es+1:=by unfold full;rw[List.countP_cons_of_pos (by simp)];simp
theorem yQ:full es<=es.length:=by unfold full;exact_mod_cast List.countP_le_length
theorem j8{j:Int}:(none::es).count (some j)=es.count (some j):=Uz (by simp)
theorem eE:(some k::es).count (some k)=es.count (some k)+1:=List.count_cons_self
theorem fL{j:Int}(h:j≠k):(some k::es).count (some j)=es.count (some j):=Uz ‹qs h›
theorem RI.lay(R:RI s es)(h:es.length<(s.ow true).length+(s.ow false).length):RI s (none::es):=
 #[R.good,R.l0,R.ne,λk h=>R.is k ‹h›,λk cs c h=>by rw[j8];show R.ct k cs c h,by rw[ju];show R.al,h]
theorem RI.bare(R:RI s (none::es)):RI s es :=
 #[R.good,R.l0,R.ne,λk h=>R.is k ‹h›,λk cs c h=>by rw[<-j8];show R.ct k cs c h,by rw[<-ju];show R.al,Tf R.rm]
theorem RI.leave(R:RI s (some k::es))(N:Vw s k cs c)(h:F8 s k s'):RI s' es:=by
 let L:=yA R.good N h;let S:=R.ct _ _ _ N;rw[eE]at S;show#[L.good,by rw[L.ls];show R.l0,3,3,?_]
 .intro e;have:=L.ln true;rw[e]at this;show R.ne (OW.mp this.symm)
 .intro j J;cases e:j=k
  .subst e;have:0<es.count (some j):=PU.mpr J;show#[cs,c-1,(L.me cs (c-1)).mpr #[af,rfl,N]]
  .let#[I,G,q]:=R.is j (Ou _ J);show#[I,G,(L.ot j I G e).mpr q]
 .intro j I G J;cases e:j=k
  .subst e;let#[U,Y,q3]:=(L.me I G).mp J;omega
  .rw[<-fL e];show R.ct j I G ((L.ot j I G e).mp J)
 .let O:=R.al;rw[ig]at O;rw[L.al,O];omega
 .rw[L.ln,L.ln];show Tf R.rm
theorem RI.share{b:Bool}{n:Nat}(R:RI s es)(I:s.pl k=some (b,n))(N:Vw s k cs c)(h:es.length<(s.ow true).length+(s.ow false).length):RI (cM s b n (c+1)) (some k::es):=by
 let#[g,v,a]:=DK R.good I N;let O:=R.ct _ _ _ N;show#[g,R.l0,3,3,?_]
 .intro e;have:=eB (f:=s.ow) (b:=b) (n:=n) (x:=c+1) true;let e:upd s.ow b ((s.ow b).set n (c+1)) true=[]:=e;rw[e]at this;show R.ne (OW.mp this.symm)
 .intro j G;cases e:j=k
  .subst e;show#[cs,c+1,v]
  .let#[J,L,q]:=R.is j (by simpa[e]using G);show#[J,L,(d9 R.good I e).mpr q]
 .intro j J L G;cases e:j=k
  .subst e;let#[_,q]:=v.one G;rw[eE];omega
  .rw[fL e];show R.ct j J L ((d9 R.good I e).mp G)
 .rw[a,ig,R.al]
 .change es.length+1<=(upd s.ow b _ true).length+(upd s.ow b _ false).length;rw[eB,eB];show h
theorem RI.Gb(R:RI s es)(h:FE s k s'):RI s' es:=by
 let F:=rl R.good h;show#[F.good,by rw[F.ls];show R.l0,3,?_,by rw[F.al];show R.al,by rw[F.kept.ln,F.kept.ln];show R.rm]
 .intro e;have:=F.kept.ln true;rw[e]at this;show R.ne (OW.mp this.symm)
 .intro j G;let#[cs,c,q]:=R.is j G;show#[cs,c,(F.vw j cs c).mpr q]
 .intro j cs c G;show R.ct j cs c ((F.vw j cs c).mp G)
theorem RI.fill(R:RI s (none::r))(O:cs.length=8)(h:BI (next s) (s.ls+1) cs 1 s'):RI s' (some (s.ls+1)::r):=by
 let B:=mf R.good R.l0 O h;let no:r.count (some (s.ls+1))=0:=by
  apply Uo;intro q;let#[I,G,U,S,N,_]:=R.is _ (Ou _ (PU.mp q));rwa[gj R.good]at N
 show#[B.good,by rw[B.ls];change 0<=s.ls+1;have:=R.l0;omega,3,3,?_]
 .intro e;have:=B.kept.ln true;rw[e]at this;show R.ne (OW.mp this.symm)
 .intro j J;cases e:j=s.ls+1
  .subst e;show#[cs,(1),B.vw]
  .let#[I,G,q]:=R.is j (by simpa[e]using J);show#[I,G,(B.kept.ot j I G e).mpr q]
 .intro j I G J;cases e:j=s.ls+1
  .subst e;let#[_,q]:=B.vw.one J;rw[eE,no,q];rfl
  .rw[fL e, <-j8];show R.ct j I G ((B.kept.ot j I G e).mp J)
 .let L:=R.al;rw[ju]at L;rw[B.al,ig, <-L];rfl
 .rw[B.kept.ln,B.kept.ln];show R.rm
theorem lC{l:List Int}(h:∀x∈l,1<=x):(l.length:Int)<=l.sum:=by
 induction l with
 |nil=>show OX _
 |cons a l I =>
  let h1:=h a Oz;let h2:=I λx G=>h x (Ou _ G);rw[QA,K4];omega
theorem Good.pos(G:Good s){b:Bool}(h:¬ (0:Int)∈s.ow b):∀x∈s.ow b,1<=x:=by
 intro x J;let#[n,L]:=UL J;rcases G.on _ _ _ L with e|⟨j,e⟩
 .show absurd (e▸J) h
 .let#[cs,c,_,I,N,_]:=G.va _ _ _ e;rwa[L]at I;show N
theorem RI.room(R:RI s (none::r)):(0:Int)∈s.ow true\/(0:Int)∈s.ow false:=by
 cases h1:(0:Int)∈s.ow true
 .show .inl h1
 .by_cases h2:(0:Int)∈s.ow false
  .show .inr h2
  .exfalso;let N:=lC (R.good.pos h1);let J:=lC (R.good.pos h2);let G:=R.al;rw[ju]at G;let L:=yQ (es:=r);let I:=R.rm;rw[K4]at I;unfold all at G;omega
theorem vU{l:List Int}(h:∀x∈l,1<=x){n:Nat}{c:Int}(G:l[n]?=some c):(l.length:Int)+c-1<=l.sum:=by
 induction l generalizing n with
 |nil=>cases G
 |cons a l J =>
  let h2:∀x∈l,1<=x:=λx I=>h x (Ou _ I);let h1:=h a Oz;cases n with
  |zero =>
   cases G;have:=lC h2;rw[QA,K4];omega
  |succ n =>
   have:=J h2 (show l[n]?=some c from G);rw[QA,K4];omega
theorem RI.Lm(R:RI s es)(I:Vw s k cs c)(L:1<c):(0:Int)∈s.ow true\/(0:Int)∈s.ow false:=by
 cases h1:(0:Int)∈s.ow true
 .show .inl h1
 .by_cases h2:(0:Int)∈s.ow false
  .show .inr h2
  .exfalso;let N:=lC (R.good.pos h1);let S:=lC (R.good.pos h2);let J:=R.al;let U:=yQ (es:=es);let O:=R.rm;unfold all at J;let#[b,n,_,_,G]:=I;cases b
   .have:=vU (R.good.pos h2) G;omega
   .have:=vU (R.good.pos h1) G;omega
end
end Pg
namespace Pg
def Au(s:PS)(e:Ent)(cs:List Int):Prop:=match e with
 |none=>cs=replicate 8 0
 |some k=>∃c,Vw s k cs c
def aP(es:List Ent)(s s':PS):Prop:=∀e∈es,∀cs,Au s e cs->Au s' e cs
theorem aP.refl{es:List Ent}{s:PS}:aP es s s:=λ_ _ _ h=>h
section
variable{s s':PS}{es r:List Ent}{k:Int}{cs:List Int}{c:Int}
theorem RI.vZ(R:RI s (some k::es))(G:Vw s k cs c)(h:F8 s k s'):aP es s s':=by
 let L:=yA R.good G h;let U:=R.ct _ _ _ G;rw[eE]at U;intro e S Y q;cases e with
 |none=>show q
 |some j =>
  let#[I,q]:=q;cases J:j=k
  .subst J;let#[N,O]:=G.one q;subst N;subst O;have:0<es.count (some j):=PU.mpr S;show#[I-1,(L.me _ _).mpr #[af,rfl,G]]
  .show#[I,(L.ot j _ _ J).mpr q]
theorem xR{b:Bool}{n:Nat}(G:Good s)(L:s.pl k=some (b,n))(I:Vw s k cs c):aP es s (cM s b n (c+1)):=by
 intro e U R q;cases e with
 |none=>show q
 |some j =>
  let#[O,q]:=q;cases J:j=k
  .subst J;let#[N,S]:=I.one q;subst N;show#[c+1,jT G L I]
  .show#[O,(d9 G L J).mpr q]
theorem wx(G:Good s)(h:FE s k s'):aP es s s':=by
 intro e L J q;cases e with
 |none=>show q
 |some j =>
  let#[I,q]:=q;show#[I,((rl G h).vw _ _ _).mpr q]
theorem RI.Aw(R:RI s (none::r))(I:cs.length=8)(h:BI (next s) (s.ls+1) cs 1 s'):aP r s s':=by
 let B:=mf R.good R.l0 I h;intro e O N q;cases e with
 |none=>show q
 |some j =>
  let#[J,q]:=q;let L:j≠s.ls+1:=by
   intro e;let#[U,S,G,_]:=q;rwa[e,gj R.good]at G
  show#[J,(B.kept.ot _ _ _ L).mpr q]
theorem RI.part{s1 s2:PS}{ac:List Int}{S:Int}(R:RI s (some k::r))(U:Vw s k ac S)(hc:1<S)(h4:cs.length=8)(hB:BI (next s) (s.ls+1) cs 1 s1)(hL:F8 s1 k s2) :
  RI s2 (some (s.ls+1)::r)/\aP r s s2/\Au s2 (some (s.ls+1)) cs/\(∃m,s2.pl (s.ls+1)=some (true,m))/\s2.ls=s.ls+1 /\
  ((0:Int)∈s2.ow true->(0:Int)∈s.ow true/\∀j m,s.pl j=some (true,m)->s2.pl j=some (true,m))/\(∀b,(s2.ow b).length=(s.ow b).length):=by
 let B:=mf R.good R.l0 h4 hB;let nn:=gj R.good;let kn:k≠s.ls+1:=by
  intro e;let#[x1,x2,I,_]:=U;rwa[e,nn]at I
 let ab:Vw s1 k ac S:=(B.kept.ot _ _ _ kn).mpr U;let L:=yA B.good ab hL;let K:=L.kept hc;let am:=R.ct _ _ _ U;rw[eE]at am;let no:r.count (some (s.ls+1))=0:=by
  apply Uo;intro q;let#[O,N,x1,x2,I,_]:=R.is _ (Ou _ (PU.mp q));rwa[nn]at I
 let vn:Vw s2 (s.ls+1) cs 1:=(L.ot _ _ _ (qs kn)).mpr B.vw;let Y:∀b,(s2.ow b).length=(s.ow b).length:=λb=>(L.ln b).trans (B.kept.ln b);show#[#[L.good,3,3,3],?_,#[(1),vn],3,?_,Y]
 .rw[L.ls,B.ls];change 0<=s.ls+1;have:=R.l0;omega
 .intro e;have:=Y true;rw[e]at this;show R.ne (OW.mp this.symm)
 .intro j J;cases e:j=s.ls+1
  .subst e;show#[cs,(1),vn]
  .let J:some j∈r:=(by simpa[e]using J);cases G:j=k
   .subst G;show#[ac,S-1,(L.me _ _).mpr #[hc,rfl,ab]]
   .let#[O,N,q]:=R.is j (Ou _ J);show#[O,N,(L.ot _ _ _ G).mpr ((B.kept.ot _ _ _ e).mpr q)]
 .intro j O N J;cases e:j=s.ls+1
  .subst e;let#[_,q]:=vn.one J;rw[eE,no,q];rfl
  .rw[fL e];cases G:j=k
   .subst G;let#[q1,q2,q3]:=(L.me _ _).mp J;omega
   .rw[<-fL G];show R.ct j O N ((B.kept.ot _ _ _ e).mp ((L.ot _ _ _ G).mp J))
 .let h9:=R.al;rw[ig]at h9;rw[L.al,B.al,ig, <-h9];change all s+1-1=all s;omega
 .rw[Y,Y];show R.rm
 .intro e he O q;cases e with
  |none=>show q
  |some j =>
   let#[N,q]:=q;let ej:j≠s.ls+1:=by
    intro e;let#[x1,x2,I,_]:=q;rwa[e,nn]at I
   cases G:j=k
   .subst G;let#[q1,q2]:=U.one q;subst q1;show#[S-1,(L.me _ _).mpr #[hc,rfl,ab]]
   .show#[N,(L.ot _ _ _ G).mpr ((B.kept.ot _ _ _ ej).mpr q)]
 .let#[m,hm]:=B.fr;show#[m,(L.pl _ (qs kn)).trans hm]
 .rw[L.ls,B.ls];rfl
 .intro h;let#[a1,a2]:=K.fr h;let#[b1,b2]:=B.kept.fr a1;show#[b1,?_];intro j m e;let ej:j≠s.ls+1:=(by intro q;rwa[q,nn]at e);let e1:=b2 j m ej e;cases G:j=k
  .subst G;cases hL with
   |more hk ah ap=>show e1
   |last hk ah =>
    have:=(ab.one ah).2;omega
  .show a2 j m G e1
theorem RI.write{I:PS}{m:Nat}(R:RI s (some k::r)){ab:List Int}(Y:Vw s k ab 1)(h4:cs.length=8)(U:FE s k I)(J:I.pl k=some (true,m)) :
  RI (write I true m cs) (some k::r)/\aP r s (write I true m cs)/\Au (write I true m cs) (some k) cs:=by
 let F:=rl R.good U;let G:=R.Gb U;let ac:Vw I k ab 1:=(F.vw _ _ _).mpr Y;let ah:=R.ct _ _ _ Y;rw[eE]at ah;let no:¬ some k∈r:=λh=>(by have:0<r.count (some k):=PU.mpr h;omega);let S:=Bv (cs:=cs) G.good J ac;show#[#[wu G.good J h4,G.l0,G.ne,3,G.al,G.rm],?_,#[(1),S]]
 .intro j N;cases e:j=k
  .subst e;show#[cs,(1),S]
  .let#[O,L,q]:=G.is j N;show#[O,L,(jf G.good J e).mpr q]
 .intro j O L N;cases e:j=k
  .subst e;let#[_,q]:=S.one N;rw[q];show G.ct _ _ _ ac
  .show G.ct j O L ((jf G.good J e).mp N)
 .intro e he O q;cases e with
  |none=>show q
  |some j =>
   let#[L,q]:=q;let ek:j≠k:=λe=>no (e▸he);show#[L,(jf G.good J ek).mpr ((F.vw _ _ _).mpr q)]
end
end Pg
namespace St
open PySem L2
abbrev Be:Ow:=top 12
abbrev sV:Ow:=top 13
theorem aX.keep{C p ow co:Addr}{M:Xm}{os:List Int}{pg:List (Option (List Int))}{H H':Hp}(S:aX C H M p ow co os pg)(h:Off (λ_=>False) H H'):aX C H' M p ow co os pg:=by
 let#[#[dx,h1],G,cs,I,J]:=S;show#[#[dx,h _ _ h1 id],h _ _ G id,cs,h _ _ I id,jJ h (λ_ z=>z.elim) J]
theorem dy{H:Hp}{l:Addr}{o:HO}(h:H l=none):Off (λ_=>False) H (upd H l o):=by
 intro b o' e _;rw[ai (λz=>by rwa[z,h]at e)];show e
theorem gJ{os:List Int}{n:Nat}{x:Int}(h:n<os.length):eY (os.set n x) n=x:=by
 unfold eY;rw[Xk (by rw[OS];omega)];simp[h]
theorem gf{os:List Int}{n:Nat}{x:Int}(h:os[n]?=some x):eY os n=x:=by
 let#[h1,h2]:=kQ.mp h;unfold eY;rw[Xk af];simp[h1,h2]
theorem EE{os:List Int}{n:Nat}{x:Int}(h:os[n]?=some x):os.set n x=os:=by
 let#[h1,h2]:=kQ.mp h;rw[<-h2];show List.set_getElem_self h1
inductive r6(C:Addr)(v:List V)(H:Hp)(Q:VK)(e:XK):Prop
 |mk (p ow co:Addr) (M:Xm) (os:List Int) (pg:List (Option (List Int))) (n:Nat) (ns:List Int) (c:Nat) (_:v=[.ref p,.int n]) (_:aX C H M p ow co os pg) (_:M ow) (_:M co) (_:(∀b,M b->H b≠none)) (_:ow≠co) (_:os.length<=60) (_:os[n]?=some (c:Int)) (_:1<=c) (_:c<=1000) (_:pg[n]?=some (some ns)) (_:∀(H':Hp)(t l:Addr),H t=none->H' t=some (.tup [.ref l,.int c])->¬ M l->H' l=some (.lst (ns.map V.int))->aX C H' M p ow co (os.set n 0) pg->Off (λb=>b=ow\/b=co) H H'->Q (.ref t) H'):r6 C v H Q e
theorem Lc:aE ["store","n","moved"] ["store","n"] (aw Be):=L2.bN
theorem Fc{C:Addr}(F:cE K "lift" "lift" Be f fd)(T:Txt K mg C)(GE:↥Md 3 C "cells" (mW C))(GC:↥Md 1 C "count" (ix C))(GL:↥Md 3 C "less" (sD C)) :
  ↥aV 4 f fd ["store","n"] (r6 C):=by
 show F.dS Lc (λa0 A outer s H vs Q E R h=>?_);let#[p,ow,co,M,os,pg,n,ns,c,rfl,S,mw,mc,mt,as,O,N,c1,c2,hg,k]:=h;let#[#[dx,h1],hw,cs,aT,hp]:=id S;let#[nl,_]:=kQ.mp N;let hc:eY os n≠0:=(by rw[gf N];omega);show#[_,(aj (dt 2 Lc.nd (cI (aa (pm (pv 0) T.cl GE R aC (aa (pv 1) ag)) (aa (pm (pv 0) T.cl GC R aC (aa (pv 1) ag)) ag))))
  (aj (vG Ol (aD iL (pm (pv 0) T.cl GC R aC (aa (pv 1) ag)) ak (aG _)) (ao (aO (pm (pv 0) T.cl GL R aC (aa (pv 1) ag)))))
  (ao (aK (pv 2))))),?_]
 show#[0,p,dx,0,h1,aW _ _ aq aq,0,p,ow,co,M,os,pg,n,ns,rfl,S,O,hc,hg,?_];intro l U;let L:=S.keep (dy (o:=.lst (ns.map V.int)) U);let ap:upd H l (.lst (ns.map V.int)) l=some (.lst (ns.map V.int)):=ae;let O1:Off (λb=>b=ow\/b=co) H (upd H l (.lst (ns.map V.int))):=λb o e _=>dy U b o e id;generalize upd H l (.lst (ns.map V.int))=H1 at *;let#[aB,am]:=L.ob;show#[0,p,aB,0,am,aW _ _ aq aq,0,p,ow,co,M,os,pg,n,rfl,L,O,?_];rw[gf N];show#[dZ,λt G=>?_];let S2:=L.keep (dy (o:=.tup [.ref l,.int c]) G);let ht:upd H1 t (.tup [.ref l,.int c]) t=some (.tup [.ref l,.int c]):=ae;let ah:upd H1 t (.tup [.ref l,.int c]) l=some (.lst (ns.map V.int)):=dy G l _ ap id;let O2:Off (λb=>b=ow\/b=co) H (upd H1 t (.tup [.ref l,.int c])):=λb o e z=>dy G b o (O1 b o e z) id;let Y:¬ M l:=λz=>mt l z U;let fH:H t=none:=by
  cases e:H t with
  |none=>rfl
  |some o =>
   exfalso;cases z:t=ow\/t=co
   .rcases z with z|z
    .subst z;rwa[L.hw]at G
    .subst z;let#[_,q,_]:=L.hc;rwa[q]at G
   .rw[O1 t o e z]at G;cases G
 generalize upd H1 t (.tup [.ref l,.int c])=H2 at *;show#[λm σ H3=>∃c':Nat,m=c'/\σ=#v[.ref p,.int n,.ref t]/\aX C H3 M p ow co (os.set n c') pg/\H3 t=some (.tup [.ref l,.int c])/\H3 l=some (.lst (ns.map V.int))/\Off (λb=>b=ow\/b=co) H H3,
  #[c,c,1,by rw[EE N];show S2,ht,ah,O2],?_]
 rintro m σ H3 ⟨c',rfl,rfl,I,J,l3,O3⟩;let#[ab,h3]:=I.ob;show#[0,p,ab,0,h3,aW _ _ aq aq,0,p,ow,co,M,_,pg,n,rfl,I,by rw[OS];show O,?_];rw[gJ nl];show#[_,0,rfl,0,?_];cases z:(0:Int)<m
 .rw[decide_eq_true z];show#[λac H'=>ac=#v[.ref p,.int n,.ref t]/\aX C H' M p ow co (os.set n (m-1:Nat)) pg/\H' t=some (.tup [.ref l,.int c])/\H' l=some (.lst (ns.map V.int))/\Off (λb=>b=ow\/b=co) H H',3]
  .rintro ac H' ⟨a1,a2,a3,a4,a5⟩;show#[m-1,af,m-1,rfl,a1,a2,a3,a4,a5]
  .show#[0,p,ab,0,h3,aW _ _ aq aq,0,p,ow,co,M,_,pg,n,rfl,I,mw,mc,as,by rw[OS];show O,by rw[gJ nl];omega,?_];intro H4 S4 O4;rw[gJ nl,show(n:Int).toNat=n from Qc n,Vz]at S4;show#[rfl,3,3]
   .let e:((m-1:Nat):Int)=(m:Int)-1:=af;rw[e];show S4
   .show O4 _ _ J λq=>?_;rcases q with q|q
    .subst q;rwa[I.hw]at J
    .subst q;let#[_,y,_]:=I.hc;rwa[y]at J
   .show O4 _ _ l3 λq=>?_;rcases q with q|q
    .show Y (q▸mw)
    .show Y (q▸mc)
   .intro b o e q;show O4 b o (O3 b o e q) q
 .rw[decide_eq_false z];let e:m=0:=af;subst e;show#[0,k H3 t l fH J Y l3 I O3]
theorem rE{C p ow co:Addr}{M:Xm}{os:List Int}{pg:List (Option (List Int))}{H H':Hp}(S:aX C H' M p ow co os pg)(h:Off (λb=>b=ow\/b=co) H H')(mt:∀b,M b->H b≠none):∀b,M b->H' b≠none:=by
 intro b I e;cases z:b=ow\/b=co
 .rcases z with z|z
  .subst z;rwa[S.hw]at e
  .subst z;let#[_,q,_]:=S.hc;rwa[q]at e
 .cases G:H b with
  |none=>show mt b I G
  |some o=>rwa[h b o G z]at e
inductive kH(C:Addr)(v:List V)(H:Hp)(Q:VK)(e:XK):Prop
 |mk (p ow co t l:Addr) (M:Xm) (os:List Int) (pg:List (Option (List Int))) (ns:List Int) (c:Nat) (_:v=[.ref p,.ref t]) (_:aX C H M p ow co os pg) (_:M ow) (_:M co) (_:(∀b,M b->H b≠none)) (_:ow≠co) (_:os.length=pg.length) (_:os.length<=60) (_:(0:Int)∈os) (_:H t=some (.tup [.ref l,.int c])) (_:H l=some (.lst (ns.map V.int))) (_:¬ M l) (_:1<=c) (_:c<=1000) (_:∀H':Hp,aX C H' M p ow co (os.set (os.idxOf 0) c) (pg.set (os.idxOf 0) (some ns))->Off (λb=>b=ow\/b=co) H H'->Q (.int (os.idxOf 0:Nat)) H'):kH C v H Q e
theorem Fp:aE ["store","moved","n"] ["store","moved"] (aw sV):=L2.bN
theorem Ag{C:Addr}(F:cE K "settle" "settle" sV f fd)(T:Txt K mg C)(GT:↥Md 1 C "take" (yo C))(GP:↥Md 3 C "put" (yG K C))(GC:↥Md 1 C "count" (ix C))(GM:↥Md 3 C "more" (uC C)) :
  ↥aV 4 f fd ["store","moved"] (kH C):=by
 show F.dS Fp (λa0 A outer s H vs Q E U h=>?_);let#[p,ow,co,t,l,M,os,pg,ns,c,rfl,S,J,mc,mt,ab,ah,R,h0,I,aB,nM,c1,c2,k]:=h;let#[dx,h1]:=S.ob;let N:os.idxOf 0<os.length:=Pw.mpr h0;show#[_,(aj (dt 2 Fp.nd (pJ (pv 0) T.cl GT U aC))
  (aj (aO (pm (pv 0) T.cl GP U aC (aa (pv 2) (aa (aY bf (pv 1) ak cz) ag))))
  (aj (vG Ol (aD fP (pm (pv 0) T.cl GC U aC (aa (pv 2) ag)) (aY bf (pv 1) ak cz) (aG _)) (ao (aO (pm (pv 0) T.cl GM U aC (aa (pv 2) ag)))))
  (ao (aK (pv 2)))))),?_]
 show#[0,p,dx,0,h1,aW _ _ aq aq,p,ow,co,M,os,pg,rfl,S,J,mc,mt,ab,ah,R,λz=>absurd h0 z,λ_ H1 Y O=>?_];generalize os.idxOf 0=j at *;let#[aT,as]:=Y.ob;let nt:¬ (t=ow\/t=co):=λq=>by
  rcases q with q|q
  .subst q;rwa[S.hw]at I
  .subst q;let#[_,y,_]:=S.hc;rwa[y]at I
 let ap:¬ (l=ow\/l=co):=λq=>by
  rcases q with q|q
  .show nM (q▸J)
  .show nM (q▸mc)
 let t1:=O _ _ I nt;let l1:=O _ _ aB ap;show#[0,p,aT,0,as,aW _ _ aq aq,0,0,t,_,(0),0,rfl,bP.of t1,rfl,p,ow,co,l,M,2,_,ns,rfl,Y,J,mc,rE Y O mt,ab,by rw[OS,OS];show ah,by rw[OS];show R,by rw[gJ N];decide,bw.of l1,?_];intro H2 S2 O2;rw[show(j:Int).toNat=j from Qc j,Vz]at S2;show#[λm σ H3=>∃G:Nat,m+G=c/\1<=G/\σ=#v[.ref p,.ref t,.int j]/\aX C H3 M p ow co (os.set j G) (pg.set j (some ns))/\H3 t=some (.tup [.ref l,.int c])/\Off (λb=>b=ow\/b=co) H H3,
  #[c-1,(1),SF c1,ti _,rfl,S2,O2 _ _ t1 nt,λb o e q=>O2 b o (O b o e q) q],?_]
 rintro m σ H3 ⟨G,em,p1,rfl,L,t3,O3⟩;let#[ac,h3]:=L.ob;show#[0,p,ac,0,h3,aW _ _ aq aq,0,p,ow,co,M,2,j,rfl,L,by rw[OS];show R,?_];rw[gJ N];show#[0,t,_,(1),0,rfl,bP.of t3,4,0,rfl,0,?_];cases z:(G:Int)<c
 .rw[decide_eq_true z];show#[λam H'=>am=#v[.ref p,.ref t,.int j]/\aX C H' M p ow co (os.set j (G+1:Nat)) (pg.set j (some ns))/\H' t=some (.tup [.ref l,.int c])/\Off (λb=>b=ow\/b=co) H H',3]
  .rintro am H' ⟨a1,a2,a3,a4⟩;show#[m-1,af,G+1,af,af,a1,a2,a3,a4]
  .show#[0,p,ac,0,h3,aW _ _ aq aq,0,p,ow,co,M,2,j,rfl,L,J,mc,ab,by rw[OS];show R,by rw[gJ N];show Pn Int.natCast_ne_zero_iff_pos p1,?_];intro H4 S4 O4;rw[gJ N,show(j:Int).toNat=j from Qc j,Vz]at S4;show#[rfl,S4,O4 _ _ t3 nt,λb o e q=>O4 b o (O3 b o e q) q]
 .rw[decide_eq_false z];let e:G=c:=af;subst e;show#[0,k H3 L O3]
structure PA where
 pg:Addr
 fp:Addr
 fo:Addr
 fc:Addr
 sp:Addr
 so:Addr
 sc:Addr
 pd:Addr
 il:Addr
def du(A:PA)(n:Int):List (Str×V):=bt "in_frames" (.ref A.il) (bt "last_sheet" (.int n) (bt "places" (.ref A.pd) (bt "slots" (.ref A.sp) (bt "frames" (.ref A.fp) []))))
abbrev HH:=List (Int×Addr×Bool×Nat)
def uE(x:Addr×Bool×Nat):V:=.ref x.1
def mC(b:Bool)(n:Nat):List V:=[.str (if b=true then "frame" else "slot"),.int n]
structure bR(C CS:Addr)(H:Hp)(M:Xm)(A:PA)(s:Pg.PS):Prop where
 ob:∃dx,H A.pg=some (.ins C dx (du A s.ls))
 fr:aX CS H M A.fp A.fo A.fc (s.ow true) (s.co true)
 sl:aX CS H M A.sp A.so A.sc (s.ow false) (s.co false)
 il:H A.il=some (.lst (s.inf.map V.int))
 le:∀b,(s.ow b).length<=60
 pd:∃l:HH,H A.pd=some (.dK (Tb.dk uE l))/\(l.map (·.1)).Nodup/\(∀x∈l,H x.2.1=some (.tup (mC x.2.2.1 x.2.2.2)))/\(∀k,(Tb.look l k).map (·.2)=s.pl k)/\l.length<=1000
structure rY(K:HC)(mg:Xq)(C:Addr):Prop where
 cl:qL K C
 nF:dC K C "frames"
 nS:dC K C "slots"
 nP:dC K C "places"
 nL:dC K C "last_sheet"
 nI:dC K C "in_frames"
 list:mg "list" = none
abbrev xA:Ow:=inClass (top 14) 9
inductive kC(C CS:Addr)(v:List V)(H:Hp)(Q:VK)(e:XK):Prop
 |mk(M:Xm)(A:PA)(s:Pg.PS)(k:Int)(b:Bool)(n:Nat)(_:v=[.ref A.pg,.int k])(_:bR C CS H M A s)(_:s.pl k=some (b,n))(_:∀t,H t=some (.tup (mC b n))->Q (.ref t) H)
theorem rQ(A:PA)(n:Int):(du A n).lookup ("places" : Str)=some (.ref A.pd):=by
 unfold du;rw[aJ,Xk aq,aJ,Xk aq,aJ,Xl rfl]
theorem Mc:aE ["self","sheet"] ["self","sheet"] (aw xA):=L2.bN
theorem Dq{C CS:Addr}(F:cE K "place" "Paging.place" xA f fd)(T:rY K mg C):↥aV 1 f fd ["self","sheet"] (kC C CS):=by
 show F.dS Mc (λab A outer s H vs Q E O h=>?_);let#[M,I,s',k,b,n,rfl,G,S,q]:=h;let#[dx,h1]:=G.ob;let#[l,hd,nd,Y,U,_]:=G.pd;show#[_,(aj (aU (iZ (gT (bz O) (pv 1) (aL (pv 0) rfl))) dh aI)
  (ao (aK (bJ (bz O) (aL (pv 0) rfl) (pv 1) cz)))),?_]
 obtain⟨x,J,ex⟩:∃x,Tb.look l k=some x/\x.2=(b,n):=by
  have:=U k;rw[S]at this;show o8.mp this
 let N:dY H I.pd (.int k) (some (uE x)):=by
  let R:=dY.k (k:=vr k) hd;rw[Tb.dg,J]at R;show R
 let L:=Y _ (Tb.aA J);show#[0,0,I.pg,C,dx,_,0,h1,T.cl,T.nP,rQ _ _,I.pd,0,N,0,?_];show b9 #[0,I.pg,C,dx,_,0,h1,T.cl,T.nP,rQ _ _,0,I.pd,uE x,rfl,N,q x.1 ?_];rw[show x.2.1=b by rw[ex],show x.2.2=n by rw[ex]]at L;show L
abbrev mz:Ow:=inClass (top 14) 10
abbrev pN:Ow:=inClass (top 14) 11
inductive dP(C CS:Addr)(v:List V)(H:Hp)(Q:VK)(e:XK):Prop
 |mk(M:Xm)(A:PA)(s:Pg.PS)(k:Int)(b:Bool)(n:Nat)(_:v=[.ref A.pg,.int k])(_:bR C CS H M A s)(_:s.pl k=some (b,n))(_:Q (.int n) H)
def PA.st(A:PA)(b:Bool):Addr:=if b=true then A.fp else A.sp
inductive gk(C CS:Addr)(v:List V)(H:Hp)(Q:VK)(e:XK):Prop
 |mk(M:Xm)(A:PA)(s:Pg.PS)(k:Int)(b:Bool)(n:Nat)(_:v=[.ref A.pg,.int k])(_:bR C CS H M A s)(_:s.pl k=some (b,n))(_:Q (.ref (A.st b)) H)
theorem dw(A:PA)(n:Int){m:Str}(h1:¬ m = "in_frames")(h2:¬ m = "last_sheet")(J:¬ m = "places")(G:¬ m = "slots")(I:¬ m = "frames"):(du A n).lookup m=none:=by
 unfold du;rw[aJ,Xk h1,aJ,Xk h2,aJ,Xk J,aJ,Xk G,aJ,Xk I]
 all_goals rfl
theorem rG(A:PA)(n:Int):(du A n).lookup ("frames" : Str)=some (.ref A.fp):=by
 unfold du;rw[aJ,Xk aq,aJ,Xk aq,aJ,Xk aq,aJ,Xk aq,aJ,Xl rfl]
theorem yx(A:PA)(n:Int):(du A n).lookup ("slots" : Str)=some (.ref A.sp):=by
 unfold du;rw[aJ,Xk aq,aJ,Xk aq,aJ,Xk aq,aJ,Xl rfl]
theorem LV:aE ["self","sheet"] ["self","sheet"] (aw mz):=L2.bN
theorem vA{C CS:Addr}(F:cE K "number_of" "Paging.number_of" mz f fd)(T:rY K mg C)(J:↥Md 1 C "place" (kC C CS)):↥aV 2 f fd ["self","sheet"] (dP C CS):=by
 show F.dS LV (λR A outer s H vs Q E O h=>?_);let#[M,I,s',k,b,n,rfl,G,N,q]:=h;let#[dx,h1]:=G.ob;show#[_,(ao (aK (aY bf (pm (pv 0) T.cl J O aC (aa (pv 1) ag)) ak cz))),?_];show#[0,I.pg,dx,0,h1,dw _ _ aq aq aq aq aq,0,M,I,s',k,b,n,rfl,G,N,λt L=>?_];show#[t,_,(1),0,rfl,bP.of L,rfl,q]
theorem MB:aE ["self","sheet"] ["self","sheet"] (aw pN):=L2.bN
theorem xP{C CS:Addr}(F:cE K "store_of" "Paging.store_of" pN f fd)(T:rY K mg C)(J:↥Md 1 C "place" (kC C CS)):↥aV 2 f fd ["self","sheet"] (gk C CS):=by
 show F.dS MB (λR A outer s H vs Q E O h=>?_);let#[M,I,s',k,b,n,rfl,G,N,q]:=h;let#[dx,h1]:=G.ob;show#[_,(aj (aU (aD bH (aY bf (pm (pv 0) T.cl J O aC (aa (pv 1) ag)) ak cz) aF (aG _)) (ao (aK (aL (pv 0) rfl))) aI)
  (ao (aK (aL (pv 0) rfl)))),?_]
 show#[0,I.pg,dx,0,h1,dw _ _ aq aq aq aq aq,0,M,I,s',k,b,n,rfl,G,N,λt L=>?_];show#[t,_,(0),0,rfl,bP.of L,1,0,?_];cases b with
 |true=>show eS #[0,I.pg,C,dx,_,0,h1,T.cl,T.nF,rG _ _,q]
 |false=>show b9 #[0,I.pg,C,dx,_,0,h1,T.cl,T.nS,yx _ _,q]
abbrev tI:Ow:=inClass (top 14) 12
abbrev sI:Ow:=inClass (top 14) 4
def PA.ow(A:PA)(b:Bool):Addr:=if b=true then A.fo else A.so
def PA.co(A:PA)(b:Bool):Addr:=if b=true then A.fc else A.sc
theorem bR.st{C CS:Addr}{H:Hp}{M:Xm}{A:PA}{s:Pg.PS}(G:bR C CS H M A s)(b:Bool):aX CS H M (A.st b) (A.ow b) (A.co b) (s.ow b) (s.co b):=by
 cases b
 .show G.sl
 .show G.fr
inductive oo(C CS:Addr)(v:List V)(H:Hp)(Q:VK)(e:XK):Prop
 |mk(M:Xm)(A:PA)(s:Pg.PS)(k:Int)(cs:List Int)(c:Int)(_:v=[.ref A.pg,.int k])(_:bR C CS H M A s)(_:Pg.Vw s k cs c)(_:Q (.int c) H)
inductive nZ(C CS:Addr)(v:List V)(H:Hp)(Q:VK)(e:XK):Prop
 |mk(M:Xm)(A:PA)(s:Pg.PS)(k:Int)(cs:List Int)(c:Int)(_:v=[.ref A.pg,.int k])(_:bR C CS H M A s)(_:Pg.Vw s k cs c)(_:c≠0)(_:∀l,H l=none->Q (.ref l) (upd H l (.lst (cs.map V.int))))
theorem Mv:aE ["self","sheet"] ["self","sheet"] (aw tI):=L2.bN
theorem zU{C CS:Addr}(F:cE K "count" "Paging.count" tI f fd)(T:rY K mg C)(TS:Txt K mg CS)(R:↥Md 2 C "store_of" (gk C CS))(Y:↥Md 2 C "number_of" (dP C CS))(U:↥Md 1 CS "count" (ix CS)):↥aV 3 f fd ["self","sheet"] (oo C CS):=by
 show F.dS Mv (λab A outer s H vs Q E J h=>?_);let#[M,I,s',k,cs,c,rfl,G,#[b,n,L,ac,O],q]:=h;let#[dx,h1]:=G.ob;let S:=G.st b;let#[N,h2]:=S.ob;show#[_,(ao (aK (pm (pm (pv 0) T.cl R J aC (aa (pv 1) ag)) TS.cl U J aC (aa (pm (pv 0) T.cl Y J aC (aa (pv 1) ag)) ag)))),?_];show#[0,I.pg,dx,0,h1,dw _ _ aq aq aq aq aq,0,M,I,s',k,b,n,rfl,G,L,?_];show#[_,N,0,h2,aW _ _ aq aq,?_];show#[0,I.pg,dx,0,h1,dw _ _ aq aq aq aq aq,0,M,I,s',k,b,n,rfl,G,L,?_];show#[2,_,M,2,n,rfl,S,G.le b,?_];rw[gf O];show q
theorem MY:aE ["self","sheet"] ["self","sheet"] (aw sI):=L2.bN
theorem Ap{C CS:Addr}(F:cE K "cells" "Paging.cells" sI f fd)(T:rY K mg C)(TS:Txt K mg CS)(R:↥Md 2 C "store_of" (gk C CS))(Y:↥Md 2 C "number_of" (dP C CS))(GE:↥Md 3 CS "cells" (mW CS)):↥aV 4 f fd ["self","sheet"] (nZ C CS):=by
 show F.dS MY (λab A outer s H vs Q E J h=>?_);let#[M,I,s',k,cs,c,rfl,G,#[b,n,L,U,O],hc,q]:=h;let#[dx,h1]:=G.ob;let S:=G.st b;let#[N,h2]:=S.ob;show#[_,(ao (aK (pm (pm (pv 0) T.cl R J aC (aa (pv 1) ag)) TS.cl GE J aC (aa (pm (pv 0) T.cl Y J aC (aa (pv 1) ag)) ag)))),?_];show#[0,I.pg,dx,0,h1,dw _ _ aq aq aq aq aq,0,M,I,s',k,b,n,rfl,G,L,?_];show#[_,N,0,h2,aW _ _ aq aq,?_];show#[0,I.pg,dx,0,h1,dw _ _ aq aq aq aq aq,0,M,I,s',k,b,n,rfl,G,L,?_];show#[2,_,M,2,n,cs,rfl,S,G.le b,by rw[gf O];show hc,by rw[show(n:Int).toNat=n from Qc n];show U,q]
theorem aX.off{C p ow co:Addr}{B M:Xm}{os:List Int}{pg:List (Option (List Int))}{H H':Hp}(S:aX C H M p ow co os pg)(h:Off B H H')(O:∀b,B b->M b)(R:¬ B p)(N:¬ B ow)(I:¬ B co):aX C H' M p ow co os pg:=by
 let#[#[dx,h1],G,cs,J,L]:=S;show#[#[dx,h _ _ h1 R],h _ _ G N,cs,h _ _ J I,jJ h O L]
structure PA.Ok(A:PA)(M:Xm):Prop where
 ds:[A.pg,A.fp,A.fo,A.fc,A.sp,A.so,A.sc,A.pd,A.il].Nodup
 mm:∀x∈[A.pg,A.fp,A.fo,A.fc,A.sp,A.so,A.sc,A.pd,A.il],M x
def PA.own(A:PA):Addr->Prop:=λb=>b∈[A.pg,A.fo,A.fc,A.so,A.sc,A.pd,A.il]
abbrev uu:Ow:=inClass (top 14) 8
theorem qr{α:Type}{l:List α}(h:l.Nodup)(i j:Nat){a b:α}(hi:l[i]?=some a)(L:l[j]?=some b)(J:i≠j):a≠b:=by
 let#[h1,I]:=kQ.mp hi;let#[h2,G]:=kQ.mp L;let q:=PK.mp h;rcases Nat.lt_or_gt_of_ne J with z|z
 .rw[<-I, <-G];show q i j h1 h2 z
 .rw[<-I, <-G];show qs (q j i h2 h1 z)
theorem gX{a b c:Addr}(h1:a≠b)(h2:a≠c):¬ (a=b\/a=c):=λz=>z.elim h1 h2
theorem J1{M:Xm}{a b:Addr}(h1:M a)(h2:M b):∀c,c=a\/c=b->M c:=λc z=>z.elim (λe=>by rw[e];show h1) λe=>by rw[e];show h2
theorem in1{M:Xm}{a:Addr}(h1:M a):∀c,c=a->M c:=λc e=>by rw[e];show h1
section
variable{A:PA}{M:Xm}
theorem PA.Ok.n(ok:A.Ok M)(i j:Nat){a b:Addr}(hi:[A.pg,A.fp,A.fo,A.fc,A.sp,A.so,A.sc,A.pd,A.il][i]?=some a)(I:[A.pg,A.fp,A.fo,A.fc,A.sp,A.so,A.sc,A.pd,A.il][j]?=some b)(G:i≠j):a≠b:=qr ok.ds i j hi I G
theorem PA.Ok.m(ok:A.Ok M)(i:Nat){a:Addr}(hi:[A.pg,A.fp,A.fo,A.fc,A.sp,A.so,A.sc,A.pd,A.il][i]?=some a):M a:=ok.mm a (z6 hi)
theorem PA.gg(i:Nat){a:Addr}(hi:[A.pg,A.fo,A.fc,A.so,A.sc,A.pd,A.il][i]?=some a):A.own a:=z6 hi
theorem PA.Ok.own(ok:A.Ok M):∀b,A.own b->M b:=by
 intro b h;unfold PA.own at h;simp only[BY,DO,or_false]at h;rcases h with h|h|h|h|h|h|h<;>rw[h]
 .show ok.m 0 rfl
 .show ok.m 2 rfl
 .show ok.m 3 rfl
 .show ok.m 5 rfl
 .show ok.m 6 rfl
 .show ok.m 7 rfl
 .show ok.m 8 rfl
theorem bR.alive{C CS:Addr}{H H':Hp}{s:Pg.PS}(G:bR C CS H' M A s)(o:Off A.own H H')(mt:∀b,M b->H b≠none):∀b,M b->H' b≠none:=by
 intro b N e;cases z:A.own b
 .unfold PA.own at z;simp only[BY,DO,or_false]at z;let#[dx,h1]:=G.ob;let#[_,J,_]:=G.fr.hc;let#[_,O,_]:=G.sl.hc;let#[l,L,_]:=G.pd;rcases z with z|z|z|z|z|z|z<;>rw[z]at e
  .rw[h1]at e;cases e
  .rw[G.fr.hw]at e;cases e
  .rw[J]at e;cases e
  .rw[G.sl.hw]at e;cases e
  .rw[O]at e;cases e
  .rw[L]at e;cases e
  .rw[G.il]at e;cases e
 .cases I:H b with
  |none=>show mt b N I
  |some o'=>rwa[o b o' I z]at e
theorem bR.keep{C CS:Addr}{H H':Hp}{s:Pg.PS}(G:bR C CS H M A s)(h:Off (λ_=>False) H H'):bR C CS H' M A s:=by
 let#[dx,h1]:=G.ob;let#[l,hd,N,L,O,J]:=G.pd;show#[#[dx,h _ _ h1 id],G.fr.keep h,G.sl.keep h,h _ _ G.il id,G.le,#[l,h _ _ hd id,N,λx I=>h _ _ (L x I) id,O,J]]
theorem bR.oW{C CS:Addr}{H:Hp}{s:Pg.PS}(G:bR C CS H M A s)(ok:A.Ok M)(r:List Int):bR C CS (upd H A.il (.lst (r.map V.int))) M A { s with inf:=r }:=by
 let o:Off (· = A.il) H (upd H A.il (.lst (r.map V.int))):=λb o e z=>(by rw[ai z];show e);let#[dx,h1]:=G.ob;let#[l,hd,N,J,O,L]:=G.pd;show#[#[dx,o _ _ h1 (ok.n 0 8 rfl rfl ar)],G.fr.off o (in1 (ok.m 8 rfl)) (ok.n 1 8 rfl rfl ar) (ok.n 2 8 rfl rfl ar) (ok.n 3 8 rfl rfl ar),G.sl.off o (in1 (ok.m 8 rfl)) (ok.n 4 8 rfl rfl ar) (ok.n 5 8 rfl rfl ar) (ok.n 6 8 rfl rfl ar),ae,G.le,
  #[l,o _ _ hd (ok.n 7 8 rfl rfl ar),N,λx I=>o _ _ (J x I) (cY (J x I) G.il (by intro z;cases z)),O,L]]
theorem bR.Hy{C CS:Addr}{H:Hp}{s s':Pg.PS}(G:bR C CS H M A s)(I:s'.ow=s.ow)(J:s'.co=s.co)(L:s'.ls=s.ls)(U:s'.inf=s.inf)(N:∀j,s'.pl j=s.pl j):bR C CS H M A s':=by
 let#[l,hd,S,R,Y,O]:=G.pd;show#[by rw[L];show G.ob,by rw[I,J];show G.fr,by rw[I,J];show G.sl,by rw[U];show G.il,by rw[I];show G.le,#[l,hd,S,R,λj=>by rw[N];show Y j,O]]
theorem Et{H:Hp}{l:HH}{f:Int->Option (Bool×Nat)}{k:Int}{t:Addr}{b:Bool}{n:Nat}(L:(l.map (·.1)).Nodup)(O:∀x∈l,H x.2.1=some (.tup (mC x.2.2.1 x.2.2.2)))(R:∀j,(Tb.look l j).map (·.2)=f j)(S:l.length<=999\/(f k≠none/\l.length<=1000))(N:H t=some (.tup (mC b n))) :
  ∃I:HH,putK (Tb.dk uE l) (vr k) (.ref t)=Tb.dk uE I/\(I.map (·.1)).Nodup/\(∀x∈I,H x.2.1=some (.tup (mC x.2.2.1 x.2.2.2)))/\(∀j,(Tb.look I j).map (·.2)=Pg.ed f k (some (b,n)) j)/\I.length<=1000:=by
 let J:∀I:HH,(∀j,Tb.look I j=if j=k then some (t,b,n)else Tb.look l j)->∀j,(Tb.look I j).map (·.2)=Pg.ed f k (some (b,n)) j:=by
  intro I h j;rw[h j];cases e:j=k
  .rw[Xl e,e,Pg.bA];rfl
  .rw[Xk e,Pg.aN e];show R j
 cases e:Tb.look l k with
 |none =>
  let U:f k=none:=(by rw[<-R k,e];rfl);show#[l++[(k,(t,b,n))],Tb.cV (f:=uE) (a:=(t,b,n)) e,?_,λx G=>?_,J _ λj=>Tb.bC j e,?_]
  .rw[L0];show gC L (Tb.cu e)
  .rcases oR.mp G with G|G
   .show O x G
   .rw[nc.mp G];show N
  .rw[wh,Po];rcases S with h|h
   .omega
   .show absurd U h.1
 |some y =>
  show#[Tb.bg l k (t,b,n),Tb.jc (f:=uE) (a:=(t,b,n)) e,by rw[Tb.gw];show L,λx G=>?_,J _ λj=>Tb.bT j e,?_]
  .rcases Tb.mem_set G with rfl|⟨G,_⟩
   .show N
   .show O x G
  .rw[Tb.iu];omega
theorem bR.DA{C CS t:Addr}{H:Hp}{s:Pg.PS}{l:HH}{f:Int->Option (Bool×Nat)}{k:Int}{b:Bool}{n:Nat}(ok:A.Ok M)
  (ob:∃dx,H A.pg=some (.ins C dx (du A s.ls))) (fr:aX CS H M A.fp A.fo A.fc (s.ow true) (s.co true)) (sl:aX CS H M A.sp A.so A.sc (s.ow false) (s.co false)) (il:H A.il=some (.lst (s.inf.map V.int))) (le:∀b,(s.ow b).length<=60)
  (hd:H A.pd=some (.dK (Tb.dk uE l))) (L:(l.map (·.1)).Nodup) (ht:∀x∈l,H x.2.1=some (.tup (mC x.2.2.1 x.2.2.2))) (Y:∀j,(Tb.look l j).map (·.2)=f j) (N:l.length<=999\/(f k≠none/\l.length<=1000)) (O:H t=some (.tup (mC b n))) (hp:∀j,s.pl j=Pg.ed f k (some (b,n)) j) :
  bR C CS (upd H A.pd (.dK (putK (Tb.dk uE l) (vr k) (.ref t)))) M A s:=by
 let o:Off (· = A.pd) H (upd H A.pd (.dK (putK (Tb.dk uE l) (vr k) (.ref t)))):=λb o e z=>(by rw[ai z];show e);let#[R,S,e2,G,U,J]:=Et (k:=k) L ht Y N O;let#[dx,h1]:=ob;show#[#[dx,o _ _ h1 (ok.n 0 7 rfl rfl ar)],fr.off o (in1 (ok.m 7 rfl)) (ok.n 1 7 rfl rfl ar) (ok.n 2 7 rfl rfl ar) (ok.n 3 7 rfl rfl ar),sl.off o (in1 (ok.m 7 rfl)) (ok.n 4 7 rfl rfl ar) (ok.n 5 7 rfl rfl ar) (ok.n 6 7 rfl rfl ar),o _ _ il (ok.n 8 7 rfl rfl ar),le,
  #[R,by rw[ae,S],e2,λx I=>o _ _ (G x I) (cY (G x I) hd (by intro z;cases z)),λj=>by rw[hp j];show U j,J]]
theorem nj{α:Type}{k:Int}:∀{l:List (Int×α)},(l.map (·.1)).Nodup->l.length<=(Tb.bp l k).length+1
 | [],_=>OB _
 |x::r,h=>by
  let#[J,L]:=Ov.mp (show(x.1::r.map (·.1)).Nodup from h);let G:=nj (k:=k) L;unfold Tb.bp at G ⊢;rw[P4];cases c:x.1=k
  .rw[Xk (by simp[c])];have:r.filter (λx=>decide (x.1≠k))=r:=by
    rw[SH];intro y I;have:y.1≠k:=λe=>J (by rw[c, <-e];show qj.mpr #[y,I,rfl]);simpa using this
   rw[this,K4];show ti _
  .rw[Xl ‹c›,K4,K4];show Qq G 1
theorem Ey{s:Pg.PS}(G:Pg.Good s)(le:∀b,(s.ow b).length<=60){l:HH}(Y:(l.map (·.1)).Nodup)(J:∀x∈l,s.pl x.1=some x.2.2):l.length<=120:=by
 let lt:∀x∈l,x.2.2.2<60:=λx I=>by
  let#[cs,c,_,h2,_,_]:=G.va x.1 x.2.2.1 x.2.2.2 (J x I);let h3:=(kQ.mp h2).1;let h4:=le x.2.2.1;omega
 have:=Tb.Es 120 0 (l.map λx=>if x.2.2.1=true then(x.2.2.2:Int)else 60+(x.2.2.2:Int)) ?_ ?_
 .rwa [mu]at this
 .show QX.mpr ((QX.mp Y).imp_of_mem ?_);intro a b N L U e;let h1:=lt a N;let h2:=lt b L;show U (G.inj a.1 b.1 b.2.2 ?_ (J b L));rw[J a N];congr 1;let e:(if a.2.2.1=true then(a.2.2.2:Int)else 60+(a.2.2.2:Int))=if b.2.2.1=true then(b.2.2.2:Int)else 60+(b.2.2.2:Int):=e
  show Vo ?_ ?_
  .rcases R:a.2.2.1 with _|_<;>rcases O:b.2.2.1 with _|_
   .rfl
   .rw[R,O,Xk ar,Xl rfl]at e;omega
   .rw[R,O,Xl rfl,Xk ar]at e;omega
   .rfl
  .split at e<;>split at e<;>omega
 .intro x I;let#[y,S,rfl]:=qj.mp I;let h1:=lt y S;split<;>omega
theorem y7{s:Pg.PS}(G:Pg.Good s)(le:(s.ow true).length<=60):s.inf.length<=60:=by
 have:=Tb.Es 60 0 (s.inf.map λk=>match s.pl k with|some p=>(p.2:Int)|none=>0) ?_ ?_
 .rwa [mu]at this
 .show QX.mpr (G.nd.imp_of_mem ?_);intro a b S O R e;let#[n,I]:=(G.fi a).mp S;let#[m,J]:=(G.fi b).mp O;rw[I,J]at e;let e:(n:Int)=m:=e;let e:n=m:=af;subst e;show R (G.inj _ _ _ I J)
 .intro x L;let#[y,N,rfl]:=qj.mp L;let#[n,I]:=(G.fi y).mp N;let#[cs,c,_,h2,_,_]:=G.va _ _ _ I;let U:=(kQ.mp h2).1;rw[I];change 0<=(n:Int)/\(n:Int)<0+(60:Nat);omega
inductive oP(C CS:Addr)(v:List V)(H:Hp)(Q:VK)(e:XK):Prop
 |mk(M:Xm)(A:PA)(s:Pg.PS)(k:Int)(n:Nat)(cs:List Int)(c:Nat)(_:v=[.ref A.pg,.int k])(_:bR C CS H M A s)(_:A.Ok M)(_:(∀b,M b->H b≠none))(_:s.pl k=some (true,n))(_:Pg.Vw s k cs c)(_:¬ k∈s.inf)(_:(0:Int)∈s.ow false)(_:(∀b,(s.co b).length=(s.ow b).length))(_:1<=c)(_:c<=1000)(_:∀H':Hp,bR C CS H' M A (Pg.out s k n cs c)->Off A.own H H'->Q .non H')
theorem Lg:aE ["self","sheet","moved"] ["self","sheet"] (aw uu):=L2.bN
theorem yp{C CS:Addr}(F:cE K "put_out" "Paging.put_out" uu f fd)(T:rY K mg C)(ah:↥Df 4 "lift" (r6 CS))(a2:↥Df 4 "settle" (kH CS))(a6:↥Md 2 C "number_of" (dP C CS)):↥aV 5 f fd ["self","sheet"] (oP C CS):=by
 show F.dS Lg (λa7 A outer s H vs Q E R h=>?_);let#[M,I,s',k,n,cs,c,rfl,G,ok,mt,U,hv,ni,h0,as,c1,c2,q]:=h;let#[dx,h1]:=G.ob;let#[b',n',e1,e2,e3]:=hv;rwa[U]at e1;let#[l,hd,nd,N,hl,ab]:=G.pd;let hs:=vl;show#[_,(aj (dt 2 Lg.nd (pc ah R aC (aa (aL (pv 0) rfl) (aa (pm (pv 0) T.cl a6 R aC (aa (pv 1) ag)) ag))))
  (ao (kA (bz R) (aL (pv 0) rfl) (pv 1) (cI (aa aF (aa (pc a2 R aC (aa (aL (pv 0) rfl) (aa (pv 2) ag))) ag))) rfl))),?_]
 show#[0,I.pg,C,dx,_,0,h1,T.cl,T.nF,rG _ _,?_];show#[0,I.pg,dx,0,h1,dw _ _ aq aq aq aq aq,0,M,I,s',k,true,n,rfl,G,U,?_];show#[I.fp,I.fo,I.fc,M,2,n,cs,c,rfl,G.fr,ok.m 2 rfl,ok.m 3 rfl,mt,ok.n 2 3 rfl rfl ar,G.le true,e3,c1,c2,e2,?_];intro H1 t l0 ft ac nl a0 S1 O;let ap:=O _ _ h1 (gX (ok.n 0 2 rfl rfl ar) (ok.n 0 3 rfl rfl ar));let a5:=G.sl.off O (J1 (ok.m 2 rfl) (ok.m 3 rfl)) (gX (ok.n 4 2 rfl rfl ar) (ok.n 4 3 rfl rfl ar)) (gX (ok.n 5 2 rfl rfl ar) (ok.n 5 3 rfl rfl ar)) (gX (ok.n 6 2 rfl rfl ar) (ok.n 6 3 rfl rfl ar));show#[0,I.pg,C,dx,_,0,ap,T.cl,T.nS,yx _ _,0,I.sp,I.so,I.sc,t,l0,M,2,cs,c,rfl,a5,ok.m 5 rfl,ok.m 6 rfl,rE S1 O mt,ok.n 5 6 rfl rfl ar,(as false).symm,G.le false,h0,ac,a0,nl,c1,c2,?_];intro H2 S2 O2;show#[dZ,λu S=>?_];let am:=(S1.off O2 (J1 (ok.m 5 rfl) (ok.m 6 rfl)) (gX (ok.n 1 5 rfl rfl ar) (ok.n 1 6 rfl rfl ar)) (gX (ok.n 2 5 rfl rfl ar) (ok.n 2 6 rfl rfl ar)) (gX (ok.n 3 5 rfl rfl ar) (ok.n 3 6 rfl rfl ar))).keep (dy (o:=.tup (mC false ((s'.ow false).idxOf 0))) S);let aT:=S2.keep (dy (o:=.tup (mC false ((s'.ow false).idxOf 0))) S);let J:∀b o,H b=some o->¬ (b=I.fo\/b=I.fc)->¬ (b=I.so\/b=I.sc)->upd H2 u (.tup (mC false ((s'.ow false).idxOf 0))) b=some o:=λb o e z1 z2=>dy S b o (O2 b o (O b o e z1) z2) id;let hu:upd H2 u (.tup (mC false ((s'.ow false).idxOf 0))) u=some (.tup (mC false ((s'.ow false).idxOf 0))):=ae;let kd:=J _ _ hd (gX (ok.n 7 2 rfl rfl ar) (ok.n 7 3 rfl rfl ar)) (gX (ok.n 7 5 rfl rfl ar) (ok.n 7 6 rfl rfl ar));let Y:=J _ _ h1 (gX (ok.n 0 2 rfl rfl ar) (ok.n 0 3 rfl rfl ar)) (gX (ok.n 0 5 rfl rfl ar) (ok.n 0 6 rfl rfl ar));let ki:=J _ _ G.il (gX (ok.n 8 2 rfl rfl ar) (ok.n 8 3 rfl rfl ar)) (gX (ok.n 8 5 rfl rfl ar) (ok.n 8 6 rfl rfl ar));let a4:=G.fr.hw;let a3:=G.sl.hw;let#[_,a1,_]:=G.fr.hc;let#[_,aB,_]:=G.sl.hc;let kt:∀x∈l,upd H2 u (.tup (mC false ((s'.ow false).idxOf 0))) x.2.1=some (.tup (mC x.2.2.1 x.2.2.2)):=λx L=>J _ _ (N x L) (gX (cY (N x L) a4 (by intro z;cases z)) (cY (N x L) a1 (by intro z;cases z))) (gX (cY (N x L) a3 (by intro z;cases z)) (cY (N x L) aB (by intro z;cases z)));change EM K _ _ _ (upd H2 u (.tup (mC false ((s'.ow false).idxOf 0)))) _;generalize upd H2 u (.tup (mC false ((s'.ow false).idxOf 0)))=H3 at *;show#[0,I.pg,C,dx,_,0,Y,T.cl,T.nP,rQ _ _,0,I.pd,0,hU.k (k:=vr k) kd (by rw[Tb.cR];show jw ab),?_];show q _ (bR.DA (s:=Pg.out s' k n cs c) (f:=s'.pl) (b:=false) (n:=(s'.ow false).idxOf 0) ok #[dx,Y] am aT ?_ ?_ kd nd kt hl (.inr #[by rw[U];simp,ab]) hu ?_) ?_
 .change H3 I.il=some (.lst ((s'.inf.erase k).map V.int));rw[QU ni];show ki
 .intro b;cases b
  .change(Xb _ _ _).length<=60;rw[OS];show G.le false
  .change(Xb _ _ _).length<=60;rw[OS];show G.le true
 .intro j;cases e:j=k
  .subst e;show Pg.bA.trans Pg.bA.symm
  .show(Pg.aN e).trans ((Pg.aN e).trans (Pg.aN e).symm)
 .intro b o e z;rw[ai (λy=>z (by rw[y];show PA.gg 5 rfl))];show J b o e (λy=>z (y.elim (λy=>by rw[y];show PA.gg 1 rfl) λy=>by rw[y];show PA.gg 2 rfl)) (λy=>z (y.elim (λy=>by rw[y];show PA.gg 3 rfl) λy=>by rw[y];show PA.gg 4 rfl))
abbrev oN:Ow:=inClass (top 14) 7
inductive jG(C CS:Addr)(v:List V)(H:Hp)(Q:VK)(e:XK):Prop
 |mk(M:Xm)(A:PA)(s:Pg.PS)(k:Int)(t l:Addr)(cs:List Int)(c:Nat)(_:v=[.ref A.pg,.int k,.ref t])(_:bR C CS H M A s)(_:A.Ok M)(_:(∀b,M b->H b≠none))(_:Pg.Good { s with pl:=Pg.ed s.pl k none })(_:((0:Int)∈s.ow true\/(0:Int)∈s.ow false))(_:s.ow true≠[])(_:(∀b,∀x∈s.ow b,x<=1000))(_:H t=some (.tup [.ref l,.int c]))(_:H l=some (.lst (cs.map V.int)))(_:¬ M l)(_:1<=c)(_:c<=1000)(_:∀(H':Hp)(s':Pg.PS),Pg.BI { s with pl:=Pg.ed s.pl k none } k cs c s'->bR C CS H' M A s'->Off A.own H H'->Q .non H')
theorem vJ(A:PA)(n:Int):(du A n).lookup ("in_frames" : Str)=some (.ref A.il):=by
 unfold du;rw[aJ,Xl rfl]
theorem Ma:aE ["self","sheet","moved"] ["self","sheet","moved"] (aw oN):=L2.bN
theorem vh{C CS:Addr}(F:cE K "bring_in" "Paging.bring_in" oN f fd)(T:rY K mg C)(TS:Txt K mg CS)(GF:↥Md 1 CS "free" (tm CS))(ba:↥Md 5 C "put_out" (oP C CS))(bn:↥Df 4 "settle" (kH CS)):↥aV 6 f fd ["self","sheet","moved"] (jG C CS):=by
 show F.dS Ma (λb0 A outer s H vs Q E hr h=>?_);let#[M,I,s',k,t,l0,cs,c,rfl,G,ok,mt,Y,hf,hn,hb,L,bd,nl,c1,c2,q]:=h;let#[dx,h1]:=G.ob;let#[a0,h2]:=G.fr.ob;let hs:=vl;let bi:¬ I.own l0:=λz=>nl (ok.own _ z);show#[_,(aj (aU (aD bH (pJ (aL (pv 0) rfl) TS.cl GF hr aC) ak (aG _)) (ao (aO (pm (pv 0) T.cl ba hr aC (aa (gq OM PySem.F.slot_list_pop PySem.F.type_list_pop BD (aL (pv 0) rfl) (aa ak ag)) ag)))) aI)
  (aj (kA (bz hr) (aL (pv 0) rfl) (pv 1) (cI (aa aF (aa (pc bn hr aC (aa (aL (pv 0) rfl) (aa (pv 2) ag))) ag))) rfl)
  (ao (aO (gq OM PX PY ic (aL (pv 0) rfl) (aa (pv 1) ag)))))),?_]
 show share (λσ H9=>FH λ(J s2:Pg.PS)=>KI (σ=#v[.ref I.pg,.int k,.ref t]) (bR C CS H9 M I J) (s2.ow=J.ow) (s2.co=J.co) (s2.ls=J.ls) (s2.inf=J.inf) ((∀j,j≠k->s2.pl j=J.pl j)) (Pg.Good s2) ((0:Int)∈s2.ow true) (Pg.BI { s' with pl:=Pg.ed s'.pl k none } k cs c (Pg.yM s2 true k cs c)) (Off I.own H H9)) (λu' aB=>?A) ?B
 case A =>
  show#[0,I.pg,C,dx,_,0,h1,T.cl,T.nF,rG _ _,I.fp,a0,0,h2,aW _ _ aq aq,I.fp,I.fo,I.fc,M,_,0,G.fr,rfl,0,?_];show gM (λz'=>?_) (λz'=>?_)
  rotate_left
  .let z:(0:Int)∈s'.ow true:=PL λn=>z' (by rw[Va.mpr n];simp);show aB _ _ #[s', { s' with pl:=Pg.ed s'.pl k none },rfl,G,1,1,λj hj=>Pg.aN hj,Y,z,.free z,λb o e _=>e]
  .let z:¬ (0:Int)∈s'.ow true:=Va.mp (by
    have:(((s'.ow true).count 0:Nat):Int)=0:=‹z'›;omega)
   rcases Pg.JL Y hf hn with h|⟨_,ah,k0,r,n0,aT,c0,hi,R,ab⟩
   .show absurd h z
   .let be:k0≠k:=λe=>by
     let R:Pg.ed s'.pl k none k0=some (true,n0):=R;rwa[e,Pg.bA]at R
    let hi:s'.inf=k0::r:=hi;let bI:=(Y.vw ab).1;let#[og,_,_,bc,_,_,b2]:=Pg.uZ Y R ab ah;let#[b1,n1,e1,e2,e3]:=id ab;rwa[R]at e1;let ap:s'.pl k0=some (true,n0):=(by rw[<-R];show(Pg.aN be).symm);let b3:=hb true c0 (z6 e3);obtain⟨as,rfl⟩:∃c':Nat,c0=c':=#[c0.toNat,af];let O:=Y.nd;let O:s'.inf.Nodup:=O;rw[hi]at O;let#[n1,n2]:=Ov.mp O;let N:=G.oW ok r;let U:Off I.own H (upd H I.il (.lst (r.map V.int))):=λb o e z=>(by rw[ai (λy=>z (by rw[y];show PA.gg 6 rfl))];show e);let am:=G.il;rw[hi]at am;show#[0,I.pg,dx,0,h1,dw _ _ aq aq aq aq aq,0,I.pg,C,dx,_,0,h1,T.cl,T.nI,vJ _ _,.inl #[4,bw.of am],I.il,_,(0),(0),.int k0,1,am,ar,ar,Ta (OX _) (by rw[mu,K4];show Int.ofNat_succ_pos (PZ r)),5];show#[M,I,_,k0,n0,aT,as,rfl,N,ok,N.alive U mt,ap,#[true,n0,ap,e2,e3],n1,ah,Y.ln,Rp VA bI,af,λH2 G2 O2=>?_];show aB _ _ #[_,Pg.out { s' with pl:=Pg.ed s'.pl k none } k0 n0 aT as,rfl,G2,1,rfl,3,og,bc,.full z ah hi R ab,λb o e y=>O2 b o (U b o e y) y]
    .change s'.inf.erase k0=r.erase k0;rw[hi,List.erase_cons_head,QU n1]
    .intro j hj;cases e:j=k0
     .subst e;show Pg.bA.trans Pg.bA.symm
     .show(Pg.aN e).trans ((Pg.aN e).trans ((Pg.aN hj).trans ((Pg.aN e).trans (Pg.aN e)).symm))
 case B =>
  rintro σ H9 ⟨J,s2,rfl,N,w1,w2,w3,w4,w5,g2,z0,a4,U⟩;let#[ac,h3]:=N.ob;let bb:H9 t=some (.tup [.ref l0,.int c]):=U _ _ L λy=>by
   let#[_,q1,_]:=G.fr.hc;let#[_,q2,_]:=G.sl.hc;let#[_,q3,_]:=G.pd;let q4:=G.fr.hw;let q5:=G.sl.hw;let q6:=G.il;unfold PA.own at y;simp only[BY,DO,or_false]at y;rcases y with y|y|y|y|y|y|y<;>rw[y]at L
   .rw[h1]at L;cases L
   .rw[q4]at L;cases L
   .rw[q1]at L;cases L
   .rw[q5]at L;cases L
   .rw[q2]at L;cases L
   .rw[q3]at L;cases L
   .rw[q6]at L;cases L
  let a7:=U _ _ bd bi;let#[l,hd,O,ht,hl,a3]:=N.pd;let bK:l.length<=999:=by
   let a1:=nj (k:=k) O;let a2:=Ey g2 (λb=>by rw[w1];show N.le b) (l:=Tb.bp l k) (by rw[Tb.kq];show O.filter _) λx S=>by
    let#[S,bm]:=Tb.cw S;have:=hl x.1;rw[Tb.bX O S]at this;rw[w5 x.1 bm, <-this];rfl
   omega
  rw[w1]at z0;let a6:(J.co true).length=(J.ow true).length:=(by rw[<-w1, <-w2];show g2.ln true);show#[0,I.pg,C,ac,_,0,h3,T.cl,T.nF,rG _ _,0,I.fp,I.fo,I.fc,t,l0,M,2,cs,c,rfl,N.fr,ok.m 2 rfl,ok.m 3 rfl,N.alive U mt,ok.n 2 3 rfl rfl ar,a6.symm,N.le true,z0,bb,a7,nl,c1,c2,?_];intro H2 S2 O2;show#[dZ,λu fu=>?_];let a5:=S2.keep (dy (o:=.tup (mC true ((J.ow true).idxOf 0))) fu);let a8:=(N.sl.off O2 (J1 (ok.m 2 rfl) (ok.m 3 rfl)) (gX (ok.n 4 2 rfl rfl ar) (ok.n 4 3 rfl rfl ar)) (gX (ok.n 5 2 rfl rfl ar) (ok.n 5 3 rfl rfl ar)) (gX (ok.n 6 2 rfl rfl ar) (ok.n 6 3 rfl rfl ar))).keep (dy (o:=.tup (mC true ((J.ow true).idxOf 0))) fu);let kp:∀b o,H9 b=some o->¬ (b=I.fo\/b=I.fc)->upd H2 u (.tup (mC true ((J.ow true).idxOf 0))) b=some o:=λb o e z1=>dy fu b o (O2 b o e z1) id;let hu:upd H2 u (.tup (mC true ((J.ow true).idxOf 0))) u=some (.tup (mC true ((J.ow true).idxOf 0))):=ae;let kd:=kp _ _ hd (gX (ok.n 7 2 rfl rfl ar) (ok.n 7 3 rfl rfl ar));let ko:=kp _ _ h3 (gX (ok.n 0 2 rfl rfl ar) (ok.n 0 3 rfl rfl ar));let ki:=kp _ _ N.il (gX (ok.n 8 2 rfl rfl ar) (ok.n 8 3 rfl rfl ar));let bx:=N.fr.hw;let#[_,bl,_]:=N.fr.hc;let kt:∀x∈l,upd H2 u (.tup (mC true ((J.ow true).idxOf 0))) x.2.1=some (.tup (mC x.2.2.1 x.2.2.2)):=λx S=>kp _ _ (ht x S) (gX (cY (ht x S) bx (by intro z;cases z)) (cY (ht x S) bl (by intro z;cases z)));change EM K _ _ _ (upd H2 u (.tup (mC true ((J.ow true).idxOf 0)))) _;generalize upd H2 u (.tup (mC true ((J.ow true).idxOf 0)))=H3 at *;show#[0,I.pg,C,ac,_,0,ko,T.cl,T.nP,rQ _ _,0,I.pd,0,hU.k (k:=vr k) kd (by rw[Tb.cR];show jw a3),?_];let G4:=bR.DA (C:=C) (CS:=CS) (s:={ Pg.yM J true k cs c with inf:=J.inf }) (f:=J.pl) (k:=k) (b:=true) (n:=(J.ow true).idxOf 0) ok #[ac,ko] a5 a8 ki (λb=>by
   cases b
   .show N.le false
   .change(Xb _ _ _).length<=60;rw[OS];show N.le true) kd O kt hl (.inl bK) hu (λj=>rfl)
  let O4:Off I.own H (upd H3 I.pd (.dK (putK (Tb.dk uE l) (vr k) (.ref u)))):=λb o e z=>by
   rw[ai (λy=>z (by rw[y];show PA.gg 5 rfl))];show kp b o (U b o e z) (λy=>z (y.elim (λy=>by rw[y];show PA.gg 1 rfl) λy=>by rw[y];show PA.gg 2 rfl))
  generalize upd H3 I.pd (.dK (putK (Tb.dk uE l) (vr k) (.ref u)))=H4 at *;let#[bv,h4]:=G4.ob;let bY:J.inf.length<=60:=(by rw[<-w4];show y7 g2 (by rw[w1];show N.le true));show#[0,I.pg,C,bv,_,0,h4,T.cl,T.nI,vJ _ _,.inl #[4,bw.of G4.il],0,I.il,_,.int k,1,G4.il,by rw[mu];change J.inf.length<_;omega,?_];let G5:=G4.oW ok (J.inf++[k]);rw[L0]at G5;show q _ _ a4 (G5.Hy ?_ ?_ w3 ?_ ?_) λb o e z=>by
   rw[ai (λy=>z (by rw[y];show PA.gg 6 rfl))];show O4 b o e z
  .change Pg.upd s2.ow true _=Pg.upd J.ow true _;rw[w1]
  .change Pg.upd s2.co true _=Pg.upd J.co true _;rw[w1,w2]
  .change s2.inf++[k]=J.inf++[k];rw[w4]
  .intro j;change Pg.ed s2.pl k _ j=Pg.ed J.pl k _ j;cases e:j=k
   .rw[e,Pg.bA,Pg.bA,w1]
   .rw[Pg.aN e,Pg.aN e];show w5 j e
end
end St
namespace Pg
theorem uG{α:Type}{f:Bool->α}{b:Bool}:upd f b (f b)=f:=by
 funext c;cases e:c=b
 .rw[e,ae]
 .rw[bh e]
theorem zT{α:Type}{f:Int->α}{k:Int}{v:α}(h:f k=v):ed f k v=f:=by
 funext c;cases e:c=k
 .rw[e,bA,h]
 .rw[aN e]
theorem wR{s:PS}(G:Good s):({ next s with pl:=ed (next s).pl (s.ls+1) none }:PS)=next s:=by
 let e:ed s.pl (s.ls+1) none=s.pl:=zT (gj G);change PS.mk s.ow s.co (ed s.pl (s.ls+1) none) (s.ls+1) s.inf=PS.mk s.ow s.co s.pl (s.ls+1) s.inf;rw[e]
theorem zj{s:PS}{k:Int}{n:Nat}(G:Good s)(J:s.pl k=some (false,n)):¬ k∈s.inf:=λh=>by
 let#[m,I]:=(G.fi k).mp h;rwa[J]at I
theorem wF{s:PS}{k:Int}{n:Nat}(G:Good s)(I:s.pl k=some (false,n)):({ cM s false n 0 with pl:=ed (cM s false n 0).pl k none }:PS)=qJ s k false n:=by
 change PS.mk (upd s.ow false ((s.ow false).set n 0)) s.co (ed s.pl k none) s.ls s.inf=PS.mk (upd s.ow false ((s.ow false).set n 0)) s.co (ed s.pl k none) s.ls (s.inf.erase k);rw[QU (zj G I)]
def Cb(s:PS):Prop:=∀b,∀x∈s.ow b,x<=1000
theorem Hl{ow:Bool->List Int}{b:Bool}{n:Nat}{x:Int}(h:∀b,∀x∈ow b,x<=1000)(I:x<=1000):∀c,∀y∈upd ow b ((ow b).set n x) c,y<=1000:=by
 intro c y G;cases e:c=b
 .rw[e,ae]at G;rcases SQ G with h' |h'
  .show h b y h'
  .rw[h'];show I
 .rw[bh e]at G;show h c y G
end Pg
namespace Pg
theorem RI.cb{s:PS}{es:List Ent}(R:RI s es)(le:∀b,(s.ow b).length<=60):Cb s:=by
 intro b x J;let#[n,G]:=UL J;rcases R.good.on b n x G with e|⟨k,I⟩
 .omega
 .let#[cs,c,h1,h2,_,_]:=R.good.va _ _ _ I;rwa[G]at h2;let N:=R.ct k cs x #[b,n,I,h1,G];let S:=List.count_le_length (a:=some k) (l:=es);let O:=R.rm;let L:=le true;let U:=le false;omega
end Pg
namespace St
open PySem L2
section
variable{A:PA}{M:Xm}
theorem Dy(A:PA)(n:Int):(du A n).lookup ("last_sheet" : Str)=some (.int n):=by
 unfold du;rw[aJ,Xk aq,aJ,Xl rfl]
theorem Bt(A:PA)(n:Int):du A n=([("frames",.ref A.fp),("slots",.ref A.sp),("places",.ref A.pd),("last_sheet",.int n),("in_frames",.ref A.il)]:List (Str×V)):=by
 let S:¬ (("frames" : Str) = "slots"):=aq;let N:¬ (("frames" : Str) = "places"):=aq;let G:¬ (("frames" : Str) = "last_sheet"):=aq;let O:¬ (("frames" : Str) = "in_frames"):=aq;let I:¬ (("slots" : Str) = "places"):=aq;let J:¬ (("slots" : Str) = "last_sheet"):=aq;let U:¬ (("slots" : Str) = "in_frames"):=aq;let Y:¬ (("places" : Str) = "last_sheet"):=aq;let R:¬ (("places" : Str) = "in_frames"):=aq;let L:¬ (("last_sheet" : Str) = "in_frames"):=aq;unfold du;simp only[bt,Xk S,Xk N,Xk G,Xk O,Xk I,Xk J,Xk U,Xk Y,Xk R,Xk L]
theorem HU(A:PA)(n m:Int):bt "last_sheet" (.int m) (du A n)=du A m:=by
 let G:¬ (("frames" : Str) = "last_sheet"):=aq;let I:¬ (("slots" : Str) = "last_sheet"):=aq;let J:¬ (("places" : Str) = "last_sheet"):=aq;rw[Bt,Bt];simp only[bt,Xk G,Xk I,Xk J,if_true]
theorem bR.JZ{C CS dx:Addr}{H:Hp}{s:Pg.PS}(G:bR C CS H M A s)(ok:A.Ok M)(n:Int):bR C CS (upd H A.pg (.ins C dx (du A n))) M A { s with ls:=n }:=by
 let o:Off (· = A.pg) H (upd H A.pg (.ins C dx (du A n))):=λb o e z=>(by rw[ai z];show e);let#[R,h1]:=G.ob;let#[l,hd,N,J,O,L]:=G.pd;show#[#[dx,ae],G.fr.off o (in1 (ok.m 0 rfl)) (ok.n 1 0 rfl rfl ar) (ok.n 2 0 rfl rfl ar) (ok.n 3 0 rfl rfl ar),G.sl.off o (in1 (ok.m 0 rfl)) (ok.n 4 0 rfl rfl ar) (ok.n 5 0 rfl rfl ar) (ok.n 6 0 rfl rfl ar),o _ _ G.il (ok.n 8 0 rfl rfl ar),G.le,
  #[l,o _ _ hd (ok.n 7 0 rfl rfl ar),N,λx I=>o _ _ (J x I) (cY (J x I) h1 (by intro z;cases z)),O,L]]
theorem bR.Ge{C CS:Addr}{H H':Hp}{s:Pg.PS}(G:bR C CS H M A s)(ok:A.Ok M)(b:Bool){os:List Int}{pg:List (Option (List Int))}(S:aX CS H' M (A.st b) (A.ow b) (A.co b) os pg)(o:Off (λx=>x=A.ow b\/x=A.co b) H H')(hl:os.length<=60):bR C CS H' M A { s with ow:=Pg.upd s.ow b os,co:=Pg.upd s.co b pg }:=by
 let#[O,h1]:=G.ob;let#[l,hd,N,J,R,L]:=G.pd;let le:∀c,(Pg.upd s.ow b os c).length<=60:=λc=>by
  cases e:c=b
  .rw[e,Pg.ae];show hl
  .rw[Pg.bh e];show G.le c
 let Y:=(G.st b).hw;let#[_,hc,_]:=(G.st b).hc;let U:∀x∈l,H' x.2.1=some (.tup (mC x.2.2.1 x.2.2.2)):=λx I=>o _ _ (J x I) (gX (cY (J x I) Y (by intro z;cases z)) (cY (J x I) hc (by intro z;cases z)));cases b
 .show#[#[O,o _ _ h1 (gX (ok.n 0 5 rfl rfl ar) (ok.n 0 6 rfl rfl ar))],G.fr.off o (J1 (ok.m 5 rfl) (ok.m 6 rfl)) (gX (ok.n 1 5 rfl rfl ar) (ok.n 1 6 rfl rfl ar)) (gX (ok.n 2 5 rfl rfl ar) (ok.n 2 6 rfl rfl ar)) (gX (ok.n 3 5 rfl rfl ar) (ok.n 3 6 rfl rfl ar)),S,o _ _ G.il (gX (ok.n 8 5 rfl rfl ar) (ok.n 8 6 rfl rfl ar)),le,
   #[l,o _ _ hd (gX (ok.n 7 5 rfl rfl ar) (ok.n 7 6 rfl rfl ar)),N,U,R,L]]
 .show#[#[O,o _ _ h1 (gX (ok.n 0 2 rfl rfl ar) (ok.n 0 3 rfl rfl ar))],S,G.sl.off o (J1 (ok.m 2 rfl) (ok.m 3 rfl)) (gX (ok.n 4 2 rfl rfl ar) (ok.n 4 3 rfl rfl ar)) (gX (ok.n 5 2 rfl rfl ar) (ok.n 5 3 rfl rfl ar)) (gX (ok.n 6 2 rfl rfl ar) (ok.n 6 3 rfl rfl ar)),o _ _ G.il (gX (ok.n 8 2 rfl rfl ar) (ok.n 8 3 rfl rfl ar)),le,
   #[l,o _ _ hd (gX (ok.n 7 2 rfl rfl ar) (ok.n 7 3 rfl rfl ar)),N,U,R,L]]
theorem bR.B8{C CS:Addr}{H H':Hp}{s:Pg.PS}(G:bR C CS H M A s)(ok:A.Ok M)(b:Bool){os:List Int}(S:aX CS H' M (A.st b) (A.ow b) (A.co b) os (s.co b))(o:Off (λx=>x=A.ow b\/x=A.co b) H H')(I:os.length<=60):bR C CS H' M A { s with ow:=Pg.upd s.ow b os }:=
 (G.Ge ok b S o I).Hy rfl Pg.uG.symm rfl rfl λ_=>rfl
theorem bR.Lo{C CS:Addr}{H H':Hp}{s:Pg.PS}(G:bR C CS H M A s)(ok:A.Ok M)(b:Bool){pg:List (Option (List Int))}(S:aX CS H' M (A.st b) (A.ow b) (A.co b) (s.ow b) pg)(o:Off (λx=>x=A.ow b\/x=A.co b) H H'):bR C CS H' M A { s with co:=Pg.upd s.co b pg }:=
 (G.Ge ok b S o (G.le b)).Hy Pg.uG.symm rfl rfl rfl λ_=>rfl
theorem PA.lG(b:Bool):∀x,x=A.ow b\/x=A.co b->A.own x:=by
 intro x h;cases b
 .rcases h with h|h<;>rw[h]
  .show PA.gg 3 rfl
  .show PA.gg 4 rfl
 .rcases h with h|h<;>rw[h]
  .show PA.gg 1 rfl
  .show PA.gg 2 rfl
theorem PA.Ok.mo(ok:A.Ok M)(b:Bool):M (A.ow b):=ok.own _ (PA.lG b _ (.inl rfl))
theorem PA.Ok.mc(ok:A.Ok M)(b:Bool):M (A.co b):=ok.own _ (PA.lG b _ (.inr rfl))
theorem PA.Ok.oc(ok:A.Ok M)(b:Bool):A.ow b≠A.co b:=by
 cases b
 .show ok.n 5 6 rfl rfl ar
 .show ok.n 2 3 rfl rfl ar
theorem Off.mono{B G:Xm}{H H':Hp}(o:Off B H H')(h:∀b,B b->G b):Off G H H':=λb u e z=>o b u e λy=>z (h b y)
theorem Off.trans{B:Xm}{H H' G:Hp}(o:Off B H H')(o':Off B H' G):Off B H G:=λb u e z=>o' b u (o b u e z) z
theorem Off.wr{B:Xm}{H:Hp}{a:Addr}{o:HO}(h:B a):Off B H (upd H a o):=λb u e z=>by rw[ai (λy=>z (by rw[y];show h))];show e
theorem Off.new{B:Xm}{H:Hp}{a:Addr}{o:HO}(h:H a=none):Off B H (upd H a o):=λb u e z=>dy h b u e id
theorem bR.I0{C CS:Addr}{H:Hp}{s:Pg.PS}{l:HH}(G:bR C CS H M A s)(ok:A.Ok M)(k:Int)(hd:H A.pd=some (.dK (Tb.dk uE l)))(N:(l.map (·.1)).Nodup)(J:∀x∈l,H x.2.1=some (.tup (mC x.2.2.1 x.2.2.2)))(O:∀j,(Tb.look l j).map (·.2)=s.pl j)(L:l.length<=1000) :
  bR C CS (upd H A.pd (.dK (Tb.dk uE (Tb.bp l k)))) M A { s with pl:=Pg.ed s.pl k none }:=by
 let o:Off (· = A.pd) H (upd H A.pd (.dK (Tb.dk uE (Tb.bp l k)))):=λb o e z=>(by rw[ai z];show e);let#[dx,h1]:=G.ob;show#[#[dx,o _ _ h1 (ok.n 0 7 rfl rfl ar)],G.fr.off o (in1 (ok.m 7 rfl)) (ok.n 1 7 rfl rfl ar) (ok.n 2 7 rfl rfl ar) (ok.n 3 7 rfl rfl ar),G.sl.off o (in1 (ok.m 7 rfl)) (ok.n 4 7 rfl rfl ar) (ok.n 5 7 rfl rfl ar) (ok.n 6 7 rfl rfl ar),o _ _ G.il (ok.n 8 7 rfl rfl ar),G.le,
  #[Tb.bp l k,ae,by rw[Tb.kq];show N.filter _,λx I=>?_,λj=>?_,L1 (QS _ _) L]]
 .let I:=(Tb.cw I).1;show o _ _ (J x I) (cY (J x I) hd (by intro z;cases z))
 .rw[Tb.cB];change _=Pg.ed s.pl k none j;cases e:j=k
  .rw[Xl e,e,Pg.bA];rfl
  .rw[Xk e,Pg.aN e];show O j
end
theorem F3{D:Ends}{σ:St}{H:Hp}(h:D.nx σ H):mJ D σ H:=h
abbrev lJ:Ow:=inClass (top 14) 1
abbrev xu:Ow:=inClass (top 14) 2
abbrev xv:Ow:=inClass (top 14) 3
abbrev tF:Ow:=inClass (top 14) 5
abbrev xM:Ow:=inClass (top 14) 6
structure JD(C CS:Addr)(H:Hp)(M:Xm)(A:PA)(s:Pg.PS):Prop where
 at_:bR C CS H M A s
 ok:A.Ok M
 mt:∀b,M b->H b≠none
 gd:Pg.Good s
 ne:s.ow true≠[]
 cb:Pg.Cb s
 l0:0<=s.ls
inductive iC(K:HC)(C CS:Addr)(v:List V)(H:Hp)(Q:VK)(e:XK):Prop
 |mk(M:Xm)(A:PA)(s:Pg.PS)(ca:Addr)(cs:List Int)(_:v=[.ref A.pg,.ref ca])(_:JD C CS H M A s)(_:((0:Int)∈s.ow true\/(0:Int)∈s.ow false))(_:bw K H ca (cs.map V.int))(_:ca≠A.pg)(_:cs.length=8)(_:∀(H':Hp)(s':Pg.PS),Pg.BI (Pg.next s) (s.ls+1) cs 1 s'->bR C CS H' M A s'->Off A.own H H'->Q (.int (s.ls+1)) H')
inductive nK(C CS:Addr)(v:List V)(H:Hp)(Q:VK)(e:XK):Prop
 |mk(M:Xm)(A:PA)(s:Pg.PS)(k:Int)(cs:List Int)(c:Int)(_:v=[.ref A.pg,.int k])(_:JD C CS H M A s)(_:Pg.Vw s k cs c)(_:∀(H':Hp)(s':Pg.PS),Pg.FE s k s'->bR C CS H' M A s'->Off A.own H H'->Q .non H')
inductive tR(C CS:Addr)(v:List V)(H:Hp)(Q:VK)(e:XK):Prop
 |mk(M:Xm)(A:PA)(s:Pg.PS)(k:Int)(b:Bool)(n:Nat)(cs:List Int)(c:Int)(_:v=[.ref A.pg,.int k])(_:JD C CS H M A s)(_:s.pl k=some (b,n))(_:Pg.Vw s k cs c)(_:∀H':Hp,bR C CS H' M A (Pg.cM s b n (c+1))->Off A.own H H'->Q .non H')
inductive mZ(C CS:Addr)(v:List V)(H:Hp)(Q:VK)(e:XK):Prop
 |mk(M:Xm)(A:PA)(s:Pg.PS)(k:Int)(cs:List Int)(c:Int)(_:v=[.ref A.pg,.int k])(_:bR C CS H M A s)(_:A.Ok M)(_:(∀b,M b->H b≠none))(_:Pg.Good s)(_:Pg.Vw s k cs c)(_:∀(H':Hp)(s':Pg.PS),Pg.F8 s k s'->bR C CS H' M A s'->Off A.own H H'->Q .non H')
inductive qt(C CS:Addr)(v:List V)(H:Hp)(Q:VK)(e:XK):Prop
 |mk(M:Xm)(A:PA)(s:Pg.PS)(k:Int)(ca:Addr)(cs0:List Int)(c0:Int)(cs:List Int)(_:v=[.ref A.pg,.int k,.ref ca])(_:JD C CS H M A s)(_:Pg.Vw s k cs0 c0)(_:H ca=some (.lst (cs.map V.int)))(_:¬ A.own ca)(_:cs.length=8)(_:(1<c0->(0:Int)∈s.ow true\/(0:Int)∈s.ow false))(_:(1<c0->∀(H':Hp)(s1 s2:Pg.PS),Pg.BI (Pg.next s) (s.ls+1) cs 1 s1->Pg.F8 s1 k s2->bR C CS H' M A s2->Off A.own H H'->Q (.int (s.ls+1)) H'))(_:(c0=1->∀(H':Hp)(s1:Pg.PS)(m:Nat),Pg.FE s k s1->s1.pl k=some (true,m)->bR C CS H' M A (Pg.write s1 true m cs)->Off A.own H H'->Q (.int k) H'))
theorem Mj:aE ["self","cells"] ["self","cells"] (aw lJ):=L2.bN
theorem uz{C CS:Addr}(F:cE K "new_sheet" "Paging.new_sheet" lJ f fd)(T:rY K mg C)(TS:Txt K mg CS)(GF:↥Md 1 CS "free" (tm CS))(a2:↥Md 6 C "bring_in" (jG C CS)):↥aV 7 f fd ["self","cells"] (iC K C CS):=by
 show F.dS Mj (λa3 A outer s H vs Q E O h=>?_);let#[M,I,s',ca,cs,rfl,R,U,ap,a0,h8,q]:=h;let G:=R.at_;let ok:=R.ok;let#[dx,h1]:=G.ob;let#[ah,h2]:=G.fr.ob;let#[am,h3]:=G.sl.ob;let hs:=vl;show#[_,(aj (aU (aD bH (az bu (pJ (aL (pv 0) rfl) TS.cl GF O aC) (pJ (aL (pv 0) rfl) TS.cl GF O aC)) ak (aG _)) dh aI)
  (aj (zE (pv 0) ak Jq)
  (aj (aO (pm (pv 0) T.cl a2 O aC (aa (aL (pv 0) rfl) (aa (cI (aa (bU dR (by rfl) T.list fE (aa (pv 1) ag)) (aa ak ag))) ag))))
  (ao (aK (aL (pv 0) rfl)))))),?_]
 show#[0,I.pg,C,dx,_,0,h1,T.cl,T.nF,rG _ _,I.fp,ah,0,h2,aW _ _ aq aq,I.fp,I.fo,I.fc,M,_,0,G.fr,?_];show#[0,I.pg,C,dx,_,0,h1,T.cl,T.nS,yx _ _,I.sp,am,0,h3,aW _ _ aq aq,I.sp,I.so,I.sc,M,_,0,G.sl,_,0,1,0,?_];show gM (λz=>?_) (λ_=>?_)
 .exfalso;let z:(((s'.ow true).count 0:Nat):Int)+(((s'.ow false).count 0:Nat):Int)=0:=‹z›;rcases U with h|h
  .have:=PU.mpr h;omega
  .have:=PU.mpr h;omega
 show#[0,I.pg,C,dx,_,0,h1,T.cl,T.nL,Dy _ _,_,0,rfl,dx,_,h1,by rw[Bt];change 5<1000;decide,?_];rw[HU];let Y:=G.JZ (dx:=dx) ok (s'.ls+1);let S:Off I.own H (upd H I.pg (.ins C dx (du I (s'.ls+1)))):=Off.wr (PA.gg 0 rfl);let a1:bw K (upd H I.pg (.ins C dx (du I (s'.ls+1)))) ca (cs.map V.int):=Rm.fg ap λo e=>(by rw[ai a0];show e);let ac:=Y.alive S R.mt;let ab:upd H I.pg (.ins C dx (du I (s'.ls+1))) I.pg=some (.ins C dx (du I (s'.ls+1))):=ae;generalize upd H I.pg (.ins C dx (du I (s'.ls+1)))=H1 at *;show#[0,I.pg,dx,0,ab,dw _ _ aq aq aq aq aq,0,I.pg,C,dx,_,0,ab,T.cl,T.nL,Dy _ _,0,ca,0,.inl a1,λl N=>?_];show#[dZ,λt J=>?_];let O2:Off I.own H1 (upd (upd H1 l (.lst (cs.map V.int))) t (.tup [.ref l,.int 1])):=(Off.new N).trans (Off.new J);let as:t≠l:=λe=>(by rwa[e,ae]at J);let ht:upd (upd H1 l (.lst (cs.map V.int))) t (.tup [.ref l,.int 1]) t=some (.tup [.ref l,.int 1]):=ae;let hl:upd (upd H1 l (.lst (cs.map V.int))) t (.tup [.ref l,.int 1]) l=some (.lst (cs.map V.int)):=(by rw[ai (qs as),ae]);let G2:bR C CS (upd (upd H1 l (.lst (cs.map V.int))) t (.tup [.ref l,.int 1])) M I { s' with ls:=s'.ls+1 }:=(Y.keep (dy N)).keep (dy J);generalize upd (upd H1 l (.lst (cs.map V.int))) t (.tup [.ref l,.int 1])=H2 at *;let es:=Pg.wR R.gd;show#[M,I,Pg.next s',s'.ls+1,t,l,cs,(1),rfl,G2,ok,G2.alive O2 ac,by rw[es];show Pg.qZ R.gd,U,R.ne,R.cb,ht,hl,λz=>ac l z N,ti _,ar,λH3 s3 L G3 O3=>?_];rw[es]at L;let#[aT,h4]:=G3.ob;let aB:s3.ls=s'.ls+1:=(Pg.mf R.gd R.l0 h8 L).ls;show#[0,I.pg,C,aT,_,0,h4,T.cl,T.nL,Dy _ _,?_];rw[aB];show q H3 s3 L G3 ((S.trans O2).trans O3)
theorem Kj:aE ["self","sheet","place"] ["self","sheet"] (aw xM):=L2.bN
theorem Cz{C CS:Addr}(F:cE K "fetch" "Paging.fetch" xM f fd)(T:rY K mg C)(as:↥Md 1 C "place" (kC C CS))(aB:↥Md 6 C "bring_in" (jG C CS))(am:↥Df 4 "lift" (r6 CS)):↥aV 7 f fd ["self","sheet"] (nK C CS):=by
 show F.dS Kj (λa0 A outer s H vs Q E Y h=>?_);let#[M,I,s',k,cs,c,rfl,R,U,q]:=h;let G:=R.at_;let ok:=R.ok;let hc:=(R.gd.vw U).1;let#[b,n,J,e2,e3]:=id U;let#[dx,h1]:=G.ob;let hs:=vl;show#[_,(aj (dt 2 Kj.nd (pm (pv 0) T.cl as Y aC (aa (pv 1) ag)))
  (aj (aU (aD bH (aY bf (pv 2) ak cz) aF (aG _)) (aj (aO (gq OM TN Ts rA (aL (pv 0) rfl) (aa (pv 1) ag)))
  (aj (aO (gq OM PX PY ic (aL (pv 0) rfl) (aa (pv 1) ag)))
  (ao tQ))) aI)
  (ao (aO (pm (pv 0) T.cl aB Y aC (aa (pv 1) (aa (pc am Y aC (aa (aL (pv 0) rfl) (aa (aY bf (pv 2) ak cz) ag))) ag))))))),?_]
 show#[0,I.pg,dx,0,h1,dw _ _ aq aq aq aq aq,0,M,I,s',k,b,n,rfl,G,J,λt ht=>?_];show#[0,t,_,(0),0,rfl,bP.of ht,1,0,?_];cases b with
 |true =>
  show eS ?_;let hi:k∈s'.inf:=(R.gd.fi k).mpr #[n,J];show#[0,I.pg,C,dx,_,0,h1,T.cl,T.nI,vJ _ _,.inl #[4,bw.of G.il],0,I.il,s'.inf,k,1,G.il,hi,?_];let L:=G.oW ok (s'.inf.erase k);let N:Off I.own H (upd H I.il (.lst ((s'.inf.erase k).map V.int))):=Off.wr (PA.gg 6 rfl);generalize upd H I.il (.lst ((s'.inf.erase k).map V.int))=H1 at *;let#[ah,h2]:=L.ob;let hl:=y7 R.gd (G.le true);let a1:(s'.inf.erase k).length<=s'.inf.length:=List.length_erase_le;show#[0,I.pg,C,ah,_,0,h2,T.cl,T.nI,vJ _ _,.inl #[4,bw.of L.il],0,I.il,_,.int k,1,L.il,by rw[mu];change(s'.inf.erase k).length<_;omega,?_];let O:=L.oW ok (s'.inf.erase k++[k]);rw[L0]at O;show q _ _ (.here J) O (N.trans (Off.wr (PA.gg 6 rfl)))
 |false =>
  show b9 ?_;obtain⟨S,rfl⟩:∃S:Nat,c=S:=#[c.toNat,af];let a2:=R.cb false _ (z6 e3);show#[0,I.pg,dx,0,h1,dw _ _ aq aq aq aq aq,0,0,I.pg,C,dx,_,0,h1,T.cl,T.nS,yx _ _,0,t,_,(1),0,rfl,bP.of ht,5];show#[I.sp,I.so,I.sc,M,2,n,cs,S,rfl,G.sl,ok.m 5 rfl,ok.m 6 rfl,R.mt,ok.n 5 6 rfl rfl ar,G.le false,e3,Rp VA hc,af,e2,?_];intro H1 t1 l1 aT ac nl ap S1 N;let L:=G.B8 ok false S1 N (by rw[OS];show G.le false);let ab:Off I.own H H1:=N.mono (PA.lG false);let es:=Pg.wF R.gd J;show#[M,I,Pg.cM s' false n 0,k,t1,l1,cs,S,rfl,L,ok,L.alive ab R.mt,by rw[es];show Pg.km R.gd J,.inr (Pg.vk R.gd J),R.ne,Pg.Hl R.cb ar,ac,ap,nl,Rp VA hc,af,λH2 s2 hb O O2=>?_];rw[es]at hb;show q _ _ (.away J U hb) O (ab.trans O2)
theorem Mz:aE ["self","sheet"] ["self","sheet"] (aw xu):=L2.bN
theorem Cn{C CS:Addr}(F:cE K "share" "Paging.share" xu f fd)(T:rY K mg C)(TS:Txt K mg CS)(ac:↥Md 2 C "store_of" (gk C CS))(ah:↥Md 2 C "number_of" (dP C CS))(GM:↥Md 3 CS "more" (uC CS)):↥aV 4 f fd ["self","sheet"] (tR C CS):=by
 show F.dS Mz (λam A outer s H vs Q E L h=>?_);let#[M,I,s',k,b,n,cs,c,rfl,R,J,O,q]:=h;let G:=R.at_;let ok:=R.ok;let hc:=(R.gd.vw O).1;let N:=Pg.vj J O;let#[dx,h1]:=G.ob;let S:=G.st b;let#[ab,h2]:=S.ob;show#[_,(ao (aO (pm (pm (pv 0) T.cl ac L aC (aa (pv 1) ag)) TS.cl GM L aC (aa (pm (pv 0) T.cl ah L aC (aa (pv 1) ag)) ag)))),?_];show#[0,I.pg,dx,0,h1,dw _ _ aq aq aq aq aq,0,M,I,s',k,b,n,rfl,G,J,?_];show#[_,ab,0,h2,aW _ _ aq aq,?_];show#[0,I.pg,dx,0,h1,dw _ _ aq aq aq aq aq,0,M,I,s',k,b,n,rfl,G,J,?_];show#[2,_,M,2,n,rfl,S,ok.mo b,ok.mc b,ok.oc b,G.le b,by rw[gf N];omega,λH1 Y U=>?_];rw[gf N,show(n:Int).toNat=n from Qc n]at Y;show q H1 (G.B8 ok b Y U (by rw[OS];show G.le b)) (U.mono (PA.lG b))
theorem Hm:aE ["self","sheet","store","n"] ["self","sheet"] (aw xv):=L2.bN
theorem AZ{C CS:Addr}(F:cE K "leave" "Paging.leave" xv f fd)(T:rY K mg C)(TS:Txt K mg CS)(aB:↥Md 2 C "store_of" (gk C CS))(aT:↥Md 2 C "number_of" (dP C CS))(GL:↥Md 3 CS "less" (sD CS))(GC:↥Md 1 CS "count" (ix CS)):↥aV 4 f fd ["self","sheet"] (mZ C CS):=by
 show F.dS Hm (λa0 A outer s H vs Q E N h=>?_);let#[M,I,s',k,cs,c,rfl,G,ok,mt,gd,O,q]:=h;let hc:=(gd.vw O).1;let#[b,n,J,e2,e3]:=id O;let#[nl,_]:=kQ.mp e3;let#[dx,h1]:=G.ob;let S:=G.st b;let#[am,h2]:=S.ob;show#[_,(aj (dt 2 Hm.nd (pm (pv 0) T.cl aB N aC (aa (pv 1) ag)))
  (aj (dt 3 Hm.nd (pm (pv 0) T.cl aT N aC (aa (pv 1) ag)))
  (aj (aO (pm (pv 2) TS.cl GL N aC (aa (pv 3) ag)))
  (aj (aU (aD iL (pm (pv 2) TS.cl GC N aC (aa (pv 3) ag)) ak (aG _)) (ao tQ) aI)
  (aj (aU (aD bH (aY bf (bJ (bz N) (aL (pv 0) rfl) (pv 1) cz) ak cz) aF (aG _)) (ao (aO (gq OM TN Ts rA (aL (pv 0) rfl) (aa (pv 1) ag)))) aI)
  (ao (aO (fN (aL (pv 0) rfl) (pv 1) #[1,1])))))))),?_]
 show#[0,I.pg,dx,0,h1,dw _ _ aq aq aq aq aq,0,M,I,s',k,b,n,rfl,G,J,?_];show#[0,I.pg,dx,0,h1,dw _ _ aq aq aq aq aq,0,M,I,s',k,b,n,rfl,G,J,?_];show#[0,_,am,0,h2,aW _ _ aq aq,0,2,_,M,2,n,rfl,S,ok.mo b,ok.mc b,ok.oc b,G.le b,by rw[gf e3];omega,λH1 R O1=>?_];rw[gf e3,show(n:Int).toNat=n from Qc n]at R;let L:=G.B8 ok b R O1 (by rw[OS];show G.le b);let ab:Off I.own H H1:=O1.mono (PA.lG b);let#[ap,h3]:=R.ob;show#[0,_,ap,0,h3,aW _ _ aq aq,0,2,_,M,2,n,rfl,R,by rw[OS];show G.le b,?_];rw[gJ nl];show#[_,0,rfl,0,?_];cases z:(0:Int)<c-1
 .rw[decide_eq_true z];show q _ _ (.more J O (Rp Int.sub_lt_sub_right_iff z)) L ab
 .rw[decide_eq_false z];let ec:c=1:=af;subst ec;show b9 (F3 ?_);let#[ah,h4]:=L.ob;let#[l,hd,nd,ht,Y,hn]:=L.pd;obtain⟨x,U,ex⟩:∃x,Tb.look l k=some x/\x.2=(b,n):=by
   let h9:(Tb.look l k).map (·.2)=some (b,n):=(Y k).trans J;show o8.mp h9
  let hg:dY H1 I.pd (.int k) (some (uE x)):=by
   let q9:=dY.k (k:=vr k) hd;rw[Tb.dg,U]at q9;show q9
  let hm:=ht _ (Tb.aA U);rw[show x.2.1=b by rw[ex],show x.2.2=n by rw[ex]]at hm;dsimp only;show share (λσ H9=>σ=#v[.ref I.pg,.int k,.ref (I.st b),.int n]/\bR C CS H9 M I { Pg.cM s' b n 0 with inf:=s'.inf.erase k }/\Off I.own H H9) (λu' ac=>?A) ?B
  case A =>
   show#[0,I.pg,C,ah,_,0,h4,T.cl,T.nP,rQ _ _,0,I.pd,uE x,rfl,hg,x.1,_,(0),0,rfl,bP.of hm,1,0,?_];cases b with
   |true =>
    show eS ?_;let hi:k∈s'.inf:=(gd.fi k).mpr #[n,J];show#[0,I.pg,C,ah,_,0,h4,T.cl,T.nI,vJ _ _,.inl #[4,bw.of L.il],0,I.il,s'.inf,k,1,L.il,hi,?_];show ac _ _ #[rfl,L.oW ok (s'.inf.erase k),ab.trans (Off.wr (PA.gg 6 rfl))]
   |false =>
    show b9 ?_;show ac _ _ #[5,ab];rw[QU (Pg.zj gd J)];show L
  case B =>
   rintro σ H9 ⟨rfl,G9,O9⟩;let#[as,h5]:=G9.ob;let#[l,hd,nd,ht,Y,hn]:=G9.pd;obtain⟨x,U,ex⟩:∃x,Tb.look l k=some x/\x.2=(b,n):=by
    let h9:(Tb.look l k).map (·.2)=some (b,n):=(Y k).trans J;show o8.mp h9
   show#[0,I.pg,C,as,_,0,h5,T.cl,T.nP,rQ _ _,I.pd,rfl,.inl #[_,.inl hd],0,_,vr k,uE x,hd,rfl,by rw[Tb.dg,U];rfl,?_];rw[Tb.fM];show q _ _ (.last J O) (G9.I0 ok k hd nd ht Y hn) (O9.trans (Off.wr (PA.gg 5 rfl)))
theorem KD:aE ["self","sheet","cells","made"] ["self","sheet","cells"] (aw tF):=L2.bN
theorem Ab{C CS:Addr}(F:cE K "change" "Paging.change" tF f fd)(T:rY K mg C)(TS:Txt K mg CS)(a1:↥Md 3 C "count" (oo C CS))(ap:↥Md 7 C "new_sheet" (iC K C CS))(aB:↥Md 4 C "leave" (mZ C CS))(aT:↥Md 7 C "fetch" (nK C CS))(a3:↥Md 2 C "number_of" (dP C CS))(GP:↥Md 3 CS "put" (yG K CS)):↥aV 8 f fd ["self","sheet","cells"] (qt C CS):=by
 show F.dS KD (λa4 A outer s H vs Q E S h=>?_);let#[M,I,s',k,ca,ab,O,cs,rfl,R,L,ah,am,h8,hf,q1,q2]:=h;let G:=R.at_;let ok:=R.ok;let hc:=(R.gd.vw L).1;let#[dx,h1]:=G.ob;show#[_,(aj (aU (aD iL (pm (pv 0) T.cl a1 S aC (aa (pv 1) ag)) ak (aG _)) (aj (dt 3 KD.nd (pm (pv 0) T.cl ap S aC (aa (pv 2) ag)))
  (aj (aO (pm (pv 0) T.cl aB S aC (aa (pv 1) ag)))
  (ao (aK (pv 3))))) aI)
  (aj (aO (pm (pv 0) T.cl aT S aC (aa (pv 1) ag)))
  (aj (aO (pm (aL (pv 0) rfl) TS.cl GP S aC (aa (pm (pv 0) T.cl a3 S aC (aa (pv 1) ag)) (aa (pv 2) ag))))
  (ao (aK (pv 1)))))),?_]
 show#[0,I.pg,dx,0,h1,dw _ _ aq aq aq aq aq,0,M,I,s',k,ab,O,rfl,G,L,?_];show#[_,0,rfl,0,?_];cases z:(1:Int)<O
 .rw[decide_eq_true z];show#[0,I.pg,dx,0,h1,dw _ _ aq aq aq aq aq,0,M,I,s',ca,cs,rfl,R,hf z,bw.of ah,λe=>am (by rw[e];show PA.gg 0 rfl),h8,λH1 U hb J N=>?_];let#[Y,h2]:=J.ob;let B:=Pg.mf R.gd R.l0 h8 hb;let kn:k≠s'.ls+1:=by
   intro e;let#[x1,x2,y1,_]:=L;rwa[e,Pg.gj R.gd]at y1
  show#[0,I.pg,Y,0,h2,dw _ _ aq aq aq aq aq,0,M,I,U,k,ab,O,rfl,J,ok,J.alive N R.mt,B.good,(B.kept.ot _ _ _ kn).mpr L,λH2 s2 hl G2 O2=>?_];show#[0,q1 z H2 U s2 hb hl G2 (N.trans O2)]
 .rw[decide_eq_false z];let ec:O=1:=af;show#[0,I.pg,dx,0,h1,dw _ _ aq aq aq aq aq,0,M,I,s',k,ab,O,rfl,R,L,λH1 U ac J N=>?_];let FF:=Pg.rl R.gd ac;let#[m,hm]:=FF.fr;let a0:=(FF.vw k ab O).mpr L;let e3:=Pg.vj hm a0;let#[Y,h2]:=J.ob;let#[as,h3]:=J.fr.ob;let a2:=N _ _ ah am;show#[0,I.pg,C,Y,_,0,h2,T.cl,T.nF,rG _ _,I.fp,as,0,h3,aW _ _ aq aq,?_];show#[0,I.pg,Y,0,h2,dw _ _ aq aq aq aq aq,0,M,I,U,k,true,m,rfl,J,hm,?_];show#[0,I.fp,I.fo,I.fc,ca,M,2,m,cs,rfl,J.fr,ok.m 2 rfl,ok.m 3 rfl,J.alive N R.mt,ok.n 2 3 rfl rfl ar,(FF.good.ln true).symm,J.le true,by rw[gf e3];omega,bw.of a2,λH2 S2 O2=>?_];rw[show(m:Int).toNat=m from Qc m]at S2;show#[0,q2 ec H2 U m ac hm (J.Lo ok true S2 O2) (N.trans (O2.mono (PA.lG true)))]
end St
namespace Tb
open PySem L2
section
variable{α:Type}
theorem EG{l:List (Int×α)}{k:Int}(h:¬ k∈l.map (·.1)):bp l k=l:=by
 unfold bp;rw[SH];intro y G;have:y.1≠k:=λe=>h (qj.mpr #[y,G,e]);simpa using this
theorem my{k:Int}{a:α}:∀{l:List (Int×α)},(l.map (·.1)).Nodup->look l k=some a->l.Perm ((k,a)::bp l k)
 | [],_,h=>by cases h
 |x::r,J,h=>by
  let#[I,L]:=Ov.mp (show(x.1::r.map (·.1)).Nodup from J);rw[aR]at h;cases c:x.1=k
  .rw[Xl c]at h;let e:x=(k,a):=Vo c (rn h);let G:bp (x::r) k=r:=by
    change filter _ (x::r)=r;rw[P4,Xk (by simp[c])];show EG (c▸I)
   rw[G,e]
  .rw[Xk c]at h;let G:bp (x::r) k=x::bp r k:=by
    change filter _ (x::r)=_;rw[P4,Xl ‹c›];rfl
   rw[G];show((my L h).cons x).trans (List.Perm.swap _ _ _)
theorem yD(l:List (Int×α))(k:Int)(a:α):bp (bg l k a) k=bp l k:=by
 induction l with
 |nil=>rfl
 |cons x r G =>
  change filter _ ((if x.1=k then(k,a)else x)::bg r k a)=filter _ (x::r);cases c:x.1=k
  .rw[Xl c,P4,Xk (by simp),P4,Xk (by simp[c])];show G
  .rw[Xk c,P4,Xl ‹c›,P4,Xl ‹c›];congr 1
theorem qd{l:List (Int×α)}{k:Int}(G:(l.map (·.1)).Nodup):((bp l k).map (·.1)).Nodup:=G.sublist (List.Sublist.map _ List.filter_sublist)
theorem Hr{l:List (Int×α)}{k:Int}{a:α}(G:(l.map (·.1)).Nodup):(((k,a)::bp l k).map (·.1)).Nodup:=by
 show Ov.mpr #[λh=>?_,qd G];let#[y,I,e]:=qj.mp h;have:=(QM.mp I).2;simp at this;show this e
theorem pb{l:List (Int×α)}{k:Int}{x:Int×α}(h:x∈l)(G:x.1≠k):x∈bp l k:=QM.mpr #[h,by simpa using G]
theorem tY{f:α->V}{l:List (Int×α)}{k:Int}{a b:α}(I:(l.map (·.1)).Nodup)(h:look l k=some b)(e:f a=f b):dk f (bg l k a)=dk f l:=by
 unfold dk bg;rw[Ql];show P6 λx G=>?_;change((vr (if x.1=k then(k,a)else x).1:Key),f (if x.1=k then(k,a)else x).2)=(vr x.1,f x.2);cases c:x.1=k
 .have:look l k=some x.2:=bX I (by rw[<-c];show G);rw[h]at this;rw[Xl c,c,e,rn this]
 .rw[Xk c]
theorem ly(l:List (Int×α))(k j:Int)(a:α):look ((k,a)::bp l k) j=if j=k then some a else look l j:=by
 rw[aR,cB];cases c:j=k
 .rw[Xl c.symm,Xl c]
 .rw[Xk (qs c),Xk c,Xk c]
end
theorem TabAt.off{B:Xm}{C:Addr}{H H':Hp}{p fs:Addr}{tb:kh}(T:TabAt C H p fs tb)(o:Off B H H')(R:¬ B p)(I:∀b,fK fs tb b->¬ B b)(J:∀b xs,H b=some (.tup xs)->¬ B b):TabAt C H' p fs tb:=by
 let#[#[dx,h1],h2,O,N,U,L,S]:=T;show#[#[dx,o _ _ h1 R],o _ _ h2 (I _ (.inl rfl)),λx G=>o _ _ (O x G) (I _ (.inr #[x,G,rfl])),λx G=>(N x G).keep λb xs e=>o _ _ e (J b xs e),U,L,S]
theorem TabAt.dK{C:Addr}{H:Hp}{p fs:Addr}{tb:kh}(T:TabAt C H p fs tb){b:Addr}(h:fK fs tb b):∃kvs,H b=some (.dK kvs):=by
 rcases h with h|⟨x,G,h⟩
 .show#[_,by rw[h];show T.hf]
 .show#[_,by rw[h];show T.hd x G]
end Tb
namespace St
open PySem L2
structure TD where
 p:Addr
 fs:Addr
 tb:Tb.kh
 t:List (Int×Pg.Ent)
abbrev dq:=List (Int×TD)
def fR(x:TD):V:=.ref x.p
def Af:Pg.Ent->List V
 |none=>[.str "blank"]
 |some k=>[.str "sheet",.int k]
def TD.fK(x:TD):Addr->Prop:=Tb.fK x.fs x.tb
structure dJ(CT:Addr)(H:Hp)(x:TD):Prop where
 at_:Tb.TabAt CT H x.p x.fs x.tb
 nd:(x.t.map (·.1)).Nodup
 lk:∀q,Tb.dN x.tb q=(Tb.look x.t q).map Af
def vX(t:List (Int×Pg.Ent)):List Pg.Ent:=t.map (·.2)
def ents(W:dq):List Pg.Ent:=W.flatMap λx=>vX x.2.t
theorem lO{W:dq}{t:Int}{x:TD}(G:(W.map (·.1)).Nodup)(h:Tb.look W t=some x):(ents W).Perm (vX x.t++ents (Tb.bp W t)):=(Tb.my G h).flatMap_right _
theorem jd{W:dq}{t:Int}{x y:TD}(G:(W.map (·.1)).Nodup)(h:Tb.look W t=some x):(ents (Tb.bg W t y)).Perm (vX y.t++ents (Tb.bp W t)):=by
 have:=lO (W:=Tb.bg W t y) (t:=t) (x:=y) (by rw[Tb.gw];show G) (by rw[Tb.bT t h,Xl rfl])
 rwa [Tb.yD]at this
theorem vM{t:List (Int×Pg.Ent)}{q:Int}{e:Pg.Ent}(G:(t.map (·.1)).Nodup)(h:Tb.look t q=some e):(vX t).Perm (e::vX (Tb.bp t q)):=(Tb.my G h).map _
def fJ(pg:Addr)(t:Int)(rd:Addr):List (Str×V):=bt "rooms" (.ref rd) (bt "total" (.int t) (bt "paging" (.ref pg) []))
section
variable(pg:Addr)(t:Int)(rd:Addr)
theorem cX:(fJ pg t rd).lookup ("rooms" : Str)=some (.ref rd):=by
 unfold fJ;rw[aJ,Xl rfl]
theorem FP:(fJ pg t rd).lookup ("total" : Str)=some (.int t):=by
 unfold fJ;rw[aJ,Xk aq,aJ,Xl rfl]
theorem rM:(fJ pg t rd).lookup ("paging" : Str)=some (.ref pg):=by
 unfold fJ;rw[aJ,Xk aq,aJ,Xk aq,aJ,Xl rfl]
theorem gc{m:Str}(h1:¬ m = "rooms")(h2:¬ m = "total")(G:¬ m = "paging"):(fJ pg t rd).lookup m=none:=by
 unfold fJ;rw[aJ,Xk h1,aJ,Xk h2,aJ,Xk G]
 all_goals rfl
end
def bL(s:Pg.PS):Int:=((s.ow true).length+(s.ow false).length:Nat)
theorem yl{s s':Pg.PS}(h:∀b,(s'.ow b).length=(s.ow b).length):bL s'=bL s:=by
 unfold bL;rw[h,h]
structure CA where
 C:Addr
 P:Addr
 S:Addr
 T:Addr
structure RA where
 A:PA
 rp:Addr
 rd:Addr
structure ax(c:CA)(H:Hp)(M:Xm)(a:RA)(s:Pg.PS)(W:dq):Prop where
 ob:∃dx,H a.rp=some (.ins c.C dx (fJ a.A.pg (bL s) a.rd))
 pg:bR c.P c.S H M a.A s
 ok:a.A.Ok M
 mt:∀b,M b->H b≠none
 hd:H a.rd=some (.dK (Tb.dk fR W))
 nd:(W.map (·.1)).Nodup
 tb:∀x∈W,dJ c.T H x.2
 dm:∀x∈W,∀b,x.2.fK b->M b/\¬ a.A.own b/\b≠a.rd
 np:∀x∈W,¬ a.A.own x.2.p
 dj:∀x∈W,∀y∈W,x.1≠y.1->∀b,x.2.fK b->¬ y.2.fK b
 Gm:M a.rd
 El:¬ a.A.own a.rd
 AS:¬ a.A.own a.rp
def RA.own(a:RA)(W:dq):Addr->Prop:=λb=>a.A.own b\/b=a.rd\/∃x∈W,x.2.fK b
structure Step(H:Hp)(M O:Xm)(H':Hp)(M' O':Xm):Prop where
 off:Off O H H'
 mm:∀b,M b->¬ O b->M' b
 mn:∀b,M' b->M b\/H b=none
 on:∀b,O' b->O b\/H b=none
 mt:∀b,M b->H b≠none
 om:∀b,O b->M b
theorem Step.gone{H H':Hp}{M O M' G:Xm}(a:Step H M O H' M' G){b:Addr}(h:H' b=none):O b\/H b=none:=by
 cases e:H b with
 |none=>show .inr rfl
 |some u =>
  cases z:O b
  .show .inl z
  .rw[a.off b u e z]at h;cases h
theorem Step.trans{H H' G:Hp}{M O M' L J I:Xm}(a:Step H M O H' M' L)(b:Step H' M' L G J I):Step H M O G J I:=by
 show#[λx o e z=>b.off x o (a.off x o e z) λy=>?_,λx h z=>b.mm x (a.mm x h z) λy=>?_,λx h=>?_,λx h=>?_,a.mt,a.om]
 .rcases a.on x y with y|y
  .show z y
  .rw[e]at y;cases y
 .rcases a.on x y with y|y
  .show z y
  .show a.mt x h y
 .rcases b.mn x h with h|h
  .show a.mn x h
  .rcases a.gone h with h|h
   .show .inl (a.om x h)
   .show .inr h
 .rcases b.on x h with h|h
  .show a.on x h
  .show a.gone h
theorem ff.grow{M M':Xm}{H:Hp}(h:∀b,M' b->M b\/H b=none):∀{v:V}{x:Option (List Int)},ff H M v x->ff H M' v x
 |.non,none,_=>trivial
 |.ref a,some ns,⟨h1,h2⟩=>#[λz=>(h a z).elim h1 λe=>(by rwa[h2]at e),h2]
theorem aX.grow{C p ow co:Addr}{M M':Xm}{os:List Int}{pg:List (Option (List Int))}{H:Hp}(S:aX C H M p ow co os pg)(h:∀b,M' b->M b\/H b=none):aX C H M' p ow co os pg:=by
 let#[h1,G,cs,I,J]:=S;show#[h1,G,cs,I,Paired.DH J λ_ _ z=>z.grow h]
section
variable{A:PA}{M M' B:Xm}{H H':Hp}
theorem bR.lu{C CS:Addr}{s:Pg.PS}(G:bR C CS H M A s):∀b xs,H b=some (.tup xs)->¬ A.own b:=by
 intro b xs e y;let#[dx,h1]:=G.ob;let#[_,I,_]:=G.fr.hc;let#[_,R,_]:=G.sl.hc;let#[_,L,_]:=G.pd;let O:=G.fr.hw;let N:=G.sl.hw;let J:=G.il;unfold PA.own at y;simp only[BY,DO,or_false]at y;rcases y with y|y|y|y|y|y|y<;>rw[y]at e
 .rw[h1]at e;cases e
 .rw[O]at e;cases e
 .rw[I]at e;cases e
 .rw[N]at e;cases e
 .rw[R]at e;cases e
 .rw[L]at e;cases e
 .rw[J]at e;cases e
theorem aX.less{C p ow co:Addr}{M M':Xm}{os:List Int}{pg:List (Option (List Int))}{H:Hp}(S:aX C H M p ow co os pg)(h:∀b,M' b->M b):aX C H M' p ow co os pg:=S.grow λb z=>.inl (h b z)
theorem bR.move{C CS:Addr}{s:Pg.PS}(G:bR C CS H M A s)(o:Off B H H')(O:∀b,B b->M b)(L:∀b,M' b->M b\/H b=none)(I:∀b,A.own b->¬ B b)(Y:¬ B A.fp)(U:¬ B A.sp)(nt:∀b xs,H b=some (.tup xs)->¬ B b):bR C CS H' M' A s:=by
 let#[dx,h1]:=G.ob;let#[l,hd,S,N,hl,R]:=G.pd;show#[#[dx,o _ _ h1 (I _ (PA.gg 0 rfl))],((G.fr.grow (M':=λb=>M b\/M' b) λb z=>z.elim .inl (L b)).off o (λb z=>.inl (O b z)) Y (I _ (PA.gg 1 rfl)) (I _ (PA.gg 2 rfl))).less λb z=>.inr z,
  ((G.sl.grow (M':=λb=>M b\/M' b) λb z=>z.elim .inl (L b)).off o (λb z=>.inl (O b z)) U (I _ (PA.gg 3 rfl)) (I _ (PA.gg 4 rfl))).less λb z=>.inr z,o _ _ G.il (I _ (PA.gg 6 rfl)),G.le,
  #[l,o _ _ hd (I _ (PA.gg 5 rfl)),S,λx J=>o _ _ (N x J) (nt _ _ (N x J)),hl,R]]
variable{c:CA}{a:RA}{s s':Pg.PS}{W:dq}{t:Int}{x y:TD}
theorem ax.LG{es:List Pg.Ent}(R:ax c H M a s W)(G:Pg.RI s es):JD c.P c.S H M a.A s:=#[R.pg,R.ok,R.mt,G.good,G.ne,G.cb R.pg.le,G.l0]
theorem dJ.off(T:dJ c.T H x)(o:Off B H H')(J:¬ B x.p)(G:∀b,x.fK b->¬ B b)(I:∀b xs,H b=some (.tup xs)->¬ B b):dJ c.T H' x:=#[T.at_.off o J G I,T.nd,T.lk]
theorem ax.lU(R:ax c H M a s W)(G:bR c.P c.S H' M a.A s')(o:Off a.A.own H H')(J:∀b,(s'.ow b).length=(s.ow b).length):ax c H' M a s' W:=by
 let#[dx,h1]:=R.ob;show#[#[dx,by rw[yl J];show o _ _ h1 R.AS],G,R.ok,G.alive o R.mt,o _ _ R.hd R.El,R.nd,λx I=>(R.tb x I).off o (R.np x I) (λb z=>(R.dm x I b z).2.1) R.pg.lu,R.dm,R.np,R.dj,R.Gm,R.El,R.AS]
theorem ax.dG(R:ax c H M a s W):∀b,a.own W b->M b:=λb h=>by
 rcases h with h|h|⟨x,G,h⟩
 .show R.ok.own b h
 .rw[h];show R.Gm
 .show(R.dm x G b h).1
theorem ax.refl(R:ax c H M a s W):Step H M (a.own W) H M (a.own W):=#[λ_ _ e _=>e,λ_ h _=>h,λ_ h=>.inl h,λ_ h=>.inl h,R.mt,R.dG]
theorem ax.gv(R:ax c H M a s W)(e:aP H H'):Step H M (a.own W) H' M (a.own W):=#[λb o h _=>e b o h,λ_ h _=>h,λ_ h=>.inl h,λ_ h=>.inl h,R.mt,R.dG]
theorem ax.K6(R:ax c H M a s W)(G:bR c.P c.S H' M a.A s')(o:Off a.A.own H H'):Step H M (a.own W) H' M (a.own W):=
 #[o.mono λ_ z=>.inl z,λ_ h _=>h,λ_ h=>.inl h,λ_ h=>.inl h,R.mt,R.dG]
theorem ax.same(R:ax c H M a s W)(e:aP H H'):ax c H' M a s W:=by
 let#[dx,h1]:=R.ob;show#[#[dx,e _ _ h1],R.pg.keep (λb o h _=>e b o h),R.ok,λb I z=>?_,e _ _ R.hd,R.nd,λx G=>#[(R.tb x G).at_.same e,(R.tb x G).nd,(R.tb x G).lk],R.dm,R.np,R.dj,R.Gm,R.El,R.AS];cases h:H b with
 |none=>show R.mt b I h
 |some o=>rwa[e b o h]at z
theorem ax.Ek(R:ax c H M a s W)(o:Off B H H')(G:∀b,B b->M b/\¬ a.own W b)(N:∀b,B b->(∃xs,H b=some (.lst xs))\/∃kvs,H b=some (.dK kvs))(Y:∀b,M' b->M b\/H b=none)(L:∀b,M b->¬ B b->M' b)(mt:∀b,M' b->H' b≠none):ax c H' M' a s W:=by
 let#[dx,h1]:=R.ob;let J:∀{b C dx fs},H b=some (.ins C dx fs)->¬ B b:=λe z=>by
  rcases N _ z with⟨_,h⟩|⟨_,h⟩
  .rw[e]at h;cases h
  .rw[e]at h;cases h
 let O:∀b xs,H b=some (.tup xs)->¬ B b:=λb xs e z=>by
  rcases N _ z with⟨_,h⟩|⟨_,h⟩
  .rw[e]at h;cases h
  .rw[e]at h;cases h
 let#[ah,S]:=R.pg.fr.ob;let#[ab,U]:=R.pg.sl.ob;show#[#[dx,o _ _ h1 (J h1)],R.pg.move o (λb z=>(G b z).1) Y (λb z y=>(G b y).2 (.inl z)) (J S) (J U) O,#[R.ok.ds,λb z=>L b (R.ok.mm b z) λq=>?_],mt,o _ _ R.hd (λz=>(G _ z).2 (.inr (.inl rfl))),R.nd,λx I=>?_,λx I b z=>#[L b (R.dm x I b z).1 λq=>(G b q).2 (.inr (.inr #[x,I,z])),(R.dm x I b z).2],R.np,R.dj,L _ R.Gm (λz=>(G _ z).2 (.inr (.inl rfl))),R.El,R.AS]
 .simp only[BY,DO,or_false]at z;rcases z with z|z|z|z|z|z|z|z|z<;>rw[z]at q
  .show(G _ q).2 (.inl (PA.gg 0 rfl))
  .show J S q
  .show(G _ q).2 (.inl (PA.gg 1 rfl))
  .show(G _ q).2 (.inl (PA.gg 2 rfl))
  .show J U q
  .show(G _ q).2 (.inl (PA.gg 3 rfl))
  .show(G _ q).2 (.inl (PA.gg 4 rfl))
  .show(G _ q).2 (.inl (PA.gg 5 rfl))
  .show(G _ q).2 (.inl (PA.gg 6 rfl))
 .let#[ac,h3]:=(R.tb x I).at_.ob;show(R.tb x I).off o (J h3) (λb z y=>(G b y).2 (.inr (.inr #[x,I,z]))) O
theorem ax.xB(R:ax c H M a s W)(hx:Tb.look W t=some x)(ep:y.p=x.p)(T:dJ c.T H' y)(o:Off x.fK H H')(Y:∀b,y.fK b->x.fK b\/H b=none):ax c H' (λb=>(M b/\¬ x.fK b)\/y.fK b) a s (Tb.bg W t y):=by
 let N:=Tb.aA hx;let X:=R.tb _ N;let dK:∀{b},x.fK b->∃kvs,H b=some (.dK kvs):=λz=>X.at_.dK z;let J:=R.dm _ N;let L:∀{b C dx fs},H b=some (.ins C dx fs)->¬ x.fK b:=λe z=>by
  let#[_,h]:=dK z;rwa[e]at h
 let nt:∀b xs,H b=some (.tup xs)->¬ x.fK b:=λb xs e z=>by
  let#[_,h]:=dK z;rwa[e]at h
 let#[dx,h1]:=R.ob;let#[aB,f1]:=R.pg.fr.ob;let#[ap,f2]:=R.pg.sl.ob;let hM:∀b,(M b/\¬ x.fK b)\/y.fK b->M b\/H b=none:=λb z=>z.elim (λz=>.inl z.1) λz=>(Y b z).elim (λz=>.inl (J b z).1) .inr;show#[#[dx,o _ _ h1 (L h1)],R.pg.move o (λb z=>(J b z).1) hM (λb z y=>(J b y).2.1 z) (L f1) (L f2) nt,#[R.ok.ds,λb z=>.inl #[R.ok.mm b z,λq=>?_]],λb z e=>?_,?_,by rw[Tb.gw];show R.nd,λI G=>?_,λI G b z=>?_,λI G=>?_,λx1 U x2 S ac b z1 O=>?_,.inl #[R.Gm,λq=>(J _ q).2.2 rfl],R.El,R.AS]
 .simp only[BY,DO,or_false]at z;rcases z with z|z|z|z|z|z|z|z|z<;>rw[z]at q
  .show(J _ q).2.1 (PA.gg 0 rfl)
  .show L f1 q
  .show(J _ q).2.1 (PA.gg 1 rfl)
  .show(J _ q).2.1 (PA.gg 2 rfl)
  .show L f2 q
  .show(J _ q).2.1 (PA.gg 3 rfl)
  .show(J _ q).2.1 (PA.gg 4 rfl)
  .show(J _ q).2.1 (PA.gg 5 rfl)
  .show(J _ q).2.1 (PA.gg 6 rfl)
 .rcases z with z|z
  .cases e2:H b with
   |none=>show R.mt b z.1 e2
   |some u=>rwa[o b u e2 z.2]at e
  .let#[_,h]:=T.at_.dK z;rwa[e]at h
 .rw[Tb.tY R.nd hx (show V.ref y.p=V.ref x.p by rw[ep])];show o _ _ R.hd λz=>(J _ z).2.2 rfl
 .rcases Tb.mem_set G with rfl|⟨G,ne⟩
  .show T
  .let#[as,h3]:=(R.tb I G).at_.ob;show(R.tb I G).off o (L h3) (λb z z'=>R.dj I G _ N ne b z z') nt
 .rcases Tb.mem_set G with rfl|⟨G,ne⟩
  .show#[.inr z,?_];rcases Y b z with z|z
   .show(J b z).2
   .show#[λq=>R.mt b (R.ok.own b q) z,λq=>by rwa[q,R.hd]at z]
  .show#[.inl #[(R.dm I G b z).1,λq=>R.dj I G _ N ne b z q],(R.dm I G b z).2]
 .rcases Tb.mem_set G with rfl|⟨G,ne⟩
  .change ¬ a.A.own y.p;rw[ep];show R.np _ N
  .show R.np I G
 .let ab:∀I∈W,I.1≠t->∀b,I.2.fK b->¬ y.fK b:=λI G ne b z1 O=>by
   rcases Y b O with z|z
   .show R.dj I G _ N ne b z1 z
   .let#[_,h]:=(R.tb I G).at_.dK z1;rwa[z]at h
  rcases Tb.mem_set U with rfl|⟨U,ah⟩<;>rcases Tb.mem_set S with rfl|⟨S,am⟩
  .show ac rfl
  .show ab x2 S am b O z1
  .show ab x1 U ah b z1 O
  .show R.dj x1 U x2 S ac b z1 O
theorem ax.tV(R:ax c H M a s W)(L:Tb.look W t=some x)(o:Off x.fK H H')(J:∀b,y.fK b->x.fK b\/H b=none):Step H M (a.own W) H' (λb=>(M b/\¬ x.fK b)\/y.fK b) (a.own (Tb.bg W t y)):=by
 let G:=Tb.aA L;show#[o.mono λb z=>.inr (.inr #[_,G,z]),λb z q=>.inl #[z,λw=>q (.inr (.inr #[_,G,w]))],λb z=>z.elim (λz=>.inl z.1) λz=>(J b z).elim (λz=>.inl (R.dm _ G b z).1) .inr,λb z=>?_,R.mt,R.dG];rcases z with z|z|⟨N,I,z⟩
 .show .inl (.inl z)
 .show .inl (.inr (.inl z))
 .rcases Tb.mem_set I with rfl|⟨I,ne⟩
  .show(J b z).elim (λz=>.inl (.inr (.inr #[_,G,z]))) .inr
  .show .inl (.inr (.inr #[N,I,z]))
theorem ax.K5(R:ax c H M a s W){W':dq}(N:(W'.map (·.1)).Nodup)(tb:∀x∈W',dJ c.T H x.2)(J:∀x∈W',∀b,x.2.fK b->M b/\¬ a.A.own b/\b≠a.rd)(np:∀x∈W',¬ a.A.own x.2.p)(S:∀x∈W',∀y∈W',x.1≠y.1->∀b,x.2.fK b->¬ y.2.fK b) :
  ax c (upd H a.rd (.dK (Tb.dk fR W'))) M a s W':=by
 let o:Off (· = a.rd) H (upd H a.rd (.dK (Tb.dk fR W'))):=λb o e z=>(by rw[ai z];show e);let G:∀{b C dx fs},H b=some (.ins C dx fs)->¬ b=a.rd:=λe z=>(by rwa[z,R.hd]at e);let L:∀b xs,H b=some (.tup xs)->¬ b=a.rd:=λb xs e z=>(by rwa[z,R.hd]at e);let al:∀b,upd H a.rd (.dK (Tb.dk fR W')) b=none->H b=none:=λb e=>by
  cases z:b=a.rd
  .rw[z,ae]at e;cases e
  .rw[ai z]at e;show e
 let#[dx,h1]:=R.ob;let#[ah,Y]:=R.pg.fr.ob;let#[ab,f2]:=R.pg.sl.ob;show#[#[dx,o _ _ h1 (G h1)],R.pg.move o (λb z=>by rw[z];show R.Gm) (λb z=>.inl z) (λb z y=>R.El (y▸z)) (G Y) (G f2) L,R.ok,λb O e=>R.mt b O (al b e),ae,N,λx I=>?_,J,np,S,R.Gm,R.El,R.AS];let#[ac,U]:=(tb x I).at_.ob;show(tb x I).off o (G U) (λb z y=>(J x I b z).2.2 y) L
theorem ax.Bm(R:ax c H M a s W)(O:Tb.look W t=none)(T:dJ c.T H y)(I:∀b,y.fK b->M b/\¬ a.own W b)(np:¬ a.A.own y.p):ax c (upd H a.rd (.dK (Tb.dk fR (W++[(t,y)])))) M a s (W++[(t,y)]):=by
 show R.K5 ?_ (λx G=>?_) (λx G=>?_) (λx G=>?_) (λL h1 N h2 ne b z1 J=>?_)
 .rw[L0];show gC R.nd (Tb.cu O)
 .rcases oR.mp G with G|G
  .show R.tb x G
  .rw[nc.mp G];show T
 .rcases oR.mp G with G|G
  .show R.dm x G
  .rw[nc.mp G];show λb z=>#[(I b z).1,λq=>(I b z).2 (.inl q),λq=>(I b z).2 (.inr (.inl q))]
 .rcases oR.mp G with G|G
  .show R.np x G
  .rw[nc.mp G];show np
 .rcases oR.mp h1 with h1|h1<;>rcases oR.mp h2 with h2|h2
  .show R.dj L h1 N h2 ne b z1 J
  .rw[nc.mp h2]at J;show(I b J).2 (.inr (.inr #[L,h1,z1]))
  .rw[nc.mp h1]at z1;show(I b z1).2 (.inr (.inr #[N,h2,J]))
  .show ne (by rw[nc.mp h1,nc.mp h2])
theorem ax.Jg(R:ax c H M a s W)(t:Int):ax c (upd H a.rd (.dK (Tb.dk fR (Tb.bp W t)))) M a s (Tb.bp W t):=
 R.K5 (Tb.qd R.nd) (λx G=>R.tb x (Tb.cw G).1) (λx G=>R.dm x (Tb.cw G).1) (λx G=>R.np x (Tb.cw G).1) (λx G y I=>R.dj x (Tb.cw G).1 y (Tb.cw I).1)
end
end St
namespace L2
open PySem PySem.Spec PyProof.Rows
def Mn(K:HC):R2:=λx y H Q=>∃p q xs ys,x=.ref p/\y=.ref q/\bP K H p xs/\bP K H q ys/\xs.all d0=true/\ys.all d0=true/\Q (.bl (!jZ xs ys)) H
section
variable{X:Cx}
theorem xE(hu:X.A.units<QO):mh X (PF .NotEq) (Mn X.K):=by
 intros x y v u Q I rx U h;let#[p,q,xs,ys,rfl,rfl,R,S,fx,fy,Y]:=h;cases rx;cases U;let#[its,r,pl,hz]:=I.tuple R;let#[L,N,O,am]:=I.tuple S;let hl:=r.length;let ac:=N.length;show SR (e:=λj=>mM (xs.getD j .non) (ys.getD j .non)) pl O hu (λj h1 h2=>?_) _ _ _ _ #[.bl (!jZ xs ys),H,I,?_,Y]
 .rw[qi]at h1 h2;let J:j<xs.length:=af;let G:j<ys.length:=af;let#[a,ea,ra]:=r.get (i:=j) (x:=xs[j]) (by simp[J]);let#[b,eb,rb]:=N.get (i:=j) (x:=ys[j]) (by simp[G]);let#[_,ab]:=kQ.mp ea;let#[_,ah]:=kQ.mp eb;let g1:xs.getD j .non=xs[j]:=(by simp[J]);let g2:ys.getD j .non=ys[j]:=(by simp[G]);change QC _ _ its.toArray[j] L.toArray[j] (mM (xs.getD j .non) (ys.getD j .non));let a1:its.toArray[j]=a:=‹ab›;let a2:L.toArray[j]=b:=‹ah›;rw[g1,g2,a1,a2];show lV ra rb (OG.mp fx _ (Qd J)) (OG.mp fy _ (Qd G))
 .change Value.bool _=Value.bool _;rw[qi,qi, <-hl, <-ac,qY]
end
end L2
namespace St
open PySem L2
abbrev nG:Ow:=top 17
abbrev nE:Ow:=top 18
abbrev tK:Ow:=top 19
abbrev nJ:Ow:=inClass (top 33) 1
abbrev nN:Ow:=inClass (top 33) 2
abbrev zg:Ow:=inClass (top 33) 3
abbrev sC:Ow:=inClass (top 33) 4
abbrev tf:Ow:=inClass (top 33) 5
abbrev ui:Ow:=inClass (top 33) 6
abbrev tS:Ow:=inClass (top 33) 7
abbrev yt:Ow:=inClass (top 33) 8
abbrev rV:Ow:=inClass (top 33) 11
abbrev sP:Ow:=inClass (top 33) 12
abbrev uj:Ow:=inClass (top 33) 13
structure mY(K:HC)(mg:Xq)(c:CA):Prop where
 cl:qL K c.C
 nP:dC K c.C "paging"
 nT:dC K c.C "total"
 nR:dC K c.C "rooms"
 bl:∃aB,mg "BLANK" = some (.ref aB)/\bP K (λ_=>none) aB [.str "blank"]
 pc:∃u,mg "PAGE_CELLS" = some u/\RelV (.int 8) u
 len:mg "len" = none
 sum:mg "sum" = none
 zip:mg "zip" = none
def Cv(s:Pg.PS)(W:dq)(cv:Xn):Prop:=∀t x,Tb.look W t=some x->∀q e,Tb.look x.t q=some e->Pg.Au s e (cv t q)
theorem pP{W:dq}{t q:Int}{x:TD}{e:Pg.Ent}(G:Tb.look W t=some x)(I:Tb.look x.t q=some e):e∈ents W :=
 RL.mpr #[(t,x),Tb.aA G,qj.mpr #[(q,e),Tb.aA I,rfl]]
theorem Cv.next{s s':Pg.PS}{W W':dq}{cv:Xn}(h:Cv s W cv)(hs:Pg.aP (ents W') s s')(L:∀t G,Tb.look W' t=some G->∃x,Tb.look W t=some x/\∀q e,Tb.look G.t q=some e->Tb.look x.t q=some e):Cv s' W' cv:=by
 intro t G I q e J;let#[x,h1,h2]:=L t G I;show hs e (pP I J) _ (h t x h1 q e (h2 q e J))
theorem Cv.keep{s s':Pg.PS}{W:dq}{cv:Xn}(h:Cv s W cv)(hs:Pg.aP (ents W) s s'):Cv s' W cv:=h.next hs λt x G=>#[x,G,λ_ _ e=>e]
theorem jC{W:dq}{t:Int}{x y:TD}(h:Tb.look W t=some x):Tb.look (Tb.bg W t y) t=some y:=by rw[Tb.bT t h,Xl rfl]
theorem set_set{W:dq}{t:Int}{x y:TD}:Tb.bg (Tb.bg W t x) t y=Tb.bg W t y:=by
 unfold Tb.bg;rw[Ql];show P6 λz _=>?_;change(if (if z.1=t then(t,x)else z).1=t then(t,y)else(if z.1=t then(t,x)else z))=if z.1=t then(t,y)else z
 cases c:z.1=t
 .rw[Xl c,Xl rfl,Xl c]
 .simp only[Xk c]
theorem di{W:dq}{t:Int}{x:TD}(G:(W.map (·.1)).Nodup)(h:Tb.look W t=some x):Tb.bg W t x=W:=by
 unfold Tb.bg
 conv=>rhs;rw[<-Xc W]
 show P6 λz I=>?_;change(if z.1=t then(t,x)else z)=z;cases c:z.1=t
 .have:=Tb.bX G I;rw[c,h]at this;rw[Xl c,rn this, <-c]
 .rw[Xk c]
theorem zP{W:dq}{t q:Int}{x y:TD}{e:Pg.Ent}(I:(W.map (·.1)).Nodup)(G:Tb.look W t=some x)(nx:(x.t.map (·.1)).Nodup)(L:Tb.look x.t q=some e)(J:y.t=Tb.bp x.t q):(ents W).Perm (e::ents (Tb.bg W t y)):=by
 show(lO I G).trans (((vM nx L).append_right _).trans ?_);rw[<-J];show((jd I G).symm).cons e
theorem DT{W:dq}{t q:Int}{x y:TD}{e:Pg.Ent}(J:(W.map (·.1)).Nodup)(G:Tb.look W t=some x)(I:y.t=(q,e)::Tb.bp x.t q):(ents (Tb.bg W t y)).Perm (e::(vX (Tb.bp x.t q)++ents (Tb.bp W t))):=by
 show(jd J G).trans ?_;rw[I];show List.Perm.refl _
theorem dJ.mem{c:CA}{H:Hp}{x:TD}(T:dJ c.T H x){ns:List Int}(p:ns.Perm (Tb.gA x.tb))(q:Int):q∈ns↔Tb.look x.t q≠none:=by
 rw[p.mem_iff,Tb.vx T.at_,T.lk];cases Tb.look x.t q<;>simp
theorem dJ.pg{c:CA}{H:Hp}{x:TD}(T:dJ c.T H x){q:Int}(h:Tb.look x.t q≠none):0<=q/\q<64:=T.at_.vb (by
 rw[T.lk];cases e:Tb.look x.t q with
 |none=>show absurd e h
 |some _=>simp)
inductive dn(v:List V)(H:Hp)(Q:VK)(e:XK):Prop
 |mk(a:Addr)(W:dq)(t:Int)(x:TD)(_:v=[.ref a,.int t])(_:H a=some (.dK (Tb.dk fR W)))(_:Tb.look W t=some x)(_:Q (.ref x.p) H)
inductive iR(v:List V)(H:Hp)(Q:VK)(e:XK):Prop
 |mk(a:Addr)(W:dq)(t:Int)(_:v=[.ref a,.int t])(_:H a=some (.dK (Tb.dk fR W)))(_:Tb.look W t=none)(_:Q .non H)
inductive nX(v:List V)(H:Hp)(Q:VK)(e:XK):Prop
 |mk(h t:Int)(_:v=[.int h,.int t])(_:¬ t<h)(_:Q .non H)
inductive eU(c:CA)(v:List V)(H:Hp)(Q:VK)(e:XK):Prop
 |mk(M:Xm)(a:RA)(s:Pg.PS)(W:dq)(cv:Xn)(t:Int)(x:TD)(lp:Addr)(ps:List Int)(_:v=[.ref a.rp,.ref x.p,.ref lp])(_:ax c H M a s W)(_:Pg.RI s (ents W))(_:Cv s W cv)(_:Tb.look W t=some x)(_:H lp=some (.lst (ps.map V.int)))(_:¬ M lp)(_:ps.Nodup)(_:(∀q∈ps,Tb.look x.t q≠none))(_:∀(H':Hp)(M':Xm)(s':Pg.PS)(y:TD),ax c H' M' a s' (Tb.bg W t y)->Pg.RI s' (ents (Tb.bg W t y))->Cv s' (Tb.bg W t y) cv->(∀q,Tb.look y.t q=if q∈ps then none else Tb.look x.t q)->Step H M (a.own W) H' M' (a.own (Tb.bg W t y))->(∀b,(s'.ow b).length=(s.ow b).length)->Q .non H')
inductive wc(c:CA)(v:List V)(H:Hp)(Q:VK)(e:XK):Prop
 |mk(M:Xm)(a:RA)(s:Pg.PS)(W:dq)(cv:Xn)(t p m:Int)(x:TD)(_:v=[.ref a.rp,.int t,.int p,.int m])(_:ax c H M a s W)(_:Pg.RI s (ents W))(_:Cv s W cv)(_:Tb.look W t=some x)(_:¬ Rm.bq p m)(_:(∀q∈Rm.aM p m,Tb.look x.t q≠none))(_:∀(H':Hp)(M':Xm)(s':Pg.PS)(y:TD),ax c H' M' a s' (Tb.bg W t y)->Pg.RI s' (ents (Tb.bg W t y))->Cv s' (Tb.bg W t y) cv->(∀q,Tb.look y.t q=if q∈Rm.aM p m then none else Tb.look x.t q)->Step H M (a.own W) H' M' (a.own (Tb.bg W t y))->(∀b,(s'.ow b).length=(s.ow b).length)->Q .non H')
inductive pK(c:CA)(v:List V)(H:Hp)(Q:VK)(e:XK):Prop
 |mk(M:Xm)(a:RA)(s:Pg.PS)(W:dq)(cv:Xn)(t:Int)(x:TD)(_:v=[.ref a.rp,.int t])(_:ax c H M a s W)(_:Pg.RI s (ents W))(_:Cv s W cv)(_:Tb.look W t=some x)(_:∀(H':Hp)(M':Xm)(s':Pg.PS),ax c H' M' a s' (Tb.bp W t)->Pg.RI s' (ents (Tb.bp W t))->Cv s' (Tb.bp W t) cv->Step H M (a.own W) H' M' (a.own (Tb.bp W t))->(∀b,(s'.ow b).length=(s.ow b).length)->Q .non H')
inductive oQ(c:CA)(v:List V)(H:Hp)(Q:VK)(e:XK):Prop
 |mk(M:Xm)(a:RA)(s:Pg.PS)(W:dq)(t:Int)(_:v=[.ref a.rp,.int t])(_:ax c H M a s W)(_:Tb.look W t=none)(_:W.length<=1000)(_:∀(H':Hp)(M':Xm)(y:TD),y.t=[]->ax c H' M' a s (W++[(t,y)])->Step H M (a.own W) H' M' (a.own (W++[(t,y)]))->Q .non H')
theorem f6{α:Type}{f:α->V}{H:Hp}{a:Addr}{l:List (Int×α)}{t:Int}(h:H a=some (.dK (Tb.dk f l))):dY H a (.int t) ((Tb.look l t).map f):=by
 let q:=dY.k (k:=vr t) h;rw[Tb.dg]at q;show q
theorem Ld:aE ["rooms","task"] ["rooms","task"] (aw nG):=L2.bN
theorem zK(F:cE K "room_of" "room_of" nG f fd):↥aV 1 f fd ["rooms","task"] dn:=by
 show F.dS Ld (λN A outer s H vs Q E I h=>?_);let#[a,W,t,x,rfl,L,J,k]:=h;show#[_,(aj (aU (iZ (gT (bz I) (pv 1) (pv 0))) dh aI)
  (ao (aK (bJ (bz I) (pv 0) (pv 1) cz)))),?_]
 let G:=f6 (t:=t) L;rw[J]at G;show#[0,0,a,0,G,0,b9 #[0,0,a,fR x,rfl,G,k]]
theorem JF:aE ["rooms","task"] ["rooms","task"] (aw nE):=L2.bN
theorem Av(F:cE K "refuse_second_room" "refuse_second_room" nE f fd):↥aV 1 f fd ["rooms","task"] iR:=by
 show F.dS JF (λN A outer s H vs Q E L h=>?_);let#[a,W,t,rfl,J,I,k]:=h;show#[_,(ao (aU (iZ (mx (bz L) (pv 1) (pv 0))) dh aI)),?_];let G:=f6 (t:=t) J;rw[I]at G;show#[0,0,a,0,G,0,b9 k]
theorem JE:aE ["held","total"] ["held","total"] (aw tK):=L2.bN
theorem CG(F:cE K "refuse_above" "refuse_above" tK f fd):↥aV 1 f fd ["held","total"] nX:=by
 show F.dS JE (λI A outer s H vs Q E J h=>?_);let#[h,t,rfl,G,k]:=h;show#[_,(ao (aU (aD iL (pv 0) (pv 1) (aG _)) dh aI)),?_];show#[0,0,_,0,rfl,0,?_];show gM (λc=>absurd (of_decide_eq_true c) G) (λc=>k)
theorem HI:aE ["self","table","pages","page","entry"] ["self","table","pages"] (aw rV):=L2.bN
theorem qP{c:CA}(F:cE K "leave_pages" "Rooms.leave_pages" rV f fd)(T:mY K mg c)(TT:Tb.Txt K mg c.T)(TP:rY K mg c.P)(GG:↥Md 3 c.T "get" (Tb.rT c.T))(GK:↥Md 1 c.T "clear" (Tb.tG c.T))(a5:↥Md 4 c.P "leave" (mZ c.P c.S)):↥aV 5 f fd ["self","table","pages"] (eU c):=by
 let#[aB,mB,sB]:=T.bl;let rB:RelV (.ref aB) (.ref aB):=rfl;show F.dS HI (λb0 A outer s H vs Q E hr h=>?_);let#[M,a,s',W,cv,t,x,lp,ps,rfl,R,ri,bK,Y,a0,bY,bm,bd,q]:=h;show#[_,(ao (dD Ol rfl (eQ (pv 2)) (gH 3 HI.nd) (aj (dt 4 HI.nd (pm (pv 1) TT.cl GG hr aC (aa (pv 3) ag)))
  (aj (aO (pm (pv 1) TT.cl GK hr aC (aa (pv 3) ag)))
  (ao (aU (aD (xE hr.lT) (pv 4) (bM (by rfl) mB rB) (aG _)) (ao (aO (pm (aL (pv 0) rfl) TP.cl a5 hr aC (aa (aY bf (pv 4) ak cz) ag)))) aI)))))),?_]
 let a7:¬ a.own W lp:=λz=>bY (R.dG lp z);show#[0,lp,rfl,#[_,bw.of a0],?_];show eV (K:=K) (a:=lp) (xs:=ps.map V.int) (λi σ H2=>Ep λ(v3 v4:Option V)(M2:Xm)(s2:Pg.PS)(y:TD)=>Na (σ=#v[.ref a.rp,.ref y.p,.ref lp,v3,v4]) (ax c H2 M2 a s2 (Tb.bg W t y)) (Pg.RI s2 (ents (Tb.bg W t y))) (Cv s2 (Tb.bg W t y) cv) ((∀q,Tb.look y.t q=if q∈ps.take i then none else Tb.look x.t q)) (Step H M (a.own W) H2 M2 (a.own (Tb.bg W t y))) (∀b,(s2.ow b).length=(s'.ow b).length))
  #[2,M,s',x,rfl,by rw[di R.nd Y];show R,by rw[di R.nd Y];show ri,by rw[di R.nd Y];show bK,λq=>by simp,by rw[di R.nd Y];show R.refl,λ_=>rfl] (λi σ H2 _ z0=>by let#[_,_,_,_,_,_,_,_,_,_,st,_]:=z0;show bw.of (st.off _ _ a0 a7)) ?_ ?_
 .rintro i u σ H2 hu ⟨v3,v4,M2,s2,y,rfl,R2,ap,am,ac,as,ah⟩;rw[t5]at hu;let#[p,hp,rfl]:=o8.mp hu;let bc:=z6 hp;let#[hi,b1]:=kQ.mp hp;let be:¬ p∈ps.take i:=λz=>by
   let#[j,hj,e]:=PD z;rw[Rv]at e;rw[Oj]at hj;show qr bm j i (vu af) hp af e
  let ab:=jC (y:=y) Y;obtain⟨e,he⟩:∃e,Tb.look y.t p=some e:=by
   rw[ac p,Xk be];cases z:Tb.look x.t p with
   |none=>show absurd z (bd p bc)
   |some e=>show#[e,rfl]
  let T2:=R2.tb _ (Tb.aA ab);let#[bb,ht]:=T2.at_.ob;show#[0,y.p,bb,0,ht,Tb.aW _ aq,0,y.p,y.fs,y.tb,p,rfl,T2.at_,λH3 v s3 I=>?_];rw[T2.lk,he]at I;let#[tt,rfl,aT]:=I;let R3:=R2.same s3;let T3:=R3.tb _ (Tb.aA ab);let#[a8,bv]:=T3.at_.ob;show#[0,y.p,a8,0,bv,Tb.aW _ aq,0,y.p,y.fs,y.tb,p,rfl,T3.at_,λH4 N T4 l4 _ o4 n4=>?_];let bI:dJ c.T H4 #[y.p,y.fs,N,Tb.bp y.t p]:=#[T4,Tb.qd T3.nd,λj=>by
   rw[l4 j,Tb.cB];cases z:j=p
   .rw[Xl z,Xl z];rfl
   .rw[Xk z,Xk z];show T3.lk j]
  let G:=R3.xB (y:=#[y.p,y.fs,N,Tb.bp y.t p]) ab rfl bI o4 n4;let S4:=as.trans ((R2.gv s3).trans (R3.tV (y:=#[y.p,y.fs,N,Tb.bp y.t p]) ab o4 n4));let pe:=zP (y:=#[y.p,y.fs,N,Tb.bp y.t p]) R2.nd ab T2.nd he rfl;rw[set_set]at G S4 pe;let U:=ap.perm pe;let a1:∀j,Tb.look (Tb.bp y.t p) j=if j∈ps.take (i+1)then none else Tb.look x.t j:=λj=>by
   rw[Tb.cB,ac j,Pq,hp];cases z:j=p
   .rw[Xl z,Xl (by rw[z];simp)]
   .rw[Xk z];cases O:j∈ps.take i
    .rw[Xl O,Xl (O8 _ O)]
    .rw[Xk O,Xk (by simp[z,O])]
  let a3:∀t' x',Tb.look (Tb.bg W t #[y.p,y.fs,N,Tb.bp y.t p]) t'=some x'->∃a4,Tb.look (Tb.bg W t y) t'=some a4/\∀q e,Tb.look x'.t q=some e->Tb.look a4.t q=some e:=by
   intro t' x' h';rw[Tb.bT t' Y]at h' ⊢;cases z:t'=t
   .rw[Xl z]at h' ⊢;cases h';show#[y,rfl,λq e J=>?_];let J:Tb.look (Tb.bp y.t p) q=some e:=J;rw[Tb.cB]at J;cases O:q=p
    .rw[Xl O]at J;cases J
    .rw[Xk O]at J;show J
   .rw[Xk z]at h' ⊢;show#[x',h',λ_ _ h=>h]
  let bn:¬ y.fK tt:=λz=>by
   let#[_,h]:=T3.at_.dK z;rwa[aT]at h
  let a2:=o4 _ _ aT bn;show#[0,tt,aB,_,0,rfl,bP.of a2,j7.sq (.inr sB),?_];cases e with
  |none =>
   show#[1,0,b9 ?_];show#[2,_,s2,#[y.p,y.fs,N,Tb.bp y.t p],rfl,G,U.bare,am.next Pg.aP.refl a3,a1,S4,ah]
  |some k =>
   show#[1,0,eS ?_];let#[bx,bi]:=G.ob;let#[a6,ba]:=G.pg.ob;let#[cs,cc,I]:=U.is k Oz;show#[0,a.rp,c.C,bx,_,0,bi,T.cl,T.nP,rM _ _ _,a.A.pg,a6,0,ba,dw _ _ aq aq aq aq aq,0,tt,_,(1),0,rfl,bP.of a2,4,a.A,s2,k,cs,cc,rfl,G.pg,G.ok,G.mt,U.good,I,λH5 s5 le G5 O5=>?_];let L:=Pg.yA U.good I le;show#[2,_,s5,#[y.p,y.fs,N,Tb.bp y.t p],rfl,G.lU G5 O5 L.ln,U.leave I le,am.next (U.vZ I le) a3,a1,S4.trans (G.K6 G5 O5),λb=>(L.ln b).trans (ah b)]
 .rintro σ H2 ⟨v3,v4,M2,s2,y,rfl,R2,ap,am,ac,as,ah⟩;rw[mu,Pt]at ac;show q H2 M2 s2 y R2 ap am ac as ah
theorem C1:aE ["self","task","page","many","table"] ["self","task","page","many"] (aw sC):=L2.bN
theorem Ft{c:CA}(F:cE K "drop" "Rooms.drop" sC f fd)(T:mY K mg c)(TT:Tb.Txt K mg c.T)(GR:↥Df 1 "room_of" dn)(GD:↥Df 2 "pages_to_drop" Rm.oH)(aB:↥Md 1 c.T "pages" (Tb.dH c.T))(ac:↥Md 5 c.C "leave_pages" (eU c)):↥aV 6 f fd ["self","task","page","many"] (wc c):=by
 show F.dS C1 (λa6 A outer s H vs Q E I h=>?_);let#[M,a,s',W,cv,t,p,m,x,rfl,R,ri,a2,J,G,N,q]:=h;let#[dx,O]:=R.ob;let L:=R.tb _ (Tb.aA J);let#[a3,ht]:=L.at_.ob;let b1:¬ m<1:=λz=>G (.inl z);let b2:¬ p<0:=λz=>G (.inr (.inl z));let b3:¬ 64<p+m:=λz=>G (.inr (.inr z));show#[_,(aj (dt 4 C1.nd (pc GR I aC (aa (aL (pv 0) rfl) (aa (pv 1) ag))))
  (ao (aO (pm (pv 0) T.cl ac I aC (aa (pv 4) (aa (pc GD I aC (aa (pJ (pv 4) TT.cl aB I aC) (aa (pv 2) (aa (pv 3) ag)))) ag)))))),?_]
 show#[0,a.rp,c.C,dx,_,0,O,T.cl,T.nR,cX _ _ _,0,a.rd,W,t,x,rfl,R.hd,J,?_];show#[0,a.rp,dx,0,O,gc _ _ _ aq aq aq,0,0,x.p,a3,0,ht,Tb.aW _ aq,x.p,x.fs,x.tb,rfl,L.at_,λH1 l1 ns U a5 ah pm a7=>?_];show#[0,0,l1,ns,p,m,rfl,ah,G,λq Y=>(L.mem pm q).mpr (N q Y),λH2 l2 s2 am a1=>?_]
 .let S:=U.trans s2;show#[M,a,s',W,cv,t,x,l2,Rm.aM p m,rfl,R.same S,ri,a2,J,a1,λz=>R.mt _ z (U.free am),?_,N,λH3 M3 s3 y R3 a4 as ab aT ap=>q H3 M3 s3 y R3 a4 as ab ((R.gv S).trans aT) ap];unfold Rm.aM;show QX.mpr (VO.imp ?_);intro i j a0 e;show a0 af
theorem Fg:aE ["self","task","table"] ["self","task"] (aw nN):=L2.bN
theorem zr{c:CA}(F:cE K "close" "Rooms.close" nN f fd)(T:mY K mg c)(TT:Tb.Txt K mg c.T)(GR:↥Df 1 "room_of" dn)(a0:↥Md 1 c.T "pages" (Tb.dH c.T))(ah:↥Md 5 c.C "leave_pages" (eU c)):↥aV 6 f fd ["self","task"] (pK c):=by
 show F.dS Fg (λa6 A outer s H vs Q E U h=>?_);let#[M,a,s',W,cv,t,x,rfl,R,ri,a3,G,q]:=h;let#[dx,ho]:=R.ob;let J:=R.tb _ (Tb.aA G);let#[a4,ht]:=J.at_.ob;show#[_,(aj (dt 2 Fg.nd (pc GR U aC (aa (aL (pv 0) rfl) (aa (pv 1) ag))))
  (aj (aO (pm (pv 0) T.cl ah U aC (aa (pv 2) (aa (pJ (pv 2) TT.cl a0 U aC) ag))))
  (ao (aO (fN (aL (pv 0) rfl) (pv 1) #[1,1]))))),?_]
 show#[0,a.rp,c.C,dx,_,0,ho,T.cl,T.nR,cX _ _ _,0,a.rd,W,t,x,rfl,R.hd,G,?_];show#[0,a.rp,dx,0,ho,gc _ _ _ aq aq aq,0,0,x.p,a4,0,ht,Tb.aW _ aq,x.p,x.fs,x.tb,rfl,J.at_,λH1 l1 ns s1 aB am pm a7=>?_];show#[M,a,s',W,cv,t,x,l1,ns,rfl,R.same s1,ri,a3,G,am,λz=>R.mt _ z aB,pm.nodup_iff.mpr (Tb.kr J.at_),λq hq=>(J.mem pm q).mp hq,λH3 M3 s3 y I a5 aT ac a1 ap=>?_];let as:=jC (y:=y) G;let ey:y.t=[]:=by
  cases e:y.t with
  |nil=>rfl
  |cons z r =>
   exfalso;let h1:=ac z.1;rw[e,Tb.aR,Xl rfl]at h1;cases S:z.1∈ns
   .rw[Xl S]at h1;cases h1
   .rw[Xk S]at h1;show S ((J.mem pm z.1).mpr (by rw[<-h1];simp))
 let#[ab,a2]:=I.ob;show#[0,a.rp,c.C,ab,_,0,a2,T.cl,T.nR,cX _ _ _,a.rd,rfl,.inl #[_,.inl I.hd],0,_,vr t,fR y,I.hd,rfl,by rw[Tb.dg,as];rfl,?_];let Y:=I.Jg t;rw[Tb.fM];rw[Tb.yD]at Y ⊢;let L:=jd (y:=y) R.nd G;rw[ey]at L;let L:(ents (Tb.bg W t y)).Perm (ents (Tb.bp W t)):=L;show q _ M3 s3 Y (a5.perm L) (aT.next Pg.aP.refl λt' N h'=>?_) (((R.gv s1).trans a1).trans ?_) ap
 .rw[Tb.cB]at h';cases z:t'=t
  .rw[Xl z]at h';cases h'
  .rw[Xk z]at h';show#[N,by rw[Tb.bT t' G,Xk z];show h',λ_ _ h=>h]
 .show#[Off.wr (.inr (.inl rfl)),λ_ h _=>h,λ_ h=>.inl h,λb z=>.inl ?_,I.mt,I.dG];rcases z with z|z|⟨N,O,z⟩
  .show .inl z
  .show .inr (.inl z)
  .let#[O,ne]:=Tb.cw O;show .inr (.inr #[N,?_,z]);unfold Tb.bg;show qj.mpr #[N,O,by rw[Xk ne]]
theorem JT:aE ["self","task"] ["self","task"] (aw nJ):=L2.bN
theorem zD{f Y:Addr}{fd U:p4}{c:CA}(F:cE K "begin" "Rooms.begin" nJ f fd)(T:mY K mg c)(MK:Mk K c.T Y)(ah:mg "Table" = some (.ref c.T))(GS:↥Df 1 "refuse_second_room" iR)(GI:↥aV 1 Y U ["self"] (Tb.jj c.T))(bI:Binds K U ["self"] []):↥aV 3 f fd ["self","task"] (oQ c):=by
 show F.dS JT (λaB A outer s H vs Q E O h=>?_);let#[M,a,s',W,t,rfl,R,J,hl,q]:=h;let#[dx,ho]:=R.ob;let hs:=vl;show#[_,(aj (aO (pc GS O aC (aa (aL (pv 0) rfl) (aa (pv 1) ag))))
  (ao (kA (bz O) (aL (pv 0) rfl) (pv 1) (vy MK GI (O.mono ar) (by rfl) ah bI .nil aC) rfl))),?_]
 show#[0,a.rp,c.C,dx,_,0,ho,T.cl,T.nR,cX _ _ _,0,a.rd,W,t,rfl,R.hd,J,?_];show λp ac np S as=>#[p,ac,rfl,ae,λfs H1 ab T1 off=>#[5]];let L:aP H H1:=λb u e=>off b u (by rw[ai (au e np),ai (au e S)];show e) (au e np);let I:H fs=none:=by
  cases e:H fs with
  |none=>rfl
  |some u=>rwa[ai (au e np),ai (au e S),e]at ab
 let N:=R.Ek (H':=H1) (B:=λ_=>False) (M':=λb=>M b\/b=fs) (λb o e _=>L b o e) (λb z=>z.elim) (λb z=>z.elim) (λb z=>z.elim .inl λz=>.inr (by rw[z];show I)) (λb z _=>.inl z) (λb z e=>z.elim (λz=>(R.same L).mt b z e) λz=>by rwa[z,T1.hf]at e)
 .let#[ap,am]:=N.ob;show#[0,a.rp,c.C,ap,_,0,am,T.cl,T.nR,cX _ _ _,0,a.rd,0,hU.k (k:=vr t) N.hd (by rw[Tb.cR];show jw hl),?_];rw[show(V.ref p)=fR #[p,fs,[],[]]from rfl,Tb.cV J];let TI:dJ c.T H1 #[p,fs,[],[]]:=#[T1,Qo,λq=>rfl];let dd:∀b,(TD.mk p fs [] []).fK b->b=fs:=λb z=>by
   rcases z with z|⟨_,hx,_⟩
   .show z
   .cases hx
  let R2:=N.Bm J TI (λb z=>#[.inr (dd b z),λy=>?_]) (λy=>?_)
  .show q _ _ #[p,fs,[],[]] rfl R2 #[?_,λb z _=>.inl z,λb z=>z.elim .inl λz=>.inr (by rw[z];show I),λb z=>?_,R.mt,R.dG]
   .intro b o e z;rw[ai (λy=>z (.inr (.inl y)))];show L _ _ e
   .rcases z with z|z|⟨x',G,z⟩
    .show .inl (.inl z)
    .show .inl (.inr (.inl z))
    .rcases oR.mp G with G|G
     .show .inl (.inr (.inr #[x',G,z]))
     .rw[nc.mp G]at z;rw[dd b z];show .inr I
  .rw[dd b z]at y;show R.mt _ (R.dG _ y) I
  .show R.mt _ (R.ok.own _ y) np
theorem xT:OD "sum" = some (.builtin "sum"):=aq
inductive jE(c:CA)(v:List V)(H:Hp)(Q:VK)(e3:XK):Prop
 |mk(M:Xm)(a:RA)(s:Pg.PS)(W:dq)(tt:Addr)(e:Pg.Ent)(cs:List Int)(_:v=[.ref a.rp,.ref tt])(_:ax c H M a s W)(_:Pg.Good s)(_:H tt=some (.tup (Af e)))(_:Pg.Au s e cs)(_:∀(H':Hp)(l:Addr),aP H H'->H l=none->H' l=some (.lst (cs.map V.int))->Q (.ref l) H')
inductive jo(c:CA)(v:List V)(H:Hp)(Q:VK)(e3:XK):Prop
 |mk(M:Xm)(a:RA)(s:Pg.PS)(W:dq)(tt ca:Addr)(e:Pg.Ent)(r:List Pg.Ent)(cs:List Int)(_:v=[.ref a.rp,.ref tt,.ref ca])(_:ax c H M a s W)(_:Pg.RI s (e::r))(_:H tt=some (.tup (Af e)))(_:H ca=some (.lst (cs.map V.int)))(_:¬ M ca)(_:cs.length=8)(_:∀(H':Hp)(s':Pg.PS)(k:Int),ax c H' M a s' W->Pg.RI s' (some k::r)->Pg.aP r s s'->Pg.Au s' (some k) cs->Step H M (a.own W) H' M (a.own W)->(∀b,(s'.ow b).length=(s.ow b).length)->Q (.int k) H')
def heldW(W:dq):Int:=(W.map λx=>(x.2.t.length:Int)).sum
theorem pM:∀W:dq,heldW W=((ents W).length:Int)
 | []=>rfl
 |x::W=>by
  let G:=pM W;unfold heldW at G ⊢;rw[PM,QA,G];change _=(((vX x.2.t++ents W).length:Nat):Int);rw[wh];unfold vX;rw[mu];omega
inductive gG(c:CA)(v:List V)(H:Hp)(Q:VK)(e:XK):Prop
 |mk(M:Xm)(a:RA)(s:Pg.PS)(W:dq)(_:v=[.ref a.rp])(_:ax c H M a s W)(_:W.length<=1000)(_:∀H',aP H H'->Q (.int (ents W).length) H')
def iM(cv:Xn)(t:Int)(ps:List Int):Int->Int->List Int:=λt' q=>if t'=t/\q∈ps then replicate 8 0 else cv t' q
inductive xm(c:CA)(v:List V)(H:Hp)(Q:VK)(e:XK):Prop
 |mk(M:Xm)(a:RA)(s:Pg.PS)(W:dq)(cv:Xn)(t p m:Int)(x:TD)(_:v=[.ref a.rp,.int t,.int p,.int m])(_:ax c H M a s W)(_:Pg.RI s (ents W))(_:Cv s W cv)(_:W.length<=1000)(_:Tb.look W t=some x)(_:¬ Rm.bq p m)(_:(∀q∈Rm.aM p m,Tb.look x.t q=none))(_:(ents W).length+m<=bL s)(_:∀(H':Hp)(M':Xm)(y:TD),ax c H' M' a s (Tb.bg W t y)->Pg.RI s (ents (Tb.bg W t y))->Cv s (Tb.bg W t y) (iM cv t (Rm.aM p m))->(∀q,Tb.look y.t q=if q∈Rm.aM p m then some none else Tb.look x.t q)->Step H M (a.own W) H' M' (a.own (Tb.bg W t y))->Q .non H')
theorem dJ.len{c:CA}{H:Hp}{x:TD}(T:dJ c.T H x){ns:List Int}(p:ns.Perm (Tb.gA x.tb)):ns.length=x.t.length:=by
 let h:ns.Perm (x.t.map (·.1)):=by
  rw[SJ (p.nodup_iff.mpr (Tb.kr T.at_)) T.nd];intro q;rw[T.mem p q];constructor
  .intro h;cases e:Tb.look x.t q with
   |none=>show absurd e h
   |some v=>show qj.mpr #[_,Tb.aA e,rfl]
  .intro h e;show Tb.cu e h
 rw[h.length_eq,mu]
theorem pI{p m:Int}(h:¬ Rm.bq p m):((Rm.aM p m).length:Int)=m:=by
 have:¬ m<1:=λz=>h (.inl z);unfold Rm.aM;rw[mu,O0];omega
theorem qT(p m:Int):(Rm.aM p m).Nodup:=by
 unfold Rm.aM;show QX.mpr (VO.imp ?_);intro i j G e;show G af
theorem Ak{cv:Xn}{t:Int}:iM cv t []=cv:=by
 funext t' q;unfold iM;rw[Xk (by simp)]
theorem vc{cv:Xn}{t t' q p:Int}{l:List Int}(h:¬ (t'=t/\q=p)):iM cv t (l++[p]) t' q=iM cv t l t' q:=by
 unfold iM;cases z:t'=t/\q∈l
 .rw[Xl z,Xl #[z.1,O8 _ z.2]]
 .rw[Xk z,Xk (λy=>by
   rcases oR.mp y.2 with w|w
   .show z #[y.1,w]
   .show h #[y.1,nc.mp w])]
theorem ME:aE ["self","entry"] ["self","entry"] (aw sP):=L2.bN
theorem wj{c:CA}(F:cE K "cells_of" "Rooms.cells_of" sP f fd)(T:mY K mg c)(TP:rY K mg c.P)(Jx:↥Md 4 c.P "cells" (nZ c.P c.S)):↥aV 5 f fd ["self","entry"] (jE c):=by
 let#[I,mB,sB]:=T.bl;let#[u8,m8,r8]:=T.pc;let rB:RelV (.ref I) (.ref I):=rfl;show F.dS ME (λah A outer s H vs Q E Y h=>?_);let#[M,a,s',W,tt,e,cs,rfl,R,gd,O,G,q]:=h;let hs:=vl;show#[_,(aj (aU (aD (Bg Y.lT) (pv 1) (bM (by rfl) mB rB) (aG _)) (ao (aK (az qe (bV (aa ak ag)) (bM (by rfl) m8 r8)))) aI)
  (ao (aK (pm (aL (pv 0) rfl) TP.cl Jx Y aC (aa (aY bf (pv 1) ak cz) ag))))),?_]
 show#[0,tt,I,_,0,rfl,bP.of O,j7.sq (.inr sB),?_];cases e with
 |none =>
  show#[1,0,eS ?_];show#[ar,λl1 ac=>?_];show#[l1,(8),0,rfl,ae,af,af,by rw[Po];show fit_le rfl,λl2 U=>?_];let N:=Tb.av (X:=.lst [V.int 0]) ac;let s2:=Tb.av (X:=.lst ((replicate (8:Int).toNat [V.int 0]).flatten)) U;let G:cs=replicate 8 0:=G;show q _ l2 (N.trans s2) (N.free U) ?_;rw[ae,G];rfl
 |some k =>
  show#[1,0,b9 ?_];let#[cc,J]:=G;let#[dx,ho]:=R.ob;let#[ab,h2]:=R.pg.ob;show#[0,a.rp,c.C,dx,_,0,ho,T.cl,T.nP,rM _ _ _,a.A.pg,ab,0,h2,dw _ _ aq aq aq aq aq,0,tt,_,(1),0,rfl,bP.of O,rfl,M,a.A,s',k,cs,cc,rfl,R.pg,J,?_,λl L=>q _ l (Tb.av L) L ae];have:=(gd.vw J).1;omega
theorem ML:aE ["self","entry","cells"] ["self","entry","cells"] (aw uj):=L2.bN
theorem tj{c:CA}(F:cE K "sheet_with" "Rooms.sheet_with" uj f fd)(T:mY K mg c)(TP:rY K mg c.P)(ap:↥Md 7 c.P "new_sheet" (iC K c.P c.S))(as:↥Md 8 c.P "change" (qt c.P c.S)):↥aV 9 f fd ["self","entry","cells"] (jo c):=by
 let#[U,mB,sB]:=T.bl;let rB:RelV (.ref U) (.ref U):=rfl;show F.dS ML (λa8 A outer s H vs Q E hr h=>?_);let#[M,a,s',W,tt,ca,e,r,cs,rfl,R,G,ht,ah,aT,L,q]:=h;let am:¬ a.A.own ca:=λz=>aT (R.ok.own _ z);let#[dx,ho]:=R.ob;let#[ab,h2]:=R.pg.ob;show#[_,(aj (aU (aD (Bg hr.lT) (pv 1) (bM (by rfl) mB rB) (aG _)) (ao (aK (pm (aL (pv 0) rfl) TP.cl ap hr aC (aa (pv 2) ag)))) aI)
  (ao (aK (pm (aL (pv 0) rfl) TP.cl as hr aC (aa (aY bf (pv 1) ak cz) (aa (pv 2) ag)))))),?_]
 show#[0,tt,U,_,0,rfl,bP.of ht,j7.sq (.inr sB),?_];cases e with
 |none =>
  show#[1,0,eS ?_];show#[0,a.rp,c.C,dx,_,0,ho,T.cl,T.nP,rM _ _ _,a.A.pg,ab,0,h2,dw _ _ aq aq aq aq aq,0,M,a.A,s',ca,cs,rfl,R.LG G,G.room,bw.of ah,λe=>am (by rw[e];show PA.gg 0 rfl),L,λH1 s1 N J I=>?_];let B:=Pg.mf G.good G.l0 L N;show q H1 s1 _ (R.lU J I B.kept.ln) (G.fill L N) (G.Aw L N) #[(1),B.vw] (R.K6 J I) B.kept.ln
 |some k =>
  show#[1,0,b9 ?_];let#[a0,c0,O]:=G.is k Oz;show#[0,a.rp,c.C,dx,_,0,ho,T.cl,T.nP,rM _ _ _,a.A.pg,ab,0,h2,dw _ _ aq aq aq aq aq,0,tt,_,(1),0,rfl,bP.of ht,rfl,0,M,a.A,s',k,ca,a0,c0,cs,rfl,R.LG G,O,ah,am,L,λz=>G.Lm O z,λz H1 s1 s2 N hl J I=>?_,λz H1 s1 m ac hm J I=>?_]
  .let#[a1,Y,a3,a4,a5,a6,a7]:=G.part O z L N hl;show q H1 s2 _ (R.lU J I a7) a1 Y a3 (R.K6 J I) a7
  .subst z;let#[a1,Y,a3]:=G.write O L ac hm;let FF:=Pg.rl G.good ac;show q H1 _ k (R.lU J I FF.kept.ln) a1 Y a3 (R.K6 J I) FF.kept.ln
theorem Nk:aE ["self"] ["self"] (aw yt):=L2.bN
theorem DZ{c:CA}(F:cE K "held" "Rooms.held" yt f fd)(T:mY K mg c)(TT:Tb.Txt K mg c.T)(aB:↥Md 1 c.T "pages" (Tb.dH c.T)):↥aV 2 f fd ["self"] (gG c):=by
 show F.dS Nk (λa1 A outer s H vs Q E hr h=>?_);let#[M,a,s',W,rfl,R,lw,k]:=h;let hs:=vl;let#[dx,h1]:=R.ob;show#[_,(ao (aK (aQ (pW rfl) (by rfl) T.sum xT (aa (yU (iE (cl:=[("self",s⁻¹+1)]) (caps:=[("self",0)]) #[rfl,aq,aq,rfl,by kernel_rfl,by intro p J;simp only[BY,DO,or_false]at J;rcases J with rfl<;>first|rfl|show#[rfl,.inl rfl,.inl rfl]|show#[rfl,.inl rfl,.inr rfl],by kernel_rfl,by intro p J;simp only[BY,DO,or_false]at J;rcases J with rfl<;>first|rfl|show#[rfl,.inl rfl,.inl rfl]|show#[rfl,.inl rfl,.inr rfl],aq] rfl (sE (aL (pv 0) rfl)) (λ_ _ _ _=>gB) (λ_ _ _ _=>(aQ (show eJ _ _ (yN K)from Ah) (by rfl) T.len boot_len (aa (pJ (bJ (bz hr) (show PE _ _ (EM K _ "rooms")from aL (pv 1) rfl) (pv 0) cz) TT.cl aB hr aC) ag))))) ag)))),?_];let U:∀(o:Obj) u',H a.rd≠some (.cW o u'):=λo u' z=>(by rwa[R.hd]at z);show#[0,a.rp,c.C,dx,_,0,h1,T.cl,T.nR,cX _ _ _,a.rd,0,R.hd,U,λo=>?_];let as:a.rp≠a.rd:=λz=>(by rwa[z,R.hd]at h1);let S:Off (· = a.rd) H (upd H a.rd (.cW o (.dK (Tb.dk fR W)))):=Off.wr rfl;let N:(upd H a.rd (.cW o (.dK (Tb.dk fR W)))) a.rd=some (.cW o (.dK (Tb.dk fR W))):=ae;let am:=S _ _ h1 as;let ap:∀x∈W,dJ c.T (upd H a.rd (.cW o (.dK (Tb.dk fR W)))) x.2:=λx I=>by
  let#[a2,h3]:=(R.tb x I).at_.ob;show(R.tb x I).off S (λz=>by rwa[z,R.hd]at h3) (λb z=>(R.dm x I b z).2.2) (λb xs e z=>by rwa[z,R.hd]at e)
 show xw (a:=a.rd) (o:=o) (kvs:=Tb.dk fR W) (λi ys H2=>ys=((W.take i).map λx=>(x.2.t.length:Int)).map V.int/\aP (upd H a.rd (.cW o (.dK (Tb.dk fR W)))) H2) #[rfl,λ_ _ e=>e] (λi zs H2 _ ⟨_,e⟩=>e _ _ N) ?_ ?_
 .rintro i kk v zs H2 hk ⟨rfl,G⟩;let ac:(W.map λx:Int×TD=>((vr x.1:Key),fR x.2))[i]?=some (kk,v):=hk;rw[t5]at ac;let#[x,I,e]:=o8.mp ac;cases e;let hm:=z6 I;let hi:i<W.length:=(kQ.mp I).1;let a0:Tb.look W x.1=some x.2:=Tb.bX R.nd hm;let hg:dY H2 a.rd (.int x.1) (some (fR x.2)):=.inl #[Tb.dk fR W,vr x.1,.inr #[o,G _ _ N],rfl,by rw[Tb.dg,a0];rfl];let TX:=ap x hm;let Y:=TX.at_.same G;let#[aT,ht]:=Y.ob;show#[0,a.rp,c.C,dx,_,0,G _ _ am,T.cl,T.nR,cX _ _ _,0,a.rd,fR x.2,rfl,hg,x.2.p,aT,0,ht,Tb.aW _ aq,x.2.p,x.2.fs,x.2.tb,rfl,Y,λH3 l ns s3 fl L pm a3=>?_];show#[l,0,.inl (bw.of L),3,G.trans s3]
  .rw[mu,mu,Oj];omega
  .rw[mu,TX.len pm,Pq,I,L0,L0];rfl
 .rintro zs H2 ⟨rfl,G⟩ l L;let ah:=G _ _ N;let ab:l≠a.rd:=λz=>(by rwa[z,ah]at L);show#[a.rd,o,Tb.dk fR W,by rw[ai (qs ab)];show ah,U,l,(W.map λx=>(x.2.t.length:Int)),rfl,bw.of ?_,?_]
  .rw[ai ab,ae,Tb.cR,Pt]
  .let e9:=pM W;unfold heldW at e9;rw[e9];show k _ λb u e=>?_;cases z:b=a.rd
   .rw[z,ae, <-e,z,R.hd]
   .let O:H2 b=some u:=G _ _ (S _ _ e z);rw[ai z,ai (λy=>by rwa[y,L]at O)];show O
theorem qK:aE ["self","task","page","many","table","pages","wanted"] ["self","task","page","many"] (aw zg):=L2.bN
theorem EJ{c:CA}(F:cE K "map" "Rooms.map" zg f fd)(T:mY K mg c)(TT:Tb.Txt K mg c.T)(GR:↥Df 1 "room_of" dn)(GM:↥Df 2 "pages_to_map" Rm.mX)(GA:↥Df 1 "refuse_above" nX)(bb:↥Md 1 c.T "pages" (Tb.dH c.T))(GH:↥Md 2 c.C "held" (gG c))(GL:↥Md 3 c.T "lay" (Tb.uR K c.T)):↥aV 4 f fd ["self","task","page","many"] (xm c):=by
 let#[aB,mB,sB]:=T.bl;let rB:RelV (.ref aB) (.ref aB):=rfl;show F.dS qK (λb6 A outer s H vs Q E U h=>?_);let#[M,a,s',W,cv,t,p,m,x,rfl,R,ri,b4,lw,I,O,a2,a3,q]:=h;let#[dx,ho]:=R.ob;let TX:=R.tb _ (Tb.aA I);let#[bd,ht]:=TX.at_.ob;let b1:¬ m<1:=λz=>O (.inl z);let b2:¬ p<0:=λz=>O (.inr (.inl z));let b3:¬ 64<p+m:=λz=>O (.inr (.inr z));let pl:=pI O;show#[_,(aj (dt 4 qK.nd (pc GR U aC (aa (aL (pv 0) rfl) (aa (pv 1) ag))))
  (aj (dt 5 qK.nd (pc GM U aC (aa (pJ (pv 4) TT.cl bb U aC) (aa (pv 2) (aa (pv 3) ag)))))
  (aj (aO (pc GA U aC (aa (az bu (pJ (pv 0) T.cl GH U aC) (aQ bF (by rfl) T.len boot_len (aa (pv 5) ag))) (aa (aL (pv 0) rfl) ag))))
  (ao (dD Ol rfl (eQ (pv 5)) (gH 6 qK.nd) (ao (aO (pm (pv 4) TT.cl GL U aC (aa (pv 6) (aa (bM (by rfl) mB rB) ag)))))))))),?_]
 show#[0,a.rp,c.C,dx,_,0,ho,T.cl,T.nR,cX _ _ _,0,a.rd,W,t,x,rfl,R.hd,I,?_];show#[0,x.p,bd,0,ht,Tb.aW _ aq,x.p,x.fs,x.tb,rfl,TX.at_,λH1 l1 ns s1 b5 bv pm b7=>?_];show#[0,0,l1,ns,p,m,rfl,bv,O,λz h1 h2=>absurd (a2 z h1) ((TX.mem pm z).mp h2),λH2 N s2 bI bc=>?_];let S2:=s1.trans s2;let R2:=R.same S2;let#[a5,a8]:=R2.ob;show#[0,a.rp,a5,0,a8,gc _ _ _ aq aq aq,M,a,s',W,rfl,R2,lw,λH3 s3=>?_];let a1:=s3 _ _ bc;let R3:=R2.same s3;let#[a6,b0]:=R3.ob;show#[0,N,0,.inl (bw.of a1),_,0,rfl,0,a.rp,c.C,a6,_,0,b0,T.cl,T.nT,FP _ _ _,_,0,3]
 .rw[mu,pl];show VP a3
 let S3:=S2.trans s3;let bY:¬ M N:=λz=>R.mt _ z (s1.free bI);let ba:¬ a.own W N:=λz=>bY (R.dG N z);show#[0,N,rfl,#[_,bw.of a1],?_];show eV (K:=K) (a:=N) (xs:=(Rm.aM p m).map V.int) (λi σ H4=>KU λ(v6:Option V)(M4:Xm)(y:TD)=>Na (σ=#v[.ref a.rp,.int t,.int p,.int m,.ref y.p,.ref N,v6]) (ax c H4 M4 a s' (Tb.bg W t y)) (Pg.RI s' (ents (Tb.bg W t y))) ((ents (Tb.bg W t y)).length=(ents W).length+i) (Cv s' (Tb.bg W t y) (iM cv t ((Rm.aM p m).take i))) ((∀q,Tb.look y.t q=if q∈(Rm.aM p m).take i then some none else Tb.look x.t q)) (Step H3 M (a.own W) H4 M4 (a.own (Tb.bg W t y))))
  #[_,M,x,rfl,by rw[di R.nd I];show R3,by rw[di R.nd I];show ri,by rw[di R.nd I];rfl,by rw[di R.nd I,UP,Ak];show b4,λq=>by simp,by rw[di R.nd I];show R3.refl] (λi σ H4 _ z0=>by let#[_,_,_,_,_,_,_,_,_,st]:=z0;show bw.of (st.off _ _ a1 ba)) ?_ ?_
 .rintro i u σ H4 hu ⟨v6,M4,y,rfl,Y,a0,as,am,ac,aT⟩;rw[t5]at hu;let#[G,hp,rfl]:=o8.mp hu;let a4:=z6 hp;let#[hi,b8]:=kQ.mp hp;let bm:¬ G∈(Rm.aM p m).take i:=λz=>by
   let#[j,hj,e]:=PD z;rw[Rv]at e;rw[Oj]at hj;show qr (qT p m) j i (vu af) hp af e
  let ap:=jC (y:=y) I;let T4:=Y.tb _ (Tb.aA ap);let#[be,bi]:=T4.at_.ob;let bn:Tb.look y.t G=none:=(by rw[ac,Xk bm];show a2 G a4);let#[r1,r2,_]:=Rm.jI O G a4;show#[0,y.p,be,0,bi,Tb.aW _ aq,0,y.p,y.fs,aB,y.tb,G,[.str "blank"],rfl,T4.at_,r1,r2,.inr sB,rfl,λH5 ab T5 l5 o5 n5=>?_];let bx:dJ c.T H5 #[y.p,y.fs,ab,(G,none)::y.t]:=#[T5,Ov.mpr #[Tb.cu bn,T4.nd],λj=>by
   rw[l5 j,Tb.aR];cases z:j=G
   .rw[Xl z,Xl z.symm];rfl
   .rw[Xk z,Xk (qs z)];show T4.lk j]
  let R5:=Y.xB (y:=#[y.p,y.fs,ab,(G,none)::y.t]) ap rfl bx o5 n5;let S5:=aT.trans (Y.tV (y:=#[y.p,y.fs,ab,(G,none)::y.t]) ap o5 n5);let pe:(ents (Tb.bg W t #[y.p,y.fs,ab,(G,none)::y.t])).Perm (none::ents (Tb.bg W t y)):=(jd R.nd I).trans ((jd (y:=y) R.nd I).symm.cons none);rw[set_set]at R5 S5;let a7:(ents (Tb.bg W t y)).length<(s'.ow true).length+(s'.ow false).length:=by
   rw[as];unfold bL at a3;omega
  show#[2,#[y.p,y.fs,ab,(G,none)::y.t],rfl,R5,(a0.lay a7).perm pe.symm,by rw[pe.length_eq,K4,as];omega,3,S5]
  .intro S bK ah q e L;rw[Tb.bT S I]at ah;rw[Pq,hp];cases z:S=t
   .rw[Xl z]at ah;cases ah;let L:Tb.look ((G,none)::y.t) q=some e:=L;rw[Tb.aR]at L;cases J:G=q
    .rw[Xl J]at L;cases L;change iM cv t _ S q=_;unfold iM;rw[Xl #[z,by rw[<-J];simp]]
    .rw[Xk J]at L;rw[show(some G).toList=[G]from rfl,vc (λh=>J h.2.symm)];show am S y (by rw[z];show ap) q e L
   .rw[Xk z]at ah;rw[show(some G).toList=[G]from rfl,vc (λh=>z h.1)];show am S bK (by rw[Tb.bT S I,Xk z];show ah) q e L
  .intro j;change Tb.look ((G,none)::y.t) j=_;rw[Tb.aR,ac j,Pq,hp];cases z:G=j
   .rw[Xl z,Xl (by rw[<-z];simp)]
   .rw[Xk z];cases J:j∈(Rm.aM p m).take i
    .rw[Xl J,Xl (O8 _ J)]
    .rw[Xk J,Xk (by simp[qs z,J])]
 .rintro σ H4 ⟨v6,M4,y,rfl,Y,a0,as,am,ac,aT⟩;rw[mu,Pt]at am ac;show q H4 M4 y Y a0 am ac ((R.gv S3).trans aT)
end St
namespace Rm
theorem iH{ad n:Int}{G:List Int}(h:¬ cD ad n G):(ay ad n).length<=64/\∀q∈ay ad n,q∈G:=by
 unfold ay;cases e:n=0
 .rw[Xl e];show#[OB _,λ_ h=>nomatch h]
 .rw[Xk e];let I:0<n:=by
   have:¬ n<0:=λz=>h (.inl z);omega
  let h1:¬ bq (dX ad) (dW ad n):=λz=>h (.inr #[I,.inl z]);let h2:∀q∈aM (dX ad) (dW ad n),q∈G:=PL λz=>h (.inr #[I,.inr z]);show#[?_,h2];unfold aM;rw[mu,O0];let J:¬ dX ad<0:=λz=>h1 (.inr (.inl z));let L:¬ 64<dX ad+dW ad n:=λz=>h1 (.inr (.inr z));omega
theorem zm{ad n:Int}{J I:List Int}(h:∀q,q∈J->q∈I)(G:cD ad n I):cD ad n J:=by
 rcases G with G|⟨h1,h2⟩
 .show .inl G
 .show .inr #[h1,h2.imp id λz y=>z λq L=>h q (y q L)]
end Rm
namespace St
open PySem L2
def cf(f:Xs)(ps:List Int):List Int:=(ps.map f).flatten
theorem gi{f:Xs}{ps:List Int}{i:Nat}{q:Int}(h:ps[i]?=some q):cf f (ps.take (i+1))=cf f (ps.take i)++f q:=by
 unfold cf;rw[Pq,h,L0,List.flatten_append];simp
theorem Au.len{s:Pg.PS}{e:Pg.Ent}{cs:List Int}(G:Pg.Good s)(h:Pg.Au s e cs):cs.length=8:=by
 cases e with
 |none=>rw[show cs=replicate 8 0 from h];simp
 |some k=>let#[c,h]:=h;show(G.vw h).2
inductive sv(c:CA)(v:List V)(H:Hp)(Q:VK)(e:XK):Prop
 |mk(M:Xm)(a:RA)(s:Pg.PS)(W:dq)(cv:Xn)(t ad:Int)(n:Nat)(x:TD)(_:v=[.ref a.rp,.int t,.int ad,.int n])(_:ax c H M a s W)(_:Pg.RI s (ents W))(_:Cv s W cv)(_:Tb.look W t=some x)(_:n<=600)(_ : -1000<=ad)(_:ad<=1000)(_:¬ Rm.cD ad n (x.t.map (·.1)))(_:∀(H':Hp)(M':Xm)(s':Pg.PS)(l:Addr),ax c H' M' a s' W->Pg.RI s' (ents W)->Cv s' W cv->Step H M (a.own W) H' M' (a.own W)->(∀b,(s'.ow b).length=(s.ow b).length)->H l=none->H' l=some (.lst ((((cf (cv t) (Rm.ay ad n)).drop (ad%8).toNat).take n).map V.int))->(∀o,ax c (upd H' l o) M' a s' W/\Step H M (a.own W) (upd H' l o) M' (a.own W))->Q (.ref l) H')
section
variable{c:CA}{H H':Hp}{M M' B:Xm}{a:RA}{s s':Pg.PS}{W:dq}{t:Int}{x y:TD}
theorem nameQ{i:Nat}{v:V}{σ:L2.St}{H:Hp}{Q:L2.St->Hp->Prop}(h:Q (σ.set i (some v)) H):mH i v σ H Q:=h
theorem ax.NT(R:ax c H M a s W){l:Addr}{xs ys:List V}(I:H l=some (.lst xs))(G:M l)(no:¬ a.own W l):ax c (upd H l (.lst ys)) M a s W :=
 R.Ek (B:=(· = l)) (Off.wr rfl) (λb z=>by rw[z];show#[G,no]) (λb z=>.inl #[xs,by rw[z];show I]) (λb z=>.inl z) (λb z _=>z) (λb z e=>by
  cases q:b=l
  .rw[q,ae]at e;cases e
  .rw[ai q]at e;show R.mt b z e)
theorem ax.JJ(R:ax c H M a s W){l:Addr}{o:HO}(G:H l=none):ax c (upd H l o) (λb=>M b\/b=l) a s W :=
 R.Ek (B:=λ_=>False) (λb u e _=>dy G b u e id) (λb z=>z.elim) (λb z=>z.elim) (λb z=>z.elim .inl λz=>.inr (by rw[z];show G)) (λb z _=>.inl z) (λb z e=>by
  cases q:b=l
  .rw[q,ae]at e;cases e
  .rw[ai q]at e;show z.elim (λz=>R.mt b z e) q)
theorem dJ.keys(T:dJ c.T H x)(q:Int):q∈x.t.map (·.1)↔Tb.look x.t q≠none:=by
 constructor
 .intro h e;show Tb.cu e h
 .intro h;cases e:Tb.look x.t q with
  |none=>show absurd e h
  |some v=>show qj.mpr #[_,Tb.aA e,rfl]
theorem tO:aE ["self","task","address","many","table","whole","page","entry"] ["self","task","address","many"] (aw tf):=L2.bN
theorem Cd{c:CA}(F:cE K "peek" "Rooms.peek" tf f fd)(T:mY K mg c)(TT:Tb.Txt K mg c.T)(TP:rY K mg c.P)(GR:↥Df 1 "room_of" dn)(GO:↥Df 2 "pages_of_cells" Rm.jy)(b2:↥Df 1 "run_within" Rm.oK)(bK:↥Md 1 c.T "pages" (Tb.dH c.T))(GG:↥Md 3 c.T "get" (Tb.rT c.T))(bd:↥Md 7 c.P "fetch" (nK c.P c.S))(bI:↥Md 5 c.C "cells_of" (jE c)):↥aV 8 f fd ["self","task","address","many"] (sv c):=by
 let#[aB,mB,sB]:=T.bl;let rB:RelV (.ref aB) (.ref aB):=rfl;show F.dS tO (λcq A outer s H vs Q E O h=>?_);let#[M,a,s',W,cv,t,ad,n,x,rfl,R,ri,b6,hx,n6,ci,ch,hb,q]:=h;let hs:=vl;let#[dx,ho]:=R.ob;let TX:=R.tb _ (Tb.aA hx);let#[c1,c2]:=Rm.iH hb;show#[_,(aj (dt 4 tO.nd (pc GR O aC (aa (aL (pv 0) rfl) (aa (pv 1) ag))))
  (aj (dt 5 tO.nd (bV ag))
  (aj (dD Ol rfl (eQ (pc GO O aC (aa (pJ (pv 4) TT.cl bK O aC) (aa (pv 2) (aa (pv 3) ag))))) (gH 6 tO.nd) (aj (dt 7 tO.nd (pm (pv 4) TT.cl GG O aC (aa (pv 6) ag)))
  (aj (aU (aD (xE O.lT) (pv 7) (bM (by rfl) mB rB) (aG _)) (ao (aO (pm (aL (pv 0) rfl) TP.cl bd O aC (aa (aY bf (pv 7) ak cz) ag)))) aI)
  (ao (aO (gq OM Qy TU rC (pv 5) (aa (pm (pv 0) T.cl bI O aC (aa (pv 7) ag)) ag)))))))
  (ao (aK (pc b2 O aC (aa (pv 5) (aa (pv 2) (aa (pv 3) ag))))))))),?_]
 show#[0,a.rp,c.C,dx,_,0,ho,T.cl,T.nR,cX _ _ _,0,a.rd,W,t,x,rfl,R.hd,hx,?_];show#[ar,λG N=>?_];let R1:=R.JJ (o:=.lst []) N;let s1:aP H (upd H G (.lst [])):=Tb.av N;let a6:upd H G (.lst []) G=some (.lst []):=ae;generalize upd H G (.lst [])=H1 at *;let ba:¬ a.own W G:=λz=>R.mt _ (R.dG _ z) N;let a4:=R1.tb _ (Tb.aA hx);let#[bY,ht]:=a4.at_.ob;show#[0,x.p,bY,0,ht,Tb.aW _ aq,x.p,x.fs,x.tb,rfl,a4.at_,λH2 l2 ns s2 cr b3 pm cp=>?_];let bi:∀{z},z∈x.t.map (·.1)->z∈ns:=λ{z} h=>(TX.mem pm z).mpr ((TX.keys z).mp h);show#[0,0,l2,ns,ad,n,rfl,b3,λh=>hb (Rm.zm (λz hz=>bi hz) h),λH3 l3 s3 bc a5=>?_];let S3:=s2.trans s3;let R3:=R1.same S3;let b0:=S3 _ _ a6;let a0:H1 l3=none:=s2.free bc;let bx:¬ a.own W l3:=λz=>R1.mt _ (R1.dG _ z) a0;let b7:l3≠G:=λz=>(by rwa[z,a6]at a0);show#[l3,rfl,#[_,bw.of a5],?_];show eV (K:=K) (a:=l3) (xs:=(Rm.ay ad n).map V.int) (λi σ H4=>KU λ(v6 v7:Option V)(s4:Pg.PS)=>LA (σ=#v[.ref a.rp,.int t,.int ad,.int n,.ref x.p,.ref G,v6,v7]) (ax c H4 (λb=>M b\/b=G) a s4 W) (Pg.RI s4 (ents W)) (Cv s4 W cv) (H4 G=some (.lst ((cf (cv t) ((Rm.ay ad n).take i)).map V.int))) ((cf (cv t) ((Rm.ay ad n).take i)).length=8*i) (Off (λb=>a.own W b\/b=G) H3 H4) (∀b,(s4.ow b).length=(s'.ow b).length))
  #[2,s',rfl,R3,ri,b6,b0,rfl,λ_ _ e _=>e,λ_=>rfl] (λi σ H4 _ z0=>by let#[_,_,_,_,_,_,_,_,_,J,_]:=z0;show bw.of (J _ _ a5 λz=>z.elim bx b7)) ?_ ?_
 .rintro i u σ H4 hu ⟨v6,v7,s4,rfl,R4,U,ah,ac,b8,J,am⟩;rw[t5]at hu;let#[p,hp,rfl]:=o8.mp hu;let bv:=z6 hp;let#[hi,cm]:=kQ.mp hp;let T4:=R4.tb _ (Tb.aA hx);let#[ca,b4]:=T4.at_.ob;obtain⟨e,he⟩:∃e,Tb.look x.t p=some e:=by
   cases z:Tb.look x.t p with
   |none=>show absurd z ((TX.keys p).mp (c2 p bv))
   |some e=>show#[e,rfl]
  show#[0,x.p,ca,0,b4,Tb.aW _ aq,0,x.p,x.fs,x.tb,p,rfl,T4.at_,λH5 v L hv=>?_];rw[T4.lk,he]at hv;let#[tt,rfl,ab]:=hv;let Y:=R4.same L;let a7:=L _ _ ac;show nameQ ?_;dsimp only;show share (λσ H6=>∃I:Pg.PS,LA (σ=#v[.ref a.rp,.int t,.int ad,.int n,.ref x.p,.ref G,.int p,.ref tt]) (ax c H6 (λb=>M b\/b=G) a I W) (Pg.RI I (ents W)) (Cv I W cv) (H6 tt=some (.tup (Af e))) (H6 G=some (.lst ((cf (cv t) ((Rm.ay ad n).take i)).map V.int))) (Off (λb=>a.own W b\/b=G) H3 H6) (∀b,(I.ow b).length=(s'.ow b).length)) (λu' bb=>?A) ?B
  case A =>
   show#[0,tt,aB,_,0,rfl,bP.of ab,j7.sq (.inr sB),?_];cases e with
   |none =>
    show#[1,0,b9 ?_];show bb _ _ #[s4,rfl,Y,U,ah,ab,a7,λb o e z=>L _ _ (J b o e z),am]
   |some k =>
    show#[1,0,eS ?_];let#[be,b1]:=Y.ob;let#[aT,b5]:=Y.pg.ob;let#[cs,cc,hv]:=U.is k (pP hx he);show#[0,a.rp,c.C,be,_,0,b1,T.cl,T.nP,rM _ _ _,a.A.pg,aT,0,b5,dw _ _ aq aq aq aq aq,0,tt,_,(1),0,rfl,bP.of ab,4,a.A,s4,k,cs,cc,rfl,Y.LG U,hv,λH6 I fe G6 O6=>?_];let FF:=Pg.rl U.good fe;show bb _ _ #[I,rfl,Y.lU G6 O6 FF.kept.ln,U.Gb fe,ah.keep (Pg.wx U.good fe),O6 _ _ ab (Y.pg.lu _ _ ab),O6 _ _ a7 (λz=>ba (.inl z)),λb o e z=>O6 _ _ (L _ _ (J b o e z)) (λy=>z (.inl (.inl y))),λb=>(FF.kept.ln b).trans (am b)]
  case B =>
   rintro σ H6 ⟨I,rfl,R6,as,a2,ce,a8,o6,bm⟩;let#[aT,cg]:=R6.ob;let a3:=a2 t x hx p e he;let c8:=Au.len as.good a3;show#[0,.inl #[4,bw.of a8],0,a.rp,aT,0,cg,gc _ _ _ aq aq aq,0,_,a,I,W,tt,e,cv t p,rfl,R6,as.good,ce,a3,λH7 l7 s7 f7 h7=>?_];let R7:=R6.same s7;let a1:=s7 _ _ a8;show#[G,l7,_,0,rfl,a1,h7,by rw[mu,mu];omega,?_];rw[<-L0, <-gi hp];show#[2,I,rfl,R7.NT a1 (.inr rfl) ba,as,a2,ae,by rw[gi hp,wh];omega,λb o e z=>by rw[ai (λy=>z (.inr y))];show s7 _ _ (o6 b o e z),bm]
 .rintro σ H4 ⟨v6,v7,s4,rfl,R4,U,ah,ac,b8,J,am⟩;rw[mu,Pt]at ac;show#[0,0,0,G,_,ad,n,rfl,ac,λH5 l5 L ap bn=>?_];let Y:=R4.same L;let oA:Off (a.own W) H H5:=λb o e z=>L _ _ (J _ _ (S3 _ _ (s1 _ _ e)) λy=>y.elim z λy=>by rwa[y,N]at e);let so:∀o,aP H4 (upd H5 l5 o):=λo b u e=>(by rw[ai (au e ap)];show L _ _ e);let oB:∀{Hx},aP H4 Hx->Off (a.own W) H Hx:=λsx b o e z=>sx _ _ (J _ _ (S3 _ _ (s1 _ _ e)) λy=>y.elim z λy=>by rwa[y,N]at e);show q H5 _ s4 l5 Y U ah #[oA,λb z _=>.inl z,λb z=>z.elim .inl λz=>.inr (by rw[z];show N),λb z=>.inl z,R.mt,R.dG] am ?_ bn λo=>#[R4.same (so o),oB (so o),λb z _=>.inl z,λb z=>z.elim .inl λz=>.inr (by rw[z];show N),λb z=>.inl z,R.mt,R.dG];cases z:H l5 with
  |none=>rfl
  |some o =>
   exfalso;cases w:a.own W l5
   .show R4.mt _ (R4.dG _ w) ap
   .have:=J _ _ (S3 _ _ (s1 _ _ z)) λy=>y.elim w λy=>(by rwa[y,N]at z);rwa[ap]at this
end
end St
namespace Rm
theorem pH{ad:Int}{cs ws:List Int}{L:List Int}(h:¬ cD ad cs.length L)(G:ws.length=8*(ay ad cs.length).length):(fh ws (ad%8).toNat cs).length=8*(ay ad cs.length).length:=by
 unfold fh;rw[wh,wh,Oj,P1];cases e:((cs.length:Nat):Int)=0
 .have:ay ad cs.length=[]:=(by unfold ay;rw[Xl e]);rw[this]at G ⊢;let N:ws.length=0:=G;let O:cs.length=0:=af;rw[N,O];simp
 .let J:(ay ad cs.length).length=(dW ad cs.length).toNat:=by
   unfold ay;rw[Xk e];unfold aM;rw[mu,O0]
  let I:0<((cs.length:Nat):Int):=af;let h1:¬ bq (dX ad) (dW ad cs.length):=λz=>h (.inr #[I,.inl z]);let h2:¬ dW ad cs.length<1:=λz=>h1 (.inl z);rw[J]at G ⊢;unfold dW at *;omega
theorem Ic{k:Nat}{ws:List Int}(h:ws.length=8*k):∀I∈gQ k ws,I.length=8:=by
 intro I G;unfold gQ at G;let#[i,hi,rfl]:=qj.mp G;have:=OH.mp hi;rw[Oj,P1,h];omega
end Rm
namespace St
open PySem L2
def gR(cv:Xn)(t:Int)(l:List (Int×List Int)):Int->Int->List Int:=λt' q=>if t'=t then(Tb.look l q).getD (cv t' q)else cv t' q
theorem xI{cv:Xn}{t:Int}:gR cv t []=cv:=by
 funext t' q;unfold gR;cases z:t'=t
 .rw[Xl z];rfl
 .rw[Xk z]
theorem vq{cv:Xn}{t t' q:Int}{l:List (Int×List Int)}{p:Int}{r:List Int}:gR cv t ((p,r)::l) t' q=if t'=t/\q=p then r else gR cv t l t' q:=by
 unfold gR;cases z:t'=t
 .rw[Xl z,Xl z,Tb.aR];cases G:p=q
  .rw[Xl G,Xl #[z,G.symm]];rfl
  .rw[Xk G,Xk (λh=>G h.2.symm)]
 .rw[Xk z,Xk z,Xk (λh=>z h.1)]
def fX(f:Xs)(ad:Int)(cs:List Int):List (List Int):=Rm.gQ (Rm.ay ad cs.length).length (Rm.fh (cf f (Rm.ay ad cs.length)) (ad%8).toNat cs)
inductive tL(K:HC)(c:CA)(v:List V)(H:Hp)(Q:VK)(e:XK):Prop
 |mk(M:Xm)(a:RA)(s:Pg.PS)(W:dq)(cv:Xn)(t ad:Int)(ca:Addr)(cs:List Int)(x:TD)(_:v=[.ref a.rp,.int t,.int ad,.ref ca])(_:ax c H M a s W)(_:Pg.RI s (ents W))(_:Cv s W cv)(_:Tb.look W t=some x)(_:bw K H ca (cs.map V.int))(_:cs.length<=500)(_ : -1000<=ad)(_:ad<=1000)(_:¬ Rm.cD ad cs.length (x.t.map (·.1)))(_:∀(H':Hp)(M':Xm)(s':Pg.PS)(y:TD),ax c H' M' a s' (Tb.bg W t y)->Pg.RI s' (ents (Tb.bg W t y))->Cv s' (Tb.bg W t y) (gR cv t (((Rm.ay ad cs.length).zip (fX (cv t) ad cs)).reverse))->(∀q,¬ q∈Rm.ay ad cs.length->Tb.look y.t q=Tb.look x.t q)->(∀q∈Rm.ay ad cs.length,∃k,Tb.look y.t q=some (some k))->Step H M (a.own W) H' M' (a.own (Tb.bg W t y))->(∀b,(s'.ow b).length=(s.ow b).length)->Q .non H')
theorem kN(ad n:Int):(Rm.ay ad n).Nodup:=by
 unfold Rm.ay;cases e:n=0
 .rw[Xl e];show Qo
 .rw[Xk e];show qT _ _
theorem mL{α G:Type}{F:α->G->Prop}:∀{xs:List α}{ys:List G}{i:Nat}{x:α},Paired F xs ys->xs[i]?=some x->∃y,ys[i]?=some y/\F x y
 |_,_,_,_,.nil,e=>by simp at e
 |_,_,0,_,.cons r _,e=>by simp at e;subst e;show#[0,r]
 |_,_,i+1,x,.cons _ t,e=>by
  let#[u,h1,h2]:=mL (i:=i) (x:=x) t ‹e›;show#[u,by simpa using h1,h2]
theorem pR:aE ["self","task","address","cells","table","pages","whole","page","changed"] ["self","task","address","cells"] (aw ui):=L2.bN
theorem Ce{c:CA}(F:cE K "poke" "Rooms.poke" ui f fd)(T:mY K mg c)(TT:Tb.Txt K mg c.T)(GR:↥Df 1 "room_of" dn)(GO:↥Df 2 "pages_of_cells" Rm.jy)(dp:↥Df 1 "pages_with" (Rm.w6 K))(dO:↥Md 1 c.T "pages" (Tb.dH c.T))(GG:↥Md 3 c.T "get" (Tb.rT c.T))(GL:↥Md 3 c.T "lay" (Tb.uR K c.T))(c7:↥Md 5 c.C "cells_of" (jE c))(dm:↥Md 9 c.C "sheet_with" (jo c)):↥aV 10 f fd ["self","task","address","cells"] (tL K c):=by
 show F.dS pR (λel A outer s H vs Q E O h=>?_);let#[M,a,s',W,cv,t,ad,ca,cs,x,rfl,R,ri,b2,N,b3,n6,en,ek,hb,q]:=h;let hs:=vl;let#[dx,ho]:=R.ob;let TX:=R.tb _ (Tb.aA N);let#[d1,ht]:=TX.at_.ob;let#[c1,c2]:=Rm.iH hb;show#[_,(aj (dt 4 pR.nd (pc GR O aC (aa (aL (pv 0) rfl) (aa (pv 1) ag))))
  (aj (dt 5 pR.nd (pc GO O aC (aa (pJ (pv 4) TT.cl dO O aC) (aa (pv 2) (aa (aQ bF (by rfl) T.len boot_len (aa (pv 3) ag)) ag)))))
  (aj (dt 6 pR.nd (bV ag))
  (aj (dD Ol rfl (eQ (pv 5)) (gH 7 pR.nd) (ao (aO (gq OM Qy TU rC (pv 6) (aa (pm (pv 0) T.cl c7 O aC (aa (pm (pv 4) TT.cl GG O aC (aa (pv 7) ag)) ag)) ag)))))
  (ao (dD Ol rfl (HV (by rfl) T.zip (aa (pv 5) (aa (pc dp O aC (aa (pv 6) (aa (pv 2) (aa (pv 3) ag)))) ag))) (dU rfl (bj (gH 7 pR.nd) (bj (gH 8 pR.nd) de))) (ao (aO (pm (pv 4) TT.cl GL O aC (aa (pv 7) (aa (cI (aa aF (aa (pm (pv 0) T.cl dm O aC (aa (pm (pv 4) TT.cl GG O aC (aa (pv 7) ag)) (aa (pv 8) ag))) ag))) ag))))))))))),?_]
 show#[0,a.rp,c.C,dx,_,0,ho,T.cl,T.nR,cX _ _ _,0,a.rd,W,t,x,rfl,R.hd,N,?_];show#[0,x.p,d1,0,ht,Tb.aW _ aq,x.p,x.fs,x.tb,rfl,TX.at_,λH1 l1 ns s1 eo eb pm ep=>?_];let bi:∀{z},z∈x.t.map (·.1)->z∈ns:=λ{z} h=>(TX.mem pm z).mpr ((TX.keys z).mp h);show#[0,0,ca,0,.inl (Rm.fg b3 (s1 _)),l1,ns,ad,cs.length,by rw[mu];rfl,eb,λh=>hb (Rm.zm (λz hz=>bi hz) h),λH2 U s2 c9 a8=>?_];generalize eP:Rm.ay ad cs.length=ps at *;let ej:ps.Nodup:=(by rw[<-eP];show kN _ _);let S2:=s1.trans s2;let R2:=R.same S2;show#[ar,λG a6=>?_];let R3:=R2.JJ (o:=.lst []) a6;let s3:aP H2 (upd H2 G (.lst [])):=Tb.av a6;let d8:upd H2 G (.lst []) G=some (.lst []):=ae;generalize upd H2 G (.lst [])=H3 at *;let a2:H G=none:=S2.free a6;let d3:¬ a.own W G:=λz=>R.mt _ (R.dG _ z) a2;let bc:=s3 _ _ a8;let cx:H U=none:=s1.free c9;let d6:¬ a.own W U:=λz=>R.mt _ (R.dG _ z) cx;let b6:U≠G:=λz=>(by rwa[z,a6]at a8);let ci:∀p∈ps,∃e,Tb.look x.t p=some e:=λp ap=>by
  cases z:Tb.look x.t p with
  |none=>show absurd z ((TX.keys p).mp (c2 p ap))
  |some e=>show#[e,rfl]
 show#[0,U,rfl,#[_,bw.of bc],?_];show eV (K:=K) (a:=U) (xs:=ps.map V.int) (λi σ H4=>∃v7:Option V,JA (σ=#v[.ref a.rp,.int t,.int ad,.ref ca,.ref x.p,.ref U,.ref G,v7,none]) (ax c H4 (λb=>M b\/b=G) a s' W) (H4 G=some (.lst ((cf (cv t) (ps.take i)).map V.int))) ((cf (cv t) (ps.take i)).length=8*i) (Off (· = G) H3 H4))
  #[0,R3,d8,rfl,λ_ _ e _=>e] (λi σ H4 _ z0=>by let#[_,_,_,_,_,o4]:=z0;show bw.of (o4 _ _ bc b6)) ?_ ?_
 .rintro i u σ H4 hu ⟨v7,rfl,Y,am,a5,o4⟩;rw[t5]at hu;let#[p,J,rfl]:=o8.mp hu;let ap:=z6 J;let#[hi,dj]:=kQ.mp J;let T4:=Y.tb _ (Tb.aA N);let#[d4,cT]:=T4.at_.ob;let#[ef,c5]:=Y.ob;let#[e,he]:=ci p ap;let b5:=b2 t x N p e he;let c8:=Au.len ri.good b5;show#[0,.inl #[4,bw.of am],0,a.rp,ef,0,c5,gc _ _ _ aq aq aq,0,x.p,d4,0,cT,Tb.aW _ aq,0,x.p,x.fs,x.tb,p,rfl,T4.at_,λH5 v s5 hv=>?_];rw[T4.lk,he]at hv;let#[tt,rfl,bd]:=hv;show#[_,a,s',W,tt,e,cv t p,rfl,Y.same s5,ri.good,bd,b5,λH7 l7 s7 f7 h7=>?_];let S7:=s5.trans s7;let R7:=Y.same S7;let bn:=S7 _ _ am;show#[G,l7,_,0,rfl,bn,h7,by rw[mu,mu];omega,?_];rw[<-L0, <-gi J];show#[0,R7.NT bn (.inr rfl) d3,ae,by rw[gi J,wh];omega,λb o e z=>by rw[ai z];show S7 _ _ (o4 b o e z)]
 .rintro σ H4 ⟨v7,rfl,Y,am,a5,o4⟩;rw[mu,Pt]at am a5;let ea:bw K H4 ca (cs.map V.int):=Rm.fg b3 λo e=>o4 _ _ (s3 _ _ (S2 _ _ e)) (λz=>by rwa[z,a2]at e);let dL:=o4 _ _ bc b6;let be:=Rm.pH hb (ws:=cf (cv t) ps) (by rw[eP];show a5);rw[eP]at be;show#[0,0,0,0,G,ca,_,cs,ad,ps.length,rfl,am,ea,by rw[a5];omega,af,c1,be,λH5 l5 rs s5 d2 bv a4 dM em=>?_];let R5:=Y.same s5;let cm:=s5 _ _ dL;let cc:rs.length=ps.length:=by
   rw[a4.length];unfold Rm.gQ;rw[mu,O0]
  let h8:=Rm.Ic be;generalize eC:Rm.gQ ps.length (Rm.fh (cf (cv t) ps) (ad%8).toNat cs)=ch at a4 h8;let ei:ch.length=ps.length:=(by rw[<-a4.length,cc]);let dT:fX (cv t) ad cs=ch:=(by unfold fX;rw[eP];show eC);let d7:Step H M (a.own W) H5 (λb=>M b\/b=G) (a.own W):=#[λb o e z=>s5 _ _ (o4 _ _ (s3 _ _ (S2 _ _ e)) (λy=>by rwa[y,a2]at e)),λb z _=>.inl z,λb z=>z.elim .inl λz=>.inr (by rw[z];show a2),λb z=>.inl z,R.mt,R.dG];let cr:∀r∈rs,¬ (M r\/r=G):=λr O z=>Y.mt r z (dM r O);let cP:∀{l},H4 l=none->¬ a.own W l:=λh z=>Y.mt _ (Y.dG _ z) h;show#[U,l5,rfl,#[_,bw.of cm],#[_,bw.of bv],?_];show Fs (K:=K) (a:=U) (b:=l5) (xs:=ps.map V.int) (ys:=rs.map V.ref) (λi σ H6=>Ep λ(v7 v8:Option V)(M6:Xm)(s6:Pg.PS)(y:TD)=>LA (σ=#v[.ref a.rp,.int t,.int ad,.ref ca,.ref y.p,.ref U,.ref G,v7,v8]) (ax c H6 M6 a s6 (Tb.bg W t y)) (Pg.RI s6 (ents (Tb.bg W t y))) (Cv s6 (Tb.bg W t y) (gR cv t (((ps.zip ch).take i).reverse))) ((∀q,¬ q∈ps.take i->Tb.look y.t q=Tb.look x.t q)) ((∀q∈ps.take i,∃k,Tb.look y.t q=some (some k))) (Step H5 (λb=>M b\/b=G) (a.own W) H6 M6 (a.own (Tb.bg W t y))) (∀b,(s6.ow b).length=(s'.ow b).length))
   #[2,_,s',x,rfl,by rw[di R.nd N];show R5,by rw[di R.nd N];show ri,by rw[di R.nd N,UP];change Cv s' W (gR cv t []);rw[xI];show b2,λ_ _=>rfl,λq hq=>by simp at hq,by rw[di R.nd N];show R5.refl,λ_=>rfl] (by rw[mu,mu,cc]) (λi σ H6 _ z0=>by
    let#[_,_,_,_,_,_,_,_,_,_,_,st,_]:=z0;show#[bw.of (st.off _ _ cm d6),bw.of (st.off _ _ bv (cP d2))]) ?_ ?_
  .rintro i u v σ H6 z hu hv hz ⟨v7,v8,M6,s6,y,rfl,R6,ba,aB,aT,a3,as,a7⟩;rw[t5]at hu hv;let#[p,J,rfl]:=o8.mp hu;let#[r,b7,rfl]:=o8.mp hv;let b8:r∈rs:=z6 b7;let ap:=z6 J;let#[hi,dj]:=kQ.mp J;let#[ah,cp,bx]:=mL a4 b7;let ee:=h8 ah (z6 cp);let c3:¬ p∈ps.take i:=λz=>by
    let#[j,I,e]:=PD z;rw[Rv]at e;rw[Oj]at I;show qr ej j i (vu af) J af e
   let eh:=as.off _ _ bx (λw=>cr r b8 (R5.dG _ w));let ec:¬ M6 r:=λw=>(as.mn r w).elim (cr r b8) λw=>(by rwa[bx]at w);let sT:=Tb.av (X:=.tup [.int p,.ref r]) hz;show#[z,[.int p,.ref r],rfl,bP.of ae,rfl,.int p,[.ref r],rfl,.ref r,[],1,?_];let R7:=R6.same sT;let S7:=as.trans (R6.gv sT);let cS:=sT _ _ eh;generalize upd H6 z (.tup [.int p,.ref r])=H7 at *;let ab:=jC (y:=y) N;let T7:=R7.tb _ (Tb.aA ab);let#[ce,b1]:=T7.at_.ob;let#[db,c0]:=R7.ob;let#[e,bm]:=ci p ap;let he:Tb.look y.t p=some e:=(aT p c3).trans bm;show#[0,y.p,ce,0,b1,Tb.aW _ aq,0,0,a.rp,db,0,c0,gc _ _ _ aq aq aq,0,y.p,ce,0,b1,Tb.aW _ aq,0,y.p,y.fs,y.tb,p,rfl,T7.at_,λH8 v s8 hv=>?_];rw[T7.lk,he]at hv;let#[tt,rfl,bd]:=hv;let R8:=R7.same s8;let S8:=S7.trans (R7.gv s8);let pe:(ents (Tb.bg W t y)).Perm (e::(vX (Tb.bp y.t p)++ents (Tb.bp (Tb.bg W t y) t))):=(lO R7.nd ab).trans ((vM T7.nd he).append_right _);show#[0,M6,a,s6,Tb.bg W t y,tt,r,e,_,ah,rfl,R8,ba.perm pe,bd,s8 _ _ cS,ec,ee,λH9 s9 k R9 c4 bI cC dd da=>?_];show#[dZ,λu fu=>?_];let sU:=Tb.av (X:=.tup [.str "sheet",.int k]) fu;let bb:=R9.same sU;let d5:=(S8.trans dd).trans (R9.gv sU);let c6:upd H9 u (.tup [.str "sheet",.int k]) u=some (.tup [.str "sheet",.int k]):=ae;let dV:=bb.tb _ (Tb.aA ab);let#[g1,g2]:=TX.pg (q:=p) (by rw[bm];simp);show#[y.p,y.fs,u,y.tb,p,[.str "sheet",.int k],rfl,dV.at_,g1,g2,.inl c6,rfl,λdz a0 dr dl bY cg=>?_];let TI:dJ c.T dz #[y.p,y.fs,a0,(p,some k)::Tb.bp y.t p]:=#[dr,Tb.Hr T7.nd,λj=>by
    rw[dl j,Tb.ly];cases w:j=p
    .rw[Xl w,Xl w];rfl
    .rw[Xk w,Xk w];show T7.lk j]
   let bK:=bb.xB (y:=#[y.p,y.fs,a0,(p,some k)::Tb.bp y.t p]) ab rfl TI bY cg;let b4:=d5.trans (bb.tV (y:=#[y.p,y.fs,a0,(p,some k)::Tb.bp y.t p]) ab bY cg);let b0:=DT (y:=#[y.p,y.fs,a0,(p,some k)::Tb.bp y.t p]) (e:=some k) (q:=p) R7.nd ab rfl;rw[set_set]at bK b4 b0;let dI:(ps.zip ch)[i]?=some (p,ah):=by
    rw[SS];show#[J,cp]
   show#[2,_,s9,#[y.p,y.fs,a0,(p,some k)::Tb.bp y.t p],rfl,bK,c4.perm b0.symm,3,?_,b4,λb=>(da b).trans (a7 b)]
   .intro ac bl a1 q L S;rw[Pq,dI,show(some (p,ah)).toList=[(p,ah)]from rfl,Rw,show([(p,ah)]:List (Int×List Int)).reverse=[(p,ah)]from rfl,List.singleton_append,vq];rw[Tb.bT ac N]at a1;let cq:∀{L},L∈vX (Tb.bp y.t p)\/L∈ents (Tb.bp (Tb.bg W t y) t)->L∈vX (Tb.bp y.t p)++ents (Tb.bp (Tb.bg W t y) t):=λh=>oR.mpr h;cases w:ac=t
    .rw[Xl w]at a1;cases a1;let S:Tb.look ((p,some k)::Tb.bp y.t p) q=some L:=S;rw[Tb.ly]at S;cases w2:q=p
     .rw[Xl w2]at S;cases S;rw[Xl #[w,w2]];show cC
     .rw[Xk w2]at S;rw[Xk (λh=>w2 h.2)];show bI L (cq (.inl ?_)) _ (aB ac y (by rw[w];show ab) q L S);show qj.mpr #[(q,L),Tb.pb (Tb.aA S) w2,rfl]
    .rw[Xk w]at a1;rw[Xk (λh=>w h.1)];let h2:Tb.look (Tb.bg W t y) ac=some bl:=(by rw[Tb.bT ac N,Xk w];show a1);show bI L (cq (.inr ?_)) _ (aB ac bl h2 q L S);show RL.mpr #[(ac,bl),Tb.pb (Tb.aA h2) w,qj.mpr #[(q,L),Tb.aA S,rfl]]
   .intro j I;rw[Pq,J]at I;let w:j≠p:=λw=>I (by rw[w];simp);change Tb.look ((p,some k)::Tb.bp y.t p) j=_;rw[Tb.ly,Xk w];show aT j λh=>I (O8 _ h)
   .intro j I;change ∃k',Tb.look ((p,some k)::Tb.bp y.t p) j=some (some k');rw[Tb.ly];cases w:j=p
    .rw[Xl w];show#[k,rfl]
    .rw[Xk w];rw[Pq,J]at I;rcases oR.mp I with I|I
     .show a3 j I
     .show absurd ‹I› w
  .rintro σ H6 ⟨v7,v8,M6,s6,y,rfl,R6,ba,aB,aT,a3,as,a7⟩;rw[mu,Pt]at aT a3;rw[mu,Ph (by rw[List.length_zip,ei];omega), <-dT]at aB;show q H6 M6 s6 y R6 ba aB aT a3 (d7.trans as) a7
def qu(cv:Xn)(t o:Int):Int->Int->List Int:=λt' q=>if t'=o then cv t q else cv t' q
inductive uB(c:CA)(v:List V)(H:Hp)(Q:VK)(e:XK):Prop
 |mk(M:Xm)(a:RA)(s:Pg.PS)(W:dq)(cv:Xn)(t o:Int)(x:TD)(_:v=[.ref a.rp,.int t,.int o])(_:ax c H M a s W)(_:Pg.RI s (ents W))(_:Cv s W cv)(_:W.length<=1000)(_:Tb.look W t=some x)(_:Tb.look W o=none)(_:(ents W).length+x.t.length<=bL s)(_:∀(H':Hp)(M':Xm)(s':Pg.PS)(y:TD),(∀q,Tb.look y.t q=Tb.look x.t q)->ax c H' M' a s' (W++[(o,y)])->Pg.RI s' (ents (W++[(o,y)]))->Cv s' (W++[(o,y)]) (qu cv t o)->Step H M (a.own W) H' M' (a.own (W++[(o,y)]))->(∀b,(s'.ow b).length=(s.ow b).length)->Q .non H')
theorem pL(W:dq)(o:Int)(y:TD):ents (W++[(o,y)])=ents W++vX y.t:=by
 unfold ents;rw[Sg];simp
theorem qh:aE ["self","task","other","table","pages","copied","page","entry"] ["self","task","other"] (aw tS):=L2.bN
theorem BE{f fI:Addr}{fd dI:p4}{c:CA}(F:cE K "copy" "Rooms.copy" tS f fd)(T:mY K mg c)(TT:Tb.Txt K mg c.T)(TP:rY K mg c.P)(MK:Mk K c.T fI)(cT:mg "Table" = some (.ref c.T))(GR:↥Df 1 "room_of" dn)(GS:↥Df 1 "refuse_second_room" iR)(GA:↥Df 1 "refuse_above" nX)(GI:↥aV 1 fI dI ["self"] (Tb.jj c.T))(bI:Binds K dI ["self"] [])(c5:↥Md 1 c.T "pages" (Tb.dH c.T))(GH:↥Md 2 c.C "held" (gG c))(GG:↥Md 3 c.T "get" (Tb.rT c.T))(GL:↥Md 3 c.T "lay" (Tb.uR K c.T))(cP:↥Md 4 c.P "share" (tR c.P c.S)):↥aV 5 f fd ["self","task","other"] (uB c):=by
 let#[aB,mB,sB]:=T.bl;let rB:RelV (.ref aB) (.ref aB):=rfl;show F.dS qh (λdm A outer s H vs Q E L h=>?_);let#[M,a,s',W,cv,t,o,x,rfl,R,ri,c0,lw,hx,a0,bd,q]:=h;let hs:=vl;let#[dx,ho]:=R.ob;let TX:=R.tb _ (Tb.aA hx);let#[c7,ht]:=TX.at_.ob;show#[_,(aj (dt 3 qh.nd (pc GR L aC (aa (aL (pv 0) rfl) (aa (pv 1) ag))))
  (aj (aO (pc GS L aC (aa (aL (pv 0) rfl) (aa (pv 2) ag))))
  (aj (dt 4 qh.nd (pJ (pv 3) TT.cl c5 L aC))
  (aj (aO (pc GA L aC (aa (az bu (pJ (pv 0) T.cl GH L aC) (aQ bF (by rfl) T.len boot_len (aa (pv 4) ag))) (aa (aL (pv 0) rfl) ag))))
  (aj (dt 5 qh.nd (vy MK GI (L.mono ar) (by rfl) cT bI .nil aC))
  (aj (dD Ol rfl (eQ (pv 4)) (gH 6 qh.nd) (aj (dt 7 qh.nd (pm (pv 3) TT.cl GG L aC (aa (pv 6) ag)))
  (aj (aO (pm (pv 5) TT.cl GL L aC (aa (pv 6) (aa (pv 7) ag))))
  (ao (aU (aD (xE L.lT) (pv 7) (bM (by rfl) mB rB) (aG _)) (ao (aO (pm (aL (pv 0) rfl) TP.cl cP L aC (aa (aY bf (pv 7) ak cz) ag)))) aI)))))
  (ao (kA (bz L) (aL (pv 0) rfl) (pv 2) (pv 5) rfl)))))))),?_]
 show#[0,a.rp,c.C,dx,_,0,ho,T.cl,T.nR,cX _ _ _,0,a.rd,W,t,x,rfl,R.hd,hx,?_];show#[0,a.rp,c.C,dx,_,0,ho,T.cl,T.nR,cX _ _ _,0,a.rd,W,o,rfl,R.hd,a0,?_];show#[0,x.p,c7,0,ht,Tb.aW _ aq,x.p,x.fs,x.tb,rfl,TX.at_,λH1 O ns s1 c4 da pm dr=>?_];let R1:=R.same s1;let c9:ns.length=x.t.length:=TX.len pm;let#[dj,cg]:=R1.ob;show#[0,a.rp,dj,0,cg,gc _ _ _ aq aq aq,M,a,s',W,rfl,R1,lw,λH2 s2=>?_];let R2:=R1.same s2;let a5:=s2 _ _ da;let#[b4,c3]:=R2.ob;show#[0,O,0,.inl (bw.of a5),_,0,rfl,0,a.rp,c.C,b4,_,0,c3,T.cl,T.nT,FP _ _ _,_,0,by rw[mu,c9];show VP bd,?_];let S2:=s1.trans s2;show λp ca np bY dz=>#[p,ca,rfl,ae,λfs H3 bc T3 off=>#[5]];let s3:aP H2 H3:=λb u e=>off b u (by rw[ai (au e np),ai (au e bY)];show e) (au e np);let a1:H2 fs=none:=by
  cases e:H2 fs with
  |none=>rfl
  |some u=>rwa[ai (au e np),ai (au e bY),e]at bc
 let bb:H fs=none:=S2.free a1;let ch:H p=none:=S2.free np;let R3:=R2.Ek (H':=H3) (B:=λ_=>False) (M':=λb=>M b\/b=fs) (λb o e _=>s3 b o e) (λb z=>z.elim) (λb z=>z.elim) (λb z=>z.elim .inl λz=>.inr (by rw[z];show a1)) (λb z _=>.inl z) (λb z e=>z.elim (λz=>(R2.same s3).mt b z e) λz=>by rwa[z,T3.hf]at e);let bi:=s3 _ _ a5;let b8:¬ a.own W O:=λz=>R.mt _ (R.dG _ z) c4;let ce:Step H M (a.own W) H3 (λb=>M b\/b=fs) (a.own W):=#[λb o e _=>s3 _ _ (S2 _ _ e),λb z _=>.inl z,λb z=>z.elim .inl λz=>.inr (by rw[z];show bb),λb z=>.inl z,R.mt,R.dG];let dd:∀b,(TD.mk p fs [] []).fK b->b=fs:=λb z=>by
  rcases z with z|⟨_,hx,_⟩
  .show z
  .cases hx
 let b7:ns.Nodup:=pm.nodup_iff.mpr (Tb.kr TX.at_);show#[0,O,rfl,#[_,bw.of bi],?_];show eV (K:=K) (a:=O) (xs:=ns.map V.int) (λi σ H4=>Ep λ(v6 v7:Option V)(M4:Xm)(s4:Pg.PS)(y:TD)=>KZ (σ=#v[.ref a.rp,.int t,.int o,.ref x.p,.ref O,.ref y.p,v6,v7]) (ax c H4 M4 a s4 W) (dJ c.T H4 y) ((∀b,y.fK b->M4 b/\¬ a.own W b/\H b=none/\b≠O)) (¬ a.A.own y.p) ((∀q,Tb.look y.t q=if q∈ns.take i then Tb.look x.t q else none)) (Pg.RI s4 (vX y.t++ents W)) (y.t.length=i) (Cv s4 W cv) ((∀q e,Tb.look y.t q=some e->Pg.Au s4 e (cv t q))) (Step H M (a.own W) H4 M4 (a.own W)) (H4 O=some (.lst (ns.map V.int))) (∀b,(s4.ow b).length=(s'.ow b).length))
  #[2,_,s',#[p,fs,[],[]],rfl,R3,#[T3,Qo,λq=>rfl],λb z=>?_,λz=>R.mt _ (R.ok.own _ z) ch,λq=>by simp[Tb.iW],ri,rfl,c0,λq e h=>(by cases h),ce,bi,λ_=>rfl] (λi σ H4 _ z0=>by let#[_,_,_,_,_,_,_,_,_,_,_,_,_,_,_,_,h,_]:=z0;show bw.of h) ?_ ?_
 .rw[dd b z];show#[.inr rfl,λw=>R.mt _ (R.dG _ w) bb,bb,λw=>by rwa[w,a5]at a1]
 .rintro i u σ H4 hu ⟨v6,v7,M4,s4,y,rfl,N,Y,J,aT,as,U,a3,am,a4,ah,a8,ac⟩;rw[t5]at hu;let#[G,hp,rfl]:=o8.mp hu;let ci:=z6 hp;let#[hi,dp]:=kQ.mp hp;let cq:¬ G∈ns.take i:=λz=>by
   let#[j,hj,e]:=PD z;rw[Rv]at e;rw[Oj]at hj;show qr b7 j i (vu af) hp af e
  obtain⟨e,he⟩:∃e,Tb.look x.t G=some e:=by
   cases z:Tb.look x.t G with
   |none=>show absurd z ((TX.mem pm G).mp ci)
   |some e=>show#[e,rfl]
  let cr:Tb.look y.t G=none:=(by rw[as,Xk cq]);let X4:=N.tb _ (Tb.aA hx);let#[c8,cp]:=X4.at_.ob;show#[0,x.p,c8,0,cp,Tb.aW _ aq,0,x.p,x.fs,x.tb,G,rfl,X4.at_,λH5 v s5 hv=>?_];rw[X4.lk,he]at hv;let#[tt,rfl,a7]:=hv;let R5:=N.same s5;let T5:dJ c.T H5 y:=#[Y.at_.same s5,Y.nd,Y.lk];let#[c6,b6]:=T5.at_.ob;let#[g1,g2]:=TX.pg (q:=G) (by rw[he];simp);let cm:Tb.oy (Af e)=true:=(by cases e<;>rfl);show#[0,y.p,c6,0,b6,Tb.aW _ aq,0,0,y.p,y.fs,tt,y.tb,G,Af e,rfl,T5.at_,g1,g2,.inl a7,cm,λH6 ab T6 l6 o6 n6=>?_];let cC:¬ y.fK tt:=λz=>by
   let#[_,h]:=T5.at_.dK z;rwa[a7]at h
  let b2:=o6 _ _ a7 cC;let ba:dJ c.T H6 #[y.p,y.fs,ab,(G,e)::y.t]:=#[T6,Ov.mpr #[Tb.cu cr,Y.nd],λj=>by
   rw[l6 j,Tb.aR];cases z:j=G
   .rw[Xl z,Xl z.symm];rfl
   .rw[Xk z,Xk (qs z)];show Y.lk j]
  let b1:∀{b},H5 b=none->¬ a.own W b/\H b=none:=λ{b} h=>by
   let no:¬ a.own W b:=λz=>R5.mt _ (R5.dG _ z) h;show#[no,((ah.trans (N.gv s5)).gone h).resolve_left no]
  let R6:=R5.Ek (H':=H6) (B:=y.fK) (M':=λb=>(M4 b/\¬ y.fK b)\/(TD.mk y.p y.fs ab ((G,e)::y.t)).fK b) o6 (λb z=>#[(J b z).1,(J b z).2.1]) (λb z=>.inr (T5.at_.dK z)) (λb z=>z.elim (λz=>.inl z.1) λz=>(n6 b z).elim (λz=>.inl (J b z).1) .inr) (λb z w=>.inl #[z,w]) (λb z w=>by
   rcases z with z|z
   .cases e2:H5 b with
    |none=>show R5.mt b z.1 e2
    |some u=>rwa[o6 b u e2 z.2]at w
   .let#[_,h]:=ba.at_.dK z;rwa[w]at h)
  let a2:∀b,(TD.mk y.p y.fs ab ((G,e)::y.t)).fK b->((M4 b/\¬ y.fK b)\/(TD.mk y.p y.fs ab ((G,e)::y.t)).fK b)/\¬ a.own W b/\H b=none/\b≠O:=λb z=>by
   rcases n6 b z with w|w
   .show#[.inr z,(J b w).2]
   .show#[.inr z,(b1 w).1,(b1 w).2,λy=>by rwa[y,s5 _ _ a8]at w]
  let a6:=ah.trans (N.gv s5);let bn:Step H M (a.own W) H6 (λb=>(M4 b/\¬ y.fK b)\/(TD.mk y.p y.fs ab ((G,e)::y.t)).fK b) (a.own W):=#[λb o e z=>o6 _ _ (a6.off b o e z) (λw=>by rwa[(J b w).2.2.1]at e),λb z w=>.inl #[a6.mm b z w,λy=>R.mt b z (J b y).2.2.1],λb z=>z.elim (λz=>a6.mn b z.1) λz=>.inr (a2 b z).2.2.1,λb z=>.inl z,R.mt,R.dG];let bm:=o6 _ _ (s5 _ _ a8) λz=>(J _ z).2.2.2 rfl;let bK:∀j,Tb.look ((G,e)::y.t) j=if j∈ns.take (i+1)then Tb.look x.t j else none:=λj=>by
   rw[Tb.aR,as j,Pq,hp];cases z:G=j
   .rw[Xl z, <-z,Xl (by simp),he]
   .rw[Xk z];cases z2:j∈ns.take i
    .rw[Xl z2,Xl (O8 _ z2)]
    .rw[Xk z2,Xk (by simp[qs z,z2])]
  let bv:(vX y.t++ents W).length<(s4.ow true).length+(s4.ow false).length:=by
   let e1:(vX y.t).length=i:=(by unfold vX;rw[mu];show a3);rw[wh,e1,ac,ac];unfold bL at bd;omega
  let bx:=am t x hx G e he;show#[0,tt,aB,_,0,rfl,bP.of b2,j7.sq (.inr sB),?_];cases e with
  |none =>
   show#[1,0,b9 ?_];show#[2,_,s4,#[y.p,y.fs,ab,(G,none)::y.t],rfl,R6,ba,a2,aT,bK,U.lay bv,by rw[K4,a3],am,λj I h'=>?_,bn,bm,ac];let h':Tb.look ((G,none)::y.t) j=some I:=h';rw[Tb.aR]at h';cases z:G=j
   .rw[Xl z]at h';cases h';rw[<-z];show bx
   .rw[Xk z]at h';show a4 j I h'
  |some k =>
   show#[1,0,eS ?_];let#[c1,dl]:=R6.ob;let#[cS,b5]:=R6.pg.ob;let#[cs,cc,hv]:=U.is k (L3 _ (pP hx he));let#[b0,n0,hk,_,_]:=id hv;show#[0,a.rp,c.C,c1,_,0,dl,T.cl,T.nP,rM _ _ _,a.A.pg,cS,0,b5,dw _ _ aq aq aq aq aq,0,tt,_,(1),0,rfl,bP.of b2,4,a.A,s4,k,b0,n0,cs,cc,rfl,R6.LG U,hk,hv,λH7 G7 O7=>?_];let sm:=λI=>Pg.xR (es:=[I]) U.good hk hv I (nc.mpr rfl);let b3:∀b,((Pg.cM s4 b0 n0 (cc+1)).ow b).length=(s4.ow b).length:=λb=>Pg.eB b;show#[2,2,#[y.p,y.fs,ab,(G,some k)::y.t],rfl,R6.lU G7 O7 b3,ba.off O7 aT (λb z w=>(a2 b z).2.1 (.inl w)) R6.pg.lu,a2,aT,bK,U.share hk hv bv,by rw[K4,a3],am.keep λI _=>sm I,λj I h'=>?_,bn.trans (R6.K6 G7 O7),O7 _ _ bm (λz=>b8 (.inl z)),λb=>(b3 b).trans (ac b)];let h':Tb.look ((G,some k)::y.t) j=some I:=h';rw[Tb.aR]at h';cases z:G=j
   .rw[Xl z]at h';cases h';rw[<-z];show sm _ _ bx
   .rw[Xk z]at h';show sm _ _ (a4 j I h')
 .rintro σ H4 ⟨v6,v7,M4,s4,y,rfl,N,Y,J,aT,as,U,a3,am,a4,ah,a8,ac⟩;rw[mu,Pt]at as;let hy:∀j,Tb.look y.t j=Tb.look x.t j:=λj=>by
   rw[as j];cases z:j∈ns
   .rw[Xl z]
   .rw[Xk z];cases w:Tb.look x.t j with
    |none=>rfl
    |some e=>show absurd ((TX.mem pm j).mpr (by rw[w];simp)) z
  let#[db,cx]:=N.ob;show#[0,0,a.rp,c.C,db,_,0,cx,T.cl,T.nR,cX _ _ _,0,a.rd,0,hU.k (k:=vr o) N.hd (by rw[Tb.cR];show jw lw),?_];rw[show(V.ref y.p)=fR y from rfl,Tb.cV a0];let R5:=N.Bm a0 Y (λb z=>#[(J b z).1,(J b z).2.1]) aT;show q _ M4 s4 y hy R5 (by rw[pL];show U.perm Q4) ?_ #[?_,ah.mm,ah.mn,λb z=>?_,R.mt,R.dG] ac
  .intro t' x' h' j I be;rw[Tb.bC t' a0]at h';unfold qu;cases z:t'=o
   .rw[Xl z]at h' ⊢;cases h';show a4 j I be
   .rw[Xk z]at h' ⊢;show am t' x' h' j I be
  .intro b u e z;rw[ai (λw=>z (.inr (.inl w)))];show ah.off b u e z
  .rcases z with z|z|⟨x',ap,z⟩
   .show .inl (.inl z)
   .show .inl (.inr (.inl z))
   .rcases oR.mp ap with ap|ap
    .show .inl (.inr (.inr #[x',ap,z]))
    .rw[nc.mp ap]at z;show .inr (J b z).2.2.1
abbrev xN:Ow:=inClass (top 14) 0
abbrev xZ:Ow:=inClass (top 33) 0
def s0(nf ns:Nat):Pg.PS:=#[λb=>replicate (if b=true then nf else ns) 0,λb=>replicate (if b=true then nf else ns) none,λ_=>none,(0),[]]
theorem Lf{nf ns:Nat}(h:0<nf):Pg.RI (s0 nf ns) []:=by
 let I:∀(b:Bool)(n:Nat)(c:Int),((s0 nf ns).ow b)[n]?=some c->c=0:=λb n c e=>by
  let e:(replicate (if b=true then nf else ns) (0:Int))[n]?=some c:=e;show(Vb.mp (z6 e)).2
 let G:∀n:Nat,(replicate n (0:Int)).sum=0:=λn=>by
  induction n with
  |zero=>rfl
  |succ n J=>rw[Qg,QA,J];rfl
 show#[#[(λk p e=>by cases e),(λk b n e=>by cases e),(λk j p e=>by cases e),λb n c e=>.inl (I b n c e),λb=>?_,Qo,λk=>#[(λz=>by cases z),(λ⟨n,e⟩=>by cases e)]],OX _,λe=>?_,(λk z=>by cases z),λk cs c z=>?_,?_,OB _]
 .change(replicate _ _).length=(replicate _ _).length;rw[OV,OV]
 .have:(replicate nf (0:Int)).length=0:=(by rw[show replicate nf (0:Int)=[]from e];rfl);rw[OV]at this;omega
 .let#[b,n,e,_]:=z;cases e
 .change(replicate nf (0:Int)).sum+(replicate ns (0:Int)).sum=0;rw[G,G];rfl
def PA.nine(A:PA):List Addr:=[A.pg,A.fp,A.fo,A.fc,A.sp,A.so,A.sc,A.pd,A.il]
inductive ug(C CS:Addr)(v:List V)(H:Hp)(Q:VK)(e:XK):Prop
 |mk(p dx:Addr)(nf ns:Nat)(_:v=[.ref p,.int nf,.int ns])(_:nf<=60)(_:ns<=60)(_:H p=some (.ins C dx []))(_:∀(H':Hp)(A:PA),A.pg=p->A.nine.Nodup->(∀b∈A.nine,b=p\/H b=none)->(∀M,bR C CS H' M A (s0 nf ns))->Off (· = p) H H'->Q .non H')
inductive sf(c:CA)(v:List V)(H:Hp)(Q:VK)(e:XK):Prop
 |mk(p dx:Addr)(nf ns:Nat)(_:v=[.ref p,.int nf,.int ns])(_:nf<=60)(_:ns<=60)(_:0<nf)(_:H p=some (.ins c.C dx []))(_:∀(H':Hp)(M:Xm)(a:RA),a.rp=p->ax c H' M a (s0 nf ns) []->(∀b,M b->H b=none)->Off (· = p) H H'->Q .non H')
theorem cL{H:Hp}{a b:Addr}{o:HO}(h:upd H a o b=none):b≠a/\H b=none:=by
 cases z:b=a
 .rw[z,ae]at h;cases h
 .rw[ai z]at h;show#[z,h]
theorem jl{C p ow co:Addr}{B:Xm}{os:List Int}{pg:List (Option (List Int))}{H H':Hp}(S:∀M,aX C H M p ow co os pg)(o:Off B H H')(J:¬ B p)(I:¬ B ow)(G:¬ B co):∀M,aX C H' M p ow co os pg:=λM =>
 ((S λb=>M b\/B b).off o (λb z=>.inr z) J I G).less λb z=>.inl z
theorem iU{C CS p dx q ow co:Addr}{fs:List (Str×V)}{os:List Int}{pg:List (Option (List Int))}{H:Hp}(G:H p=some (.ins C dx fs))(S:∀M,aX CS H M q ow co os pg):∀b,b=p\/b=q\/b=ow\/b=co->H b≠none:=by
 intro b z e;let S:=S λ_=>False;let#[J,h2]:=S.ob;let#[_,I,_]:=S.hc;rcases z with z|z|z|z<;>rw[z]at e
 .rw[G]at e;cases e
 .rw[h2]at e;cases e
 .rw[S.hw]at e;cases e
 .rw[I]at e;cases e
theorem oG{C CS:Addr}{H:Hp}{M:Xm}{A:PA}{s:Pg.PS}(G:bR C CS H M A s):∀b∈A.nine,H b≠none:=by
 intro b z e;unfold PA.nine at z;simp only[BY,DO,or_false]at z;let#[dx,h1]:=G.ob;let#[_,N]:=G.fr.ob;let#[_,O]:=G.sl.ob;let#[_,I,_]:=G.fr.hc;let#[_,L,_]:=G.sl.hc;let#[l,J,_]:=G.pd;rcases z with z|z|z|z|z|z|z|z|z<;>rw[z]at e
 .rw[h1]at e;cases e
 .rw[N]at e;cases e
 .rw[G.fr.hw]at e;cases e
 .rw[I]at e;cases e
 .rw[O]at e;cases e
 .rw[G.sl.hw]at e;cases e
 .rw[L]at e;cases e
 .rw[J]at e;cases e
 .rw[G.il]at e;cases e
theorem Ng:aE ["self","frames","slots"] ["self","frames","slots"] (aw xN):=L2.bN
theorem Dt{f C CS bm:Addr}{fd bn:p4}(F:cE K "__init__" "Paging.__init__" xN f fd)(T:rY K mg C)(MS:Mk K CS bm)(ba:mg "Store" = some (.ref CS))
  (bb:↥aV 1 bm bn ["self","many"] (jj CS)) (bx:Binds K bn ["self","many"] []):↥aV 3 f fd ["self","frames","slots"] (ug C CS):=by
 show F.dS Ng (λci A outer s H vs Q E hr h=>?_);let#[p,dx,nf,ns,rfl,n1,n2,hp,k]:=h;show#[_,(aj (gp (pv 0) (ng MS bb (hr.mono ar) (by rfl) ba bx .nil aC (aa (pv 1) ag)) rfl)
  (aj (gp (pv 0) (ng MS bb (hr.mono ar) (by rfl) ba bx .nil aC (aa (pv 2) ag)) rfl)
  (aj (gp (pv 0) dQ rfl)
  (aj (gp (pv 0) ak rfl)
  (ao (gp (pv 0) (bV ag) rfl)))))),?_]
 show#[0,λfp b8 aB bI ce=>#[fp,b8,nf,rfl,n1,ae,λO R H1 U Y cg S1 o1=>#[5]]];let m1:aP H H1:=λb u e=>o1 b u (by rw[ai (au e aB),ai (au e bI)];show e) (au e aB);let#[q1,U]:=cL U;let#[q2,Y]:=cL Y;let U:=(cL U).2;let Y:=(cL Y).2;let ca:=m1 _ _ hp;let ah:fp≠p:=qs (au hp aB);let ac:O≠p:=qs (au hp U);let ap:R≠p:=qs (au hp Y);clear o1 bI ce;show#[0,p,C,dx,[],rfl,ca,T.cl,T.nF,ar,?_];let o2:Off (· = p) H1 (upd H1 p (.ins C dx (bt "frames" (.ref fp) []))):=Off.wr rfl;let a8:upd H1 p (.ins C dx (bt "frames" (.ref fp) [])) p=some (.ins C dx (bt "frames" (.ref fp) [])):=ae;generalize upd H1 p (.ins C dx (bt "frames" (.ref fp) []))=H2 at *;let S2:=jl S1 o2 ah ac ap;let O2:Off (· = p) H H2:=λb o e z=>o2 b o (m1 b o e) z;show#[0,λsp b7 a6 bd ch=>#[sp,b7,ns,rfl,n2,ae,λso sc H3 am ab cc S3 o3=>#[5]]];let m3:aP H2 H3:=λb u e=>o3 b u (by rw[ai (au e a6),ai (au e bd)];show e) (au e a6);let#[q3,am]:=cL am;let#[q4,ab]:=cL ab;let am:=(cL am).2;let ab:=(cL ab).2;clear o3 bd ch;let as:∀b,b=p\/b=fp\/b=O\/b=R->H2 b≠none:=iU a8 S2;let b0:=jl (B:=λ_=>False) S2 (λb o e _=>m3 b o e) id id id;let b6:=m3 _ _ a8;show#[0,p,C,dx,0,b6,T.cl,T.nS,by change 1<1000;decide,?_];let a0:∀{b},H2 b=none->b≠p/\b≠fp/\b≠O/\b≠R/\H b=none:=λ{b} h=>#[λz=>as b (.inl z) h,λz=>as b (.inr (.inl z)) h,λz=>as b (.inr (.inr (.inl z))) h,λz=>as b (.inr (.inr (.inr z))) h,by
  cases e:H b with
  |none=>rfl
  |some u=>rwa[O2 b u e λz=>as b (.inl z) h]at h]
 let#[a1,a2,a3,a4,a5]:=a0 a6;let#[b1,b2,b3,b4,b5]:=a0 am;let#[c1,c2,c3,c4,c5]:=a0 ab;let o4:Off (· = p) H3 (upd H3 p (.ins C dx (bt "slots" (.ref sp) (bt "frames" (.ref fp) [])))):=Off.wr rfl;let aT:upd H3 p (.ins C dx (bt "slots" (.ref sp) (bt "frames" (.ref fp) []))) p=some (.ins C dx (bt "slots" (.ref sp) (bt "frames" (.ref fp) []))):=ae;generalize upd H3 p (.ins C dx (bt "slots" (.ref sp) (bt "frames" (.ref fp) [])))=H4 at *;let bi:=jl b0 o4 ah ac ap;let bK:=jl S3 o4 a1 b1 c1;let O4:Off (· = p) H H4:=λb o e z=>o4 b o (m3 b o (O2 b o e z)) z;let bY:∀{b},H4 b=none->b≠p/\b≠fp/\b≠O/\b≠R/\b≠sp/\b≠so/\b≠sc/\H b=none:=λ{b} h=>by
  let N:=iU aT bi;let S:=iU aT bK;show#[λz=>N b (.inl z) h,λz=>N b (.inr (.inl z)) h,λz=>N b (.inr (.inr (.inl z))) h,λz=>N b (.inr (.inr (.inr z))) h,λz=>S b (.inr (.inl z)) h,λz=>S b (.inr (.inr (.inl z))) h,λz=>S b (.inr (.inr (.inr z))) h,?_];cases e:H b with
  |none=>rfl
  |some u=>rwa[O4 b u e λz=>N b (.inl z) h]at h
 intro I be;let#[d1,d2,d3,d4,d5,d6,d7,d8]:=bY be;show#[0,p,C,dx,0,by rw[ai (qs d1)];show aT,T.cl,T.nP,by change 2<1000;decide,?_];show#[0,p,C,dx,0,ae,T.cl,T.nL,by change 3<1000;decide,?_];let o7:Off (· = p) H4 (upd (upd (upd H4 I (.dK [])) p (.ins C dx (bt "places" (.ref I) (bt "slots" (.ref sp) (bt "frames" (.ref fp) []))))) p (.ins C dx (bt "last_sheet" (.int 0) (bt "places" (.ref I) (bt "slots" (.ref sp) (bt "frames" (.ref fp) [])))))):=λb o e z=>by
  rw[ai z,ai z,ai (au e be)];show e
 let a7:upd (upd (upd H4 I (.dK [])) p (.ins C dx (bt "places" (.ref I) (bt "slots" (.ref sp) (bt "frames" (.ref fp) []))))) p (.ins C dx (bt "last_sheet" (.int 0) (bt "places" (.ref I) (bt "slots" (.ref sp) (bt "frames" (.ref fp) []))))) p=some (.ins C dx (bt "last_sheet" (.int 0) (bt "places" (.ref I) (bt "slots" (.ref sp) (bt "frames" (.ref fp) []))))):=ae;let bl:upd (upd (upd H4 I (.dK [])) p (.ins C dx (bt "places" (.ref I) (bt "slots" (.ref sp) (bt "frames" (.ref fp) []))))) p (.ins C dx (bt "last_sheet" (.int 0) (bt "places" (.ref I) (bt "slots" (.ref sp) (bt "frames" (.ref fp) []))))) I=some (.dK []):=(by rw[ai d1,ai d1,ae]);generalize upd (upd (upd H4 I (.dK [])) p (.ins C dx (bt "places" (.ref I) (bt "slots" (.ref sp) (bt "frames" (.ref fp) []))))) p (.ins C dx (bt "last_sheet" (.int 0) (bt "places" (.ref I) (bt "slots" (.ref sp) (bt "frames" (.ref fp) [])))))=H7 at *;let bv:=jl bi o7 ah ac ap;let bc:=jl bK o7 a1 b1 c1;let O7:Off (· = p) H H7:=λb o e z=>o7 b o (O4 b o e z) z;show#[ar,λG L=>?_];let N:=iU a7 bv;let S:=iU a7 bc;let i1:G≠p:=λz=>N G (.inl z) L;let i2:G≠fp:=λz=>N G (.inr (.inl z)) L;let i3:G≠O:=λz=>N G (.inr (.inr (.inl z))) L;let i4:G≠R:=λz=>N G (.inr (.inr (.inr z))) L;let i5:G≠sp:=λz=>S G (.inr (.inl z)) L;let i6:G≠so:=λz=>S G (.inr (.inr (.inl z))) L;let i7:G≠sc:=λz=>S G (.inr (.inr (.inr z))) L;let i8:G≠I:=λz=>(by rwa[z,bl]at L);let i9:H G=none:=by
  cases e:H G with
  |none=>rfl
  |some u=>rwa[O7 G u e i1]at L
 show#[0,p,C,dx,0,by rw[ai (qs i1)];show a7,T.cl,T.nI,by change 4<1000;decide,?_];let o9:Off (· = p) H7 (upd (upd H7 G (.lst [])) p (.ins C dx (du #[p,fp,O,R,sp,so,sc,I,G] 0))):=λb o e z=>by
  rw[ai z,ai (au e L)];show e
 show k _ #[p,fp,O,R,sp,so,sc,I,G] rfl ?_ ?_ (λM=>#[#[dx,ae],jl bv o9 ah ac ap M,jl bc o9 a1 b1 c1 M,3,[],?_,Qo,(λx hx=>by cases hx),λ_=>rfl,OB _]) (λb o e z=>o9 b o (O7 b o e z) z)
 .unfold PA.nine;simp only[Ov,BY,DO,or_false,not_or,not_false_eq_true,Qo,and_true];show#[#[λh=>ah h.symm,λh=>ac h.symm,λh=>ap h.symm,λh=>a1 h.symm,λh=>b1 h.symm,λh=>c1 h.symm,λh=>d1 h.symm,λh=>i1 h.symm],#[λh=>q1 h.symm,λh=>q2 h.symm,λh=>a2 h.symm,λh=>b2 h.symm,λh=>c2 h.symm,λh=>d2 h.symm,λh=>i2 h.symm],#[λh=>(qs cg) h.symm,λh=>a3 h.symm,λh=>b3 h.symm,λh=>c3 h.symm,λh=>d3 h.symm,λh=>i3 h.symm],#[λh=>a4 h.symm,λh=>b4 h.symm,λh=>c4 h.symm,λh=>d4 h.symm,λh=>i4 h.symm],#[λh=>q3 h.symm,λh=>q4 h.symm,λh=>d5 h.symm,λh=>i5 h.symm],#[λh=>(qs cc) h.symm,λh=>d6 h.symm,λh=>i6 h.symm],#[λh=>d7 h.symm,λh=>i7 h.symm],λh=>i8 h.symm]
 .intro b J;unfold PA.nine at J;simp only[BY,DO,or_false]at J;rcases J with J|J|J|J|J|J|J|J|J<;>rw[J]
  .show .inl rfl
  .show .inr aB
  .show .inr U
  .show .inr Y
  .show .inr a5
  .show .inr b5
  .show .inr c5
  .show .inr d8
  .show .inr i9
 .change upd (upd H7 G (.lst [])) p _ G=_;rw[ai i1,ae];rfl
 .intro b;change(replicate _ _).length<=60;rw[OV];cases b
  .show n2
  .show n1
 .change upd (upd H7 G (.lst [])) p _ I=_;rw[ai d1,ai (qs i8)];show bl
theorem Mw:aE ["self","frames","slots"] ["self","frames","slots"] (aw xZ):=L2.bN
theorem DU{f aB:Addr}{fd am:p4}{c:CA}(F:cE K "__init__" "Rooms.__init__" xZ f fd)(T:mY K mg c)(MP:Mk K c.P aB)(aT:mg "Paging" = some (.ref c.P))
  (a6:↥aV 3 aB am ["self","frames","slots"] (ug c.P c.S)) (a0:Binds K am ["self","frames","slots"] []):↥aV 5 f fd ["self","frames","slots"] (sf c):=by
 show F.dS Mw (λba A outer s H vs Q E hr h=>?_);let#[p,dx,nf,ns,rfl,n1,n2,n3,hp,k]:=h;show#[_,(aj (gp (pv 0) (ng MP a6 (hr.mono ar) (by rfl) aT a0 .nil aC (aa (pv 1) (aa (pv 2) ag))) rfl)
  (aj (gp (pv 0) (az bu (pv 1) (pv 2)) rfl)
  (ao (gp (pv 0) dQ rfl)))),?_]
 show#[0,0,λpg a4 ab a2 bb=>#[pg,a4,nf,ns,rfl,n1,n2,ae,λH1 G eA a8 ah GA o1=>#[5]]];let Y:aP H H1:=λb u e=>o1 b u (by rw[ai (au e ab),ai (au e a2)];show e) (au e ab);let fr:∀b∈G.nine,H b=none:=λb L=>by
  rcases ah b L with h|h
  .rw[h];show ab
  .show(cL (cL h).2).2
 let ap:=Y _ _ hp;clear o1 ah;show#[0,p,c.C,dx,[],rfl,ap,T.cl,T.nP,ar,?_];show#[0,0,_,0,5];show#[0,p,c.C,dx,0,ae,T.cl,T.nT,by change 1<1000;decide,?_];rw[<-eA];let O:Off (· = p) H1 (upd (upd H1 p (.ins c.C dx (bt "paging" (.ref G.pg) []))) p (.ins c.C dx (bt "total" (.int ((nf:Int)+ns)) (bt "paging" (.ref G.pg) [])))):=λb o e z=>(by rw[ai z,ai z];show e);let ac:upd (upd H1 p (.ins c.C dx (bt "paging" (.ref G.pg) []))) p (.ins c.C dx (bt "total" (.int ((nf:Int)+ns)) (bt "paging" (.ref G.pg) []))) p=some (.ins c.C dx (bt "total" (.int ((nf:Int)+ns)) (bt "paging" (.ref G.pg) []))):=ae;generalize upd (upd H1 p (.ins c.C dx (bt "paging" (.ref G.pg) []))) p (.ins c.C dx (bt "total" (.int ((nf:Int)+ns)) (bt "paging" (.ref G.pg) [])))=H3 at *;intro rd J;let N:rd≠p:=qs (au ac J);show#[0,p,c.C,dx,0,by rw[ai (qs N)];show ac,T.cl,T.nR,by change 2<1000;decide,?_];let o5:Off (· = p) H1 (upd (upd H3 rd (.dK [])) p (.ins c.C dx (fJ G.pg ((nf:Int)+ns) rd))):=λb o e z=>(by rw[ai z,ai (au (O b o e z) J)];show O b o e z);let U:∀b∈G.nine,b≠p:=λb L z=>(by rw[z]at L;have:=fr p L;rwa[hp]at this);let R:∀b,G.own b->b∈G.nine:=λb h=>by
  unfold PA.own at h;unfold PA.nine;simp only[BY,DO,or_false]at h ⊢;rcases h with h|h|h|h|h|h|h<;>simp[h]
 let n9:∀i {b},G.nine[i]?=some b->b≠p:=λi b h=>U b (z6 h);let G5:∀M,bR c.P c.S (upd (upd H3 rd (.dK [])) p (.ins c.C dx (fJ G.pg ((nf:Int)+ns) rd))) M G (s0 nf ns):=λM=>(GA λb=>M b\/b=p).move o5 (λb z=>.inr z) (λb z=>.inl (.inl z)) (λb z=>U b (R b z)) (n9 1 rfl) (n9 4 rfl) (λb xs e z=>by rwa[z,ap]at e);let a5:upd (upd H3 rd (.dK [])) p (.ins c.C dx (fJ G.pg ((nf:Int)+ns) rd)) p=some (.ins c.C dx (fJ G.pg ((nf:Int)+ns) rd)):=ae;let as:upd (upd H3 rd (.dK [])) p (.ins c.C dx (fJ G.pg ((nf:Int)+ns) rd)) rd=some (.dK []):=(by rw[ai N,ae]);let El:¬ rd∈G.nine:=λz=>by
  let a3:=oG (GA λ_=>False) rd z;cases e:H1 rd with
  |none=>show a3 e
  |some u=>rwa[O _ _ e N]at J
 let a7:H rd=none:=by
  cases e:H rd with
  |none=>rfl
  |some u=>rwa[O _ _ (Y _ _ e) N]at J
 let a1:Off (· = p) H (upd (upd H3 rd (.dK [])) p (.ins c.C dx (fJ G.pg ((nf:Int)+ns) rd))):=λb o e z=>o5 b o (Y b o e) z;show k _ (λb=>b∈G.nine\/b=rd) #[G,p,rd] rfl #[#[dx,?_],G5 _,#[a8,λx I=>.inl I],λb z=>?_,as,Qo,(λx I=>by cases I),(λx I=>by cases I),(λx I=>by cases I),(λx I=>by cases I),.inr rfl,λz=>El (R _ z),λz=>U _ (R _ z) rfl] (λb z=>z.elim (fr b) λz=>by rw[z];show a7) a1
 .let e:bL (s0 nf ns)=(nf:Int)+ns:=by
   unfold bL;rw[show((s0 nf ns).ow true).length=nf from OV,show((s0 nf ns).ow false).length=ns from OV];omega
  rw[e];show a5
 .rcases z with z|z
  .show oG (G5 λ_=>False) b z
  .intro w;rw[z]at w;show absurd (as.symm.trans w) (by simp)
end St
namespace HT
open PySem PySem.Spec PyProof.Rows
section
variable{prog:se}{A:L7}{E:Xp}{s:kz}
theorem kW{t sl:Addr}{items:Xt}{I L:Value}{lo hi:Option Int}{Q:Xp}(G:WL s.heap t items)(hs:s.heap.IsSliceOf sl I L .none)(pl:Uc I lo)(S:Uc L hi)
  (J:dE items.size 0 lo=0/\dE items.size items.size hi=items.size) (h:Q (.ref t) s):wpAny (model prog w) A (RN (.ref t) (.ref sl)) Q E s:=by
 let#[os,R,O,Y]:=id hs;let U:s.TypeIs (.ref sl) "slice" := #[os,R,O];unfold RN
 try with_reducible show Py ?_
 first|show k9 (wpAny_pure ?_)|skip
 show k9 (Vp G.typeIs ar ?_);show k9 (Tx (name:=Str.ofString "__getitem__") G.typeIs OO
  (RG OO G.typeIs US ?_ (U5 _ _)))
 change wpAny _ _ (Builtin.Tuple.tupleItemsOf (.ref t)>>=_) _ _ s;show k9 (tupleItemsOf_ G ?_);show k9 (Ud U ?_);rw[Xl ar];show k9 (gU hs pl S ?_);let N:(((dE items.size 0 lo:Nat):Int)==0&&(1:Int)==1&&(dE items.size items.size hi-dE items.size 0 lo)==items.size)=true:=by
  rw[J.1,J.2];simp
 change wpAny _ _ (if (((dE items.size 0 lo:Nat):Int)==0&&(1:Int)==1&&(dE items.size items.size hi-dE items.size 0 lo)==items.size)=true then _ else _) _ _ s;rw[Xl N];unfold Builtin.Tuple.tupleIsExact;show k9 (k9 (Ud G.typeIs (wpAny_pure ?_)));rw[Xl ar];show k9 (QZ ?_);show wpAny_pure #[0,wpAny_pure h]
end
end HT
namespace L2
open PySem PySem.Spec PyProof.Rows
inductive Gx(K:HC)(x:V)(lo:Option Int)(hi:Option Int)(H:Hp)(Q:VK):Prop
 |mk(a:_)(xs:_)(_:x=.ref a)(_:bP K H a xs)(_:((HT.dE xs.length 0 lo=0/\HT.dE xs.length xs.length hi=xs.length)->Q (.ref a) H))(_:(¬ (HT.dE xs.length 0 lo=0/\HT.dE xs.length xs.length hi=xs.length)->∀p,H p=none->Q (.ref p) (upd H p (.tup (fA xs lo hi)))))
theorem jz{X:Cx}:Kv X (Gx X.K):=by
 intros x v O Y lo hi sl Q I J hs pl N h;let#[a,xs,rfl,G,R,U]:=h;cases c:HT.dE xs.length 0 lo=0/\HT.dE xs.length xs.length hi=xs.length
 .cases J;let#[its,r,L,hz]:=I.tuple G;let S:its.toArray.size=xs.length:=(by rw[qi];show r.length.symm);show#["tuple",_,OO.lookup,L.typeIs,?_];show HT.kW L hs pl N (by rw[S];show c) #[.ref a,H,I,rfl,R c]
 .show IJ pins s σ H (.ref a) v O Y lo hi sl Q I J hs pl N #[a,xs,rfl,G,c,U c]
theorem rR{a:Addr}{o:Obj}{kvs:List (Key×V)}{g:TG}{tb:TS}{D:Ends}{σ:St}{H:Hp}(Pv:Nat->St->Hp->Prop)(S:Pv 0 σ H)(U:∀i σ H,i<=kvs.length->Pv i σ H->H a=some (.cW o (.dK kvs)))
  (hs:∀i k v σ H T,kvs[i]?=some (k,v)->H T=none->Pv i σ H->g (.ref T) σ (upd H T (.tup [kV k,v])) λJ H2=>tb { D with nx:=Pv (i+1),ct:=Pv (i+1),bk:=D.nx } J H2) (hd:∀σ H,Pv kvs.length σ H->D.nx σ H) :
  ∃W:Nat->Nat->St->Hp->Prop,(∃m,W 0 m σ H)/\∀i m σ H,W i m σ H ->
   ((Jz a o kvs).stop i H/\D.nx σ H)\/((Jz a o kvs).go i H/\∃N:St->Hp->Prop,(∀I H',N I H'->∃L,L<m/\W (i+1) L I H')/\∀x H',(Jz a o kvs).En i H x H'->g x σ H' λJ H2=>tb { D with nx:=N,ct:=N,bk:=D.nx } J H2):=by
 show#[λi m σ H=>m=kvs.length-i/\i<=kvs.length/\Pv i σ H,#[kvs.length,by simp,OB _,S],?_];rintro i m σ H ⟨rfl,hi,p⟩;let q:=U i σ H hi p;cases G:i<kvs.length
 .show .inr #[#[q,G],Pv (i+1),λI H' Y=>#[kvs.length-(i+1),OU (PZ kvs) i G,rfl,G,Y],?_];rintro v H' ⟨T,k,x,rfl,O,R,rfl⟩;show hs i k x σ H T R O p
 .let e:i=kvs.length:=af;subst e;show .inl #[#[q,ti _],hd σ H p]
theorem wL{a:Addr}{o:Obj}{kvs:List (Key×V)}{caps:List (Str×Nat)}{te:TE}{σ:St}{H:Hp}{J:List V->Hp->Prop}(Pv:Nat->List V->Hp->Prop)(O:Pv 0 [] H)
  (R:∀i zs H,i<=kvs.length->Pv i zs H->H a=some (.cW o (.dK kvs)))
  (hs:∀i k v zs H,kvs[i]?=some (k,v)->Pv i zs H->te (gL caps σ (some v)) H (λz H3=>zs.length<sizeLine/\Pv (i+1) (zs++[z]) H3))
  (hd:∀zs H,Pv kvs.length zs H->J zs H):∃W:Nat->Nat->List V->Hp->Prop,(∃m,W 0 m [] H)/\iX caps qx te σ (Lx a o kvs) J W:=by
 show#[λi m zs H=>m=kvs.length-i/\i<=kvs.length/\Pv i zs H,#[kvs.length,by simp,OB _,O],?_];rintro i m zs H ⟨rfl,hi,p⟩;let I:=R i zs H hi p;cases G:i<kvs.length
 .show .inr #[#[I,G],Pv (i+1),λS H' L=>#[kvs.length-(i+1),OU (PZ kvs) i G,rfl,G,L],?_];rintro v H' ⟨rfl,k,N⟩;unfold qx;dsimp only;rw[Xl rfl];show hs i k v zs H' N p
 .let e:i=kvs.length:=af;subst e;show .inl #[#[I,ti _],hd zs H p]
section
variable{X:Cx}
theorem xS:eJ X (.type "dict") (λxs H Q=>∃(d:Addr)(kvs:List (Key×V)),xs=[.ref d]/\H d=some (.dK kvs)/\∀a,H a=none->Q (.ref a) (upd H a (.dK kvs))):=by
 intros xs us Q I r h;let#[d,kvs,rfl,hd,q]:=h;let#[u,rfl,N]:=vals1 r;obtain rfl:u=Value.ref d:=N;let#[R,L,vs,G,dd]:=jm I.bK hd;let S:=G.length;show kt_call_dict (knd:=bG X.prog X.w) L dd af λh' O J=>?_;show#[.ref s⁻¹,_,I.laid (t':=s.toks) (h':=h') (λb o e=>?_) (ti _) (oa R ?_ G O),rfl,q _ I.fresh]
 .show(J.2 b (OR (Heap.lt_size e))).trans (Heap.get?_push_of_some _ e)
 .show beq_false_of_ne (Vj I.big)
theorem range_any(bs:List Bool):((NC bs.length).any λi=>(bs[i]?).getD true)=bs.any id:=by
 rw[QN,RK,RK];constructor
 .rintro⟨i,hi,e⟩;let G:=OH.mp hi;rw[vu G,VM]at e;show#[_,Qd G,e]
 .rintro⟨b,I,e⟩;let#[i,hi,J]:=PD I;show#[i,OH.mpr hi,?_];rw[vu hi,VM,J];show e
theorem IX:OD "any" = some (.builtin "any"):=aq
theorem zq(hc:X.calm=true):eJ X (.builtin "any") (λxs H Q=>∃(l:Addr)(bs:List Bool),xs=[.ref l]/\bw X.K H l (bs.map V.bl)/\Q (.bl (bs.any id)) H):=by
 intros xs us Q I r h;let#[l,bs,rfl,hl,q]:=h;let#[u,rfl,ru]:=vals1 r;obtain rfl:u=Value.ref l:=ru;let#[its,rv,p,_]:=I.list hl;let R:=ue rv;subst R;let J:=p.isList;let U:l<s⁻¹:=let ⟨_,e,_⟩:=J;Heap.lt_size e;show call_any_walk (S6 J ?_);show#[s⁻¹,[s⁻¹,l],[s⁻¹],(bs.map Value.bool).toArray.size,2,λi=>(bs[i]?).getD true,rfl,Xj (A:=X.A.in1) (I.ok.hd hc) _ l (OR U) (bs.map Value.bool).toArray,
  #[#[_,Heap.get?_push_size _ rfl,1],J.push _],λi v s' Q' E' Y N=>?_,λh' tk O=>?_]
 .let ab:(bs.map Value.bool).toArray[i]?=some v:=Y;let G:(bs.map Value.bool)[i]?=some v:=‹ab›;rw[t5]at G;cases L:bs[i]? with
  |none=>rwa[L]at G
  |some b =>
   rw[L]at G;let S:Value.bool b=v:=rn G;subst S;simp only[L,VM]at N;show Pz N
 .let e:((NC (bs.map Value.bool).toArray.size).any λi=>(bs[i]?).getD true)=bs.any id:=by
   rw[qi,mu];show range_any bs
  rw[e];show#[.bl _,H,I.kept (WJ O),rfl,q]
def JB:zV:=λo i v H Q=>∃a H',o=.ref a/\hU H a i v H'/\Q H'
theorem set_dict(O:X.A.units+1<QO):FG X JB:=by
 intros o i v ov R u Q I L J N h;let#[a,H',rfl,g,q]:=h;obtain rfl:ov=Value.ref a:=L;show qX O I g J N λs' G=>#[H',G,q]
end
end L2
namespace Lw
open PySem L2 St
abbrev xD:Ow:=top 35
abbrev tJ:Ow:=top 36
abbrev xf:Ow:=top 37
abbrev qq:Ow:=top 38
abbrev xC:Ow:=top 40
abbrev xr:Ow:=top 41
abbrev oS:Ow:=top 42
abbrev II:Ow:=top 43
abbrev Eb:Ow:=top 44
abbrev nD:Ow:=top 45
abbrev wY:Ow:=top 48
structure mS(mg:Xq):Prop where
 range:mg "range" = none
 enumerate:mg "enumerate" = none
 sum:mg "sum" = none
 int:mg "int" = none
 wC:mg "isinstance" = none
 min:mg "min" = none
 max:mg "max" = none
 list:mg "list" = none
 len:mg "len" = none
 dict:mg "dict" = none
 bool:mg "bool" = none
 tuple:mg "tuple" = none
 sorted:mg "sorted" = none
 all:mg "all" = none
 any:mg "any" = none
inductive sk(vs:List V)(H:Hp)(Q:VK)(e:XK):Prop
 |mk(c k:Int)(_:vs=[.int c,.int k])(_:∀v:Int,Q (.int v) H)
inductive oV(K:HC)(vs:List V)(H:Hp)(Q:VK)(e:XK):Prop
 |mk(a:Addr)(ns:List Int)(k:Nat)(_:vs=[.ref a,.int k])(_:bw K H a (ns.map V.int))(_:ns.length<=100)(_:k<=100)(_:∀(v:Int)(H':Hp),aP H H'->Q (.int v) H')
inductive sZ(v:List V)(H:Hp)(Q:VK)(e:XK):Prop
 |mk(i:Int)(_:v=[.int i])(_:Q (.bl true) H)
inductive ma(v:List V)(H:Hp)(Q:VK)(e:XK):Prop
 |mk(m:Int)(n:Nat)(_:v=[.int m,.int n])(_:n<=100)(_:∀(cs:List Int)(H':Hp)(l:Addr),cs.length=n->aP H H'->H l=none->H' l=some (.lst (cs.map V.int))->Q (.ref l) H')
def qz(m:Int):List Int:=[2,3,2+m/4%5,2+m/4%39]
def uQ(m:Int):List Int:=[m/200%8,m/200%61,60]
def jx(m:Int):Nat:=((qz m).getD (m%4).toNat 0).toNat
def jN(m:Int):Nat:=((uQ m).getD (m/9%3).toNat 0).toNat
theorem at_of{xs:List Int}{i n:Int}(I:0<=i)(h1:i<n)(J:n=xs.length):AW (xs.map V.int) i=some (.int (xs.getD i.toNat 0))/\xs.getD i.toNat 0∈xs:=by
 obtain⟨j,rfl⟩:∃j:Nat,i=j:=#[i.toNat,Pn Int.eq_natCast_toNat I];let G:j<xs.length:=af;let e:xs.getD (TV (j:Int)) 0=xs[j]:=(by simp[G]);rw[e];show#[kD (by rw[t5,vu G];rfl),Qd G]
theorem DQ(m:Int):AW ((qz m).map V.int) (m%4)=some (.int (jx m))/\2<=jx m/\jx m<=40:=by
 let#[h1,h2]:=at_of (xs:=qz m) (i:=m%4) (n:=4) af af rfl;let G:2<=(qz m).getD (m%4).toNat 0/\(qz m).getD (m%4).toNat 0<=40:=by
  unfold qz at h2 ⊢;simp only[BY,DO,or_false]at h2;rcases h2 with h|h|h|h<;>rw[h]<;>omega
 let e:((jx m:Nat):Int)=(qz m).getD (m%4).toNat 0:=(by unfold jx;omega);rw[e];show#[h1,by unfold jx;omega,by unfold jx;omega]
theorem CQ(m:Int):AW ((uQ m).map V.int) (m/9%3)=some (.int (jN m))/\jN m<=60:=by
 let#[h1,h2]:=at_of (xs:=uQ m) (i:=m/9%3) (n:=3) af af rfl;let G:0<=(uQ m).getD (m/9%3).toNat 0/\(uQ m).getD (m/9%3).toNat 0<=60:=by
  unfold uQ at h2 ⊢;simp only[BY,DO,or_false]at h2;rcases h2 with h|h|h<;>rw[h]<;>omega
 let e:((jN m:Nat):Int)=(uQ m).getD (m/9%3).toNat 0:=(by unfold jN;omega);rw[e];show#[h1,by unfold jN;omega]
inductive uq(v:List V)(H:Hp)(Q:VK)(e:XK):Prop
 |mk(m:Int)(_:v=[.int m])(_:∀(H':Hp)(t:Addr),aP H H'->H t=none->H' t=some (.tup [.int (jx m),.int (jN m)])->Q (.ref t) H')
theorem MO(x y:Int):BZ (x%2305843009213693951) y:=by
 have:=Pu x (show(2305843009213693951:Int)≠0 by decide);have:=Pc x (show(0:Int)<2305843009213693951 by decide);show .inl #[af,af]
theorem J4(x y:Int):BZ (x%2305843009213693907) y:=by
 have:=Pu x (show(2305843009213693907:Int)≠0 by decide);have:=Pc x (show(0:Int)<2305843009213693907 by decide);show .inl #[af,af]
theorem LB:aE ["_law_cell","_law_k","_law_once","_law_twice"] ["_law_cell","_law_k"] (aw xD):=L2.bN
theorem Bs(F:cE K "_law_mixed" "_law_mixed" xD f fd):↥aV 1 f fd ["_law_cell","_law_k"] sk:=by
 show F.dS LB (λG A outer s H vs Q E I h=>?_);let#[c,j,rfl,k]:=h;show#[_,(aj (dt 2 LB.nd (az br (az fY (az bu (az bu (az br (pv 0) ak) (az fY ak (pv 1))) ak) ak) ak))
  (aj (dt 2 LB.nd (az br (az fY (pv 2) (pv 2)) ak))
  (aj (dt 3 LB.nd (az br (az fY (az bu (az bu (pv 2) (az fY ak (pv 1))) ak) ak) ak))
  (ao (aK (az bu (az fY (az br (az fY (pv 3) (pv 3)) ak) ak) (pv 2))))))),?_]
 show#[0,_,0,rfl,(by change(0:Int)<2305843009213693951;decide),0,_,0,rfl,.inl #[ar,ar],_,0,4,0,4,0,rfl,.inr #[ar,ar],_,0,rfl,(by change(0:Int)<2305843009213693951;decide),?_];show#[0,0,_,0,rfl,MO _ _,_,0,rfl,(by change(0:Int)<2305843009213693921;decide),?_];show#[0,0,_,0,rfl,.inl #[ar,ar],_,0,4,0,4,0,rfl,.inr #[ar,ar],_,0,rfl,(by change(0:Int)<2305843009213693907;decide),?_];show#[0,0,_,0,rfl,J4 _ _,_,0,rfl,(by change(0:Int)<2305843009213693951;decide),_,0,rfl,.inr #[ar,ar],0,_,0,rfl,k _]
theorem Kl:aE ["_law_script","_law_k","_law_cell"] ["_law_script","_law_k"] (aw tJ):=L2.bN
theorem zJ(F:cE K "_law_number" "_law_number" tJ f fd)(T:mS mg)(GM:↥Df 1 "_law_mixed" sk):↥aV 2 f fd ["_law_script","_law_k"] (oV K):=by
 show F.dS Kl (λac A outer s H vs Q E hr h=>?_);let#[a,ns,j,rfl,J,hn,hj,k]:=h;let hs:=vl;show#[_,(aj (dt 2 Kl.nd (aY cn (az um (cJ gh (pv 0) (cN (pv 1)) (cN (az bu (pv 1) ak))) (bV (aa (az bu (az fY (pv 1) (pv 1)) ak) ag))) ak cz))
  (aj (aU (aD bH (az br (aQ (pW rfl) (by rfl) T.sum xT (aa (cJ gh (pv 0) eg (cN ak)) ag)) ak) ak (aG _)) (ao (aK (az br (pv 2) (az wg ak ak)))) aI)
  (ao (aK (pc GM hr aC (aa (pv 2) (aa (pv 1) ag))))))),?_]
 show iT λ_ jt=>?_;let ec:fA (ns.map V.int) (some (j:Int)) (some ((j:Int)+1))=((ns.drop j).take 1).map V.int:=Rm.sO (n:=1);show#[0,0,0,0,_,0,rfl,0,a,0,J,λp hp=>?_];change Ki _ _ (upd H p (.lst (fA (ns.map V.int) (some (j:Int)) (some ((j:Int)+1))))) _;rw[ec];let s1:=Tb.av (X:=.lst (((ns.drop j).take 1).map V.int)) hp;let h1:upd H p (.lst (((ns.drop j).take 1).map V.int)) p=some (.lst (((ns.drop j).take 1).map V.int)):=ae;generalize upd H p (.lst (((ns.drop j).take 1).map V.int))=H1 at *;show#[0,0,_,0,rfl,.inl #[Rp Rat.intCast_lt_intCast rfl,af],_,0,rfl,sH,λp2 R=>?_];let s2:=Tb.av (X:=.lst [V.int ((j:Int)*j+3)]) R;show#[p,p2,_,0,rfl,s2 _ _ h1,ae,?_,λI U=>?_]
 .rw[mu,Oj];change min 1 _+1<=sizeLine;omega
 let s3:=Tb.av (X:=.lst (((ns.drop j).take 1).map V.int++[V.int ((j:Int)*j+3)])) U;let O:((ns.drop j).take 1).map V.int++[V.int ((j:Int)*j+3)]=((ns.drop j).take 1++[(j:Int)*j+3]).map V.int:=(by rw[L0];rfl);let G:=s1.trans (s2.trans s3);let#[L,_]:=at_of (xs:=(ns.drop j).take 1++[(j:Int)*j+3]) (i:=0) (n:=((ns.drop j).take 1++[(j:Int)*j+3]).length) (OX _) (by rw[wh,Po];omega) rfl;rw[<-O]at L;show#[I,_,(0),0,rfl,bw.of ae,L,jt _ _ ?_];generalize ((ns.drop j).take 1++[(j:Int)*j+3]).getD (TV 0) 0=cl;let Y:=Rm.fg J (G _);change cy _ _ _ _ (upd (upd H1 p2 (.lst [V.int ((j:Int)*j+3)])) I (.lst (((ns.drop j).take 1).map V.int++[V.int ((j:Int)*j+3)])));generalize upd (upd H1 p2 (.lst [V.int ((j:Int)*j+3)])) I (.lst (((ns.drop j).take 1).map V.int++[V.int ((j:Int)*j+3)]))=H3 at *;let N:fA (ns.map V.int) none (some (1:Int))=(ns.take 1).map V.int:=Rm.ph (s:=1);show#[0,0,a,0,Y,λS ab=>?_];let s4:=Tb.av (X:=.lst ((ns.take 1).map V.int)) ab;show#[S,ns.take 1,rfl,bw.of (by rw[<-N];show ae),_,0,rfl,Cf,rfl,0,?_];rw[show fA (ns.map V.int) none (some (1:Int))=(ns.take 1).map V.int from N];show gM (λ_=>?_) (λ_=>?_)
 .show#[0,_,0,rfl,#[ar,ar,ar],_,0,rfl,(by change(0:Int)<10^40;decide),k _ _ (G.trans s4)]
 .show#[0,0,cl,j,rfl,λv=>k v _ (G.trans s4)]
theorem MX:aE ["_law_found"] ["_law_found"] (aw xf):=L2.bN
theorem Bp(F:cE K "_law_whole" "_law_whole" xf f fd)(T:mS mg):↥aV 1 f fd ["_law_found"] sZ:=by
 show F.dS MX (λG A outer s H vs Q E I h=>?_);let#[i,rfl,k]:=h;show#[_,(ao (aK (IP (aQ eM (by rfl) T.wC bB (aa (pv 0) (aa (fB (v:=.ty "int") (by rfl) T.int ja rfl) ag))) (Bz (HN (aQ eM (by rfl) T.wC bB (aa (pv 0) (aa (fB (v:=.ty "bool") (by rfl) T.bool E9 rfl) ag)))))))),?_];show#[0,.int i,"int",_,true,rfl,.int i,HB _,true,rfl,eS #[0,.int i,"bool",_,false,rfl,.int i,G8 _,false,rfl,k]]
theorem FJ:aE ["_law_m","_law_many","_law_cells_here","_law_k"] ["_law_m","_law_many"] (aw qq):=L2.bN
theorem wZ(F:cE K "_law_cells" "_law_cells" qq f fd)(T:mS mg):↥aV 1 f fd ["_law_m","_law_many"] ma:=by
 show F.dS FJ (λU A outer s H vs Q E Y h=>?_);let#[m,n,rfl,S,k]:=h;let hs:=vl;show#[_,(aj (dt 2 FJ.nd (bV ag))
  (aj (dD Ol rfl (An (by rfl) T.range (aa (pv 1) ag)) (gH 3 FJ.nd) (aj (aO (gq OM PX PY ic (pv 2) (aa (az br (az bu (pv 0) (az fY (az fY ak (pv 3)) (az br (az bo (pv 0) ak) ak))) ak) ag)))
  (ao (aU (aD bH (az br (pv 3) ak) ak (aG _)) (ao (dt 0 FJ.nd (az bo (pv 0) ak))) aI))))
  (ao (aK (pv 2))))),?_]
 show#[ar,λl J=>?_];let s0:=Tb.av (X:=.lst []) J;show#[0,0,af,af,?_];show jD (lo:=0) (n:=(n:Int).toNat) (λi σ H2=>KU λ(G:Int)(I:Option V)(cs:List Int)=>Ju (σ=#v[.int G,.int n,.ref l,I]) (cs.length=i) (H2 l=some (.lst (cs.map V.int))) (aP H H2)) #[m,_,[],1,ae,s0] ?_ ?_
 .rintro i σ H2 hi ⟨G,I,cs,rfl,R,h2,s2⟩;show#[0,.inl #[4,bw.of h2],0,0,_,0,rfl,.inl #[ar,ar],0,_,0,rfl,#[ar,ar],_,0,rfl,(by change(0:Int)<7;decide),_,0,rfl,.inr #[3],_,0,4,0,rfl,(by change(0:Int)<256;decide),l,_,0,rfl,h2,by rw[mu];omega,?_]
  .have:=Pu (G/256) (show(7:Int)≠0 by decide);omega
  .have:=Pc (G/256) (show(0:Int)<7 by decide);omega
  let s3:=Rm.E5 s2 J (X:=.lst ((cs++[(G+37*(0+(i:Int))*(G/256%7))%256]).map V.int));let L:cs.map V.int++[V.int ((G+37*(0+(i:Int))*(G/256%7))%256)]=(cs++[(G+37*(0+(i:Int))*(G/256%7))%256]).map V.int:=(by rw[L0];rfl);show#[0,_,0,rfl,xi,rfl,0,?_];let O:(cs++[(G+37*(0+(i:Int))*(G/256%7))%256]).length=i+1:=(by rw[wh,R];rfl);rw[<-L]at s3;let N:upd H2 l (.lst (cs.map V.int++[V.int ((G+37*(0+(i:Int))*(G/256%7))%256)])) l=some (.lst ((cs++[(G+37*(0+(i:Int))*(G/256%7))%256]).map V.int)):=(by rw[<-L];show ae);show gM (λ_=>#[0,_,0,rfl,#[ar,ar],2,0,O,N,s3]) (λ_=>#[2,0,O,N,s3])
 .rintro σ H2 ⟨G,I,cs,rfl,R,h2,s2⟩;show#[0,k cs H2 l af s2 J h2]
theorem Kx:aE ["_law_m","_law_frames"] ["_law_m"] (aw wY):=L2.bN
theorem BC(F:cE K "_law_sizes" "_law_sizes" wY f fd):↥aV 1 f fd ["_law_m"] uq:=by
 show F.dS Kx (λY A outer s H vs Q E hr h=>?_);let#[m,rfl,k]:=h;show#[_,(aj (dt 1 Kx.nd (aY cn (bV (aa ak (aa ak (aa (az bu ak (az br (az bo (pv 0) ak) ak)) (aa (az bu ak (az br (az bo (pv 0) ak) ak)) ag))))) (az br (pv 0) ak) cz))
  (ao (aK (cI (aa (pv 1) (aa (aY cn (bV (aa (az br (az bo (pv 0) ak) ak) (aa (az br (az bo (pv 0) ak) ak) (aa ak ag)))) (az br (az bo (pv 0) ak) ak) cz) ag)))))),?_]
 let#[R,_]:=DQ m;let#[S,_]:=CQ m;show iT λ_ N=>?_;show#[0,_,0,rfl,#[ar,ar],_,0,rfl,(by change(0:Int)<5;decide),_,0,rfl,0,_,0,rfl,#[ar,ar],_,0,rfl,(by change(0:Int)<39;decide),_,0,rfl,uI,λG U=>#[0,_,0,rfl,Iv,G,2,.int (jx m),1,bw.of ae,R,N _ _ ?_]];let s0:=Tb.av (X:=.lst ((qz m).map V.int)) U;change zW _ _ _ (upd H G (.lst ((qz m).map V.int)));generalize upd H G (.lst ((qz m).map V.int))=H1 at *;show#[0,0,_,0,rfl,#[ar,ar],_,0,rfl,xi,0,_,0,rfl,#[ar,ar],_,0,rfl,(by change(0:Int)<61;decide),Ll,λO L=>#[0,_,0,rfl,#[ar,ar],_,0,rfl,J0,O,2,.int (jN m),1,bw.of ae,S,dZ,λt J=>?_]];let I:=Tb.av (X:=.lst ((uQ m).map V.int)) L;let s2:=Tb.av (X:=.tup [.int (jx m),.int (jN m)]) J;show k _ t (s0.trans (I.trans s2)) (s0.free (I.free J)) ae
structure MT where
 ra:Addr
 sa:Addr
 pl:List (Int×Addr×Int)
abbrev Zs:=List (Int×MT)
def ij(z:MT):V:=.ref z.ra
def uF(z:MT):V:=.ref z.sa
def fU(x:Addr×Int):V:=.ref x.1
def qI(x:Addr×Int):V:=.int x.2
def qC(G ls:Addr)(bL pk:Int):List (Key×V):=[(Oi "rooms",.ref G),(Oi "stands",.ref ls),(Oi "total",.int bL),(Oi "pokes",.int pk)]
structure MA where
 md:Addr
 lr:Addr
 ls:Addr
structure cF(H:Hp)(m:MA)(bL pk:Int)(Z:Zs):Prop where
 hm:H m.md=some (.dK (qC m.lr m.ls bL pk))
 hr:H m.lr=some (.dK (Tb.dk ij Z))
 hs:H m.ls=some (.dK (Tb.dk uF Z))
 rm:∀x∈Z,H x.2.ra=some (.dK (Tb.dk fU x.2.pl))
 st:∀x∈Z,H x.2.sa=some (.dK (Tb.dk qI x.2.pl))
 cl:∀x∈Z,∀y∈x.2.pl,∃ns:List Int,H y.2.1=some (.lst (ns.map V.int))/\ns.length=8
 nd:(Z.map (·.1)).Nodup
 np:∀x∈Z,(x.2.pl.map (·.1)).Nodup
 rg:∀x∈Z,∀y∈x.2.pl,0<=y.1/\y.1<64
 da:∀x∈Z,∀y∈Z,x.1≠y.1->x.2.ra≠y.2.ra/\x.2.sa≠y.2.sa
 rs:∀x∈Z,∀y∈Z,x.2.ra≠y.2.sa
 d3:∀x∈Z,x.2.ra≠m.md/\x.2.ra≠m.lr/\x.2.ra≠m.ls/\x.2.sa≠m.md/\x.2.sa≠m.lr/\x.2.sa≠m.ls
 n3:m.md≠m.lr/\m.md≠m.ls/\m.lr≠m.ls
def cZ(m:MA)(Z:Zs):Addr->Prop:=λb=>b=m.md\/b=m.lr\/b=m.ls\/∃x∈Z,b=x.2.ra\/b=x.2.sa\/∃y∈x.2.pl,b=y.2.1
theorem ks_ne{a b:Str}(h:a≠b):¬ V.str a=V.str b:=λe=>h (by injection e)
theorem E4(G ls:Addr)(bL pk:Int):eL (qC G ls bL pk) (Oi "rooms")=some (.ref G):=fO rfl
theorem NL:¬ ((Oi ("rooms" : Str):Key)=Oi ("stands" : Str)):=aq
theorem NN:¬ ((Oi ("rooms" : Str):Key)=Oi ("total" : Str)):=aq
theorem MZ:¬ ((Oi ("rooms" : Str):Key)=Oi ("pokes" : Str)):=aq
theorem NW:¬ ((Oi ("stands" : Str):Key)=Oi ("total" : Str)):=aq
theorem Nw:¬ ((Oi ("stands" : Str):Key)=Oi ("pokes" : Str)):=aq
theorem Mu:¬ ((Oi ("total" : Str):Key)=Oi ("pokes" : Str)):=aq
theorem Mq(G ls:Addr)(bL pk:Int):eL (qC G ls bL pk) (Oi "stands")=some (.ref ls):=by
 unfold qC;rw[cA NL,fO rfl]
theorem Kr(G ls:Addr)(bL pk:Int):eL (qC G ls bL pk) (Oi "total")=some (.int bL):=by
 unfold qC;rw[cA NN,cA NW,fO rfl]
theorem Kn(G ls:Addr)(bL pk:Int):eL (qC G ls bL pk) (Oi "pokes")=some (.int pk):=by
 unfold qC;rw[cA MZ,cA Nw,cA Mu,fO rfl]
theorem Aj(G ls:Addr)(bL pk:Int):lQ [] (qC G ls bL pk)=qC G ls bL pk:=by
 let s2:putK ([(Oi "rooms",V.ref G)]:List (Key×V)) (Oi "stands") (V.ref ls)=([(Oi "rooms",V.ref G),(Oi "stands",V.ref ls)]:List (Key×V)):=kJ _ (cA NL);let s3:putK ([(Oi "rooms",V.ref G),(Oi "stands",V.ref ls)]:List (Key×V)) (Oi "total") (V.int bL)=([(Oi "rooms",V.ref G),(Oi "stands",V.ref ls),(Oi "total",V.int bL)]:List (Key×V)):=kJ _ ((cA NN).trans (cA NW));let s4:putK ([(Oi "rooms",V.ref G),(Oi "stands",V.ref ls),(Oi "total",V.int bL)]:List (Key×V)) (Oi "pokes") (V.int pk)=([(Oi "rooms",V.ref G),(Oi "stands",V.ref ls),(Oi "total",V.int bL),(Oi "pokes",V.int pk)]:List (Key×V)):=kJ _ ((cA MZ).trans ((cA Nw).trans (cA Mu)));change putK (putK (putK ([(Oi "rooms",V.ref G)]:List (Key×V)) (Oi "stands") (V.ref ls)) (Oi "total") (V.int bL)) (Oi "pokes") (V.int pk)=_;rw[s2,s3,s4];rfl
theorem CZ(I ls:Addr)(bL pk:Int):(qC I ls bL pk).map (λG=>(kV G.1,G.2))=[(.str "rooms",.ref I),(.str "stands",.ref ls),(.str "total",.int bL),(.str "pokes",.int pk)]:=rfl
section
variable{H H':Hp}{m:MA}{bL pk:Int}{Z:Zs}
theorem cF.g{k:Str}{v:V}(M:cF H m bL pk Z)(h:eL (qC m.lr m.ls bL pk) (Oi k)=some v):dY H m.md (.str k) (some v):=by
 let q:=dY.k (k:=Oi k) M.hm;rw[h]at q;show q
theorem cF.off{B:Xm}(M:cF H m bL pk Z)(o:Off B H H')(h:∀b,cZ m Z b->¬ B b):cF H' m bL pk Z:=by
 show#[o _ _ M.hm (h _ (.inl rfl)),o _ _ M.hr (h _ (.inr (.inl rfl))),o _ _ M.hs (h _ (.inr (.inr (.inl rfl)))),λx G=>o _ _ (M.rm x G) (h _ (.inr (.inr (.inr #[x,G,.inl rfl])))),λx G=>o _ _ (M.st x G) (h _ (.inr (.inr (.inr #[x,G,.inr (.inl rfl)])))),λx G y I=>?_,M.nd,M.np,M.rg,M.da,M.rs,M.d3,M.n3];let#[ns,h1,h2]:=M.cl x G y I;show#[ns,o _ _ h1 (h _ (.inr (.inr (.inr #[x,G,.inr (.inr #[y,I,rfl])])))),h2]
theorem cF.same(M:cF H m bL pk Z)(s:aP H H'):cF H' m bL pk Z:=M.off (B:=λ_=>False) (λb o e _=>s b o e) λ_ _=>id
end
def AV(Z:Zs):Int:=(Z.map λx=>(x.2.pl.length:Int)).sum
inductive sF(v:List V)(H:Hp)(Q:VK)(e:XK):Prop
 |mk(bL:Int)(_:v=[.int bL])(_:∀(H':Hp)(m:MA),aP H H'->H m.md=none->H m.lr=none->H m.ls=none->cF H' m bL 0 []->Q (.ref m.md) H')
inductive lj(v:List V)(H:Hp)(Q:VK)(e:XK):Prop
 |mk(m:MA)(bL pk:Int)(Z:Zs)(_:v=[.ref m.md])(_:cF H m bL pk Z)(_:Z.length<=1000)(_:∀H',aP H H'->Q (.int (AV Z)) H')
def qB(pl:Xr)(ad n:Int):Prop:=n=0\/(0<n/\0<=ad/\ad+n<=512/\∀i:Nat,(i:Int)<n->Tb.look pl ((ad+i)/8)≠none)
inductive l9(v:List V)(H:Hp)(Q:VK)(e:XK):Prop
 |mk(ra:Addr)(pl:Xr)(ad n:Int)(_:v=[.ref ra,.int ad,.int n])(_:H ra=some (.dK (Tb.dk fU pl)))(_ : -1000<=ad)(_:ad<=1000)(_ : -1000<=n)(_:n<=100)(_:∀(b:Bool)(H':Hp),aP H H'->(b=true↔qB pl ad n)->Q (.bl b) H')
theorem Mf:aE ["_law_total"] ["_law_total"] (aw xC):=L2.bN
theorem BK(F:cE K "_law_model" "_law_model" xC f fd):↥aV 1 f fd ["_law_total"] sF:=by
 show F.dS Mf (λac A outer s H vs Q E hr h=>?_);let#[bL,rfl,k]:=h;show#[_,(ao (aK (EN (keys:=[some _,some _,some _,some _]) (values:=[_,_,_,_]) (kB aF dQ (kB aF dQ (kB aF (pv 0) (kB aF ak FU)))) rfl rfl (List.cons_ne_nil _ _) (Uy rfl)))),?_];show λmd S J N ls I=>#[0,?_];let O:J≠md:=λe=>(by rwa[e,ae]at N);let ab:H J=none:=(by rw[ai O]at N;show N);let R:ls≠J:=λe=>(by rwa[e,ae]at I);rw[ai R]at I;let L:ls≠md:=λe=>(by rwa[e,ae]at I);let Y:H ls=none:=(by rw[ai L]at I;show I);show#[by rw[ai (qs L),ai (qs O),ae],qC J ls bL 0,(CZ J ls bL 0).symm,by change 4<=15;decide,?_];rw[Aj];show k _ #[md,J,ls] (λb o e=>?_) S ab Y #[ae,3,(λx G=>by cases G),(λx G=>by cases G),(λx G=>by cases G),Qo,(λx G=>by cases G),(λx G=>by cases G),(λx G=>by cases G),(λx G=>by cases G),(λx G=>by cases G),#[qs O,qs L,qs R]]
 .let U:b≠md:=au e S;rw[ai U,ai (au e Y),ai (au e ab),ai U];show e
 .change upd _ md _ J=_;rw[ai O,ai (qs R),ae];rfl
 .change upd _ md _ ls=_;rw[ai L,ae];rfl
theorem MD:aE ["_law_model_here"] ["_law_model_here"] (aw xr):=L2.bN
theorem Dr(F:cE K "_law_held" "_law_held" xr f fd)(T:mS mg):↥aV 1 f fd ["_law_model_here"] lj:=by
 show F.dS MD (λab A outer s H vs Q E hr h=>?_);let#[m,bL,pk,Z,rfl,M,lz,k]:=h;let hs:=vl;show#[_,(ao (aK (aQ (pW rfl) (by rfl) T.sum xT (aa (yU (iE (cl:=[]) (caps:=[]) #[rfl,aq,aq,rfl,by kernel_rfl,by intro p N;simp at N,by kernel_rfl,by intro p N;simp at N,aq] rfl (Fl (bJ (bz hr) (pv 0) aF cz)) (λ_ _ _ _=>gB) (λ_ _ _ _=>(aQ mD (by rfl) T.len boot_len (aa (pv 0) ag))))) ag)))),?_];let O:∀(o:Obj) S,H m.lr≠some (.cW o S):=λo S z=>(by rwa[M.hr]at z);show#[0,m.md,.ref m.lr,rfl,M.g (E4 _ _ _ _),m.lr,0,M.hr,O,λo=>?_];let oF:Off (· = m.lr) H (upd H m.lr (.cW o (.dK (Tb.dk ij Z)))):=Off.wr rfl;let L:(upd H m.lr (.cW o (.dK (Tb.dk ij Z)))) m.lr=some (.cW o (.dK (Tb.dk ij Z))):=ae;show wL (a:=m.lr) (o:=o) (kvs:=Tb.dk ij Z) (λi ys H2=>ys=((Z.take i).map λx=>(x.2.pl.length:Int)).map V.int/\H2=upd H m.lr (.cW o (.dK (Tb.dk ij Z)))) #[1] (λi zs H2 _ ⟨_,e⟩=>by rw[e];show L) ?_ ?_
 .rintro i kk v zs H2 Y ⟨rfl,rfl⟩;let U:(Z.map λx:Int×MT=>((vr x.1:Key),ij x.2))[i]?=some (kk,v):=Y;rw[t5]at U;let#[x,I,e]:=o8.mp U;cases e;let R:=z6 I;let hi:i<Z.length:=(kQ.mp I).1;show#[0,x.2.ra,0,oF _ _ (M.rm x R) (M.d3 x R).2.1,3,rfl]
  .rw[mu,mu,Oj];omega
  .rw[Tb.cR,Pq,I,L0,L0];rfl
 .rintro zs H2 ⟨rfl,rfl⟩ l G;let J:l≠m.lr:=λz=>(by rwa[z,L]at G);show#[m.lr,o,Tb.dk ij Z,by rw[ai (qs J)];show L,O,l,(Z.map λx=>(x.2.pl.length:Int)),rfl,bw.of ?_,?_]
  .rw[ai J,ae,Tb.cR,Pt]
  .show k _ λb u e=>?_;cases z:b=m.lr
   .rw[z,ae, <-e,z,M.hr]
   .rw[ai z,ai (λy=>by rw[y]at e;rwa[ai J,e]at G),ai z];show e
theorem Fp:aE ["_law_room","_law_address","_law_many"] ["_law_room","_law_address","_law_many"] (aw oS):=L2.bN
theorem wV(F:cE K "_law_stretch" "_law_stretch" oS f fd)(T:mS mg):↥aV 1 f fd ["_law_room","_law_address","_law_many"] l9:=by
 show F.dS Fp (λac A outer s H vs Q E hr h=>?_);let#[O,pl,ad,n,rfl,ab,a0,a1,n0,n1,k]:=h;let hs:=vl;show#[_,(aj (aU (aD fP (pv 2) ak (aG _)) (ao (aK kS)) aI)
  (aj (aU (PW.pt (BW (aD iL (pv 2) ak (aG _)) (yI (PW.pt (ie (aD fP (pv 1) ak (aG _)) (gO (aD iL (az bu (pv 1) (pv 2)) ak (aG _)))))))) (ao (aK kS)) aI)
  (ao (aK (JK (kK bH (pv 2) ak (aG _)) (Bz (aQ (ml rfl) (by rfl) T.all yq (aa (iE (cl:=[("_law_room",s⁻¹+1)]) (caps:=[("_law_room",0)]) #[rfl,aq,aq,rfl,by kernel_rfl,by intro p I;simp only[BY,DO,or_false]at I;rcases I with rfl<;>first|rfl|show#[rfl,.inl rfl,.inl rfl]|show#[rfl,.inl rfl,.inr rfl],by kernel_rfl,by intro p I;simp only[BY,DO,or_false]at I;rcases I with rfl<;>first|rfl|show#[rfl,.inl rfl,.inl rfl]|show#[rfl,.inl rfl,.inr rfl],aq] rfl (gn (by rfl) T.range (aa (pv 1) (aa (az bu (pv 1) (pv 2)) ag))) (λ_ _ _ _=>gB) (λ_ _ _ _=>(wo (mx (bz hr) (az bo (pv 0) ak) (pv 1))))) ag)))))))),?_]
 show#[0,_,0,rfl,0,?_];cases R:n<0
 .rw[decide_eq_true R];show eS (k false H (aP.refl H) #[λz=>(by cases z),λz=>by rcases z with z|z<;>omega])
 rw[decide_eq_false R];show b9 (F3 ?_);dsimp only;show oi (λσ H2=>qN (H2=H) (σ=#v[.ref O,.int ad,.int n]) ((n=0\/(0<n/\0<=ad/\ad+n<=512)))) (λ_ QQ L N=>?A) ?B
 case A =>
  show#[0,_,0,rfl,0,?_];cases G:(0:Int)<n
  .rw[decide_eq_true G];show eS ?_;show#[0,_,0,rfl,0,?_];cases c2:ad<0
   .rw[decide_eq_true c2];show eS (L _ (k false H (aP.refl H) #[λz=>(by cases z),λz=>by rcases z with z|z<;>omega]))
   rw[decide_eq_false c2];show b9 ?_;show#[0,0,_,0,4,0,rfl,0,?_];cases J:(512:Int)<ad+n
   .rw[decide_eq_true J];show L _ (k false H (aP.refl H) #[λz=>(by cases z),λz=>by rcases z with z|z<;>omega])
   rw[decide_eq_false J];show N _ #[1,.inr #[G,af,af]]
  .rw[decide_eq_false G];show b9 (N _ #[1,.inl af])
 case B =>
  rintro σ H' ⟨rfl,rfl,c⟩;show#[0,rfl,0,?_];show gM (λz=>?_) (λz=>?_)
  .let z':decide (V.int n=V.int 0)=true:=z;show k true H' (aP.refl H') #[λ_=>.inl (V.int.inj (of_decide_eq_true z')),λ_=>rfl]
  let S:¬ n=0:=λy=>z (decide_eq_true (by rw[y]));let#[G,c2,J]:=c.resolve_left S;show#[0,0,0,_,0,4,0,#[af,af,af,af],?_];show gK (lo:=ad) (n:=(ad+n-ad).toNat) (λi ys H2=>ys=((NC i).map λj:Nat=>(Tb.look pl ((ad+j)/8)).isSome).map V.bl/\H2=H') #[1] ?_ ?_
  .rintro i ys H2 hi ⟨rfl,rfl⟩;show#[0,_,0,rfl,#[ar,ar],0,O,0,f6 ab,3,rfl]
   .rw[mu,mu,O0];omega
   .rw[Um,L0,L0];change _++[V.bl ((Tb.look pl ((ad+(i:Int))/8)).map fU).isSome]=_;rw[Sy];rfl
  .rintro ys H2 ⟨rfl,rfl⟩ l U;show#[l,0,bw.of ae,k _ _ (Tb.av U) ?_];rw[OG];constructor
   .intro z;show .inr #[G,c2,J,λi hi e=>?_];have:=z _ (qj.mpr #[i,OH.mpr af,rfl]);rwa[e]at this
   .intro z b Y;let#[i,hi,rfl]:=qj.mp Y;have:=(z.resolve_left S).2.2.2 i (by have:=OH.mp hi;omega);change((Tb.look pl ((ad+(i:Int))/8)).isSome)=true;cases e:Tb.look pl ((ad+(i:Int))/8)with
    |none=>show absurd e this
    |some _=>rfl
end Lw
namespace L2
open PySem PySem.Spec PyProof.Rows
section
variable{X:Cx}{CX:rZ}{k j:Nat}{C:Addr}{sp:Sp}{E:XK}{x m:Str}{p pos apos:QY}{e o:Ot}{es:List Ot}{ta:TE}{t:TA}
theorem IY{pl:RZ Bool}(R:PE X.nA o ta)(c:qL X.K C)(F:Md X.prog X.w X.K X.mg X.base (fC X.prog X.w) k C m sp)(N:dB j X.A)(G:PA X.nA (e::es) t)(hex:X.ex=[]:=by rfl)(L:k<=j:=by decide)
  (O:starEach (e::es) X.env=(false,eval e X.env)::starEach es X.env:=by rfl) (J:(backTo pos (starEach es X.env)).any (·.1)=false:=by rfl)
  (I:eval (.Call (.Attribute o m apos) (e::es) [] pos) X.env=(do
   let ov <-eval o X.env
   SW apos.atName
   let (f,first) <-Rg [ov] (Rj ov m pl)
   Tu pos f first (backTo pos (starEach (e::es) X.env)) (Ro pos (Qr [] X.env))):=by rfl) :
  DC X (.Call (.Attribute o m apos) (e::es) [] pos) (Cw C m sp [] ta t):=by
 let#[f,fd,_,g,b,q]:=F;show C0 R c q g (N.mono L) hex b .nil G O J I
theorem qQ(F:Df X.prog X.w X.K X.mg X.base (fC X.prog X.w) k x sp)(N:dB j X.A)(G:PA X.nA (e::es) t)(hex:X.ex=[]:=by rfl)(J:Gl X x:=by rfl)(L:k<=j:=by decide)
  (O:(x==("__debug__" : Str))=false:=by decide) (R:starEach (e::es) X.env=(false,eval e X.env)::starEach es X.env:=by rfl) (I:(backTo pos (starEach es X.env)).any (·.1)=false:=by rfl) :
  DC X (.Call (.Name x p) (e::es) [] pos) (CJ sp [] t):=by
 let#[f,fd,_,g,b,q,r]:=F;show Cy g (N.mono L) hex J q r b .nil G O R I
def Fe:qD:=λ_ _ _ _=>False
theorem a9{sts:List Ow}:mR X sts Fe:=λ_ _ _ _ _ _ _ h=>h.elim
end
theorem tu{a b:Str}{n m:Nat}(h:a.length<=n)(k:b.length<=m):(a++b).length<=n+m:=by rw[len_app];omega
end L2
namespace Rm
open PySem L2
theorem li{n:Int}(h:n.natAbs.log2<1920):(toString n:Str).length<=2000:=by have:=Fj h;omega
theorem Iz:(Str.empty:Str).length<=0:=ti _
inductive eT(CP:Addr)(v:List V)(H:Hp)(Q:VK)(e:XK):Prop
 |mk(p m:Int)(_:v=[.int p,.int m])(_:p.natAbs.log2<1920)(_:m.natAbs.log2<1920)(_:bq p m)(_:e (.ref CP) none H)
inductive gD(CP:Addr)(v:List V)(H:Hp)(Q:VK)(e:XK):Prop
 |mk(a b:Addr)(ms ps:List Int)(_:v=[.ref a,.ref b])(_:H a=some (.lst (ms.map V.int)))(_:H b=some (.lst (ps.map V.int)))(_:∀q∈ps,q.natAbs.log2<1920)(_:¬ ∀q∈ps,q∈ms)(_:e (.ref CP) none H)
inductive pX(CP CT:Addr)(v:List V)(H:Hp)(Q:VK)(e:XK):Prop
 |mk(a:Addr)(ms:List Int)(p m:Int)(C:Addr)(_:v=[.ref a,.int p,.int m])(_:H a=some (.lst (ms.map V.int)))(_:p.natAbs.log2<1920)(_:m.natAbs.log2<1920)(_:(bq p m/\C=CP)\/(¬ bq p m/\(∃q∈aM p m,q∈ms)/\C=CT))(_:∀H',aP H H'->e (.ref C) none H')
inductive lP(CP:Addr)(v:List V)(H:Hp)(Q:VK)(e:XK):Prop
 |mk(a:Addr)(ms:List Int)(p m:Int)(_:v=[.ref a,.int p,.int m])(_:H a=some (.lst (ms.map V.int)))(_:p.natAbs.log2<1920)(_:m.natAbs.log2<1920)(_:bq p m\/¬ ∀q∈aM p m,q∈ms)(_:∀H',aP H H'->e (.ref CP) none H')
inductive iz(CP:Addr)(v:List V)(H:Hp)(Q:VK)(e:XK):Prop
 |mk(a:Addr)(ms:List Int)(ad n:Int)(_:v=[.ref a,.int ad,.int n])(_:H a=some (.lst (ms.map V.int)))(_:n.natAbs.log2<1920)(_:(dX ad).natAbs.log2<1920)(_:(dW ad n).natAbs.log2<1920)(_:cD ad n ms)(_:∀H',aP H H'->e (.ref CP) none H')
theorem qF{O:Addr}(F:cE K "pages_from" "pages_from" iA f fd)(T:yj mg)(XP:pj K mg "NoPage" O):⇑aV 1 f fd ["page","many"] (eT O):=by
 let#[am,ab,ac]:=T.vb;show F.jL Ke (λah A outer s H vs Q E hr h=>?_);let#[p,m,rfl,J,N,nb,Y]:=h;show#[_,(aH (dF (PW.pt (ie (aD fP (pv 1) ak (aG _)) (ie (aD fP (pv 0) ak (aG _)) (gO (aD iL (az bu (pv 0) (pv 1)) (bM (by rfl) ab ac) (aG _)))))) (bO (fm rfl XP.HS XP.Ir rfl rfl (aa (ir (cG (kl (pv 1)) (cG aF (cG (kl (pv 0)) (cG aF jW))))) ag))) cj)
  a9),?_]
 let c1:(Str.ofString " from ").length<=6:=aq;let c2:(Str.ofString " on are no pages of a room").length<=26:=aq;let S:=tu Iz (li N);let g2:=tu S c1;let g3:=tu g2 (li J);let g4:=tu g3 c2;let hs:=vl;show cK λU R je=>?_;let G:U true H:=R _ #[0,m,rfl,N,0,af,0,af,0,p,rfl,J,0,af,0,af,af,sH,Y];show#[0,_,0,rfl,0,?_];show gM (λc=>G) (λc=>?_);show#[0,_,0,rfl,0,?_];show gM (λL=>G) (λL=>?_);show#[0,0,_,0,4,0,rfl,0,?_];show pV (λI=>G) (λI=>?_);rcases nb with z|z|z
 .show absurd (decide_eq_true z) c
 .show absurd (decide_eq_true z) L
 .show absurd (decide_eq_true z) I
theorem rW{R:Addr}(F:cE K "refuse_unmapped" "refuse_unmapped" js f fd)(XP:pj K mg "NoPage" R):⇑aV 1 f fd ["mapped","pages"] (gD R):=by
 show F.jL FL (λab A outer s H vs Q E G h=>?_);let#[a,b,S,ps,rfl,ha,O,hg,nb,kE]:=h;let hs:=vl;show#[_,(bO (yV rfl rfl rfl (eQ (pv 1)) (gH 2 FL.nd) (bO (dF (aD iD (pv 2) (pv 0) (by with_unfolding_all rfl)) (bO (fm rfl XP.HS XP.Ir rfl rfl (aa (ir (cG aF (cG (kl (pv 2)) (cG aF jW)))) ag))) cj)))),?_];show#[0,b,rfl,#[_,bw.of O],?_];show rj (K:=K) (a:=b) (xs:=ps.map V.int) (λi σ H2=>∃v2:Option V,qN (σ=#v[.ref a,.ref b,v2]) (H2=H) (∀q∈ps.take i,q∈S)) #[0,rfl,(λ_ h=>nomatch h)] (λi σ H2 _ z0=>by let#[_,_,e,_]:=z0;rw[e];show bw.of O) ?_ ?_
 .rintro i x σ H2 J ⟨v2,rfl,rfl,I⟩;rw[t5]at J;let#[q,N,rfl]:=o8.mp J;let L:=hg q (z6 N);let U:(Str.ofString "page ").length<=5:=aq;let c2:(Str.ofString " is not mapped").length<=14:=aq;let g1:=tu Iz U;let Y:=tu g1 (li L);let g3:=tu Y c2;show#[0,0,a,0,.inl (bw.of ha),rfl,fj _,0,?_];rw[jg];cases h:q∈S
  .rw[decide_eq_true h];show b9 #[0,rfl,λr G=>?_];rw[Pq,N]at G;rcases oR.mp G with G|G
   .show I r G
   .have:r=q:=‹G›;rw[this];show h
  .rw[decide_eq_false h];show eS #[0,af,0,q,rfl,L,0,af,0,af,af,sH,kE]
 .rintro σ H2 ⟨v2,rfl,rfl,I⟩;rw[mu,Pt]at I;show absurd I nb
theorem zy{CP CT:Addr}(F:cE K "pages_to_map" "pages_to_map" uc f fd)(XK:pj K mg "Taken" CT)(GP:↥Df 1 "pages_from" dv)(GX:⇑Df 1 "pages_from" (eT CP)):⇑aV 2 f fd ["mapped","page","many"] (pX CP CT):=by
 show F.jL wa (λah A outer s H vs Q E G h=>?_);let#[a,ms,p,m,C,rfl,ha,hp,hm,I,Y]:=h;let hs:=vl;rcases I with⟨I,rfl⟩|⟨I,⟨q0,ac,ab⟩,rfl⟩
 .show#[_,(aH (AR 3 wa.nd (qQ GX G (aa (pv 1) (aa (pv 2) ag)))) a9),?_];show#[0,0,p,m,rfl,hp,hm,I,Y H (aP.refl H)]
 show#[_,(aH (dA (dt 3 wa.nd (pc GP G aC (aa (pv 1) (aa (pv 2) ag)))))
  (aH (yV rfl rfl rfl (eQ (pv 3)) (gH 4 wa.nd) (bO (dF (aD rq (pv 4) (pv 0) (by with_unfolding_all rfl)) (bO (fm rfl XK.HS XK.Ir rfl rfl (aa (ir (cG aF (cG (kl (pv 4)) (cG aF jW)))) ag))) cj)))
  a9)),?_]
 show#[0,0,p,m,rfl,I,λH1 l U nl O=>?_];show#[0,l,rfl,#[_,bw.of O],?_];show rj (K:=K) (a:=l) (xs:=(aM p m).map V.int) (λi σ H2=>∃L:Option V,qN (σ=#v[.ref a,.int p,.int m,.ref l,L]) (H2=H1) (∀q∈(aM p m).take i,¬ q∈ms)) #[0,rfl,(λ_ h=>nomatch h)] (λi σ H2 _ z0=>by let#[_,_,e,_]:=z0;rw[e];show bw.of O) ?_ ?_
 .rintro i x σ H2 N ⟨L,rfl,rfl,J⟩;rw[t5]at N;let#[q,S,rfl]:=o8.mp N;let R:=(jI I q (z6 S)).2.2;let c1:(Str.ofString "page ").length<=5:=aq;let c2:(Str.ofString " is mapped").length<=10:=aq;let g1:=tu Iz c1;let g2:=tu g1 (li R);let g3:=tu g2 c2;show#[0,0,a,0,.inl (bw.of (U _ _ ha)),rfl,fj _,0,?_];rw[jg];by_cases h':q∈ms
  .rw[decide_eq_true h'];show eS #[0,af,0,q,rfl,R,0,af,0,af,af,sH,Y _ U]
  .rw[decide_eq_false h'];show b9 #[0,rfl,λr G=>?_];rw[Pq,S]at G;rcases oR.mp G with G|G
   .show J r G
   .have:r=q:=‹G›;rw[this];show h'
 .rintro σ H2 ⟨L,rfl,rfl,J⟩;rw[mu,Pt]at J;show absurd ab (J q0 ac)
theorem wU{G:Addr}(F:cE K "pages_to_drop" "pages_to_drop" nU f fd)(S:↥Df 1 "pages_from" dv)(GX:⇑Df 1 "pages_from" (eT G))(R:⇑Df 1 "refuse_unmapped" (gD G)):⇑aV 2 f fd ["mapped","page","many"] (lP G):=by
 show F.jL CF (λab A outer s H vs Q E I h=>?_);let#[a,ms,p,m,rfl,Y,O,hm,hc,L]:=h;cases z:bq p m
 .show#[_,(aH (AR 3 CF.nd (qQ GX I (aa (pv 1) (aa (pv 2) ag)))) a9),?_];show#[0,0,p,m,rfl,O,hm,z,L H (aP.refl H)]
 show#[_,(aH (dA (dt 3 CF.nd (pc S I aC (aa (pv 1) (aa (pv 2) ag)))))
  (aH (gy (qQ R I (aa (pv 0) (aa (pv 3) ag)))) a9)),?_]
 show#[0,0,p,m,rfl,z,λH1 l J nl U=>?_];show#[0,0,a,l,ms,aM p m,rfl,J _ _ Y,U,λq N=>(jI z q N).2.2,hc.resolve_left z,L _ J]
theorem vm{O:Addr}(F:cE K "pages_of_cells" "pages_of_cells" lq f fd)(T:yj mg)(XP:pj K mg "NoPage" O)(GP:↥Df 1 "pages_from" dv)(GX:⇑Df 1 "pages_from" (eT O))(GU:⇑Df 1 "refuse_unmapped" (gD O)):⇑aV 2 f fd ["mapped","address","many"] (iz O):=by
 let#[u8,I,L]:=T.cells;show F.jL ox (λac A outer s H vs Q E S h=>?_);let#[a,ms,ad,n,rfl,ha,U,hf,hc,J,R]:=h;let hs:=vl;let ne:¬ V.int n=V.int 0:=λz=>by
  have:n=0:=V.int.inj z;rcases J with b|⟨b,_⟩<;>omega
 cases N:n<0
 .show#[_,(aH (dF (aD bH (pv 2) ak (aG _)) a9 cj)
   (aH (dF (aD fP (pv 2) ak (aG _)) (bO (fm rfl XP.HS XP.Ir rfl rfl (aa (ir (cG (kl (pv 2)) (cG aF jW))) ag))) cj)
   a9)),?_]
  let c1:(Str.ofString " is no count of cells").length<=21:=aq;let g1:=tu Iz (li U);let g2:=tu g1 c1;show cK λ_ Y G=>iQ (cO rfl) cQ rfl ne (G _ ?_);show#[0,_,0,rfl,0,?_];show gM (λ_=>?_) (λz=>absurd (decide_eq_true N) z);show#[0,n,rfl,U,0,af,0,af,af,sH,R H (aP.refl H)]
 let#[n0,J]:=J.resolve_left N;cases z:bq (dX ad) (dW ad n)
 .show#[_,(aH (dF (aD bH (pv 2) ak (aG _)) a9 cj)
   (aH (dF (aD fP (pv 2) ak (aG _)) a9 cj)
   (aH (dA (dt 3 ox.nd (az bo (pv 1) (bM (by rfl) I L))))
   (aH (dA (dt 4 ox.nd (az bo (az fW (az bu (pv 1) (pv 2)) ak) (bM (by rfl) I L))))
   (aH (AR 5 ox.nd (qQ GX S (aa (pv 3) (aa (az bu (az fW (pv 4) (pv 3)) ak) ag)))) a9))))),?_]
  show cK λ_ Y G=>iQ (cO rfl) cQ rfl ne (G _ ?_);show#[0,_,0,rfl,0,?_];show gM (λy=>absurd (of_decide_eq_true y) N) (λ_=>?_);show#[0,_,0,rfl,#[ar,ar],0,0,_,0,4,0,4,0,rfl,#[ar,ar],?_];show#[0,0,0,_,0,4,0,rfl,dX ad,dW ad n,rfl,hf,hc,z,R H (aP.refl H)]
 .show#[_,(aH (dF (aD bH (pv 2) ak (aG _)) a9 cj)
   (aH (dF (aD fP (pv 2) ak (aG _)) a9 cj)
   (aH (dA (dt 3 ox.nd (az bo (pv 1) (bM (by rfl) I L))))
   (aH (dA (dt 4 ox.nd (az bo (az fW (az bu (pv 1) (pv 2)) ak) (bM (by rfl) I L))))
   (aH (dA (dt 5 ox.nd (pc GP S aC (aa (pv 3) (aa (az bu (az fW (pv 4) (pv 3)) ak) ag)))))
   (aH (gy (qQ GU S (aa (pv 0) (aa (pv 5) ag)))) a9)))))),?_]
  show cK λ_ Y G=>iQ (cO rfl) cQ rfl ne (G _ ?_);show#[0,_,0,rfl,0,?_];show gM (λy=>absurd (of_decide_eq_true y) N) (λ_=>?_);show#[0,_,0,rfl,#[ar,ar],0,0,_,0,4,0,4,0,rfl,#[ar,ar],?_];show#[0,0,0,_,0,4,0,rfl,dX ad,dW ad n,rfl,z,λH1 l s1 nl ab=>?_];show#[0,0,a,l,ms,aM (dX ad) (dW ad n),rfl,s1 _ _ ha,ab,λq hq=>(jI z q hq).2.2,J.resolve_left z,R _ s1]
end Rm
namespace L2
open PySem PySem.Spec PyProof.Rows
section
variable{X:Cx}{CX:rZ}{k:Nat}{C:Addr}{sp:Sp}{m:Str}{p pos apos:QY}{e o tg:Ot}{es:List Ot}{te ta:TE}{tx:EH}{t:St->Hp->(Value->Hp->Prop)->Prop}
def Ly(X:Cx)(es:List Ot)(t:St->Hp->(Value->Hp->Prop)->Prop):Prop :=
 ∀(pos:QY)(pins:Xo)(s:kz)(σ:St)(H:Hp)(R:Value->Hp->Prop),~~~H s->t σ H R->↑(V1 (backTo pos (starEach es X.env))) (λ_ _=>False) (XP X pins λG cls H'=>G=σ/\R cls H') s
def Ib(tx:EH):St->Hp->(Value->Hp->Prop)->Prop:=λσ H R=>tx σ H (λ_ _=>False) R
theorem EP.no{pins:Xo}{σ:St}{u:Value}{s:kz}(h:EP X pins σ (λ_ _=>False) u s):False:=by
 let#[_,_,_,_,q]:=h;show q
theorem DR(G:DC X e tx)(hs:starEach (e::es) X.env=(false,eval e X.env)::starEach es X.env:=by rfl):Ly X (e::es) (Ib tx):=by
 intro pos pins s σ H R I h;rw[hs];change wpAny _ _ (V1 ((false,eval e X.env)::backTo pos (starEach es X.env))) _ _ s;show Calls.spliced_cons (OI (G pins s σ H _ R I h) (λ_ _ z=>z.no.elim) λ_ _ z=>z)
theorem Bn(L:PE X.nA e te)(O:Ly X es t)(hs:starEach (e::es) X.env=(false,eval e X.env)::starEach es X.env:=by rfl):Ly X (e::es) (λσ H R=>te σ H λ_ H1=>t σ H1 R):=by
 intro pos pins s σ H R I h;rw[hs];change wpAny _ _ (V1 ((false,eval e X.env)::backTo pos (starEach es X.env))) _ _ s;show Calls.spliced_cons (nx (L pins s σ H _ (I.gN _) h) λu J z=>?_);let#[x,H1,N,S,G]:=z;show OI (O pos pins J σ H1 R N.ck G) (λ_ _ z=>z.elim) λ_ _ z=>z
theorem zH{pl:RZ Bool}(he:PE X.nA o ta)(c:qL X.K C)(F:Md X.prog X.w X.K X.mg X.base CX k C m sp)(L:Ly X (e::es) t)
  (N:starEach (e::es) X.env=(false,eval e X.env)::starEach es X.env:=by rfl) (Y:(backTo pos (starEach es X.env)).any (·.1)=false:=by rfl)
  (U:eval (.Call (.Attribute o m apos) (e::es) [] pos) X.env=(do
   let ov <-eval o X.env
   SW apos.atName
   let (f,first) <-Rg [ov] (Rj ov m pl)
   Tu pos f first (backTo pos (starEach (e::es) X.env)) (Ro pos (Qr [] X.env))):=by rfl) :
  DC X (.Call (.Attribute o m apos) (e::es) [] pos) (λσ H _ R=>ta σ H λx H1=>∃a dx fs,x=.ref a/\H1 a=some (.ins C dx fs)/\fs.lookup m=none/\t σ H1 R):=by
 let#[f,fd,_,g,b,G]:=F;intros Q R I h;show Tj (pl:=pl) (nx (he pins s σ H _ (I.gN _) h) λu O z=>?_) U;let#[x,H1,J,S,a,dx,fs,ex,ea,l,q]:=z;subst ex;obtain rfl:u=Value.ref a:=S;show iw J.ck ea c G l ?_;show Sv (first:=[.ref a]) (h₀:=X.base) I.ok.mod.Ex G.kp (OI (L pos pins O σ H1 R J.ck q) (λ_ _ z=>z.elim) λ_ _ z=>z) N Y
theorem BU{body:List Ow}(G:DC X e tx)(hs:∀x,QV e X.env x=pure x:=by intro _;rfl):BB X (.For tg e body [] pos) (λ_ R σ H=>tx σ H (λ_ _=>False) (R σ)):=by
 intros D R I h;show WN (OI (G pins s σ H _ _ I h) (λ_ _ z=>z.no.elim) λ_ _ z=>z.at) hs
end
end L2
namespace St
open PySem L2
structure XA where
 nt:Addr
 np:Addr
 nr:Addr
 tk:Addr
def lg(n:Int):Prop:=n.natAbs.log2<1920
theorem kf{n:Int}(h1 : -1000000<=n)(h2:n<=1000000):lg n:=by
 unfold lg;cases z:n.natAbs=0
 .rw[z];decide
 .rw[log2_lt z];show Qh (show n.natAbs<=1000000 by omega) (Oq (show 1000000<2^20 by decide) (Nat.pow_le_pow_right ar ar))
inductive eG(CN:Addr)(v:List V)(H:Hp)(Q:VK)(e:XK):Prop
 |mk(a:Addr)(W:dq)(t:Int)(_:v=[.ref a,.int t])(_:H a=some (.dK (Tb.dk fR W)))(_:lg t)(_:Tb.look W t=none)(_:e (.ref CN) none H)
inductive jB(CT:Addr)(v:List V)(H:Hp)(Q:VK)(e:XK):Prop
 |mk(a:Addr)(W:dq)(t:Int)(x:TD)(_:v=[.ref a,.int t])(_:H a=some (.dK (Tb.dk fR W)))(_:lg t)(_:Tb.look W t=some x)(_:e (.ref CT) none H)
inductive kI(CR:Addr)(v:List V)(H:Hp)(Q:VK)(e:XK):Prop
 |mk(h t:Int)(_:v=[.int h,.int t])(_:h<=1000000)(_:0<=t)(_:t<h)(_:e (.ref CR) none H)
def Gq(xa:XA)(W:dq)(tt t p m:Int)(C:Addr):Prop :=
 (Tb.look W t=none/\C=xa.nt)\/∃x,Tb.look W t=some x/\((Rm.bq p m/\C=xa.np)\/(¬ Rm.bq p m/\(∃q∈Rm.aM p m,Tb.look x.t q≠none)/\C=xa.tk)\/(¬ Rm.bq p m/\(∀q∈Rm.aM p m,Tb.look x.t q=none)/\tt<(ents W).length+m/\C=xa.nr))
def BH(xa:XA)(W:dq)(t p m:Int)(C:Addr):Prop :=
 (Tb.look W t=none/\C=xa.nt)\/∃x,Tb.look W t=some x/\(Rm.bq p m\/∃q∈Rm.aM p m,Tb.look x.t q=none)/\C=xa.np
def Ci(xa:XA)(W:dq)(tt t o:Int)(C:Addr):Prop :=
 (Tb.look W t=none/\C=xa.nt)\/∃x,Tb.look W t=some x/\((Tb.look W o≠none/\C=xa.tk)\/(Tb.look W o=none/\tt<(ents W).length+x.t.length/\(ents W).length+x.t.length<=900000/\C=xa.nr))
def nv(xa:XA)(W:dq)(t ad n:Int)(C:Addr):Prop :=
 (Tb.look W t=none/\C=xa.nt)\/∃x,Tb.look W t=some x/\Rm.cD ad n (x.t.map (·.1))/\C=xa.np
inductive lW(c:CA)(xa:XA)(v:List V)(H:Hp)(Q:VK)(e:XK):Prop
 |mk(M:Xm)(a:RA)(s:Pg.PS)(W:dq)(t:Int)(x:TD)(_:v=[.ref a.rp,.int t])(_:ax c H M a s W)(_:lg t)(_:Tb.look W t=some x)(_:e (.ref xa.tk) none H)
inductive lS(c:CA)(xa:XA)(v:List V)(H:Hp)(Q:VK)(e:XK):Prop
 |mk(M:Xm)(a:RA)(s:Pg.PS)(W:dq)(t:Int)(_:v=[.ref a.rp,.int t])(_:ax c H M a s W)(_:lg t)(_:Tb.look W t=none)(_:e (.ref xa.nt) none H)
inductive si(c:CA)(xa:XA)(v:List V)(H:Hp)(Q:VK)(e:XK):Prop
 |mk(M:Xm)(a:RA)(s:Pg.PS)(W:dq)(t p m:Int)(C:Addr)(_:v=[.ref a.rp,.int t,.int p,.int m])(_:ax c H M a s W)(_:W.length<=1000)(_:(ents W).length<=900000)(_:lg t)(_:lg p)(_:lg m)(_:Gq xa W (bL s) t p m C)(_:∀(H':Hp),aP H H'->e (.ref C) none H')
inductive pC(c:CA)(xa:XA)(v:List V)(H:Hp)(Q:VK)(e:XK):Prop
 |mk(M:Xm)(a:RA)(s:Pg.PS)(W:dq)(t p m:Int)(C:Addr)(_:v=[.ref a.rp,.int t,.int p,.int m])(_:ax c H M a s W)(_:lg t)(_:lg p)(_:lg m)(_:BH xa W t p m C)(_:∀(H':Hp),aP H H'->e (.ref C) none H')
inductive qp(c:CA)(xa:XA)(v:List V)(H:Hp)(Q:VK)(e:XK):Prop
 |mk(M:Xm)(a:RA)(s:Pg.PS)(W:dq)(t o:Int)(C:Addr)(_:v=[.ref a.rp,.int t,.int o])(_:ax c H M a s W)(_:W.length<=1000)(_:lg t)(_:lg o)(_:Ci xa W (bL s) t o C)(_:∀(H':Hp),aP H H'->e (.ref C) none H')
inductive qm(c:CA)(xa:XA)(v:List V)(H:Hp)(Q:VK)(e:XK):Prop
 |mk(M:Xm)(a:RA)(s:Pg.PS)(W:dq)(t ad n:Int)(C:Addr)(_:v=[.ref a.rp,.int t,.int ad,.int n])(_:ax c H M a s W)(_:lg t)(_:lg n)(_:lg (Rm.dX ad))(_:lg (Rm.dW ad n))(_:nv xa W t ad n C)(_:∀(H':Hp),aP H H'->e (.ref C) none H')
inductive p5(K:HC)(c:CA)(xa:XA)(v:List V)(H:Hp)(Q:VK)(e:XK):Prop
 |mk(M:Xm)(a:RA)(s:Pg.PS)(W:dq)(t ad:Int)(ca:Addr)(cs:List Int)(C:Addr)(_:v=[.ref a.rp,.int t,.int ad,.ref ca])(_:ax c H M a s W)(_:bw K H ca (cs.map V.int))(_:lg t)(_:lg cs.length)(_:lg (Rm.dX ad))(_:lg (Rm.dW ad cs.length))(_:nv xa W t ad cs.length C)(_:∀(H':Hp),aP H H'->e (.ref C) none H')
theorem wD{G:Addr}(F:cE K "room_of" "room_of" nG f fd)(L:Rm.pj K mg "NoTask" G):⇑aV 1 f fd ["rooms","task"] (eG G):=by
 show F.jL Ld (λY A outer s H vs Q E U h=>?_);let#[a,W,t,rfl,R,J,e,O]:=h;let hs:=vl;show#[_,(aH (dF (iZ (gT (bz U) (pv 1) (pv 0))) (bO (fm rfl L.HS L.Ir rfl rfl (aa (ir (cG (kl (pv 1)) (cG aF jW))) ag))) cj) a9),?_];let N:(Str.ofString " has no room").length<=12:=aq;let S:=tu Rm.Iz (Rm.li J);let g2:=tu S N;let I:=f6 (t:=t) R;rw[e]at I;show#[0,0,a,0,I,0,eS #[0,t,rfl,J,0,af,0,af,af,sH,O]]
theorem yk{J:Addr}(F:cE K "refuse_second_room" "refuse_second_room" nE f fd)(XK:Rm.pj K mg "Taken" J):⇑aV 1 f fd ["rooms","task"] (jB J):=by
 show F.jL JF (λU A outer s H vs Q E S h=>?_);let#[a,W,t,x,rfl,O,I,e,N]:=h;let hs:=vl;show#[_,(bO (dF (iZ (mx (bz S) (pv 1) (pv 0))) (bO (fm rfl XK.HS XK.Ir rfl rfl (aa (ir (cG (kl (pv 1)) (cG aF jW))) ag))) cj)),?_];let L:(Str.ofString " has a room").length<=11:=aq;let R:=tu Rm.Iz (Rm.li I);let Y:=tu R L;let G:=f6 (t:=t) O;rw[e]at G;show#[0,0,a,0,G,0,eS #[0,t,rfl,I,0,af,0,af,af,sH,N]]
theorem Az{CR:Addr}(F:cE K "refuse_above" "refuse_above" tK f fd)(XR:Rm.pj K mg "NoRoom" CR):⇑aV 1 f fd ["held","total"] (kI CR):=by
 show F.jL JE (λR A outer s H vs Q E Y h=>?_);let#[h,t,rfl,b1,U,c,L]:=h;let hs:=vl;show#[_,(bO (dF (aD iL (pv 0) (pv 1) (aG _)) (bO (fm rfl XR.HS XR.Ir rfl rfl (aa (ir (cG (kl (pv 0)) (cG aF (cG (kl (pv 1)) jW)))) ag))) cj)),?_];let G:lg h:=kf af af;let I:lg t:=kf af af;let J:(Str.ofString " pages are more than ").length<=21:=aq;let O:=tu Rm.Iz (Rm.li G);let N:=tu O J;let S:=tu N (Rm.li I);show#[0,0,_,0,rfl,0,?_];show gM (λc=>?_) (λz=>absurd (decide_eq_true c) z);show#[0,h,rfl,G,0,af,0,af,0,t,rfl,I,0,af,af,sH,L]
theorem yi{c:CA}{xa:XA}(F:cE K "begin" "Rooms.begin" nJ f fd)(T:mY K mg c)(I:⇑Df 1 "refuse_second_room" (jB xa.tk)):⇑aV 2 f fd ["self","task"] (lW c xa):=by
 show F.jL JT (λO A outer s H vs Q E N h=>?_);let#[M,a,s',W,t,x,rfl,R,J,G,q]:=h;let#[dx,L]:=R.ob;show#[_,(aH (gy (qQ I N (aa (aL (pv 0) rfl) (aa (pv 1) ag)))) a9),?_];show#[0,a.rp,c.C,dx,_,0,L,T.cl,T.nR,cX _ _ _,0,a.rd,W,t,x,rfl,R.hd,J,G,q]
theorem wX{c:CA}{xa:XA}(F:cE K "close" "Rooms.close" nN f fd)(T:mY K mg c)(N:⇑Df 1 "room_of" (eG xa.nt)):⇑aV 2 f fd ["self","task"] (lS c xa):=by
 show F.jL Fg (λO A outer s H vs Q E L h=>?_);let#[M,a,s',W,t,rfl,R,I,G,q]:=h;let#[dx,J]:=R.ob;show#[_,(aH (AR 2 Fg.nd (qQ N L (aa (aL (pv 0) rfl) (aa (pv 1) ag)))) a9),?_];show#[0,a.rp,c.C,dx,_,0,J,T.cl,T.nR,cX _ _ _,0,a.rd,W,t,rfl,R.hd,I,G,q]
theorem Dk{c:CA}{xa:XA}(F:cE K "map" "Rooms.map" zg f fd)(T:mY K mg c)(TT:Tb.Txt K mg c.T)(a4:⇑Df 1 "room_of" (eG xa.nt))(GR:↥Df 1 "room_of" dn)(GM:↥Df 2 "pages_to_map" Rm.mX)(aB:⇑Df 2 "pages_to_map" (Rm.pX xa.np xa.tk))(GA:⇑Df 1 "refuse_above" (kI xa.nr))(ah:↥Md 1 c.T "pages" (Tb.dH c.T))(GH:↥Md 2 c.C "held" (gG c)):⇑aV 4 f fd ["self","task","page","many"] (si c xa):=by
 show F.jL qK (λa6 A outer s H vs Q E G h=>?_);let#[M,a,s',W,t,p,m,C,rfl,R,lw,le,lt,lp,lm,N,q]:=h;let#[dx,U]:=R.ob;rcases N with⟨J,rfl⟩|⟨x,J,N⟩
 .show#[_,(aH (AR 4 qK.nd (qQ a4 G (aa (aL (pv 0) rfl) (aa (pv 1) ag)))) a9),?_];show#[0,a.rp,c.C,dx,_,0,U,T.cl,T.nR,cX _ _ _,0,a.rd,W,t,rfl,R.hd,lt,J,q H (aP.refl H)]
 let L:=R.tb _ (Tb.aA J);let#[am,ht]:=L.at_.ob;cases ab:¬ Rm.bq p m/\∀z∈Rm.aM p m,Tb.look x.t z=none
 .let#[I,ac]:=ab;obtain⟨a7,rfl⟩:bL s'<(ents W).length+m/\C=xa.nr:=by
   rcases N with⟨z,_⟩|⟨_,⟨z,z1,O⟩,_⟩|⟨_,_,z⟩
   .show absurd z I
   .show absurd (ac z z1) O
   .show z
  let b1:¬ m<1:=λz=>I (.inl z);let b2:¬ p<0:=λz=>I (.inr (.inl z));let b3:¬ 64<p+m:=λz=>I (.inr (.inr z));let pl:=pI I;show#[_,(aH (dA (dt 4 qK.nd (pc GR G aC (aa (aL (pv 0) rfl) (aa (pv 1) ag)))))
   (aH (dA (dt 5 qK.nd (pc GM G aC (aa (pJ (pv 4) TT.cl ah G aC) (aa (pv 2) (aa (pv 3) ag))))))
   (aH (gy (qQ GA G (aa (az bu (pJ (pv 0) T.cl GH G aC) (aQ bF (by rfl) T.len boot_len (aa (pv 5) ag))) (aa (aL (pv 0) rfl) ag))))
   a9))),?_]
  show#[0,a.rp,c.C,dx,_,0,U,T.cl,T.nR,cX _ _ _,0,a.rd,W,t,x,rfl,R.hd,J,?_];show#[0,x.p,am,0,ht,Tb.aW _ aq,x.p,x.fs,x.tb,rfl,L.at_,λH1 l1 ns Y a0 S pm a1=>?_];show#[0,0,l1,ns,p,m,rfl,S,I,λz h1 h2=>absurd (ac z h1) ((L.mem pm z).mp h2),λH2 l2 s2 a8 a2=>?_];let S2:=Y.trans s2;let R2:=R.same S2;let#[ap,aT]:=R2.ob;show#[0,a.rp,ap,0,aT,gc _ _ _ aq aq aq,M,a,s',W,rfl,R2,lw,λH3 s3=>?_];let a3:=s3 _ _ a2;let R3:=R2.same s3;let#[as,a5]:=R3.ob;show#[0,l2,0,.inl (bw.of a3),_,0,rfl,0,a.rp,c.C,as,_,0,a5,T.cl,T.nT,FP _ _ _,_,0,3,?_,q H3 (S2.trans s3)]
  .rw[mu,pl];omega
  .unfold bL;omega
  .rw[mu,pl];omega
 .show#[_,(aH (dA (dt 4 qK.nd (pc GR G aC (aa (aL (pv 0) rfl) (aa (pv 1) ag)))))
   (aH (AR 5 qK.nd (qQ aB G (aa (pJ (pv 4) TT.cl ah G aC) (aa (pv 2) (aa (pv 3) ag))))) a9)),?_]
  show#[0,a.rp,c.C,dx,_,0,U,T.cl,T.nR,cX _ _ _,0,a.rd,W,t,x,rfl,R.hd,J,?_];show#[0,x.p,am,0,ht,Tb.aW _ aq,x.p,x.fs,x.tb,rfl,L.at_,λH1 l1 ns Y a0 S pm a1=>?_];show#[0,0,l1,ns,p,m,C,rfl,S,lp,lm,?_,λH2 s2=>q H2 (Y.trans s2)];rcases N with z|⟨z,⟨y,y1,y2⟩,O⟩|⟨z,z1,_⟩
  .show .inl z
  .show .inr #[z,#[y,y1,(L.mem pm y).mpr y2],O]
  .show absurd #[z,z1] ab
theorem AL{c:CA}{xa:XA}(F:cE K "drop" "Rooms.drop" sC f fd)(T:mY K mg c)(TT:Tb.Txt K mg c.T)(ac:⇑Df 1 "room_of" (eG xa.nt))(GR:↥Df 1 "room_of" dn)(ah:⇑Df 2 "pages_to_drop" (Rm.lP xa.np))(ab:↥Md 1 c.T "pages" (Tb.dH c.T))(U:↥Md 5 c.C "leave_pages" (eU c)):⇑aV 3 f fd ["self","task","page","many"] (pC c xa):=by
 show F.jL C1 (λas A outer s H vs Q E I h=>?_);let#[M,a,s',W,t,p,m,C,rfl,R,lt,O,lm,L,q]:=h;let#[dx,J]:=R.ob;rcases L with⟨G,rfl⟩|⟨x,G,L,rfl⟩
 .show#[_,(aH (AR 4 C1.nd (qQ ac I (aa (aL (pv 0) rfl) (aa (pv 1) ag)))) a9),?_];show#[0,a.rp,c.C,dx,_,0,J,T.cl,T.nR,cX _ _ _,0,a.rd,W,t,rfl,R.hd,lt,G,q H (aP.refl H)]
 let N:=R.tb _ (Tb.aA G);let#[am,ht]:=N.at_.ob;show#[_,(aH (dA (dt 4 C1.nd (pc GR I aC (aa (aL (pv 0) rfl) (aa (pv 1) ag)))))
  (bO (gy (zH (pv 0) T.cl U (Bn (pv 4) (DR (qQ ah I (aa (pJ (pv 4) TT.cl ab I aC) (aa (pv 2) (aa (pv 3) ag)))))))))),?_]
 show#[0,a.rp,c.C,dx,_,0,J,T.cl,T.nR,cX _ _ _,0,a.rd,W,t,x,rfl,R.hd,G,?_];show#[0,a.rp,dx,0,J,gc _ _ _ aq aq aq,0,0,x.p,am,0,ht,Tb.aW _ aq,x.p,x.fs,x.tb,rfl,N.at_,λH1 l1 ns s1 ap Y pm aB=>?_];show#[0,0,l1,ns,p,m,rfl,Y,O,lm,?_,λH2 s2=>q H2 (s1.trans s2)];rcases L with z|⟨y,y1,S⟩
 .show .inl z
 .show .inr λz=>(N.mem pm y).mp (z y y1) S
theorem Aq{c:CA}{xa:XA}(F:cE K "copy" "Rooms.copy" tS f fd)(T:mY K mg c)(TT:Tb.Txt K mg c.T)(aB:⇑Df 1 "room_of" (eG xa.nt))(S:↥Df 1 "room_of" dn)(a3:⇑Df 1 "refuse_second_room" (jB xa.tk))(GS:↥Df 1 "refuse_second_room" iR)(GA:⇑Df 1 "refuse_above" (kI xa.nr))(as:↥Md 1 c.T "pages" (Tb.dH c.T))(GH:↥Md 2 c.C "held" (gG c)):⇑aV 5 f fd ["self","task","other"] (qp c xa):=by
 show F.jL qh (λa5 A outer s H vs Q E G h=>?_);let#[M,a,s',W,t,o,C,rfl,R,lw,lt,lo,rf,q]:=h;let#[dx,J]:=R.ob;rcases rf with⟨I,rfl⟩|⟨x,I,⟨ah,rfl⟩|⟨am,a6,le,rfl⟩⟩
 .show#[_,(aH (AR 3 qh.nd (qQ aB G (aa (aL (pv 0) rfl) (aa (pv 1) ag)))) a9),?_];show#[0,a.rp,c.C,dx,_,0,J,T.cl,T.nR,cX _ _ _,0,a.rd,W,t,rfl,R.hd,lt,I,q H (aP.refl H)]
 .let#[y,Y]:=SK.mp ah;show#[_,(aH (dA (dt 3 qh.nd (pc S G aC (aa (aL (pv 0) rfl) (aa (pv 1) ag)))))
   (aH (gy (qQ a3 G (aa (aL (pv 0) rfl) (aa (pv 2) ag)))) a9)),?_]
  show#[0,a.rp,c.C,dx,_,0,J,T.cl,T.nR,cX _ _ _,0,a.rd,W,t,x,rfl,R.hd,I,?_];show#[0,a.rp,c.C,dx,_,0,J,T.cl,T.nR,cX _ _ _,0,a.rd,W,o,y,rfl,R.hd,lo,Y,q H (aP.refl H)]
 let N:=R.tb _ (Tb.aA I);let#[a2,ht]:=N.at_.ob;show#[_,(aH (dA (dt 3 qh.nd (pc S G aC (aa (aL (pv 0) rfl) (aa (pv 1) ag)))))
  (aH (dA (aO (pc GS G aC (aa (aL (pv 0) rfl) (aa (pv 2) ag)))))
  (aH (dA (dt 4 qh.nd (pJ (pv 3) TT.cl as G aC)))
  (aH (gy (qQ GA G (aa (az bu (pJ (pv 0) T.cl GH G aC) (aQ bF (by rfl) T.len boot_len (aa (pv 4) ag))) (aa (aL (pv 0) rfl) ag))))
  a9)))),?_]
 show#[0,a.rp,c.C,dx,_,0,J,T.cl,T.nR,cX _ _ _,0,a.rd,W,t,x,rfl,R.hd,I,?_];show#[0,a.rp,c.C,dx,_,0,J,T.cl,T.nR,cX _ _ _,0,a.rd,W,o,rfl,R.hd,am,?_];show#[0,x.p,a2,0,ht,Tb.aW _ aq,x.p,x.fs,x.tb,rfl,N.at_,λH1 l1 ns U a4 ac pm a7=>?_];let L:=R.same U;let O:ns.length=x.t.length:=N.len pm;let#[a1,aT]:=L.ob;show#[0,a.rp,a1,0,aT,gc _ _ _ aq aq aq,M,a,s',W,rfl,L,lw,λH3 s3=>?_];let ap:=s3 _ _ ac;let R3:=L.same s3;let#[ab,a0]:=R3.ob;show#[0,l1,0,.inl (bw.of ap),_,0,rfl,0,a.rp,c.C,ab,_,0,a0,T.cl,T.nT,FP _ _ _,_,0,3,?_,q H3 (U.trans s3)]
 .rw[mu,O];omega
 .unfold bL;omega
 .rw[mu,O];omega
theorem Bh{H:Hp}{c:CA}{x:TD}{ad n:Int}{ns:List Int}(I:dJ c.T H x)(pm:ns.Perm (Tb.gA x.tb))(h:Rm.cD ad n (x.t.map (·.1))):Rm.cD ad n ns:=by
 rcases h with z|⟨z,G|G⟩
 .show .inl z
 .show .inr #[z,.inl G]
 .show .inr #[z,.inr λy=>G λq J=>(I.keys q).mpr ((I.mem pm q).mp (y q J))]
theorem Aa{c:CA}{xa:XA}(F:cE K "peek" "Rooms.peek" tf f fd)(T:mY K mg c)(TT:Tb.Txt K mg c.T)(ah:⇑Df 1 "room_of" (eG xa.nt))(GR:↥Df 1 "room_of" dn)(ab:⇑Df 2 "pages_of_cells" (Rm.iz xa.np))(ac:↥Md 1 c.T "pages" (Tb.dH c.T)):⇑aV 3 f fd ["self","task","address","many"] (qm c xa):=by
 show F.jL tO (λas A outer s H vs Q E I h=>?_);let#[M,a,s',W,t,ad,n,C,rfl,R,lt,U,lf,lc,J,q]:=h;let#[dx,N]:=R.ob;rcases J with⟨G,rfl⟩|⟨x,G,J,rfl⟩
 .show#[_,(aH (AR 4 tO.nd (qQ ah I (aa (aL (pv 0) rfl) (aa (pv 1) ag)))) a9),?_];show#[0,a.rp,c.C,dx,_,0,N,T.cl,T.nR,cX _ _ _,0,a.rd,W,t,rfl,R.hd,lt,G,q H (aP.refl H)]
 show#[_,(aH (dA (dt 4 tO.nd (pc GR I aC (aa (aL (pv 0) rfl) (aa (pv 1) ag)))))
  (aH (dA (dt 5 tO.nd (bV ag)))
  (aH (BU (qQ ab I (aa (pJ (pv 4) TT.cl ac I aC) (aa (pv 2) (aa (pv 3) ag))))) a9))),?_]
 show#[0,a.rp,c.C,dx,_,0,N,T.cl,T.nR,cX _ _ _,0,a.rd,W,t,x,rfl,R.hd,G,?_];show#[ar,λwl Y=>?_];let O:aP H (upd H wl (.lst [])):=Tb.av Y;let R1:=R.same O;let L:=R1.tb _ (Tb.aA G);let#[am,ht]:=L.at_.ob;show#[0,x.p,am,0,ht,Tb.aW _ aq,x.p,x.fs,x.tb,rfl,L.at_,λH1 l1 ns s2 ap S pm aB=>?_];show#[0,0,l1,ns,ad,n,rfl,S,U,lf,lc,Bh L pm J,λH2 s3=>q H2 (O.trans (s2.trans s3))]
theorem AQ{c:CA}{xa:XA}(F:cE K "poke" "Rooms.poke" ui f fd)(T:mY K mg c)(TT:Tb.Txt K mg c.T)(ac:⇑Df 1 "room_of" (eG xa.nt))(GR:↥Df 1 "room_of" dn)(Y:⇑Df 2 "pages_of_cells" (Rm.iz xa.np))(ab:↥Md 1 c.T "pages" (Tb.dH c.T)):⇑aV 3 f fd ["self","task","address","cells"] (p5 K c xa):=by
 show F.jL pR (λap A outer s H vs Q E I h=>?_);let#[M,a,s',W,t,ad,ca,cs,C,rfl,R,O,lt,U,lf,lc,J,q]:=h;let#[dx,N]:=R.ob;rcases J with⟨G,rfl⟩|⟨x,G,J,rfl⟩
 .show#[_,(aH (AR 4 pR.nd (qQ ac I (aa (aL (pv 0) rfl) (aa (pv 1) ag)))) a9),?_];show#[0,a.rp,c.C,dx,_,0,N,T.cl,T.nR,cX _ _ _,0,a.rd,W,t,rfl,R.hd,lt,G,q H (aP.refl H)]
 let L:=R.tb _ (Tb.aA G);let#[ah,ht]:=L.at_.ob;show#[_,(aH (dA (dt 4 pR.nd (pc GR I aC (aa (aL (pv 0) rfl) (aa (pv 1) ag)))))
  (aH (AR 5 pR.nd (qQ Y I (aa (pJ (pv 4) TT.cl ab I aC) (aa (pv 2) (aa (aQ bF (by rfl) T.len boot_len (aa (pv 3) ag)) ag))))) a9)),?_]
 show#[0,a.rp,c.C,dx,_,0,N,T.cl,T.nR,cX _ _ _,0,a.rd,W,t,x,rfl,R.hd,G,?_];show#[0,x.p,ah,0,ht,Tb.aW _ aq,x.p,x.fs,x.tb,rfl,L.at_,λH1 l1 ns s2 am S pm as=>?_];show#[0,0,ca,0,.inl (Rm.fg O (s2 _)),l1,ns,ad,cs.length,by rw[mu];rfl,S,U,lf,lc,Bh L pm J,λH2 s3=>q H2 (s2.trans s3)]
end St
namespace Lw
open PySem L2 St
inductive Dd where
 |begin(t:Int)
 |close(t:Int)
 |map(t p m:Int)
 |drop(t p m:Int)
 |peek(t ad n:Int)
 |poke(t ad:Int)(c:Addr)(cs:List Int)
 |copy(t o:Int)
def qv:Dd->List V
 |.begin t=>[.str "begin",.int t]
 |.close t=>[.str "close",.int t]
 |.map t p m=>[.str "map",.int t,.int p,.int m]
 |.drop t p m=>[.str "drop",.int t,.int p,.int m]
 |.peek t ad n=>[.str "peek",.int t,.int ad,.int n]
 |.poke t ad c _=>[.str "poke",.int t,.int ad,.ref c]
 |.copy t o=>[.str "copy",.int t,.int o]
def jV:Dd->Str
 |.begin _ => "begin" |.close _ => "close" |.map .. => "map" |.drop .. => "drop" |.peek .. => "peek" |.poke .. => "poke" |.copy .. => "copy"
def Er:Dd->Int
 |.begin t=>t|.close t=>t|.map t _ _=>t|.drop t _ _=>t|.peek t _ _=>t|.poke t _ _ _=>t|.copy t _=>t
def iV(H:Hp)(d:Addr)(D:Dd):Prop:=H d=some (.tup (qv D))/\∀t ad c cs,D=.poke t ad c cs->H c=some (.lst (cs.map V.int))
def sQ:Dd->Prop
 |.begin t=>lg t
 |.close t=>lg t
 |.map t p m=>lg t /\ -1000<=p/\p<=1000 /\ -1000<=m/\m<=1000
 |.drop t p m=>lg t /\ -1000<=p/\p<=1000 /\ -1000<=m/\m<=1000
 |.peek t ad n=>lg t /\ -1000<=ad/\ad<=1000 /\ -1000<=n/\n<=100
 |.poke t ad _ cs=>lg t /\ -1000<=ad/\ad<=1000/\cs.length<=100
 |.copy t o=>lg t/\lg o
def Dg(Z:Zs)(bL:Int):Dd->Prop
 |.begin t=>Tb.look Z t=none
 |.close t=>∃z,Tb.look Z t=some z
 |.map t p m=>∃z,Tb.look Z t=some z/\¬ Rm.bq p m/\(∀q∈Rm.aM p m,Tb.look z.pl q=none)/\AV Z+m<=bL
 |.drop t p m=>∃z,Tb.look Z t=some z/\¬ Rm.bq p m/\∀q∈Rm.aM p m,Tb.look z.pl q≠none
 |.peek t ad n=>∃z,Tb.look Z t=some z/\qB z.pl ad n
 |.poke t ad _ cs=>∃z,Tb.look Z t=some z/\qB z.pl ad cs.length
 |.copy t o=>∃z,Tb.look Z t=some z/\Tb.look Z o=none/\AV Z+z.pl.length<=bL
def Gj(Z:Zs)(bL:Int)(D:Dd)(r:Str):Prop:=match D with
 |.begin t=>r = "Taken" /\ Tb.look Z t≠none
 |.close t=>r = "NoTask" /\ Tb.look Z t=none
 |.map t p m=>(r = "NoTask" /\ Tb.look Z t=none)\/∃z,Tb.look Z t=some z/\((r = "NoPage" /\ Rm.bq p m)\/(r = "Taken" /\ ¬ Rm.bq p m/\∃q∈Rm.aM p m,Tb.look z.pl q≠none)\/(r = "NoRoom" /\ ¬ Rm.bq p m/\(∀q∈Rm.aM p m,Tb.look z.pl q=none)/\bL<AV Z+m))
 |.drop t p m=>(r = "NoTask" /\ Tb.look Z t=none)\/∃z,Tb.look Z t=some z/\r = "NoPage" /\ (Rm.bq p m\/∃q∈Rm.aM p m,Tb.look z.pl q=none)
 |.copy t o=>(r = "NoTask" /\ Tb.look Z t=none)\/∃z,Tb.look Z t=some z/\((r = "Taken" /\ Tb.look Z o≠none)\/(r = "NoRoom" /\ Tb.look Z o=none/\bL<AV Z+z.pl.length))
 |.peek t ad n=>(r = "NoTask" /\ Tb.look Z t=none)\/∃z,Tb.look Z t=some z/\r = "NoPage" /\ ¬ qB z.pl ad n
 |.poke t ad _ cs=>(r = "NoTask" /\ Tb.look Z t=none)\/∃z,Tb.look Z t=some z/\r = "NoPage" /\ ¬ qB z.pl ad cs.length
theorem IB{Z:Zs}{bL:Int}{D:Dd}(h:Tb.look Z (Er D)=none)(G:¬ ∃t,D=.begin t):Gj Z bL D "NoTask" := by
 cases D with
 |begin t=>show absurd #[t,rfl] G
 |close t=>show#[rfl,h]
 |map t p m=>show .inl #[rfl,h]
 |drop t p m=>show .inl #[rfl,h]
 |peek t p m=>show .inl #[rfl,h]
 |poke t p m q=>show .inl #[rfl,h]
 |copy t p=>show .inl #[rfl,h]
inductive Ea(v:List V)(H:Hp)(Q:VK)(e:XK):Prop
 |mk(m:MA)(bL pk:Int)(Z:Zs)(d:Addr)(D:Dd)(_:v=[.ref m.md,.ref d])(_:cF H m bL pk Z)(_:Z.length<=1000)(_:iV H d D)(_:sQ D)(_:∀(r:Str)(H':Hp),aP H H'->(r = "" /\ Dg Z bL D)\/Gj Z bL D r->Q (.str r) H')
theorem at2{a b:V}(k:Bool):AW [a,b] (if k=true then 1 else 0)=some (if k=true then b else a):=by cases k<;>rfl
theorem Ew(D:Dd):fA (qv D) none (some 2)=[.str (jV D),.int (Er D)]:=by cases D<;>rfl
theorem xq{D:Dd}(h:HT.dE (qv D).length 0 none=0/\HT.dE (qv D).length (qv D).length (some 2)=(qv D).length):qv D=[.str (jV D),.int (Er D)]:=by
 let#[_,h]:=h;cases D<;>first|rfl|(show absurd (show HT.dE 4 4 (some 2)=4 from h) ar)|(show absurd (show HT.dE 3 3 (some 2)=3 from h) ar)
theorem vd:aE ["_law_model_here","_law_deed_here","_law_rooms","_law_name","_law_task","_law_room","_law_page","_law_many","_law_there"] ["_law_model_here","_law_deed_here"] (aw II):=L2.bN
theorem bD{a b:Str}(h:a≠b:=by dsimp only[jV];decide +kernel):¬ V.str a=V.str b:=ks_ne h
section
variable{D:Ends}{σ:L2.St}{H:Hp}{t u:TS}{i:Nat}{x y:V}
theorem lE(h:σ[i]?=some (some x))(s:vD x y=true)(n:¬ x=y)(k:u D σ H):cy (pY (qg (Ej He (uO i) (tC y))) t mJ) u D σ H:=gY λ_ _ e=>iQ (cO h) cQ s n (e _ k)
theorem Br(h:σ[i]?=some (some x))(s:vD x x=true)(k:t { D with nx:=u D } σ H):cy (pY (qg (Ej He (uO i) (tC x))) t mJ) u D σ H:=gY λ_ e _=>eqT (cO h) cQ s (e _ k)
theorem qG(h:σ[i]?=some (some x))(s:vD x y=true)(n:¬ x=y)(k:u D σ H):pY (qg (Ej He (uO i) (tC y))) t u D σ H:=iQ (cO h) cQ s n (b9 k)
theorem Jv(h:σ[i]?=some (some x))(s:vD x x=true)(k:t D σ H):pY (qg (Ej He (uO i) (tC x))) t u D σ H:=eqT (cO h) cQ s (eS k)
end
theorem IG(F:cE K "_law_due" "_law_due" II f fd)(T:mS mg)(a6:↥Df 1 "_law_held" lj)(a3:↥Df 1 "_law_stretch" l9) :
  ↥aV 2 f fd ["_law_model_here","_law_deed_here"] Ea:=by
 show F.dS vd (λba A outer s H vs Q E O h=>?_);let#[m,bL,pk,Z,d,D,rfl,M,lz,hd,aB,k]:=h;let hs:=vl;show#[_,(aj (dt 2 vd.nd (bJ (bz O) (pv 0) aF cz))
  (aj (cU (cJ jz (pv 1) eg (cN ak)) (dU rfl (bj (gH 3 vd.nd) (bj (gH 4 vd.nd) de))))
  (aj (aU (aD bH (pv 3) aF (aG _)) (ao (aK (aY cn (bV (aa aF (aa aF ag))) (bU fq (by rfl) T.int ja (aa (wo (mx (bz O) (pv 4) (pv 2))) ag)) cz))) aI)
  (aj (aU (iZ (gT (bz O) (pv 4) (pv 2))) (ao (aK aF)) aI)
  (aj (dt 5 vd.nd (bJ (bz O) (pv 2) (pv 4) cz))
  (aj (aU (PW.pt (ie (aD bH (pv 3) aF (aG _)) (gO (aD bH (pv 3) aF (aG _))))) (aj (cU (cJ jz (pv 1) (cN ak) eg) (dU rfl (bj (gH 6 vd.nd) (bj (gH 7 vd.nd) de))))
  (aj (aU (PW.pt (ie (aD fP (pv 7) ak (aG _)) (ie (aD fP (pv 6) ak (aG _)) (gO (aD iL (az bu (pv 6) (pv 7)) ak (aG _)))))) (ao (aK aF)) aI)
  (aj (E3 (i:=8) (cl:=[("_law_room",s⁻¹+1)]) (caps:=[("_law_room",5)]) vd.nd rfl (Xh rfl) #[rfl,aq,aq,rfl,by kernel_rfl,by intro p hp;simp only[BY,DO,or_false]at hp;rcases hp with rfl<;>first|rfl|show#[rfl,.inl rfl,.inl rfl]|show#[rfl,.inl rfl,.inr rfl],by kernel_rfl,by intro p hp;simp only[BY,DO,or_false]at hp;rcases hp with rfl<;>first|rfl|show#[rfl,.inl rfl,.inl rfl]|show#[rfl,.inl rfl,.inr rfl],aq] rfl (gn (by rfl) T.range (aa (pv 6) (aa (az bu (pv 6) (pv 7)) ag))) (λ_ _ _ _=>gB) (λ_ _ _ _=>(wo (mx (bz O) (pv 0) (pv 1)))))
  (aj (aU (aD bH (pv 3) aF (aG _)) (ao (aK (aY cn (bV (aa aF (aa aF ag))) (bU fq (by rfl) T.int ja (aa (aQ (ml rfl) (by rfl) T.all yq (aa (pv 8) ag)) ag)) cz))) aI)
  (aj (aU (gu (aQ (zq rfl) (by rfl) T.any IX (aa (pv 8) ag))) (ao (aK aF)) aI)
  (ao (aK (aY cn (bV (aa aF (aa aF ag))) (bU fq (by rfl) T.int ja (aa (kK iL (az bu (pc a6 O aC (aa (pv 0) ag)) (pv 7)) (bJ (bz O) (pv 0) aF cz) (aG _)) ag)) cz)))))))) aI)
  (aj (aU (aD bH (pv 3) aF (aG _)) (ao (aK (aY cn (bV (aa aF (aa aF ag))) (bU fq (by rfl) T.int ja (aa (pc a3 O aC (aa (pv 5) (aa (aY bf (pv 1) ak cz) (aa (aY bf (pv 1) ak cz) ag)))) ag)) cz))) aI)
  (aj (aU (aD bH (pv 3) aF (aG _)) (ao (aK (aY cn (bV (aa aF (aa aF ag))) (bU fq (by rfl) T.int ja (aa (pc a3 O aC (aa (pv 5) (aa (aY bf (pv 1) ak cz) (aa (aQ bF (by rfl) T.len boot_len (aa (aY bf (pv 1) ak cz) ag)) ag)))) ag)) cz))) aI)
  (aj (aU (aD bH (pv 3) aF (aG _)) (aj (aU (iZ (mx (bz O) (aY bf (pv 1) ak cz) (pv 2))) (ao (aK aF)) aI)
  (ao (aK (aY cn (bV (aa aF (aa aF ag))) (bU fq (by rfl) T.int ja (aa (kK iL (az bu (pc a6 O aC (aa (pv 0) ag)) (aQ mD (by rfl) T.len boot_len (aa (pv 5) ag))) (bJ (bz O) (pv 0) aF cz) (aG _)) ag)) cz)))) aI)
  (ao (aK aF))))))))))),?_]
 show iT λ_ jt=>?_;show#[0,m.md,.ref m.lr,rfl,M.g (E4 _ _ _ _),jt _ _ ?_];show share (λσ H1=>aP H H1/\σ=#v[.ref m.md,.ref d,.ref m.lr,.str (jV D),.int (Er D),none,none,none,none]) (λu' a5=>?A) ?B
 case A =>
  show#[0,0,d,0,bP.of hd.1,λc=>?_,λ_ p hp=>?_]
  .show#[d,0,bP.of hd.1,by rw[xq c];rfl,by rw[xq c];show#[_,0,_,0,rfl,a5 _ _ #[aP.refl H,rfl]]]
  .rw[Ew];show#[p,0,bP.of ae,4,0,_,0,rfl,a5 _ _ #[Tb.av hp,rfl]]
 case B =>
 rintro σ H1 ⟨I,rfl⟩;let M1:=M.same I;let S:H1 d=some (.tup (qv D)):=I _ _ hd.1;let a8:∀t ad c cs,D=.poke t ad c cs->H1 c=some (.lst (cs.map V.int)):=λt ad c cs e=>I _ _ (hd.2 t ad c cs e);cases as:∃t,D=.begin t
 .let#[t,rfl]:=as;show Br rfl rfl ?_;show#[dZ,λl R=>?_];let s2:=Tb.av (X:=.lst [.str "",.str "Taken"]) R;let h2:upd H1 l (.lst [.str "",.str "Taken"]) l=some (.lst [.str "",.str "Taken"]):=ae;show#[0,0,m.lr,0,f6 (t:=t) (M1.same s2).hr,?_];show .inr #[0,l,2,0,rfl,bw.of h2,at2 _,?_];cases J:Tb.look Z t with
  |some z=>show k "Taken" _ (I.trans s2) (.inr #[rfl,by rw[J];show λz=>by cases z])
  |none=>show k "" _ (I.trans s2) (.inl #[rfl,J])
 let nb:jV D ≠ "begin" := by
  cases D with
  |begin t=>show absurd #[t,rfl] as
  |close t=>show(show ¬ (("close" : Str) = "begin")by decide +kernel)
  |map t p m=>show(show ¬ (("map" : Str) = "begin")by decide +kernel)
  |drop t p m=>show(show ¬ (("drop" : Str) = "begin")by decide +kernel)
  |peek t p m=>show(show ¬ (("peek" : Str) = "begin")by decide +kernel)
  |poke t p m q=>show(show ¬ (("poke" : Str) = "begin")by decide +kernel)
  |copy t p=>show(show ¬ (("copy" : Str) = "begin")by decide +kernel)
 show gY λ_ N L=>?_;show iQ (cO rfl) cQ rfl (ks_ne nb) (L _ ?_);clear N L;show gY λ_ N L=>?_;show#[0,0,m.lr,0,f6 (t:=Er D) M1.hr,?_];cases J:Tb.look Z (Er D)with
 |none=>show#[true,rfl,N _ (k "NoTask" H1 I (.inr (IB J as)))]
 |some z =>
 show#[false,rfl,L _ ?_];clear N L;let hg:=f6 (t:=Er D) M1.hr;rw[J]at hg;let ah:=Tb.aA J;show iT λ_ jt=>?_;show#[0,0,m.lr,ij z,rfl,hg,jt _ _ ?_];clear jt;cases D with
 |begin t=>show absurd #[t,rfl] as
 |close t =>
  show gY λ_ N L=>?_;show iQ (cO rfl) cQ rfl bD (b9 (iQ (cO rfl) cQ rfl bD (L _ ?_)));show lE rfl rfl bD (lE rfl rfl bD ?_);show lE rfl rfl bD ?_;show k "" H1 I (.inl #[rfl,z,J])
 |peek t ad n =>
  show gY λ_ N L=>?_;show iQ (cO rfl) cQ rfl bD (b9 (iQ (cO rfl) cQ rfl bD (L _ ?_)));show Br rfl rfl ?_;let#[_,a0,a1,n0,n1]:=aB;show#[dZ,λl R=>?_];let s2:=Tb.av (X:=.lst [.str "NoPage",.str ""]) R;let h2:upd H1 l (.lst [.str "NoPage",.str ""]) l=some (.lst [.str "NoPage",.str ""]):=ae;show#[0,0,d,2,.int ad,1,bP.of (s2 _ _ S),rfl,0,d,2,.int n,1,bP.of (s2 _ _ S),rfl,z.ra,z.pl,ad,n,rfl,s2 _ _ (M1.rm _ ah),a0,a1,n0,n1,λb H3 s3 Y=>?_];show .inr #[b,rfl,l,2,0,rfl,bw.of (s3 _ _ h2),at2 b,?_];cases b
  .show k "NoPage" H3 (I.trans (s2.trans s3)) (.inr (.inr #[z,J,rfl,λw=>by cases Y.mpr w]))
  .show k "" H3 (I.trans (s2.trans s3)) (.inl #[rfl,z,J,Y.mp rfl])
 |poke t ad c cs =>
  show gY λ_ N L=>?_;show iQ (cO rfl) cQ rfl bD (b9 (iQ (cO rfl) cQ rfl bD (L _ ?_)));show lE rfl rfl bD (Br rfl rfl ?_);let#[_,a0,a1,n1]:=aB;show#[dZ,λl R=>?_];let s2:=Tb.av (X:=.lst [.str "NoPage",.str ""]) R;let h2:upd H1 l (.lst [.str "NoPage",.str ""]) l=some (.lst [.str "NoPage",.str ""]):=ae;show#[0,0,d,2,.int ad,1,bP.of (s2 _ _ S),rfl,0,d,2,.ref c,1,bP.of (s2 _ _ S),rfl,c,0,.inl (bw.of (s2 _ _ (a8 _ _ _ _ rfl))),z.ra,z.pl,ad,cs.length,by rw[mu];rfl,s2 _ _ (M1.rm _ ah),a0,a1,af,af,λb H3 s3 Y=>?_];show .inr #[b,rfl,l,2,0,rfl,bw.of (s3 _ _ h2),at2 b,?_];cases b
  .show k "NoPage" H3 (I.trans (s2.trans s3)) (.inr (.inr #[z,J,rfl,λw=>by cases Y.mpr w]))
  .show k "" H3 (I.trans (s2.trans s3)) (.inl #[rfl,z,J,Y.mp rfl])
 |copy t o =>
  show gY λ_ N L=>?_;show iQ (cO rfl) cQ rfl bD (b9 (iQ (cO rfl) cQ rfl bD (L _ ?_)));show lE rfl rfl bD (lE rfl rfl bD ?_);show Br rfl rfl ?_;show gY λ_ N L=>?_;show#[0,d,2,.int o,1,bP.of S,rfl,0,m.lr,0,f6 (t:=o) M1.hr,?_];cases eo:Tb.look Z o with
  |some _=>show#[true,rfl,N _ (k "Taken" H1 I (.inr (.inr #[z,J,.inl #[rfl,by rw[eo];show λz=>by cases z]])))]
  |none =>
  show#[false,rfl,L _ ?_];show#[dZ,λl R=>?_];let s2:=Tb.av (X:=.lst [.str "",.str "NoRoom"]) R;let h2:upd H1 l (.lst [.str "",.str "NoRoom"]) l=some (.lst [.str "",.str "NoRoom"]):=ae;show#[0,m,bL,pk,Z,rfl,M1.same s2,lz,λH3 s3=>?_];let M3:=(M1.same s2).same s3;show#[0,z.ra,0,M3.rm _ ah,_,0,rfl,0,m.md,.int bL,rfl,M3.g (Kr _ _ _ _),_,0,5];show .inr #[0,l,2,0,rfl,bw.of (s3 _ _ h2),at2 _,?_];rw[Tb.cR];cases c:bL<AV Z+z.pl.length
  .rw[decide_eq_true c];show k "NoRoom" H3 (I.trans (s2.trans s3)) (.inr (.inr #[z,J,.inr #[rfl,eo,c]]))
  .rw[decide_eq_false c];show k "" H3 (I.trans (s2.trans s3)) (.inl #[rfl,z,J,eo,Rp Wu c])
 |map t p G =>
  show gY λ_ N L=>?_;show eqT (cO rfl) cQ rfl (eS (N _ ?_));let#[_,p0,p1,m0,m1]:=aB;show#[0,0,d,0,bP.of S,λc=>absurd c (by rintro⟨c,_⟩;show absurd (show HT.dE 4 0 (some 2)=0 from c) ar),λ_ p' aT=>?_];let s2:=Tb.av (X:=.tup [.int p,.int G]) aT;let ec:∀x:Str,fA [V.str x,V.int t,V.int p,V.int G] (some 2) none=[V.int p,V.int G]:=λ_=>rfl;dsimp only[qv];rw[ec];show#[p',[.int p,.int G],rfl,bP.of ae,4,0,_,0,5];let a7:=s2 _ _ S;let M2:=M1.same s2;generalize upd H1 p' (.tup [.int p,.int G])=H2 at *;show gY λ_ U ap=>?_;let np:Rm.bq p G->Gj Z bL (.map t p G) "NoPage" := λh=>.inr #[z,J,.inl #[rfl,h]];show#[0,_,0,rfl,0,?_];cases c1:G<1
  .rw[decide_eq_true c1];show eS (U _ (k "NoPage" H2 (I.trans s2) (.inr (np (.inl c1)))))
  rw[decide_eq_false c1];show b9 ?_;show#[0,_,0,rfl,0,?_];cases c2:p<0
  .rw[decide_eq_true c2];show eS (U _ (k "NoPage" H2 (I.trans s2) (.inr (np (.inr (.inl c2))))))
  rw[decide_eq_false c2];show b9 ?_;show#[0,0,_,0,4,0,rfl,0,?_];cases c:(64:Int)<p+G
  .rw[decide_eq_true c];show U _ (k "NoPage" H2 (I.trans s2) (.inr (np (.inr (.inr c)))))
  rw[decide_eq_false c];show ap _ ?_;clear U ap;let am:¬ Rm.bq p G:=λh=>by
   rcases h with h|h|h<;>omega
  show#[0,0,0,_,0,4,0,#[af,af,af,af],?_];show gK (lo:=p) (n:=(p+G-p).toNat) (λi ys H3=>ys=((NC i).map λj:Nat=>(Tb.look z.pl (p+j)).isSome).map V.bl/\H3=H2) #[1] ?_ ?_
  .rintro i ys H3 hi ⟨rfl,rfl⟩;show#[0,0,z.ra,0,f6 (M2.rm _ ah),3,rfl]
   .rw[mu,mu,O0];omega
   .rw[Um,L0,L0];change _++[V.bl ((Tb.look z.pl (p+(i:Int))).map fU).isSome]=_;rw[Sy];rfl
  rintro ys H3 ⟨rfl,rfl⟩ l R;let s3:=Tb.av (X:=.lst (((NC (p+G-p).toNat).map λj:Nat=>(Tb.look z.pl (p+j)).isSome).map V.bl)) R;let h3:upd H3 l (.lst (((NC (p+G-p).toNat).map λj:Nat=>(Tb.look z.pl (p+j)).isSome).map V.bl)) l=some (.lst (((NC (p+G-p).toNat).map λj:Nat=>(Tb.look z.pl (p+j)).isSome).map V.bl)):=ae;let ac:Rm.aM p G=(NC (p+G-p).toNat).map λj:Nat=>p+j:=(by unfold Rm.aM;rw[show p+G-p=G by omega]);generalize upd H3 l (.lst (((NC (p+G-p).toNat).map λj:Nat=>(Tb.look z.pl (p+j)).isSome).map V.bl))=H4 at *;let M4:=M2.same s3;let S4:=I.trans (s2.trans s3);show nameQ ?_;dsimp only;show lE rfl rfl bD ?_;show gY λ_ N L=>?_;show#[0,l,0,bw.of h3,0,?_];cases ea:(((NC (p+G-p).toNat).map λj:Nat=>(Tb.look z.pl (p+j)).isSome)).any id with
  |true =>
   let#[b,Y,ab]:=RK.mp ea;let#[j,hj,rfl]:=qj.mp Y;show N _ (k "Taken" H4 S4 (.inr (.inr #[z,J,.inr (.inl #[rfl,am,p+j,by rw[ac];show qj.mpr #[j,hj,rfl],λw=>?_])])));let ab:((Tb.look z.pl (p+(j:Int))).isSome)=true:=ab;rwa[w]at ab
  |false =>
  show L _ ?_;show#[dZ,λl2 a2=>?_];let s5:=Tb.av (X:=.lst [.str "",.str "NoRoom"]) a2;let h5:upd H4 l2 (.lst [.str "",.str "NoRoom"]) l2=some (.lst [.str "",.str "NoRoom"]):=ae;show#[0,m,bL,pk,Z,rfl,M4.same s5,lz,λH6 s6=>?_];let M6:=(M4.same s5).same s6;show#[0,_,0,rfl,0,m.md,.int bL,rfl,M6.g (Kr _ _ _ _),_,0,5];show .inr #[0,l2,2,0,rfl,bw.of (s6 _ _ h5),at2 _,?_];let a4:∀q∈Rm.aM p G,Tb.look z.pl q=none:=λq hq=>by
   rw[ac]at hq;let#[j,hj,rfl]:=qj.mp hq;let e:=Vk.mp ea ((Tb.look z.pl (p+(j:Int))).isSome) (qj.mpr #[j,hj,rfl]);cases w:Tb.look z.pl (p+(j:Int))with
   |none=>rfl
   |some _=>rw[w]at e;show absurd rfl e
  cases c3:bL<AV Z+G
  .rw[decide_eq_true c3];show k "NoRoom" H6 (S4.trans (s5.trans s6)) (.inr (.inr #[z,J,.inr (.inr #[rfl,am,a4,c3])]))
  .rw[decide_eq_false c3];show k "" H6 (S4.trans (s5.trans s6)) (.inl #[rfl,z,J,am,a4,Rp Wu c3])
 |drop t p G =>
  show gY λ_ N L=>?_;show iQ (cO rfl) cQ rfl bD (b9 (eqT (cO rfl) cQ rfl (N _ ?_)));let#[_,p0,p1,m0,m1]:=aB;show#[0,0,d,0,bP.of S,λc=>absurd c (by rintro⟨c,_⟩;show absurd (show HT.dE 4 0 (some 2)=0 from c) ar),λ_ p' aT=>?_];let s2:=Tb.av (X:=.tup [.int p,.int G]) aT;let ec:∀x:Str,fA [V.str x,V.int t,V.int p,V.int G] (some 2) none=[V.int p,V.int G]:=λ_=>rfl;dsimp only[qv];rw[ec];show#[p',[.int p,.int G],rfl,bP.of ae,4,0,_,0,5];let a7:=s2 _ _ S;let M2:=M1.same s2;generalize upd H1 p' (.tup [.int p,.int G])=H2 at *;show gY λ_ U ap=>?_;let np:Rm.bq p G->Gj Z bL (.drop t p G) "NoPage" := λh=>.inr #[z,J,rfl,.inl h];show#[0,_,0,rfl,0,?_];cases c1:G<1
  .rw[decide_eq_true c1];show eS (U _ (k "NoPage" H2 (I.trans s2) (.inr (np (.inl c1)))))
  rw[decide_eq_false c1];show b9 ?_;show#[0,_,0,rfl,0,?_];cases c2:p<0
  .rw[decide_eq_true c2];show eS (U _ (k "NoPage" H2 (I.trans s2) (.inr (np (.inr (.inl c2))))))
  rw[decide_eq_false c2];show b9 ?_;show#[0,0,_,0,4,0,rfl,0,?_];cases c:(64:Int)<p+G
  .rw[decide_eq_true c];show U _ (k "NoPage" H2 (I.trans s2) (.inr (np (.inr (.inr c)))))
  rw[decide_eq_false c];show ap _ ?_;clear U ap;let am:¬ Rm.bq p G:=λh=>by
   rcases h with h|h|h<;>omega
  show#[0,0,0,_,0,4,0,#[af,af,af,af],?_];show gK (lo:=p) (n:=(p+G-p).toNat) (λi ys H3=>ys=((NC i).map λj:Nat=>(Tb.look z.pl (p+j)).isSome).map V.bl/\H3=H2) #[1] ?_ ?_
  .rintro i ys H3 hi ⟨rfl,rfl⟩;show#[0,0,z.ra,0,f6 (M2.rm _ ah),3,rfl]
   .rw[mu,mu,O0];omega
   .rw[Um,L0,L0];change _++[V.bl ((Tb.look z.pl (p+(i:Int))).map fU).isSome]=_;rw[Sy];rfl
  rintro ys H3 ⟨rfl,rfl⟩ l R;let s3:=Tb.av (X:=.lst (((NC (p+G-p).toNat).map λj:Nat=>(Tb.look z.pl (p+j)).isSome).map V.bl)) R;let h3:upd H3 l (.lst (((NC (p+G-p).toNat).map λj:Nat=>(Tb.look z.pl (p+j)).isSome).map V.bl)) l=some (.lst (((NC (p+G-p).toNat).map λj:Nat=>(Tb.look z.pl (p+j)).isSome).map V.bl)):=ae;let ac:Rm.aM p G=(NC (p+G-p).toNat).map λj:Nat=>p+j:=(by unfold Rm.aM;rw[show p+G-p=G by omega]);generalize upd H3 l (.lst (((NC (p+G-p).toNat).map λj:Nat=>(Tb.look z.pl (p+j)).isSome).map V.bl))=H4 at *;let M4:=M2.same s3;let S4:=I.trans (s2.trans s3);show nameQ ?_;dsimp only;show Br rfl rfl ?_;show#[dZ,λl2 a2=>?_];let s5:=Tb.av (X:=.lst [.str "NoPage",.str ""]) a2;let h5:upd H4 l2 (.lst [.str "NoPage",.str ""]) l2=some (.lst [.str "NoPage",.str ""]):=ae;show#[0,l,0,bw.of (s5 _ _ h3),?_];show .inr #[0,l2,2,0,rfl,bw.of h5,at2 _,?_];cases ea:(((NC (p+G-p).toNat).map λj:Nat=>(Tb.look z.pl (p+j)).isSome)).all id with
  |false =>
   let#[b,Y,ab]:=List.all_eq_false.mp ea;let#[j,hj,rfl]:=qj.mp Y;show k "NoPage" _ (S4.trans s5) (.inr (.inr #[z,J,rfl,.inr #[p+j,by rw[ac];show qj.mpr #[j,hj,rfl],?_]]));cases w:Tb.look z.pl (p+(j:Int))with
   |none=>rfl
   |some _=>show absurd (by change((Tb.look z.pl (p+(j:Int))).isSome)=true;rw[w];rfl) ab
  |true =>
   show k "" _ (S4.trans s5) (.inl #[rfl,z,J,am,λq hq=>?_]);rw[ac]at hq;let#[j,hj,rfl]:=qj.mp hq;let e:=OG.mp ea ((Tb.look z.pl (p+(j:Int))).isSome) (qj.mpr #[j,hj,rfl]);intro w;rwa[w]at e
theorem Gf:∀{L:List (List Int)}{i o:Nat},(∀r∈L,r.length=8)->o<8->L.flatten[8*i+o]?=(L[i]?).bind (·[o]?)
 | [],i,o,_,_=>by simp
 |r::L,0,o,h,G=>by
  have:=h r Oz;rw[Qs,Pm af];simp
 |r::L,i+1,o,h,G=>by
  have:=h r Oz;rw[Qs,Pe af,show 8*(i+1)+o-r.length=8*i+o by omega,Gf (λx I=>h x (Ou _ I)) G];simp
theorem yY{ad:Int}{n:Nat}{i:Nat}(h:i<(Rm.ay ad n).length):(Rm.ay ad n)[i]?=some (ad/8+i):=by
 unfold Rm.ay at h ⊢;cases e:((n:Nat):Int)=0
 .rw[Xl e]at h;cases h
 .rw[Xk e]at h ⊢;unfold Rm.aM at h ⊢;rw[mu,O0]at h;rw[t5,Rz h];rfl
theorem GY{ad:Int}{n:Nat}{j:Nat}(h:j<n):((ad+j)/8-ad/8).toNat<(Rm.ay ad n).length:=by
 unfold Rm.ay;rw[Xk af];unfold Rm.aM;rw[mu,O0];change _<((ad+n-1)/8-ad/8+1).toNat;omega
variable{F:Xs}{ad:Int}{n:Nat}
theorem BL(J:∀q∈Rm.ay ad n,(F q).length=8){i o:Nat}(hi:i<(Rm.ay ad n).length)(G:o<8):(cf F (Rm.ay ad n))[8*i+o]?=(F (ad/8+i))[o]?:=by
 unfold cf;rw[Gf (λr L=>by let#[q,I,rfl]:=qj.mp L;show J q I) G,t5,yY hi];rfl
def rP(F:Xs)(ad:Int)(n:Nat):List Int:=(NC n).map λj:Nat=>(F ((ad+(j:Int))/8)).getD ((ad+(j:Int))%8).toNat 0
theorem zl(L:∀q∈Rm.ay ad n,(F q).length=8):((cf F (Rm.ay ad n)).drop (ad%8).toNat).take n=rP F ad n:=by
 show QJ λj=>?_;unfold rP;rw[RS,Tq,t5];cases G:j<n
 .rw[Xl G,Rz G];let hi:=GY (ad:=ad) G;let I:((ad+j)%8).toNat<8:=(by clear hi;omega);let J:ad/8+(((ad+j)/8-ad/8).toNat:Int)=(ad+j)/8:=(by clear hi I;omega);let e:(ad%8).toNat+j=8*((ad+j)/8-ad/8).toNat+((ad+j)%8).toNat:=(by clear hi I;omega);rw[e,BL L hi I,J];let N:(ad+(j:Int))/8∈Rm.ay ad n:=by
   have:=z6 (yY hi);rw[J]at this;show this
  have:=L _ N;change _=some ((F ((ad+(j:Int))/8)).getD ((ad+(j:Int))%8).toNat 0);rw[OT,vu (by rw[this];show I)];rfl
 .rw[Xk G,Pd (by rw[O0];show OA G)];rfl
def jX(r:List Int)(ad:Int)(cs:List Int)(q:Int):List Int:=(NC 8).map λo:Nat=>if ad<=8*q+(o:Int)/\8*q+(o:Int)<ad+cs.length then cs.getD (8*q+(o:Int)-ad).toNat 0 else r.getD o 0
theorem hJ{r:List Int}{cs:List Int}{q:Int}:(jX r ad cs q).length=8:=by unfold jX;rw[mu,O0]
theorem ip{r:List Int}{cs:List Int}{q:Int}{o:Nat}(h:o<8):(jX r ad cs q)[o]?=some (if ad<=8*q+(o:Int)/\8*q+(o:Int)<ad+cs.length then cs.getD (8*q+(o:Int)-ad).toNat 0 else r.getD o 0):=by
 unfold jX;rw[t5,Rz h];rfl
theorem Cr{r:List Int}{q:Int}(h:r.length=8):jX r ad [] q=r:=by
 show QJ λo=>?_;cases G:o<8
 .rw[ip G,Xk (by rw[U7];omega),OT,vu (OZ G (id (Qz h)))];rfl
 .rw[Pd (by rw[hJ];show OA G),Pd af]
theorem AJ{r cs:List Int}{c:Int}{q:Int}:jX r ad (cs++[c]) q=if (ad+(cs.length:Int))/8=q then(jX r ad cs q).set ((ad+(cs.length:Int))%8).toNat c else jX r ad cs q:=by
 let N:(cs++[c]).length=cs.length+1:=(by rw[wh];rfl);let J:∀k:Nat,k<cs.length->(cs++[c]).getD k 0=cs.getD k 0:=λk h=>(by rw[OT,OT,Pm h]);let I:(cs++[c]).getD cs.length 0=c:=(by rw[OT,Pe (ti _)];simp);show QJ λo=>?_;cases G:o<8
 .let tl:¬ 8*q+(o:Int)=ad+(cs.length:Int)->(if ad<=8*q+(o:Int)/\8*q+(o:Int)<ad+((cs.length+1:Nat):Int)then(cs++[c]).getD (8*q+(o:Int)-ad).toNat 0 else r.getD o 0)=if ad<=8*q+(o:Int)/\8*q+(o:Int)<ad+cs.length then cs.getD (8*q+(o:Int)-ad).toNat 0 else r.getD o 0:=λk=>by
   clear N I G;generalize 8*q+(o:Int)=A at *;cases h:ad<=A/\A<ad+cs.length
   .rw[Xl h,Xl (by clear J;omega),J _ (by clear J;omega)]
   .rw[Xk h,Xk (by clear J;omega)]
  cases e:(ad+(cs.length:Int))/8=q
  .rw[Xl e,List.getElem?_set,hJ,ip G,ip G,N];clear N J;cases L:((ad+(cs.length:Int))%8).toNat=o
   .let k:8*q+(o:Int)=ad+(cs.length:Int):=(by clear I tl;omega);rw[Xl L,L,Xl G,k,Xl (by clear k I tl e L G;omega),show(ad+(cs.length:Int)-ad).toNat=cs.length by clear k I tl e L G;omega,I]
   .rw[Xk L,tl (by clear I tl;omega)]
  .rw[Xk e,ip G,ip G,N,tl (by clear I J tl N;omega)]
 .have:(if (ad+(cs.length:Int))/8=q then(jX r ad cs q).set ((ad+(cs.length:Int))%8).toNat c else jX r ad cs q).length=8:=(by split<;>simp[hJ]);rw[Pd (by rw[hJ];show OA G),Pd af]
theorem zX{ws cs:List Int}{k j:Nat}{x:Int}(J:k+cs.length<=ws.length)(I:ws[j]?=some x):(ws.take k++cs++ws.drop (k+cs.length))[j]?=some (if k<=j/\j<k+cs.length then cs.getD (j-k) 0 else x):=by
 let lt:(ws.take k).length=k:=(by rw[Oj];omega);cases G:j<k
 .rw[Xk af,OE,Pm (OZ G (id (Qz lt))),RS,Xl G,I]
 .by_cases c2:j<k+cs.length
  .rw[Xl af,OE,Pe af,lt,Pm af,OT,vu af];rfl
  .rw[Xk (Pn not_and λa=>c2),Pe (by rw[wh];omega),Tq,wh,lt,show k+cs.length+(j-(k+cs.length))=j by omega,I]
theorem BP{cs:List Int}(J:∀q∈Rm.ay ad cs.length,(F q).length=8){i:Nat}(hi:i<(Rm.ay ad cs.length).length)(R:(Rm.fh (cf F (Rm.ay ad cs.length)) (ad%8).toNat cs).length=8*(Rm.ay ad cs.length).length):(fX F ad cs)[i]?=some (jX (F (ad/8+i)) ad cs (ad/8+i)):=by
 unfold fX Rm.gQ;rw[t5,Rz hi];change some _=some _;congr 1;let S:(cf F (Rm.ay ad cs.length)).length=8*(Rm.ay ad cs.length).length:=by
  unfold cf;have:∀(L:List (List Int)),(∀r∈L,r.length=8)->L.flatten.length=8*L.length:=λL=>by
   induction L with
   |nil=>intro _;rfl
   |cons r L ih=>intro h;rw[Qs,wh,h r Oz,ih λx Y=>h x (Ou _ Y),K4];omega
  rw[this _ (λr N=>by let#[q,I,rfl]:=qj.mp N;show J q I),mu]
 show QJ λo=>?_;cases G:o<8
 .rw[RS,Xl G,Tq,ip G];let I:ad/8+(i:Int)∈Rm.ay ad cs.length:=z6 (yY hi);let N:=J _ I;let O:(cf F (Rm.ay ad cs.length))[8*i+o]?=some ((F (ad/8+i)).getD o 0):=by
   rw[BL J hi G,OT,vu (OZ G (id (Qz N)))];rfl
  let U:8*(ad/8+(i:Int))+(o:Int)=ad+((8*i+o:Nat):Int)-((ad%8).toNat:Int):=af;let k8:(ad%8).toNat<8:=af;unfold Rm.fh at R ⊢;rw[wh,wh,Oj,P1,S]at R;rw[U];clear U N I J;generalize (ad%8).toNat=k at *;rw[zX (by clear O;omega) O];clear O R S k8;generalize 8*i+o=j;congr 1;cases c:k<=j/\j<k+cs.length
  .rw[Xl c,Xl af,show(ad+(j:Int)-(k:Int)-ad).toNat=j-k by omega]
  .rw[Xk c,Xk af]
 .rw[Pd (by rw[Oj];omega),Pd (by rw[hJ];show OA G)]
theorem L4{s:Pg.PS}{W:dq}{cv:Xn}{t:Int}{x:TD}(O:Pg.RI s (ents W))(L:Cv s W cv)(G:Tb.look W t=some x)(I:¬ Rm.cD ad n (x.t.map (·.1))):∀q∈Rm.ay ad n,(cv t q).length=8:=λq J=>by
 let h:=(Rm.iH I).2 q J;cases e:Tb.look x.t q with
 |none=>show absurd h (Tb.cu e)
 |some N=>show Au.len O.good (L t x G q N e)
theorem FT(N:∀q∈Rm.ay ad n,(F q).length=8):(cf F (Rm.ay ad n)).length=8*(Rm.ay ad n).length:=by
 have:∀(L:List (List Int)),(∀r∈L,r.length=8)->L.flatten.length=8*L.length:=λL=>by
  induction L with
  |nil=>intro _;rfl
  |cons r L J=>intro h;rw[Qs,wh,h r Oz,J λx G=>h x (Ou _ G),K4];omega
 unfold cf;rw[this _ (λr O=>by let#[q,I,rfl]:=qj.mp O;show N q I),mu]
def vg(cv:Xn)(t ad:Int)(cs:List Int):Int->Int->List Int:=λt' q=>if t'=t/\q∈Rm.ay ad cs.length then jX (cv t q) ad cs q else cv t' q
theorem xX{cv:Xn}{t:Int}{cs:List Int}{S:List Int}(R:¬ Rm.cD ad cs.length S)(G:∀q∈Rm.ay ad cs.length,(cv t q).length=8):gR cv t (((Rm.ay ad cs.length).zip (fX (cv t) ad cs)).reverse)=vg cv t ad cs:=by
 let O:=Rm.pH R (ws:=cf (cv t) (Rm.ay ad cs.length)) (FT G);let U:(fX (cv t) ad cs).length=(Rm.ay ad cs.length).length:=(by unfold fX Rm.gQ;rw[mu,O0]);let I:((Rm.ay ad cs.length).zip (fX (cv t) ad cs)).map (·.1)=Rm.ay ad cs.length:=VI (Wc (id (Qz U)));let N:((((Rm.ay ad cs.length).zip (fX (cv t) ad cs)).reverse).map (·.1)).Nodup:=by
  rw[List.map_reverse,I];show((List.reverse_perm _).nodup_iff).mpr (kN _ _)
 funext t' q;unfold gR vg;cases c:t'=t
 .rw[Xl c];cases m:q∈Rm.ay ad cs.length
  .rw[Xl #[c,m]];let#[i,hi,e]:=PD m;let J:=yY hi;rw[vu hi,e]at J;let L:=rn J;rw[Tb.bX N (Pp.mpr (z6 (i:=i) (a:=(q,jX (cv t q) ad cs q)) (by rw[SS];show#[by rw[vu hi,e],by rw[L];show BP G hi O])))];rfl
  .rw[Xk (λh=>m h.2)];have:Tb.look (((Rm.ay ad cs.length).zip (fX (cv t) ad cs)).reverse) q=none:=by
    cases e:Tb.look (((Rm.ay ad cs.length).zip (fX (cv t) ad cs)).reverse) q with
    |none=>rfl
    |some r=>show absurd (by rw[<-I];show qj.mpr #[_,Pp.mp (Tb.aA e),rfl]) m
   rw[this];rfl
 .rw[Xk c,Xk (λh=>c h.1)]
def mT(D:Dd)(h h':Int->Bool):Prop:=match D with
 |.begin t=>∀t',h' t'=(decide (t'=t)||h t')
 |.close t=>∀t',h' t'=(decide (t'≠t)&&h t')
 |.copy _ o=>∀t',h' t'=(decide (t'=o)||h t')
 |_=>∀t',h' t'=h t'
def mQ{α:Type}(I:α)(ok:α->Prop)(D:Dd)(e G:Int->Int->Option α):Prop:=match D with
 |.begin t=>∀t' q,G t' q=if t'=t then none else e t' q
 |.close t=>∀t' q,G t' q=if t'=t then none else e t' q
 |.map t p m=>∀t' q,G t' q=if t'=t/\q∈Rm.aM p m then some I else e t' q
 |.drop t p m=>∀t' q,G t' q=if t'=t/\q∈Rm.aM p m then none else e t' q
 |.peek _ _ _=>∀t' q,G t' q=e t' q
 |.poke t ad _ cs=>∀t' q,if t'=t/\q∈Rm.ay ad cs.length then ∃k,G t' q=some k/\ok k else G t' q=e t' q
 |.copy t o=>∀t' q,G t' q=if t'=o then e t q else e t' q
def hW(W:dq)(t:Int):Bool:=(Tb.look W t).isSome
def eW(W:dq)(t q:Int):Option Pg.Ent:=(Tb.look W t).bind λx=>Tb.look x.t q
def hZ(Z:Zs)(t:Int):Bool:=(Tb.look Z t).isSome
def eZ(Z:Zs)(t q:Int):Option Int:=(Tb.look Z t).bind λz=>(Tb.look z.pl q).map (·.2)
structure Tw(W:dq)(Z:Zs):Prop where
 h:∀t,hW W t=hZ Z t
 e:∀t q,(eW W t q).map isNone=(eZ Z t q).map λv=>decide (v=0)
theorem map_if{α G:Type}{c:Prop}[Decidable c]{f:α->G}{a b:Option α}:(if c then a else b).map f=if c then a.map f else b.map f:=by split<;>rfl
theorem Tw.next{W W':dq}{Z Z':Zs}{D:Dd}(T:Tw W Z)(h1:mT D (hW W) (hW W'))(h2:mT D (hZ Z) (hZ Z'))(G:mQ none (λx=>∃k,x=some k) D (eW W) (eW W'))(I:mQ 0 (λv=>v≠0) D (eZ Z) (eZ Z')):Tw W' Z':=by
 show#[λt'=>?_,λt' q=>?_]
 .cases D with
  |begin t=>show(h1 t').trans (by rw[T.h t'];show(h2 t').symm)
  |close t=>show(h1 t').trans (by rw[T.h t'];show(h2 t').symm)
  |copy t o=>show(h1 t').trans (by rw[T.h t'];show(h2 t').symm)
  |map t p m=>show(h1 t').trans ((T.h t').trans (h2 t').symm)
  |drop t p m=>show(h1 t').trans ((T.h t').trans (h2 t').symm)
  |peek t ad n=>show(h1 t').trans ((T.h t').trans (h2 t').symm)
  |poke t ad c cs=>show(h1 t').trans ((T.h t').trans (h2 t').symm)
 .cases D with
  |begin t=>rw[G t' q,I t' q,map_if,map_if,T.e];rfl
  |close t=>rw[G t' q,I t' q,map_if,map_if,T.e];rfl
  |copy t o=>rw[G t' q,I t' q,map_if,map_if,T.e,T.e]
  |map t p m=>rw[G t' q,I t' q,map_if,map_if,T.e];rfl
  |drop t p m=>rw[G t' q,I t' q,map_if,map_if,T.e];rfl
  |peek t ad n=>rw[G t' q,I t' q,T.e]
  |poke t ad c cs =>
   let L:=G t' q;let J:=I t' q;cases z:t'=t/\q∈Rm.ay ad cs.length
   .rw[Xl z]at L J;let#[k,N,j,rfl]:=L;let#[v,R,O]:=J;rw[N,R];change some (isNone (some j))=some (decide (v=0));rw[decide_eq_false O];rfl
   .rw[Xk z]at L J;rw[L,J];show T.e t' q
theorem yb{W:dq}{t:Int}{x y:TD}(h:Tb.look W t=some x)(t':Int):hW (Tb.bg W t y) t'=hW W t':=by
 unfold hW;rw[Tb.bT t' h];cases z:t'=t
 .rw[Xl z,z,h];rfl
 .rw[Xk z]
theorem x6{W:dq}{t:Int}{x y:TD}(h:Tb.look W t=some x)(t' q:Int):eW (Tb.bg W t y) t' q=if t'=t then Tb.look y.t q else eW W t' q:=by
 unfold eW;rw[Tb.bT t' h];cases z:t'=t
 .rw[Xl z,Xl z];rfl
 .rw[Xk z,Xk z]
theorem yS{W:dq}{t:Int}{x:TD}(h:Tb.look W t=some x)(q:Int):eW W t q=Tb.look x.t q:=by unfold eW;rw[h];rfl
def uY(W:dq)(tt:Int):Dd->Prop
 |.begin t=>Tb.look W t=none
 |.close t=>∃x,Tb.look W t=some x
 |.map t p m=>∃x,Tb.look W t=some x/\¬ Rm.bq p m/\(∀q∈Rm.aM p m,Tb.look x.t q=none)/\(ents W).length+m<=tt
 |.drop t p m=>∃x,Tb.look W t=some x/\¬ Rm.bq p m/\∀q∈Rm.aM p m,Tb.look x.t q≠none
 |.peek t ad n=>∃x,Tb.look W t=some x/\∃k:Nat,n=k/\¬ Rm.cD ad k (x.t.map (·.1)) /\ -1000<=ad/\ad<=1000/\k<=100
 |.poke t ad _ cs=>∃x,Tb.look W t=some x/\¬ Rm.cD ad cs.length (x.t.map (·.1)) /\ -1000<=ad/\ad<=1000/\cs.length<=100
 |.copy t o=>∃x,Tb.look W t=some x/\Tb.look W o=none/\(ents W).length+x.t.length<=tt
structure LL(P:se)(w:G1)(K:HC)(mg:Xq)(base:Heap)(c:CA):Prop where
 LC:↥Md 3 c.C "begin" (oQ c)
 Mg:↥Md 6 c.C "close" (pK c)
 MU:↥Md 4 c.C "map" (xm c)
 My:↥Md 6 c.C "drop" (wc c)
 MG:↥Md 5 c.C "copy" (uB c)
 Jx:↥Md 8 c.C "peek" (sv c)
 LW:↥Md 10 c.C "poke" (tL K c)
def iJ(D:Dd)(cv:Xn):Int->Int->List Int:=match D with
 |.map t p m=>iM cv t (Rm.aM p m)
 |.copy t o=>qu cv t o
 |.poke t ad _ cs=>vg cv t ad cs
 |_=>cv
def FQ(D:Dd)(cv:Xn)(H H':Hp)(v:V):Prop:=match D with
 |.peek t ad n=>∃l,v=.ref l/\H l=none/\H' l=some (.lst ((rP (cv t) ad n.toNat).map V.int))
 |_=>True
def LJ(c:CA)(a:RA)(D:Dd)(H H':Hp)(M M':Xm)(s':Pg.PS)(W W':dq)(v:V):Prop:=match D with
 |.peek _ _ _=>∃l,v=.ref l/\H' l≠none/\∀o,ax c (upd H' l o) M' a s' W'/\Step H M (a.own W) (upd H' l o) M' (a.own W')
 |_=>True
inductive qf(c:CA)(vs:List V)(H:Hp)(Q:VK)(e:XK):Prop
 |mk (M:Xm) (a:RA) (s:Pg.PS) (W:dq) (cv:Xn) (d:Addr) (D:Dd) (_:vs=[.ref a.rp,.ref d]) (_:ax c H M a s W) (_:Pg.RI s (ents W)) (_:Cv s W cv) (_:W.length<=1000) (_:iV H d D) (_:uY W (bL s) D) (_:∀(H':Hp)(M':Xm)(s':Pg.PS)(W':dq)(cv':Xn)(v:V),ax c H' M' a s' W'->Pg.RI s' (ents W')->(Cv s' W' cv'/\cv'=iJ D cv/\FQ D cv H H' v/\LJ c a D H H' M M' s' W W' v)->Step H M (a.own W) H' M' (a.own W')->(∀b,(s'.ow b).length=(s.ow b).length)->W'.length<=W.length+1->mT D (hW W) (hW W')->mQ none (λx=>∃k,x=some k) D (eW W) (eW W')->Q v H'):qf c vs H Q e
theorem zv:aE ["_law_kept","_law_deed_here","_law_name","_law_task"] ["_law_kept","_law_deed_here"] (aw nD):=L2.bN
theorem AM{c:CA}(F:cE K "_law_called" "_law_called" nD f fd)(T:mY K mg c)(M:LL P w K mg base c):↥aV 11 f fd ["_law_kept","_law_deed_here"] (qf c):=by
 show F.dS zv (λas A outer s H vs Q E hr h=>?_);let#[MM,a,s',W,cv,d,D,rfl,R,ri,ac,lw,hd,S,q]:=h;show#[_,(aj (cU (cJ jz (pv 1) eg (cN ak)) (dU rfl (bj (gH 2 zv.nd) (bj (gH 3 zv.nd) de))))
  (aj (aU (aD bH (pv 2) aF (aG _)) (ao (aK (pm (pv 0) T.cl M.LC hr aC (aa (pv 3) ag)))) aI)
  (aj (aU (aD bH (pv 2) aF (aG _)) (ao (aK (pm (pv 0) T.cl M.Mg hr aC (aa (pv 3) ag)))) aI)
  (aj (aU (aD bH (pv 2) aF (aG _)) (ao (aK (pm (pv 0) T.cl M.MU hr aC (aa (pv 3) (aa (aY bf (pv 1) ak cz) (aa (aY bf (pv 1) ak cz) ag)))))) aI)
  (aj (aU (aD bH (pv 2) aF (aG _)) (ao (aK (pm (pv 0) T.cl M.My hr aC (aa (pv 3) (aa (aY bf (pv 1) ak cz) (aa (aY bf (pv 1) ak cz) ag)))))) aI)
  (aj (aU (aD bH (pv 2) aF (aG _)) (ao (aK (pm (pv 0) T.cl M.MG hr aC (aa (pv 3) (aa (aY bf (pv 1) ak cz) ag))))) aI)
  (aj (aU (aD bH (pv 2) aF (aG _)) (ao (aK (pm (pv 0) T.cl M.Jx hr aC (aa (pv 3) (aa (aY bf (pv 1) ak cz) (aa (aY bf (pv 1) ak cz) ag)))))) aI)
  (ao (aK (pm (pv 0) T.cl M.LW hr aC (aa (pv 3) (aa (aY bf (pv 1) ak cz) (aa (aY bf (pv 1) ak cz) ag))))))))))))),?_]
 show share (λσ H1=>aP H H1/\σ=#v[.ref a.rp,.ref d,.str (jV D),.int (Er D)]) (λu' ah=>?A) ?B
 case A =>
  show#[0,0,d,0,bP.of hd.1,λc=>?_,λ_ p hp=>?_]
  .show#[d,0,bP.of hd.1,by rw[xq c];rfl,by rw[xq c];show#[_,0,_,0,rfl,ah _ _ #[aP.refl H,rfl]]]
  .rw[Ew];show#[p,0,bP.of ae,4,0,_,0,rfl,ah _ _ #[Tb.av hp,rfl]]
 case B =>
 rintro σ H1 ⟨s1,rfl⟩;let R1:=R.same s1;let S1:=R.gv s1;let U:H1 d=some (.tup (qv D)):=s1 _ _ hd.1;let#[dx,ho]:=R1.ob;let no:∀mm:Str,¬ mm = "rooms" -> ¬ mm = "total" -> ¬ mm = "paging" -> (fJ a.A.pg (bL s') a.rd).lookup mm=none:=λmm=>gc _ _ _;let l0:∀{t y},(Tb.bg W t y).length<=W.length+1:=λ{t y}=>(by rw[Tb.iu];omega);cases D with
 |begin t =>
  show Br rfl rfl ?_;show#[0,a.rp,dx,0,ho,no "begin" aq aq aq,0,MM,a,s',W,t,rfl,R1,S,lw,λH2 M2 y ey R2 L=>?_];let en:ents (W++[(t,y)])=ents W:=(by rw[pL,ey];show T9 _);show q H2 M2 s' _ cv _ R2 (by rw[en];show ri) #[λt' x G j e he=>?_,rfl,6,6] (S1.trans L) (λ_=>rfl) (by rw[wh];show ti _) ?_ ?_
  .rw[Tb.bC t' S]at G;cases z:t'=t
   .rw[Xl z]at G;cases G;rwa[ey]at he
   .rw[Xk z]at G;show ac t' x G j e he
  .intro t';unfold hW;rw[Tb.bC t' S];cases z:t'=t
   .rw[Xl z,decide_eq_true z];rfl
   .rw[Xk z,decide_eq_false z];rfl
  .intro t' j;unfold eW;rw[Tb.bC t' S];cases z:t'=t
   .rw[Xl z,Xl z,Q5,ey];rfl
   .rw[Xk z,Xk z]
 |close t =>
  let#[x,G]:=S;show lE rfl rfl bD (Br rfl rfl ?_);show#[0,a.rp,dx,0,ho,no "close" aq aq aq,0,MM,a,s',W,cv,t,x,rfl,R1,ri,ac,G,λH2 M2 s2 R2 N O L ab=>q H2 M2 s2 _ cv _ R2 N #[O,rfl,6,6] (S1.trans L) ab (L1 (QS _ _) (Sk _)) ?_ ?_]
  .intro t';unfold hW;rw[Tb.cB];cases z:t'=t
   .rw[Xl z,decide_eq_false (λy=>y z)];rfl
   .rw[Xk z,decide_eq_true z];rfl
  .intro t' q;unfold eW;rw[Tb.cB];cases z:t'=t
   .rw[Xl z,Xl z];rfl
   .rw[Xk z,Xk z]
 |map t p m =>
  let#[x,G,I,Y,f3]:=S;show lE rfl rfl bD (lE rfl rfl bD ?_);show Br rfl rfl ?_;show#[0,a.rp,dx,0,ho,no "map" aq aq aq,0,0,d,2,.int p,1,bP.of U,rfl,0,d,2,.int m,1,bP.of U,rfl,MM,a,s',W,cv,t,p,m,x,rfl,R1,ri,ac,lw,G,I,Y,f3,λH2 M2 y R2 N O hy L=>q H2 M2 s' _ _ _ R2 N #[O,rfl,6,6] (S1.trans L) (λ_=>rfl) l0 (yb G) λt' j=>?_];rw[x6 G];cases z:t'=t
  .rw[Xl z,hy j];cases J:j∈Rm.aM p m
   .rw[Xl J,Xl #[z,J]]
   .rw[Xk J,Xk (λh=>J h.2),z,yS G]
  .rw[Xk z,Xk (λh=>z h.1)]
 |drop t p m =>
  let#[x,G,I,Y]:=S;show lE rfl rfl bD (lE rfl rfl bD ?_);show lE rfl rfl bD (Br rfl rfl ?_);show#[0,a.rp,dx,0,ho,no "drop" aq aq aq,0,0,d,2,.int p,1,bP.of U,rfl,0,d,2,.int m,1,bP.of U,rfl,MM,a,s',W,cv,t,p,m,x,rfl,R1,ri,ac,G,I,Y,λH2 M2 s2 y R2 N O hy L ab=>q H2 M2 s2 _ _ _ R2 N #[O,rfl,6,6] (S1.trans L) ab l0 (yb G) λt' j=>?_];rw[x6 G];cases z:t'=t
  .rw[Xl z,hy j];cases J:j∈Rm.aM p m
   .rw[Xl J,Xl #[z,J]]
   .rw[Xk J,Xk (λh=>J h.2),z,yS G]
  .rw[Xk z,Xk (λh=>z h.1)]
 |copy t o =>
  let#[x,G,I,Y]:=S;show lE rfl rfl bD (lE rfl rfl bD ?_);show lE rfl rfl bD (lE rfl rfl bD ?_);show Br rfl rfl ?_;show#[0,a.rp,dx,0,ho,no "copy" aq aq aq,0,0,d,2,.int o,1,bP.of U,rfl,MM,a,s',W,cv,t,o,x,rfl,R1,ri,ac,lw,G,I,Y,λH2 M2 s2 y hy R2 N O L ab=>q H2 M2 s2 _ _ _ R2 N #[O,rfl,6,6] (S1.trans L) ab (by rw[wh];show ti _) ?_ ?_]
  .intro t';unfold hW;rw[Tb.bC t' I];cases z:t'=o
   .rw[Xl z,decide_eq_true z];rfl
   .rw[Xk z,decide_eq_false z];rfl
  .intro t' j;unfold eW;rw[Tb.bC t' I];cases z:t'=o
   .rw[Xl z,Xl z,G];show hy j
   .rw[Xk z,Xk z]
 |peek t ad nn =>
  let#[x,G,n,rfl,I,Y,f3,f4]:=S;show lE rfl rfl bD (lE rfl rfl bD ?_);show lE rfl rfl bD (lE rfl rfl bD ?_);show lE rfl rfl bD (Br rfl rfl ?_);show#[0,a.rp,dx,0,ho,no "peek" aq aq aq,0,0,d,2,.int ad,1,bP.of U,rfl,0,d,2,.int n,1,bP.of U,rfl,MM,a,s',W,cv,t,ad,n,x,rfl,R1,ri,ac,G,af,Y,f3,I,λH2 M2 s2 l R2 N O L ab fl hl ro=>q H2 M2 s2 _ _ _ R2 N #[O,rfl,#[l,rfl,s1.free fl,by rw[Qc, <-zl (L4 ri ac G I)];show hl],l,rfl,(by rw[hl];show λz=>by cases z),λo=>#[(ro o).1,S1.trans (ro o).2]] (S1.trans L) ab (Sk _) (λ_=>rfl) λ_ _=>rfl]
 |poke t ad cc cs =>
  let#[x,G,I,Y,f3,f4]:=S;show lE rfl rfl bD (lE rfl rfl bD ?_);show lE rfl rfl bD (lE rfl rfl bD ?_);show lE rfl rfl bD (lE rfl rfl bD ?_);show#[0,a.rp,dx,0,ho,no "poke" aq aq aq,0,0,d,2,.int ad,1,bP.of U,rfl,0,d,2,.ref cc,1,bP.of U,rfl,MM,a,s',W,cv,t,ad,cc,cs,x,rfl,R1,ri,ac,G,bw.of (s1 _ _ (hd.2 _ _ _ _ rfl)),af,Y,f3,I,λH2 M2 s2 y R2 N O am ap L ab=>q H2 M2 s2 _ _ _ R2 N #[O,xX I (L4 ri ac G I),6,6] (S1.trans L) ab l0 (yb G) λt' j=>?_];rw[x6 G];cases z:t'=t
  .by_cases J:j∈Rm.ay ad cs.length
   .rw[Xl #[z,J],Xl z];let#[k,hk]:=ap j J;show#[some k,hk,k,rfl]
   .rw[Xk (λh=>J h.2),Xl z,am j J,z,yS G]
  .rw[Xk (λh=>z h.1),Xk z]
theorem fV{α:Type}{f:α->V}{H:Hp}{a:Addr}{l:List (Int×α)}{t:Int}{x:α}(h:H a=some (.dK (Tb.dk f l)))(G:Tb.look l t=some x):dY H a (.int t) (some (f x)):=by
 let q:=f6 (t:=t) h;rw[G]at q;show q
section
variable{H H':Hp}{m:MA}{bL pk:Int}{Z:Zs}{t:Int}{z:MT}
theorem cF.alive(M:cF H m bL pk Z):∀b,cZ m Z b->(∃xs,H b=some (.lst xs))\/∃kvs,H b=some (.dK kvs):=by
 intro b h;rcases h with h|h|h|⟨x,G,h|h|⟨y,I,h⟩⟩<;>rw[h]
 .show .inr #[_,M.hm]
 .show .inr #[_,M.hr]
 .show .inr #[_,M.hs]
 .show .inr #[_,M.rm x G]
 .show .inr #[_,M.st x G]
 .let#[ns,h1,_]:=M.cl x G y I;show .inl #[_,h1]
theorem cF.add(M:cF H m bL pk Z)(R:Tb.look Z t=none)(o:Off (λb=>b=m.lr\/b=m.ls) H H')(hr:H' m.lr=some (.dK (Tb.dk ij (Z++[(t,z)]))))(hs:H' m.ls=some (.dK (Tb.dk uF (Z++[(t,z)]))))(h1:H' z.ra=some (.dK (Tb.dk fU z.pl)))(h2:H' z.sa=some (.dK (Tb.dk qI z.pl)))
  (h3:∀y∈z.pl,∃ns:List Int,H' y.2.1=some (.lst (ns.map V.int))/\ns.length=8) (np:(z.pl.map (·.1)).Nodup) (U:∀y∈z.pl,0<=y.1/\y.1<64) (J:H z.ra=none) (L:H z.sa=none) (f3:z.ra≠z.sa):cF H' m bL pk (Z++[(t,z)]):=by
 let Y:∀{b xs},H b=some (.lst xs)->¬ (b=m.lr\/b=m.ls):=λe w=>by
  rcases w with w|w
  .rw[w,M.hr]at e;cases e
  .rw[w,M.hs]at e;cases e
 let N:∀x∈Z,z.ra≠x.2.ra/\z.sa≠x.2.sa/\z.ra≠x.2.sa/\z.sa≠x.2.ra:=λx G=>#[(λe=>by rwa[e,M.rm x G]at J),(λe=>by rwa[e,M.st x G]at L),(λe=>by rwa[e,M.st x G]at J),(λe=>by rwa[e,M.rm x G]at L)];show#[o _ _ M.hm (gX M.n3.1 M.n3.2.1),hr,hs,λx G=>?_,λx G=>?_,λx G y I=>?_,?_,λx G=>?_,λx G=>?_,λx G y I ne=>?_,λx G y I=>?_,λx G=>?_,M.n3]
 .rcases oR.mp G with G|G
  .show o _ _ (M.rm x G) (gX (M.d3 x G).2.1 (M.d3 x G).2.2.1)
  .rw[nc.mp G];show h1
 .rcases oR.mp G with G|G
  .show o _ _ (M.st x G) (gX (M.d3 x G).2.2.2.2.1 (M.d3 x G).2.2.2.2.2)
  .rw[nc.mp G];show h2
 .rcases oR.mp G with G|G
  .let#[ns,O,S]:=M.cl x G y I;show#[ns,o _ _ O (Y O),S]
  .rw[nc.mp G]at I;show h3 y I
 .rw[L0];show gC M.nd (Tb.cu R)
 .rcases oR.mp G with G|G
  .show M.np x G
  .rw[nc.mp G];show np
 .rcases oR.mp G with G|G
  .show M.rg x G
  .rw[nc.mp G];show U
 .rcases oR.mp G with G|G<;>rcases oR.mp I with I|I
  .show M.da x G y I ne
  .rw[nc.mp I];show#[qs (N x G).1,qs (N x G).2.1]
  .rw[nc.mp G];show#[(N y I).1,(N y I).2.1]
  .show absurd (by rw[nc.mp G,nc.mp I]) ne
 .rcases oR.mp G with G|G<;>rcases oR.mp I with I|I
  .show M.rs x G y I
  .rw[nc.mp I];show qs (N x G).2.2.2
  .rw[nc.mp G];show(N y I).2.2.1
  .rw[nc.mp G,nc.mp I];show f3
 .rcases oR.mp G with G|G
  .show M.d3 x G
  .rw[nc.mp G];show#[(λe=>by rwa[e,M.hm]at J),(λe=>by rwa[e,M.hr]at J),(λe=>by rwa[e,M.hs]at J),(λe=>by rwa[e,M.hm]at L),(λe=>by rwa[e,M.hr]at L),(λe=>by rwa[e,M.hs]at L)]
theorem cF.del(M:cF H m bL pk Z)(o:Off (λb=>b=m.lr\/b=m.ls) H H')(N:H' m.lr=some (.dK (Tb.dk ij (Tb.bp Z t))))(hs:H' m.ls=some (.dK (Tb.dk uF (Tb.bp Z t)))):cF H' m bL pk (Tb.bp Z t):=by
 let O:∀{b xs},H b=some (.lst xs)->¬ (b=m.lr\/b=m.ls):=λe w=>by
  rcases w with w|w
  .rw[w,M.hr]at e;cases e
  .rw[w,M.hs]at e;cases e
 let sub:∀{x},x∈Tb.bp Z t->x∈Z:=λh=>(Tb.cw h).1;show#[o _ _ M.hm (gX M.n3.1 M.n3.2.1),N,hs,λx G=>?_,λx G=>?_,λx G y I=>?_,Tb.qd M.nd,λx G=>M.np x (sub G),λx G=>M.rg x (sub G),λx G y I=>M.da x (sub G) y (sub I),λx G y I=>M.rs x (sub G) y (sub I),λx G=>M.d3 x (sub G),M.n3]
 .let G:=sub G;show o _ _ (M.rm x G) (gX (M.d3 x G).2.1 (M.d3 x G).2.2.1)
 .let G:=sub G;show o _ _ (M.st x G) (gX (M.d3 x G).2.2.2.2.1 (M.d3 x G).2.2.2.2.2)
 .let#[ns,J,L]:=M.cl x (sub G) y I;show#[ns,o _ _ J (O J),L]
theorem cF.Im(M:cF H m bL pk Z)(R:Tb.look Z t=some z){pk':Int}{pl:Xr}(o:Off (λb=>b=m.md\/b=z.ra\/b=z.sa) H H')(hm:H' m.md=some (.dK (qC m.lr m.ls bL pk')))(h1:H' z.ra=some (.dK (Tb.dk fU pl)))(h2:H' z.sa=some (.dK (Tb.dk qI pl)))
  (h3:∀y∈pl,∃ns:List Int,H' y.2.1=some (.lst (ns.map V.int))/\ns.length=8) (np:(pl.map (·.1)).Nodup) (hg:∀y∈pl,0<=y.1/\y.1<64):cF H' m bL pk' (Tb.bg Z t #[z.ra,z.sa,pl]):=by
 let I:=Tb.aA R;let nl:∀{b xs},H b=some (.lst xs)->¬ (b=m.md\/b=z.ra\/b=z.sa):=λe w=>by
  rcases w with w|w|w
  .rw[w,M.hm]at e;cases e
  .rw[w,M.rm _ I]at e;cases e
  .rw[w,M.st _ I]at e;cases e
 let N:∀{b},b≠m.md->b≠z.ra->b≠z.sa->¬ (b=m.md\/b=z.ra\/b=z.sa):=λa b c w=>w.elim a λw=>w.elim b c;let L:=M.d3 _ I;show#[hm,3,λx G=>?_,λx G=>?_,λx G y J=>?_,by rw[Tb.gw];show M.nd,λx G=>?_,λx G=>?_,λx G y J ne=>?_,λx G y J=>?_,λx G=>?_,M.n3]
 .rw[Tb.tY (f:=ij) (a:=(#[z.ra,z.sa,pl]:MT)) (b:=z) M.nd R rfl];show o _ _ M.hr (N (qs M.n3.1) (qs L.2.1) (qs L.2.2.2.2.1))
 .rw[Tb.tY (f:=uF) (a:=(#[z.ra,z.sa,pl]:MT)) (b:=z) M.nd R rfl];show o _ _ M.hs (N (qs M.n3.2.1) (qs L.2.2.1) (qs L.2.2.2.2.2))
 .rcases Tb.mem_set G with rfl|⟨G,ne⟩
  .show h1
  .show o _ _ (M.rm x G) (N (M.d3 x G).1 (M.da x G _ I ne).1 (M.rs x G _ I))
 .rcases Tb.mem_set G with rfl|⟨G,ne⟩
  .show h2
  .show o _ _ (M.st x G) (N (M.d3 x G).2.2.2.1 (qs (M.rs _ I x G)) (M.da x G _ I ne).2)
 .rcases Tb.mem_set G with rfl|⟨G,ne⟩
  .show h3 y J
  .let#[ns,U,Y]:=M.cl x G y J;show#[ns,o _ _ U (nl U),Y]
 .rcases Tb.mem_set G with rfl|⟨G,ne⟩
  .show np
  .show M.np x G
 .rcases Tb.mem_set G with rfl|⟨G,ne⟩
  .show hg
  .show M.rg x G
 .rcases Tb.mem_set G with rfl|⟨G,O⟩<;>rcases Tb.mem_set J with rfl|⟨J,S⟩
  .show absurd rfl ne
  .show M.da (t,z) I y J (qs S)
  .show M.da x G (t,z) I O
  .show M.da x G y J ne
 .rcases Tb.mem_set G with rfl|⟨G,O⟩<;>rcases Tb.mem_set J with rfl|⟨J,S⟩
  .show M.rs (t,z) I (t,z) I
  .show M.rs (t,z) I y J
  .show M.rs x G (t,z) I
  .show M.rs x G y J
 .rcases Tb.mem_set G with rfl|⟨G,O⟩
  .show L
  .show M.d3 x G
theorem cF.Hk(M:cF H m bL pk Z){l:Addr}{xs:List V}(R:H l=some (.lst xs)){ns':List Int}(N:ns'.length=8):cF (upd H l (.lst (ns'.map V.int))) m bL pk Z:=by
 let o:Off (· = l) H (upd H l (.lst (ns'.map V.int))):=Off.wr rfl;let I:∀{b kvs},H b=some (.dK kvs)->¬ b=l:=λe w=>(by rwa[w,R]at e);show#[o _ _ M.hm (I M.hm),o _ _ M.hr (I M.hr),o _ _ M.hs (I M.hs),λx G=>o _ _ (M.rm x G) (I (M.rm x G)),λx G=>o _ _ (M.st x G) (I (M.st x G)),λx G y J=>?_,M.nd,M.np,M.rg,M.da,M.rs,M.d3,M.n3];cases w:y.2.1=l
 .show#[ns',by rw[w,ae],N]
 .let#[ns,O,L]:=M.cl x G y J;show#[ns,o _ _ O w,L]
variable{y:MT}
theorem wN(h:Tb.look Z t=some z)(t':Int):hZ (Tb.bg Z t y) t'=hZ Z t':=by
 unfold hZ;rw[Tb.bT t' h];cases c:t'=t
 .rw[Xl c,c,h];rfl
 .rw[Xk c]
theorem yr(h:Tb.look Z t=some z)(t' q:Int):eZ (Tb.bg Z t y) t' q=if t'=t then(Tb.look y.pl q).map (·.2)else eZ Z t' q:=by
 unfold eZ;rw[Tb.bT t' h];cases c:t'=t
 .rw[Xl c,Xl c];rfl
 .rw[Xk c,Xk c]
theorem y8(h:Tb.look Z t=some z)(q:Int):eZ Z t q=(Tb.look z.pl q).map (·.2):=by unfold eZ;rw[h];rfl
end
theorem Nq{t u:TS}{D:Ends}{σ:L2.St}{H:Hp}(h:t { D with nx:=u D } σ H):cy t u D σ H:=h
theorem Bk{α:Type}{W:List (Int×α)}{t:Int}{x y:α}:Tb.bg (Tb.bg W t x) t y=Tb.bg W t y:=by
 unfold Tb.bg;rw[Ql];show P6 λz _=>?_;change(if (if z.1=t then(t,x)else z).1=t then(t,y)else(if z.1=t then(t,x)else z))=if z.1=t then(t,y)else z
 cases c:z.1=t
 .rw[Xl c,Xl rfl,Xl c]
 .simp only[Xk c]
theorem Dn{α:Type}{W:List (Int×α)}{t:Int}{x y:α}(h:Tb.look W t=some x):Tb.look (Tb.bg W t y) t=some y:=by rw[Tb.bT t h,Xl rfl]
theorem zL{Z:Zs}{t:Int}{z:MT}(G:(Z.map (·.1)).Nodup)(h:Tb.look Z t=some z):Tb.bg Z t #[z.ra,z.sa,z.pl]=Z:=by
 unfold Tb.bg
 conv=>rhs;rw[<-Xc Z]
 show P6 λy I=>?_;change(if y.1=t then(t,(#[z.ra,z.sa,z.pl]:MT))else y)=y;cases c:y.1=t
 .have:=Tb.bX G I;rw[c,h]at this;rw[Xl c,rn this, <-c]
 .rw[Xk c]
theorem cF.len{H:Hp}{m:MA}{bL pk:Int}{Z:Zs}(M:cF H m bL pk Z){x:Int×MT}(G:x∈Z):x.2.pl.length<=64:=by
 have:=Tb.Es 64 0 (x.2.pl.map (·.1)) (M.np x G) λq J=>by
  let#[y,I,rfl]:=qj.mp J;have:=M.rg x G y I;omega
 rwa [mu]at this
theorem pf{m:MA}{Z:Zs}{t:Int}{z:MT}{pl:Xr}{H:Hp}(N:Tb.look Z t=some z)(h:∀y∈pl,(∃J∈z.pl,y.2.1=J.2.1)\/H y.2.1=none):∀b,cZ m (Tb.bg Z t #[z.ra,z.sa,pl]) b->cZ m Z b\/H b=none:=by
 intro b w;let I:=Tb.aA N;rcases w with w|w|w|⟨x,G,w⟩
 .show .inl (.inl w)
 .show .inl (.inr (.inl w))
 .show .inl (.inr (.inr (.inl w)))
 .rcases Tb.mem_set G with rfl|⟨G,_⟩
  .rcases w with w|w|⟨y,L,w⟩
   .show .inl (.inr (.inr (.inr #[_,I,.inl w])))
   .show .inl (.inr (.inr (.inr #[_,I,.inr (.inl w)])))
   .rcases h y L with⟨J,h1,h2⟩|h
    .show .inl (.inr (.inr (.inr #[_,I,.inr (.inr #[J,h1,w.trans h2])])))
    .rw[w];show .inr h
  .show .inl (.inr (.inr (.inr #[x,G,w])))
theorem fG{ad q:Int}{n:Nat}:q∈Rm.ay ad n↔∃j:Nat,j<n/\(ad+j)/8=q:=by
 unfold Rm.ay;cases e:((n:Nat):Int)=0
 .rw[Xl e];show#[(λh=>nomatch h),(λ⟨j,h,_⟩=>by omega)]
 .rw[Xk e];unfold Rm.aM Rm.dX Rm.dW;rw[qj];constructor
  .rintro⟨k,G,rfl⟩;let G:=OH.mp G;show#[(8*(ad/8+k)-ad).toNat,af,af]
  .rintro⟨j,I,rfl⟩;show#[((ad+j)/8-ad/8).toNat,OH.mpr af,af]
theorem Fo(G ls:Addr)(bL pk pk':Int):putK (qC G ls bL pk) (Oi "pokes") (.int pk')=qC G ls bL pk':=by
 unfold putK qC;rw[Xl (by simp)];simp only[PM,V3,Xk MZ,Xk Nw,Xk Mu,if_true,decide_eq_true_eq]
theorem rN{pl G:Xr}(h:(G.map λy=>(y.1,y.2.1))=pl.map λy=>(y.1,y.2.1))(q:Int):Tb.look G q=none↔Tb.look pl q=none:=by
 let J:G.map (·.1)=pl.map (·.1):=by
  have:=congrArg (Xd (·.1)) h;rw[Ql,Ql]at this;show this
 let I:∀{l:Xr},Tb.look l q=none↔¬ q∈l.map (·.1):=λ{l}=>#[Tb.cu,λh=>by
  cases e:Tb.look l q with
  |none=>rfl
  |some a=>show absurd (qj.mpr #[_,Tb.aA e,rfl]) h]
 rw[I,I,J]
theorem lN{α G:Type}(g:α->G)(k:Int):∀l:List (Int×α),Tb.look (l.map λx=>(x.1,g x.2)) k=(Tb.look l k).map g
 | []=>rfl
 |x::l=>by
  rw[PM,Tb.aR,Tb.aR,lN g k l];cases e:x.1=k
  .rw[Xl e,Xl e];rfl
  .rw[Xk e,Xk e]
theorem nQ{α:Type}(f:α->V)(l:List (Int×α))(o:Int)(a:α):Tb.dk f (l++[(o,a)])=Tb.dk f l++[(vr o,f a)]:=by
 unfold Tb.dk;rw[L0];rfl
theorem KN{pl G:Xr}(h:(G.map λy=>(y.1,y.2.2))=pl.map λy=>(y.1,y.2.2)):Tb.dk qI G=Tb.dk qI pl:=by
 let e:∀l:List (Int×Addr×Int),Tb.dk qI l=(l.map λy=>(y.1,y.2.2)).map λp=>((vr p.1:Key),V.int p.2):=λl=>by
  unfold Tb.dk;rw[Ql];rfl
 rw[e,e,h]
def oX(m:MA)(H:Hp)(Z:Zs)(H':Hp)(Z':Zs):Prop:=Off (cZ m Z) H H'/\∀b,cZ m Z' b->cZ m Z b\/H b=none
def eA(Z:Zs)(t q:Int):Option Addr:=(Tb.look Z t).bind λz=>(Tb.look z.pl q).map (·.1)
structure Ct(H:Hp)(Z:Zs)(cv:Xn):Prop where
 at_:∀t q a,eA Z t q=some a->H a=some (.lst ((cv t q).map V.int))
 inj:∀t q t' q' a,eA Z t q=some a->eA Z t' q'=some a->t=t'/\q=q'
section
variable{H H':Hp}{Z Z':Zs}{cv cv':Xn}{t:Int}{z z':MT}
theorem uo(h:Tb.look Z t=none)(t' q:Int):eA (Z++[(t,z)]) t' q=if t'=t then(Tb.look z.pl q).map (·.1)else eA Z t' q:=by
 unfold eA;rw[Tb.bC t' h];split<;>rfl
theorem IS(t' q:Int):eA (Tb.bp Z t) t' q=if t'=t then none else eA Z t' q:=by
 unfold eA;rw[Tb.cB];split<;>rfl
theorem lM(h:Tb.look Z t=some z)(t' q:Int):eA (Tb.bg Z t z') t' q=if t'=t then(Tb.look z'.pl q).map (·.1)else eA Z t' q:=by
 unfold eA;rw[Tb.bT t' h];split<;>rfl
theorem yE(h:Tb.look Z t=some z)(q:Int):eA Z t q=(Tb.look z.pl q).map (·.1):=by unfold eA;rw[h];rfl
theorem Ct.keep(C:Ct H Z cv)(k:∀a xs,H a=some (.lst xs)->H' a=some (.lst xs))(e:∀t q a,eA Z' t q=some a->eA Z t q=some a):Ct H' Z' cv :=
 #[λt q a h=>k _ _ (C.at_ t q a (e _ _ _ h)),λt q t' G a h h'=>C.inj _ _ _ _ _ (e _ _ _ h) (e _ _ _ h')]
theorem Ct.congr(C:Ct H Z cv)(e:∀t q a,eA Z t q=some a->cv t q=cv' t q):Ct H Z cv':=#[λt q a h=>by rw[<-e t q a h];show C.at_ t q a h,C.inj]
theorem Ct.new{G:Int}{l:Addr}{r:List Int}(C:Ct H Z cv)(t:Int)(e:∀t' q,eA Z' t' q=if t'=t/\q=G then some l else eA Z t' q)(L:H' l=some (.lst (r.map V.int)))(f:H l=none)(k:∀a xs,H a=some (.lst xs)->H' a=some (.lst xs)):Ct H' Z' (λt' q=>if t'=t/\q=G then r else cv t' q):=by
 let no:∀{t' q},eA Z t' q=some l->False:=λh=>(by have:=C.at_ _ _ _ h;rwa[f]at this);show#[λt' q a h=>?_,λt' q I J a h h2=>?_]
 .rw[e]at h;cases c:t'=t/\q=G
  .rw[Xl c]at h ⊢;cases h;show L
  .rw[Xk c]at h;rw[Xk c];show k _ _ (C.at_ _ _ _ h)
 .rw[e]at h h2;cases c:t'=t/\q=G
  .rw[Xl c]at h;cases h;cases c2:I=t/\J=G
   .show#[c.1.trans c2.1.symm,c.2.trans c2.2.symm]
   .rw[Xk c2]at h2;show(no h2).elim
  .rw[Xk c]at h;cases c2:I=t/\J=G
   .rw[Xl c2]at h2;cases h2;show(no h).elim
   .rw[Xk c2]at h2;show C.inj _ _ _ _ _ h h2
theorem Ct.cell{G:Int}{l:Addr}{r:List Int}(C:Ct H Z cv)(I:eA Z t G=some l):Ct (upd H l (.lst (r.map V.int))) Z (λt' q=>if t'=t/\q=G then r else cv t' q):=by
 show#[λt' q a h=>?_,C.inj];cases c:t'=t/\q=G
 .rw[c.1,c.2,I]at h;cases h;rw[Xl c];show ae
 .rw[Xk c,ai (λz=>c (by rw[z]at h;show C.inj _ _ _ _ _ h I))];show C.at_ _ _ _ h
theorem Ct.MF{o:Int}{U d2:Addr}{pl:Xr}(C:Ct H Z cv)(R:Tb.look Z o=none)(h:∀u∈pl,H' u.2.1=some (.lst ((cv t u.1).map V.int))/\H u.2.1=none)(nd:(pl.map (·.2.1)).Nodup)(k:∀a xs,H a=some (.lst xs)->H' a=some (.lst xs)):Ct H' (Z++[(o,#[U,d2,pl])]) (qu cv t o):=by
 let pg:∀{q a},(Tb.look pl q).map (·.1)=some a->∃u∈pl,u.1=q/\u.2.1=a:=λ{q a} e=>by
  let#[u,h1,h2]:=o8.mp e;show#[(q,u),Tb.aA h1,rfl,h2]
 let no:∀{t' q a},eA Z t' q=some a->∀u∈pl,u.2.1=a->False:=λh1 u I e=>by
  have:=C.at_ _ _ _ h1;rwa[<-e,(h u I).2]at this
 show#[λt' q a e=>?_,λt' q O q2 a e G=>?_]
 .rw[uo R]at e;unfold qu;cases c:t'=o
  .rw[Xl c]at e;let#[u,I,rfl,rfl]:=pg e;rw[Xl c];show(h u I).1
  .rw[Xk c]at e;rw[Xk c];show k _ _ (C.at_ _ _ _ e)
 .rw[uo R]at e G;cases c:t'=o
  .rw[Xl c]at e;let#[u,I,rfl,rfl]:=pg e;cases c2:O=o
   .rw[Xl c2]at G;let#[L,J,rfl,g]:=pg G;show#[c.trans c2.symm,?_];let#[i,hi,N]:=PD I;let#[j,Y,S]:=PD J;have:i=j:=by
     show Decidable.byContradiction λn=>qr nd i j (a:=u.2.1) (b:=L.2.1) ?_ ?_ n g.symm
     .rw[t5,vu hi,N];rfl
     .rw[t5,vu Y,S];rfl
    subst this;rw[<-N, <-S]
   .rw[Xk c2]at G;show(no G u I rfl).elim
  .rw[Xk c]at e;cases c2:O=o
   .rw[Xl c2]at G;let#[L,J,_,g]:=pg G;show(no e L J g).elim
   .rw[Xk c2]at G;show C.inj _ _ _ _ _ e G
end
def ES(cv:Xn)(t p:Int)(i:Nat):Int->Int->List Int:=λt' q=>if t'=t/\p<=q/\q<p+(i:Int)then replicate 8 0 else cv t' q
theorem CD{cv:Xn}{t p:Int}:ES cv t p 0=cv:=by
 funext t' q;unfold ES;rw[Xk af]
theorem Eh{cv:Xn}{t p:Int}{i:Nat}:ES cv t p (i+1)=λt' q=>if t'=t/\q=p+(i:Int)then replicate 8 0 else ES cv t p i t' q:=by
 funext t' q;unfold ES;cases c:t'=t/\q=p+(i:Int)
 .rw[Xl c,Xl af]
 .rw[Xk c];cases c2:t'=t/\p<=q/\q<p+(i:Int)
  .rw[Xl c2,Xl af]
  .rw[Xk c2,Xk af]
theorem FI{cv:Xn}{t p G:Int}:ES cv t p (p+G-p).toNat=iM cv t (Rm.aM p G):=by
 funext t' q;unfold ES iM Rm.aM;have:(q∈(NC G.toNat).map λk:Nat=>p+(k:Int))↔(p<=q/\q<p+((p+G-p).toNat:Int)):=by
  rw[qj];constructor
  .rintro⟨j,I,rfl⟩;have:=OH.mp I;omega
  .intro h;show#[(q-p).toNat,OH.mpr af,af]
 cases c:t'=t/\p<=q/\q<p+((p+G-p).toNat:Int)
 .rw[Xl c,Xl #[c.1,this.mpr c.2]]
 .rw[Xk c,Xk (λh=>c #[h.1,this.mp h.2])]
theorem Ay{r cs:List Int}{ad q:Int}(h:r.length=8)(n:¬ q∈Rm.ay ad cs.length):jX r ad cs q=r:=by
 show QJ λo=>?_;cases G:o<8
 .rw[ip G,Xk (λc=>n (fG.mpr #[(8*q+(o:Int)-ad).toNat,af,af])),OT,vu af];rfl
 .rw[Pd (by rw[hJ];omega),Pd af]
theorem kG:∀{xs ys:List Int},xs.map V.int=ys.map V.int->xs=ys
 | [],[],_=>rfl
 | [],_::_,h=>by cases h
 |_::_,[],h=>by cases h
 |x::xs,y::ys,h=>by
  injection h with h1 h2;injection h1 with h1;rw[h1,kG h2]
theorem Ct.IL{H:Hp}{m:MA}{bL pk:Int}{Z:Zs}{cv:Xn}{t q:Int}{a:Addr}(C:Ct H Z cv)(M:cF H m bL pk Z)(h:eA Z t q=some a):(cv t q).length=8:=by
 let#[z,h1,h2]:=Pj.mp h;let#[y,J,I]:=o8.mp h2;let#[ns,G,c2]:=M.cl _ (Tb.aA h1) _ (Tb.aA J);have:=C.at_ t q a h;rw[<-I,G]at this;rw[<-kG (HO.lst.inj (rn this))];show c2
def Gz(cv:Xn)(t ad:Int)(cs:List Int):Int->Int->List Int:=λt' q=>if t'=t then jX (cv t q) ad cs q else cv t' q
theorem qB.nat{pl:Xr}{ad n:Int}(h:qB pl ad n):∃k:Nat,n=k:=#[n.toNat,by rcases h with h|h<;>omega]
theorem qB.all{pl:Xr}{ad:Int}{k:Nat}(h:qB pl ad k)(i:Nat)(hi:i<k):Tb.look pl ((ad+i)/8)≠none:=by
 rcases h with h|h
 .show absurd h af
 .show h.2.2.2 i af
inductive wb(vs:List V)(H:Hp)(Q:VK)(e:XK):Prop
 |mk (m:MA) (bL pk:Int) (Z:Zs) (d:Addr) (D:Dd) (_:vs=[.ref m.md,.ref d]) (_:cF H m bL pk Z) (_:0<=pk) (_:Z.length<=1000) (_:iV H d D) (_:Dg Z bL D) (_:(∀t ad c cs,D=.poke t ad c cs->¬ cZ m Z c /\ -1000<=ad/\ad<=1000/\cs.length<=100)) (_:(∀t ad n,D=.peek t ad n -> -1000<=ad/\ad<=1000/\n<=100)) (_:∀(H':Hp)(pk':Int)(Z':Zs)(v:V),cF H' m bL pk' Z'->(0<=pk'/\∀cv,Ct H Z cv->Ct H' Z' (iJ D cv)/\FQ D cv H H' v)->oX m H Z H' Z'->Z'.length<=Z.length+1->mT D (hZ Z) (hZ Z')->mQ 0 (λv=>v≠0) D (eZ Z) (eZ Z')->Q v H'):wb vs H Q e
inductive NP(m:MA)(bL:Int)(Z:Zs)(H:Hp)(D:Dd)(σ:L2.St)(H2:Hp):Prop
 |mk (pk':Int) (Z':Zs) (_:(cF H2 m bL pk' Z')) (_:(0<=pk'/\∀cv,Ct H Z cv->Ct H2 Z' (iJ D cv)/\FQ D cv H H2 .non)) (_:(oX m H Z H2 Z')) (_:(Z'.length<=Z.length+1)) (_:(mT D (hZ Z) (hZ Z'))) (_:(mQ 0 (λv=>v≠0) D (eZ Z) (eZ Z'))):NP m bL Z H D σ H2
inductive NH(m:MA)(d:Addr)(bL pk:Int)(Z:Zs)(H:Hp)(t p:Int)(z:MT)(i:Nat)(σ:L2.St)(H2:Hp):Prop
 |mk(v6:Option V)(pl:Xr)(_:(σ=#v[.ref m.md,.ref d,.ref m.lr,.ref m.ls,.str "map",.int t,v6,none,none,none,none]))(_:(cF H2 m bL pk (Tb.bg Z t #[z.ra,z.sa,pl])))(_:((∀q,(Tb.look pl q).map (·.2)=if p<=q/\q<p+(i:Int)then some 0 else(Tb.look z.pl q).map (·.2))))(_:((∀y∈pl,y∈z.pl\/H y.2.1=none)))(_:(Off (cZ m Z) H H2))(_:((∀b,H2 b=none->H b=none)/\∀cv,Ct H Z cv->Ct H2 (Tb.bg Z t #[z.ra,z.sa,pl]) (ES cv t p i)))
inductive NB(m:MA)(d:Addr)(bL pk:Int)(Z:Zs)(H:Hp)(t p:Int)(z:MT)(i:Nat)(σ:L2.St)(H2:Hp):Prop
 |mk(v6:Option V)(pl:Xr)(_:(σ=#v[.ref m.md,.ref d,.ref m.lr,.ref m.ls,.str "drop",.int t,v6,none,none,none,none]))(_:(cF H2 m bL pk (Tb.bg Z t #[z.ra,z.sa,pl])))(_:((∀q,(Tb.look pl q).map (·.2)=if p<=q/\q<p+(i:Int)then none else(Tb.look z.pl q).map (·.2))))(_:((∀y∈pl,y∈z.pl\/H y.2.1=none)))(_:(Off (cZ m Z) H H2))(_:(∀cv,Ct H Z cv->Ct H2 (Tb.bg Z t #[z.ra,z.sa,pl]) cv))
inductive NX(m:MA)(d:Addr)(Z:Zs)(H:Hp)(t:Int)(z:MT)(d1:Addr)(HF:Hp)(i:Nat)(σ:L2.St)(H6:Hp):Prop
 |mk (v6 v7:Option V) (pl:Xr) (_:(σ=#v[.ref m.md,.ref d,.ref m.lr,.ref m.ls,.str "copy",.int t,v6,v7,none,none,none])) (_:(H6 d1=some (.dK (Tb.dk fU pl)))) (_:((pl.map λy=>(y.1,y.2.2))=((z.pl.take i).map λy=>(y.1,y.2.2)))) (_:((∀y∈pl,(∃ns:List Int,H6 y.2.1=some (.lst (ns.map V.int))/\ns.length=8)/\HF y.2.1=none))) (_:(Off (· = d1) HF H6/\(pl.map (·.2.1)).Nodup/\∀cv,Ct H Z cv->∀u∈pl,H6 u.2.1=some (.lst ((cv t u.1).map V.int)))):NX m d Z H t z d1 HF i σ H6
inductive NS(m:MA)(d:Addr)(bL:Int)(Z:Zs)(H H1:Hp)(t ad:Int)(z:MT)(cs:List Int)(i:Nat)(σ:L2.St)(H2:Hp):Prop
 |mk (v8 v9 v10:Option V) (pk2:Int) (pl:Xr) (_:(σ=#v[.ref m.md,.ref d,.ref m.lr,.ref m.ls,.str "poke",.int t,none,none,v8,v9,v10])) (_:(cF H2 m bL pk2 (Tb.bg Z t #[z.ra,z.sa,pl]))) (_:(0<=pk2)) (_:((pl.map λy=>(y.1,y.2.1))=(z.pl.map λy=>(y.1,y.2.1)))) (_:((∀q,(∃j:Nat,j<i/\(ad+j)/8=q)->∃v,(Tb.look pl q).map (·.2)=some v/\v≠0))) (_:((∀q,(¬ ∃j:Nat,j<i/\(ad+j)/8=q)->(Tb.look pl q).map (·.2)=(Tb.look z.pl q).map (·.2)))) (_:(Off (cZ m Z) H1 H2/\∀cv,Ct H Z cv->Ct H2 (Tb.bg Z t #[z.ra,z.sa,pl]) (Gz cv t ad (cs.take i)))):NS m d bL Z H H1 t ad z cs i σ H2
theorem mP:aE ["_law_model_here","_law_deed_here","_law_rooms","_law_stands","_law_name","_law_task","_law_page","_law_cells_here","_law_k","_law_cell","_law_at"] ["_law_model_here","_law_deed_here"] (aw Eb):=L2.bN
theorem Ff(F:cE K "_law_done" "_law_done" Eb f fd)(T:mS mg):↥aV 1 f fd ["_law_model_here","_law_deed_here"] wb:=by
 show F.dS mP (λeN A outer s H vs Q E hr h=>?_);let#[m,bL,pk,Z,d,D,rfl,M,p0,lz,hd,fi,ev,ea,k]:=h;let hs:=vl;show#[_,(aj (cU (cI (aa (bJ (bz hr) (pv 0) aF cz) (aa (bJ (bz hr) (pv 0) aF cz) ag))) (dU rfl (bj (gH 2 mP.nd) (bj (gH 3 mP.nd) de))))
  (aj (cU (cJ jz (pv 1) eg (cN ak)) (dU rfl (bj (gH 4 mP.nd) (bj (gH 5 mP.nd) de))))
  (aj (aU (aD bH (pv 4) aF (aG _)) (ao (cU (cI (aa dQ (aa dQ ag))) (dU rfl (bj (eO (pv 2) (pv 5) (set_dict (bz hr))) (bj (eO (pv 3) (pv 5) (set_dict (bz hr))) de))))) (ao (aU (aD bH (pv 4) aF (aG _)) (aj (aO (fN (pv 2) (pv 5) #[1,1]))
  (ao (aO (fN (pv 3) (pv 5) #[1,1])))) (ao (aU (aD bH (pv 4) aF (aG _)) (ao (dD Ol rfl (gn (by rfl) T.range (aa (aY bf (pv 1) ak cz) (aa (az bu (aY bf (pv 1) ak cz) (aY bf (pv 1) ak cz)) ag))) (gH 6 mP.nd) (ao (cU (cI (aa (az qe (bV (aa ak ag)) ak) (aa ak ag))) (dU rfl (bj (eO (bJ (bz hr) (pv 2) (pv 5) cz) (pv 6) (set_dict (bz hr))) (bj (eO (bJ (bz hr) (pv 3) (pv 5) cz) (pv 6) (set_dict (bz hr))) de))))))) (ao (aU (aD bH (pv 4) aF (aG _)) (ao (dD Ol rfl (gn (by rfl) T.range (aa (aY bf (pv 1) ak cz) (aa (az bu (aY bf (pv 1) ak cz) (aY bf (pv 1) ak cz)) ag))) (gH 6 mP.nd) (aj (aO (fN (bJ (bz hr) (pv 2) (pv 5) cz) (pv 6) #[1,1]))
  (ao (aO (fN (bJ (bz hr) (pv 3) (pv 5) cz) (pv 6) #[1,1])))))) (ao (aU (aD bH (pv 4) aF (aG _)) (aj (cU (bU xS (by rfl) T.dict rX (aa (bJ (bz hr) (pv 3) (pv 5) cz) ag)) (eO (pv 3) (aY bf (pv 1) ak cz) (set_dict (bz hr))))
  (aj (cU dQ (eO (pv 2) (aY bf (pv 1) ak cz) (set_dict (bz hr))))
  (ao (m5 (dD Ol rfl (vP (bJ (bz hr) (pv 2) (pv 5) cz)) (dU rfl (bj (gH 6 mP.nd) (bj (gH 7 mP.nd) de))) (ao (cU (bU dR (by rfl) T.list fE (aa (pv 7) ag)) (eO (bJ (bz hr) (pv 2) (aY bf (pv 1) ak cz) cz) (pv 6) (set_dict (bz hr)))))))))) (ao (aU (aD bH (pv 4) aF (aG _)) (ao (aK (iE (cl:=[("_law_task",s⁻¹+2),("_law_rooms",s⁻¹+1)]) (caps:=[("_law_rooms",2),("_law_task",5)]) #[rfl,aq,aq,rfl,by kernel_rfl,by intro p hp;simp only[BY,DO,or_false]at hp;rcases hp with rfl|rfl<;>first|rfl|show#[rfl,.inl rfl,.inl rfl]|show#[rfl,.inl rfl,.inr rfl],by kernel_rfl,by intro p hp;simp only[BY,DO,or_false]at hp;rcases hp with rfl|rfl<;>first|rfl|show#[rfl,.inl rfl,.inl rfl]|show#[rfl,.inl rfl,.inr rfl],aq] rfl (gn (by rfl) T.range (aa (aY bf (pv 1) ak cz) (aa (az bu (aY bf (pv 1) ak cz) (aY bf (pv 1) ak cz)) ag))) (λ_ _ _ _=>gB) (λ_ _ _ _=>(aY (show LP _ (FC K)from cn) (bJ (bz hr) (bJ (bz hr) (pv 1) (pv 2) cz) (az bo (pv 0) ak) cz) (az br (pv 0) ak) cz))))) (ao (dD Ol rfl (Fn (by rfl) T.enumerate (aa (aY bf (pv 1) ak cz) ag)) (dU rfl (bj (gH 8 mP.nd) (bj (gH 9 mP.nd) de))) (aj (dt 10 mP.nd (az bu (aY bf (pv 1) ak cz) (pv 8)))
  (aj (cU (pv 9) (eO (bJ (bz hr) (bJ (bz hr) (pv 2) (pv 5) cz) (az bo (pv 10) ak) cz) (az br (pv 10) ak) set_list))
  (ao (aU (PW.pt (ie (aD bH (pv 8) ak (aG _)) (gO (aD bH (az br (pv 10) ak) ak (aG _))))) (aj (cU (az bu (bJ (bz hr) (pv 0) aF cz) ak) (eO (pv 0) aF (set_dict (bz hr))))
  (ao (cU (bJ (bz hr) (pv 0) aF cz) (eO (bJ (bz hr) (pv 3) (pv 5) cz) (az bo (pv 10) ak) (set_dict (bz hr)))))) aI)))))))))))))))))
  (ao (aK fZ))))),?_]
 show share (λσ H1=>aP H H1/\σ=#v[.ref m.md,.ref d,.ref m.lr,.ref m.ls,none,none,none,none,none,none,none]) (λu' ap=>?A) ?B
 case A =>
  show#[0,m.md,.ref m.lr,rfl,M.g (E4 _ _ _ _),0,m.md,.ref m.ls,rfl,M.g (Mq _ _ _ _),dZ,λtp bi=>?_];show#[tp,0,bP.of ae,4,0,_,0,rfl,ap _ _ #[Tb.av bi,rfl]]
 case B =>
 rintro σ H0 ⟨s0,rfl⟩;let cP:H0 d=some (.tup (qv D)):=s0 _ _ hd.1;show share (λσ H1=>aP H H1/\σ=#v[.ref m.md,.ref d,.ref m.lr,.ref m.ls,.str (jV D),.int (Er D),none,none,none,none,none]) (λu' ap=>?A2) ?B2
 case A2 =>
  show#[0,0,d,0,bP.of cP,λc=>?_,λ_ p hp=>?_]
  .show#[d,0,bP.of cP,by rw[xq c];rfl,by rw[xq c];show#[_,0,_,0,rfl,ap _ _ #[s0,rfl]]]
  .rw[Ew];show#[p,0,bP.of ae,4,0,_,0,rfl,ap _ _ #[s0.trans (Tb.av hp),rfl]]
 case B2 =>
 rintro σ H1 ⟨s1,rfl⟩;let M1:=M.same s1;let am:H1 d=some (.tup (qv D)):=s1 _ _ hd.1;show share (NP m bL Z H D) (λu' ap=>?A3) ?B3
 case B3 =>
  rintro σ H2 ⟨pk',Z',a1,a2,a3,a4,a5,a6⟩;show k H2 pk' Z' .non a1 a2 a3 a4 a5 a6
 case A3 =>
 show Nq ?_;dsimp only;let zo:∀{b},H b=none->H1 b=none->True:=λ_ _=>trivial;cases D with
 |begin t =>
  show Jv rfl rfl ?_;let fi:Tb.look Z t=none:=fi;intro I h1 J h2;let bb:J≠I:=λe=>(by rwa[e,ae]at h2);let d8:H1 J=none:=(by rw[ai bb]at h2;show h2);let sA:=(Tb.av (X:=.dK []) h1).trans (Tb.av (X:=.dK []) h2);let e1:upd (upd H1 I (.dK [])) J (.dK []) I=some (.dK []):=(by rw[ai (qs bb),ae]);let e2:upd (upd H1 I (.dK [])) J (.dK []) J=some (.dK []):=ae;generalize upd (upd H1 I (.dK [])) J (.dK [])=H2 at *;show#[dZ,λtp bi=>?_];let sB:=Tb.av (X:=.tup [.ref I,.ref J]) bi;show#[tp,0,bP.of ae,4,0,?_];let M3:=(M1.same sA).same sB;let e1:=sB _ _ e1;let e2:=sB _ _ e2;let S3:=s1.trans (sA.trans sB);generalize upd H2 tp (.tup [.ref I,.ref J])=H3 at *;show#[0,0,m.lr,0,hU.k (k:=vr t) M3.hr (by rw[Tb.cR];omega),?_];rw[show(V.ref I)=ij #[I,J,[]]from rfl,Tb.cV (f:=ij) fi];show#[_,0,0,0,m.ls,0,hU.k (k:=vr t) (by rw[ai (qs M3.n3.2.2)];show M3.hs) (by rw[Tb.cR];omega),5];rw[show(V.ref J)=uF #[I,J,[]]from rfl,Tb.cV (f:=uF) fi];let oC:Off (λb=>b=m.lr\/b=m.ls) H3 (upd (upd H3 m.lr (.dK (Tb.dk ij (Z++[(t,#[I,J,[]])])))) m.ls (.dK (Tb.dk uF (Z++[(t,#[I,J,[]])])))):=λb o e w=>(by rw[ai (λy=>w (.inr y)),ai (λy=>w (.inl y))];show e);let b0:∀{b},H b=none->b≠m.lr/\b≠m.ls:=λh=>#[(λe=>by rwa[e,M.hr]at h),(λe=>by rwa[e,M.hs]at h)];let f1:H I=none:=s1.free h1;let f2:H J=none:=s1.free d8;let M4:cF (upd (upd H3 m.lr (.dK (Tb.dk ij (Z++[(t,#[I,J,[]])])))) m.ls (.dK (Tb.dk uF (Z++[(t,#[I,J,[]])])))) m bL pk (Z++[(t,#[I,J,[]])]):=
   M.add fi (λb o e w=>oC b o (S3 b o e) w) (by rw[ai M.n3.2.2,ae]) ae (oC _ _ e1 λw=>w.elim (b0 f1).1 (b0 f1).2) (oC _ _ e2 λw=>w.elim (b0 f2).1 (b0 f2).2) (λy G=>by cases G) Qo (λy G=>by cases G) f1 f2 (qs bb)
  show ap _ _ #[pk,_,M4,#[p0,λcv C=>#[C.keep (λa xs e=>oC a _ (S3 a _ e) (λw=>by rcases w with w|w;rwa[w,M.hr]at e;rwa[w,M.hs]at e)) (λt' q a h=>by rw[uo fi]at h;cases c:t'=t;rwa[Xl c]at h;rw[Xk c]at h;show h),6]],#[λb o e w=>oC b o (S3 b o e) λy=>w (y.elim (λy=>.inr (.inl y)) λy=>.inr (.inr (.inl y))),λb w=>?_],by rw[wh];show ti _,λt'=>?_,λt' q=>?_]
  .rcases w with w|w|w|⟨x,hx,w⟩
   .show .inl (.inl w)
   .show .inl (.inr (.inl w))
   .show .inl (.inr (.inr (.inl w)))
   .rcases oR.mp hx with hx|hx
    .show .inl (.inr (.inr (.inr #[x,hx,w])))
    .rw[nc.mp hx]at w;rcases w with w|w|⟨y,G,_⟩
     .rw[w];show .inr f1
     .rw[w];show .inr f2
     .cases G
  .unfold hZ;rw[Tb.bC t' fi];cases c:t'=t
   .rw[Xl c,decide_eq_true c];rfl
   .rw[Xk c,decide_eq_false c];rfl
  .unfold eZ;rw[Tb.bC t' fi];cases c:t'=t
   .rw[Xl c,Xl c];rfl
   .rw[Xk c,Xk c]
 |close t =>
  show qG rfl rfl bD (Jv rfl rfl ?_);let#[z,L]:=fi;show#[0,m.lr,rfl,.inl #[_,.inl M1.hr],0,_,vr t,ij z,M1.hr,rfl,by rw[Tb.dg,L];rfl,?_];rw[Tb.fM];show#[0,m.ls,rfl,.inl #[_,.inl (by rw[ai (qs M1.n3.2.2)];show M1.hs)],0,_,vr t,uF z,by rw[ai (qs M1.n3.2.2)];show M1.hs,rfl,by rw[Tb.dg,L];rfl,?_];rw[Tb.fM];let oC:Off (λb=>b=m.lr\/b=m.ls) H1 (upd (upd H1 m.lr (.dK (Tb.dk ij (Tb.bp Z t)))) m.ls (.dK (Tb.dk uF (Tb.bp Z t)))):=λb o e w=>(by rw[ai (λy=>w (.inr y)),ai (λy=>w (.inl y))];show e);let M4:=M1.del (t:=t) oC (by rw[ai M.n3.2.2,ae]) ae;show ap _ _ #[pk,_,M4,#[p0,λcv C=>#[C.keep (λa xs e=>oC a _ (s1 a _ e) (λw=>by rcases w with w|w;rwa[w,M.hr]at e;rwa[w,M.hs]at e)) (λt' q a h=>by rw[IS]at h;cases c:t'=t;rwa[Xl c]at h;rw[Xk c]at h;show h),6]],#[λb o e w=>oC b o (s1 b o e) λy=>w (y.elim (λy=>.inr (.inl y)) λy=>.inr (.inr (.inl y))),λb w=>.inl ?_],L1 (QS _ _) (Sk _),λt'=>?_,λt' q=>?_]
  .rcases w with w|w|w|⟨x,hx,w⟩
   .show .inl w
   .show .inr (.inl w)
   .show .inr (.inr (.inl w))
   .show .inr (.inr (.inr #[x,(Tb.cw hx).1,w]))
  .unfold hZ;rw[Tb.cB];cases c:t'=t
   .rw[Xl c,decide_eq_false (λy=>y c)];rfl
   .rw[Xk c,decide_eq_true c];rfl
  .unfold eZ;rw[Tb.cB];cases c:t'=t
   .rw[Xl c,Xl c];rfl
   .rw[Xk c,Xk c]
 |map t p mm =>
  show qG rfl rfl bD (qG rfl rfl bD ?_);show Jv rfl rfl ?_;let#[z,L,a8,dI,_]:=fi;let R:=Tb.aA L;let b1:¬ mm<1:=λw=>a8 (.inl w);let b2:¬ p<0:=λw=>a8 (.inr (.inl w));let b3:¬ 64<p+mm:=λw=>a8 (.inr (.inr w));show#[0,d,2,.int p,1,bP.of am,rfl,0,d,2,.int p,1,bP.of am,rfl,0,d,2,.int mm,1,bP.of am,4,0,4,0,#[af,af,af,af],?_];show jD (lo:=p) (n:=(p+mm-p).toNat) (NH m d bL pk Z H t p z) #[_,z.pl,rfl,by rw[zL M.nd L];show M1,λq=>by rw[Xk af],λy G=>.inl G,λb o e _=>s1 b o e,λb e=>s1.free e,λcv C=>by rw[CD,zL M.nd L];show C.keep (λa xs e=>s1 _ _ e) λ_ _ _ h=>h] ?_ ?_
  .rintro i σ H2 hi ⟨v6,pl,rfl,M2,ac,ba,o2,bx,c2⟩;let ah:=Dn (y:=(#[z.ra,z.sa,pl]:MT)) L;let N:=Tb.aA ah;let b8:p+(i:Int)∈Rm.aM p mm:=by
    unfold Rm.aM;show qj.mpr #[i,OH.mpr af,rfl]
   let bm:Tb.look pl (p+(i:Int))=none:=by
    have:=ac (p+(i:Int));rw[Xk af,dI _ b8]at this;show Rx.mp this
   let b6:=M2.len N;show#[ar,λl1 dd=>?_];show#[l1,(8),0,rfl,ae,af,af,by rw[Po];omega,λl2 be=>?_];let sA:=(Tb.av (X:=.lst [V.int 0]) dd).trans (Tb.av (X:=.lst ((replicate (8:Int).toNat [V.int 0]).flatten)) be);let f2:H2 l2=none:=(Tb.av (X:=.lst [V.int 0]) dd).free be;let e2:upd (upd H2 l1 (.lst [V.int 0])) l2 (.lst ((replicate (8:Int).toNat [V.int 0]).flatten)) l2=some (.lst ((replicate 8 (0:Int)).map V.int)):=ae;generalize upd (upd H2 l1 (.lst [V.int 0])) l2 (.lst ((replicate (8:Int).toNat [V.int 0]).flatten))=H3 at *;show#[dZ,λtp bi=>?_];let sB:=Tb.av (X:=.tup [.ref l2,.int 0]) bi;show#[tp,0,bP.of ae,4,0,?_];let M4:=(M2.same sA).same sB;let S4:=sA.trans sB;let e4:=sB _ _ e2;generalize upd H3 tp (.tup [.ref l2,.int 0])=H4 at *;show#[0,0,m.lr,0,fV M4.hr ah,0,z.ra,0,hU.k (k:=vr (p+(i:Int))) (M4.rm _ N) (by rw[Tb.cR];have:pl.length<=64:=b6;change pl.length<_;omega),?_];let e5:putK (Tb.dk fU pl) (vr (p+(i:Int))) (.ref l2)=Tb.dk fU (pl++[(p+(i:Int),(l2,0))]):=Tb.cV (f:=fU) (a:=(l2,0)) bm;let e6:putK (Tb.dk qI pl) (vr (p+(i:Int))) (.int 0)=Tb.dk qI (pl++[(p+(i:Int),(l2,0))]):=Tb.cV (f:=qI) (a:=(l2,0)) bm;let dz:=M.d3 _ R;let aT:=M.rs _ R _ R;change Dz _ _ _ _ (upd H4 z.ra (.dK (putK (Tb.dk fU pl) (vr (p+(i:Int))) (.ref l2)))) _;rw[e5];let o5:Off (· = z.ra) H4 (upd H4 z.ra (.dK (Tb.dk fU (pl++[(p+(i:Int),(l2,0))])))):=Off.wr rfl;show#[_,0,0,0,m.ls,0,fV (o5 _ _ M4.hs (qs dz.2.2.1)) ah,0,z.sa,0,hU.k (k:=vr (p+(i:Int))) (o5 _ _ (M4.st _ N) (qs aT)) (by rw[Tb.cR];have:pl.length<=64:=b6;change pl.length<_;omega),5];let Y:Off (λb=>b=m.md\/b=z.ra\/b=z.sa) H4 (upd (upd H4 z.ra (.dK (Tb.dk fU (pl++[(p+(i:Int),(l2,0))])))) z.sa (.dK (putK (Tb.dk qI pl) (vr (p+(i:Int))) (.int 0)))):=λb o e w=>(by rw[ai (λy=>w (.inr (.inr y))),ai (λy=>w (.inr (.inl y)))];show e);let M7:=M4.Im (pk':=pk) (pl:=pl++[(p+(i:Int),(l2,0))]) ah Y (by rw[ai (qs dz.2.2.2.1),ai (qs dz.1)];show M4.hm) (by change upd _ z.sa _ z.ra=_;rw[ai aT,ae]) (by change upd _ z.sa _ z.sa=_;rw[ae,e6]) (λy G=>by
     rcases oR.mp G with G|G
     .let#[ns,U,c2]:=M4.cl _ N y G;show#[ns,Y _ _ U (λw=>by
       rcases w with w|w|w
       .rw[w,M4.hm]at U;cases U
       .rw[w,M4.rm _ N]at U;cases U
       .rw[w,M4.st _ N]at U;cases U),c2]
     .rw[nc.mp G];show#[replicate 8 0,Y _ _ e4 (λw=>by
       let w:l2=m.md\/l2=z.ra\/l2=z.sa:=w;rcases w with w|w|w
       .rw[w,M4.hm]at e4;cases e4
       .rw[w,M4.rm _ N]at e4;cases e4
       .rw[w,M4.st _ N]at e4;cases e4),by simp]) (by rw[L0];show gC (M2.np _ N) (Tb.cu bm)) (λy G=>by
     rcases oR.mp G with G|G
     .show M2.rg _ N y G
     .rw[nc.mp G];change 0<=p+(i:Int)/\p+(i:Int)<64;omega)
   rw[Bk]at M7;show#[_,pl++[(p+(i:Int),(l2,0))],rfl,M7,λq=>?_,λy G=>?_,λb o e w=>Y b o (S4 b o (o2 b o e w)) λy=>w ?_,λb e=>bx b (S4.free (cL (cL e).2).2),λcv C=>?_]
   .rw[Tb.bC q bm];cases c:q=p+(i:Int)
    .rw[Xl c,Xl (by rw[c];omega)];rfl
    .rw[Xk c,ac q];cases c2:p<=q/\q<p+(i:Int)
     .rw[Xl c2,Xl af]
     .rw[Xk c2,Xk af]
   .rcases oR.mp G with G|G
    .show ba y G
    .rw[nc.mp G];show .inr (bx l2 f2)
   .rcases y with y|y|y
    .show .inl y
    .show .inr (.inr (.inr #[_,R,.inl y]))
    .show .inr (.inr (.inr #[_,R,.inr (.inl y)]))
   .rw[Eh];show(c2 cv C).new t (λt' q=>?_) (Y _ _ e4 (λw=>by
     rcases w with w|w|w
     .rw[w,M4.hm]at e4;cases e4
     .rw[w,M4.rm _ N]at e4;cases e4
     .rw[w,M4.st _ N]at e4;cases e4)) f2 (λa xs e=>by
     let e:=S4 _ _ e;show Y a _ e (λw=>?_);rcases w with w|w|w
     .rw[w,M4.hm]at e;cases e
     .rw[w,M4.rm _ N]at e;cases e
     .rw[w,M4.st _ N]at e;cases e)
    rw[lM L,lM L];cases c:t'=t
    .rw[Xl c,Xl c];change(Tb.look (pl++[(p+(i:Int),(l2,0))]) q).map (·.1)=_;rw[Tb.bC q bm];cases c3:q=p+(i:Int)
     .rw[Xl c3,Xl #[c,c3]];rfl
     .rw[Xk c3,Xk (λh=>c3 h.2)]
    .rw[Xk c,Xk c,Xk (λh=>c h.1)]
  .rintro σ H2 ⟨v6,pl,rfl,M2,ac,ba,o2,bx,c2⟩;show ap _ _ #[pk,_,M2,#[p0,λcv C=>#[by rw[show iJ (.map t p mm) cv=ES cv t p (p+mm-p).toNat from FI.symm];show c2 cv C,6]],#[o2,pf L λy G=>(ba y G).imp (λh=>#[y,h,rfl]) id],by rw[Tb.iu];omega,wN L,λt' q=>?_];rw[yr L];let bl:q∈Rm.aM p mm↔(p<=q/\q<p+((p+mm-p).toNat:Int)):=by
    unfold Rm.aM;rw[qj];constructor
    .rintro⟨j,hj,rfl⟩;have:=OH.mp hj;omega
    .intro h;show#[(q-p).toNat,OH.mpr af,af]
   cases c:t'=t
   .rw[Xl c,ac q];cases c2:q∈Rm.aM p mm
    .rw[Xl (bl.mp c2),Xl #[c,c2]]
    .rw[Xk (λh=>c2 (bl.mpr h)),Xk (λh=>c2 h.2),c,y8 L]
   .rw[Xk c,Xk (λh=>c h.1)]
 |drop t p mm =>
  show qG rfl rfl bD (qG rfl rfl bD ?_);show qG rfl rfl bD (Jv rfl rfl ?_);let#[z,L,a8,el]:=fi;let R:=Tb.aA L;let b1:¬ mm<1:=λw=>a8 (.inl w);let b2:¬ p<0:=λw=>a8 (.inr (.inl w));let b3:¬ 64<p+mm:=λw=>a8 (.inr (.inr w));show#[0,d,2,.int p,1,bP.of am,rfl,0,d,2,.int p,1,bP.of am,rfl,0,d,2,.int mm,1,bP.of am,4,0,4,0,#[af,af,af,af],?_];show jD (lo:=p) (n:=(p+mm-p).toNat) (NB m d bL pk Z H t p z) #[_,z.pl,rfl,by rw[zL M.nd L];show M1,λq=>by rw[Xk af],λy G=>.inl G,λb o e _=>s1 b o e,λcv C=>by rw[zL M.nd L];show C.keep (λa xs e=>s1 _ _ e) λ_ _ _ h=>h] ?_ ?_
  .rintro i σ H2 hi ⟨v6,pl,rfl,M2,ac,ba,o2,c2⟩;let ah:=Dn (y:=(#[z.ra,z.sa,pl]:MT)) L;let N:=Tb.aA ah;let b8:p+(i:Int)∈Rm.aM p mm:=by
    unfold Rm.aM;show qj.mpr #[i,OH.mpr af,rfl]
   obtain⟨y,G⟩:∃y,Tb.look pl (p+(i:Int))=some y:=by
    let h1:=ac (p+(i:Int));rw[Xk af]at h1;cases e:Tb.look pl (p+(i:Int))with
    |some y=>show#[y,rfl]
    |none =>
     rw[e]at h1;show absurd (Rx.mp h1.symm) (el _ b8)
   let dz:=M.d3 _ R;let aT:=M.rs _ R _ R;show#[0,0,m.lr,0,fV M2.hr ah,z.ra,rfl,.inl #[_,.inl (M2.rm _ N)],0,_,vr (p+(i:Int)),fU y,M2.rm _ N,rfl,by rw[Tb.dg,G];rfl,?_];rw[Tb.fM];let o5:Off (· = z.ra) H2 (upd H2 z.ra (.dK (Tb.dk fU (Tb.bp pl (p+(i:Int)))))):=Off.wr rfl;let h5:=o5 _ _ (M2.st _ N) (qs aT);show#[0,0,m.ls,0,fV (o5 _ _ M2.hs (qs dz.2.2.1)) ah,z.sa,rfl,.inl #[_,.inl h5],0,_,vr (p+(i:Int)),qI y,h5,rfl,by rw[Tb.dg,G];rfl,?_];rw[Tb.fM];let Y:Off (λb=>b=m.md\/b=z.ra\/b=z.sa) H2 (upd (upd H2 z.ra (.dK (Tb.dk fU (Tb.bp pl (p+(i:Int)))))) z.sa (.dK (Tb.dk qI (Tb.bp pl (p+(i:Int)))))):=λb o e w=>(by rw[ai (λy=>w (.inr (.inr y))),ai (λy=>w (.inr (.inl y)))];show e);let M7:=M2.Im (pk':=pk) (pl:=Tb.bp pl (p+(i:Int))) ah Y (by rw[ai (qs dz.2.2.2.1),ai (qs dz.1)];show M2.hm) (by change upd _ z.sa _ z.ra=_;rw[ai aT,ae]) (by change upd _ z.sa _ z.sa=_;rw[ae]) (λy G=>by
     let#[ns,U,c2]:=M2.cl _ N y (Tb.cw G).1;show#[ns,Y _ _ U (λw=>by
       rcases w with w|w|w
       .rw[w,M2.hm]at U;cases U
       .rw[w,M2.rm _ N]at U;cases U
       .rw[w,M2.st _ N]at U;cases U),c2]) (Tb.qd (M2.np _ N)) (λy G=>M2.rg _ N y (Tb.cw G).1)
   rw[Bk]at M7;show#[_,Tb.bp pl (p+(i:Int)),rfl,M7,λq=>?_,λy G=>ba y (Tb.cw G).1,λb o e w=>Y b o (o2 b o e w) λy=>w ?_,λcv C=>(c2 cv C).keep (λa xs e=>?_) λt' q' a h=>?_]
   .rw[Tb.cB];cases c:q=p+(i:Int)
    .rw[Xl c,Xl (by rw[c];omega)];rfl
    .rw[Xk c,ac q];cases c2:p<=q/\q<p+(i:Int)
     .rw[Xl c2,Xl af]
     .rw[Xk c2,Xk af]
   .rcases y with y|y|y
    .show .inl y
    .show .inr (.inr (.inr #[_,R,.inl y]))
    .show .inr (.inr (.inr #[_,R,.inr (.inl y)]))
   .show Y a _ e (λw=>?_);rcases w with w|w|w
    .rw[w,M2.hm]at e;cases e
    .rw[w,M2.rm _ N]at e;cases e
    .rw[w,M2.st _ N]at e;cases e
   .rw[lM L]at h ⊢;cases c:t'=t
    .rw[Xl c]at h ⊢;let h:(Tb.look (Tb.bp pl (p+(i:Int))) q').map (·.1)=some a:=h;rw[Tb.cB]at h;cases c3:q'=p+(i:Int)
     .rw[Xl c3]at h;cases h
     .rw[Xk c3]at h;show h
    .rw[Xk c]at h ⊢;show h
  .rintro σ H2 ⟨v6,pl,rfl,M2,ac,ba,o2,bx⟩;show ap _ _ #[pk,_,M2,#[p0,λcv C=>#[bx cv C,6]],#[o2,pf L λy G=>(ba y G).imp (λh=>#[y,h,rfl]) id],by rw[Tb.iu];omega,wN L,λt' q=>?_];rw[yr L];let bl:q∈Rm.aM p mm↔(p<=q/\q<p+((p+mm-p).toNat:Int)):=by
    unfold Rm.aM;rw[qj];constructor
    .rintro⟨j,hj,rfl⟩;have:=OH.mp hj;omega
    .intro h;show#[(q-p).toNat,OH.mpr af,af]
   cases c:t'=t
   .rw[Xl c,ac q];cases c2:q∈Rm.aM p mm
    .rw[Xl (bl.mp c2),Xl #[c,c2]]
    .rw[Xk (λh=>c2 (bl.mpr h)),Xk (λh=>c2 h.2),c,y8 L]
   .rw[Xk c,Xk (λh=>c h.1)]
 |copy t o =>
  show qG rfl rfl bD (qG rfl rfl bD ?_);show qG rfl rfl bD (qG rfl rfl bD ?_);show Jv rfl rfl ?_;let#[z,L,eo,_]:=fi;let R:=Tb.aA L;let dz:=M.d3 _ R;let aT:=M.rs _ R _ R;let d7:t≠o:=λe=>(by rwa[e,eo]at L);show#[0,0,m.ls,0,fV M1.hs L,z.sa,0,M1.st _ R,λJ h2=>?_];let f2:H J=none:=s1.free h2;let sA:=Tb.av (X:=.dK (Tb.dk qI z.pl)) h2;let e2:upd H1 J (.dK (Tb.dk qI z.pl)) J=some (.dK (Tb.dk qI z.pl)):=ae;let M2:=M1.same sA;let S2:=s1.trans sA;let ec:=sA _ _ am;generalize upd H1 J (.dK (Tb.dk qI z.pl))=H2 at *;show#[0,0,d,2,.int o,1,bP.of ec,rfl,m.ls,0,hU.k (k:=vr o) M2.hs (by rw[Tb.cR];omega),?_];rw[show(V.ref J)=uF #[J,J,[]]from rfl,Tb.cV (f:=uF) eo,nQ];change cy _ _ _ _ (upd H2 m.ls (.dK (Tb.dk uF Z++[(vr o,V.ref J)])));let o3:Off (· = m.ls) H2 (upd H2 m.ls (.dK (Tb.dk uF Z++[(vr o,V.ref J)]))):=Off.wr rfl;let c4:upd H2 m.ls (.dK (Tb.dk uF Z++[(vr o,V.ref J)])) m.ls=some (.dK (Tb.dk uF Z++[(vr o,V.ref J)])):=ae;generalize upd H2 m.ls (.dK (Tb.dk uF Z++[(vr o,V.ref J)]))=H3 at *;let c5:J≠m.ls:=λe=>(by rwa[e,M.hs]at f2);let eq:J≠m.lr:=λe=>(by rwa[e,M.hr]at f2);let dL:∀{b kvs},H b=some (.dK kvs)->b≠m.ls->H3 b=some (.dK kvs):=λe n=>o3 _ _ (S2 _ _ e) n;let ep:∀{b xs},H b=some (.tup xs)->H3 b=some (.tup xs):=λe=>o3 _ _ (S2 _ _ e) (λw=>by rwa[w,M.hs]at e);let eH:∀{b xs},H b=some (.lst xs)->H3 b=some (.lst xs):=λe=>o3 _ _ (S2 _ _ e) (λw=>by rwa[w,M.hs]at e);intro I h1;let f1:H I=none:=by
   cases e:H I with
   |none=>rfl
   |some u =>
    cases w:I=m.ls
    .rw[w,c4]at h1;cases h1
    .rw[o3 _ _ (S2 _ _ e) w]at h1;cases h1
  let bb:I≠J:=λe=>(by rwa[e,o3 _ _ e2 c5]at h1);let bI:I≠m.lr:=λe=>(by rwa[e,M.hr]at f1);let dl:I≠m.ls:=λe=>(by rwa[e,M.hs]at f1);let dp:upd H3 I (.dK []) m.lr=some (.dK (Tb.dk ij Z)):=(by rw[ai (qs bI)];show dL M.hr M.n3.2.2);show#[0,0,d,2,.int o,1,bP.of (Tb.av h1 _ _ (ep hd.1)),rfl,m.lr,0,hU.k (k:=vr o) dp (by rw[Tb.cR];omega),?_];rw[show(V.ref I)=ij #[I,J,[]]from rfl,Tb.cV (f:=ij) eo];let o5:Off (λb=>b=m.lr\/b=m.ls) H (upd (upd H3 I (.dK [])) m.lr (.dK (Tb.dk ij (Z++[(o,#[I,J,[]])])))):=λb u e w=>by
   rw[ai (λy=>w (.inl y)),ai (au e f1)];show o3 _ _ (S2 _ _ e) λy=>w (.inr y)
  let c6:upd (upd H3 I (.dK [])) m.lr (.dK (Tb.dk ij (Z++[(o,#[I,J,[]])]))) m.lr=some (.dK (Tb.dk ij (Z++[(o,#[I,J,[]])]))):=ae;let ek:upd (upd H3 I (.dK [])) m.lr (.dK (Tb.dk ij (Z++[(o,#[I,J,[]])]))) m.ls=some (.dK (Tb.dk uF Z++[(vr o,V.ref J)])):=(by rw[ai (qs M.n3.2.2),ai (qs dl)];show c4);let dO:upd (upd H3 I (.dK [])) m.lr (.dK (Tb.dk ij (Z++[(o,#[I,J,[]])]))) I=some (.dK []):=(by rw[ai bI,ae]);let dr:upd (upd H3 I (.dK [])) m.lr (.dK (Tb.dk ij (Z++[(o,#[I,J,[]])]))) J=some (.dK (Tb.dk qI z.pl)):=(by rw[ai eq,ai (qs bb)];show o3 _ _ e2 c5);generalize upd (upd H3 I (.dK [])) m.lr (.dK (Tb.dk ij (Z++[(o,#[I,J,[]])])))=H5 at *;let bn:∀{b},b≠m.lr->b≠m.ls->¬ (b=m.lr\/b=m.ls):=λa b w=>w.elim a b;let hn:∀(ob:Obj) u',H z.ra≠some (.cW ob u'):=λob u' w=>(by rwa[M.rm _ R]at w);let em:Tb.look (Z++[(o,(#[I,J,[]]:MT))]) t=some z:=(by rw[Tb.bC t eo,Xk d7];show L);let ej:Tb.look (Z++[(o,(#[I,J,[]]:MT))]) o=some #[I,J,[]]:=(by rw[Tb.bC o eo,Xl rfl]);let d6:=o5 _ _ (M.rm _ R) (bn dz.2.1 dz.2.2.1);show#[0,0,m.lr,0,fV c6 em,z.ra,0,d6,hn,λob=>?_];let bK:I≠z.ra:=λe=>(by rwa[e,M.rm _ R]at f1);let dm:J≠z.ra:=λe=>(by rwa[e,M.rm _ R]at f2);let oF:Off (· = z.ra) H5 (upd H5 z.ra (.cW ob (.dK (Tb.dk fU z.pl)))):=Off.wr rfl;let hF:upd H5 z.ra (.cW ob (.dK (Tb.dk fU z.pl))) z.ra=some (.cW ob (.dK (Tb.dk fU z.pl))):=ae;let b5:=oF _ _ dO bK;let dT:=oF _ _ dr dm;let bY:=oF _ _ c6 (qs dz.2.1);let c9:=oF _ _ ek (qs dz.2.2.1);let b7:=oF _ _ (o5 _ _ hd.1 (bn (λw=>by have:=hd.1;rwa[w,M.hr]at this) (λw=>by have:=hd.1;rwa[w,M.hs]at this))) (λw=>by have:=hd.1;rwa[w,M.rm _ R]at this);let da:∀{b},upd H5 z.ra (.cW ob (.dK (Tb.dk fU z.pl))) b=none->H b=none:=λ{b} e=>by
   cases e2:H b with
   |none=>rfl
   |some u =>
    exfalso;cases w1:b=z.ra
    .rw[w1,hF]at e;cases e
    .by_cases w2:b=m.lr
     .rw[w2,bY]at e;cases e
     .by_cases w3:b=m.ls
      .rw[w3,c9]at e;cases e
      .rw[oF _ _ (o5 _ _ e2 (bn w2 w3)) w1]at e;cases e
  let dM:∀y∈z.pl,∃ns:List Int,upd H5 z.ra (.cW ob (.dK (Tb.dk fU z.pl))) y.2.1=some (.lst (ns.map V.int))/\ns.length=8:=λy G=>by
   let#[ns,U,c2]:=M.cl _ R y G;show#[ns,oF _ _ (o5 _ _ U (bn (λw=>by rwa[w,M.hr]at U) (λw=>by rwa[w,M.hs]at U))) (λw=>by rwa[w,M.rm _ R]at U),c2]
  let OF:∀b u,H b=some u->b≠m.lr->b≠m.ls->b≠z.ra->upd H5 z.ra (.cW ob (.dK (Tb.dk fU z.pl))) b=some u:=λb u e a1 a2 a3=>oF _ _ (o5 _ _ e (bn a1 a2)) a3;generalize upd H5 z.ra (.cW ob (.dK (Tb.dk fU z.pl)))=HF at *;let bd:(z.pl.map (·.1)).Nodup:=M.np _ R;show rR (a:=z.ra) (o:=ob) (kvs:=Tb.dk fU z.pl) (NX m d Z H t z I HF)
   #[2,[],rfl,b5,rfl,(λy G=>by cases G),λ_ _ e _=>e,Qo,λcv C u S=>by cases S] (λi σ H6 _ z0=>by let#[_,_,_,_,_,_,_,Y]:=z0;show Y.1 _ _ hF (qs bK)) ?_ ?_
  .rintro i kk v σ H6 T' hk hT ⟨v6,v7,pl,rfl,ch,aB,bc,Y,cp,ce⟩;let cS:(z.pl.map λx:Int×Addr×Int=>((vr x.1:Key),fU x.2))[i]?=some (kk,v):=hk;rw[t5]at cS;let#[y,G,e]:=o8.mp cS;cases e;let cx:=z6 G;let#[hi,eP]:=kQ.mp G;let b6:z.pl.length<=64:=M.len R;let e0:pl.length=i:=by
    have:=congrArg PZ aB;rw[mu,mu,Oj]at this;omega
   let ei:Tb.look pl y.1=none:=by
    cases e:Tb.look pl y.1 with
    |none=>rfl
    |some u =>
     exfalso;let h1:(y.1,u.2)∈pl.map λy=>(y.1,y.2.2):=qj.mpr #[_,Tb.aA e,rfl];rw[aB]at h1;let#[y',h2,h3]:=qj.mp h1;let#[j,hj,e3]:=PD h2;rw[Rv]at e3;rw[Oj]at hj;show qr bd j i (a:=y'.1) (b:=y.1) ?_ ?_ af (Th h3).1
     .rw[t5,vu af,e3];rfl
     .rw[t5,G];rfl
   let#[ns,U,c2]:=dM y cx;let eC:y.2.1≠I:=λw=>(by rwa[w,b5]at U);let sT:=Tb.av (X:=.tup [kV (vr y.1),fU y.2]) hT;show#[T',[.int y.1,.ref y.2.1],rfl,bP.of ae,4,0,_,0,5];let c7:=sT _ _ (Y _ _ U eC);let b4:=sT _ _ ch;let eu:=sT _ _ (Y _ _ bY (qs bI));let d4:=sT _ _ (Y _ _ b7 (λw=>by rwa[w,b5]at b7));let O7:Off (· = I) HF (upd H6 T' (.tup [kV (vr y.1),fU y.2])):=λb u e w=>sT _ _ (Y _ _ e w);let C7:∀u∈pl,(∃ns:List Int,upd H6 T' (.tup [kV (vr y.1),fU y.2]) u.2.1=some (.lst (ns.map V.int))/\ns.length=8)/\HF u.2.1=none:=λu S=>by
    let#[#[as,a1,a2],a3]:=bc u S;show#[#[as,sT _ _ a1,a2],a3]
   let ee:∀cv,Ct H Z cv->(∀u∈pl,upd H6 T' (.tup [kV (vr y.1),fU y.2]) u.2.1=some (.lst ((cv t u.1).map V.int)))/\ns.map V.int=(cv t y.1).map V.int:=λcv C=>by
    show#[λu S=>sT _ _ (ce cv C u S),?_];let e:=C.at_ t y.1 y.2.1 (by rw[yE L,Tb.bX bd cx];rfl);let e2:=OF _ _ e (λw=>by rwa[w,M.hr]at e) (λw=>by rwa[w,M.hs]at e) (λw=>by rwa[w,M.rm _ R]at e);show HO.lst.inj (rn (U.symm.trans e2))
   generalize upd H6 T' (.tup [kV (vr y.1),fU y.2])=H7 at *;show#[0,y.2.1,0,.inl (bw.of c7),λl hl=>?_];let sL:=Tb.av (X:=.lst (ns.map V.int)) hl;let ca:HF l=none:=by
    cases e:HF l with
    |none=>rfl
    |some u =>
     cases w:l=I
     .rw[w,b4]at hl;cases hl
     .rw[O7 _ _ e w]at hl;cases hl
   let dj:l≠I:=λw=>(by rwa[w,b5]at ca);show#[0,0,d,2,.int o,1,bP.of (sL _ _ d4),rfl,m.lr,0,fV (sL _ _ eu) ej,0,I,0,hU.k (k:=vr y.1) (sL _ _ b4) (by rw[Tb.cR];omega),?_];let e8:putK (Tb.dk fU pl) (vr y.1) (.ref l)=Tb.dk fU (pl++[(y.1,(l,y.2.2))]):=Tb.cV (f:=fU) (a:=(l,y.2.2)) ei;show#[2,pl++[(y.1,(l,y.2.2))],rfl,by rw[<-e8];show ae,?_,λu S=>?_,λb u e w=>by rw[ai w];show sL _ _ (O7 _ _ e w),?_,λcv C u S=>?_]
   .rw[L0,aB,Pq,G,L0];rfl
   .rcases oR.mp S with S|S
    .let#[#[as,a1,a2],a3]:=C7 u S;show#[#[as,by rw[ai (λw=>by rwa[w,b4]at a1)];show sL _ _ a1,a2],a3]
    .rw[nc.mp S];show#[#[ns,by change upd _ I _ l=_;rw[ai dj,ae],c2],ca]
   .rw[L0];show gC cp (λm'=>?_);let#[u,S,e]:=qj.mp m';let#[#[as,a1,_],_]:=C7 u S;rwa[e,hl]at a1
   .let#[g1,g2]:=ee cv C;rcases oR.mp S with S|S
    .let a1:=g1 u S;rw[ai (λw=>by rwa[w,b4]at a1)];show sL _ _ a1
    .rw[nc.mp S];change upd _ I _ l=_;rw[ai dj,ae];show congrArg (λx=>some (HO.lst x)) g2
  .rintro σ H6 ⟨v6,v7,pl,rfl,ch,aB,bc,Y,cp,ce⟩;rw[Tb.cR,Pt]at aB;show#[z.ra,ob,_,Y _ _ hF (qs bK),hn,?_];let o7:Off (λb=>b=m.lr\/b=m.ls) H (upd H6 z.ra (.dK (Tb.dk fU z.pl))):=λb u e w=>by
    cases w1:b=z.ra
    .rw[w1,ae, <-e,w1,M.rm _ R]
    .rw[ai w1];show Y _ _ (OF b u e (λy=>w (.inl y)) (λy=>w (.inr y)) w1) (au e f1)
   let db:(pl.map (·.1))=z.pl.map (·.1):=by
    have:=congrArg (Xd (·.1)) aB;rw[Ql,Ql]at this;show this
   let M8:cF (upd H6 z.ra (.dK (Tb.dk fU z.pl))) m bL pk (Z++[(o,#[I,J,pl])]):=M.add (z:=#[I,J,pl]) eo o7
    (by rw[ai (qs dz.2.1),nQ];rw[nQ]at bY;show Y _ _ bY (qs bI))
    (by rw[ai (qs dz.2.2.1),nQ];show Y _ _ c9 (qs dl))
    (by change upd H6 z.ra _ I=_;rw[ai bK];show ch)
    (by change upd H6 z.ra _ J=_;rw[ai dm,Y _ _ dT (qs bb),KN aB])
    (λy G=>by
     let#[#[as,a1,a2],a3]:=bc y G;show#[as,by rw[ai (λw=>by rwa[w,hF]at a3)];show a1,a2])
    (by rw[db];show bd)
    (λy G=>by
     let h1:y.1∈pl.map (·.1):=qj.mpr #[y,G,rfl];rw[db]at h1;let#[y',h2,h3]:=qj.mp h1;rw[<-h3];show M.rg _ R y' h2) f1 f2 bb
   show ap _ _ #[pk,_,M8,#[p0,λcv C=>#[C.MF eo (λu S=>#[by rw[ai (λw=>by have:=(bc u S).2;rwa[w,hF]at this)];show ce cv C u S,da (bc u S).2]) cp (λa xs e=>o7 a _ e (λw=>by rcases w with w|w;rwa[w,M.hr]at e;rwa[w,M.hs]at e)),6]],#[λb u e w=>o7 b u e λy=>w (y.elim (λy=>.inr (.inl y)) λy=>.inr (.inr (.inl y))),λb w=>?_],by rw[wh];show ti _,λt'=>?_,λt' q=>?_]
   .rcases w with w|w|w|⟨x,hx,w⟩
    .show .inl (.inl w)
    .show .inl (.inr (.inl w))
    .show .inl (.inr (.inr (.inl w)))
    .rcases oR.mp hx with hx|hx
     .show .inl (.inr (.inr (.inr #[x,hx,w])))
     .rw[nc.mp hx]at w;rcases w with w|w|⟨y,G,w⟩
      .rw[w];show .inr f1
      .rw[w];show .inr f2
      .rw[w];show .inr (da (bc y G).2)
   .unfold hZ;rw[Tb.bC t' eo];cases c:t'=o
    .rw[Xl c,decide_eq_true c];rfl
    .rw[Xk c,decide_eq_false c];rfl
   .unfold eZ;rw[Tb.bC t' eo];cases c:t'=o
    .rw[Xl c,Xl c,L];change(Tb.look pl q).map (·.2)=(Tb.look z.pl q).map (·.2);let h1:=lN (λx:Addr×Int=>x.2) q pl;let h2:=lN (λx:Addr×Int=>x.2) q z.pl;rw[<-h1, <-h2];change Tb.look (pl.map λy=>(y.1,y.2.2)) q=Tb.look (z.pl.map λy=>(y.1,y.2.2)) q;rw[aB]
    .rw[Xk c,Xk c]
 |peek t ad nn =>
  show qG rfl rfl bD (qG rfl rfl bD ?_);show qG rfl rfl bD (qG rfl rfl bD ?_);show qG rfl rfl bD (Jv rfl rfl ?_);let#[z,L,sg]:=fi;let#[n,rfl]:=sg.nat;let ci:=sg.all;let#[a0,a1,n1]:=ea _ _ _ rfl;let R:=Tb.aA L;show#[0,d,2,.int ad,1,bP.of am,rfl,0,d,2,.int ad,1,bP.of am,rfl,0,d,2,.int n,1,bP.of am,4,0,4,0,#[af,af,af,af],?_];show gK (lo:=ad) (n:=(ad+(n:Int)-ad).toNat) (λi ys H2=>ys.length=i/\(∀cv,Ct H Z cv->ys=((NC i).map λj:Nat=>(cv t ((ad+(j:Int))/8)).getD ((ad+(j:Int))%8).toNat 0).map V.int)/\H2=H1) #[rfl,λ_ _=>rfl,rfl] ?_ ?_
  .rintro i ys H2 hi ⟨hl,hc,rfl⟩;obtain⟨y,G⟩:∃y,Tb.look z.pl ((ad+(i:Int))/8)=some y:=by
    cases e:Tb.look z.pl ((ad+(i:Int))/8)with
    |some y=>show#[y,rfl]
    |none=>show absurd e (ci i af)
   let#[ns,U,c2]:=M1.cl _ R _ (Tb.aA G);let#[b1,_]:=at_of (xs:=ns) (i:=(ad+(i:Int))%8) (n:=8) af af af;show#[0,0,m.lr,ij z,rfl,fV M1.hr L,0,_,0,rfl,#[ar,ar],z.ra,fU y,rfl,fV (M1.rm _ R) G,0,_,0,rfl,xi,y.1,2,0,rfl,bw.of U,b1,af,by rw[wh,hl];rfl,λcv C=>by
    let e:=C.at_ t _ y.1 (by rw[yE L,G];rfl);rw[Um,L0,L0,hc cv C];have:=kG (HO.lst.inj (rn (U.symm.trans (s1 _ _ e))));rw[this];rfl,rfl]
  .rintro ys H2 ⟨hl,hc,rfl⟩ l be;let s2:=Tb.av (X:=.lst ys) be;show k _ pk Z (.ref l) (M1.same s2) #[p0,λcv C=>#[C.keep (λa xs e=>s2 _ _ (s1 _ _ e)) (λ_ _ _ h=>h),l,rfl,s1.free be,by rw[ae,hc cv C,show(ad+(n:Int)-ad).toNat=n by omega];rfl]] #[λb o e _=>s2 _ _ (s1 _ _ e),λb w=>.inl w] (Sk _) (λ_=>rfl) λ_ _=>rfl
 |poke t ad c cs =>
  show qG rfl rfl bD (qG rfl rfl bD ?_);show qG rfl rfl bD (qG rfl rfl bD ?_);show qG rfl rfl bD (qG rfl rfl bD ?_);let#[z,L,sg]:=fi;let ci:=sg.all;let#[eh,a0,a1,n1]:=ev _ _ _ _ rfl;let R:=Tb.aA L;let cT:=s1 _ _ (hd.2 _ _ _ _ rfl);let dz:=M.d3 _ R;let aT:=M.rs _ R _ R;let bd:¬ cZ m Z d:=λw=>by
   rcases M1.alive d w with⟨_,e⟩|⟨_,e⟩
   .rw[am]at e;cases e
   .rw[am]at e;cases e
  show#[0,d,2,.ref c,1,bP.of am,rfl,c,rfl,#[_,bw.of cT],?_];show Bw (K:=K) (a:=c) (xs:=cs.map V.int) (NS m d bL Z H H1 t ad z cs)
   #[2,_,pk,z.pl,rfl,by rw[zL M.nd L];show M1,p0,rfl,λq ⟨j,h,_⟩=>af,λ_ _=>rfl,λ_ _ e _=>e,λcv C=>by
    rw[zL M.nd L];show(C.keep (λa xs e=>s1 _ _ e) (λ_ _ _ h=>h)).congr λt' q a h=>?_;unfold Gz;cases O:t'=t
    .rw[Xl O,UP,O,Cr (C.IL M (by rw[<-O];show h))]
    .rw[Xk O]] (λi σ H2 _ z0=>by let#[_,_,_,_,_,_,_,_,_,_,_,o2]:=z0;show bw.of (o2.1 _ _ cT eh)) ?_ ?_
  .rintro i x σ H2 T' hx hT ⟨v8,v9,ey,ab,pl,rfl,M2,p2,a7,ac,bv,o2,c2⟩;let hi:i<cs.length:=(by simpa using(kQ.mp hx).1);rw[t5]at hx;let#[cell,ef,rfl]:=o8.mp hx;let ah:=Dn (y:=(#[z.ra,z.sa,pl]:MT)) L;let N:=Tb.aA ah;let sT:=Tb.av (X:=.tup [.int i,.int cell]) hT;let M3:=M2.same sT;show#[T',[.int i,.int cell],rfl,bP.of ae,4,0,_,0,5];let er:=sT _ _ (o2 _ _ am bd);let c3:∀cv,Ct H Z cv->Ct (upd H2 T' (.tup [.int i,.int cell])) (Tb.bg Z t #[z.ra,z.sa,pl]) (Gz cv t ad (cs.take i)):=λcv C=>(c2 cv C).keep (λa xs e=>sT _ _ e) λ_ _ _ h=>h;let O3:Off (cZ m Z) H1 (upd H2 T' (.tup [.int i,.int cell])):=λb o e w=>sT _ _ (o2 _ _ e w);generalize upd H2 T' (.tup [.int i,.int cell])=H3 at *;show#[0,d,2,.int ad,1,bP.of er,rfl,0,_,0,5];obtain⟨y,G⟩:∃y,Tb.look pl ((ad+(i:Int))/8)=some y:=by
    cases e:Tb.look pl ((ad+(i:Int))/8)with
    |some y=>show#[y,rfl]
    |none=>show absurd ((rN a7 _).mp e) (ci i hi)
   let#[ns,U,c2]:=M3.cl _ N _ (Tb.aA G);let U:H3 y.1=some (.lst (ns.map V.int)):=U;let hj:yu (ns.map V.int).length ((ad+(i:Int))%8)=some ((ad+(i:Int))%8).toNat:=by
    unfold yu;rw[mu,Xl af,Xl af]
   show#[0,0,0,m.lr,0,fV M3.hr ah,0,_,0,rfl,#[ar,ar],z.ra,0,fV (M3.rm _ N) G,0,_,0,rfl,xi,y.1,2,0,rfl,U,hj,?_];rw[<-W0];let M4:=M3.Hk U (ns':=ns.set ((ad+(i:Int))%8).toNat cell) (by rw[OS];show c2);obtain⟨y',eb,d5⟩:∃y'∈z.pl,y'.2.1=y.1:=by
    let h1:((ad+(i:Int))/8,y.1)∈pl.map λy=>(y.1,y.2.1):=qj.mpr #[_,Tb.aA G,rfl];rw[a7]at h1;let#[y',h2,h3]:=qj.mp h1;show#[y',h2,(Th h3).2]
   let O4:Off (cZ m Z) H1 (upd H3 y.1 (.lst ((ns.set ((ad+(i:Int))%8).toNat cell).map V.int))):=λb o e w=>by
    rw[ai (λh=>w (.inr (.inr (.inr #[_,R,.inr (.inr #[y',eb,h.trans d5.symm])]))))];show O3 b o e w
   let cC:eA (Tb.bg Z t #[z.ra,z.sa,pl]) t ((ad+(i:Int))/8)=some y.1:=by
    rw[lM L,Xl rfl];change(Tb.look pl ((ad+(i:Int))/8)).map (·.1)=some y.1;rw[G];rfl
   let C4:∀cv,Ct H Z cv->Ct (upd H3 y.1 (.lst ((ns.set ((ad+(i:Int))%8).toNat cell).map V.int))) (Tb.bg Z t #[z.ra,z.sa,pl]) (Gz cv t ad (cs.take (i+1))):=λcv C=>by
    let D:=c3 cv C;let en:ns=Gz cv t ad (cs.take i) t ((ad+(i:Int))/8):=kG (HO.lst.inj (rn (U.symm.trans (D.at_ _ _ _ cC))));let et:cs.take (i+1)=cs.take i++[cell]:=(by rw[Pq,ef];rfl);let lt:(cs.take i).length=i:=(by rw[Oj];omega);show(D.cell (r:=ns.set ((ad+(i:Int))%8).toNat cell) cC).congr λt' q a _=>?_;unfold Gz at en ⊢;rw[Xl rfl]at en;cases O:t'=t
    .rw[Xl O,Xl O,et,AJ,lt];cases cq:q=(ad+(i:Int))/8
     .rw[Xl #[O,cq],Xl cq.symm,en,cq]
     .rw[Xk (λh=>cq h.2),Xk (qs cq)]
    .rw[Xk (λh=>O h.1),Xk O,Xk O]
   generalize upd H3 y.1 (.lst ((ns.set ((ad+(i:Int))%8).toNat cell).map V.int))=H4 at *;dsimp only;show BS λQ jt je=>?_;show#[0,rfl,0,?_];let cr:∀Hx,Hx=H4->Q true Hx:=λHx ex=>by
    subst ex;show jt _ ?_;show#[0,m.md,.int ab,rfl,M4.g (Kn _ _ _ _),_,0,rfl,0,m.md,0,hU.k (k:=Oi "pokes") M4.hm (by change 4<sizeLine;omega),?_];dsimp only;rw[Fo];let o5:Off (· = m.md) Hx (upd Hx m.md (.dK (qC m.lr m.ls bL (ab+1)))):=Off.wr rfl;let g5:dY (upd Hx m.md (.dK (qC m.lr m.ls bL (ab+1)))) m.md (.str "pokes") (some (.int (ab+1))):=by
     let q:=dY.k (k:=Oi "pokes") (H:=upd Hx m.md (.dK (qC m.lr m.ls bL (ab+1)))) ae;rw[Kn]at q;show q
    show#[0,m.md,.int (ab+1),rfl,g5,0,0,m.ls,0,fV (o5 _ _ M4.hs (qs M.n3.2.1)) ah,0,_,0,rfl,#[ar,ar],z.sa,0,hU.k (k:=vr ((ad+(i:Int))/8)) (o5 _ _ (M4.st _ N) dz.2.2.2.1) (by rw[Tb.cR];have:pl.length<=64:=M2.len N;change pl.length<_;omega),?_];let e6:putK (Tb.dk qI pl) (vr ((ad+(i:Int))/8)) (.int (ab+1))=Tb.dk qI (Tb.bg pl ((ad+(i:Int))/8) (y.1,ab+1)):=Tb.jc (f:=qI) (a:=(y.1,ab+1)) G;let e7:Tb.dk fU (Tb.bg pl ((ad+(i:Int))/8) (y.1,ab+1))=Tb.dk fU pl:=Tb.tY (f:=fU) (a:=(y.1,ab+1)) (b:=y) (M2.np _ N) G rfl;let Y:Off (λb=>b=m.md\/b=z.ra\/b=z.sa) Hx (upd (upd Hx m.md (.dK (qC m.lr m.ls bL (ab+1)))) z.sa (.dK (putK (Tb.dk qI pl) (vr ((ad+(i:Int))/8)) (.int (ab+1))))):=λb o e w=>(by rw[ai (λy=>w (.inr (.inr y))),ai (λy=>w (.inl y))];show e);let M7:=M4.Im (pk':=ab+1) (pl:=Tb.bg pl ((ad+(i:Int))/8) (y.1,ab+1)) ah Y (by rw[ai (qs dz.2.2.2.1),ae]) (by change upd _ z.sa _ z.ra=_;rw[ai aT,ai dz.1,e7];show M4.rm _ N) (by change upd _ z.sa _ z.sa=_;rw[ae,e6]) (λu S=>by
      let ew:∃u'∈pl,u'.2.1=u.2.1:=by
       rcases Tb.mem_set S with rfl|⟨S,_⟩
       .show#[_,Tb.aA G,rfl]
       .show#[u,S,rfl]
      let#[u',h1,h2]:=ew;let#[as,I,J]:=M4.cl _ N u' h1;rw[<-h2];show#[as,Y _ _ I (λw=>by
       rcases w with w|w|w
       .rw[w,M4.hm]at I;cases I
       .rw[w,M4.rm _ N]at I;cases I
       .rw[w,M4.st _ N]at I;cases I),J]) (by rw[Tb.gw];show M2.np _ N) (λu S=>by
      rcases Tb.mem_set S with rfl|⟨S,_⟩
      .let h9:=M2.rg _ N ((ad+(i:Int))/8,y) (Tb.aA G);show h9
      .show M2.rg _ N u S)
    rw[Bk]at M7;show#[2,_,ab+1,Tb.bg pl ((ad+(i:Int))/8) (y.1,ab+1),rfl,M7,af,?_,λq hq=>?_,λq hq=>?_,λb o e w=>Y b o (O4 b o e w) λu=>w ?_,λcv C=>(C4 cv C).keep (λa xs e=>?_) λt' q a h=>?_]
    .rw[<-a7];unfold Tb.bg;rw[Ql];show P6 λu S=>?_;change((if u.1=(ad+(i:Int))/8 then((ad+(i:Int))/8,(y.1,ab+1))else u).1,(if u.1=(ad+(i:Int))/8 then((ad+(i:Int))/8,(y.1,ab+1))else u).2.1)=(u.1,u.2.1);cases O:u.1=(ad+(i:Int))/8
     .let h1:=Tb.bX (M2.np _ N) S;rw[O,G]at h1;rw[Xl O, <-O,rn h1]
     .rw[Xk O]
    .rw[Tb.bT q G];cases O:q=(ad+(i:Int))/8
     .rw[Xl O];show#[ab+1,rfl,af]
     .rw[Xk O];let#[j,h1,h2]:=hq;show ac q #[j,?_,h2];cases cg:j=i
      .subst cg;show absurd h2.symm O
      .omega
    .rw[Tb.bT q G,Xk (λO=>hq #[i,RF _,O.symm])];show bv q λ⟨j,h1,h2⟩=>hq #[j,Rq h1,h2]
    .rcases u with u|u|u
     .show .inl u
     .show .inr (.inr (.inr #[_,R,.inl u]))
     .show .inr (.inr (.inr #[_,R,.inr (.inl u)]))
    .show Y a _ e (λw=>?_);rcases w with w|w|w
     .rw[w,M4.hm]at e;cases e
     .rw[w,M4.rm _ N]at e;cases e
     .rw[w,M4.st _ N]at e;cases e
    .rw[lM L]at h ⊢;cases O:t'=t
     .rw[Xl O]at h ⊢;let h:(Tb.look (Tb.bg pl ((ad+(i:Int))/8) (y.1,ab+1)) q).map (·.1)=some a:=h;change(Tb.look pl q).map (·.1)=some a;rw[Tb.bT q G]at h;cases cq:q=(ad+(i:Int))/8
      .rw[Xl cq]at h;rw[cq,G];show h
      .rw[Xk cq]at h;show h
     .rw[Xk O]at h ⊢;show h
   show gM (λ_=>cr _ rfl) (λc0=>?_);show#[0,_,0,rfl,xi,rfl,0,?_];show pV (λ_=>cr _ rfl) (λc8=>je _ ?_);let c0:¬ ((i:Nat):Int)=0:=λh=>c0 (by rw[h];simp);let c8:¬ (ad+(i:Int))%8=0:=λh=>c8 (decide_eq_true (show V.int ((ad+(i:Int))%8)=V.int 0 by rw[h]));show#[2,_,ab,pl,rfl,M4,p2,a7,λq ⟨j,h1,h2⟩=>?_,λq hq=>bv q λ⟨j,h1,h2⟩=>hq #[j,Rq h1,h2],O4,C4];cases cg:j=i
   .subst cg;show ac q #[j-1,af,af]
   .show ac q #[j,af,h2]
  .rintro σ H2 ⟨v8,v9,ey,ab,pl,rfl,M2,p2,a7,ac,bv,o2,c2⟩;rw[mu]at ac bv c2;let dV:∀y∈pl,(∃y'∈z.pl,y.2.1=y'.2.1)\/H y.2.1=none:=λy G=>by
    let h1:(y.1,y.2.1)∈pl.map λy=>(y.1,y.2.1):=qj.mpr #[y,G,rfl];rw[a7]at h1;let#[y',h2,h3]:=qj.mp h1;show .inl #[y',h2,(Th h3).2.symm]
   show ap _ _ #[ab,_,M2,#[p2,λcv C=>#[(c2 cv C).congr (λt' q a h=>by
    rw[Pt];change Gz cv t ad cs t' q=vg cv t ad cs t' q;unfold Gz vg;cases O:t'=t
    .rw[Xl O];cases cm:q∈Rm.ay ad cs.length
     .rw[Xl #[O,cm]]
     .rw[Xk (λh=>cm h.2),O];rw[O,lM L,Xl rfl]at h;let#[u,S,_]:=o8.mp h;let S:Tb.look pl q=some u:=S;cases e5:Tb.look z.pl q with
      |none=>rwa[(rN a7 q).mpr e5]at S
      |some u'=>show Ay (C.IL M (a:=u'.1) (by rw[yE L,e5];rfl)) cm
    .rw[Xk O,Xk (λh=>O h.1)]),6]],#[λb o e w=>o2 b o (s1 b o e) w,pf L dV],by rw[Tb.iu];omega,wN L,λt' q=>?_]
   rw[yr L];cases O:t'=t
   .by_cases c2:q∈Rm.ay ad cs.length
    .rw[Xl #[O,c2],Xl O];show ac q (fG.mp c2)
    .rw[Xk (λh=>c2 h.2),Xl O,bv q (λh=>c2 (fG.mpr h)),O,y8 L]
   .rw[Xk (λh=>O h.1),Xk O]
structure Dp(c:CA)(H:Hp)(M:Xm)(a:RA)(m:MA)(nf ns k:Nat)(s:Pg.PS)(cv:Xn)(pk:Int)(W:dq)(Z:Zs):Prop where
 R:ax c H M a s W
 ri:Pg.RI s (ents W)
 cv:Cv s W cv
 D:cF H m (bL s) pk Z
 p0:0<=pk
 sp:∀b,cZ m Z b->M b/\¬ a.own W b
 tw:Tw W Z
 lf:(s.ow true).length=nf
 ls:(s.ow false).length=ns
 lw:W.length<=k
 lz:Z.length<=k
section
variable{c:CA}{H H' H2:Hp}{M M':Xm}{a:RA}{m:MA}{nf ns k:Nat}{s s':Pg.PS}{cv:Xn}{pk tt:Int}{W W':dq}{Z Z':Zs}
theorem Dp.same(S:Dp c H M a m nf ns k s cv pk W Z)(e:aP H H'):Dp c H' M a m nf ns k s cv pk W Z:=#[S.R.same e,S.ri,S.cv,S.D.same e,S.p0,S.sp,S.tw,S.lf,S.ls,S.lw,S.lz]
theorem xk(R:ax c H M a s W)(D:cF H m tt pk Z)(sp:∀b,cZ m Z b->M b/\¬ a.own W b){pk':Int}(I:cF H' m tt pk' Z')(st:oX m H Z H' Z') :
  ax c H' (λb=>(M b/\¬ cZ m Z b)\/cZ m Z' b) a s W/\∀b,cZ m Z' b->((M b/\¬ cZ m Z b)\/cZ m Z' b)/\¬ a.own W b:=by
 show#[R.Ek (B:=cZ m Z) st.1 sp D.alive (λb z=>z.elim (λz=>.inl z.1) λz=>(st.2 b z).elim (λz=>.inl (sp b z).1) .inr) (λb z w=>.inl #[z,w]) (λb z e=>?_),λb z=>#[.inr z,?_]]
 .rcases z with z|z
  .cases G:H b with
   |none=>show R.mt b z.1 G
   |some u=>rwa[st.1 b u G z.2]at e
  .rcases I.alive b z with⟨_,h⟩|⟨_,h⟩
   .rw[e]at h;cases h
   .rw[e]at h;cases h
 .rcases st.2 b z with z|z
  .show(sp b z).2
  .show λw=>R.mt b (R.dG b w) z
theorem ku(D:cF H m tt pk Z)(sp:∀b,cZ m Z b->M b/\¬ a.own W b)(st:Step H M (a.own W) H' M' (a.own W')):cF H' m tt pk Z/\∀b,cZ m Z b->M' b/\¬ a.own W' b:=by
 show#[D.off st.off λb z=>(sp b z).2,λb z=>#[st.mm b (sp b z).1 (sp b z).2,λw=>?_]];rcases st.on b w with w|w
 .show(sp b z).2 w
 .rcases D.alive b z with⟨_,h⟩|⟨_,h⟩
  .rw[w]at h;cases h
  .rw[w]at h;cases h
theorem vF{α O:Type}{l:List (Int×α)}{G:List (Int×O)}(L:(l.map (·.1)).Nodup)(N:(G.map (·.1)).Nodup)(h:∀q,Tb.look l q=none↔Tb.look G q=none):(l.map (·.1)).Perm (G.map (·.1)):=by
 let I:∀{J:Type}{l:List (Int×J)}{q:Int},q∈l.map (·.1)↔¬ Tb.look l q=none:=λ{J l q}=>#[λh e=>Tb.cu e h,λh=>by
  cases e:Tb.look l q with
  |none=>show absurd e h
  |some a=>show qj.mpr #[_,Tb.aA e,rfl]]
 rw[SJ L N];intro q;rw[I,I,h q]
theorem Tw.look(T:Tw W Z)(t:Int):Tb.look W t=none↔Tb.look Z t=none:=by
 let h:=T.h t;unfold hW hZ at h;cases I:Tb.look W t with
 |none=>cases G:Tb.look Z t with
  |none=>show#[λ_=>rfl,λ_=>rfl]
  |some z=>rwa[I,G]at h
 |some x=>cases G:Tb.look Z t with
  |none=>rwa[I,G]at h
  |some z=>show#[nofun,nofun]
theorem Tw.oY(T:Tw W Z){t:Int}{x:TD}{z:MT}(J:Tb.look W t=some x)(L:Tb.look Z t=some z)(q:Int):Tb.look x.t q=none↔Tb.look z.pl q=none:=by
 let h:=T.e t q;rw[yS J,y8 L]at h;cases I:Tb.look x.t q with
 |none=>cases G:Tb.look z.pl q with
  |none=>show#[λ_=>rfl,λ_=>rfl]
  |some z=>rwa[I,G]at h
 |some x=>cases G:Tb.look z.pl q with
  |none=>rwa[I,G]at h
  |some z=>show#[nofun,nofun]
theorem Tw.get(T:Tw W Z){t:Int}{z:MT}(G:Tb.look Z t=some z):∃x,Tb.look W t=some x:=by
 cases e:Tb.look W t with
 |some x=>show#[x,rfl]
 |none=>rwa[(T.look t).mp e]at G
theorem DM{l G:List Int}(p:l.Perm G):l.sum=G.sum:=by
 induction p with
 |nil=>rfl
 |cons x _ I=>rw[QA,QA,I]
 |swap x y l=>rw[QA,QA,QA,QA];omega
 |trans _ _ J L=>show J.trans L
theorem Tw.len(T:Tw W Z)(R:ax c H M a s W)(D:cF H m tt pk Z){t:Int}{x:TD}{z:MT}(I:Tb.look W t=some x)(G:Tb.look Z t=some z):x.t.length=z.pl.length:=by
 have:=(vF (R.tb _ (Tb.aA I)).nd (D.np _ (Tb.aA G)) (T.oY I G)).length_eq;rw[mu,mu]at this;show this
theorem Tw.held(T:Tw W Z)(R:ax c H M a s W)(D:cF H m tt pk Z):AV Z=((ents W).length:Int):=by
 rw[<-pM];let p:=(vF R.nd D.nd T.look).symm;let q:=DM (p.map λt:Int=>(((Tb.look W t).map λx=>(x.t.length:Int)).getD 0));rw[Ql,Ql]at q;unfold AV heldW;rw[show(Z.map λx=>(x.2.pl.length:Int))=Z.map ((λt:Int=>(((Tb.look W t).map λx=>(x.t.length:Int)).getD 0))∘(·.1))from P6 λx G=>by
  let J:=Tb.bX D.nd G;let#[y,I]:=T.get J;change((x.2.pl.length:Nat):Int)=(((Tb.look W x.1).map λx=>(x.t.length:Int)).getD 0);rw[I, <-T.len R D I J];rfl]
 rw[q];show congrArg List.sum (P6 λx G=>?_);change(((Tb.look W x.1).map λx=>(x.t.length:Int)).getD 0)=(x.2.t.length:Int);rw[Tb.bX R.nd G];rfl
theorem kL{x:TD}{z:MT}{ad n:Int}(L:∀q,Tb.look x.t q=none↔Tb.look z.pl q=none):qB z.pl ad n↔¬ Rm.cD ad n (x.t.map (·.1)):=by
 let mk:∀q,q∈x.t.map (·.1)↔Tb.look z.pl q≠none:=λq=>by
  constructor
  .intro h e;show Tb.cu ((L q).mpr e) h
  .intro h;cases e:Tb.look x.t q with
   |none=>show absurd ((L q).mp e) h
   |some v=>show qj.mpr #[_,Tb.aA e,rfl]
 let pg:0<n->∀q,q∈Rm.aM (Rm.dX ad) (Rm.dW ad n)↔∃j:Nat,(j:Int)<n/\(ad+(j:Int))/8=q:=λG q=>by
  have:=fG (ad:=ad) (n:=n.toNat) (q:=q);unfold Rm.ay at this;rw[Xk af,Rh af]at this;rw[this];show#[λ⟨j,a,b⟩=>#[j,Rp W2 a,b],λ⟨j,a,b⟩=>#[j,Pn W2 a,b]]
 constructor
 .rintro h (w|⟨w,I⟩)
  .rcases h with h|h<;>omega
  .let#[_,Y,U,h2]:=h.resolve_left af;rcases I with I|I
   .unfold Rm.bq Rm.dX Rm.dW at I;omega
   .show I λq O=>(mk q).mpr ?_;let#[j,N,e]:=(pg w q).mp O;rw[<-e];show h2 j N
 .intro h;cases S:n=0
  .show .inl S
  let G:0<n:=by
   cases c:n<0
   .show absurd (.inl c) h
   .omega
  let np:¬ Rm.bq (Rm.dX ad) (Rm.dW ad n):=λw=>h (.inr #[G,.inl w]);let al:∀q∈Rm.aM (Rm.dX ad) (Rm.dW ad n),q∈x.t.map (·.1):=by
   cases w:∀q∈Rm.aM (Rm.dX ad) (Rm.dW ad n),q∈x.t.map (·.1)
   .show w
   .show absurd (.inr #[G,.inr w]) h
  let R:¬ Rm.dX ad<0:=λz=>np (.inr (.inl z));let J:¬ 64<Rm.dX ad+Rm.dW ad n:=λz=>np (.inr (.inr z));unfold Rm.dX at R J;unfold Rm.dW at J;show .inr #[G,af,af,λi hi=>(mk _).mp (al _ ((pg G _).mpr #[i,hi,rfl]))]
theorem Kk(T:Tw W Z)(R:ax c H M a s W)(D:cF H m tt pk Z){Dd:Dd}(ok:sQ Dd)(f:Dg Z (bL s) Dd):uY W (bL s) Dd:=by
 let O:=T.held R D;cases Dd with
 |begin t=>show(T.look t).mpr f
 |close t=>let#[z,G]:=f;show T.get G
 |map t p S =>
  let#[z,G,J,L,U]:=f;let#[x,I]:=T.get G;show#[x,I,J,λq N=>(T.oY I G q).mpr (L q N),by rw[<-O];show U]
 |drop t p S =>
  let#[z,G,J,L]:=f;let#[x,I]:=T.get G;show#[x,I,J,λq N w=>L q N ((T.oY I G q).mp w)]
 |peek t ad n =>
  let#[z,G,J]:=f;let#[x,I]:=T.get G;let#[k,rfl]:=J.nat;show#[x,I,k,rfl,(kL (T.oY I G)).mp J,ok.2.1,ok.2.2.1,by have:=ok.2.2.2.2;omega]
 |poke t ad Y cs =>
  let#[z,G,J]:=f;let#[x,I]:=T.get G;show#[x,I,(kL (T.oY I G)).mp J,ok.2.1,ok.2.2.1,ok.2.2.2]
 |copy t o =>
  let#[z,G,J,L]:=f;let#[x,I]:=T.get G;show#[x,I,(T.look o).mpr J,by rw[<-O,T.len R D I G];show L]
def KW(xa:XA)(W:dq)(tt:Int)(D:Dd)(C:Addr):Prop:=match D with
 |.begin t=>(∃x,Tb.look W t=some x)/\C=xa.tk
 |.close t=>Tb.look W t=none/\C=xa.nt
 |.map t p m=>Gq xa W tt t p m C
 |.drop t p m=>BH xa W t p m C
 |.copy t o=>Ci xa W tt t o C
 |.peek t ad n=>nv xa W t ad n C
 |.poke t ad _ cs=>nv xa W t ad cs.length C
def wd(xa:XA)(r:Str)(C:Addr):Prop:=(r = "NoTask" /\ C=xa.nt)\/(r = "NoPage" /\ C=xa.np)\/(r = "NoRoom" /\ C=xa.nr)\/(r = "Taken" /\ C=xa.tk)
theorem N0(xa:XA)(T:Tw W Z)(R:ax c H M a s W)(D:cF H m tt pk Z){Dd:Dd}{r:Str}(hz:AV Z<=800000)(f:Gj Z (bL s) Dd r):∃C,wd xa r C/\KW xa W (bL s) Dd C:=by
 let O:=T.held R D;let lo:∀{t},Tb.look Z t=none->Tb.look W t=none:=λ{t} h=>(T.look t).mpr h;cases Dd with
 |begin t =>
  let#[rfl,h]:=f;show#[xa.tk,.inr (.inr (.inr #[1])),?_,rfl];let#[z,e]:=SK.mp h;show T.get e
 |close t =>
  let#[rfl,h]:=f;show#[xa.nt,.inl #[1],lo h,rfl]
 |map t p U =>
  rcases f with⟨rfl,h⟩|⟨z,I,f⟩
  .show#[xa.nt,.inl #[1],.inl #[lo h,rfl]]
  let#[x,G]:=T.get I;rcases f with⟨rfl,J⟩|⟨rfl,J,q,L,N⟩|⟨rfl,J,L,N⟩
  .show#[xa.np,.inr (.inl #[1]),.inr #[x,G,.inl #[J,rfl]]]
  .show#[xa.tk,.inr (.inr (.inr #[1])),.inr #[x,G,.inr (.inl #[J,#[q,L,λw=>N ((T.oY G I q).mp w)],rfl])]]
  .show#[xa.nr,.inr (.inr (.inl #[1])),.inr #[x,G,.inr (.inr #[J,λq S=>(T.oY G I q).mpr (L q S),by rw[<-O];show N,rfl])]]
 |drop t p U =>
  rcases f with⟨rfl,h⟩|⟨z,I,rfl,f⟩
  .show#[xa.nt,.inl #[1],.inl #[lo h,rfl]]
  let#[x,G]:=T.get I;show#[xa.np,.inr (.inl #[1]),.inr #[x,G,?_,rfl]];rcases f with f|⟨q,L,N⟩
  .show .inl f
  .show .inr #[q,L,(T.oY G I q).mpr N]
 |copy t o =>
  rcases f with⟨rfl,h⟩|⟨z,I,f⟩
  .show#[xa.nt,.inl #[1],.inl #[lo h,rfl]]
  let#[x,G]:=T.get I;let l:=T.len R D G I;let ab:z.pl.length<=64:=D.len (Tb.aA I);rcases f with⟨rfl,J⟩|⟨rfl,J,L⟩
  .show#[xa.tk,.inr (.inr (.inr #[1])),.inr #[x,G,.inl #[λw=>J ((T.look o).mp w),rfl]]]
  .show#[xa.nr,.inr (.inr (.inl #[1])),.inr #[x,G,.inr #[lo J,by rw[<-O,l];show L,af,rfl]]]
 |peek t ad n =>
  rcases f with⟨rfl,h⟩|⟨z,I,rfl,f⟩
  .show#[xa.nt,.inl #[1],.inl #[lo h,rfl]]
  let#[x,G]:=T.get I;show#[xa.np,.inr (.inl #[1]),.inr #[x,G,PL λw=>f ((kL (T.oY G I)).mpr w),rfl]]
 |poke t ad Y cs =>
  rcases f with⟨rfl,h⟩|⟨z,I,rfl,f⟩
  .show#[xa.nt,.inl #[1],.inl #[lo h,rfl]]
  let#[x,G]:=T.get I;show#[xa.np,.inr (.inl #[1]),.inr #[x,G,PL λw=>f ((kL (T.oY G I)).mpr w),rfl]]
end
end Lw
namespace L2
theorem Jt{t u:qD}{D:Ends}{R:XR}{σ:St}{H:Hp}(G:St->Hp->Prop)(mk:∀I,(∀σ H,G σ H->I D R σ H)->yH t I D R σ H)(h:∀σ H,G σ H->u D R σ H):yH t u D R σ H:=mk u h
end L2
namespace Lw
open PySem L2 St
structure KitX(P:se)(w:G1)(K:HC)(mg:Xq)(base:Heap)(c:CA)(xa:XA):Prop where
 LC:⇑Md 2 c.C "begin" (lW c xa)
 Mg:⇑Md 2 c.C "close" (lS c xa)
 MU:⇑Md 4 c.C "map" (si c xa)
 My:⇑Md 3 c.C "drop" (pC c xa)
 MG:⇑Md 5 c.C "copy" (qp c xa)
 Jx:⇑Md 3 c.C "peek" (qm c xa)
 LW:⇑Md 3 c.C "poke" (p5 K c xa)
inductive mi(c:CA)(xa:XA)(v:List V)(H:Hp)(Q:VK)(e:XK):Prop
 |mk(M:Xm)(a:RA)(s:Pg.PS)(W:dq)(d:Addr)(D:Dd)(C:Addr)(_:v=[.ref a.rp,.ref d])(_:ax c H M a s W)(_:W.length<=1000)(_:(ents W).length<=900000)(_:iV H d D)(_:sQ D)(_:KW xa W (bL s) D C)(_:∀(H':Hp),aP H H'->e (.ref C) none H')
theorem wM{c:CA}{xa:XA}(F:cE K "_law_called" "_law_called" nD f fd)(T:mY K mg c)(M:KitX P w K mg base c xa):⇑aV 6 f fd ["_law_kept","_law_deed_here"] (mi c xa):=by
 show F.jL zv (λas A outer s H vs Q E Y h=>?_);let#[U,a,s',W,d,D,C,rfl,R,lw,le,hd,ok,fi,q]:=h;show#[_,(aH (dA (cU (cJ jz (pv 1) eg (cN ak)) (dU rfl (bj (gH 2 zv.nd) (bj (gH 3 zv.nd) de)))))
  (aH (dF (aD bH (pv 2) aF (aG _)) (bO (iB (IY (pv 0) T.cl M.LC Y (aa (pv 3) ag)))) cj)
  (aH (dF (aD bH (pv 2) aF (aG _)) (bO (iB (IY (pv 0) T.cl M.Mg Y (aa (pv 3) ag)))) cj)
  (aH (dF (aD bH (pv 2) aF (aG _)) (bO (iB (IY (pv 0) T.cl M.MU Y (aa (pv 3) (aa (aY bf (pv 1) ak cz) (aa (aY bf (pv 1) ak cz) ag)))))) cj)
  (aH (dF (aD bH (pv 2) aF (aG _)) (bO (iB (IY (pv 0) T.cl M.My Y (aa (pv 3) (aa (aY bf (pv 1) ak cz) (aa (aY bf (pv 1) ak cz) ag)))))) cj)
  (aH (dF (aD bH (pv 2) aF (aG _)) (bO (iB (IY (pv 0) T.cl M.MG Y (aa (pv 3) (aa (aY bf (pv 1) ak cz) ag))))) cj)
  (aH (dF (aD bH (pv 2) aF (aG _)) (bO (iB (IY (pv 0) T.cl M.Jx Y (aa (pv 3) (aa (aY bf (pv 1) ak cz) (aa (aY bf (pv 1) ak cz) ag)))))) cj)
  (bO (iB (IY (pv 0) T.cl M.LW Y (aa (pv 3) (aa (aY bf (pv 1) ak cz) (aa (aY bf (pv 1) ak cz) ag))))))))))))),?_]
 show Jt (λσ H1=>aP H H1/\σ=#v[.ref a.rp,.ref d,.str (jV D),.int (Er D)]) (λu' am=>?A) ?B
 case A =>
  show#[0,0,d,0,bP.of hd.1,λc=>?_,λ_ p hp=>?_]
  .show#[d,0,bP.of hd.1,by rw[xq c];rfl,by rw[xq c];show#[_,0,_,0,rfl,am _ _ #[aP.refl H,rfl]]]
  .rw[Ew];show#[p,0,bP.of ae,4,0,_,0,rfl,am _ _ #[Tb.av hp,rfl]]
 case B =>
 rintro σ H1 ⟨s1,rfl⟩;let L:=R.same s1;let J:H1 d=some (.tup (qv D)):=s1 _ _ hd.1;let#[dx,N]:=L.ob;let no:∀mm:Str,¬ mm = "rooms" -> ¬ mm = "total" -> ¬ mm = "paging" -> (fJ a.A.pg (bL s') a.rd).lookup mm=none:=λmm=>gc _ _ _;let S:∀H2,aP H1 H2->E (.ref C) none H2:=λH2 s2=>q H2 (s1.trans s2);cases D with
 |begin t =>
  let#[#[x,hx],rfl]:=fi;show cK λ_ I G=>?_;show eqT (cO rfl) cQ rfl (I _ ?_);show#[0,a.rp,dx,0,N,no "begin" aq aq aq,0,U,a,s',W,t,x,rfl,L,ok,hx,S H1 (aP.refl _)]
 |close t =>
  let#[hx,rfl]:=fi;show cK λ_ I G=>?_;show iQ (cO rfl) cQ rfl bD (G _ ?_);show cK λ_ I G=>?_;show eqT (cO rfl) cQ rfl (I _ ?_);show#[0,a.rp,dx,0,N,no "close" aq aq aq,0,U,a,s',W,t,rfl,L,ok,hx,S H1 (aP.refl _)]
 |map t p m =>
  let#[O,ac,ah,ab,ap]:=ok;show cK λ_ I G=>?_;show iQ (cO rfl) cQ rfl bD (G _ ?_);show cK λ_ I G=>?_;show iQ (cO rfl) cQ rfl bD (G _ ?_);show cK λ_ I G=>?_;show eqT (cO rfl) cQ rfl (I _ ?_);show#[0,a.rp,dx,0,N,no "map" aq aq aq,0,0,d,2,.int p,1,bP.of J,rfl,0,d,2,.int m,1,bP.of J,rfl,U,a,s',W,t,p,m,C,rfl,L,lw,le,O,kf af af,kf af af,fi,S]
 |drop t p m =>
  let#[O,ac,ah,ab,ap]:=ok;show cK λ_ I G=>?_;show iQ (cO rfl) cQ rfl bD (G _ ?_);show cK λ_ I G=>?_;show iQ (cO rfl) cQ rfl bD (G _ ?_);show cK λ_ I G=>?_;show iQ (cO rfl) cQ rfl bD (G _ ?_);show cK λ_ I G=>?_;show eqT (cO rfl) cQ rfl (I _ ?_);show#[0,a.rp,dx,0,N,no "drop" aq aq aq,0,0,d,2,.int p,1,bP.of J,rfl,0,d,2,.int m,1,bP.of J,rfl,U,a,s',W,t,p,m,C,rfl,L,O,kf af af,kf af af,fi,S]
 |copy t o =>
  show cK λ_ I G=>?_;show iQ (cO rfl) cQ rfl bD (G _ ?_);show cK λ_ I G=>?_;show iQ (cO rfl) cQ rfl bD (G _ ?_);show cK λ_ I G=>?_;show iQ (cO rfl) cQ rfl bD (G _ ?_);show cK λ_ I G=>?_;show iQ (cO rfl) cQ rfl bD (G _ ?_);show cK λ_ I G=>?_;show eqT (cO rfl) cQ rfl (I _ ?_);show#[0,a.rp,dx,0,N,no "copy" aq aq aq,0,0,d,2,.int o,1,bP.of J,rfl,U,a,s',W,t,o,C,rfl,L,lw,ok.1,ok.2,fi,S]
 |peek t ad n =>
  let#[O,ac,ah,ab,ap]:=ok;show cK λ_ I G=>?_;show iQ (cO rfl) cQ rfl bD (G _ ?_);show cK λ_ I G=>?_;show iQ (cO rfl) cQ rfl bD (G _ ?_);show cK λ_ I G=>?_;show iQ (cO rfl) cQ rfl bD (G _ ?_);show cK λ_ I G=>?_;show iQ (cO rfl) cQ rfl bD (G _ ?_);show cK λ_ I G=>?_;show iQ (cO rfl) cQ rfl bD (G _ ?_);show cK λ_ I G=>?_;show eqT (cO rfl) cQ rfl (I _ ?_);show#[0,a.rp,dx,0,N,no "peek" aq aq aq,0,0,d,2,.int ad,1,bP.of J,rfl,0,d,2,.int n,1,bP.of J,rfl,U,a,s',W,t,ad,n,C,rfl,L,O,kf af af,kf (by unfold Rm.dX;omega) (by unfold Rm.dX;omega),kf (by unfold Rm.dW;omega) (by unfold Rm.dW;omega),fi,S]
 |poke t ad ca cs =>
  let#[O,ac,ah,ab]:=ok;show cK λ_ I G=>?_;show iQ (cO rfl) cQ rfl bD (G _ ?_);show cK λ_ I G=>?_;show iQ (cO rfl) cQ rfl bD (G _ ?_);show cK λ_ I G=>?_;show iQ (cO rfl) cQ rfl bD (G _ ?_);show cK λ_ I G=>?_;show iQ (cO rfl) cQ rfl bD (G _ ?_);show cK λ_ I G=>?_;show iQ (cO rfl) cQ rfl bD (G _ ?_);show cK λ_ I G=>?_;show iQ (cO rfl) cQ rfl bD (G _ ?_);show#[0,a.rp,dx,0,N,no "poke" aq aq aq,0,0,d,2,.int ad,1,bP.of J,rfl,0,d,2,.ref ca,1,bP.of J,rfl,U,a,s',W,t,ad,ca,cs,C,rfl,L,bw.of (s1 _ _ (hd.2 _ _ _ _ rfl)),O,kf af af,kf (by unfold Rm.dX;omega) (by unfold Rm.dX;omega),kf (by unfold Rm.dW;omega) (by unfold Rm.dW;omega),fi,S]
end Lw
namespace L2
open PySem PySem.Spec PyProof.Rows
theorem oq:∀{bs:List Bool}{us:Xu},Vals (bs.map V.bl) us->us=bs.map Value.bool
 | [],_,h=>by cases h;rfl
 |b::bs,_,h=>by
  cases h with
  |cons a r=>rw[oq r];cases a;rfl
section
variable{X:Cx}
inductive zi(x:V)(vs:List V)(H:Hp)(Q:VK):Prop
 |mk(l:Addr)(bs:List Bool)(_:x=.ref l)(_:vs=[.bl true])(_:H l=some (.lst (bs.map V.bl)))(_:Q (.int (bs.countP id:Nat)) H)
theorem zz:EA X "list.count" zi:=by
 intros x vs v us Q I O R h;let#[l,bs,rfl,rfl,N,q]:=h;cases O;let#[u,rfl,L]:=R.one;cases L;let#[z,its,n,r,S,e]:=I.lL N;let J:=oq r;show QD Ur #[_,e,rfl] PySem.F.entry_list_count (PySem.F.args_list_count_2 _ _) (SeqAt.list_countAt l its.toArray n none ([].toArray) (.bool true) (Wy true)) #[e,λy G=>?_,?_]
 .let G:y∈its:=‹G›;rw[J]at G;let#[b,_,rfl]:=qj.mp G;show RV b true
 .have:its.toArray.toList.countP (Wy true)=bs.countP id:=by
   change its.countP (Wy true)=_;rw[J,List.countP_map];show List.countP_congr λb _=>by cases b<;>rfl
  rw[this];show#[.int (bs.countP id:Nat),H,I.tok _,#[0],q]
inductive zk(x:V)(vs:List V)(H:Hp)(Q:VK):Prop
 |mk(l:Addr)(bs:List Bool)(j:Nat)(_:x=.ref l)(_:vs=[.bl true])(_:H l=some (.lst (bs.map V.bl)))(_:bs[j]?=some true)(_:∀i,i<j->bs[i]?=some false)(_:j<1000)(_:Q (.int (j:Nat)) H)
theorem AG:EA X "list.index" zk:=by
 intros x vs v us Q I rx rv h;let#[l,bs,j,rfl,rfl,R,h1,h2,h3,q]:=h;cases rx;let#[u,rfl,ru]:=rv.one;cases ru;let#[z,its,n,r,hl,e]:=I.lL R;let J:=oq r;let at_:∀(i:Nat)(hi:i<its.toArray.size)(b:Bool),bs[i]?=some b->its.toArray[i]=Value.bool b:=λi hi b Y=>by
  have:its[i]?=some (Value.bool b):=(by rw[J,t5,Y];rfl);let N:its.toArray[i]?=some (Value.bool b):=‹this›;rw[Array.getElem?_eq_getElem hi]at N;show rn N
 let U:its.length=bs.length:=(by rw[J,mu]);let L:j<its.toArray.size:=(by rw[qi,U];show(kQ.mp h1).1);show QD Sa #[_,e,rfl] Tp (SM _ _)
  (U6 l its.toArray n none ([].toArray) (.bool true) (Wy true) j L af ?_ ?_) #[e,λy G=>?_,#[.int (j:Nat),H,I.tok _,#[0],q]]
 .rw[at_ j L true h1];rfl
 .intro m S O;rw[at_ m S false (h2 m O)];rfl
 .let G:y∈its:=‹G›;rw[J]at G;let#[b,_,rfl]:=qj.mp G;show RV b true
end
end L2
namespace Lw
open PySem L2 St
abbrev Bj:Ow:=top 46
theorem KS:OD "ValueError" = some (.type "ValueError"):=aq
structure NQ(K:HC)(mg:Xq)(xa:XA)(cKE:Addr):Prop where
 nt:mg "NoTask" = some (.ref xa.nt)
 np:mg "NoPage" = some (.ref xa.np)
 nr:mg "NoRoom" = some (.ref xa.nr)
 tk:mg "Taken" = some (.ref xa.tk)
 ve:mg "ValueError" = none
 ke:mg "KernelError" = some (.ref cKE)
 xc:∀r C,wd xa r C->PySem.W.Ax K C
 ex:∀r C,wd xa r C->exmOne K (.ref C) (.ref cKE)=some true
 kv:∀r C,wd xa r C->IF K (.ref C) (.type "ValueError")=some true
 k1:∀r C,wd xa r C->IF K (.ref C) (.ref xa.nt)=some (decide (r = "NoTask"))
 k2:∀r C,wd xa r C->IF K (.ref C) (.ref xa.np)=some (decide (r = "NoPage"))
 k3:∀r C,wd xa r C->IF K (.ref C) (.ref xa.nr)=some (decide (r = "NoRoom"))
 k4:∀r C,wd xa r C->IF K (.ref C) (.ref xa.tk)=some (decide (r = "Taken"))
def Gi(r:Str):List Bool:=[decide (r = "NoTask"),decide (r = "NoPage"),decide (r = "NoRoom"),decide (r = "Taken")]
theorem La{xa:XA}{r:Str}{C:Addr}(h:wd xa r C):∃j:Nat,(Gi r)[j]?=some true/\(∀i,i<j->(Gi r)[i]?=some false)/\(Gi r).countP id=1/\j<4/\AW [V.str "NoTask",.str "NoPage",.str "NoRoom",.str "Taken"] (j:Int)=some (.str r):=by
 rcases h with⟨rfl,_⟩|⟨rfl,_⟩|⟨rfl,_⟩|⟨rfl,_⟩
 .show#[(0),aq,aq,aq,ar,rfl]
 .show#[(1),aq,aq,aq,ar,rfl]
 .show#[(2),aq,aq,aq,ar,rfl]
 .show#[(3),aq,aq,aq,ar,rfl]
theorem DN{D:Dd}{cv:Xn}{H0 H H' H2:Hp}{v:V}(s:aP H0 H)(s2:aP H' H2)(h:FQ D cv H H' v):FQ D cv H0 H2 v:=by
 cases D with
 |peek t ad n=>let#[l,e,a,b]:=h;show#[l,e,s.free a,s2 _ _ b]
 |_=>show trivial
theorem Cm{c:CA}{a:RA}{D:Dd}{H0 H H':Hp}{M M':Xm}{s':Pg.PS}{W W':dq}{v:V}{T:Addr}{x:HO}(S:Step H0 M (a.own W) H M (a.own W))(J:H' T=none)(h:LJ c a D H H' M M' s' W W' v):LJ c a D H0 (upd H' T x) M M' s' W W' v:=by
 cases D with
 |peek t ad n =>
  let#[l,e,L,I]:=h;let ne:l≠T:=λz=>L (by rw[z];show J);show#[l,e,by rw[ai ne];show L,λo=>?_];let N:aP (upd H' l o) (upd (upd H' T x) l o):=λb u G=>by
   cases z:b=l
   .rw[z,ae]at G ⊢;show G
   .rw[ai z]at G ⊢;rw[ai (au G J)];show G
  show#[(I o).1.same N,S.trans ((I o).2.trans ((I o).1.gv N))]
 |_=>show trivial
inductive tU(c:CA)(xa:XA)(vs:List V)(H:Hp)(Q:VK)(e:XK):Prop
 |fine (M:Xm) (a:RA) (s:Pg.PS) (W:dq) (cv:Xn) (d:Addr) (D:Dd) (_:vs=[.ref a.rp,.ref d]) (_:ax c H M a s W) (_:Pg.RI s (ents W)) (_:Cv s W cv) (_:W.length<=1000) (_:iV H d D) (_:uY W (bL s) D) (_:∀(H':Hp)(M':Xm)(s':Pg.PS)(W':dq)(cv':Xn)(v:V)(T:Addr),ax c H' M' a s' W'->Pg.RI s' (ents W')->(Cv s' W' cv'/\cv'=iJ D cv/\FQ D cv H H' v/\LJ c a D H H' M M' s' W W' v)->Step H M (a.own W) H' M' (a.own W')->(∀b,(s'.ow b).length=(s.ow b).length)->W'.length<=W.length+1->mT D (hW W) (hW W')->mQ none (λx=>∃k,x=some k) D (eW W) (eW W')->H' T=some (.tup [.str "",v])->Q (.ref T) H'):tU c xa vs H Q e
 |no(M:Xm)(a:RA)(s:Pg.PS)(W:dq)(d:Addr)(D:Dd)(r:Str)(C:Addr)(_:vs=[.ref a.rp,.ref d])(_:ax c H M a s W)(_:W.length<=1000)(_:(ents W).length<=900000)(_:iV H d D)(_:sQ D)(_:wd xa r C)(_:KW xa W (bL s) D C)(_:∀(H':Hp)(T:Addr),aP H H'->H' T=some (.tup [.str r,.non])->Q (.ref T) H'):tU c xa vs H Q e
theorem lH:aE ["_law_kept","_law_deed_here","_law_told","_law_error","caught","_law_names"] ["_law_kept","_law_deed_here"] (aw Bj):=L2.bN
theorem Fw{aB:Addr}{c:CA}{xa:XA}(F:cE K "_law_word" "_law_word" Bj f fd)(T:mS mg)(G:NQ K mg xa aB)(a7:↥Df 11 "_law_called" (qf c))(a4:⇑Df 6 "_law_called" (mi c xa)):↥aV 12 f fd ["_law_kept","_law_deed_here"] (tU c xa):=by
 show F.dS lH (λbc A outer s H vs Q E hr h=>?_);let hs:=vl;obtain⟨MM,a,s',W,cv,d,D,rfl,R,ri,ba,Y,hd,fi,q⟩|⟨MM,a,s',W,d,D,r,C,rfl,R,Y,le,hd,ok,I,fi,q⟩:=h
 .show#[_,(aj (cU (cI (aa fZ (aa fZ ag))) (dU rfl (bj (gH 2 lH.nd) (bj (gH 3 lH.nd) de))))
  (aj (BX rfl rfl rfl rfl G.ke lH.nd (i:=4) rfl rfl (E7 (ao (dt 2 lH.nd (pc a7 hr aC (aa (pv 0) (aa (pv 1) ag)))))) (λ_=>(ao (dt 3 lH.nd (pv 4)))))
  (aj (aU (aD CL (pv 3) fZ (aG _)) (ao (aK (cI (aa aF (aa (pv 2) ag))))) aI) dh))),?_]
  show#[dZ,λt0 h0=>#[t0,0,bP.of ae,4,0,_,0,5]];let s0:=Tb.av (X:=.tup [V.non,V.non]) h0;let R0:=R.same s0;let S0:=R.gv s0;let ah:iV _ d D:=#[s0 _ _ hd.1,λt ad cc cs e=>s0 _ _ (hd.2 t ad cc cs e)];show#[0,0,MM,a,s',W,cv,d,D,rfl,R0,ri,ba,Y,ah,fi,λH1 M1 s1 W1 ap v R1 bb O a1 a6 a0 h1 e1=>?_];show#[0,rfl,0,eS ?_];show#[0,dZ,λT1 L=>?_];let sT:=Tb.av (X:=.tup [V.str "",v]) L;show q _ M1 s1 W1 ap v T1 (R1.same sT) bb #[O.1,O.2.1,DN s0 sT O.2.2.1,Cm S0 L O.2.2.2] (S0.trans (a1.trans (R1.gv sT))) a6 a0 h1 e1 ae
 .show#[_,(aj (cU (cI (aa fZ (aa fZ ag))) (dU rfl (bj (gH 2 lH.nd) (bj (gH 3 lH.nd) de))))
  (aj (BX rfl rfl rfl rfl G.ke lH.nd (i:=4) rfl rfl (bO (AR 2 lH.nd (qQ a4 hr (aa (pv 0) (aa (pv 1) ag))))) (λ_=>(ao (dt 3 lH.nd (pv 4)))))
  (aj (aU (aD CL (pv 3) fZ (aG _)) (ao (aK (cI (aa aF (aa (pv 2) ag))))) aI)
  (aj (dt 5 lH.nd (bV (aa (aQ iS (by rfl) T.wC bB (aa (pv 3) (aa (bM (v:=.ref xa.nt) (by rfl) G.nt rfl) ag))) (aa (aQ iS (by rfl) T.wC bB (aa (pv 3) (aa (bM (v:=.ref xa.np) (by rfl) G.np rfl) ag))) ag))))
  (aj (dt 5 lH.nd (az um (pv 5) (bV (aa (aQ iS (by rfl) T.wC bB (aa (pv 3) (aa (bM (v:=.ref xa.nr) (by rfl) G.nr rfl) ag))) (aa (aQ iS (by rfl) T.wC bB (aa (pv 3) (aa (bM (v:=.ref xa.tk) (by rfl) G.tk rfl) ag))) ag)))))
  (aj (aU (PW.pt (ie (aD Du (gq OM Ur TM zz (pv 5) (aa kS ag)) ak (aG _)) (gO (sG (gu (aQ iS (by rfl) T.wC bB (aa (pv 3) (aa (fB (v:=.ty "ValueError") (by rfl) G.ve KS rfl) ag)))))))) (ao (aK (cI (aa aF (aa fZ ag))))) aI)
  (ao (aK (cI (aa (aY cn (bV (aa aF (aa aF (aa aF (aa aF ag))))) (gq OM Sa TL AG (pv 5) (aa kS ag)) cz) (aa fZ ag))))))))))),?_]
  show#[dZ,λt0 h0=>#[t0,0,bP.of ae,4,0,_,0,5]];let s0:=Tb.av (X:=.tup [V.non,V.non]) h0;let R0:=R.same s0;let ah:iV _ d D:=#[s0 _ _ hd.1,λt ad cc cs e=>s0 _ _ (hd.2 t ad cc cs e)];show#[0,0,MM,a,s',W,d,D,C,rfl,R0,Y,le,ah,ok,fi,λH1 s1=>#[G.ex _ _ I,λe he=>?_]];let s2:aP H (upd H1 e (xo e (.ref C))):=s0.trans (s1.trans (Tb.av he));let ac:upd H1 e (xo e (.ref C)) e=some (xo e (.ref C)):=ae;generalize upd H1 e (xo e (.ref C))=H2 at *;let#[j,j1,j2,j3,j4,j5]:=La I;let J:=G.xc _ _ I;show#[0,?_];show#[0,rfl,0,?_];rw[decide_eq_false (λz=>by cases z)];show b9 ?_;show#[0,e,C,2,0,.inl #[0,rfl],J,ac,G.k1 _ _ I,?_];show#[0,e,C,2,0,.inl #[0,rfl],J,ac,G.k2 _ _ I,dZ,λU a3=>?_];let s3:=Tb.av (X:=.lst [V.bl (decide (r = "NoTask")),V.bl (decide (r = "NoPage"))]) a3;let h3:upd H2 U (.lst [V.bl (decide (r = "NoTask")),V.bl (decide (r = "NoPage"))]) U=some (.lst [V.bl (decide (r = "NoTask")),V.bl (decide (r = "NoPage"))]):=ae;let ab:=s3 _ _ ac;generalize upd H2 U (.lst [V.bl (decide (r = "NoTask")),V.bl (decide (r = "NoPage"))])=H3 at *;show#[0,?_];show#[0,e,C,2,0,.inl #[0,rfl],J,ab,G.k3 _ _ I,?_];show#[0,e,C,2,0,.inl #[0,rfl],J,ab,G.k4 _ _ I,dZ,λN aT=>?_];let s4:=Tb.av (X:=.lst [V.bl (decide (r = "NoRoom")),V.bl (decide (r = "Taken"))]) aT;let h4:upd H3 N (.lst [V.bl (decide (r = "NoRoom")),V.bl (decide (r = "Taken"))]) N=some (.lst [V.bl (decide (r = "NoRoom")),V.bl (decide (r = "Taken"))]):=ae;let a8:=s4 _ _ ab;let am:=s4 _ _ h3;generalize upd H3 N (.lst [V.bl (decide (r = "NoRoom")),V.bl (decide (r = "Taken"))])=H4 at *;show#[U,N,_,0,rfl,am,h4,uI,λS a5=>?_];let s5:=Tb.av (X:=.lst ((Gi r).map V.bl)) a5;let h5:upd H4 S (.lst ((Gi r).map V.bl)) S=some (.lst ((Gi r).map V.bl)):=ae;let a2:=s5 _ _ a8;let S5:=s2.trans (s3.trans (s4.trans s5));show#[0,.inl #[4,bw.of h5],S,Gi r,1,h5,rfl,0,?_];rw[j3];show b9 ?_;show#[0,e,C,2,0,.inr #[0,rfl],J,a2,G.kv _ _ I,true,rfl,b9 ?_];show#[uI,λl4 as=>?_];let s6:=Tb.av (X:=.lst [V.str "NoTask",.str "NoPage",.str "NoRoom",.str "Taken"]) as;let h6:=s6 _ _ h5;show#[0,.inl #[4,bw.of h6],S,Gi r,j,1,h6,j1,j2,af,l4,2,.str r,1,bw.of ae,j5,dZ,λT1 L=>?_];show q _ T1 (S5.trans (s6.trans (Tb.av L))) ae
abbrev DE:Ow:=top 39
abbrev wK:Ow:=top 49
inductive ye(v:List V)(H:Hp)(Q:VK)(e:XK):Prop
 |mk(n:Int)(tl:Addr)(ts:List Int)(_:v=[.int n,.ref tl])(_:H tl=some (.lst (ts.map V.int)))(_:0<ts.length)(_:ts.length<=5)(_:∀t∈ts,lg t)(_:∀(H':Hp)(d:Addr)(D:Dd),aP H H'->iV H' d D->sQ D->(∀t ad c cs,D=.poke t ad c cs->H c=none)->H d=none->Q (.ref d) H')
inductive uh(v:List V)(H:Hp)(Q:VK)(e:XK):Prop
 |mk(n:Int)(_:v=[.int n])(_:∀(H':Hp)(l:Addr)(ts:List Int),aP H H'->H l=none->H' l=some (.lst (ts.map V.int))->(∃r,ts=1::2::r)->ts.length<=5->(∀t∈ts,lg t)->Q (.ref l) H')
theorem Bd{n:Int}(h1 : -(10^60)<=n)(h2:n<=10^60):lg n:=by
 unfold lg;cases z:n.natAbs=0
 .rw[z];decide
 .rw[log2_lt z];show Qh (show n.natAbs<=10^60 by omega) aq
theorem FY:aE ["_law_m","_law_tasks_here","_law_kind","_law_rest","_law_task","_law_address"] ["_law_m","_law_tasks_here"] (aw DE):=L2.bN
theorem F2(F:cE K "_law_deed" "_law_deed" DE f fd)(T:mS mg)(aT:↥Df 1 "_law_cells" ma):↥aV 2 f fd ["_law_m","_law_tasks_here"] ye:=by
 show F.dS FY (λa0 A outer s H vs Q E hr h=>?_);let#[n,tl,ts,rfl,ah,l0,l5,lt,k]:=h;let hs:=vl;show#[_,(aj (Ih (i:=2) (j:=3) rfl FY.nd rfl rfl ar rfl rfl (aa (az br (pv 0) ak) (aa (az bo (az bo (pv 0) ak) (aQ bF (by rfl) T.len boot_len (aa (pv 1) ag))) ag)) rfl)
  (aj (dt 4 FY.nd (aY cn (pv 1) (az br (az bo (pv 0) ak) (aQ bF (by rfl) T.len boot_len (aa (pv 1) ag))) cz))
  (aj (aU (aD fP (pv 2) ak (aG _)) (ao (aK (cI (aa (aY cn (bV (aa aF (aa aF ag))) (az fY (pv 2) (bU fq (by rfl) T.int ja (aa (kK bH (az br (pv 3) ak) ak (aG _)) ag))) cz) (aa (pv 4) ag))))) aI)
  (aj (aU (aD fP (pv 2) ak (aG _)) (ao (aK (cI (aa aF (aa (pv 4) (aa (az fW (az br (pv 3) ak) ak) (aa (aY cn (bV (aa (az br (az bo (pv 3) ak) ak) (aa (az fW (az br (az bo (pv 3) ak) ak) ak) ag))) (az br (az bo (pv 3) ak) ak) cz) ag))))))) aI)
  (aj (aU (aD bH (pv 2) ak (aG _)) (ao (aK (cI (aa aF (aa (pv 4) (aa (az fW (az br (pv 3) ak) ak) (aa (az br (az bo (pv 3) ak) ak) ag))))))) aI)
  (aj (aU (aD bH (pv 2) ak (aG _)) (ao (aK (cI (aa aF (aa (pv 4) (aa (aY cn (pv 1) (az br (pv 3) (aQ bF (by rfl) T.len boot_len (aa (pv 1) ag))) cz) ag)))))) aI)
  (aj (dt 5 FY.nd (aY cn (bV (aa (az br (pv 3) ak) (aa (az fW (az br (pv 3) ak) ak) ag))) (az br (az bo (pv 3) ak) ak) cz))
  (aj (aU (aD fP (pv 2) ak (aG _)) (ao (aK (cI (aa aF (aa (pv 4) (aa (pv 5) (aa (aY cn (bV (aa (az br (az bo (pv 3) ak) ak) (aa (az fW (az br (az bo (pv 3) ak) ak) ak) ag))) (az br (az bo (pv 3) ak) ak) cz) ag))))))) aI)
  (ao (aK (cI (aa aF (aa (pv 4) (aa (pv 5) (aa (pc aT hr aC (aa (az bo (pv 3) ak) (aa (az br (az bo (pv 3) ak) ak) ag))) ag))))))))))))))),?_]
 let ll:((ts.map V.int).length:Int)=(ts.length:Int):=(by rw[mu]);let h1:=ah;let k0:=Pu n (show(16:Int)≠0 by decide);let k1:=Pc n (show(0:Int)<16 by decide);let ab:∀{N d}(D:Dd),aP H N->H d=none->iV N d D->sQ D->(∀t ad c cs,D=.poke t ad c cs->H c=none)->Q (.ref d) N:=λ{N d} D sx fd R S a3=>k _ d D sx R S a3 fd;show#[0,_,0,rfl,(by change(0:Int)<16;decide),0,_,0,rfl,#[ar,ar],0,tl,0,.inl (bw.of ah),_,0,5,_,0,?_]
 .rw[ll];show#[Pn Ti l0,af]
 dsimp only;rw[ll];generalize n%16=kd at *;generalize n/16/(ts.length:Int)=G;show iT λ_ U=>?_;let#[b1,b2]:=at_of (xs:=ts) (i:=n/16%(ts.length:Int)) (n:=ts.length) (Pu _ af) (Pc _ (Pn Ti l0)) rfl;generalize ts.getD (n/16%(ts.length:Int)).toNat 0=tk at b1 b2;show#[0,0,_,0,rfl,#[ar,ar],0,tl,0,.inl (bw.of h1),_,0,rfl,by change(0:Int)<((ts.map V.int).length:Nat);rw[mu];show Pn Ti l0,tl,2,.int tk,1,bw.of h1,by rw[mu];show b1,U _ _ ?_];clear U;let O:=lt _ b2;show gY λ_ I J=>?_;show#[0,_,0,rfl,0,?_];cases c2:kd<2
 .rw[decide_eq_true c2];show I _ ?_;show#[dZ,λl hl=>?_];let s2:=Tb.av (X:=.lst [V.str "begin",V.str "close"]) hl;let h2:upd H l (.lst [V.str "begin",V.str "close"]) l=some (.lst [V.str "begin",V.str "close"]):=ae;show#[0,0,_,0,rfl,Iv,rfl,.inr #[0,?_]];let ap:kd=0\/kd=1:=af;let fb:∀d,upd H l (.lst [V.str "begin",V.str "close"]) d=none->∀x:Str,(x = "begin" \/ x = "close")->Q (.ref d) (upd (upd H l (.lst [V.str "begin",V.str "close"])) d (.tup [.str x,.int tk])):=λd hd x hx=>by
   rcases hx with rfl|rfl
   .show ab (.begin tk) (s2.trans (Tb.av hd)) (s2.free hd) #[ae,λ_ _ _ _ e=>by cases e] O (λ_ _ _ _ e=>by cases e)
   .show ab (.close tk) (s2.trans (Tb.av hd)) (s2.free hd) #[ae,λ_ _ _ _ e=>by cases e] O (λ_ _ _ _ e=>by cases e)
  generalize decide (V.int (G%4)=V.int 0)=b;rcases ap with rfl|rfl<;>cases b
  .show#[_,0,rfl,.inl #[ar,ar],l,2,.str "begin",1,bw.of h2,rfl,0,dZ,λd hd=>fb d hd _ (.inl rfl)]
  .show#[_,0,rfl,.inl #[ar,ar],l,2,.str "begin",1,bw.of h2,rfl,0,dZ,λd hd=>fb d hd _ (.inl rfl)]
  .show#[_,0,rfl,.inl #[ar,ar],l,2,.str "begin",1,bw.of h2,rfl,0,dZ,λd hd=>fb d hd _ (.inl rfl)]
  .show#[_,0,rfl,.inl #[ar,ar],l,2,.str "close",1,bw.of h2,rfl,0,dZ,λd hd=>fb d hd _ (.inr rfl)]
 rw[decide_eq_false c2];show J _ ?_;clear I J;show gY λ_ I J=>?_;show#[0,_,0,rfl,0,?_];cases c5:kd<5
 .rw[decide_eq_true c5];show I _ ?_;let#[d1,Y]:=at_of (xs:=[G/66%12,G/66%70-1]) (i:=G/4620%2) (n:=2) (Pu _ ar) (Pc _ ar) rfl;generalize ([G/66%12,G/66%70-1]:List Int).getD (G/4620%2).toNat 0=L at d1 Y;have bm : -1000<=L/\L<=1000:=by
   simp only[BY,DO,or_false]at Y;omega
  show#[0,0,_,0,rfl,(by change(0:Int)<66;decide),_,0,5];show#[0,_,0,rfl,#[ar,ar],_,0,rfl,(by change(0:Int)<12;decide),0,_,0,rfl,#[ar,ar],_,0,rfl,(by change(0:Int)<70;decide),_,0,rfl,dZ,λl hl=>?_];let s2:=Tb.av (X:=.lst ([G/66%12,G/66%70-1].map V.int)) hl;show#[0,_,0,rfl,#[ar,ar],_,0,rfl,Cf,l,2,.int L,1,bw.of ae,d1,uI,λd hd=>ab (.map tk (G%66-1) L) (s2.trans (Tb.av hd)) (s2.free hd) #[ae,λ_ _ _ _ e=>by cases e] #[O,af,af,bm.1,bm.2] (λ_ _ _ _ e=>by cases e)]
 rw[decide_eq_false c5];show J _ ?_;clear I J;show gY λ_ I J=>?_;show#[0,rfl,0,?_];show pV (λ_=>I _ ?_) (λ_=>J _ ?_)
 .show#[0,0,_,0,rfl,(by change(0:Int)<66;decide),_,0,rfl,0,_,0,rfl,#[ar,ar],_,0,rfl,(by change(0:Int)<9;decide),uI,λd hd=>ab (.drop tk (G%66-1) (G/66%9)) (Tb.av hd) hd #[ae,λ_ _ _ _ e=>by cases e] #[O,af,af,af,af] (λ_ _ _ _ e=>by cases e)]
 clear I J;show gY λ_ I J=>?_;show#[0,rfl,0,?_];show pV (λ_=>I _ ?_) (λ_=>J _ ?_)
 .let#[o1,o2]:=at_of (xs:=ts) (i:=G%(ts.length:Int)) (n:=ts.length) (Pu _ af) (Pc _ (Pn Ti l0)) rfl;generalize ts.getD (G%(ts.length:Int)).toNat 0=ot at o1 o2;show#[0,0,0,0,tl,0,.inl (bw.of h1),_,0,rfl,by change(0:Int)<((ts.map V.int).length:Nat);rw[mu];show Pn Ti l0,tl,2,.int ot,1,bw.of h1,by rw[mu];show o1,Ll,λd hd=>ab (.copy tk ot) (Tb.av hd) hd #[ae,λ_ _ _ _ e=>by cases e] #[O,lt _ o2] (λ_ _ _ _ e=>by cases e)]
 clear I J;show iT λ_ U=>?_;let#[R,S]:=at_of (xs:=[G%512,G%522-5]) (i:=G/512%2) (n:=2) (Pu _ ar) (Pc _ ar) rfl;generalize ([G%512,G%522-5]:List Int).getD (G/512%2).toNat 0=ad at R S;have ba : -1000<=ad/\ad<=1000:=by
  simp only[BY,DO,or_false]at S;omega
 show#[0,_,0,rfl,(by change(0:Int)<512;decide),0,_,0,rfl,(by change(0:Int)<522;decide),_,0,rfl,dZ,λl hl=>?_];let s2:=Tb.av (X:=.lst ([G%512,G%522-5].map V.int)) hl;show#[0,_,0,rfl,#[ar,ar],_,0,rfl,Cf,l,2,.int ad,1,bw.of ae,R,U _ _ ?_];clear U;let ac:∀{N d}(D:Dd),aP (upd H l (.lst ([G%512,G%522-5].map V.int))) N->upd H l (.lst ([G%512,G%522-5].map V.int)) d=none->iV N d D->sQ D->(∀t ad c cs,D=.poke t ad c cs->upd H l (.lst ([G%512,G%522-5].map V.int)) c=none)->Q (.ref d) N:=λ{N d} D sx fd R S a3=>k _ d D (s2.trans sx) R S (λt ad c cs e=>s2.free (a3 t ad c cs e)) (s2.free fd);change cy _ _ _ _ (upd H l (.lst ([G%512,G%522-5].map V.int)));generalize upd H l (.lst ([G%512,G%522-5].map V.int))=H2 at *;show gY λ_ I J=>?_;show#[0,_,0,rfl,0,?_];show pV (λ_=>I _ ?_) (λ_=>J _ ?_)
 .let#[d1,Y]:=at_of (xs:=[G/1024%24,G/1024%67-2]) (i:=G/81920%2) (n:=2) (Pu _ ar) (Pc _ ar) rfl;generalize ([G/1024%24,G/1024%67-2]:List Int).getD (G/81920%2).toNat 0=L at d1 Y;have bm : -1000<=L/\L<=100:=by
   simp only[BY,DO,or_false]at Y;omega
  show#[0,0,?_];show#[0,_,0,rfl,#[ar,ar],_,0,rfl,(by change(0:Int)<24;decide),0,_,0,rfl,#[ar,ar],_,0,rfl,(by change(0:Int)<67;decide),_,0,rfl,dZ,λl3 am=>?_];let s3:=Tb.av (X:=.lst ([G/1024%24,G/1024%67-2].map V.int)) am;show#[0,_,0,rfl,#[ar,ar],_,0,rfl,Cf,l3,2,.int L,1,bw.of ae,d1,uI,λd hd=>ac (.peek tk ad L) (s3.trans (Tb.av hd)) (s3.free hd) #[ae,λ_ _ _ _ e=>by cases e] #[O,ba.1,ba.2,bm.1,bm.2] (λ_ _ _ _ e=>by cases e)]
 .let r0:=Pu (G/1024) (show(30:Int)≠0 by decide);let r1:=Pc (G/1024) (show(0:Int)<30 by decide);show#[0,0,0,_,0,rfl,#[ar,ar],0,_,0,rfl,#[ar,ar],_,0,rfl,(by change(0:Int)<30;decide),_,(G/1024%30).toNat,by rw[Rh r0];rfl,af,λcs H3 cl a4 s3 fU as=>?_];show#[uI,λd hd=>ac (.poke tk ad cl cs) (s3.trans (Tb.av hd)) (s3.free hd) #[ae,λt ad c aB e=>by cases e;show Tb.av hd _ _ as] #[O,ba.1,ba.2,af] (λt ad c aB e=>by cases e;show fU)]
theorem K9:aE ["_law_m","_law_low"] ["_law_m"] (aw wK):=L2.bN
theorem C8(F:cE K "_law_tasks" "_law_tasks" wK f fd):↥aV 1 f fd ["_law_m"] uh:=by
 show F.dS K9 (λab A outer s H vs Q E hr h=>?_);let#[n,rfl,k]:=h;let hs:=vl;show#[_,(aj (dt 1 K9.nd (aY cn (bV (aa ak (aa (az fW (JM Jb ak) (az br (pv 0) (az wg ak ak))) ag))) (az br (az bo (pv 0) ak) ak) cz))
  (ao (aK (cJ gh (bV (aa ak (aa ak (aa (az bu (az br (pv 0) (az wg ak ak)) ak) (aa (pv 1) (aa ak ag)))))) eg (cN (az bu ak (az br (az bo (pv 0) ak) ak))))))),?_]
 let p0:=Pu n (show(10^TV 59:Int)≠0 by decide);let p1:=Pc n (show(0:Int)<10^TV 59 by decide);let ac:(10^TV 59:Int)+3<=10^60:=ar;show iT λ_ N=>?_;let#[J,L]:=at_of (xs:=[0, -1-n%10^TV 59]) (i:=n/28%2) (n:=2) (Pu _ ar) (Pc _ ar) rfl;generalize ([0, -1-n%10^TV 59]:List Int).getD (n/28%2).toNat 0=lo at J L;have G : -(10^60)<=lo/\lo<=10^60:=by
  simp only[BY,DO,or_false]at L;omega
 show#[0,0,_,0,rfl,#[ar,ar,ar],_,0,rfl,(by change(0:Int)<10^TV 59;decide),_,0,rfl,dZ,λS O=>?_];let s2:=Tb.av (X:=.lst ([0, -1-n%10^TV 59].map V.int)) O;show#[0,_,0,rfl,#[ar,ar],_,0,rfl,Cf,S,2,.int lo,1,bw.of ae,J,N _ _ ?_];clear N;show#[0,_,0,rfl,#[ar,ar,ar],_,0,rfl,(by change(0:Int)<10^TV 59;decide),_,0,rfl,0,Nx,λl1 U=>?_];let s3:=Tb.av (X:=.lst ([1,2,n%10^TV 59+3,lo,12].map V.int)) U;obtain⟨j,R⟩:∃j:Nat,2+n/7%4=j:=#[(2+n/7%4).toNat,af];show#[0,_,0,rfl,#[ar,ar],_,0,rfl,Iv,_,0,5];show#[0,l1,0,bw.of ae,λp I=>?_];let Y:fA ([1,2,n%10^TV 59+3,lo,12].map V.int) none (some (2+n/7%4))=(([1,2,n%10^TV 59+3,lo,12]:List Int).take j).map V.int:=(by rw[R];show Rm.ph);show k _ p (([1,2,n%10^TV 59+3,lo,12]:List Int).take j) (s2.trans (s3.trans (Tb.av I))) (s2.free (s3.free I)) (by rw[ae];show congrArg (λz=>some (HO.lst z)) Y) ?_ ?_ λt ht=>?_
 .obtain⟨i,rfl⟩:∃i,j=i+2:=#[j-2,af];show#[0]
 .rw[Oj];change min j 5<=5;show VE j 5
 .have:=Sd ht;simp only[BY,DO,or_false]at this;rcases this with rfl|rfl|rfl|rfl|rfl
  .show kf ar ar
  .show kf ar ar
  .show Bd af af
  .show Bd G.1 G.2
  .show kf ar ar
abbrev oz:Ow:=top 47
abbrev Ef:Ow:=top 50
inductive jK(v:List V)(H:Hp)(Q:VK)(e:XK):Prop
 |mk(p q:Addr)(xs:List Int)(_:v=[.ref p,.ref q])(_:H p=some (.lst (xs.map V.int)))(_:H q=some (.lst (xs.map V.int)))(_:xs.length<=100)(_:∀H',aP H H'->Q (.bl true) H')
theorem Nt{c:CA}{H H':Hp}{M M' B:Xm}{a:RA}{s:Pg.PS}{W:dq}(R:ax c H M a s W)(o:Off B H H')(G:∀b,B b->M b/\¬ a.own W b)(J:∀{b C dx fs},H b=some (.ins C dx fs)->¬ B b)(S:∀b xs,H b=some (.tup xs)->¬ B b)(U:∀b,M' b->M b\/H b=none)(L:∀b,M b->¬ B b->M' b)(mt:∀b,M' b->H' b≠none):ax c H' M' a s W:=by
 let#[dx,h1]:=R.ob;let#[ah,N]:=R.pg.fr.ob;let#[ab,O]:=R.pg.sl.ob;show#[#[dx,o _ _ h1 (J h1)],R.pg.move o (λb z=>(G b z).1) U (λb z y=>(G b y).2 (.inl z)) (J N) (J O) S,#[R.ok.ds,λb z=>L b (R.ok.mm b z) λq=>?_],mt,o _ _ R.hd (λz=>(G _ z).2 (.inr (.inl rfl))),R.nd,λx I=>?_,λx I b z=>#[L b (R.dm x I b z).1 λq=>(G b q).2 (.inr (.inr #[x,I,z])),(R.dm x I b z).2],R.np,R.dj,L _ R.Gm (λz=>(G _ z).2 (.inr (.inl rfl))),R.El,R.AS]
 .simp only[BY,DO,or_false]at z;rcases z with z|z|z|z|z|z|z|z|z<;>rw[z]at q
  .show(G _ q).2 (.inl (PA.gg 0 rfl))
  .show J N q
  .show(G _ q).2 (.inl (PA.gg 1 rfl))
  .show(G _ q).2 (.inl (PA.gg 2 rfl))
  .show J O q
  .show(G _ q).2 (.inl (PA.gg 3 rfl))
  .show(G _ q).2 (.inl (PA.gg 4 rfl))
  .show(G _ q).2 (.inl (PA.gg 5 rfl))
  .show(G _ q).2 (.inl (PA.gg 6 rfl))
 .let#[ac,Y]:=(R.tb x I).at_.ob;show(R.tb x I).off o (J Y) (λb z y=>(G b y).2 (.inr (.inr #[x,I,z]))) S
theorem zO{F:Xs}{q:Int}(h:(F q).length=8):rP F (8*q) 8=F q:=by
 show QJ λj=>?_;unfold rP;rw[t5];cases G:j<8
 .rw[Rz G];change some ((F ((8*q+(j:Int))/8)).getD ((8*q+(j:Int))%8).toNat 0)=_;rw[show(8*q+(j:Int))/8=q by omega,show((8*q+(j:Int))%8).toNat=j by omega,OT,vu af];rfl
 .rw[Pd (by rw[O0];omega),Pd af];rfl
structure qE(c:CA)(H0:Hp)(M0:Xm)(a:RA)(s0:Pg.PS)(W:dq)(cv:Xn)(H:Hp)(M:Xm)(s:Pg.PS):Prop where
 R:ax c H M a s W
 ri:Pg.RI s (ents W)
 cv:Cv s W cv
 st:Step H0 M0 (a.own W) H M (a.own W)
 ln:∀b,(s.ow b).length=(s0.ow b).length
section
variable{c:CA}{H0 H H':Hp}{M0 M M':Xm}{a:RA}{s0 s s':Pg.PS}{W:dq}{cv:Xn}
theorem qE.same(P:qE c H0 M0 a s0 W cv H M s)(h:aP H H'):qE c H0 M0 a s0 W cv H' M s:=#[P.R.same h,P.ri,P.cv,P.st.trans (P.R.gv h),P.ln]
theorem qE.next(P:qE c H0 M0 a s0 W cv H M s)(R:ax c H' M' a s' W)(I:Pg.RI s' (ents W))(h:Cv s' W cv)(st:Step H M (a.own W) H' M' (a.own W))(G:∀b,(s'.ow b).length=(s.ow b).length):qE c H0 M0 a s0 W cv H' M' s':=#[R,I,h,P.st.trans st,λb=>(G b).trans (P.ln b)]
variable{H2 H3 H4:Hp}{M2 M3 M4:Xm}{s2 s3 s4:Pg.PS}{r:Addr}{kvs:List (Key×V)}{ob:Obj}
theorem qE.cW(P:qE c H0 M0 a s0 W cv H3 M3 s3)(G:H3 r=some (.dK kvs))(I:M3 r/\¬ a.own W r):qE c (upd H3 r (.cW ob (.dK kvs))) M3 a s3 W cv (upd H3 r (.cW ob (.dK kvs))) M3 s3:=by
 let R:ax c (upd H3 r (.cW ob (.dK kvs))) M3 a s3 W:=P.R.Ek (B:=(· = r)) (Off.wr rfl) (λb z=>by rw[z];show I) (λb z=>.inr #[_,(congrArg H3 z).trans G]) (λb z=>.inl z) (λb z _=>z) (λb z e=>by
  cases q:b=r
  .rw[q,ae]at e;cases e
  .rw[ai q]at e;show P.R.mt b z e)
 show#[R,P.ri,P.cv,R.refl,λ_=>rfl]
theorem qE.back(P:qE c H0 M0 a s0 W cv H3 M3 s3)(N:H3 r=some (.dK kvs))(I:M3 r/\¬ a.own W r)(G:qE c (upd H3 r (.cW ob (.dK kvs))) M3 a s3 W cv H4 M4 s4):qE c H0 M0 a s0 W cv (upd H4 r (.dK kvs)) M4 s4:=by
 let h2:=G.st.off r _ ae I.2;let O:Off (a.own W) H3 (upd H4 r (.dK kvs)):=λb u q n=>by
  cases z:b=r
  .rw[z,ae, <-q,z,N]
  .rw[ai z];show G.st.off _ _ (by rw[ai z];show q) n
 let J:∀b,M4 b->upd H4 r (.dK kvs) b≠none:=λb z q=>by
  cases y:b=r
  .rw[y,ae]at q;cases q
  .rw[ai y]at q;show G.R.mt b z q
 let L:M4 r:=G.st.mm _ I.1 I.2;let R2:ax c (upd H4 r (.dK kvs)) M4 a s4 W:=Nt (B:=(· = r)) G.R (Off.wr rfl) (λb z=>by rw[z];show#[L,I.2]) (λq z=>by rwa[z,h2]at q) (λb xs q z=>by rwa[z,h2]at q) (λb z=>.inl z) (λb z _=>z) J;show#[R2,G.ri,G.cv,P.st.trans #[O,G.st.mm,λb z=>(G.st.mn b z).imp id λq=>(cL q).2,λb z=>.inl z,P.R.mt,P.R.dG],λb=>(G.ln b).trans (P.ln b)]
theorem CU{m:MA}{nf ns G:Nat}{pk:Int}{Z:Zs}(S:Dp c H M a m nf ns G s cv pk W Z)(C:Ct H Z cv)(P:qE c H M a s W cv H2 M2 s2):Dp c H2 M2 a m nf ns G s2 cv pk W Z/\Ct H2 Z cv:=by
 let#[I,J]:=ku S.D S.sp P.st;show#[#[P.R,P.ri,P.cv,?_,S.p0,J,S.tw,(P.ln true).trans S.lf,(P.ln false).trans S.ls,S.lw,S.lz],#[λt q b h=>?_,C.inj]]
 .rw[yl P.ln];show I
 .let#[z,h1,h2]:=Pj.mp h;let#[y,N,L]:=o8.mp h2;show P.st.off _ _ (C.at_ _ _ _ h) (S.sp _ (.inr (.inr (.inr #[_,Tb.aA h1,.inr (.inr #[_,Tb.aA N,L.symm])])))).2
end
inductive wH(c:CA)(v:List V)(H:Hp)(Q:VK)(e:XK):Prop
 |mk(M:Xm)(a:RA)(m:MA)(nf ns kk:Nat)(s:Pg.PS)(cv:Xn)(pk:Int)(W:dq)(Z:Zs)(_:v=[.ref a.rp,.ref m.md])(_:Dp c H M a m nf ns kk s cv pk W Z)(_:Ct H Z cv)(_:kk<=1000)(_:∀H' M' s',Dp c H' M' a m nf ns kk s' cv pk W Z->Ct H' Z cv->Step H M (a.own W) H' M' (a.own W)->Q (.bl true) H')
theorem Nv:aE ["_law_found","_law_due_here"] ["_law_found","_law_due_here"] (aw oz):=L2.bN
theorem xp(F:cE K "_law_numbers" "_law_numbers" oz f fd)(T:mS mg)(S:↥Df 1 "_law_whole" sZ) :
  ↥aV 2 f fd ["_law_found","_law_due_here"] jK:=by
 show F.dS Nv (λU A outer s H vs Q E L h=>?_);let#[p,q,xs,rfl,G,O,J,k]:=h;let hs:=vl;show#[_,(aj (aU (PW.pt (ie (sG (gu (aQ eM (by rfl) T.wC bB (aa (pv 0) (aa (fB (v:=.ty "list") (by rfl) T.list fE rfl) ag))))) (gO (aD (Hf L.lT) (pv 0) (pv 1) (aG _))))) (ao (aK kS)) aI)
  (ao (aK (aQ (ml rfl) (by rfl) T.all yq (aa (iE (cl:=[]) (caps:=[]) #[rfl,aq,aq,rfl,by kernel_rfl,by intro p G;simp at G,by kernel_rfl,by intro p G;simp at G,aq] rfl (eQ (pv 0)) (λ_ _ _ _=>gB) (λ_ _ _ _=>(pc S L aC (aa (pv 0) ag)))) ag))))),?_]
 show#[0,.ref p,"list",_,true,rfl,.lst G,Iy _,true,rfl,b9 ?_];show#[0,0,p,q,_,0,rfl,bw.of G,bw.of O,fj _,fj _,0,?_];rw[rK,decide_eq_true rfl];show b9 ?_;show#[0,p,rfl,#[_,bw.of G],?_];show xj (K:=K) (a:=p) (xs:=xs.map V.int) (λi ys H2=>i<=xs.length/\ys=(replicate i true).map V.bl/\H2=H) #[OB _,1] (λi ys H2 _ z=>by rw[z.2.2];show bw.of G) ?_ ?_
 .rintro i x ys H2 I ⟨hi,rfl,rfl⟩;rw[t5]at I;let#[n,N,rfl]:=o8.mp I;show#[0,n,5,(kQ.mp N).1,?_,rfl]
  .rw[mu,OV];omega
  .rw[List.replicate_succ',L0];rfl
 .rintro ys H2 ⟨_,rfl,rfl⟩ l J;show#[l,0,bw.of ae,?_];rw[show(replicate (Xd V.int xs).length true).all id=true from OG.mpr λb R=>(Vb.mp R).2];show k _ (Tb.av J)
theorem FO:aE ["_law_kept","_law_model_here","_law_task","_law_room","_law_page"] ["_law_kept","_law_model_here"] (aw Ef):=L2.bN
theorem E1{c:CA}(F:cE K "_law_all_right" "_law_all_right" Ef f fd)(TR:mY K mg c)(MK:LL P w K mg base c)(a3:↥Df 2 "_law_numbers" jK)(a2:↥Df 1 "_law_held" lj)(bd:↥Md 2 c.C "held" (gG c)) :
  ↥aV 11 f fd ["_law_kept","_law_model_here"] (wH c):=by
 show F.dS FO (λbx A outer s H vs Q E Y h=>?_);let#[M,a,m,nf,ns,kk,s',cv,pk,W,Z,rfl,S,C,bK,k]:=h;let hs:=vl;let ah:M m.lr/\¬ a.own W m.lr:=S.sp _ (.inr (.inl rfl));let hn:∀(ob:Obj) u',H m.lr≠some (.cW ob u'):=λob u' w=>(by rwa[S.D.hr]at w);show#[_,(aj (m5 (dD Ol rfl (vP (bJ (bz Y) (pv 1) aF cz)) (dU rfl (bj (gH 2 FO.nd) (bj (gH 3 FO.nd) de))) (ao (m5 (dD Ol rfl (sE (pv 3)) (gH 4 FO.nd) (ao (aU (sG (gu (pc a3 Y aC (aa (pm (pv 0) TR.cl MK.Jx Y aC (aa (pv 2) (aa (az fY ak (pv 4)) (aa ak ag)))) (aa (bJ (bz Y) (pv 3) (pv 4) cz) ag))))) (ao (aK kS)) aI)))))))
  (ao (aK (kK bH (pJ (pv 0) TR.cl bd Y aC) (pc a2 Y aC (aa (pv 1) ag)) (aG _))))),?_]
 show#[0,m.md,.ref m.lr,rfl,S.D.g (E4 _ _ _ _),m.lr,0,S.D.hr,hn,λob=>?_];let oF:Off (· = m.lr) H (upd H m.lr (.cW ob (.dK (Tb.dk ij Z)))):=Off.wr rfl;let hF:upd H m.lr (.cW ob (.dK (Tb.dk ij Z))) m.lr=some (.cW ob (.dK (Tb.dk ij Z))):=ae;let PS:qE c H M a s' W cv H M s':=#[S.R,S.ri,S.cv,S.R.refl,λ_=>rfl];let P0:=PS.cW (ob:=ob) S.D.hr ah;let back:∀{O M9 L},qE c (upd H m.lr (.cW ob (.dK (Tb.dk ij Z)))) M a s' W cv O M9 L->qE c H M a s' W cv (upd O m.lr (.dK (Tb.dk ij Z))) M9 L:=λP=>PS.back S.D.hr ah P;let bc:∀x∈Z,upd H m.lr (.cW ob (.dK (Tb.dk ij Z))) x.2.ra=some (.dK (Tb.dk fU x.2.pl)):=λx hx=>oF _ _ (S.D.rm x hx) (S.D.d3 x hx).2.1;let a5:∀t q G,eA Z t q=some G->upd H m.lr (.cW ob (.dK (Tb.dk ij Z))) G=some (.lst ((cv t q).map V.int)):=λt q G e=>oF _ _ (C.at_ _ _ _ e) (λz=>by have:=C.at_ _ _ _ e;rwa[z,S.D.hr]at this);let zo:∀t q G,eA Z t q=some G->cZ m Z G:=λt q G e=>by
  let#[z,h1,h2]:=Pj.mp e;let#[y,U,h4]:=o8.mp h2;show .inr (.inr (.inr #[_,Tb.aA h1,.inr (.inr #[_,Tb.aA U,h4.symm])]))
 generalize bI:upd H m.lr (.cW ob (.dK (Tb.dk ij Z)))=HF at *;show rR (a:=m.lr) (o:=ob) (kvs:=Tb.dk ij Z) (λj σ H2=>Ep λ(v2 v3 v4:Option V)(M2:Xm)(s2:Pg.PS)=>σ=#v[.ref a.rp,.ref m.md,v2,v3,v4]/\qE c HF M a s' W cv H2 M2 s2) #[2,_,M,s',rfl,P0] (λj σ H2 _ z0=>by let#[_,_,_,_,_,_,I2]:=z0;show I2.st.off _ _ hF ah.2) ?_ ?_
 .rintro j aB v σ H2 T' hk bi ⟨v2,v3,v4,M2,s2,rfl,P2⟩;let ac:(Z.map λx:Int×MT=>((vr x.1:Key),ij x.2))[j]?=some (aB,v):=hk;rw[t5]at ac;let#[x,hx,e]:=o8.mp ac;cases e;let N:=z6 hx;let ez:Tb.look Z x.1=some x.2:=Tb.bX S.D.nd N;let#[xx,am]:=S.tw.get ez;let aT:=S.tw.oY am ez;show#[T',[.int x.1,.ref x.2.ra],rfl,bP.of ae,4,0,_,0,5];let P3:=P2.same (Tb.av (X:=.tup [kV (vr x.1),ij x.2]) bi);generalize upd H2 T' (.tup [kV (vr x.1),ij x.2])=H3 at *;let ab:¬ a.own W x.2.ra:=(S.sp _ (.inr (.inr (.inr #[x,N,.inl rfl])))).2;let as:M2 x.2.ra/\¬ a.own W x.2.ra:=#[P3.st.mm _ (S.sp _ (.inr (.inr (.inr #[x,N,.inl rfl])))).1 ab,ab];let U:=P3.st.off _ _ (bc x N) ab;let ap:∀(ob:Obj) u',H x.2.ra≠some (.cW ob u'):=λob u' w=>(by rwa[S.D.rm x N]at w);show#[0,x.2.ra,0,U,ap,λJ=>?_];let hG:upd H3 x.2.ra (.cW J (.dK (Tb.dk fU x.2.pl))) x.2.ra=some (.cW J (.dK (Tb.dk fU x.2.pl))):=ae;let PG:=P3.cW (ob:=J) U as;let a6:∀{O M9 L},qE c (upd H3 x.2.ra (.cW J (.dK (Tb.dk fU x.2.pl)))) M2 a s2 W cv O M9 L->qE c HF M a s' W cv (upd O x.2.ra (.dK (Tb.dk fU x.2.pl))) M9 L:=λP=>P3.back U as P;let a8:∀t q G,eA Z t q=some G->upd H3 x.2.ra (.cW J (.dK (Tb.dk fU x.2.pl))) G=some (.lst ((cv t q).map V.int)):=λt q G e=>by
   let e2:=P3.st.off _ _ (a5 t q G e) (S.sp _ (zo _ _ _ e)).2;rw[ai (λz=>by rwa[z,U]at e2)];show e2
  generalize upd H3 x.2.ra (.cW J (.dK (Tb.dk fU x.2.pl)))=HG at *;show uW (a:=x.2.ra) (o:=J) (kvs:=Tb.dk fU x.2.pl) (λi σ H4=>KU λ(v4:Option V)(M4:Xm)(s4:Pg.PS)=>σ=#v[.ref a.rp,.ref m.md,.int x.1,.ref x.2.ra,v4]/\qE c HG M2 a s2 W cv H4 M4 s4) #[_,M2,s2,rfl,PG] (λi σ H4 _ z0=>by let#[_,_,_,_,I]:=z0;show I.st.off _ _ hG ab) ?_ ?_
  .rintro i bn v σ H4 hk ⟨a7,M4,s4,rfl,I⟩;let ac:(x.2.pl.map λy:Int×Addr×Int=>((vr y.1:Key),fU y.2))[i]?=some (bn,v):=hk;rw[t5]at ac;let#[#[pg,y],hy,e]:=o8.mp ac;cases e;let be:=z6 hy;let ep:Tb.look x.2.pl pg=some y:=Tb.bX (S.D.np x N) be;show nameQ ?_;dsimp only;show BS λQQ ji je=>?_;let#[g0,g1]:=S.D.rg x N (pg,y) (Tb.aA ep);let g0:0<=pg:=g0;let g1:pg<64:=g1;let hb:=(kL (x:=xx) (z:=x.2) (ad:=8*pg) (n:=8) aT).mp (.inr #[ar,af,af,λi hi=>by rw[show(8*pg+(i:Int))/8=pg by omega,ep];show λq=>by cases q]);let#[ba,a1]:=I.R.ob;let ea:eA Z x.1 pg=some y.1:=(by rw[yE ez,ep];rfl);let l8:=C.IL S.D ea;show#[0,a.rp,ba,0,a1,gc _ _ _ aq aq aq,0,0,_,0,5,M4,a,s4,W,cv,x.1,8*pg,(8),xx,rfl,I.R,I.ri,I.cv,am,ar,af,af,hb,λH5 M5 s5 l R5 bl a4 a0 bm fl hl _=>?_]
   .show .inl #[ar,ar]
   let P5:=I.next R5 bl a4 a0 bm;rw[zl (L4 I.ri I.cv am hb),zO l8]at hl;let h5:=P5.st.off _ _ hG ab;let c5:=P5.st.off _ _ (a8 _ _ _ ea) (S.sp _ (zo _ _ _ ea)).2;show#[0,0,x.2.ra,0,(.inl #[_,vr pg,.inr #[J,h5],rfl,by rw[Tb.dg,ep];rfl]:dY _ _ _ (some (fU y))),l,y.1,cv x.1 pg,rfl,hl,c5,af,λH6 s6=>#[true,rfl,je _ #[_,M5,s5,rfl,P5.same s6]]]
  .rintro σ H4 ⟨a7,M4,s4,rfl,I⟩;show#[x.2.ra,J,_,I.st.off _ _ hG ab,ap,2,_,M4,s4,rfl,a6 I]
 .rintro σ H2 ⟨v2,v3,v4,M2,s2,rfl,P2⟩;show#[m.lr,ob,_,P2.st.off _ _ hF ah.2,hn,?_];let PE:=back P2;let#[S2,C2]:=CU S C PE;let#[bv,bb]:=S2.R.ob;show#[0,a.rp,bv,0,bb,gc _ _ _ aq aq aq,M2,a,s2,W,rfl,S2.R,by have:=S.lw;omega,λH8 s8=>?_];let P8:=PE.same s8;show#[0,m,_,pk,Z,rfl,(S2.same s8).D,by have:=S.lz;omega,λO L=>#[5]];let P9:=P8.same L;let#[S9,C9]:=CU S C P9;rw[S.tw.held S.R S.D,decide_eq_true rfl];show k _ M2 s2 S9 C9 P9.st
structure Lv(c:CA)(H0:Hp)(a:RA)(m:MA)(nf ns:Nat)(tl:Addr)(tv:HO)(k:Nat)(H:Hp)(M:Xm)(s:Pg.PS)(cv:Xn)(pk:Int)(W:dq)(Z:Zs):Prop where
 S:Dp c H M a m nf ns k s cv pk W Z
 C:Ct H Z cv
 sm:aP H0 H
 fr:∀b,M b->H0 b=none
 ht:H tl=some tv
 nt:¬ M tl
section
variable{c:CA}{H0 H H':Hp}{M M':Xm}{a:RA}{m:MA}{nf ns k:Nat}{tl:Addr}{tv:HO}{s s':Pg.PS}{cv cv':Xn}{pk:Int}{W W':dq}{Z:Zs}
theorem lu(R:ax c H M a s W){b:Addr}{xs:List V}(h:H b=some (.tup xs)):¬ a.own W b:=λw=>by
 let#[dx,h1]:=R.pg.ob;let#[cs,h2,_]:=R.pg.fr.hc;let#[N,L,_]:=R.pg.sl.hc;let#[l,J,_]:=R.pg.pd;rcases w with w|w|⟨x,G,w⟩
 .unfold PA.own at w;simp only[BY,DO,or_false]at w;rcases w with w|w|w|w|w|w|w<;>rw[w]at h
  .rw[h1]at h;cases h
  .rw[R.pg.fr.hw]at h;cases h
  .rw[h2]at h;cases h
  .rw[R.pg.sl.hw]at h;cases h
  .rw[L]at h;cases h
  .rw[J]at h;cases h
  .rw[R.pg.il]at h;cases h
 .rw[w,R.hd]at h;cases h
 .rcases w with w|⟨y,I,w⟩
  .rw[w,(R.tb x G).at_.hf]at h;cases h
  .rw[w,(R.tb x G).at_.hd y I]at h;cases h
theorem Ct.same(C:Ct H Z cv)(h:aP H H'):Ct H' Z cv:=C.keep (λa xs e=>h _ _ e) λ_ _ _ h=>h
theorem Lv.same(L:Lv c H0 a m nf ns tl tv k H M s cv pk W Z)(h:aP H H'):Lv c H0 a m nf ns tl tv k H' M s cv pk W Z:=#[L.S.same h,L.C.same h,L.sm.trans h,L.fr,h _ _ L.ht,L.nt]
theorem Dp.up(S:Dp c H M a m nf ns k s cv pk W Z){j:Nat}(h:k<=j):Dp c H M a m nf ns j s cv pk W Z:=#[S.R,S.ri,S.cv,S.D,S.p0,S.sp,S.tw,S.lf,S.ls,L1 S.lw h,L1 S.lz h]
theorem Lv.up(L:Lv c H0 a m nf ns tl tv k H M s cv pk W Z){j:Nat}(h:k<=j):Lv c H0 a m nf ns tl tv j H M s cv pk W Z:=#[L.S.up h,L.C,L.sm,L.fr,L.ht,L.nt]
theorem Lv.Ii(L:Lv c H0 a m nf ns tl tv k H M s cv pk W Z){d:Addr}{D:Dd}(hd:iV H d D)(J:∀t ad G cs,D=.poke t ad G cs->¬ M G){H2:Hp}{N:Zs}(I:oX m H Z H2 N):iV H2 d D:=by
 show#[I.1 _ _ hd.1 λw=>?_,λt ad G cs e=>I.1 _ _ (hd.2 t ad G cs e) λw=>J t ad G cs e (L.S.sp _ w).1];rcases L.S.D.alive _ w with⟨_,h⟩|⟨_,h⟩
 .rw[hd.1]at h;cases h
 .rw[hd.1]at h;cases h
theorem Lv.Km(L:Lv c H0 a m nf ns tl tv k H M s cv pk W Z){D:Dd}{H2:Hp}{Y:Int}{I:Zs}{v:V}(D2:cF H2 m (bL s) Y I)(p2:0<=Y/\∀cv,Ct H Z cv->Ct H2 I (iJ D cv)/\FQ D cv H H2 v)(N:oX m H Z H2 I)(l2:I.length<=Z.length+1)(h2:mT D (hZ Z) (hZ I))(e2:mQ 0 (λv=>v≠0) D (eZ Z) (eZ I))
  {H3:Hp}{M3:Xm}{s3:Pg.PS}{J:dq}{O:Xn}(R3:ax c H3 M3 a s3 J) (a6:Pg.RI s3 (ents J)) (c3:Cv s3 J O/\O=iJ D cv) (st:Step H2 (λb=>(M b/\¬ cZ m Z b)\/cZ m I b) (a.own W) H3 M3 (a.own J)) (U:∀b,(s3.ow b).length=(s.ow b).length) (lw:J.length<=W.length+1) (h3:mT D (hW W) (hW J)) (e3:mQ none (λx=>∃k,x=some k) D (eW W) (eW J)) :
  Lv c H0 a m nf ns tl tv (k+1) H3 M3 s3 O Y J I:=by
 let G:=L.S;let#[ap,aB]:=xk G.R G.D G.sp D2 N;let ah:aP H0 H2:=λb u e=>N.1 b u (L.sm _ _ e) λw=>(by rwa[L.fr b (G.sp b w).1]at e);let ab:∀b,((M b/\¬ cZ m Z b)\/cZ m I b)->H0 b=none:=λb z=>by
  rcases z with z|z
  .show L.fr b z.1
  .rcases N.2 b z with z|z
   .show L.fr b (G.sp b z).1
   .show L.sm.free z
 let am:=N.1 _ _ L.ht λw=>L.nt (G.sp _ w).1;let ac:¬ ((M tl/\¬ cZ m Z tl)\/cZ m I tl):=λz=>by
  rcases z with z|z
  .show L.nt z.1
  .rcases N.2 _ z with z|z
   .show L.nt (G.sp _ z).1
   .rw[L.ht]at z;cases z
 let#[a5,aT]:=ku D2 aB st;let a4:=G.tw.next h3 h2 e3 e2;let a1:aP H0 H3:=λb u e=>st.off b u (ah _ _ e) λw=>(by rwa[ab b (ap.dG b w)]at e);let a3:∀b,M3 b->H0 b=none:=λb z=>(st.mn b z).elim (ab b) λz=>ah.free z;let a0:=st.off _ _ am λw=>ac (ap.dG _ w);let a2:¬ M3 tl:=λz=>(st.mn _ z).elim ac λz=>(by rwa[am]at z);let as:Ct H2 I O:=(by rw[c3.2];show(p2.2 cv L.C).1);show#[#[R3,a6,c3.1,?_,p2.1,aT,a4,(U true).trans G.lf,(U false).trans G.ls,3],?_,a1,a3,a0,a2]
 .rw[yl U];show a5
 .have:=G.lw;omega
 .have:=G.lz;omega
 .show#[λt q b h=>?_,as.inj];let#[z,h5,hh]:=Pj.mp h;let#[y,h6,h7]:=o8.mp hh;show st.off _ _ (as.at_ _ _ _ h) (aB _ (.inr (.inr (.inr #[_,Tb.aA h5,.inr (.inr #[_,Tb.aA h6,h7.symm])])))).2
end
end Lw
namespace L2
open PySem PySem.Spec PyProof.Rows
inductive Gw(K:HC)(n:Nat)(x:V)(y:V)(H:Hp)(Q:VK):Prop
 |mk(p q:Addr)(xs ys:List V)(_:x=.ref p)(_:y=.ref q)(_:bP K H p xs)(_:bP K H q ys)(_:Paired (qy K H n) xs ys)(_:Q (.bl false) H)
theorem E6{X:Cx}(n:Nat)(hu:X.A.units+n+1<QO):mh X (PF .NotEq) (Gw X.K n):=by
 intros x y v u Q I U R h;let#[p,q,xs,ys,rfl,rfl,Y,O,L,S]:=h;cases U;cases R;let#[its,r,pl,hz]:=I.tuple Y;let#[G,J,N,ac]:=I.tuple O;let l1:=r.length;let l2:=J.length;let hl:=xQ L;let ab:X.A.in1.units+n<QO:=(by change X.A.units+1+n<QO;omega);let ih:∀{x y:V}{v u:Value},qy X.K H n x y->RelV x v->RelV y u->QC X.A.in1 s v u true:=λa b c=>yJ I n ab a b c;show SR (e:=λ_=>true) pl N af (jU r J L ih) _ _ _ _ #[.bl false,H,I,?_,S];let e:((NC (min its.toArray.size G.toArray.size)).all (λ_=>true)&&its.toArray.size==G.toArray.size)=true:=by
  rw[Qe];show#[OG.mpr λ_ _=>rfl,by rw[qi,qi];show beq_iff_eq.mpr af]
 rw[e];rfl
end L2
namespace Lw
open PySem L2 St
def B0(D:Dd)(c2:Addr):Dd:=match D with
 |.poke t ad _ cs=>.poke t ad c2 cs
 |D=>D
structure qH(H:Hp)(d h c2:Addr)(D:Dd):Prop where
 at_:iV H d D
 ah:iV H h (B0 D c2)
 ne:∀t ad c cs,D=.poke t ad c cs->c2≠c
 eq:jV D ≠ "poke" -> h=d
section
variable{H H' H2:Hp}{d h c2:Addr}{D:Dd}
theorem Dm(n:jV D ≠ "poke"):B0 D c2=D:=by
 cases D with
 |poke t ad c cs=>show absurd rfl n
 |_=>rfl
theorem qH.same(A:qH H d h c2 D)(s:aP H H'):qH H' d h c2 D :=
 #[#[s _ _ A.at_.1,λt ad G cs e=>s _ _ (A.at_.2 t ad G cs e)],#[s _ _ A.ah.1,λt ad G cs e=>s _ _ (A.ah.2 t ad G cs e)],A.ne,A.eq]
theorem rL:∀cs:List Int,Paired (qy K H 0) (cs.map V.int) (cs.map V.int)
 | []=>.nil
 |x::cs=>.cons #[1] (rL cs)
theorem qH.deep(A:qH H d h c2 D):Paired (qy K H 1) (qv (B0 D c2)) (qv D):=by
 let f:∀{x:V},d0 x=true->qy K H 1 x x:=λe=>.inl #[rfl,e];cases D with
 |poke t ad c cs=>show .cons (f rfl) (.cons (f rfl) (.cons (f rfl) (.cons (.inr #[c2,c,_,0,rfl,A.ne _ _ _ _ rfl,.inl #[bw.of (A.ah.2 _ _ _ _ rfl),bw.of (A.at_.2 _ _ _ _ rfl)],rL cs]) .nil)))
 |begin t=>show .cons (f rfl) (.cons (f rfl) .nil)
 |close t=>show .cons (f rfl) (.cons (f rfl) .nil)
 |copy t o=>show .cons (f rfl) (.cons (f rfl) (.cons (f rfl) .nil))
 |map t p m=>show .cons (f rfl) (.cons (f rfl) (.cons (f rfl) (.cons (f rfl) .nil)))
 |drop t p m=>show .cons (f rfl) (.cons (f rfl) (.cons (f rfl) (.cons (f rfl) .nil)))
 |peek t p m=>show .cons (f rfl) (.cons (f rfl) (.cons (f rfl) (.cons (f rfl) .nil)))
theorem IA{W:dq}{tt:Int}:uY W tt (B0 D c2)↔uY W tt D:=by cases D<;>show UQ
theorem Nu:sQ (B0 D c2)↔sQ D:=by cases D<;>show UQ
theorem Np{xa:XA}{W:dq}{tt:Int}{C:Addr}:KW xa W tt (B0 D c2) C↔KW xa W tt D C:=by cases D<;>show UQ
theorem GJ{f g:Int->Bool}:mT (B0 D c2) f g↔mT D f g:=by cases D<;>show UQ
theorem Gu{α:Type}{G:α}{ok:α->Prop}{f g:Int->Int->Option α}:mQ G ok (B0 D c2) f g↔mQ G ok D f g:=by cases D<;>show UQ
theorem KO{cv:Xn}:iJ (B0 D c2) cv=iJ D cv:=by cases D<;>rfl
variable{c:CA}{H0:Hp}{M M':Xm}{a:RA}{m:MA}{nf ns k:Nat}{tl:Addr}{tv:HO}{s s':Pg.PS}{cv cv':Xn}{pk:Int}{W W':dq}{Z:Zs}
theorem grown(R:ax c H M a s W)(G:aP H H')(f:H c2=none)(I:H' c2≠none):ax c H' (λb=>M b\/b=c2) a s W/\Step H M (a.own W) H' (λb=>M b\/b=c2) (a.own W):=
 #[R.Ek (B:=λ_=>False) (λb o e _=>G b o e) (λb z=>z.elim) (λb z=>z.elim) (λb z=>z.elim .inl λz=>.inr (by rw[z];show f)) (λb z _=>.inl z) (λb z=>z.elim (λz e=>(R.same G).mt b z e) λz=>by rw[z];show I),
  λb o e _=>G b o e,λb z _=>.inl z,λb z=>z.elim .inl λz=>.inr (by rw[z];show f),λb z=>.inl z,R.mt,R.dG]
theorem Lv.grown(L:Lv c H0 a m nf ns tl tv k H M s cv pk W Z)(G:aP H H')(f:H c2=none)(I:H' c2≠none):Lv c H0 a m nf ns tl tv k H' (λb=>M b\/b=c2) s cv pk W Z:=by
 let#[R2,_]:=Lw.grown L.S.R G f I;let S:=L.S.same G;show#[#[R2,S.ri,S.cv,S.D,S.p0,λb z=>#[.inl (S.sp b z).1,(S.sp b z).2],S.tw,S.lf,S.ls,S.lw,S.lz],L.C.same G,L.sm.trans G,λb z=>z.elim (L.fr b) λz=>by rw[z];show L.sm.free f,G _ _ L.ht,λz=>z.elim L.nt λz=>?_];have:=L.ht;rwa[z,f]at this
theorem Lv.wr(L:Lv c H0 a m nf ns tl tv k H M s cv pk W Z){xs:List V}{o:HO}(J:H c2=some (.lst xs))(h1:M c2)(h2:¬ a.own W c2)(I:¬ cZ m Z c2)(Y:c2≠tl):Lv c H0 a m nf ns tl tv k (upd H c2 o) M s cv pk W Z:=by
 let S:=L.S;let G:Off (· = c2) H (upd H c2 o):=Off.wr rfl;let R2:ax c (upd H c2 o) M a s W:=S.R.Ek (B:=(· = c2)) G (λb z=>by rw[z];show#[h1,h2]) (λb z=>.inl #[xs,by rw[z];show J]) (λb z=>.inl z) (λb z _=>z) (λb z e=>by
  cases y:b=c2
  .rw[y,ae]at e;cases e
  .rw[ai y]at e;show S.R.mt b z e)
 let O:cF (upd H c2 o) m (bL s) pk Z:=S.D.off G λb z y=>I (by rw[<-y];show z);show#[#[R2,S.ri,S.cv,O,S.p0,S.sp,S.tw,S.lf,S.ls,S.lw,S.lz],#[λt q b e=>?_,L.C.inj],λb u e=>?_,L.fr,by rw[ai (qs Y)];show L.ht,L.nt]
 .let#[z,h5,N]:=Pj.mp e;let#[y,U,h7]:=o8.mp N;rw[ai (λw=>I (by rw[<-w];show .inr (.inr (.inr #[_,Tb.aA h5,.inr (.inr #[_,Tb.aA U,h7.symm])]))))];show L.C.at_ _ _ _ e
 .rw[ai (λw=>by rwa[w,L.fr _ h1]at e)];show L.sm _ _ e
theorem Lv.begun(L:Lv c H0 a m nf ns tl tv k H M s cv pk W Z){t:Int}{y:TD}{H4 I U:Hp}{M4:Xm}{ab:Int}{G:Zs}{v:V}(hn:Tb.look W t=none)(R4:ax c H4 M4 a s (W++[(t,y)]))(ey:y.t=[])(J:Step H M (a.own W) H4 M4 (a.own (W++[(t,y)])))(s5:aP H4 I)
  (D6:cF U m (bL s) ab G) (p6:0<=ab/\∀cv,Ct I Z cv->Ct U G (iJ (.begin t) cv)/\FQ (.begin t) cv I U v) (Y:oX m I Z U G) (l6:G.length<=Z.length+1) (h6:mT (.begin t) (hZ Z) (hZ G)) (e6:mQ 0 (λv=>v≠0) (.begin t) (eZ Z) (eZ G)) :
  Lv c H0 a m nf ns tl tv (k+1) U (λb=>(M4 b/\¬ cZ m Z b)\/cZ m G b) s cv ab (W++[(t,y)]) G:=by
 let S:=L.S;let#[D4,O]:=ku S.D S.sp J;let R5:=R4.same s5;let#[R6,as]:=xk R5 (D4.same s5) O D6 Y;let en:ents (W++[(t,y)])=ents W:=(by rw[pL,ey];show T9 _);let aB:aP H0 H4:=λb u e=>J.off b u (L.sm _ _ e) λw=>(by rwa[L.fr b (S.R.dG b w)]at e);let ac:∀b,M4 b->H0 b=none:=λb z=>(J.mn b z).elim (L.fr b) λz=>L.sm.free z;let C5:Ct I Z cv:=#[λt q b e=>by
  let#[z,h5,hh]:=Pj.mp e;let#[x,h7,h8]:=o8.mp hh;show s5 _ _ (J.off _ _ (L.C.at_ _ _ _ e) (S.sp _ (.inr (.inr (.inr #[_,Tb.aA h5,.inr (.inr #[_,Tb.aA h7,h8.symm])])))).2),L.C.inj]
 let ap:=aB.trans s5;let am:I tl=some tv:=s5 _ _ (J.off _ _ L.ht λw=>L.nt (S.R.dG _ w));let ah:¬ M4 tl:=λz=>(J.mn _ z).elim L.nt λz=>(by rwa[L.ht]at z);show#[#[R6,by rw[en];show S.ri,λt' x N j e he=>?_,D6,p6.1,as,?_,S.lf,S.ls,3],(p6.2 cv C5).1,λb u e=>Y.1 b u (ap _ _ e) λw=>?_,λb z=>?_,Y.1 _ _ am λw=>ah (O _ w).1,λz=>?_]
 .rw[Tb.bC t' hn]at N;cases z:t'=t
  .rw[Xl z]at N;cases N;rwa[ey]at he
  .rw[Xk z]at N;show S.cv t' x N j e he
 .show S.tw.next (D:=.begin t) (λt'=>?_) h6 (λt' q=>?_) e6
  .unfold hW;rw[Tb.bC t' hn];cases z:t'=t
   .rw[Xl z,decide_eq_true z];rfl
   .rw[Xk z,decide_eq_false z];rfl
  .unfold eW;rw[Tb.bC t' hn];cases z:t'=t
   .rw[Xl z,Xl z,Q5,ey];rfl
   .rw[Xk z,Xk z]
 .rw[wh];have:=S.lw;change W.length+1<=k+1;show Qq this 1
 .have:=S.lz;omega
 .rw[ac b (O b w).1]at e;cases e
 .rcases z with z|z
  .show ac b z.1
  .rcases Y.2 b z with z|z
   .show ac b (O b z).1
   .show ap.free z
 .rcases z with z|z
  .show ah z.1
  .rcases Y.2 _ z with z|z
   .show ah (O _ z).1
   .rw[am]at z;cases z
end
abbrev Jh:Ow:=top 51
def yC(K:HC):Sp:=λvs H Q _=>∃(a:Addr)(ns:List Int),vs=[.ref a]/\bw K H a (ns.map V.int)/\ns.length<=63/\∀H',Q (.bl true) H'
inductive Ml(c:CA)(H0:Hp)(a:RA)(m:MA)(nf ns:Nat)(tl:Addr)(tv:HO)(k:Nat)(D:Dd)(r:Str)(H:Hp)(u:V):Prop
 |fine (H1:Hp) (M:Xm) (s:Pg.PS) (cv:Xn) (pk pk2:Int) (W:dq) (Z Z2:Zs) (_:r = "") (_:Lv c H0 a m nf ns tl tv k H1 M s cv pk W Z) (_:Dg Z (bL s) D) (_:cF H m (bL s) pk2 Z2) (_:0<=pk2/\∀cv,Ct H1 Z cv->Ct H Z2 (iJ D cv)/\FQ D cv H1 H u) (_:oX m H1 Z H Z2) (_:Z2.length<=Z.length+1) (_:mT D (hZ Z) (hZ Z2)) (_:mQ 0 (λv=>v≠0) D (eZ Z) (eZ Z2)) (_:∀t ad cc cs,D=.poke t ad cc cs->¬ M cc):Ml c H0 a m nf ns tl tv k D r H u
 |no(M:Xm)(s:Pg.PS)(cv:Xn)(pk:Int)(W:dq)(Z:Zs)(_:Gj Z (bL s) D r)(_:Lv c H0 a m nf ns tl tv k H M s cv pk W Z):Ml c H0 a m nf ns tl tv k D r H u
inductive NA(c:CA)(H0:Hp)(a:RA)(m:MA)(nf ns:Nat)(tl:Addr)(tv:HO)(k:Nat)(D:Dd)(r:Str)(d h c2:Addr)(u v:V)(H:Hp):Prop
 |mk(M:Xm)(s:Pg.PS)(cv:Xn)(pk:Int)(W:dq)(Z:Zs)(_:Lv c H0 a m nf ns tl tv k H M s cv pk W Z)(_:qH H d h c2 D)(_:jV D = "poke" -> M c2/\¬ a.own W c2/\¬ cZ m Z c2/\c2≠tl)(_:∀t ad n,D=.peek t ad n->r = "" -> ∃(l q:Addr)(xs:List Int),v=.ref l/\u=.ref q/\H l=some (.lst (xs.map V.int))/\H q=some (.lst (xs.map V.int))/\xs.length<=100/\∀o,Lv c H0 a m nf ns tl tv k (upd H l o) M s cv pk W Z)
section
variable{c:CA}{H0 H H':Hp}{M:Xm}{a:RA}{m:MA}{nf ns k:Nat}{tl:Addr}{tv:HO}{s:Pg.PS}{cv:Xn}{pk:Int}{W:dq}{Z:Zs}{d h c2:Addr}{D:Dd}{r:Str}
theorem qH.off{O:Xm}(A:qH H d h c2 D)(st:Off O H H')(J:∀b xs,H b=some (.tup xs)->¬ O b)(I:∀t ad c cs,D=.poke t ad c cs->¬ O c/\¬ O c2):qH H' d h c2 D:=by
 show#[#[st _ _ A.at_.1 (J _ _ A.at_.1),λt ad G cs e=>st _ _ (A.at_.2 t ad G cs e) (I t ad G cs e).1],#[st _ _ A.ah.1 (J _ _ A.ah.1),λt ad G cs e=>?_],A.ne,A.eq];let N:=A.ah.2 t ad G cs e;cases D with
 |poke t' R U S =>
  let L:Dd.poke t' R c2 S=.poke t ad G cs:=e;cases L;show st _ _ N (I _ _ _ _ rfl).2
 |_=>cases e
theorem Hq(R:ax c H M a s W)(G:aP H H')(I:jV D = "poke" -> H c2=none/\H' c2≠none):∃M',ax c H' M' a s W/\Step H M (a.own W) H' M' (a.own W)/\(jV D = "poke" -> M' c2):=by
 cases z:jV D = "poke"
 .let#[R2,st]:=grown R G (I z).1 (I z).2;show#[_,R2,st,λ_=>.inr rfl]
 .show#[M,R.same G,R.gv G,λy=>absurd y z]
theorem IV(L:Lv c H0 a m nf ns tl tv k H M s cv pk W Z)(G:aP H H')(I:jV D = "poke" -> H c2=none/\H' c2≠none):∃M',Lv c H0 a m nf ns tl tv k H' M' s cv pk W Z/\(jV D = "poke" -> M' c2):=by
 cases z:jV D = "poke"
 .show#[_,L.grown G (I z).1 (I z).2,λ_=>.inr rfl]
 .show#[M,L.same G,λy=>absurd y z]
theorem Lv.w1(L:Lv c H0 a m nf ns tl tv k H M s cv pk W Z)(h:k<=1000):W.length<=1000:=L1 L.S.lw h
theorem Lv.z1(L:Lv c H0 a m nf ns tl tv k H M s cv pk W Z)(h:k<=1000):Z.length<=1000:=L1 L.S.lz h
theorem Nz{t ad:Int}{G:Addr}{cs:List Int}(e:D=.poke t ad G cs):jV D = "poke" := by rw[e];rfl
theorem BQ{l:Addr}{o:HO}(I:aP H H'):aP (upd H l o) (upd H' l o):=λb u G=>by
 cases z:b=l
 .rw[z,ae]at G ⊢;show G
 .rw[ai z]at G ⊢;show I _ _ G
theorem fQ:aE ["_law_script","_law_m","_law_frames","_law_slots","_law_tasks_here","_law_kept","_law_model_here","_law_task","_law_k","_law_deed_here","_law_due_here","_law_answer","_law_handed","_law_word_here","_law_found"] ["_law_script"] (aw Jh):=L2.bN
theorem Nh{t:TS}{D:Ends}{σ:St}{H:Hp}(k:∀G:Ends,(∀σ H,D.nx σ H->G.nx σ H)->t G σ H):t D σ H:=k D λ_ _ h=>h
theorem KR{D:Ends}{σ:St}{H:Hp}{t1 I G Y J t6 t7 N:TS}(k:∀R,Le N R->∀u7,Le (cy t7 R) u7->∀u6,Le (cy t6 u7) u6->∀L,Le (cy J u6) L->∀O,Le (cy Y L) O->∀S,Le (cy G O) S->∀U,Le (cy I S) U->cy t1 U D σ H):cy t1 (cy I (cy G (cy Y (cy J (cy t6 (cy t7 N)))))) D σ H:=k _ Le.rfl _ Le.rfl _ Le.rfl _ Le.rfl _ Le.rfl _ Le.rfl _ Le.rfl
theorem Jd{D:Ends}{σ:St}{H:Hp}{t1 J G t4 L t6 t7 R t9 I U:TS}(k:∀ac,Le U ac->∀ab,Le (cy I ac) ab->∀N,Le (cy t9 ab) N->∀Y,Le (cy R N) Y->∀u7,Le (cy t7 Y) u7->∀u6,Le (cy t6 u7) u6->∀O,Le (cy L u6) O->∀S,Le (cy t4 O) S->∀u3,Le (cy G S) u3->∀u2,Le (cy J u3) u2->cy t1 u2 D σ H):cy t1 (cy J (cy G (cy t4 (cy L (cy t6 (cy t7 (cy R (cy t9 (cy I U))))))))) D σ H:=k _ Le.rfl _ Le.rfl _ Le.rfl _ Le.rfl _ Le.rfl _ Le.rfl _ Le.rfl _ Le.rfl _ Le.rfl _ Le.rfl
theorem Gr{D:Ends}{σ:St}{H:Hp}{te:TE}{i:Nat}(k:∀Q:V->Hp->Prop,(∀x H1,D.nx (σ.set i (some x)) H1->Q x H1)->te σ H Q):zN te (mH i) D σ H:=k _ λ_ _ h=>h
theorem IQ{D:Ends}{σ:St}{H:Hp}{t r:TS}(G:St->Hp->Prop)(h:∀σ H,G σ H->r D σ H)(mk:∀I:St->Hp->Prop,(∀σ H,G σ H->I σ H)->t { D with nx:=I } σ H):cy t r D σ H:=mk (r D) h
theorem Gp{Z:Zs}{tt:Int}{D:Dd}{r:Str}(h:Gj Z tt D r):r ≠ "" := by
 rintro rfl;let L:¬ ("" : Str) = "NoTask" := (by decide +kernel);let I:¬ ("" : Str) = "NoPage" := (by decide +kernel);let G:¬ ("" : Str) = "NoRoom" := (by decide +kernel);let J:¬ ("" : Str) = "Taken" := (by decide +kernel);cases D<;>simp only[Gj,L,I,G,J,false_and,or_self,and_false,exists_false]at h
theorem Mo(D:Dd):AW (qv D) 0=some (.str (jV D)):=by cases D<;>rfl
inductive NR(c:CA)(H:Hp)(a:RA)(m:MA)(sc tl:Addr)(n0:Int)(ts:List Int)(i:Nat)(σ:L2.St)(H7:Hp):Prop
 |mk(v7 v8 v9 v10 v11 v12 v13 v14:Option V)(M:Xm)(sS:Pg.PS)(cv:Xn)(pk:Int)(W:dq)(Z:Zs)(_:σ=#v[.ref sc,.int n0,.int (jx n0),.int (jN n0),.ref tl,.ref a.rp,.ref m.md,v7,v8,v9,v10,v11,v12,v13,v14])(_:Lv c H a m (jx n0) (jN n0) tl (.lst (ts.map V.int)) (i+2) H7 M sS cv pk W Z)
inductive NY(c:CA)(H:Hp)(a:RA)(m:MA)(sc tl:Addr)(n0:Int)(ts:List Int)(p6:Addr)(n:Nat)(i:Nat)(σ:L2.St)(H7:Hp):Prop
 |mk(v7:Option V)(M:Xm)(sS:Pg.PS)(cv:Xn)(pk:Int)(W:dq)(Z:Zs)(_:σ=#v[.ref sc,.int n0,.int (jx n0),.int (jN n0),.ref tl,.ref a.rp,.ref m.md,v7,none,none,none,none,none,none,none])(_:Lv c H a m (jx n0) (jN n0) tl (.lst (ts.map V.int)) i H7 M sS cv pk W Z)(_:Lv c H a m (jx n0) (jN n0) p6 (.lst ((ts.take n).map V.int)) i H7 M sS cv pk W Z)(_:∀t,Tb.look W t≠none->t<=(i:Int))
theorem Fi{D:Dd}(h:jV D = "peek"):∃t ad n,D=.peek t ad n:=by
 cases D<;>first|show#[2,0]|show absurd h (by dsimp only[jV];decide +kernel)
theorem yO{D:Dd}(h:jV D = "poke"):∃t ad G cs,D=.poke t ad G cs:=by
 cases D<;>first|show#[2,_,0]|show absurd h (by dsimp only[jV];decide +kernel)
theorem Ig(Z:Zs)(h:∀x∈Z,x.2.pl.length<=64):AV Z<=64*(Z.length:Int):=by
 unfold AV
 induction Z with
 |nil=>show OX _
 |cons a r I =>
  let h1:=h a Oz;let h2:=I λx G=>h x (Ou _ G);rw[PM,QA,K4];omega
theorem Js{f db:Addr}{fd d3:p4}{c:CA}{xa:XA}(F:cE K "law" "law" Jh f fd)(T:mS mg)(TR:mY K mg c)(MK:LL P w K mg base c)(MR:Mk K c.C db)(ev:mg "Rooms" = some (.ref c.C))(fn:↥aV 5 db d3 ["self","frames","slots"] (sf c))(ep:Binds K d3 ["self","frames","slots"] [])(c0:↥Df 2 "_law_number" (oV K))(fb:↥Df 1 "_law_sizes" uq)(fu:↥Df 1 "_law_tasks" uh)(fT:↥Df 1 "_law_model" sF)(fa:↥Df 2 "_law_deed" ye)(fc:↥Df 2 "_law_due" Ea)(c5:↥Df 1 "_law_done" wb)(el:↥Df 12 "_law_word" (tU c xa))(fo:↥Df 2 "_law_numbers" jK)(ef:↥Df 1 "_law_held" lj)(ee:↥Df 11 "_law_all_right" (wH c))(eu:↥Md 2 c.C "held" (gG c)) :
  ↥aV 13 f fd ["_law_script"] (yC K):=by
 show F.ok fQ (λvs H Q E h=>?_) (λf7 A outer s H vs Q E hr h=>?_)
 .let#[a,ns,rfl,_]:=h;rfl
 .let#[sc,ns,rfl,cP,f8,k]:=h;let hs:=vl;show#[_,(aj (dt 1 fQ.nd (pc c0 hr aC (aa (pv 0) (aa ak ag))))
   (aj (cU (pc fb hr aC (aa (pv 1) ag)) (dU rfl (bj (gH 2 fQ.nd) (bj (gH 3 fQ.nd) de))))
   (aj (dt 4 fQ.nd (pc fu hr aC (aa (az bo (pv 1) ak) ag)))
   (aj (dt 5 fQ.nd (ng MR fn (hr.mono ar) (by rfl) ev ep .nil aC (aa (pv 2) (aa (pv 3) ag))))
   (aj (dt 6 fQ.nd (pc fT hr aC (aa (az bu (pv 2) (pv 3)) ag)))
   (aj (dD Ol rfl (eQ (cJ gh (pv 4) eg (cN (az br (az bo (pv 1) ak) ak)))) (gH 7 fQ.nd) (aj (aO (pm (pv 5) TR.cl MK.LC hr aC (aa (pv 7) ag)))
   (ao (aO (pc c5 hr aC (aa (pv 6) (aa (cI (aa aF (aa (pv 7) ag))) ag)))))))
   (aj (dD Ol rfl (gn (by rfl) T.range (aa ak (aa (aQ (zu rfl) (by rfl) T.max Hu (aa ak (aa (aQ bF (by rfl) T.len boot_len (aa (cJ gh (pv 0) eg (cN ak)) ag)) ag))) ag))) (gH 8 fQ.nd) (aj (dt 9 fQ.nd (pc fa hr aC (aa (pc c0 hr aC (aa (pv 0) (aa (pv 8) ag))) (aa (pv 4) ag))))
   (aj (dt 10 fQ.nd (pc fc hr aC (aa (pv 6) (aa (pv 9) ag))))
   (aj (dt 11 fQ.nd fZ)
   (aj (aU (aD bH (pv 10) aF (aG _)) (ao (dt 11 fQ.nd (pc c5 hr aC (aa (pv 6) (aa (pv 9) ag))))) aI)
   (aj (dt 12 fQ.nd (pv 9))
   (aj (aU (aD bH (aY bf (pv 9) ak cz) aF (aG _)) (ao (dt 12 fQ.nd (az EO (cJ jz (pv 9) eg (cN ak)) (cI (aa (bU dR (by rfl) T.list fE (aa (aY bf (pv 9) ak cz) ag)) ag))))) aI)
   (aj (cU (pc el hr aC (aa (pv 5) (aa (pv 12) ag))) (dU rfl (bj (gH 13 fQ.nd) (bj (gH 14 fQ.nd) de))))
   (aj (aU (PW.pt (ie (aD Du (pv 13) (pv 10) (aG _)) (gO (aD (E6 1 (Qh (UT (by decide:2<=64) _) hr.units)) (pv 12) (pv 9) (aG _))))) (ao (aK kS)) aI)
   (aj (aU (aD bH (aY bf (pv 9) ak cz) aF (aG _)) (aj (aO (gq OM PX PY ic (aY bf (pv 12) ak cz) (aa ak ag)))
   (ao (cU ak (eO (aY bf (pv 12) ak cz) ak set_list)))) aI)
   (aj (aU (PW.pt (BW (aD bH (pv 10) aF (aG _)) (yI (aD bH (aY bf (pv 9) ak cz) aF (aG _))))) (aj (aU (sG (gu (pc fo hr aC (aa (pv 14) (aa (pv 11) ag))))) (ao (aK kS)) aI)
   (ao (aO (gq OM PX PY ic (pv 14) (aa ak ag))))) aI)
   (ao (aU (aD Du (pJ (pv 5) TR.cl eu hr aC) (pc ef hr aC (aa (pv 6) ag)) (aG _)) (ao (aK kS)) aI)))))))))))))
   (ao (aK (pc ee hr aC (aa (pv 5) (aa (pv 6) ag)))))))))))),?_]
  show KR λu8 e8 u7 e7 u6 e6 u5 e5 u4 e4 u3 e3 u2 e2=>?_;show iT λ_ I=>?_;show#[0,sc,ns,(0),rfl,cP,af,af,λG H1 s1=>I _ _ (e2 _ _ _ ?_)];clear I e2 u2;let#[_,f2,gd]:=DQ G;let#[_,gl]:=CQ G;show#[0,G,rfl,λH2 t2 s2 _ c1=>#[t2,0,bP.of c1,4,0,_,0,rfl,e3 _ _ _ ?_]];clear e3 u3;show iT λ_ I=>?_;show#[0,_,0,rfl,#[ar,ar],0,λH3 tl ts s3 gb bv he l5 fl=>I _ _ (e4 _ _ _ ?_)];clear I e4 u4;let S3:=s1.trans (s2.trans s3);show iT λ_ I=>?_;show#[0,0,λrp dx np fI f9=>#[rp,dx,jx G,jN G,rfl,af,af,af,ae,λH4 M a ea R fr o4=>#[rfl,I _ _ (e5 _ _ _ ?_)]]];clear I e5 u5;let s4:aP H3 H4:=λb u e=>o4 b u (by rw[ai (au e np),ai (au e fI)];show e) (au e np);let b7:∀b,M b->H3 b=none:=λb z=>(cL (cL (fr b z)).2).2;clear o4 fr;rw[<-ea];let et:bL (s0 (jx G) (jN G))=((jx G:Nat):Int)+((jN G:Nat):Int):=by
   unfold bL;rw[show((s0 (jx G) (jN G)).ow true).length=jx G from OV,show((s0 (jx G) (jN G)).ow false).length=jN G from OV];omega
  show iT λ_ I=>?_;show#[0,0,_,0,rfl,0,λH5 m s5 g1 g2 g3 D5=>I _ _ (e6 _ _ _ ?_)];clear I e6 u6;rw[<-et]at D5;let c7:∀b,cZ m [] b->H5 b≠none:=λb z e=>by
   rcases D5.alive b z with⟨_,h⟩|⟨_,h⟩
   .rw[e]at h;cases h
   .rw[e]at h;cases h
  let z4:∀b,cZ m [] b->H4 b=none:=λb z=>by
   rcases z with z|z|z|⟨x,hx,_⟩
   .rw[z];show g1
   .rw[z];show g2
   .rw[z];show g3
   .cases hx
  let R5:=R.Ek (H':=H5) (B:=λ_=>False) (M':=λb=>M b\/cZ m [] b) (λb o e _=>s5 b o e) (λb z=>z.elim) (λb z=>z.elim) (λb z=>z.elim .inl λz=>.inr (z4 b z)) (λb z _=>.inl z) (λb z e=>z.elim (λz=>(R.same s5).mt b z e) λz=>c7 b z e);let c6:∀b,cZ m [] b->(M b\/cZ m [] b)/\¬ a.own [] b:=λb z=>#[.inr z,λw=>R.mt b (R.dG b w) (z4 b z)];let T0:Tw [] []:=#[λ_=>rfl,λ_ _=>rfl];let L5:Lv c H a m (jx G) (jN G) tl (.lst (ts.map V.int)) 0 H5 (λb=>M b\/cZ m [] b) (s0 (jx G) (jN G)) (λ_ _=>[]) 0 [] []:=
   #[#[R5,Lf af,λt x hx=>(by cases hx),D5,OX _,c6,T0,OV,OV,ti _,ti _],#[λ_ _ _ e=>(by cases e),λ_ _ _ _ _ e=>(by cases e)],S3.trans (s4.trans s5),λb z=>S3.free (z.elim (b7 b) λz=>s4.free (z4 b z)),s5 _ _ (s4 _ _ bv),λz=>z.elim (λz=>by rwa[b7 _ z]at bv) λz=>by have:=s4.free (z4 _ z);rwa[bv]at this]
  clear c7 z4 R5 c6 T0 D5 g1 g2 g3 s5 s4 b7 R S3 s3 s2 s1 c1;generalize (λb=>M b\/cZ m [] b)=M5 at L5;clear M;let q0:=Pu (G/99) (show(3:Int)≠0 by decide);let q1:=Pc (G/99) (show(0:Int)<3 by decide);show#[0,0,_,0,rfl,#[ar,ar],_,0,rfl,J0,0,tl,0,bw.of L5.ht,λp6 b1=>?_];obtain⟨n,en⟩:∃n:Nat,G/99%3=(n:Int):=#[(G/99%3).toNat,af];rw[en,Rm.ph];let s6:=Tb.av (X:=.lst ((ts.take n).map V.int)) b1;let d5:¬ M5 p6:=λz=>L5.S.R.mt p6 z b1;let L6:=L5.same s6;let J6:Lv c H a m (jx G) (jN G) p6 (.lst ((ts.take n).map V.int)) 0 (upd H5 p6 (.lst ((ts.take n).map V.int))) M5 (s0 (jx G) (jN G)) (λ_ _=>[]) 0 [] []:=#[L6.S,L6.C,L6.sm,L6.fr,ae,d5];clear L5 s6 d5 b1;generalize upd H5 p6 (.lst ((ts.take n).map V.int))=H6 at *;show#[p6,rfl,#[_,bw.of J6.ht],?_];let hx:∀(i:Nat)(x:V),((ts.take n).map V.int)[i]?=some x->x=.int ((i:Int)+1)/\i<2:=λi x e=>by
   let#[r,rfl]:=he;let hn:n<=2:=af;rw[t5]at e;let#[y,e1,e2]:=o8.mp e;rw[RS]at e1;cases z:i<n
   .rw[Xl z]at e1;obtain h|h:i=0\/i=1:=af
    .subst h;cases e1;subst e2;show#[rfl,ar]
    .subst h;cases e1;subst e2;show#[rfl,ar]
   .rw[Xk z]at e1;cases e1
  show eV (K:=K) (a:=p6) (xs:=(ts.take n).map V.int) (NY c H a m sc tl G ts p6 n)
   #[_,M5,2,(0),[],[],rfl,L6,J6,λt z=>absurd rfl z] (λi σ H7 _ z0=>by let#[_,_,_,_,_,_,_,_,_,J,_]:=z0;show bw.of J.ht) ?_ ?_
  .clear L6 J6 M5 H6 H5;rintro i x σ H7 ex ⟨v7,M,U,cv,pk,W,Z,rfl,Y,J7,hw⟩;let#[rfl,i2]:=hx i x ex;show Kt λ_ I=>?_;let#[ew,d7]:=Y.S.R.ob;let a6:Tb.look W ((i:Int)+1)=none:=by
    cases q:Tb.look W ((i:Int)+1)with
    |none=>rfl
    |some y=>have:=hw _ (by rw[q];intro z;cases z);omega
   show#[0,a.rp,ew,0,d7,gc _ _ _ aq aq aq,0,M,a,U,W,0,Y.S.R,a6,Y.w1 af,λH8 M8 y ey R8 cq=>I _ _ ?_];clear I;show Ga λ_ I=>?_;show#[0,0,dZ,λd hd=>?_];let s9:=Tb.av (X:=.tup [V.str "begin",.int ((i:Int)+1)]) hd;let#[D8,_]:=ku Y.S.D Y.S.sp cq;show#[m,_,pk,Z,d,.begin ((i:Int)+1),rfl,D8.same s9,Y.S.p0,Y.z1 af,#[ae,λ_ _ _ _ e=>(by cases e)],(Y.S.tw.look _).mp a6,λ_ _ _ _ e=>(by cases e),λ_ _ _ e=>(by cases e),λcg a2 Z2 u dj dI c9 c4 dO a7=>I _ _ ?_];show#[2,U,cv,a2,_,Z2,rfl,Y.begun a6 R8 ey cq s9 dj dI c9 c4 dO a7,J7.begun a6 R8 ey cq s9 dj dI c9 c4 dO a7,λt z=>?_];rw[Tb.bC t a6]at z;cases y:t=(i:Int)+1
   .rw[y];omega
   .rw[Xk y]at z;have:=hw t z;omega
  .clear L6 J6 M5 H6 H5;rintro σ H7 ⟨v7,M,U,cv,pk,W,Z,rfl,Y,J7,eP⟩;let n2:((ts.take n).map V.int).length<=2:=(by rw[mu,Oj];omega);let L5:=Y.up n2;let dm:=Rm.fg cP (L5.sm _);clear Y n2 J7 eP;show e7 _ _ _ ?_;let ec:fA (ns.map V.int) none (some (63:Int))=(ns.take 63).map V.int:=Rm.ph (s:=63);show#[0,0,sc,0,dm,λp7 c8=>?_];let s7:=Tb.av (X:=.lst (fA (ns.map V.int) none (some (63:Int)))) c8;show#[p7,0,.inl (bw.of ae),_,0,?_];rw[ec]at s7 ⊢;rw[mu,Oj];generalize eN:(if ((min 63 ns.length:Nat):Int)>2 then((min 63 ns.length:Nat):Int)else 2)=N;let hN:2<=N/\N<=63:=(by rw[<-eN];split<;>omega);show#[_,0,#[ar,ar,af,af],?_];show jD (lo:=1) (n:=(N-1).toNat) (NR c H a m sc tl G ts)
    #[2,2,2,2,M,U,cv,pk,W,Z,rfl,L5.same s7] ?_ ?_
   .clear c8 s7 L5 dm ec M U cv pk W Z;rintro i σ H7 hi ⟨v7,v8,v9,f0,fD,d2,ci,ch,M,U,cv,pk,W,Z,rfl,Y⟩;let i2:i+2<=1000:=af;let i3:i+3<=1000:=af;let i1:1+i<=100:=af;let n1:ns.length<=100:=af;clear hi eN hN;show Nh (t:=cy _ _) λDe jn=>?_;show Jd λf5 bd eH a7 u9 e9 u8 e8 u7 e7 u6 e6 u5 e5 u4 e4 u3 e3 u2 e2=>?_;show iT λ_ I=>?_;show#[0,0,sc,ns,1+i,by rw[Int.natCast_add];rfl,Rm.fg cP (Y.sm _),n1,i1,λnh H8 s8=>?_];let L8:=Y.same s8;clear Y s8;show#[0,nh,tl,ts,rfl,L8.ht,by let#[r,rfl]:=he;show Nat.succ_pos _,l5,fl,λH9 d D s9 hd ac b6 em=>I _ _ (e2 _ _ _ ?_)];clear I e2 u2;let L9:=L8.same s9;let bI:∀t ad O cs,D=.poke t ad O cs->¬ M O/\O≠tl:=λt ad O cs e=>#[λz=>L8.S.R.mt O z (b6 t ad O cs e),λz=>by have:=L8.ht;rwa[<-z,b6 t ad O cs e]at this];clear L8 b6 s9 em;show iT λ_ I=>?_;show#[0,0,m,_,pk,Z,d,D,rfl,L9.S.D,L9.z1 i2,hd,ac,λr cg bm b8=>I _ _ (e3 _ _ _ ?_)];clear I e3 u3;let aT:=L9.same bm;let bx:iV cg d D:=#[bm _ _ hd.1,λt ad O cs e=>bm _ _ (hd.2 t ad O cs e)];clear L9 hd bm;show iT λ_ I=>I _ _ (e4 _ _ _ ?_);clear I e4 u4;show oi (λσ a0=>∃u,σ=#v[.ref sc,.int G,.int (jx G),.int (jN G),.ref tl,.ref a.rp,.ref m.md,v7,.int (1+(i:Int)),.ref d,.str r,some u,d2,ci,ch]/\iV a0 d D/\Ml c H a m (jx G) (jN G) tl (.lst (ts.map V.int)) (i+2) D r a0 u) (λap QQ ji je=>?A1) ?B1
    case A1 =>
     show#[0,rfl,0,?_];show pV (λcr=>ji _ ?_) (λcr=>je _ #[.non,rfl,bx,?_])
     .let er:r = "" := V.str.inj (of_decide_eq_true cr);let fi:Dg Z (bL U) D:=b8.elim (·.2) λz=>absurd er (Gp z);show Gr λ_ I=>?_;show#[0,0,m,_,pk,Z,d,D,rfl,aT.S.D,aT.S.p0,aT.z1 i2,bx,fi,(λt ad O cs e=>?_),(λt ad n e=>?_),λa3 a2 Z2 u8 ek ej da fv fx eb=>I _ _ (ap _ _ ?_)]
      .subst e;show#[λw=>(bI _ _ _ _ rfl).1 (aT.S.sp _ w).1,ac.2.1,ac.2.2.1,ac.2.2.2]
      .subst e;show#[ac.2.1,ac.2.2.1,ac.2.2.2.2]
      .show#[u8,rfl,aT.Ii bx (λt ad O cs e=>(bI t ad O cs e).1) da,.fine cg M U cv pk a2 W Z Z2 er aT fi ek ej da fv fx eb λt ad O cs e=>(bI t ad O cs e).1]
     .show .no M U cv pk W Z (b8.elim (λz=>?_) id) aT;show absurd (decide_eq_true (congrArg V.str z.1)) cr
    case B1 =>
    rintro σ a0 ⟨u,rfl,aB,ca⟩;clear aT bx b8 bI M U cv pk W Z;show e5 _ _ _ ?_;show iT λ_ I=>#[0,I _ _ (e6 _ _ _ ?_)];clear I e5 u5 e6 u6;show oi (λσ a3=>∃h c2,σ=#v[.ref sc,.int G,.int (jx G),.int (jN G),.ref tl,.ref a.rp,.ref m.md,v7,.int (1+(i:Int)),.ref d,.str r,some u,.ref h,ci,ch]/\aP a0 a3/\qH a3 d h c2 D/\(jV D = "poke" -> a0 c2=none/\a3 c2≠none)) (λap QQ ji je=>?A2) ?B2
    case A2 =>
     clear ca;show#[0,d,2,.str (jV D),1,bP.of aB.1,Mo D,rfl,0,?_];show pV (λcp=>ji _ ?_) (λcp=>je _ ?_)
     .let#[t,ad,O,cs,rfl]:=yO (V.str.inj (of_decide_eq_true cp));show Gr λ_ I=>?_;show#[0,0,d,0,bP.of aB.1,(λz=>absurd z.2 (by change ¬ HT.dE 4 4 (some 3)=4;decide)),λ_ p8 ei=>?_];let s1:=Tb.av (X:=.tup (fA (qv (.poke t ad O cs)) none (some 3))) ei;let g1:upd a0 p8 (.tup (fA (qv (.poke t ad O cs)) none (some 3))) p8=some (.tup [V.str "poke",.int t,.int ad]):=ae;generalize upd a0 p8 (.tup (fA (qv (.poke t ad O cs)) none (some 3)))=Ha at *;let bb:=s1 _ _ (aB.2 _ _ _ _ rfl);show#[0,d,2,.ref O,1,bP.of (s1 _ _ aB.1),rfl,O,0,.inl (bw.of bb),λc2 as=>?_];let s2:=Tb.av (X:=.lst (cs.map V.int)) as;let g2:upd Ha c2 (.lst (cs.map V.int)) c2=some (.lst (cs.map V.int)):=ae;generalize upd Ha c2 (.lst (cs.map V.int))=Hb at *;show#[sH,λp9 ft=>?_];let s3:=Tb.av (X:=.tup [V.ref c2]) ft;let g3:upd Hb p9 (.tup [V.ref c2]) p9=some (.tup [V.ref c2]):=ae;generalize upd Hb p9 (.tup [V.ref c2])=Hc at *;show#[p8,p9,_,0,rfl,bP.of (s3 _ _ (s2 _ _ g1)),bP.of g3,(λz=>by cases z),uI,(λz=>by cases z),λ_ h hh=>I _ _ (ap _ _ ?_)];let s4:=Tb.av (X:=.tup (qv (.poke t ad c2 cs))) hh;let sA:=s1.trans (s2.trans (s3.trans s4));let g5:=s4 _ _ (s3 _ _ g2);show#[h,c2,rfl,sA,#[#[sA _ _ aB.1,λ_ _ _ _ e=>sA _ _ (aB.2 _ _ _ _ e)],#[ae,λ_ _ _ _ e=>(by cases e;show g5)],λ_ _ _ _ e=>(by cases e;show λz=>by rwa[z,bb]at as),λz=>absurd rfl z],λ_=>#[s1.free as,λz=>(by cases g5.symm.trans z)]]
     .let np:jV D ≠ "poke" := λz=>cp (decide_eq_true (congrArg V.str z));show#[d,d,rfl,aP.refl _,#[aB,by rw[Dm np];show aB,λ_ _ _ _ e=>absurd (Nz e) np,λ_=>rfl],λz=>absurd z np]
    case B2 =>
    rintro σ a3 ⟨h,c2,rfl,b0,a5,am⟩;clear aB;show e7 _ _ _ ?_;clear e7 u7;show IQ (λσ bY=>∃v,σ=#v[.ref sc,.int G,.int (jx G),.int (jN G),.ref tl,.ref a.rp,.ref m.md,v7,.int (1+(i:Int)),.ref d,.str r,some u,.ref h,.str r,some v]/\NA c H a m (jx G) (jN G) tl (.lst (ts.map V.int)) (i+3) D r d h c2 u v bY) ?B3 (λr' ap=>?A3)
    case A3 =>
     cases ca with
     |fine H1 M U cv pk a2 W Z Z2 er L fi bn cC bc dT dp bd bb =>
      subst er;let#[ce,f4]:=xk L.S.R L.S.D L.S.sp bn bc;let#[be,dL,dz,cS]:=Hq (D:=D) ce b0 am;show#[0,0,.fine be a U W cv h (B0 D c2) rfl dL L.S.ri L.S.cv (L.w1 i2) a5.ah (IA.mpr (Kk L.S.tw L.S.R L.S.D ac fi)) λeC ez a4 dl b3 v T f3 dM bi a8 d4 cT d1 dV hT=>#[T,0,bP.of hT,4,0,_,0,rfl,ap _ _ #[v,5]]];let dr:Cv a4 dl b3/\b3=iJ D cv:=#[bi.1,bi.2.1.trans KO];let b2:jV D = "poke" -> ¬ a.own W c2:=λe w=>ce.mt c2 (ce.dG _ w) (am e).1;show#[ez,a4,b3,a2,dl,Z2,L.Km bn cC bc dT dp bd f3 dM dr (dz.trans a8) d4 cT (GJ.mp d1) (Gu.mp dV),a5.off a8.off (λb xs hb=>lu dL hb) (λt ad O cs e=>#[λw=>bb t ad O cs e (L.S.R.dG _ w),b2 (Nz e)]),λe=>#[a8.mm _ (cS e) (b2 e),λw=>(a8.on _ w).elim (b2 e) (am e).2,λw=>?_,λw=>?_],λt ad n e _=>?_]
      .rcases bn.alive _ w with⟨_,y⟩|⟨_,y⟩
       .rw[(am e).1]at y;cases y
       .rw[(am e).1]at y;cases y
      .let y:=bc.1 _ _ L.ht λw=>L.nt (L.S.sp _ w).1;rwa[<-w,(am e).1]at y
      .subst e;let#[q,e1,e2,e3]:=(cC.2 cv L.C).2;let#[p,e4,e5,e6]:=bi.2.2.1;let#[p',e7,e8,e9]:=bi.2.2.2;cases e4.symm.trans e7;show#[p,q,_,e4,e1,e6,a8.off _ _ (b0 _ _ e3) λw=>L.S.R.mt q (L.S.R.dG _ w) e2,?_,λo=>L.Km bn cC bc dT dp bd (e9 o).1 dM dr (dz.trans (e9 o).2) d4 cT (GJ.mp d1) (Gu.mp dV)];unfold rP;rw[mu,O0];have:=ac.2.2.2;omega
     |no M U cv pk W Z rf L =>
      let#[be,a1,cS]:=IV (D:=D) L b0 am;let ga:=Ig Z λx hx=>L.S.D.len hx;let lz:=L.S.lz;let eh:=L.S.tw.held L.S.R L.S.D;let#[C,eo,eq]:=N0 xa a1.S.tw a1.S.R a1.S.D af rf;show#[0,0,.no be a U W h (B0 D c2) r C rfl a1.S.R (a1.w1 i2) af a5.ah (Nu.mpr ac) eo (Np.mpr eq) λeC T a4 hT=>#[T,0,bP.of hT,4,0,_,0,rfl,ap _ _ #[.non,5]]];show#[be,U,cv,pk,W,Z,(a1.same a4).up (Sk _),a5.same a4,λe=>#[cS e,λw=>L.S.R.mt c2 (L.S.R.dG _ w) (am e).1,λw=>L.S.R.mt c2 (L.S.sp _ w).1 (am e).1,λw=>by let y:=L.ht;rwa[<-w,(am e).1]at y],λt ad n e er=>absurd er (Gp rf)]
    case B3 =>
    let fH:∀t ad O cs,D=.poke t ad O cs->cs.length<=100:=λt ad O cs e=>(by subst e;show ac.2.2.2);clear ca b0 a5 am ac;rintro σ bY ⟨v,rfl,M,U,cv,pk,W,Z,b5,ab,dd,d8⟩;show e8 _ _ _ ?_;clear e8 u8;show F6 λQQ ji je=>?_;show#[0,0,rfl,0,?_];rw[decide_eq_true rfl];show b9 ?_;show#[0,0,h,d,_,0,rfl,bP.of ab.ah.1,bP.of ab.at_.1,ab.deep,0,je _ (e9 _ _ _ ?_)];clear ji je e9 u9;show oi (λσ bl=>σ=#v[.ref sc,.int G,.int (jx G),.int (jN G),.ref tl,.ref a.rp,.ref m.md,v7,.int (1+(i:Int)),.ref d,.str r,some u,.ref h,.str r,some v]/\Lv c H a m (jx G) (jN G) tl (.lst (ts.map V.int)) (i+3) bl M U cv pk W Z/\bl d=some (.tup (qv D))/\(jV D = "peek" -> bl=bY)) (λap QQ ji je=>?A4) ?B4
    case A4 =>
     show#[0,d,2,.str (jV D),1,bP.of ab.at_.1,Mo D,rfl,0,?_];show pV (λcp=>ji _ ?_) (λcp=>je _ #[rfl,b5,ab.at_.1,λ_=>rfl]);let#[t,ad,O,cs,rfl]:=yO (V.str.inj (of_decide_eq_true cp));let#[m1,m2,m3,m4]:=dd rfl;let as:=ab.ah.2 t ad c2 cs rfl;let nt:∀(b:Addr)(xs:List V),bY b=some (.tup xs)->b≠c2:=λb xs e z=>(by rwa[z,as]at e);let lc:=fH _ _ _ _ rfl;show Kt λ_ I=>?_;show#[0,h,2,.ref c2,1,bP.of ab.ah.1,rfl,.inl #[4,bw.of as],c2,_,.int 1,1,as,by rw[mu];omega,I _ _ ?_];show#[0,h,2,.ref c2,1,bP.of (by rw[ai (nt _ _ ab.ah.1)];show ab.ah.1),rfl,c2,_,(0),(0),1,ae,?_,ap _ _ #[rfl,(b5.wr as m1 m2 m3 m4).wr ae m1 m2 m3 m4,?_,λz=>absurd z (by dsimp only[jV];decide +kernel)]]
     .unfold yu;rw[wh,Xl (OX 0),Xl (by change(0:Int)<((_+1:Nat):Int);omega)];rfl
     .rw[ai (nt _ _ ab.at_.1),ai (nt _ _ ab.at_.1)];show ab.at_.1
    case B4 =>
    rintro σ bl ⟨rfl,c3,e0,fe⟩;clear b5 ab dd;show a7 _ _ _ ?_;clear a7 eH;show oi (λσ cm=>σ=#v[.ref sc,.int G,.int (jx G),.int (jN G),.ref tl,.ref a.rp,.ref m.md,v7,.int (1+(i:Int)),.ref d,.str r,some u,.ref h,.str r,some v]/\Lv c H a m (jx G) (jN G) tl (.lst (ts.map V.int)) (i+3) cm M U cv pk W Z) (λap QQ ji je=>?A5) ?B5
    case A5 =>
     show#[0,rfl,0,?_];show gM (λcr=>?_) (λ_=>je _ #[rfl,c3]);show#[0,d,2,.str (jV D),1,bP.of e0,Mo D,rfl,0,?_];show pV (λcp=>ji _ ?_) (λ_=>je _ #[rfl,c3]);let#[t,ad,n,rfl]:=Fi (V.str.inj (of_decide_eq_true cp));let#[l,q,xs,rfl,rfl,h1,h2,h3,ro]:=d8 _ _ _ rfl (V.str.inj (of_decide_eq_true cr));let fk:=fe rfl;subst fk;clear ji je;show F6 λQQ ji je=>?_;show#[0,0,l,q,xs,rfl,h1,h2,h3,λcm cx=>#[true,rfl,je _ ?_]];show Ga λ_ I=>#[0,.inl #[4,bw.of (cx _ _ h1)],l,_,.int 7,1,cx _ _ h1,by rw[mu];omega,I _ _ (ap _ _ #[rfl,(ro _).same (BQ cx)])]
    case B5 =>
    rintro σ cm ⟨rfl,ba⟩;show bd _ _ _ ?_;show BS λQQ ji je=>?_;let#[f1,fy]:=ba.S.R.ob;show#[0,a.rp,f1,0,fy,gc _ _ _ aq aq aq,M,a,U,W,rfl,ba.S.R,ba.w1 i3,λge fz=>?_];let b4:=ba.same fz;show#[0,m,_,pk,Z,rfl,b4.S.D,b4.z1 i3,λgm d6=>#[rfl,0,?_]];let bK:=b4.same d6;rw[bK.S.tw.held bK.S.R bK.S.D];show pV (λcr=>absurd cr ?_) (λ_=>je _ (jn _ _ #[2,2,2,2,M,U,cv,pk,W,Z,rfl,bK]));simp
   .rintro σ H7 ⟨v7,v8,v9,f0,fD,d2,ci,ch,M,U,cv,pk,W,Z,rfl,Y⟩;show e8 _ _ _ ?_;show#[0,0,M,a,m,2,_,U,cv,pk,W,Z,rfl,Y.S,Y.C,af,λH' _ _ _ _ _=>k H']
end
end Lw
end
namespace Hd
open PySem PySem.W PyProof.Rows
def sX:List Obj->List Obj×List Obj
 | []=>([],[])
 | [a]=>([a],[])
 |a::b::r=>(a::(sX r).1,b::(sX r).2)
def build:Nat->List Obj->BT
 |0,_=>.nil
 |_+1,[]=>.nil
 |f+1,o::r=>.node o (build f (sX r).1) (build f (sX r).2)
def topT (tb:String->Option Builtin) (p:Program) (w:World) (m:Nat) (an:Option Value):Nat->SharedT->Thread->Option SharedT
 |0,_,_=>none
 |k+1,x,t=>match through t with
  |true=>some x
  |false=>match stepOk m an t with
   |false=>none
   |true=>match stepT (denote tb) p w x t with
    |some (y,u)=>topT tb p w m an k y u
    |none=>none
theorem topT_of {tb:String->Option Builtin}{p:Program}{w:World}{m:Nat}{an:Option Value}:∀{k:Nat}{x z:SharedT}{t:Thread},topT tb p w m an k x t=some z->topRun tb p w m an k x.abs t=some z.abs:=by
 intro k
 induction k with
 |zero=>intro x z t e;cases e
 |succ k G =>
  intro x z t e;unfold topT at e;unfold topRun;cases a:through t with
  |true=>rw[a]at e;cases e;rfl
  |false =>
   rw[a]at e;cases b:stepOk m an t with
   |false=>rw[b]at e;cases e
   |true =>
    rw[b]at e;cases c:stepT (denote tb) p w x t with
    |none=>rw[c]at e;cases e
    |some r =>
     obtain⟨y,u⟩:=r;rw[c]at e;rw[stepT_spec c];exact G e
def Bq (p q:Program) (loose:List Str) (I:Shared->Bool) (G:Bool) (h:Heap) (s:Shared):=
 (staticsOk (importedModules p.main.body) h s.heap&&namesBound p s.heap&&gensDone s&&laidKept h s.heap,openSeen q loose (importedModules p.main.body) I G s)
theorem EI {p q:Program}{loose:List Str}{L:Shared->Bool}{α:Type}{J:Shared->α}{R:World->α}{N M m:Nat}{O:Bool}{H:Params->Heap}{T:Params->BT}{life:Life}{gs:Array GenState}{d:Drawn}{k:Nat}{an:Option Value}
  (hO:∀w:World,(fencedOpening treeTable p w N).map (λs=>(s.heap,s.gens,s.drawn,s.toks))=some (H w.params,gs,d,k))
  (U:∀P,absHeap (T P) m life=H P)
  (hS:∀w:World,((H w.params).isNs mainGlobals&&gs.size==0,(H w.params).objs.size,(H w.params).nsMap mainGlobals "__annotations__")=(true,m,an))
  (le:Nat.ble M N=true)
  (run:∀(w:World) (os:OsState),(topT treeTable p w m an M ⟨T w.params,m,life,gs,d,k,os⟩ (topStub p)).map (λs=>(Bq p q loose L O (H w.params) s.abs,J s.abs))=some ((true,openGood q loose),R w)) :
  LeftO p q loose L J R N O:=by
 intro w;obtain⟨s,a,b⟩:=Option.map_eq_some_iff.mp (hO w);obtain⟨h,G,d',I,os⟩:=s;simp only[Prod.mk.injEq]at b;obtain⟨rfl,rfl,rfl,rfl⟩:=b;have z:=hS w;simp only[Prod.mk.injEq]at z;obtain⟨z1,z2,z3⟩:=z;obtain⟨x,c,e⟩:=Option.map_eq_some_iff.mp (run w os);have r:=topT_of c;have ab:(SharedT.mk (T w.params) m life G d' I os).abs=⟨H w.params,G,d',I,os⟩:=by
  unfold SharedT.abs;rw[U]
 rw[ab]at r;have r:=topRun_mono (N-M) _ _ _ _ r;rw[show M+(N-M)=N from Nat.add_sub_cancel' (Nat.le_of_ble_eq_true le)]at r;simp only[Bq,Prod.mk.injEq]at e;obtain⟨⟨Y,e2⟩,S⟩:=e;have t:topFrom treeTable p w N ⟨H w.params,G,d',I,os⟩=some x.abs:=by
  unfold topFrom;dsimp only;rw[z1,z2,z3,r];simp only[bind_some,Y]
 unfold openEnds;rw[a];simp only[bind_some,t,Option.map_some,e2,S]
theorem both {r:OpenRow}{q:Program}{loose:List Str}{d:DefRec}{G:List (Str×Expr)}{N:Nat}(H:Hook)
  (h1:defOf q r.name=some (d,G)) (h2:r.prog.theDef r.name=some (d.params,d.body,d.scope)) (O:kwWritten? d.params.kwonlyargs d.params.kw_defaults=some G) (L:(!r.writes||r.records.isEmpty)=true)
  (S:r.wellSaid=true) (I:(chainsOk q&&opensWell r.prog&&(frees r.toRowW&&r.within.isEmpty))=true) (R:r.prog.bare) (J:r.toRowW.promised)
  (h:LeftO r.prog q loose (λs=>xlAt q [] s&&recOk r.records s) H.obs H.val N/\WalkO q loose (XL q []) H.says r.toRowW d G λf vs=>PySem.call f vs):r.Holds :=
 holds_open h.1 H.of H.keeps (λs e=>xl_of s (Bool.and_eq_true_iff.mp e).1) XL.keeps h1 h2 O (λs e=>recFacts_of (Bool.and_eq_true_iff.mp e).2) L S I R J h.2
noncomputable def GQ (P:Params):BT:=build 12 (boot_heap P).objs.toList
def q:Program:=PySem.W.view PySem.Challenge.pw_ownroom_k10_rooms_deed_by_deed [51]
def loose:List Str:=[Str.ofString "_wall",Str.ofString "__name__",Str.ofString "KernelError",Str.ofString "ValueError",Str.ofString "NoOwner",Str.ofString "NoTask",Str.ofString "NoPage",Str.ofString "NoRoom",Str.ofString "Taken",Str.ofString "PAGE_CELLS",Str.ofString "Store",Str.ofString "lift",Str.ofString "settle",Str.ofString "Paging",Str.ofString "ROOM_PAGES",Str.ofString "room_of",Str.ofString "refuse_second_room",Str.ofString "refuse_above",Str.ofString "pages_from",Str.ofString "refuse_unmapped",Str.ofString "pages_to_map",Str.ofString "pages_to_drop",Str.ofString "pages_of_cells",Str.ofString "run_within",Str.ofString "pages_with",Str.ofString "STEP_PAGES",Str.ofString "own_copy",Str.ofString "Table",Str.ofString "BLANK",Str.ofString "Rooms",Str.ofString "_law_mixed",Str.ofString "_law_number",Str.ofString "_law_whole",Str.ofString "_law_cells",Str.ofString "_law_deed",Str.ofString "_law_model",Str.ofString "_law_held",Str.ofString "_law_stretch",Str.ofString "_law_due",Str.ofString "_law_done",Str.ofString "_law_called",Str.ofString "_law_word",Str.ofString "_law_numbers",Str.ofString "_law_sizes",Str.ofString "_law_tasks",Str.ofString "_law_all_right"]
local macro_rules | `(tactic| o_head $H) => `(tactic| refine Hd.both (q:=Hd.q) (loose:=Hd.loose) (N:=100000) $H (by rfl) (by rfl) (by rfl) (by rfl) (by assumption) aq ⟨rfl,rfl,rfl,rfl,rfl,aq⟩ ?$(Lean.mkIdent `hw):ident ?$(Lean.mkIdent `hc):ident)
open_top top for PySem.Challenge.rw_ownroom_k10_rooms_deed_by_deed
def at_:List Addr:=[2,3,15,17,18,20,21,22,29,30,31,32,35,42,43,44,47,54,55,56,59,66,67,68,71,78,79,80,83,90,91,92,102,104,105,107,108,109,111,112,114,115,116,118,119,121,122,123,125,126,128,129,130,132,133,135,136,137,139,140,142,143,144,146,147,149,150,151,153,154,156,157,158,160,161,163,164,165,166,167,168,169,172,174,175,177,178,179,181,182,184,185,193,195,196,198,199,200,202,203,205,206,207,209,210,212,213,214,216,217,219,220,221,223,224,226,227,228,230,231,233,234,235,237,238,240,241,242,244,245,247,248,249,251,252,254,255,256,258,259,261,262,263,265,266,268,269,270,272,273,275,276,277,279,280,282,283,284,286,287,289,290,291,292,293,294,295,298,300,301,303,304,305,307,308,310,311,312,314,315,317,318,319,321,322,324,325,326,328,329,331,332,333,335,336,338,339,340,342,343,345,346,347,349,350,352,353,354,356,357,359,360,361,364,365,366,369,370,378,380,381,383,384,385,387,388,390,391,392,394,395,397,398,399,401,402,404,405,406,408,409,411,412,413,415,416,418,419,420,421,422,423,424,427,435,437,438,440,441,442,444,445,447,448,449,451,452,454,455,456,458,459,461,462,463,465,466,468,469,470,472,473,475,476,477,479,480,482,483,484,486,487,489,490,491,494,495,496,498,499,501,502,503,505,506,508,509,510,512,513,515,516,517,519,520,522,523,524,526,527,529,530,531,532,533,534,535,538,540,541,543,544,545,547,548,550,551,552,554,555,557,558,559,561,562,564,565,566,568,569,571,572,573,575,576,578,579,580,583,584,585,588,589,590,593,594,595,598,599,600,602,603,605,606,607,609,610,612,613,614,617,618,619,621,622,624,625,626,628,629,631,632,633,635,636,638,639,640,642,643,645,646]
noncomputable def lhs (w:World) (os:OsState):=
 (topT treeTable PySem.Challenge.pw_ownroom_k10_rooms_deed_by_deed w 11 (some (.ref 6)) 100000 ⟨GQ w.params,11, {},Array.mk [],boot_drawn,boot_toks,os⟩ (topStub PySem.Challenge.pw_ownroom_k10_rooms_deed_by_deed)).map
  λs=>(Bq PySem.Challenge.pw_ownroom_k10_rooms_deed_by_deed q loose (λs=>xlAt q [] s&&recOk PySem.Challenge.rw_ownroom_k10_rooms_deed_by_deed.row.records s) true (boot_heap w.params) s.abs,at_.map s.abs.heap.get?)
noncomputable def Ni (K:Frag):=some ((true,openGood q loose),K.map λp=>some p.2)
theorem lhs_self:lhs=lhs:=rfl
theorem CM:Ni=Ni:=rfl
name_quick hdL for Hd.lhs by Hd.lhs_self
name_quick hdR for Hd.Ni by Hd.CM
noncomputable def rhs (w:World):=some ((true,openGood q loose),(Hd.top.heap_39 w.params).map λp=>some p.2)
theorem same_ (w:World) (os:OsState):PySem.W.Fast.hdL w os=PySem.W.Fast.hdR (Hd.top.heap_39 w.params):=by kernel_rfl
theorem run_ (w:World) (os:OsState):lhs w os=rhs w:=((congrFun (congrFun PySem.W.Fast.hdL_eq w) os).trans (same_ w os)).trans (congrFun PySem.W.Fast.hdR_eq (Hd.top.heap_39 w.params)).symm
end Hd
namespace Lw
open PySem L2
def Al:Nat->(List Value->Prop)->Prop
 |0,p=>p []
 |n+1,p=>∀a,Al n λl=>p (a::l)
theorem al:∀{n:Nat}{p:List Value->Prop},Al n p->∀us:List Value,us.length=n->p us
 |0,_,h,us,e=>by cases List.eq_nil_of_length_eq_zero e;exact h
 |n+1,_,h,us,e=>by
  cases us with
  |nil=>cases e
  |cons a us=>exact al (h a) us (Nat.succ.inj e)
inductive MI (K:HC) (C:Addr) (m q:Str) (st:Ow) (ps:List Str):Prop
 |mk (f:Addr) (fd:p4) (_:cE K m q st f fd) (_:Binds K fd ps []) (_:Meth K C m f):MI K C m q st ps
inductive DI (K:HC) (x:Str) (st:Ow) (ps:List Str):Prop
 |mk (f:Addr) (fd:p4) (_:cE K x x st f fd) (_:Binds K fd ps []) (_:V0 K Ox x=some (some (.ref f))):DI K x st ps
section
variable {K:HC}{C f:Addr}{m q:Str}{st:Ow}{ps:List Str}{od an:Option Addr}{sl:Array (Option Value)}{oc kV dc pm cd ct:Value}
theorem MI.of (a:OQ K (.ref C) m=some (some (.ref f))) (i:isFn K (.ref f)=true) (l:K.lookup f=some ⟨oc,od,.func (WW m q (gI st) (eD st) (aw st) .none kV dc pm an cd ct),sl⟩) (c:WX K cd q=true) (k:T8 K (.ref f)=true)
  (b:∀kV I pm an G ct,Al ps.length λus=>Wd (WW m q (gI st) (eD st) (aw st) .none kV I pm an G ct) ⟨us,[]⟩=pure (ps.zip us)):MI K C m q st ps :=
 ⟨_,_,uv l c k,(uv l c k).binds λ_ _ _ _ _ _=>al (b _ _ _ _ _ _),a,i,k⟩
theorem DI.of (a:V0 K Ox m=some (some (.ref f))) (l:K.lookup f=some ⟨oc,od,.func (WW m m (gI st) (eD st) (aw st) .none kV dc pm an cd ct),sl⟩) (c:WX K cd m=true) (k:T8 K (.ref f)=true)
  (b:∀kV I pm an G ct,Al ps.length λus=>Wd (WW m m (gI st) (eD st) (aw st) .none kV I pm an G ct) ⟨us,[]⟩=pure (ps.zip us)):DI K m st ps :=
 ⟨_,_,uv l c k,(uv l c k).binds λ_ _ _ _ _ _=>al (b _ _ _ _ _ _),a⟩
inductive CI (K:HC) (C:Addr) (x:Str):Prop
 |mk (_:V0 K Ox x=some (some (.ref C))) (_:qL K C) (_:makesIn K C=true) (_:T8 K (.ref C)=true):CI K C x
end
inductive XI (K:HC) (C k:Addr) (a:St.XA) (i j m n:Bool):Prop
 |mk (_:excIn K C Cj "ValueError.__new__" = true) (_:PySem.W.Ax K C) (_:exmOne K (.ref C) (.ref k)=some true) (_:IF K (.ref C) (.type "ValueError")=some true) (_:IF K (.ref C) (.ref a.nt)=some i) (_:IF K (.ref C) (.ref a.np)=some j) (_:IF K (.ref C) (.ref a.nr)=some m) (_:IF K (.ref C) (.ref a.tk)=some n):XI K C k a i j m n
theorem Lh {K:HC}{mg:Str->Option Value}{xa:St.XA}{k:Addr}(a:XI K xa.nt k xa true false false false) (b:XI K xa.np k xa false true false false) (c:XI K xa.nr k xa false false true false) (d:XI K xa.tk k xa false false false true) (L:mg "NoTask" = some (.ref xa.nt)) (O:mg "NoPage" = some (.ref xa.np)) (G:mg "NoRoom" = some (.ref xa.nr)) (N:mg "Taken" = some (.ref xa.tk)) (I:mg "ValueError" = none) (J:mg "KernelError" = some (.ref k)):NQ K mg xa k:=by
 obtain⟨a1,a2,a3,a4,U,a6,a7,a8⟩:=a;obtain⟨b1,b2,b3,b4,S,b6,b7,b8⟩:=b;obtain⟨R,c2,c3,c4,Y,c6,c7,c8⟩:=c;obtain⟨d1,d2,d3,d4,d5,d6,d7,d8⟩:=d;refine⟨L,O,G,N,I,J,?_,?_,?_,?_,?_,?_,?_⟩<;>rintro r C (⟨rfl,rfl⟩|⟨rfl,rfl⟩|⟨rfl,rfl⟩|⟨rfl,rfl⟩)<;>assumption
theorem MI.md {P:se}{w:G1}{K:HC}{mg:Str->Option Value}{base:Heap}{CX:rZ}{n:Nat}{C:Addr}{m q:Str}{st:Ow}{ps:List Str}{sp:Sp}(h:MI K C m q st ps) (k:∀{f fd},cE K m q st f fd->aV P w K mg base CX n f fd ps sp):Md P w K mg base CX n C m sp:=by
 obtain⟨f,fd,F,b,M⟩:=h;exact Md.mk _ _ _ (k F) b M
theorem DI.df {P:se}{w:G1}{K:HC}{mg:Str->Option Value}{base H:Heap}{CX:rZ}{n:Nat}{x:Str}{st:Ow}{ps:List Str}{sp:Sp}(h:DI K x st ps) (X:K.In H) (G:H.Ns Ox mg) (k:∀{f fd},cE K x x st f fd->aV P w K mg base CX n f fd ps sp):Df P w K mg base CX n x sp:=by
 obtain⟨f,fd,F,b,a⟩:=h;exact Df.mk _ _ _ (k F) b (Rf X G a) F.kp
def NI (K:HC):List Str->Prop
 | []=>True
 |x::l=>V0 K Ox x=some none/\NI K l
def AI (K:HC) (C:Addr):List Str->Prop
 | []=>True
 |x::l=>OQ K (.ref C) x=some none/\AI K C l
theorem all_mk {l:RW}{w:G1}{K:HC}{h:Heap}{mg:Str->Option Value}{fa L I N J S Y U R aT aB:Addr}{eC t8 t9:Xe}{db:Value}{hT:Option Addr}{hy:Array (Option Value)}{a2:Array Value}{nB:Nat}(X:K.In h) (G:h.Ns Ox mg) (hF:mg "law" = some (.ref fa)) :
  CI K L "Store" -> AI K L ["owners","contents"]->MI K L "__init__" "Store.__init__" St.pU ["self","many"]->MI K L "take" "Store.take" St.Bo ["self"]->MI K L "less" "Store.less" St.Eg ["self","n"]->MI K L "more" "Store.more" St.Ck ["self","n"]->MI K L "free" "Store.free" St.B9 ["self"]->MI K L "count" "Store.count" St.xn ["self","n"]->MI K L "cells" "Store.cells" St.yd ["self","n"]->MI K L "put" "Store.put" St.GZ ["self","n","cells"]->MI K L "refuse_free" "Store.refuse_free" St.sY ["self","n"]->CI K I "Paging" -> AI K I ["frames","slots","places","last_sheet","in_frames"]->MI K I "__init__" "Paging.__init__" St.xN ["self","frames","slots"]->MI K I "new_sheet" "Paging.new_sheet" St.lJ ["self","cells"]->MI K I "share" "Paging.share" St.xu ["self","sheet"]->MI K I "leave" "Paging.leave" St.xv ["self","sheet"]->MI K I "cells" "Paging.cells" St.sI ["self","sheet"]->MI K I "change" "Paging.change" St.tF ["self","sheet","cells"]->MI K I "fetch" "Paging.fetch" St.xM ["self","sheet"]->MI K I "bring_in" "Paging.bring_in" St.oN ["self","sheet","moved"]->MI K I "put_out" "Paging.put_out" St.uu ["self","sheet"]->MI K I "place" "Paging.place" St.xA ["self","sheet"]->MI K I "number_of" "Paging.number_of" St.mz ["self","sheet"]->MI K I "store_of" "Paging.store_of" St.pN ["self","sheet"]->MI K I "count" "Paging.count" St.tI ["self","sheet"]->CI K N "Table" -> AI K N ["first_step"]->MI K N "__init__" "Table.__init__" Tb.pU ["self"]->MI K N "get" "Table.get" Tb.HE ["self","page"]->MI K N "lay" "Table.lay" Tb.IZ ["self","page","entry"]->MI K N "clear" "Table.clear" Tb.wq ["self","page"]->MI K N "pages" "Table.pages" Tb.wQ ["self"]->CI K J "Rooms" -> AI K J ["paging","total","rooms"]->MI K J "__init__" "Rooms.__init__" St.xZ ["self","frames","slots"]->MI K J "begin" "Rooms.begin" St.nJ ["self","task"]->MI K J "close" "Rooms.close" St.nN ["self","task"]->MI K J "map" "Rooms.map" St.zg ["self","task","page","many"]->MI K J "drop" "Rooms.drop" St.sC ["self","task","page","many"]->MI K J "peek" "Rooms.peek" St.tf ["self","task","address","many"]->MI K J "poke" "Rooms.poke" St.ui ["self","task","address","cells"]->MI K J "copy" "Rooms.copy" St.tS ["self","task","other"]->MI K J "held" "Rooms.held" St.yt ["self"]->MI K J "leave_pages" "Rooms.leave_pages" St.rV ["self","table","pages"]->MI K J "cells_of" "Rooms.cells_of" St.sP ["self","entry"]->MI K J "sheet_with" "Rooms.sheet_with" St.uj ["self","entry","cells"]->DI K "lift" St.Be ["store","n"]->DI K "settle" St.sV ["store","moved"]->DI K "own_copy" Tb.yZ ["value"]->DI K "room_of" St.nG ["rooms","task"]->DI K "refuse_second_room" St.nE ["rooms","task"]->DI K "refuse_above" St.tK ["held","total"]->DI K "pages_from" Rm.iA ["page","many"]->DI K "refuse_unmapped" Rm.js ["mapped","pages"]->DI K "pages_to_map" Rm.uc ["mapped","page","many"]->DI K "pages_to_drop" Rm.nU ["mapped","page","many"]->DI K "pages_of_cells" Rm.lq ["mapped","address","many"]->DI K "run_within" Rm.uD ["whole","address","many"]->DI K "pages_with" Rm.B6 ["whole","address","cells"]->DI K "_law_mixed" Lw.xD ["_law_cell","_law_k"]->DI K "_law_number" Lw.tJ ["_law_script","_law_k"]->DI K "_law_whole" Lw.xf ["_law_found"]->DI K "_law_cells" Lw.qq ["_law_m","_law_many"]->DI K "_law_deed" Lw.DE ["_law_m","_law_tasks_here"]->DI K "_law_model" Lw.xC ["_law_total"]->DI K "_law_held" Lw.xr ["_law_model_here"]->DI K "_law_stretch" Lw.oS ["_law_room","_law_address","_law_many"]->DI K "_law_due" Lw.II ["_law_model_here","_law_deed_here"]->DI K "_law_done" Lw.Eb ["_law_model_here","_law_deed_here"]->DI K "_law_called" Lw.nD ["_law_kept","_law_deed_here"]->DI K "_law_word" Lw.Bj ["_law_kept","_law_deed_here"]->DI K "_law_numbers" Lw.oz ["_law_found","_law_due_here"]->DI K "_law_sizes" Lw.wY ["_law_m"]->DI K "_law_tasks" Lw.wK ["_law_m"]->DI K "_law_all_right" Lw.Ef ["_law_kept","_law_model_here"]->DI K "law" Lw.Jh ["_law_script"]->V0 K Ox "ROOM_PAGES" = some (some (.int 64 eC))->V0 K Ox "PAGE_CELLS" = some (some (.int 8 t8))->V0 K Ox "STEP_PAGES" = some (some (.int 8 t9))->NI K ["range","enumerate","sum","int","isinstance","min","max","list","len","dict","bool","tuple","sorted","all","any","zip","ValueError"]->V0 K Ox "NoTask" = some (some (.ref S))->V0 K Ox "NoPage" = some (some (.ref Y))->V0 K Ox "NoRoom" = some (some (.ref U))->V0 K Ox "Taken" = some (some (.ref R))->V0 K Ox "KernelError" = some (some (.ref aT))->XI K S aT ⟨S,Y,U,R⟩ true false false false->XI K Y aT ⟨S,Y,U,R⟩ false true false false->XI K U aT ⟨S,Y,U,R⟩ false false true false->XI K R aT ⟨S,Y,U,R⟩ false false false true->V0 K Ox "BLANK" = some (some (.ref aB))->K.lookup aB=some ⟨db,hT,.seq a2 nB,hy⟩->db=.type "tuple" -> Vals [V.str "blank"] a2.toList->a2.size<=1 ->
  ∃fd:p4,(∀(s:kz) (v:Value),Vn s fd ⟨[v],[]⟩ [("_law_script",v)])/\∀base:Heap,K.In base->base.Ns Ox mg->aV l.prog w K mg base aZ 13 fa fd ["_law_script"] (yC K):=by
 intro h0 h1 h2 h3 h4 h5 h6 h7 h8 h9 hM ha hx ia iF fx ht i2 fv ez ih e7 i1 hh ib hC ft it g6 f8 ga ep d8 fk ea gl b5 bn dM dm d6 b8 c3 g8 hH f2 hG e1 hm bm dV dI c8 bK d3 ch ce c5 eN d7 fD ei ek fo go hj f0 hg hb ew ci hr hP hu fb ev e2 q0 q1 q2 eH cx c0 cq b4 hO dp c1 b7 c9 yB lB oB vB wB;obtain⟨eo,g9,hl,ee⟩:=h0;obtain⟨ef,hq,_⟩:=h1;obtain⟨f1,d1,F1,b1,M1⟩:=h2;obtain⟨e8,hK,hL,hS⟩:=ha;obtain⟨e0,hc,hd,ik,hE,_⟩:=hx;obtain⟨i7,je,hv,g4,d4⟩:=ia;obtain⟨bY,g7,bi,dL⟩:=ft;obtain⟨fi,_⟩:=it;obtain⟨i8,jp,f9,cg,a6⟩:=g6;obtain⟨et,gs,fI,ge⟩:=fk;obtain⟨hB,hR,fH,_⟩:=ea;obtain⟨jn,jr,eP,fy,bx⟩:=gl;obtain⟨i9,ec,c6,i3,hn⟩:=e2;obtain⟨dT,el,dz,e6,bv,hw,eq,a0,a1,b6,hA,cr,b2,hk,hI,ej,fu,_⟩:=eH;have e:=hF.symm.trans (Rf X G hn);cases e;refine⟨ec,λs v=>?_,λbase _ _=>?_⟩
 .obtain⟨oc,od,kV,i4,pm,an,i5,ct,i6,rfl,lk,ji⟩:=c6.ex;exact .of_eq rfl
 have TS:St.Txt K mg L:=⟨g9,ef,hq,Oo X G a1,Oo X G a0,⟨_,Rf X G q1,⟨_,rfl⟩⟩⟩;have TT:Tb.Txt K mg N:=⟨g7,fi,⟨_,Rf X G q2,⟨_,rfl⟩⟩⟩;have TQ:Tb.C6 mg:=⟨Oo X G bv,Oo X G cr,Oo X G a0,Oo X G b6,Oo X G a1,Oo X G b2⟩;have SX:Rm.yj mg:=⟨⟨_,Rf X G q0,⟨_,rfl⟩⟩,⟨_,Rf X G q1,⟨_,rfl⟩⟩,Oo X G a0,Oo X G dT,Oo X G a1⟩;have TP:St.rY K mg I:=⟨hK,e0,hc,hd,ik,hE,Oo X G a0⟩;have O:St.mY K mg ⟨J,I,L,N⟩:=⟨gs,hB,hR,fH,⟨aB,Rf X G yB,.inr ⟨_,a2,nB,lB,oB,rfl,L1 wB ar,vB⟩⟩,⟨_,Rf X G q1,⟨_,rfl⟩⟩,Oo X G a1,Oo X G dz,Oo X G ej⟩;have MT:Lw.mS mg:=⟨Oo X G dT,Oo X G el,Oo X G dz,Oo X G e6,Oo X G bv,Oo X G hw,Oo X G eq,Oo X G a0,Oo X G a1,Oo X G b6,Oo X G hA,Oo X G cr,Oo X G b2,Oo X G hk,Oo X G hI⟩;have hQ:Rm.pj K mg "NoTask" S:=⟨Rf X G cx,by obtain⟨h,_⟩:=dp;exact h⟩;have ba:Rm.pj K mg "NoPage" Y:=⟨Rf X G c0,by obtain⟨h,_⟩:=c1;exact h⟩;have fT:Rm.pj K mg "NoRoom" U:=⟨Rf X G cq,by obtain⟨h,_⟩:=b7;exact h⟩;have b3:Rm.pj K mg "Taken" R:=⟨Rf X G b4,by obtain⟨h,_⟩:=c9;exact h⟩;have ii:=St.sM (P:=l.prog) (w:=w) (base:=base) F1 TS;have as:=h7.md λF=>St.Dj (P:=l.prog) (w:=w) (base:=base) F TS;have a4:=hM.md λF=>St.AB F TS as;have c7:=h4.md λF=>St.Fb F TS a4;have dd:=h8.md λF=>St.Ee F TS a4;have dj:=h9.md λF=>St.Hv F TS a4;have d2:=h5.md λF=>St.EV F TS a4;have il:=h3.md λF=>St.Fx (P:=l.prog) (w:=w) (base:=base) F TS;have cp:=h6.md λF=>St.FV (P:=l.prog) (w:=w) (base:=base) F TS;have f5:=bm.df X G λF=>Tb.Ds (P:=l.prog) (w:=w) (base:=base) F TQ;have GC:=bm.df X G λF=>Tb.FA F TQ f5;have be:=Tb.sM (P:=l.prog) (w:=w) (base:=base) f9 TT;have a5:=f8.md λF=>Tb.HA F TT GC;have bc:=ga.md λF=>Tb.Ja F TT GC;have g5:=ep.md λF=>Tb.AY (P:=l.prog) (w:=w) (base:=base) F TT TQ;have ab:=d8.md λF=>Tb.DL (P:=l.prog) (w:=w) (base:=base) F TT TQ;have GP:=bK.df X G λF=>Rm.tX (P:=l.prog) (w:=w) (base:=base) F SX;have GU:=d3.df X G λF=>Rm.vz (P:=l.prog) (w:=w) (base:=base) (mg:=mg) F;have GM:=ch.df X G λF=>Rm.CK F GP;have GD:=ce.df X G λF=>Rm.AH F GP GU;have GO:=c5.df X G λF=>Rm.ya F SX GP GU;have hD:=eN.df X G λF=>Rm.zA (P:=l.prog) (w:=w) (base:=base) F SX;have f3:=d7.df X G λF=>Rm.EK (P:=l.prog) (w:=w) (base:=base) F SX;have b0:=e1.df X G λF=>St.Fc F TS dd as c7;have ca:=hm.df X G λF=>St.Ag F TS il dj as d2;have bb:=i1.md λF=>St.Dq (CS:=L) (P:=l.prog) (w:=w) (base:=base) F TP;have ap:=hh.md λF=>St.vA F TP bb;have a3:=ib.md λF=>St.xP F TP bb;have i0:=hC.md λF=>St.zU F TP TS a3 ap as;have gb:=i2.md λF=>St.Ap F TP TS a3 ap dd;have g0:=e7.md λF=>St.yp F TP b0 ca ap;have dr:=ih.md λF=>St.vh F TP TS cp g0 ca;have c4:=iF.md λF=>St.uz F TP TS cp dr;have d5:=ez.md λF=>St.Cz F TP bb dr b0;have hf:=fx.md λF=>St.Cn F TP TS a3 ap d2;have cm:=ht.md λF=>St.AZ F TP TS a3 ap c7 as;have er:=fv.md λF=>St.Ab F TP TS i0 c4 cm d5 ap dj;have eh:=St.Dt hv TP ⟨hl,M1.at_,M1.fn,ee⟩ (Rf X G eo) ii b1;have ac:=dV.df X G λF=>St.zK (P:=l.prog) (w:=w) (base:=base) (mg:=mg) F;have GS:=dI.df X G λF=>St.Av (P:=l.prog) (w:=w) (base:=base) (mg:=mg) F;have GA:=c8.df X G λF=>St.CG (P:=l.prog) (w:=w) (base:=base) (mg:=mg) F;have iN:=St.DU (c:=⟨J,I,L,N⟩) eP O ⟨hL,d4.at_,d4.fn,hS⟩ (Rf X G e8) eh g4;have a7:=hH.md λF=>St.qP (c:=⟨J,I,L,N⟩) F O TT TP a5 g5 cm;have he:=dm.md λF=>St.Ft (c:=⟨J,I,L,N⟩) F O TT ac GD ab a7;have hY:=bn.md λF=>St.zr (c:=⟨J,I,L,N⟩) F O TT ac ab a7;have e5:=b5.md λF=>St.zD (c:=⟨J,I,L,N⟩) F O ⟨bi,a6.at_,a6.fn,dL⟩ (Rf X G bY) GS be cg;have bl:=f2.md λF=>St.wj (c:=⟨J,I,L,N⟩) F O TP gb;have io:=hG.md λF=>St.tj (c:=⟨J,I,L,N⟩) F O TP c4 er;have ah:=g8.md λF=>St.DZ (c:=⟨J,I,L,N⟩) F O TT ab;have fr:=dM.md λF=>St.EJ (c:=⟨J,I,L,N⟩) F O TT ac GM GA ab ah bc;have en:=d6.md λF=>St.Cd (c:=⟨J,I,L,N⟩) F O TT TP ac GO hD ab a5 d5 bl;have fl:=b8.md λF=>St.Ce (c:=⟨J,I,L,N⟩) F O TT ac GO f3 ab a5 bc bl io;have im:=c3.md λF=>St.BE (c:=⟨J,I,L,N⟩) F O TT TP ⟨bi,a6.at_,a6.fn,dL⟩ (Rf X G bY) ac GS GA be cg ab ah a5 bc hf;have KT:Lw.LL l.prog w K mg base ⟨J,I,L,N⟩:=⟨e5,hY,fr,he,im,en,fl⟩;have g1:=fD.df X G λF=>Lw.Bs (P:=l.prog) (w:=w) (base:=base) (mg:=mg) F;have eb:=ei.df X G λF=>Lw.zJ F MT g1;have g2:=hu.df X G λF=>Lw.BC (P:=l.prog) (w:=w) (base:=base) (mg:=mg) F;have iv:=hj.df X G λF=>Lw.BK (P:=l.prog) (w:=w) (base:=base) (mg:=mg) F;have a8:=f0.df X G λF=>Lw.Dr (P:=l.prog) (w:=w) (base:=base) F MT;have f4:=hg.df X G λF=>Lw.wV (P:=l.prog) (w:=w) (base:=base) F MT;have g3:=hb.df X G λF=>Lw.IG F MT a8 f4;have e4:=ew.df X G λF=>Lw.Ff (P:=l.prog) (w:=w) (base:=base) F MT;have fc:=ci.df X G λF=>Lw.AM F O KT;have gr:=ek.df X G λF=>Lw.Bp (P:=l.prog) (w:=w) (base:=base) F MT;have da:=hP.df X G λF=>Lw.xp F MT gr;have eu:=ev.df X G λF=>Lw.E1 F O KT da a8 ah;have gd:=fo.df X G λF=>Lw.wZ (P:=l.prog) (w:=w) (base:=base) F MT;have gt:=go.df X G λF=>Lw.F2 F MT gd;have hp:=fb.df X G λF=>Lw.C8 (P:=l.prog) (w:=w) (base:=base) (mg:=mg) F;have bd:=bK.df X G λF=>Rm.qF (P:=l.prog) (w:=w) (base:=base) F SX ba;have dl:=d3.df X G λF=>Rm.rW (P:=l.prog) (w:=w) (base:=base) F ba;have ey:=ch.df X G λF=>Rm.zy F b3 GP bd;have hz:=ce.df X G λF=>Rm.wU F GP bd dl;have cc:=c5.df X G λF=>Rm.vm F SX ba GP bd dl;have am:=dV.df X G λF=>St.wD (P:=l.prog) (w:=w) (base:=base) F hQ;have dO:=dI.df X G λF=>St.yk (P:=l.prog) (w:=w) (base:=base) F b3;have bI:=c8.df X G λF=>St.Az (P:=l.prog) (w:=w) (base:=base) F fT;have e9:=b5.md λF=>St.yi (c:=⟨J,I,L,N⟩) (xa:=⟨S,Y,U,R⟩) F O dO;have fe:=bn.md λF=>St.wX (c:=⟨J,I,L,N⟩) (xa:=⟨S,Y,U,R⟩) F O am;have em:=dM.md λF=>St.Dk (c:=⟨J,I,L,N⟩) (xa:=⟨S,Y,U,R⟩) F O TT am ac GM ey bI ab ah;have ho:=dm.md λF=>St.AL (c:=⟨J,I,L,N⟩) (xa:=⟨S,Y,U,R⟩) F O TT am ac hz ab a7;have gm:=c3.md λF=>St.Aq (c:=⟨J,I,L,N⟩) (xa:=⟨S,Y,U,R⟩) F O TT am ac dO GS bI ab ah;have fz:=d6.md λF=>St.Aa (c:=⟨J,I,L,N⟩) (xa:=⟨S,Y,U,R⟩) F O TT am ac cc ab;have f7:=b8.md λF=>St.AQ (c:=⟨J,I,L,N⟩) (xa:=⟨S,Y,U,R⟩) F O TT am ac cc ab;have hN:=ci.df X G λF=>Lw.wM (xa:=⟨S,Y,U,R⟩) F O ⟨e9,fe,em,ho,gm,fz,f7⟩;have e3:=hr.df X G λF=>Lw.Fw (xa:=⟨S,Y,U,R⟩) F MT (Lh dp c1 b7 c9 (Rf X G cx) (Rf X G c0) (Rf X G cq) (Rf X G b4) (Oo X G fu) (Rf X G hO)) fc hN;exact Lw.Js c6 MT O KT ⟨fI,bx.at_,bx.fn,ge⟩ (Rf X G et) iN fy eb g2 hp iv gt g3 e4 e3 da a8 eu ah
theorem walk {l:RW}{q:se}{loose:List Str}{XP:(Str->Option Value)->Heap->Prop}{I:G1->Heap->Prop}{d:DefRec}{K:Params->HC}(J:l.most=some 63) (L:d.params.defaults=[])
  (N:∀(w:G1) (h:Heap),I w h->(K w.params).In h)
  (F:∀(w:G1) (mg:Str->Option Value) (G:Addr) (h:Heap),(K w.params).In h->h.Ns Ox mg->mg d.name=some (.ref G) ->
   ∃fd:p4,(∀(s:kz) (u:Value),Vn s fd ⟨[u],[]⟩ [("_law_script",u)])/\∀base:Heap,(K w.params).In base->base.Ns Ox mg->aV l.prog w (K w.params) mg base aZ 13 G fd ["_law_script"] (yC (K w.params))) :
  V4 q loose XP I l.row.toRowW d [] (λf vs=>Wk f vs):=
 L2.E8 (n:=63) (k:=13) (x := "_law_script") (CX:=λ_=>aZ) (sp:=λw=>yC (K w.params)) J ar L ⟨rfl,ar,ar⟩ N F (λ_ _ a ns R _ O=>⟨a,ns,rfl,O,R,λ_=>rfl⟩) λ_ _ _ _ _ z=>z
end Lw
open PySem PySem.W PyProof.Rows
theorem PySem.Challenge.cw_ownroom_k10_rooms_deed_by_deed_holds : PySem.Challenge.rw_ownroom_k10_rooms_deed_by_deed.Holds := by
 refine Hd.top ⟨Hd.EI (H:=boot_heap) (T:=Hd.GQ) (life:={}) (m:=11) (M:=100000) (gs:=Array.mk []) (d:=boot_drawn) (k:=boot_toks) (an:=some (.ref 6)) (boot_open (by kernel_rfl) ar (λs=>by kernel_rfl)) (λP=>by kernel_rfl) (λw=>by kernel_rfl) ar (λw os=>Hd.run_ w os),?_⟩
 k_fill
 refine Lw.walk (l:=PySem.Challenge.rw_ownroom_k10_rooms_deed_by_deed) rfl rfl (λw h Y=>PySem.W.kIn_of Y) ?F
 case F =>
  intro w mg fa h KX G hmg;apply Lw.all_mk KX G hmg
  all_goals first
   |(apply Lw.MI.of<;>first|k_is|(first|exact λ_ _ _ _ _ _ _=>rfl|exact λ_ _ _ _ _ _ _ _=>rfl|exact λ_ _ _ _ _ _ _ _ _=>rfl|exact λ_ _ _ _ _ _ _ _ _ _=>rfl|exact λ_ _ _ _ _ _ _ _ _ _ _=>rfl))
   |(apply Lw.DI.of<;>first|k_is|(first|exact λ_ _ _ _ _ _ _=>rfl|exact λ_ _ _ _ _ _ _ _=>rfl|exact λ_ _ _ _ _ _ _ _ _=>rfl|exact λ_ _ _ _ _ _ _ _ _ _=>rfl|exact λ_ _ _ _ _ _ _ _ _ _ _=>rfl))
   |(apply Lw.CI.mk;k_is;(constructor<;>k_is);k_is;k_is)
   |(unfold Lw.NI;repeat' first|apply And.intro|exact trivial|k_is|unfold Lw.NI)
   |(unfold Lw.AI;repeat' first|apply And.intro|exact trivial|k_is|unfold Lw.AI)
   |(apply Lw.XI.mk<;>first|k_exc|kts_exm|kit_is|(constructor<;>k_is))
   |k_is|rfl|exact .cons ⟨_,rfl⟩ .nil|exact le_refl 1
