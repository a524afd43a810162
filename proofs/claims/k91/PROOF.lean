import PyProof.Rows.All
import Wide.All
import OpenK.AllK
import Wide.FinOn
import Lean
import PyProof.EqAt
import PyProof.EqKinds
import PyProof.TupleCall
import PySem.Challenge.RW_ownroom_k91_whole_counts_of_pages
inductive Jd {α β:Type}(p:α->β->Prop):Prop
 |mk (x0:α) (x1:β) (_:p x0 x1):Jd p
inductive Mz {α β γ:Type}(p:α->β->γ->Prop):Prop
 |mk (x0:α) (x1:β) (x2:γ) (_:p x0 x1 x2):Mz p
inductive Li {α β γ δ:Type}(p:α->β->γ->δ->Prop):Prop
 |mk (x0:α) (x1:β) (x2:γ) (x3:δ) (_:p x0 x1 x2 x3):Li p
inductive Es {α β γ δ ε:Type}(p:α->β->γ->δ->ε->Prop):Prop
 |mk (x0:α) (x1:β) (x2:γ) (x3:δ) (x4:ε) (_:p x0 x1 x2 x3 x4):Es p
inductive JI {α β γ δ ε ζ:Type}(p:α->β->γ->δ->ε->ζ->Prop):Prop
 |mk (x0:α) (x1:β) (x2:γ) (x3:δ) (x4:ε) (x5:ζ) (_:p x0 x1 x2 x3 x4 x5):JI p
inductive uN (A0 A1 A2:Prop):Prop
 |mk (_:A0) (_:A1) (_:A2):uN A0 A1 A2
inductive Mf (A0 A1 A2 A3:Prop):Prop
 |mk (_:A0) (_:A1) (_:A2) (_:A3):Mf A0 A1 A2 A3
inductive Jh (A0 A1 A2 A3 A4:Prop):Prop
 |mk (_:A0) (_:A1) (_:A2) (_:A3) (_:A4):Jh A0 A1 A2 A3 A4
inductive Em (A0 A1 A2 A3 A4 A5:Prop):Prop
 |mk (_:A0) (_:A1) (_:A2) (_:A3) (_:A4) (_:A5):Em A0 A1 A2 A3 A4 A5
inductive Mw (A0 A1 A2 A3 A4 A5 A6:Prop):Prop
 |mk (_:A0) (_:A1) (_:A2) (_:A3) (_:A4) (_:A5) (_:A6):Mw A0 A1 A2 A3 A4 A5 A6
inductive Ll (A0 A1 A2 A3 A4 A5 A6 A7:Prop):Prop
 |mk (_:A0) (_:A1) (_:A2) (_:A3) (_:A4) (_:A5) (_:A6) (_:A7):Ll A0 A1 A2 A3 A4 A5 A6 A7
inductive JB (A0 A1 A2 A3 A4 A5 A6 A7 A8 A9 A10:Prop):Prop
 |mk (_:A0) (_:A1) (_:A2) (_:A3) (_:A4) (_:A5) (_:A6) (_:A7) (_:A8) (_:A9) (_:A10):JB A0 A1 A2 A3 A4 A5 A6 A7 A8 A9 A10
inductive J4 (A0 A1 A2 A3 A4 A5 A6 A7 A8 A9 A10 A11 A12:Prop):Prop
 |mk (_:A0) (_:A1) (_:A2) (_:A3) (_:A4) (_:A5) (_:A6) (_:A7) (_:A8) (_:A9) (_:A10) (_:A11) (_:A12):J4 A0 A1 A2 A3 A4 A5 A6 A7 A8 A9 A10 A11 A12
theorem bX {α z F:Sort _}{f:α->z->F}(a:α) (b:z):f a b=f a b:=rfl
theorem GZ:0<=PySem.sizeLine:=by(decide)
theorem qN:1<=PySem.sizeLine:=by(decide)
theorem fG:2<=PySem.sizeLine:=by(decide)
theorem Ha:3<=PySem.sizeLine:=by(decide)
theorem mM:4<=PySem.sizeLine:=by(decide)
theorem Ki:5<=PySem.sizeLine:=by(decide)
theorem MC:6<=PySem.sizeLine:=by(decide)
theorem Bz:(0:Int)<2:=by(decide)
theorem IJ:(0:Int)<3:=by(decide)
theorem Ec:(0:Int)<4:=by(decide)
theorem Ih:(0:Int)<8:=by(decide)
set_option compiler.extract_closed false
set_option Elab.async false
set_option linter.all false
set_option genSizeOf false
set_option genInjectivity false
set_option tactic.hygienic false
set_option maxRecDepth 100000
open PySem.W (Frag)
set_option maxHeartbeats 0
local macro_rules | `(tactic| omega) => `(tactic| lia)
theorem ak {p:Prop}(h:p:=by decide +kernel):p:=h
theorem ar {p:Prop}(h:p:=by decide):p:=h
theorem af {p:Prop}(h:p:=by omega):p:=h
open PySem.W (instObj hideAll_get lookIn handedIn isFn plainOver takerIn makesIn emptyDict kitx_list kitx_tuple kitx_dict callWith_K0 codeRec_of excIn KdlSrc kdl_dict exmOne)
open List (replicate map_nil all_cons foldl map_take filter)
open Nat (le_trans le_refl log2_lt)
open Option (getD_none map_some bind_some)
open Array (toList)
open PySem
open _root_.PySem renaming Shared->oR,wpAny_bind->qs,FuncData->qw,Program->tp,sizeLine_eq->vl,World->By,Around->L5,Stmt->N8,Expr->Ob,mainGlobals->Od,wpAny_mono->Oj,bootBuiltins->Om,Spec->OJ,compareOp->OL,wpAny_passesOwn->OP,wpAny_holding->OX,wpAny_truthy_bool->OZ,mem_of_lookup->O8,wpAny_Call_Name_kw->Pf,wpAny_execs_nil->Py,sysModules->PL,tupleKind_room_in1->PV,cLine->P0,Builtin->P9,keywordEach->Qe,wpAny_field->Qg,call_meets->Qh,foldedSetIterable->Qs,wpAny_rule->Qw,lookup_relabel_local->Qx,codeAny->QA,codeAny_mono->QB,Pos->QJ,attributeBase->QL,IsRangeIter->QV,sliceBounds->QY,holding->Q2,wpAny_pyNext_list_item->Q3,call_meetsIn->Q9,wpAny_Call_method->Ra,wpAny_execs_cons->Rg,swapsWith->Rh,getMethod->Ri,wpAny_call->Rj,wpAny_call_entry->Rn,behindInMarks->Rq,wpAny_standAt->Rr,wpAny_attempt->Rt,Scope->Rw,binaryOp->Rx,backToKw->Ry,codeAny_call_builtin->RD,letOwnedTupleGo->RG,tupleKind->RU,assignEach->RV,wpAny_pyIter_range->RW,wpAny_newFunctionEnv_cells->R0,Env->Sn,Model->Sv,wpAny_assign_Name->Sw,seqIndex_of->Sx,wpAny_comprehension_free->SG,compEnvC->SM,wpAny_callSpecial?_slot->SU,standAt->SV,wpAny_pyNext_range_end->SW,wpAny_pyIter_rangeiter->SY,wpAny_getItem_list_neg->S6,codeAny_compStart_list->Td,wpAny_noteFrame_againW->Te,valueAt->Tf,wpAny_isTrue_Compare1->Ti,wpAny_pyIter_listiter->Tj,codeAny_call_function->Tp,recursionLimit->Tz,callWith->TB,subscripted->TF,wpAny_newFunctionEnv->TU,underTheClaimsCaller->TV,getItem->T9,BindsTo->Ua,Keyword->Ub,callerA->Uc,codeAny_forLoop_any->Ue,rangeSize_one->Ui,wpAny_newList->Ul,frameOf->Um,typeOf->Ut,slot_listiter_next->Ux,Within->Uy,GenState->Uz,wpAny_Return_some->UA,Operator->UB,wpAny_Assign_Name->UC,wpAny_pyIter_list->UD,slot_list_getitem->UI,entryPlaceOf->UN,wpAny_pyIter_enum->UP,PassesOwn->UR,rawInt->US,cellsFrom->UT,checkBuiltinCall->UX,wpAny_Dict_empty->UY,wpAny_pyIter_zip->U0,wpAny_isInstance->U6,list_append->Va,atKey->Vd,spliced->Vn,builtinsNs->Vs,wpAny_Name->Vu,Result->Vx,bindArgs->Vy,bindL->Vz,bindC->VA,typeLookup->VB,typeIs_int->VD,call->VE,CmpOp->V3,small_one->V4,wpAny_For->V5,seqIndex?->V7,field->V8,setItem->Wa,pyIter->Wb,Tok->Wj
open _root_.List renaming getElem?_eq_some_iff->qc,length_map->qi,mem_singleton->qj,mem_cons->se,size_toArray->ti,mem_append->t4,mem_of_getElem?->vh,getElem?_map->vu,mem_append_right->wh,length_append->y3,not_mem_nil->DO,mem_map->IF,length_cons->K4,getElem?_eq_getElem->M4,map_append->N5,nodup_cons->N6,append_assoc->Oa,count_pos_iff->Oe,getElem?_set_ne->Og,pairwise_append->Oh,mem_cons_self->Oi,mem_cons_of_mem->Oq,getElem?_set_self->Ot,take_add_one->Oy,length_take->Oz,mem_append_left->OB,length_singleton->OC,all_eq_true->OD,length_set->OG,length_eq_zero_iff->OM,take_of_length_le->ON,take_length->OS,idxOf_lt_length_iff->OV,length_replicate->OW,map_congr_left->O0,pairwise_iff_getElem->Pa,map_cons->Pb,getElem?_append_right->Pc,take_append_drop->Pj,mem_reverse->Pk,getElem?_append_left->Pp,replicate_succ->Pq,filter_cons->Pt,nodup_nil->Pu,range->Pw,mem_filter->Px,length_range->PF,extract_eq_take_drop->PZ,length_drop->P1,drop_eq_getElem_cons->P2,getElem_mem->P6,map_map->Qo,drop_eq_nil_of_le->Qp,erase_of_not_mem->Qr,nodup_append->Qu,pairwise_map->Qv,take_sublist->QC,perm_append_comm->QG,length_filter_le->QH,mem_flatMap->QI,append_nil->QU,lookup->QW,length->QX,mem_range->Q1,flatten_cons->Q5,reverse_append->Q8,getElem_of_mem->Rb,eraseIdxIfInBounds_toArray->Rc,count_cons_of_ne->Rf,find?_cons->Ro,mem_of_mem_take->RB,mem_of_mem_drop->RC,count_cons_self->RE,filterMap_cons->RL,drop_sublist->RQ,getElem_take->RS,mem_filterMap->RX,getElem_idxOf->Sf,map_replicate->Sh,filter_eq_self->Si,flatMap_append->Sj,sum_cons->Sk,count_eq_zero->Sl,perm_ext_iff_of_nodup->Sm,mem_or_eq_of_mem_set->Sr,ext_getElem?->S9,getElem?_eq_none->Tw,any_cons->TH,mem_iff_getElem->TL,reverse_reverse->TN,getElem?_of_mem->TZ,filter_sublist->Ug,getElem?_range->Uh,of_mem_zip->Us,getElem_drop->UK,set_set->UQ,take_zero->UW,any_eq_true->U2,getElem_set->U3,nodup_range->U5,flatMap_def->U7,nil_append->Vf,length_nil->Vg,filter_map->Vk,count_cons->Vl,drop_drop->VH,drop_zero->VI,take_succ->VR,map_drop->V1,all_map->Wf,map_set->Wg,set->Wr,map_id->Ws
open _root_.PyProof.Rows renaming wpS_bind->rn,wpS_pure->rz,arrOf->BY,Keyed->C1,pendingOf->N7,SortSt->Ow,wpS_forRange->Ox,callWith_type1->OH,wpS_mono->Pd,numOf->Qf,wpS_modify->Qi,IntsAre->QD,oneType'->QM,failedOf->QN,wpS_get->Q6,envOfC->Rl,AllBare->RN,wpS_lift->SJ,subscriptTail_builtinR->S0,pairsOf->Ta,pairsOf_size->Tc,subscriptTail->Uj,listUpdate_at->Uk,boot_range->Ur,seqEpoch_at->Vc,iadd_int->Vo,K_congr->Vq,Subscript_->VC,mirror->VG,size_push'->VM,isInt_at->VO,wpS->Wi,Call_->Wl,stC->Wo,isInt->Wq
open _root_.Option.some renaming inj->sN
open _root_.Option renaming map_eq_some_iff->t5,isSome_iff_exists->Po,bind_eq_some_iff->Q0,bind_some->Rp,map_some->VP,isSome_map->VQ,none->Wn
open _root_.Nat renaming le_refl->t7,lt_of_lt_of_le->N9,zero_le->Oc,ne_of_lt->Ou,le_of_not_lt->OF,lt_of_le_of_ne->OQ,lt_irrefl->PH,sub_succ_lt_self->PK,lt_of_le_of_lt->PQ,lt_of_lt_of_eq->PU,add_lt_of_lt_sub'->PY,pred_eq_succ_iff->P5,le_sub_iff_add_le'->Ql,le_of_add_right_le->Qm,one_le_iff_ne_zero->Qn,lt_succ_of_lt->Qq,eq_of_lt_succ_of_not_lt->Qt,add_le_add_left->QK,le_succ->QT,add_le_add_iff_left->QZ,lt_succ_self->Q4,le_of_lt_succ->Q7,add_sub_of_le->Rv,succ_le_succ->RP,min_eq_right->RT,sub_lt_left_of_lt_add->So,lt_of_succ_lt->SA,le_of_succ_le->SD,min_eq_left->SE,eq_zero_of_not_pos->Tg,not_lt_zero->Th,add_sub_self_left->Tq,le_sub_of_add_le'->Tr,ne_of_gt->Tx,sub_one_lt_of_le->TM,sub_add_cancel->Uu,le_of_eq->UE,lt_trans->UJ,succ_le_of_lt->UL,zero_lt_of_lt->UM,sub_lt_of_lt->UU,le_add_right->U1,le_of_lt->Vt,zero_add->VJ,add_le_add->VL,sub_le->We
open _root_.Bool renaming false_ne_true->vr,false_eq_true->Ph,and_eq_true->Qd,eq_iff_iff->QR,and_false->TK,and_eq_true_iff->TY
open _root_.PySem.PassesOwn renaming never->C4
open _root_.PySem.W renaming Frag->DD,mg_none_of->Of,findIn->OA,mg_of->PB,kitOne->PM,kia_one->QS,callWith_K->Rk,OpenLaw->Rz,specialIn->RO,looks_findIn->RY,keepIn->RZ,methodCall_KW->SF,takesIn->Tn,mroIn->To,cellsFrom_some->TC,Looks->Ud,plainGet_of->U9,nsIn->Vm,WalkO->Vp,of_hideAll->Vr,plainGet->Vv,methodObj->V2,hasDictIn->V6,hideAll->V9,fnOf->Wc,codeIn->Wd
open _root_.Ne renaming symm->G0
open _root_.Sum renaming inl->NC,inr->T8
open _root_.Int renaming emod_lt_of_pos->Ol,le_of_lt->Oo,emod_nonneg->OI,le_refl->OR,toNat_natCast->OY,le_trans->PD,toNat->Qz,toNat_of_nonneg->RM,lt_of_lt_of_le->Sa,lt_of_le_of_lt->Sb,ofNat_lt->Wh
open _root_.False renaming elim->Ov
open _root_.PySem.F renaming plainAttrs_list->OE,slot_list_append->Qa,type_list_append->Qb,slot_list_extend->Qc,slot_dict_get->QO,plainAttrs_dict->RJ,slot_dict_setdefault->RK,entry_dict_get->Sg,plain_extend_loop->Sq,type_list_remove->SH,slot_list_index->SN,args_dict_get_2->SO,args_dict_get_3->SQ,slot_list_remove->SR,type_list_extend->SS,slot_dict_pop->Ts,type_dict_get->Tt,slot_list_pop->Tu,type_list_pop->Tv
open _root_.Classical renaming byContradiction->OO
open _root_.Array renaming toList_append->OU,length_toList->Pn,getElem?_toList->Pz,perm_iff_toList_perm->PR,getElem?_eq_some_iff->Qy,toList_extract->Sd,toList_reverse->Se,toList_push->Sz,size_push->SK,size_map->VN
open _root_.True renaming intro->Pe
open _root_.List.Perm renaming append_left->PX,append_right->Qk,trans->RH
open _root_.PySem.SeqAt renaming EqAt->P8,eq_tupleAt->UZ
open _root_.Iff renaming mpr->Qj,mp->Ww
open _root_.PySem.IsL renaming update->QF
open _root_.List.Nodup renaming mem_erase_iff->QP
open _root_.Eq renaming symm->Ru
open _root_.PySem.SeqAt.RcNeAt renaming tuples->Ss,lists_lengths->UO,lists->V0
open _root_.Sum.inl renaming inj->Su
open _root_.List.Pairwise renaming nil->Sy
open _root_.PySem.SeqAt.EqAt renaming int_str->Uo,str_int->Uq,of_refs->Uw
open _root_.PyProof.Rows.SortSt renaming mk'->Uv
open _root_.PySem.Around renaming under->UG
open _root_.PySem.Code renaming isFrame->UH,frames->Wm
open _root_.List.Sublist renaming map->U4
open _root_.PySem.IsRange renaming new->U8
open _root_.Prod.mk renaming inj->Vb
open _root_.PySem.StrLaws renaming seqIndex_nonneg->Ve
open _root_.Array.Perm renaming refl->Vh
open _root_.ForInStep renaming yield->Vi
open _root_.PySem.W.Looks renaming ld->Vj,here->Wt
open _root_.Prod renaming ext->VF
open _root_.PySem.EqMixed renaming eq_bool_str->VS,eq_str_bool->VT,ne_bool_str->VU,ne_str_bool->VV,eq_int_str->VW,eq_str_int->VX,ne_int_str->VY,ne_str_int->VZ
open _root_.PySem.Walks renaming range->Wk
open _root_.PySem.W.WShape renaming has->Wu
open _root_.Or renaming inr->Wv
theorem Wx {c:Prop}{h:Decidable c}(n:¬c){α:Sort u}{t e:α}:ite c t e=e:=if_neg n
theorem Wy {c:Prop}{h:Decidable c}(n:c){α:Sort u}{t e:α}:ite c t e=t:=if_pos n
abbrev Wz:=Addr->Prop
abbrev WA:=Int->Int->List Int
abbrev WB:=List (Addr×Obj)
abbrev WC:=Value->oR->Prop
abbrev WD:=Str->Option Value
abbrev WE:=Int->List Int
abbrev WG:=Array Value
abbrev WH:=List Value
abbrev WI:=Option Value
abbrev WJ:=Option Addr
section
local macro_rules|`(tactic|show $t)=>`(tactic|refine $t)
open Lean in
local macro_rules|`(tactic|let $d:letDecl)=>`(tactic|have $d:letDecl)
local macro_rules|`(tactic|rwa $s:rwRuleSeq at $h:ident)=>`(tactic|(rw $s:rwRuleSeq at $h:ident;cases $h:ident))
local macro_rules|`(‹$t›)=>`(by simpa using $t)
local macro_rules|`(tactic|cases $h:ident : $t)=>`(tactic|by_cases $h:ident : $t)
local macro_rules|`($s⁻¹)=>`(Array.size (PySem.Heap.objs (PySem.Shared.heap $s)))
open Lean in
local macro_rules|`(tactic|intros $x*)=>`(tactic|intro $(mkIdent `pins):ident $(mkIdent `s):ident $(mkIdent `σ):ident $(mkIdent `H):ident $(x.map fun y=>⟨y⟩)*)
open Lean in
local macro_rules|`(~~~$h $x*)=>`($(mkIdent `Inv) $(mkIdent `X) $(mkIdent `pins) $(mkIdent `σ) $h $x*)
open Lean in
local macro_rules|`(↑$f)=>`(wpAny (model $(mkIdent `X.prog) $(mkIdent `X.w)) $(mkIdent `X.A) $f)
open Lean in
local macro_rules|`(#v[$xs,*])=>do
 let y<-xs.getElems.mapM λ(x:Term)=>match x with|`(.$_:ident $_*)=>`(some $x)|_=>pure x
 `([$y,*])
open Lean in
local macro_rules|`(⇑$f)=>`($f $(mkIdent `P) $(mkIdent `w) $(mkIdent `K) $(mkIdent `mg) $(mkIdent `base) ($(mkIdent `fB) $(mkIdent `P) $(mkIdent `w)))
open Lean in
local macro_rules|`(↥$f)=>`($f $(mkIdent `P) $(mkIdent `w) $(mkIdent `K) $(mkIdent `mg) $(mkIdent `base) $(mkIdent `aU))
open Lean in
local macro_rules|`(#[$xs,*])=>do
 let T:=([← `(⟨_,rfl⟩),← `(⟨rfl,rfl⟩),← `(⟨_,_⟩),← `(⟨?_,?_⟩),← `(⟨rfl,?_⟩),← `(⟨rfl,_⟩)]:List (TSyntax `term))
 let mut r:Array (TSyntax `term):=Array.mk []
 for x in xs.getElems do
  match x.raw.isNatLit? with
  |some k=>
   match T[k]! with
   |`(⟨$ys,*⟩)=>r:=r++ys.getElems
   |_=>r:=r
  |_=>r:=r.push x
 `(⟨$r,*⟩)
open Lean in
local macro_rules|`(tactic|let $p:term:=$e)=>do
 let rec go (n:Nat)(t:Syntax):MacroM (TSyntax `rcasesPat):=do
  match n with
  |0=>Macro.throwUnsupported
  |n+1=>match t with
   |`($i:ident)=>`(rcasesPat|$i:ident)
   |`(_)=>`(rcasesPat|_)
   |`(#[$xs,*])=>do `(rcasesPat|⟨$(←xs.getElems.mapM fun x=>do `(Parser.Tactic.rcasesPatLo|$(←go n x):rcasesPat)),*⟩)
   |_=>Macro.throwUnsupported
 match p with
 |`(#[$_,*])=>do `(tactic|obtain $(←go 99 p):rcasesPat := $e)
 |_=>Macro.throwUnsupported
namespace L2
open PySem PySem.Spec PyProof.Rows
abbrev Key:=Sum Int Str
def p9:Key->Value->Bool
 |.inl k,v=>Value.isInt k v
 |.inr x,v=>Value.isStrOf x v
def MV(w:By):Key->Int
 |.inl k=>hashInt k
 |.inr x=>hashStr w x
theorem cB:∀{k:Key}{v:Value},p9 k v=true->(∃i t,k=NC i/\v=Value.int i t)\/(∃x t,k=T8 x/\v=Value.str x t)
 |.inl i,v,h=>by
  let#[t,e]:=Value.isInt_shape (k:=i) (v:=v) h;show .inl #[i,t,rfl,e]
 |.inr x,v,h=>by
  let#[t,e]:=Value.isStrOf_shape (x:=x) (v:=v) h;show .inr #[x,t,rfl,e]
theorem zT(i:Int)(t:Wj):p9 (.inl i) (.int i t)=true:=by simp[p9,Value.isInt]
theorem Aq(x:Str)(t:Wj):p9 (.inr x) (.str x t)=true:=by simp[p9,Value.isStrOf]
theorem Hi(a b:Int):decide ((NC a:Key)=NC b)=(a==b):=by
 cases e:a=b
 .subst e;simp
 .let h:¬ (NC a:Key)=NC b:=λq=>e (Su q);rw[decide_eq_false h];show(beq_eq_false_iff_ne.mpr e).symm
theorem Hb(a b:Str):decide ((T8 a:Key)=T8 b)=decide (a=b):=by
 cases e:a=b
 .subst e;simp
 .let h:¬ (T8 a:Key)=T8 b:=λq=>e (Sum.inr.inj q);rw[decide_eq_false h,decide_eq_false e]
theorem IE(a:Int)(b:Str):decide ((NC a:Key)=T8 b)=false:=decide_eq_false (λq=>nomatch q)
theorem IT(a:Str)(b:Int):decide ((T8 a:Key)=NC b)=false:=decide_eq_false (λq=>nomatch q)
def bT(prog:tp)(w:By):PySem.KeyKind prog w Key where
 is:=p9
 hash:=MV w
 inj:=λv a b I G=>by
  rcases cB I with⟨i,t,rfl,rfl⟩|⟨x,t,rfl,rfl⟩
  .rcases cB G with⟨j,u,rfl,e⟩|⟨y,u,rfl,e⟩
   .injection e with z _;rw[z]
   .show nomatch e
  .rcases cB G with⟨j,u,rfl,e⟩|⟨y,u,rfl,e⟩
   .show nomatch e
   .injection e with z _;rw[z]
 byValue:=λk v h=>by
  rcases cB h with⟨i,t,rfl,rfl⟩|⟨x,t,rfl,rfl⟩<;>rfl
 pyHash:=λF h=>by
  rcases cB F with⟨i,t,rfl,rfl⟩|⟨x,t,rfl,rfl⟩
  .show wpAny_pyHash_int h
  .show wpAny_pyHash_str h
 eqBool:=λJ F h=>by
  rcases cB J with⟨i,t,rfl,rfl⟩|⟨x,t,rfl,rfl⟩
  .rcases cB F with⟨j,u,rfl,rfl⟩|⟨y,u,rfl,rfl⟩
   .rw[Hi]at h;show wpAny_eqBool_int h
   .rw[IE]at h;show Uo i t y u _ _ _ _ h
  .rcases cB F with⟨j,u,rfl,rfl⟩|⟨y,u,rfl,rfl⟩
   .rw[IT]at h;show Uq x t j u _ _ _ _ h
   .rw[Hb]at h;show wpAny_eqBool_str h
 «strs» := λk x t v h=>by
  rcases cB h with⟨i,u,rfl,e⟩|⟨y,u,rfl,e⟩
  .show nomatch e
  .injection e with z _;subst z;cases v<;>rfl
theorem vC(prog:tp)(w:By)(i:Int)(t:Wj):(bT prog w).is (.inl i) (.int i t)=true:=zT i t
theorem vW(prog:tp)(w:By)(x:Str)(t:Wj):(bT prog w).is (.inr x) (.str x t)=true:=Aq x t
set_option genInjectivity true in
inductive V where
 |non|bl (b:Bool)|int (i:Int)|str (x:Str)|byt (b:Array UInt8)|flt (b:UInt64)|ref (a:Addr)|ty (n:String)
 deriving DecidableEq
def RelV:V->Value->Prop
 |.non,u=>u=Value.none
 |.bl b,u=>u=Value.bool b
 |.int i,u=>∃t,u=Value.int i t
 |.str x,u=>∃t,u=Value.str x t
 |.byt b,u=>∃t,u=Value.bytes b t
 |.flt b,u=>∃t,u=Value.float b t
 |.ref a,u=>u=Value.ref a
 |.ty n,u=>u=Value.type n
abbrev Vals:List V->List Value->Prop:=Paired RelV
theorem Vals.length{xs:List V}{us:WH}(r:Vals xs us):xs.length=us.length:=Paired.length r
theorem Vals.get:∀{xs:List V}{us:WH}{i:Nat}{x:V},Vals xs us->xs[i]?=some x->∃u,us[i]?=some u/\RelV x u
 |_,_,_,_,.nil,e=>by simp at e
 |_,_,0,_,.cons r _,e=>by simp at e;subst e;show#[0,r]
 |_,_,i+1,x,.cons _ t,e=>by
  let#[u,h1,h2]:=Vals.get (i:=i) (x:=x) t ‹e›;show#[u,by simpa using h1,h2]
theorem Vals.set{x:V}{u:Value}(r:RelV x u):∀{xs:List V}{us:WH}(i:Nat),Vals xs us->Vals (xs.set i x) (us.set i u)
 |_,_,_,.nil=>.nil
 |_,_,0,.cons _ t=>.cons r t
 |_,_,i+1,.cons q t=>.cons q (Vals.set r i t)
theorem Vals.append:∀{xs ys:List V}{us ws:WH},Vals xs us->Vals ys ws->Vals (xs++ys) (us++ws)
 |_,_,_,_,.nil,s=>s
 |_,_,_,_,.cons r t,s=>.cons r (Vals.append t s)
theorem Vals.take:∀{xs:List V}{us:WH}(n:Nat),Vals xs us->Vals (xs.take n) (us.take n)
 |_,_,0,_=>.nil
 |_,_,_+1,.nil=>.nil
 |_,_,n+1,.cons r t=>.cons r (Vals.take n t)
theorem Vals.drop:∀{xs:List V}{us:WH}(n:Nat),Vals xs us->Vals (xs.drop n) (us.drop n)
 |_,_,0,r=>r
 |_,_,_+1,.nil=>.nil
 |_,_,n+1,.cons _ t=>Vals.drop n t
def gM:Option V->Option Value->Prop
 |some v,some u=>RelV v u
 |none,none=>True
 |_,_=>False
def KV{κ:Type}:List (κ×V)->List (κ×Value)->Prop:=Paired λ(p:κ×V)(q:κ×Value)=>p.1=q.1/\RelV p.2 q.2
def kV:Key->V
 |.inl i=>.int i
 |.inr x=>.str x
set_option genInjectivity true in
inductive HO where
  |lst(xs:List V)
  |tup(xs:List V)
  |dK(kvs:List (Key×V))|dT (kvs:List (List Key×V))
  |set(S:Int->Bool)(n:Nat)
  |ins(C dx:Addr)(fs:List (Str×V))
  |own(x:Addr)
  |xd(fs:List (Str×V))
  |met(f x:Addr)
  |rng(lo hi:Int)
  |frz(o:Obj)(u:HO)
  |tbl(ps:WG)
  |ext(φ:Heap->Prop)
abbrev Hp:=Addr->Option HO
def upd(H:Hp)(a:Addr)(o:HO):Hp:=λb=>if b=a then some o else H b
theorem ae{H:Hp}{a:Addr}{o:HO}:upd H a o a=some o:=by unfold upd;rw[Wy rfl]
theorem aj{H:Hp}{a b:Addr}{o:HO}(h:b≠a):upd H a o b=H b:=by unfold upd;rw[Wx h]
theorem cU{H:Hp}{a b:Addr}{o u:HO}(h:H a=some o)(h':H b=some u)(d:o≠u):a≠b:=by
 intro e;subst e;rw[h]at h';show d (sN h')
theorem av{H:Hp}{a b:Addr}{o:HO}(h:H a=some o)(h':H b=none):a≠b:=by
 intro e;subst e;rwa[h]at h'
section
variable(P:tp)(w:By)
def bU(H:Hp)(h:Heap)(a:Addr):HO->Prop
 |.lst xs=>xs.length<=sizeLine/\∃(its:WH)(n:Nat),Vals xs its/\h.get? a=some { cls:=.type "list",data:=.seq its.toArray n }
 |.tup xs=>xs.length<=sizeLine/\∃its:List Value,Vals xs its/\IsTup h a its.toArray
 |.dK kvs=>kvs.length<=sizeLine/\(a==PL)=false/\∃vs,KV kvs vs/\h.DictOf (bT P w) a vs
 |.dT kvs=>kvs.length<=sizeLine/\(a==PL)=false/\∃xs:List (List Key×Addr×Value),
   Paired (λ(p:List Key×V)(q:List Key×Addr×Value)=>p.1=q.1/\H q.2.1=some (.tup (p.1.map kV))/\RelV p.2 q.2.2) kvs xs /\
   ∃o es ep,h.get? a=some o/\o.ExactDict/\o.data=.dict es ep/\es.toList=xs.map (entryOfKey (RU (bT P w)))/\(xs.map (·.1)).Nodup
 |.set S n=>h.SetOf (intKind P w) a S n
 |.ins C dx fs=>H dx=some (.own a)/\fs.length<=1000/\dx≠a/\h.get? a=some (instObj C dx) /\
   ∃mA,h.Ns1 dx mA/\(∀f,gM (fs.lookup f) (mA f))/\Uy mA (fs.map (·.1))
 |.own _=>∃o,h.get? a=some o
 |.xd fs=>∃mA,h.Ns1 a mA/\∀f,gM (fs.lookup f) (mA f)
 |.rng lo hi=>∃t u v,h.get? a=some { cls:=.type "range",data:=.fields ([.int lo t,.int hi u,.int 1 v].toArray) }
 |.frz o u=>h.get? a=some o/\bU H h a u
 |.tbl ps=>h.get? a=some { cls:=.none,data:=.fields ps }
 |.met f x=>h.get? a=some (V2 (.ref f) (.ref x))
 |.ext z=>z h/\(∃o,h.get? a=some o)/\∀h1 h2:Heap, z h1->(∀o,h1.get? a=some o->h2.get? a=some o)->z h2
def j7(H:Hp)(h:Heap):Prop:=∀a o,H a=some o->bU P w H h a o
variable{P:tp}{w:By}{H H':Hp}{h h':Heap}{a:Addr}{o:HO}
theorem bU.lt(x:bU P w H h a o):a<h.objs.size:=by
 cases o with
 |lst xs=>let#[_,_,_,_,e]:=x;show Heap.lt_size e
 |tup xs=>let#[_,_,_,p]:=x;show p.lt
 |dK kvs=>let#[_,_,_,_,o,_,_,e,_]:=x;show Heap.lt_size e
 |dT kvs=>let#[_,_,_,_,o,_,_,e,_]:=x;show Heap.lt_size e
 |set S n=>let#[o,_,_,_,e,_]:=x;show Heap.lt_size e
 |ins C dx fs=>let#[_,_,_,e,_]:=x;show Heap.lt_size e
 |own y=>let#[_,e]:=x;show Heap.lt_size e
 |xd fs=>let#[_,#[_,_,_,e,_],_]:=x;show Heap.lt_size e
 |rng lo hi=>let#[_,_,_,e]:=x;show Heap.lt_size e
 |frz z u=>let#[e,_]:=x;show Heap.lt_size e
 |tbl ps=>show Heap.lt_size (show h.get? a=some _ from x)
 |met f y=>show Heap.lt_size (show h.get? a=some _ from x)
 |ext F=>let#[_,#[_,e],_]:=x;show Heap.lt_size e
theorem Paired.CB{α z:Type}{F G:α->z->Prop}:∀{l₁:List α}{l₂:List z},Paired F l₁ l₂->(∀a b,F a b->G a b)->Paired G l₁ l₂
 |_,_,.nil,_=>.nil
 |_,_,.cons r t,f=>.cons (f _ _ r) (Paired.CB t f)
theorem bU.iP(x:bU P w H h a o)(k:∀b u,(b=a\/H b=some (.own a))->h.get? b=some u->h'.get? b=some u)
  (G:∀b,H b=some (.own a)->H' b=some (.own a)) (I:∀b xs,H b=some (.tup xs)->H' b=some (.tup xs)):bU P w H' h' a o:=by
 induction o with
 |lst xs=>let#[z,its,n,r,e]:=x;show#[z,its,n,r,k _ _ (.inl rfl) e]
 |tup xs=>let#[z,its,r,F,e,c]:=x;show#[z,its,r,F,k _ _ (.inl rfl) e,c]
 |dK kvs=>let#[z,y,vs,r,F,es,ep,e,c]:=x;show#[z,y,vs,r,F,es,ep,k _ _ (.inl rfl) e,c]
 |dT kvs =>
  let#[z,y,xs,r,F,es,ep,e,c]:=x;show#[z,y,xs,Paired.CB r λp q z=>#[z.1,I _ _ z.2.1,z.2.2],F,es,ep,k _ _ (.inl rfl) e,c]
 |set S n=>let#[F,es,ep,t,e,c]:=x;show#[F,es,ep,t,k _ _ (.inl rfl) e,c]
 |ins C dx fs =>
  let#[d,z,ne,e,mA,#[od,es,ep,J,c],r]:=x;show#[G _ d,z,ne,k _ _ (.inl rfl) e,mA,#[od,es,ep,k _ _ (.inr d) J,c],r]
 |own y=>let#[F,e]:=x;show#[F,k _ _ (.inl rfl) e]
 |xd fs=>let#[mA,#[od,es,ep,e,c],r]:=x;show#[mA,#[od,es,ep,k _ _ (.inl rfl) e,c],r]
 |rng lo hi=>let#[t,u,v,e]:=x;show#[t,u,v,k _ _ (.inl rfl) e]
 |frz F u L=>let#[e,q]:=x;show#[k _ _ (.inl rfl) e,L q]
 |tbl ps =>
  let e:h.get? a=some { cls:=.none,data:=.fields ps }:=x;change h'.get? a=some { cls:=.none,data:=.fields ps };show k a _ (.inl rfl) e
 |met f y =>
  let e:h.get? a=some (V2 (.ref f) (.ref y)):=x;change h'.get? a=some (V2 (.ref f) (.ref y));show k a _ (.inl rfl) e
 |ext N=>let#[p,#[o,e],st]:=x;show#[st _ _ p λo q=>k _ _ (.inl rfl) q,#[o,k _ _ (.inl rfl) e],st]
theorem j7.lt(x:j7 P w H h)(e:H a=some o):a<h.objs.size:=(x a o e).lt
theorem j7.fresh(x:j7 P w H h)(e:h.objs.size<=a):H a=none:=by
 cases q:H a with
 |none=>rfl
 |some u=>show absurd (N9 (x.lt q) e) (PH _)
theorem j7.kept(x:j7 P w H h)(k:∀b u,h.get? b=some u->h'.get? b=some u):j7 P w H h':=λa o e =>
 (x a o e).iP (λb u _ q=>k b u q) (λ_ q=>q) λ_ _ q=>q
theorem j7.laid(x:j7 P w H h)(k:∀b u,h.get? b=some u->h'.get? b=some u)(G:h.objs.size<=a)(new:bU P w (upd H a o) h' a o):j7 P w (upd H a o) h':=λb u e=>by
 let z:=x.fresh G;cases F:b=a
 .subst F;rwa[ae]at e;show new
 .rw[aj F]at e;show(x b u e).iP (λc v _ q=>k c v q) (λc q=>by rw[aj (av q z)];show q) λc xs q=>by rw[aj (av q z)];show q
end
def Rd(H:Hp)(a:Addr)(u:HO):Prop:=H a=some u\/∃o,H a=some (.frz o u)
theorem Rd.ok{P:tp}{w:By}{H:Hp}{h:Heap}{a:Addr}{u:HO}(r:Rd H a u)(x:j7 P w H h):bU P w H h a u:=by
 rcases r with r|⟨o,r⟩
 .show x a u r
 .let#[_,q]:=x a _ r;show q
def JV:Option HO->Prop
 |some (.lst _)=>True
 |some (.dK _)=>True
 |some (.dT _)=>True
 |some (.set _ _)=>True
 |some (.ins _ _ _)=>True
 |some (.ext _)=>True
 |_=>False
section
variable{P:tp}{w:By}{H:Hp}{h h':Heap}{x e:Addr}{o':HO}
theorem j7.write(ok:j7 P w H h)(J:JV (H x))(O:e=x\/H e=some (.own x))(k:∀b u,b≠e->h.get? b=some u->h'.get? b=some u)(U:∃u,h'.get? e=some u)
  (new:bU P w (upd H x o') h' x o'):j7 P w (upd H x o') h':=λb u q=>by
 let N:∀c y,H c=some (.own y)->c≠x:=λc y r z=>(by subst z;rw[r]at J;show J);let R:∀c xs,H c=some (.tup xs)->c≠x:=λc xs r z=>(by subst z;rw[r]at J;show J);cases I:b=x
 .subst I;rwa[ae]at q;show new
 .rw[aj I]at q;cases G:b=e
  .let L:H b=some (.own x):=by
    rcases O with z|z
    .show absurd (G.trans z) I
    .rw[G];show z
   rwa[q]at L;let#[v,S]:=U;show#[v,by rw[G];show S]
  .show(ok b u q).iP (λc v F r=>k c v ?_ r) (λc r=>by rw[aj (N c b r)];show r) λc xs r=>(by rw[aj (R c xs r)];show r);rcases F with rfl|F
   .show G
   .rintro rfl;rcases O with z|z
    .show N c b F z
    .rw[F]at z;cases z;show I rfl
end
structure Un(fs ex:List Addr)(H H':Hp)(h h':Heap):Prop where
 keep:∀b o,h.get? b=some o->H b=none->b∉fs->b∉ex->h'.get? b=some o
 slot:∀b o,h.get? b=some o->H b=none->b∈fs->b∉ex->∃sl,h'.get? b=some { o with slots:=sl }
 free:∀b o,h.get? b=some o->H b=none->b∉ex->H' b=none
 there:∀b o,h.get? b=some o->b∉ex->∃o',h'.get? b=some o'
 pM:∀b xs,H b=some (.tup xs)->H' b=some (.tup xs)
 nj:∀b o u,H b=some (.frz o u)->H' b=some (.frz o u)
 pb:∀b ps,H b=some (.tbl ps)->∃more,H' b=some (.tbl (ps++more))
section
variable{fs fs' ex ex':List Addr}{H H1 H2:Hp}{h h1 h2 h':Heap}{a x e:Addr}{o:HO}
theorem Un.any(u:Un fs ex H H1 h h1){b:Addr}{z:Obj}(q:h.get? b=some z)(n:H b=none)(hx:b∉ex):∃sl,h1.get? b=some { z with slots:=sl }:=by
 cases F:b∈fs
 .show u.slot b z q n F hx
 .show#[z.slots,u.keep b z q n F hx]
theorem Un.kept(k:∀b u,h.get? b=some u->h'.get? b=some u):Un fs ex H H h h' :=
 #[λb z q _ _ _=>k b z q,λb z q _ _ _=>#[z.slots,k b z q],λ_ _ _ n _=>n,λb z q _=>#[z,k b z q],λ_ _ q=>q,λ_ _ _ q=>q,λ_ ps q=>#[([].toArray),by rw[q];simp]]
theorem Un.refl:Un fs ex H H h h:=Un.kept λ_ _ q=>q
theorem Un.laid(k:∀b u,h.get? b=some u->h'.get? b=some u)(F:h.objs.size<=a)(z:H a=none):Un fs ex H (upd H a o) h h' where
 keep:=λb u q _ _ _=>k b u q
 slot:=λb u q _ _ _=>#[u.slots,k b u q]
 free:=λb u q n _=>by rw[aj (Ou (N9 (Heap.lt_size q) F))];show n
 there:=λb u q _=>#[u,k b u q]
 pM:=λb xs q=>by rw[aj (av q z)];show q
 nj:=λb u xs q=>by rw[aj (av q z)];show q
 pb:=λb ps q=>#[([].toArray),by rw[aj (av q z),q];simp]
theorem Un.write(F:JV (H x))(N:e=x\/H e=some (.own x))(k:∀b u,b≠e->h.get? b=some u->h'.get? b=some u)(L:∃u,h'.get? e=some u):Un fs ex H (upd H x o) h h':=by
 let hx:∀b,H b=none->b≠x:=λb n z=>(by subst z;rw[n]at F;show F);let J:∀b,H b=none->b≠e:=λb n z=>by
  subst z;rcases N with r|r
  .show hx b n r
  .rw[n]at r;cases r
 let G:∀b u,H b=some u->¬ JV (some u)->b≠x:=λb u q nm z=>(by subst z;rw[q]at F;show nm F);show#[λb u q n _ _=>k b u (J b n) q,λb u q n _ _=>#[u.slots,k b u (J b n) q],λb u q n _=>by rw[aj (hx b n)];show n,λb u q _=>?_,
  λb xs q=>by rw[aj (G b _ q λz=>z)];show q,λb u xs q=>by rw[aj (G b _ q λz=>z)];show q,λb ps q=>#[([].toArray),by rw[aj (G b _ q λz=>z),q];simp]]
 cases I:b=e
 .subst I;show L
 .show#[u,k b u I q]
end
def Lq(h:Heap)(H:Hp):List Addr:=(Pw h.objs.size).filter λa=>(H a).isSome
def tU(h:Heap)(H:Hp):Heap:=V9 h (Lq h H)
theorem z8(h:Heap)(H:Hp):(tU h H).objs.size=h.objs.size:=PySem.W.hideAll_size _ _
theorem CF{h:Heap}{H:Hp}{b:Addr}{o:Obj}(e:h.get? b=some o)(n:H b=none):(tU h H).get? b=some o :=
 hideAll_get _ e λz=>by
  let q:(H b).isSome=true:=(Px.mp z).2;rw[n]at q;simp at q
theorem EL{h:Heap}{H:Hp}{b:Addr}{o:Obj}(e:(tU h H).get? b=some o):h.get? b=some o/\H b=none:=by
 let F:h.get? b=some o:=Vr (Lq h H) e;show#[F,?_];cases q:H b with
 |none=>rfl
 |some x =>
  let G:b∈Lq h H:=Px.mpr #[Q1.mpr (Heap.lt_size F),by simp[q]];let z:(tU h H).get? b=none:=PySem.W.hideAll_none (Lq h H) G;rwa[z]at e
structure Mod(K:DD)(mg:WD)(base:Heap):Prop where
 Dr:K.In base
 glob:base.Ns Od mg
 blt:∃mb,base.Ns Vs mb/\∀x:Str,x ≠ "__name__" -> mb x=Om x
 nolimit:base.NoLimit
structure Cx where
 prog:tp
 w:By
 K:DD
 mg:Str->Option Value
 base:Heap
 A:L5
 N:List Str
 s₀:oR
 H₀:Hp
 env:Sn
 outer:List Sn
 stack:List Sn
 ex:List Addr
 fn:Str->Bool
 calm:Bool
 pn:List (Addr×Obj)
 xe:Value->oR->Prop
def qE(l:List Sn):List Addr:=l.filterMap (·.frame)
abbrev Cx.fs(X:Cx):List Addr:=qE X.outer
def KJ(z:Rw)(x:Str):Prop:=z.names.lookup x=some .local\/z.names.lookup x=some .cell\/z.names.lookup x=some .free
def Loc(z:Rw)(x:Str):Prop:=z.names.lookup x=some .local\/z.names.lookup x=some .cell
def Look(env:Sn)(h:Heap)(m:WD)(x:Str)(u:Value):Prop :=
 (env.kindOf x=some .local/\m x=some u)\/((env.kindOf x=some .cell\/env.kindOf x=some .free)/\∃c,env.cells.lookup x=some c/\h.IsCell c (some u))
structure Cx.Ok(X:Cx):Prop where
 mod:Mod X.K X.mg X.base
 kind:X.env.scope.kind=.function
 glob:X.env.globals=Od
 blt:X.env.builtins=Vs
 above:X.s₀.heap.objs.size<=X.env.locals
 inj:∀x y c,X.env.cells.lookup x=some c->X.env.cells.lookup y=some c->x=y
 has:∀x,(X.env.kindOf x=some .cell\/X.env.kindOf x=some .free)->∃c,X.env.cells.lookup x=some c
 HM:∀x c,X.fn x=true->X.env.cells.lookup x=some c->X.s₀.heap.objs.size<=c
 hd:X.calm=true->X.A.handled=none
 frames:X.A.frames=some X.stack
 Jk:X.stack=X.outer\/(X.stack=X.env::X.outer/\X.env.frame=some X.env.locals)
 Lh:∀b∈X.ex,b≠X.env.locals/\∀x c,X.env.cells.lookup x=some c->c≠b
 bs:∀b o,X.base.get? b=some o->X.s₀.heap.get? b=some o/\X.H₀ b=none
 Bc:X.base.objs.size<=X.s₀.heap.objs.size
 xP:∀b o,X.base.get? b=some o->b∉X.ex
 vo:∀b∈X.ex,b∉X.fs
 jZ:X.s₀.heap.FunFrames X.base X.outer
 Eo:∀b∈X.fs,X.H₀ b=none
structure Inv(X:Cx)(pins:WB)(σ:List (Option V))(H:Hp)(s:oR):Prop where
 ok:X.Ok
 os:s.os=X.s₀.os
 bare:RN s.gens
 base:Un X.fs X.ex X.H₀ H X.s₀.heap s.heap
 loc:∃m,s.heap.Ns X.env.locals m/\∀(i:Nat)(x:Str)(v:V),X.N[i]?=some x->σ[i]?=some (some v)->KJ X.env.scope x->∃u,RelV v u/\Look X.env s.heap m x u
 cell:∀x c,X.env.cells.lookup x=some c->∃v,s.heap.IsCell c v
 free:H X.env.locals=none
 fW:∀x c,X.env.cells.lookup x=some c->H c=none
 pin:∀p∈X.pn++pins,s.heap.get? p.1=some p.2/\H p.1=none/\p.1≠X.env.locals/\p.1∉X.fs/\∀v,p.2.data≠.cell v
 bJ:j7 X.prog X.w H s.heap
 len:σ.length=X.N.length
section
variable{X:Cx}{pins:WB}{σ:List (Option V)}{H H':Hp}{s:oR}{h':Heap}
theorem Cx.Ok.Na(ok:X.Ok){b:Addr}{o:Obj}(e:X.base.get? b=some o):b∉X.fs:=λz=>by
 have:=(ok.jZ.mem z).1;rwa[e]at this
theorem Inv.bs(I: ~~~H s):∀b o,X.base.get? b=some o->s.heap.get? b=some o/\H b=none:=λb o e =>
 #[I.base.keep b o (I.ok.bs b o e).1 (I.ok.bs b o e).2 (I.ok.Na e) (I.ok.xP b o e),I.base.free b o (I.ok.bs b o e).1 (I.ok.bs b o e).2 (I.ok.xP b o e)]
theorem Inv.bk(I: ~~~H s):∀b o,X.base.get? b=some o->s.heap.get? b=some o:=λb o e=>(I.bs b o e).1
theorem Inv.mod(I: ~~~H s):Mod X.K X.mg X.base:=I.ok.mod
theorem Inv.jL(I: ~~~H s):X.K.In s.heap:=I.ok.mod.Dr.keeps I.bk
theorem Inv.lt(I: ~~~H s):X.env.locals<s⁻¹:=let ⟨_,z,_⟩:=I.loc;z.lt
theorem Inv.sz(I: ~~~H s):X.s₀.heap.objs.size<=s⁻¹:=le_trans I.ok.above (Vt I.lt)
theorem Inv.Il(I: ~~~H s){a:Addr}(h:s⁻¹<=a):a∉X.fs:=λF=>by
 let#[_,o,z,_]:=I.ok.jZ.mem F;show absurd (N9 (Heap.lt_size z) (le_trans I.sz h)) (PH _)
theorem Inv.D7(I: ~~~H s):∀x c,X.env.cells.lookup x=some c->c≠X.env.locals:=λx c e z=>by
 let#[v,o,F,hd]:=I.cell x c e;let#[m,#[o',es,ep,G,J,_],_]:=I.loc;rwa[z,G]at F;rwa[J]at hd
theorem Inv.jZ(I: ~~~H s):s.heap.FunFrames X.base X.outer:=by
 let all:∀(l:List Sn),(∀b∈qE l,b∈X.fs)->X.s₀.heap.FunFrames X.base l->s.heap.FunFrames X.base l:=by
  intro l
  induction l with
  |nil=>intro _ _;trivial
  |cons env r R =>
   intro hs U;let#[O,#[L,o,G,Y,N,hd],S]:=U;let F:L∈X.fs:=hs L (by unfold qE;rw[RL,G];show Oi);let#[sl,e]:=I.base.slot L o N (I.ok.Eo L F) F λz=>I.ok.vo L z F;show#[O,#[L,_,G,Y,e,hd],R (λb J=>hs b (by unfold qE;rw[RL,G];show Oq _ J)) S]
 show all X.outer (λ_ J=>J) I.ok.jZ
theorem Inv.stack(I: ~~~H s):s.heap.FunFrames X.base X.stack:=by
 rcases I.ok.Jk with e|⟨e,F⟩
 .rw[e];show I.jZ
 .rw[e];let#[m,z,_]:=I.loc;show .cons (by rw[I.ok.kind];decide) F z ?_ I.jZ;show Heap.get?_none_of_le (le_trans I.ok.Bc I.ok.above)
theorem Inv.pX(I: ~~~H s):∀b∈qE X.stack,b∈X.env.locals::X.fs:=λb z=>by
 rcases I.ok.Jk with e|⟨e,F⟩
 .rw[e]at z;show Oq _ z
 .rw[e]at z;unfold qE at z;rw[RL,F]at z;show z
theorem Inv.uC(I: ~~~H s):∀b∈qE X.stack,H b=none:=λb F=>by
 rcases se.mp (I.pX b F)with e|F
 .rw[e];show I.free
 .let#[_,o,G,_]:=I.ok.jZ.mem F;show I.base.free b o G (I.ok.Eo b F) λz=>I.ok.vo b z F
theorem Inv.step{g':Array Uz}{t':Nat}{d':Drawn}{ch:List Addr}(I: ~~~H s)
  (O:∀b∈ch,(b∈X.ex\/X.s₀.heap.objs.size<=b)/\b≠X.env.locals/\(∀x c,X.env.cells.lookup x=some c->c≠b)/\∀p∈X.pn++pins,p.1≠b)
  (keep:∀b o,b≠X.env.locals->b∉X.fs->b∉ch->s.heap.get? b=some o->H b=none->h'.get? b=some o)
  (slot:∀b o,b≠X.env.locals->b∈X.fs->b∉ch->s.heap.get? b=some o->H b=none->∃sl,h'.get? b=some { o with slots:=sl }) (free:∀b o,b∉ch->s.heap.get? b=some o->H b=none->H' b=none)
  (there:∀b o,b∉ch->s.heap.get? b=some o->∃o',h'.get? b=some o')
  (pM:∀b xs,H b=some (.tup xs)->H' b=some (.tup xs)) (nj:∀b o u,H b=some (.frz o u)->H' b=some (.frz o u)) (pb:∀b ps,H b=some (.tbl ps)->∃ab,H' b=some (.tbl (ps++ab)))
  (ns:∀m,s.heap.Ns X.env.locals m->h'.Ns X.env.locals m) (bJ:j7 X.prog X.w H' h') (hg:RN g') :
  ~~~H' { s with heap:=h',gens:=g',drawn:=d',toks:=t' }:=by
 let U:∀b o,X.s₀.heap.get? b=some o->b≠X.env.locals:=λb o e=>Ou (N9 (Heap.lt_size e) I.ok.above);let R:∀b o,X.s₀.heap.get? b=some o->b∉X.ex->b∉ch:=λb o e hx G=>by
  rcases(O b G).1 with z|z
  .show hx z
  .show absurd (N9 (Heap.lt_size e) z) (PH _)
 let Y:∀x c,X.env.cells.lookup x=some c->∀v,s.heap.IsCell c v->h'.IsCell c v:=λx c e v ad=>by
  let#[o,J,hd]:=ad;let L:c∉ch:=λz=>(O c z).2.2.1 x c e rfl;cases hc:c∈X.fs
  .let#[sl,q]:=slot c o (I.D7 x c e) hc L J (I.fW x c e);show#[_,q,hd]
  .show#[o,keep c o (I.D7 x c e) hc L J (I.fW x c e),hd]
 show#[I.ok,I.os,hg,#[λb o e n G hx=>?_,λb o e n G hx=>?_,λb o e n hx=>?_,λb o e hx=>?_,λb xs e=>pM b xs (I.base.pM b xs e),λb o xs e=>nj b o xs (I.base.nj b o xs e),λb ps e=>?_],?_,λx c e=>?_,?_,λx c e=>?_,λp S=>?_,bJ,I.len]
 .show keep b o (U b o e) G (R b o e hx) (I.base.keep b o e n G hx) (I.base.free b o e n hx)
 .let#[sl,F]:=I.base.slot b o e n G hx;let#[ac,N]:=slot b _ (U b o e) G (R b o e hx) F (I.base.free b o e n hx);show#[ac,N]
 .let#[o',F]:=I.base.there b o e hx;show free b o' (R b o e hx) F (I.base.free b o e n hx)
 .let#[o',F]:=I.base.there b o e hx;show there b o' (R b o e hx) F
 .let#[m1,F]:=I.base.pb b ps e;let#[m2,N]:=pb b _ F;show#[m1++m2,by rw[N,Array.append_assoc]]
 .let#[m,hn,hl]:=I.loc;show#[m,ns m hn,λi x v F N e3=>?_];let#[u,r,l]:=hl i x v F N e3;show#[u,r,?_];rcases l with l|⟨k,c,e,z⟩
  .show .inl l
  .show .inr #[k,c,e,Y x c e _ z]
 .let#[v,z]:=I.cell x c e;show#[v,Y x c e v z]
 .let#[m,#[o,_,_,J,_],_]:=I.loc;show free _ o (λz=>(O _ z).2.1 rfl) J I.free
 .let#[v,o,J,hd]:=I.cell x c e;show free c o (λz=>(O c z).2.2.1 x c e rfl) J (I.fW x c e)
 .let#[e,n,ne,nf,d]:=I.pin p S;let L:p.1∉ch:=λz=>(O p.1 z).2.2.2 p S rfl;show#[keep p.1 p.2 ne nf L e n,free p.1 p.2 L e n,ne,nf,d]
theorem Inv.un{t':Nat}(I: ~~~H s)(u:Un X.fs [] H H' s.heap h')(O:j7 X.prog X.w H' h'): ~~~H' { s with heap:=h',toks:=t' }:=by
 let#[m,#[o,es,ep,G,r],_]:=id I.loc;let#[sl,L]:=u.any G I.free (by simp);show I.step (g':=s.gens) (d':=s.drawn) (ch:=[]) (λ_ z=>nomatch z) (λb o _ F _ e n=>u.keep b o e n F (by simp)) (λb o _ F _ e n=>u.slot b o e n F (by simp)) (λb o _ e n=>u.free b o e n (by simp)) (λb o _ e=>u.there b o e (by simp)) u.pM u.nj u.pb (λU R=>by
  let#[o',es',N,J,S]:=R;rwa[G]at J;show#[_,es',N,L,S]) O I.bare
theorem Inv.call{g':Array Uz}{t':Nat}{d':Drawn}{ch:List Addr}(I: ~~~H s)(u:Un (qE X.stack) ch H H' s.heap h')(O:j7 X.prog X.w H' h')(R:RN g')
  (N:∀b∈ch,(b∈X.ex\/X.s₀.heap.objs.size<=b)/\b≠X.env.locals/\(∀x c,X.env.cells.lookup x=some c->c≠b)/\∀p∈X.pn++pins,p.1≠b) :
  ~~~H' { s with heap:=h',gens:=g',drawn:=d',toks:=t' }:=by
 let#[m,#[o,es,ep,J,r],_]:=id I.loc;let#[sl,G]:=u.any J I.free λz=>(N _ z).2.1 rfl;show I.step (ch:=ch) N (λb o G U F e n=>u.keep b o e n (λz=>(se.mp (I.pX b z)).elim G U) F) (λb o _ _ F e n=>u.any e n F) (λb o F e n=>u.free b o e n F) (λb o F e=>u.there b o e F) u.pM u.nj u.pb (λm' hm=>by
  let#[o',es',Y,L,S]:=hm;rwa[J]at L;show#[_,es',Y,G,S]) O R
theorem Inv.turned{t':Nat}{it:Addr}(I: ~~~H s)(k:∀b o,b≠it->s.heap.get? b=some o->h'.get? b=some o)(R:H it=none)(G:it≠X.env.locals)
  (h1:it∈X.ex\/X.s₀.heap.objs.size<=it) (h2:∀x c,X.env.cells.lookup x=some c->c≠it) (N:∀p∈X.pn++pins,p.1≠it): ~~~H { s with heap:=h',toks:=t' }:=by
 let J:∀b u,H b=some u->b≠it:=λb u e z=>(by rwa[z,R]at e);show I.step (g':=s.gens) (d':=s.drawn) (ch:=[it]) (λb S=>?_) (λb o _ _ F e _=>k b o (λz=>F (by simp[z])) e) (λb o _ _ F e _=>#[o.slots,k b o (λz=>F (by simp[z])) e]) (λ_ _ _ _ n=>n)
  (λb o F e=>#[o,k b o (λz=>F (by simp[z])) e]) (λ_ _ e=>e) (λ_ _ _ e=>e) (λb ps e=>#[([].toArray),by rw[e];simp]) (λm O=>?_) (λb u e=>?_) I.bare
 .let e:b=it:=‹S›;subst e;show#[h1,G,h2,N]
 .let#[o,es,ep,L,r]:=O;show#[o,es,ep,k _ o (G0 G) L,r]
 .show(I.bJ b u e).iP (λc v F q=>k c v ?_ q) (λ_ q=>q) λ_ _ q=>q;rcases F with z|z
  .rw[z];show J b u e
  .show J c _ z
theorem Inv.tok(I: ~~~H s)(t:Nat): ~~~H { s with toks:=t }:=I.un (h':=s.heap) (t':=t) Un.refl I.bJ
theorem Inv.kept{t':Nat}(I: ~~~H s)(k:∀b u,s.heap.get? b=some u->h'.get? b=some u): ~~~H { s with heap:=h',toks:=t' }:=I.un (Un.kept k) (I.bJ.kept k)
theorem Inv.laid{a:Addr}{o:HO}{t':Nat}(I: ~~~H s)(k:∀b u,s.heap.get? b=some u->h'.get? b=some u)(z:s⁻¹<=a)(new:bU X.prog X.w (upd H a o) h' a o) :
  ~~~(upd H a o) { s with heap:=h',toks:=t' }:=I.un (Un.laid k z (I.bJ.fresh z)) (I.bJ.laid k z new)
theorem Inv.write{x e:Addr}{o:HO}{t':Nat}(I: ~~~H s)(F:JV (H x))(G:e=x\/H e=some (.own x))(k:∀b u,b≠e->s.heap.get? b=some u->h'.get? b=some u)(z:∃u,h'.get? e=some u)
  (new:bU X.prog X.w (upd H x o) h' x o): ~~~(upd H x o) { s with heap:=h',toks:=t' }:=I.un (Un.write F G k z) (I.bJ.write F G k z new)
theorem Inv.jE{F:WB}(I: ~~~H s)(h:∀p∈F,s.heap.get? p.1=some p.2/\H p.1=none/\p.1≠X.env.locals/\p.1∉X.fs/\∀v,p.2.data≠.cell v):Inv X F σ H s :=
 #[I.ok,I.os,I.bare,I.base,I.loc,I.cell,I.free,I.fW,λp G=>(t4.mp G).elim (λz=>I.pin p (OB _ z)) (h p),I.bJ,I.len]
theorem qo{N:List Str}(z:N.Nodup){i j:Nat}{x:Str}(a:N[i]?=some x)(b:N[j]?=some x):i=j:=by
 let#[h1,G]:=qc.mp a;let#[h2,F]:=qc.mp b;show(List.getElem_inj z).mp (G.trans F.symm)
theorem Am{M:Sv}{A:L5}{E:WC}{i:Nat}{x:Str}{v:V}{u:Value}{Q:Unit->oR->Prop}(I: ~~~H s)(hN:X.N.Nodup)(hi:X.N[i]?=some x)(hx:Loc X.env.scope x)(r:RelV v u)
  (h:∀s',Inv X pins (σ.set i (some v)) H s'->(∃a,Heap.SameBut a s.heap s'.heap/\(a=X.env.locals\/X.env.cells.lookup x=some a))->Q () s') (hf:X.fn x=true\/X.env.scope.names.lookup x=some .local:=by first|show .inl rfl|show .inr rfl|assumption):wpAny M A (storeName X.env x u) Q E s:=by
 let#[m,hn,hl]:=id I.loc;let a0:(X.env.scope.kind == .class||(X.env.scope.kind == .module&&X.env.locals != X.env.globals))=false:=(by rw[I.ok.kind];rfl);let am:i<σ.length:=(by rw[I.len];show(qc.mp hi).1);let D7:=I.D7;let ac:∀{a:Addr}{h':Heap},(∃o,s.heap.get? a=some o/\H a=none)->Heap.SameBut a s.heap h'->j7 X.prog X.w H h':=λ{a h'} ha hs b ob e=>by
  let#[_,_,aB]:=ha;show(I.bJ b ob e).iP (λc U G q=>(hs.2 c ?_).trans q) (λ_ q=>q) λ_ _ q=>q;rintro rfl;rcases G with rfl|G
  .rw[aB]at e;cases e
  .rw[aB]at G;cases G
 rcases hx with L|L
 .show wpAny_storeName_local L hn (λh' a1 hs=>?_) a0;let#[oL,_,_,aT,_]:=id hn;show h _ #[I.ok,I.os,I.bare,#[λb o e n O hx=>?_,λb o e n O hx=>?_,I.base.free,λb o e hx=>?_,I.base.pM,I.base.nj,I.base.pb],#[_,a1,λj y Y F J e3=>?_],λy c e=>?_,I.free,I.fW,λp hp=>?_,ac #[oL,aT,I.free] hs,by simpa using I.len] #[_,hs,.inl rfl]
  .show(hs.2 b (Ou (N9 (Heap.lt_size e) I.ok.above))).trans (I.base.keep b o e n O hx)
  .let#[sl,F]:=I.base.slot b o e n O hx;show#[sl,(hs.2 b (Ou (N9 (Heap.lt_size e) I.ok.above))).trans F]
  .let#[o',F]:=I.base.there b o e hx;show#[o',(hs.2 b (Ou (N9 (Heap.lt_size e) I.ok.above))).trans F]
  .by_cases R:j=i
   .subst R;rwa[hi]at F;rwa[Ot am]at J;show#[u,r,.inl #[L,by simp]]
   .rw[Og (G0 R)]at J;let#[u',r',q]:=hl j y Y F J e3;show#[u',r',?_];rcases q with⟨k,e⟩|⟨k,c,e,z⟩
    .show .inl #[k,?_];have:y≠x:=λe=>R (qo hN F (e▸hi));simp[this,e]
    .show .inr #[k,c,e,z.sameBut hs (D7 y c e)]
  .let#[U,z]:=I.cell y c e;show#[U,z.sameBut hs (D7 y c e)]
  .let#[e,n,ne,nf,d]:=I.pin p hp;show#[(hs.2 p.1 ne).trans e,n,ne,nf,d]
 .let ab:X.fn x=true:=by
   rcases hf with z|z
   .show z
   .rw[z]at L;cases L
  let#[c,G]:=I.ok.has x (.inl L);let#[U,z]:=I.cell x c G;show wpAny_storeName_cell I.ok.kind L G z (λh' ad hs=>?_);let#[oc,as,a2]:=id z;show h { s with heap:=h' } #[I.ok,I.os,I.bare,#[λb o e n O hx=>?_,λb o e n O hx=>?_,I.base.free,λb o e hx=>?_,I.base.pM,I.base.nj,I.base.pb],#[m,hn.sameBut hs (G0 (D7 x c G)),λj y Y F J e3=>?_],λy S e=>?_,I.free,I.fW,λp hp=>?_,ac #[oc,as,I.fW x c G] hs,by simpa using I.len] #[c,hs,.inr G]
  .show(hs.2 b (Ou (N9 (Heap.lt_size e) (I.ok.HM x c ab G)))).trans (I.base.keep b o e n O hx)
  .let#[sl,F]:=I.base.slot b o e n O hx;show#[sl,(hs.2 b (Ou (N9 (Heap.lt_size e) (I.ok.HM x c ab G)))).trans F]
  .let#[o',F]:=I.base.there b o e hx;show#[o',(hs.2 b (Ou (N9 (Heap.lt_size e) (I.ok.HM x c ab G)))).trans F]
  .by_cases R:j=i
   .subst R;rwa[hi]at F;rwa[Ot am]at J;show#[u,r,.inr #[.inl L,c,G,ad]]
   .rw[Og (G0 R)]at J;let#[u',r',q]:=hl j y Y F J e3;show#[u',r',?_];rcases q with q|⟨k,S,e,z'⟩
    .show .inl q
    .show .inr #[k,S,e,z'.sameBut hs ?_];rintro rfl;show R (qo hN F (I.ok.inj _ _ _ e G▸hi))
  .by_cases ap:S=c
   .subst ap;show#[_,ad]
   .let#[w2,z2]:=I.cell y S e;show#[w2,z2.sameBut hs ap]
  .let#[e,n,ne,nf,d]:=I.pin p hp;show#[(hs.2 p.1 ?_).trans e,n,ne,nf,d];intro q;rw[q,as]at e;let q':oc=p.2:=sN e;show d U (by rw[<-q'];show a2)
theorem hU{M:Sv}{A:L5}{E:WC}{i:Nat}{x:Str}{v:V}{u:Value}{Q:Unit->oR->Prop}(I: ~~~H s)(F:X.N.Nodup)(hi:X.N[i]?=some x)(hx:Loc X.env.scope x)(r:RelV v u)
  (h:∀s',Inv X pins (σ.set i (some v)) H s'->Q () s') (G:X.fn x=true\/X.env.scope.names.lookup x=some .local:=by first|show .inl rfl|show .inr rfl|assumption):wpAny M A (storeName X.env x u) Q E s :=
 Am I F hi hx r (λs' z _=>h s' z) G
theorem Inv.zw{s':oR}{ch:List Addr}(I: ~~~H s)(z:s'.os=s.os)(u:Un (qE X.stack) ch H H' s.heap s'.heap)(F:j7 X.prog X.w H' s'.heap)(G:RN s'.gens)
  (J:∀b∈ch,(b∈X.ex\/X.s₀.heap.objs.size<=b)/\b≠X.env.locals/\(∀x c,X.env.cells.lookup x=some c->c≠b)/\∀p∈X.pn++pins,p.1≠b): ~~~H' s':=by
 let#[h',g',d',t',o']:=s';let e:o'=s.os:=z;subst e;show I.call (g':=g') (t':=t') (d':=d') u F G J
end
abbrev XK:=Value->Option Addr->Hp->Prop
abbrev St:=List (Option V)
abbrev VK:=V->Hp->Prop
abbrev TE:=St->Hp->VK->Prop
abbrev TT:=St->Hp->(Bool->Hp->Prop)->Prop
abbrev TA:=St->Hp->(List V->Hp->Prop)->Prop
structure Ends where
 nx:St->Hp->Prop
 rt:VK
 bk:St->Hp->Prop:=λ_ _=>False
 ct:St->Hp->Prop:=λ_ _=>False
abbrev TS:=Ends->St->Hp->Prop
def EP(X:Cx)(pins:WB)(σ:St)(Q:VK)(u:Value)(s':oR):Prop:=∃v H',~~~H' s'/\RelV v u/\Q v H'
def TP(X:Cx)(pins:WB)(σ:St)(Q:Bool->Hp->Prop)(b:Bool)(s':oR):Prop:=∃H',~~~H' s'/\Q b H'
def AP(X:Cx)(pins:WB)(σ:St)(Q:List V->Hp->Prop)(us:WH)(s':oR):Prop:=∃vs H',~~~H' s'/\Vals vs us/\Q vs H'
def SP(X:Cx)(pins:WB)(D:Ends)(f:Flow)(s':oR):Prop :=
 match f with
 |.next=>∃z H',Inv X pins z H' s'/\D.nx z H'
 |.brk=>∃z H',Inv X pins z H' s'/\D.bk z H'
 |.cont=>∃z H',Inv X pins z H' s'/\D.ct z H'
 |.ret u=>∃v z H',Inv X pins z H' s'/\RelV v u/\D.rt v H'
def PE(X:Cx)(e:Ob)(t:TE):Prop :=
 ∀(pins:WB)(s:oR)(σ:St)(H:Hp)(Q:VK),~~~H s->t σ H Q->↑(eval e X.env) (EP X pins σ Q) X.xe s
def PT(X:Cx)(e:Ob)(t:TT):Prop :=
 ∀(pins:WB)(s:oR)(σ:St)(H:Hp)(Q:Bool->Hp->Prop),~~~H s->t σ H Q->↑(isTrue e X.env (eval e X.env)) (TP X pins σ Q) X.xe s
def PW(X:Cx)(e:Ob)(t:TT):Prop :=
 ∀(z:Sem Value)(pins:WB)(s:oR)(σ:St)(H:Hp)(Q:Bool->Hp->Prop),~~~H s->t σ H Q->↑(isTrue e X.env z) (TP X pins σ Q) X.xe s
theorem PW.pt{X:Cx}{e:Ob}{t:TT}(h:PW X e t):PT X e t:=h _
def PA(X:Cx)(es:List Ob)(t:TA):Prop :=
 ∀(pos:QJ)(pins:WB)(s:oR)(σ:St)(H:Hp)(Q:List V->Hp->Prop),~~~H s->t σ H Q->↑(Vn (backTo pos (starEach es X.env))) (AP X pins σ Q) X.xe s
def PS(X:Cx)(st:N8)(t:TS):Prop :=
 ∀(pins:WB)(s:oR)(σ:St)(H:Hp)(D:Ends),~~~H s->t D σ H->↑(exec st X.env) (SP X pins D) X.xe s
def wg(X:Cx)(st:List N8)(t:TS):Prop :=
 ∀(pins:WB)(s:oR)(σ:St)(H:Hp)(D:Ends),~~~H s->t D σ H->↑(execs st X.env) (SP X pins D) X.xe s
theorem bR{α:Type}{t:Sem α}{Q z:α->oR->Prop}{M:Sv}{A:L5}{E:WC}{s:oR}(h:wpAny M A t Q E s)(F:∀a s,Q a s->z a s):wpAny M A t z E s:=Oj h F λ_ _ x=>x
section
variable{X:Cx}
inductive vY(i:Nat)(σ:St)(H:Hp)(Q:VK):Prop
 |mk(v:_)(_:σ[i]?=some (some v))(_:Q v H)
def tC(v:V):TE:=λ_ H Q=>Q v H
theorem Hy{i:Nat}{x:Str}{pos:QJ}(O:X.N[i]?=some x)(L:KJ X.env.scope x)(hd:(x==("__debug__" : Str))=false:=by decide)(U:(x==("__classdict__" : Str))=false:=by decide):PE X (.Name x pos) (vY i):=by
 intros Q I h;let#[v,e,h]:=h;let#[m,Y,S]:=I.loc;let#[u,r,l]:=S i x v O e L;let F:EP X pins σ Q u s:=#[v,H,I,r,h];rcases l with⟨z,R⟩|⟨z,c,G,J⟩
 .show Vu (wpAny_loadName_local I.ok.kind z Y R F) hd
 .rcases z with z|z
  .show Vu (wpAny_loadName_cell I.ok.kind z G J F) hd
  .show Vu (wpAny_loadName_free I.ok.kind z G J F U) hd
theorem ah{i j pos}:PE X (.Constant (.int i) j pos) (tC (.int i)):=λ_ _ _ H _ I h=>wpAny_Constant_int #[.int i,H,I.tok _,#[0],h]
theorem gw{b j pos}:PE X (.Constant (.bool b) j pos) (tC (.bl b)):=λ_ _ _ H _ I h=>Constant_bool #[.bl b,H,I,rfl,h]
theorem mI{j pos}:PE X (.Constant .none j pos) (tC .non):=λ_ _ _ H _ I h=>Constant_none #[.non,H,I,rfl,h]
theorem aS{x j pos}:PE X (.Constant (.str x) j pos) (tC (.str x)):=λ_ _ _ H _ I h=>Calls.Constant_str #[.str x,H,I.tok _,#[0],h]
def Gl(X:Cx)(x:Str):Prop:=X.env.kindOf x=some .globalImplicit
theorem gI{E:WC}{pins:WB}{s:oR}{σ:St}{H:Hp}{x:Str}{u:Value}{pos:QJ}{Q:WC}(I: ~~~H s)(F:Gl X x)(z:X.mg x=some u)(h:Q u s)
  (hd:(x==("__debug__" : Str))=false:=by decide):↑(eval (.Name x pos) X.env) Q E s :=
 Calls.Name_function_global I.ok.kind F (Calls.loadGlobal_global (by rw[I.ok.glob];show I.mod.glob.keeps I.bk) z h) hd
theorem iI{E:WC}{pins:WB}{s:oR}{σ:St}{H:Hp}{x:Str}{u:Value}{pos:QJ}{Q:WC}(I: ~~~H s)(z:Gl X x)(G:X.mg x=none)(F:Om x=some u)(h:Q u s)
  (J:x ≠ "__name__" := by decide) (hd:(x==("__debug__" : Str))=false:=by decide):↑(eval (.Name x pos) X.env) Q E s:=by
 let#[L,h1,h2]:=I.mod.blt;show Calls.Name_function_global I.ok.kind z (Calls.loadGlobal_builtin (by rw[I.ok.glob];show I.mod.glob.keeps I.bk) G (by rw[I.ok.blt];show h1.keeps I.bk) ((h2 x J).trans F) h) hd
theorem bG{x:Str}{v:V}{u:Value}{pos:QJ}(F:Gl X x)(z:X.mg x=some u)(r:RelV v u)(hd:(x==("__debug__" : Str))=false:=by decide):PE X (.Name x pos) (tC v):=
 λ_ _ _ H _ I h=>gI I F z #[v,H,I,r,h] hd
theorem dW{x:Str}{v:V}{u:Value}{pos:QJ}(G:Gl X x)(F:X.mg x=none)(z:Om x=some u)(r:RelV v u)(J:x ≠ "__name__" := by decide)(hd:(x==("__debug__" : Str))=false:=by decide):PE X (.Name x pos) (tC v):=
 λ_ _ _ H _ I h=>iI I G F z #[v,H,I,r,h] J hd
variable{a b:Ob}{ta tb:TE}{pos:QJ}
def PC(X:Cx)(G:V3)(a b:Ob)(t:TE):Prop :=
 ∀(pins:WB)(s:oR)(σ:St)(H:Hp)(Q:VK),~~~H s->t σ H Q ->
  ↑(eval a X.env) (λv z=>↑(eval b X.env) (λu F=>↑(OL G v u) (EP X pins σ Q) X.xe F) X.xe z) X.xe s
inductive Nf(t:TE)(Q:Bool->Hp->Prop)(x:V)(H1:Hp):Prop
 |mk(c:_)(_:x=.bl c)(_:Q c H1)
def tB(t:TE):TT:=λσ H Q=>t σ H λx H1=>Nf t Q x H1
theorem kq{z:V3}{t:TE}(h:PC X z a b t)(h1:Rq z b=false:=by first|show nobehind _ ar ar|rfl):PT X (.Compare a [z] [b] pos) (tB t):=by
 intros Q I F;show Ti (bR (h pins s σ H _ I F) λv s1 h1=>bR h1 λu s2 h2=>bR h2 λc s3 N=>?_) h1;let#[x,H1,G,J,L]:=N;let#[d,rfl,q]:=L;cases J;show OZ #[H1,G,q]
theorem cO{e:Ob}{t:TE}(h:PE X e t)(N:∀z,isTrue e X.env z=(do let v <-z;SV e.pos;Q2 [v] (truthy v)):=by intro _;rfl):PT X e (tB t):=by
 intros Q I F;show isTrue_plain (bR (h pins s σ H _ I F) λv s1 O=>?_) (N _);let#[x,H1,G,J,L]:=O;let#[d,rfl,q]:=L;cases J;show OZ #[H1,G,q]
variable{tA tB':TT}{rest:List Ob}
def ME(t u:TT):TT:=λσ H Q=>t σ H λc H1=>if c=true then u σ H1 Q else Q false H1
def N2(t u:TT):TT:=λσ H Q=>t σ H λc H1=>if c=true then Q true H1 else u σ H1 Q
def L6(t:TT):TT:=λσ H Q=>t σ H λc H1=>Q (!c) H1
theorem jO(z:PT X a tA):PW X (.BoolOp .And [a] pos) tA:=by
 intro F pins s σ H Q I h;show isTrue_and (bR (z pins s σ H Q I h) λc s1 e=>?_);cases c with
 |true=>show isTrue_and_nil e
 |false=>show e
theorem fN(z:PT X a tA):PW X (.BoolOp .Or [a] pos) tA:=by
 intro F pins s σ H Q I h;show isTrue_or (bR (z pins s σ H Q I h) λc s1 e=>?_);cases c with
 |false=>show isTrue_or_nil e
 |true=>show e
theorem kA(L:PT X a tA)(N:PW X (.BoolOp .And (b::rest) pos) tB'):PW X (.BoolOp .And (a::b::rest) pos) (ME tA tB'):=by
 intro G pins s σ H Q I h;show isTrue_and (bR (L pins s σ H _ I h) λc s1 J=>?_);let#[H1,z,F]:=J;cases c with
 |true=>show N G pins s1 σ H1 Q z F
 |false=>show#[H1,z,F]
theorem fJ(J:PT X a tA)(N:PW X (.BoolOp .Or (b::rest) pos) tB'):PW X (.BoolOp .Or (a::b::rest) pos) (N2 tA tB'):=by
 intro G pins s σ H Q I h;show isTrue_or (bR (J pins s σ H _ I h) λc s1 L=>?_);let#[H1,z,F]:=L;cases c with
 |true=>show#[H1,z,F]
 |false=>show N G pins s1 σ H1 Q z F
theorem fP(z:PT X a tA):PT X (.UnaryOp .Not a pos) (L6 tA):=by
 intros Q I h;show isTrue_not (z pins s σ H (λc H1=>Q (!c) H1) I h)
inductive DS(ta tb:TE)(σ:St)(Q:VK)(x:V)(H1:Hp):Prop
 |mk(c:_)(_:x=.bl c)(_:if c=true then tb σ H1 Q else Q (.bl false) H1)
def KS(ta tb:TE):TE:=λσ H Q=>ta σ H λx H1=>DS ta tb σ Q x H1
inductive FY(ta tb:TE)(σ:St)(Q:VK)(x:V)(H1:Hp):Prop
 |mk(c:_)(_:x=.bl c)(_:if c=true then Q (.bl true) H1 else tb σ H1 Q)
def M9(ta tb:TE):TE:=λσ H Q=>ta σ H λx H1=>FY ta tb σ Q x H1
theorem tJ{op}{t:TE}(h:PE X a t):PE X (.BoolOp op [a] pos) t:=λpins s σ H Q I z=>BoolOp_one (h pins s σ H Q I z)
theorem xI(J:PE X a ta)(N:PE X (.BoolOp .And (b::rest) pos) tb):PE X (.BoolOp .And (a::b::rest) pos) (KS ta tb):=by
 intros Q I h;show BoolOp_and (bR (J pins s σ H _ I h) λv s1 L=>?_);let#[x,H1,F,G,z]:=L;let#[c,rfl,z]:=z;cases G;show OZ ?_;cases c with
 |true=>show N pins s1 σ H1 Q F z
 |false=>show#[.bl false,H1,F,rfl,z]
theorem Ke(J:PE X a ta)(N:PE X (.BoolOp .Or (b::rest) pos) tb):PE X (.BoolOp .Or (a::b::rest) pos) (M9 ta tb):=by
 intros Q I h;show BoolOp_or (bR (J pins s σ H _ I h) λv s1 L=>?_);let#[x,H1,F,G,z]:=L;let#[c,rfl,z]:=z;cases G;show OZ ?_;cases c with
 |false=>show N pins s1 σ H1 Q F z
 |true=>show#[.bl true,H1,F,rfl,z]
def ND(t:TT)(ta tb:TE):TE:=λσ H Q=>t σ H λc H1=>if c=true then ta σ H1 Q else tb σ H1 Q
theorem vf{c:Ob}(J:PT X c tA)(L:PE X a ta)(N:PE X b tb):PE X (.IfExp c a b pos) (ND tA ta tb):=by
 intros Q I h;show wpAny_IfExp (bR (J pins s σ H _ I h) λd s1 G=>?_);let#[H1,z,F]:=G;cases d with
 |true=>show L pins s1 σ H1 Q z F
 |false=>show N pins s1 σ H1 Q z F
end
def bq(K:DD)(H:Hp)(a:Addr)(xs:List V):Prop :=
 Rd H a (.lst xs) \/
  ∃(o:Obj)(its:WG)(n:Nat),K.lookup a=some o/\o.cls=.type "list" /\ o.dict=none/\o.data=.seq its n/\its.size<=sizeLine/\Vals xs its.toList
def bL(K:DD)(H:Hp)(a:Addr)(xs:List V):Prop :=
 Rd H a (.tup xs) \/
  ∃(o:Obj)(its:WG)(n:Nat),K.lookup a=some o/\o.cls=.type "tuple" /\ o.data=.seq its n/\its.size<=sizeLine/\Vals xs its.toList
def LM:Value->Option V
 |.none=>some .non
 |.bool b=>some (.bl b)
 |.int i _=>some (.int i)
 |.str x _=>some (.str x)
 |.bytes b _=>some (.byt b)
 |.float b _=>some (.flt b)
 |.ref a=>some (.ref a)
 |.type n=>some (.ty n)
 |_=>none
theorem RelV.abs{x:V}{u:Value}(r:RelV x u):LM u=some x:=by
 cases x with
 |non=>cases r;rfl
 |bl _=>cases r;rfl
 |int _=>let#[t,rfl]:=r;rfl
 |str _=>let#[t,rfl]:=r;rfl
 |byt _=>let#[t,rfl]:=r;rfl
 |flt _=>let#[t,rfl]:=r;rfl
 |ref _=>cases r;rfl
 |ty _=>cases r;rfl
theorem RelV.inj{x y:V}{u:Value}(r:RelV x u)(q:RelV y u):x=y:=sN (r.abs.symm.trans q.abs)
theorem Vals.inj:∀{xs ys:List V}{us:WH},Vals xs us->Vals ys us->xs=ys
 |_,_,_,.nil,.nil=>rfl
 |_,_,_,.cons r t,.cons z t'=>by rw[r.inj z,Vals.inj t t']
section
variable{X:Cx}{pins:WB}{σ:St}{H:Hp}{s:oR}{a:Addr}{xs ys:List V}
theorem bq.of{K:DD}(h:H a=some (.lst xs)):bq K H a xs:=.inl (.inl h)
theorem bL.of{K:DD}(h:H a=some (.tup xs)):bL K H a xs:=.inl (.inl h)
theorem Inv.list(I: ~~~H s)(h:bq X.K H a xs):∃its:List Value,Vals xs its/\PlainL s.heap a its.toArray/\xs.length<=sizeLine:=by
 rcases h with h|⟨o,its,n,G,F,hd,hs,J,r⟩
 .let#[z,its,n,r,e]:=h.ok I.bJ;show#[its,r,#[_,n,e,1,rfl],z]
 .show#[its.toList,r,#[o,n,I.jL a o G,F,hd,by simpa using hs],?_];let e:=r.length;simp only[Pn]at e;omega
theorem Inv.tuple(I: ~~~H s)(h:bL X.K H a xs):∃its:List Value,Vals xs its/\IsTup s.heap a its.toArray/\xs.length<=sizeLine:=by
 rcases h with h|⟨o,its,n,G,F,hs,J,r⟩
 .let#[z,its,r,p]:=h.ok I.bJ;show#[its,r,p,z]
 .show#[its.toList,r,#[o,I.jL a o G,F,n,by simpa using hs],?_];let e:=r.length;simp only[Pn]at e;omega
theorem Inv.jm(I: ~~~H s)(h:bq X.K H a xs)(h':bq X.K H a ys):xs=ys:=by
 let#[its,r,#[o,n,e,_,_,d],_]:=I.list h;let#[its',F,#[o',G,z,_,_,d'],_]:=I.list h';rwa[e]at z;rw[d]at d';injection d' with d1 _;have:its=its':=‹congrArg toList d1›;subst this;show r.inj F
theorem Inv.Ai(I: ~~~H s)(h:bL X.K H a xs)(h':bL X.K H a ys):xs=ys:=by
 let#[its,r,#[o,e,_,n,d],_]:=I.tuple h;let#[its',F,#[o',z,_,G,d'],_]:=I.tuple h';rwa[e]at z;rw[d]at d';injection d' with d1 _;have:its=its':=‹congrArg toList d1›;subst this;show r.inj F
end
abbrev Cx.gJ(X:Cx)(E:WC):Cx:={ X with xe:=E }
abbrev Cx.mZ(X:Cx):Cx:=X.gJ λ_ _=>False
theorem Cx.Ok.gJ{X:Cx}(ok:X.Ok)(E:WC):(X.gJ E).Ok :=
 #[ok.mod,ok.kind,ok.glob,ok.blt,ok.above,ok.inj,ok.has,ok.HM,ok.hd,ok.frames,ok.Jk,ok.Lh,ok.bs,ok.Bc,ok.xP,ok.vo,ok.jZ,ok.Eo]
theorem Cx.Ok.cm{X:Cx}{E:WC}(ok:(X.gJ E).Ok):X.Ok :=
 #[ok.mod,ok.kind,ok.glob,ok.blt,ok.above,ok.inj,ok.has,ok.HM,ok.hd,ok.frames,ok.Jk,ok.Lh,ok.bs,ok.Bc,ok.xP,ok.vo,ok.jZ,ok.Eo]
section
variable{X:Cx}{pins:WB}{σ:St}{H:Hp}{s:oR}{E:WC}
theorem Inv.gJ(I: ~~~H s)(E:WC):Inv (X.gJ E) pins σ H s:=#[I.ok.gJ E,I.os,I.bare,I.base,I.loc,I.cell,I.free,I.fW,I.pin,I.bJ,I.len]
theorem Inv.cm(I:Inv (X.gJ E) pins σ H s): ~~~H s:=#[I.ok.cm,I.os,I.bare,I.base,I.loc,I.cell,I.free,I.fW,I.pin,I.bJ,I.len]
theorem SP.cm{D:Ends}{f:Flow}{s':oR}(h:SP (X.gJ E) pins D f s'):SP X pins D f s':=by
 cases f with
 |next=>let#[z,H',I,q]:=h;show#[z,H',I.cm,q]
 |brk=>let#[z,H',I,q]:=h;show#[z,H',I.cm,q]
 |cont=>let#[z,H',I,q]:=h;show#[z,H',I.cm,q]
 |ret u=>let#[v,z,H',I,r,q]:=h;show#[v,z,H',I.cm,r,q]
theorem wg.mZ{st:List N8}{t:TS}(h:wg X.mZ st t):wg X st t:=λpins s σ H D I F =>
 Oj (h pins s σ H D (I.gJ _) F) (λ_ _ q=>q.cm) λ_ _ z=>Ov z
variable{st:N8}{rest:List N8}{t u:TS}{e:Ob}{te:TE}{pos:QJ}
def rN:TS:=λD σ H=>D.nx σ H
def cn(t u:TS):TS:=λD σ H=>t { D with nx:=u D } σ H
theorem aI:wg X [] rN:=λ_ _ σ H _ I h=>Py #[σ,H,I,h]
theorem ai(h1:PS X st t)(h2:wg X rest u):wg X (st::rest) (cn t u):=by
 intros D I h;show Rg (bR (h1 pins s σ H { D with nx:=u D } I h) λf s1 q=>?_);cases f with
 |next =>
  let#[F,H',z,q]:=q;show h2 pins s1 F H' D z q
 |ret v=>show q
 |brk=>show q
 |cont=>show q
theorem ao(h1:PS X st t):wg X [st] t:=by
 intros D I h;show Rg (bR (h1 pins s σ H D I h) λf s1 q=>?_);cases f with
 |next=>show Py q
 |ret v=>show q
 |brk=>show q
 |cont=>show q
theorem Inv.quiet{pins:WB}{σ:St}{H:Hp}{s:oR}(I: ~~~H s):interactive X.env=false:=by simp[interactive,I.ok.kind]
def CJ(te:TE):TS:=λD σ H=>te σ H λ_ H1=>D.nx σ H1
theorem aQ(J:PE X e te)(hs:Rh e none pos.line X.env=pure false:=by rfl):PS X (.Expr e pos) (CJ te):=by
 intros D I h;show wpAny_Expr_any (bR (J pins s σ H _ I h) λv s1 F=>by let#[x,H1,z,L,G]:=F;show#[σ,H1,z,G]) I.quiet hs
def GN(te:TE):TS:=λD σ H=>te σ H D.rt
theorem aJ(L:PE X e te):PS X (.Return (some e) pos) (GN te):=by
 intros D I h;show UA (bR (L pins s σ H _ I h) λv s1 J=>by let#[x,H1,z,F,G]:=J;show#[x,σ,H1,z,F,G])
def JH:TS:=λD _ H=>D.rt .non H
theorem sg:PS X (.Return none pos) JH:=λ_ _ σ H _ I h=>wpAny_Return_none #[.non,σ,H,I,rfl,h]
def xF(c:TT)(t u:TS):TS:=λD σ H=>c σ H λb H1=>if b=true then t D σ H1 else u D σ H1
theorem bj{c:Ob}{a b:List N8}{tc:TT}(G:PT X c tc)(J:wg X a t)(L:wg X b u):PS X (.If c a b pos) (xF tc t u):=by
 intros D I h;show wpAny_If (bR (G pins s σ H _ I h) λd s1 N=>?_);let#[H1,z,F]:=N;cases d with
 |true=>show J pins s1 σ H1 D z F
 |false=>show L pins s1 σ H1 D z F
def BK:TS:=λ_ _ _=>False
theorem eV:PS X st BK:=λ_ _ _ _ _ _ h=>h.elim
theorem du{sts:List N8}:wg X sts BK:=λ_ _ _ _ _ _ h=>h.elim
end
abbrev TG:=V->St->Hp->(St->Hp->Prop)->Prop
abbrev Je:=List V->St->Hp->(St->Hp->Prop)->Prop
def PG(X:Cx)(F:Ob)(t:TG):Prop :=
 ∀(pins:WB)(s:oR)(σ:St)(H:Hp)(v:V)(u:Value)(Q:St->Hp->Prop),~~~H s->RelV v u->t v σ H Q ->
  ↑(assign F X.env u) (λ_ s'=>∃z H',Inv X pins z H' s'/\Q z H') X.xe s
def Ln(X:Cx)(ts:List Ob)(t:Je):Prop :=
 ∀(pins:WB)(s:oR)(σ:St)(H:Hp)(vs:List V)(us:WH)(Q:St->Hp->Prop),~~~H s->Vals vs us->t vs σ H Q ->
  ↑(assignInOrder ((RV ts X.env).map (·.2)) us) (λ_ s'=>∃z H',Inv X pins z H' s'/\Q z H') X.xe s
abbrev AX:=V->V->V->Hp->(Hp->Prop)->Prop
def Fu(X:Cx)(t:AX):Prop :=
 ∀(pins:WB)(s:oR)(σ:St)(H:Hp)(o i v:V)(ov z u:Value)(Q:Hp->Prop),~~~H s->RelV o ov->RelV i z->RelV v u->t o i v H Q ->
  ↑(Wa ov z u) (λ_ s'=>∃H',~~~H' s'/\Q H') X.xe s
abbrev Lr:=V->V->Hp->VK->Prop
def Mt(X:Cx)(z:UB)(t:Lr):Prop :=
 ∀(pins:WB)(s:oR)(σ:St)(H:Hp)(x y:V)(v u:Value)(Q:VK),~~~H s->RelV x v->RelV y u->t x y H Q ->
  ↑(inplaceOp z v u) (EP X pins σ Q) X.xe s
section
variable{X:Cx}{pos:QJ}
def rS(i:Nat):TG:=λv σ H Q=>Q (σ.set i (some v)) H
theorem ET{i:Nat}{x:Str}(F:X.N.Nodup)(hi:X.N[i]?=some x)(hx:Loc X.env.scope x)(G:X.fn x=true\/X.env.scope.names.lookup x=some .local:=by first|show .inl rfl|show .inr rfl|assumption):PG X (.Name x pos) (rS i):=by
 intros v u Q I r h;show Sw (hU I F hi hx r (λs' z=>#[_,H,z,h]) G)
theorem gH(i:Nat){x:Str}(z:X.N.Nodup)(hi:X.N[i]?=some x:=by rfl)(hx:Loc X.env.scope x:=by first|show .inl rfl|show .inr rfl)(F:X.fn x=true\/X.env.scope.names.lookup x=some .local:=by first|show .inl rfl|show .inr rfl|assumption):PG X (.Name x pos) (rS i):=ET z hi hx F
def Mc:Je:=λvs σ H Q=>vs=[]/\Q σ H
inductive F3(t:TG)(u:Je)(vs:List V)(σ:St)(H:Hp)(Q:St->Hp->Prop):Prop
 |mk (v:_) (r:_) (_:vs=v::r) (_:t v σ H λσ' H'=>u r σ' H' Q):F3 t u vs σ H Q
theorem gF:Ln X [] Mc:=by
 intros vs us Q I r h;let#[e,h]:=h;subst e;cases r;show assignInOrder_nil #[σ,H,I,h]
theorem bF{e:Ob}{es:List Ob}{t:TG}{u:Je}(h1:PG X e t)(h2:Ln X es u)
  (hs:(RV (e::es) X.env).map (·.2)=assign e X.env::(RV es X.env).map (·.2):=by rfl):Ln X (e::es) (F3 t u):=by
 intros vs us Q I r h;let#[v,O,J,h]:=h;subst J;cases r with
 |cons r z =>
  rw[hs];show assignInOrder_cons (bR (h1 pins s σ H _ _ _ I r h) λ_ s1 N=>?_);let#[F,H1,G,L]:=N;show h2 pins s1 F H1 _ _ Q G z L
inductive JA(K:DD)(n:Nat)(t:Je)(v:V)(σ:St)(H:Hp)(Q:St->Hp->Prop):Prop
 |mk(a:_)(xs:_)(_:v=.ref a)(_:bL K H a xs)(_:xs.length=n)(_:t xs σ H Q)
theorem iR{es:List Ob}{k:Nat}{t:Je}{n:Nat}(G:X.calm=true)(h:Ln X es t)
  (U:(RV es X.env).length=n:=by rfl) (N:(RV es X.env).findIdx? (·.1)=none:=by rfl):PG X (.Tuple es k pos) (JA X.K n t):=by
 intros v u Q I r z;let#[a,xs,O,J,S,z]:=z;subst O;cases r;let#[its,F,R,Y]:=I.tuple J;show assign_Tuple_tuple (I.ok.hd G) R (by simp[U, <-S,F.length]) N λh' hx=>?_;let L: ~~~H { s with heap:=h' }:=I.kept (t':=s.toks) λb o e=>hx b o (Ou (Heap.lt_size e)) e;show h pins _ σ H xs _ Q L ‹F› z
def LN(to F:TE)(t:AX):TG:=λv σ H Q=>to σ H λo H1=>F σ H1 λi H2=>t o i v H2 λz=>Q σ z
theorem gr{o i:Ob}{to F:TE}{t:AX}(G:PE X o to)(hi:PE X i F)(hs:Fu X t)
  (O:∀v,assign (.Subscript o i pos) X.env v=(do
   let ov <-Q2 [v] (eval o X.env)
   let z <-Q2 [v,ov] (eval i X.env)
   SV pos
   Q2 [v,ov,z] (Wa ov z v)
   release [v,ov,z] []):=by intro _;rfl):PG X (.Subscript o i pos) (LN to F t):=by
 intros v u Q I r h;rw[O];show qs (OX (bR (G pins s σ H _ I h) λov s1 ab=>?_));let#[x,H1,I1,r1,N]:=ab;show qs (OX (bR (hi pins s1 σ H1 _ I1 N) λz s2 S=>?_));let#[y,H2,J,L,q2]:=S;show qs (Rr (qs (OX (bR (hs pins s2 σ H2 x y v ov z u _ J r1 L r q2) λ_ s3 U=>?_))));let#[R,Y,q3]:=U;show wpAny_release #[σ,R,Y,q3]
def EF(te:TE)(g:TG):TS:=λD σ H=>te σ H λx H1=>g x σ H1 D.nx
theorem fq{tg e:Ob}{te:TE}{g:TG}(O:PE X e te)(F:PG X tg g)(hs:swapsWithSole [tg] e pos.line X.env=pure false:=by rfl)(z:swappedStores [tg] e X.env=pure none:=by rfl)
  (h1:(RV [tg] X.env).map (·.2)=[assign tg X.env]:=by rfl):PS X (.Assign [tg] e pos) (EF te g):=by
 intros D I h;show wpAny_Assign_stores (bR (O pins s σ H _ I h) λv s1 N=>?_) hs z;let#[x,H1,G,J,L]:=N;rw[h1];show bR (F pins s1 σ H1 x v _ G J L) λ_ s2 q=>q
theorem IC{i:Nat}{x:Str}{e:Ob}{te:TE}{pos':QJ}(O:X.N.Nodup)(hi:X.N[i]?=some x)(hx:Loc X.env.scope x)(S:PE X e te)(hs:Rh e (some (.Name x pos')) pos.line X.env=pure false:=by rfl)(R:X.fn x=true\/X.env.scope.names.lookup x=some .local:=by first|show .inl rfl|show .inr rfl|assumption) :
  PS X (.Assign [.Name x pos'] e pos) (EF te (rS i)):=by
 intros D I h;show UC (bR (S pins s σ H _ I h) λv s1 F=>?_) hs;let#[y,H1,G,J,L]:=F;show hU G O hi hx J (λs2 z=>#[_,H1,z,L]) R
theorem cQ(i:Nat){x:Str}{e:Ob}{te:TE}{pos':QJ}(z:X.N.Nodup)(G:PE X e te)(hi:X.N[i]?=some x:=by rfl)(hx:Loc X.env.scope x:=by first|show .inl rfl|show .inr rfl)(hs:Rh e (some (.Name x pos')) pos.line X.env=pure false:=by rfl)(F:X.fn x=true\/X.env.scope.names.lookup x=some .local:=by first|show .inl rfl|show .inr rfl|assumption):PS X (.Assign [.Name x pos'] e pos) (EF te (rS i)):=IC z hi hx G hs F
def JR(to G te:TE)(O:V->V->Hp->VK->Prop)(L:Lr)(N:AX):TS:=λD σ H=>to σ H λo H1=>G σ H1 λi H2=>O o i H2 λx I=>te σ I λy J=>L x y J λz R=>N o i z R λF=>D.nx σ F
def Ku(X:Cx)(t:V->V->Hp->VK->Prop):Prop :=
 ∀(pins:WB)(s:oR)(σ:St)(H:Hp)(o i:V)(ov z:Value)(Q:VK),~~~H s->RelV o ov->RelV i z->t o i H Q ->
  ↑(T9 ov z) (EP X pins σ Q) X.xe s
theorem tP{o i e:Ob}{to G te:TE}{U:V->V->Hp->VK->Prop}{J:Lr}{L:AX}{N:UB}{tpos:QJ}(ho:PE X o to)(hi:PE X i G)(hg:Ku X U)(he:PE X e te)(hp:Mt X N J)(hs:Fu X L)
  (ha:∀ov z new,augStore i ov z new=(do Q2 [new,ov,z] (Wa ov z new);release [new,ov,z] [];pure .next):=by intros;rfl):PS X (.AugAssign (.Subscript o i tpos) N e pos) (JR to G te U J L):=by
 intros D I h;show wpAny_AugAssign_SubscriptAny (bR (ho pins s σ H _ I h) λov s1 ac=>?_) ha;let#[R,H1,I1,O,q1]:=ac;show bR (hi pins s1 σ H1 _ I1 q1) λz s2 aB=>?_;let#[S,H2,I2,F,q2]:=aB;show bR (hg pins s2 σ H2 R S ov z _ I2 O F q2) λap s3 ab=>?_;let#[x3,H3,I3,r3,q3]:=ab;show bR (he pins s3 σ H3 _ I3 q3) λv Y ad=>?_;let#[x4,H4,I4,r4,q4]:=ad;show bR (hp pins Y σ H4 x3 x4 ap v _ I4 r3 r4 q4) λnew s5 am=>?_;let#[x5,H5,I5,r5,q5]:=am;show bR (hs pins s5 σ H5 R S x5 ov z new _ I5 O F r5 q5) λ_ s6 as=>by let#[H6,I6,q6]:=as;show#[σ,H6,I6,q6]
def Ni(f:Int->Int->Int):Lr:=λx y H Q=>∃i j,x=.int i/\y=.int j/\Q (.int (f i j)) H
theorem DC:Mt X .Add (Ni λi j=>i+j):=by
 intros x y v u Q I G F h;let#[i,j,J,z,q]:=h;subst J;subst z;let#[t,rfl]:=G;let#[t',rfl]:=F;show Vo #[.int _,H,I.tok _,#[0],q]
theorem IX:Mt X .Sub (Ni λi j=>i-j):=by
 intros x y v u Q I G F h;let#[i,j,J,z,q]:=h;subst J;subst z;let#[t,rfl]:=G;let#[t',rfl]:=F;show isub_int #[.int _,H,I.tok _,#[0],q]
def Hc(c:TT)(tb:TS):TS:=λD σ H=>∃W:Nat->St->Hp->Prop,(∃m,W m σ H)/\∀m σ H,W m σ H ->
 c σ H λb H1=>if b=true then ∃N:St->Hp->Prop,(∀F H',N F H'->∃z,z<m/\W z F H')/\tb { D with nx:=N,ct:=N,bk:=D.nx } σ H1 else D.nx σ H1
theorem pQ{c:Ob}{body:List N8}{tc:TT}{tb:TS}(hp:UR (model X.prog X.w) X.A X.env X.xe)(hc:PT X c tc)(hb:wg X body tb):PS X (.While c body [] pos) (Hc tc tb):=by
 intros D I h;let#[W,#[m0,w0],ac]:=h;show wpAny_While (codeAny_whileLoop (λn s'=>∃ab H',Inv X pins ab H' s'/\W n ab H') ?_ m0 #[σ,H,I,w0]);rintro n s1 ⟨G,H1,I1,w1⟩;show OP hp (bR (hc pins s1 G H1 _ I1 (ac n G H1 w1)) λb s2 ad=>?_);let#[H2,I2,J]:=ad;cases b with
 |true =>
  let#[N,hN,J]:=J;rw[Wy rfl];show OP hp (bR (hb pins s2 G H2 _ I2 J) λf s3 L=>?_);cases f with
  |next =>
   let#[F,z,U,S]:=L;let#[O,Y,R]:=hN F z S;show#[O,Y,F,z,U,R]
  |cont =>
   let#[F,z,U,S]:=L;let#[O,Y,R]:=hN F z S;show#[O,Y,F,z,U,R]
  |brk=>show L
  |ret v=>show L
 |false =>
  rw[Wx vr];show Py #[G,H2,I2,J]
end
structure It where
 go:Nat->Hp->Prop
 El:Nat->Hp->V->Hp->Prop
 stop:Nat->Hp->Prop
def fg(X:Cx)(pins:WB)(H:Hp)(b:Addr):Prop :=
 H b=none/\b≠X.env.locals/\b∉X.fs/\(b∈X.ex\/X.s₀.heap.objs.size<=b)/\(∀x c,X.env.cells.lookup x=some c->c≠b)/\∀p∈X.pn++pins,p.1≠b
theorem Inv.kK{X:Cx}{pins:WB}{σ:St}{H H':Hp}{s:oR}{b:Addr}(I: ~~~H s)(F:s⁻¹<=b)(J:H' b=none):fg X pins H' b:=by
 show#[J,Tx (N9 I.lt F),I.Il F,.inr (le_trans I.sz F),λx c e z=>?_,λp G z=>?_]
 .let#[v,q]:=I.cell x c e;show absurd (N9 q.lt (by rw[z];show F)) (PH _)
 .show absurd (N9 (Heap.lt_size (I.pin p G).1) (by rw[z];show F)) (PH _)
structure Turn(P:tp)(w:By)(K:DD)(tg:Ob)(J:It)(fp:List Addr)(it:Addr)(tn:Nat->Heap->Prop):Prop where
 mem:it∈fp
 obj:∀i h,tn i h->∀b∈fp,∃o,h.get? b=some o/\∀v,o.data≠.cell v
 keep:∀i h h',tn i h->(∀b∈fp,∀o,h.get? b=some o->h'.get? b=some o)->tn i h'
 item:∀(X:Cx),X.prog=P->X.w=w->X.K=K->X.calm=true->∀(i:Nat)(pins:WB)(s:oR)(σ:St)(H:Hp)(E:WC),~~~H s->(∀b∈fp,fg X pins H b)->tn i s.heap->J.go i H ->
  wpAny (model P w) X.A (pyNext (.ref it)) (λr s1=>∃u,r=some u /\
   wpAny (model P w) X.A (RG tg (.ref it) u) (λ_ s2=>∃x H',~~~H' s2/\RelV x u/\J.El i H x H'/\tn (i+1) s2.heap/\∀b∈fp,H' b=none) E s1) E s
 done:∀(X:Cx),X.prog=P->X.w=w->X.K=K->X.calm=true->∀(i:Nat)(pins:WB)(s:oR)(σ:St)(H:Hp)(E:WC),~~~H s->(∀b∈fp,fg X pins H b)->tn i s.heap->J.stop i H ->
  wpAny (model P w) X.A (pyNext (.ref it)) (λr s1=>r=none/\~~~H s1) E s
 self:∀(A:L5)(i:Nat)(s:oR)(Q:WC)(E:WC),tn i s.heap->Q (.ref it) s->wpAny (model P w) A (Wb (.ref it)) Q E s
abbrev TI:=St->Hp->(It->Hp->Prop)->Prop
def Nm(X:Cx)(pins:WB)(σ:St)(tg:Ob)(R:It->Hp->Prop)(F:Value)(s2:oR):Prop :=
 ∃(it:Addr)(fp:List Addr)(z:Nat->Heap->Prop)(J:It)(H':Hp),F=.ref it/\~~~H' s2/\Turn X.prog X.w X.K tg J fp it z/\z 0 s2.heap/\(∀b∈fp,fg X pins H' b)/\R J H'
def PI(X:Cx)(tg iter:Ob)(wi:TI):Prop :=
 ∀(pins:WB)(s:oR)(σ:St)(H:Hp)(R:It->Hp->Prop),~~~H s->wi σ H R ->
  ↑(eval iter X.env) (λv s1=>↑(Wb v) (Nm X pins σ tg R) X.xe s1) X.xe s
theorem pV{M:Sv}{A:L5}{E:WC}{s:oR}{tg:Ob}{it:Addr}{u:Value}{o:Obj}{n:String}{vs:WG}{Q:Unit->oR->Prop}(F:s.heap.get? it=some o)(G:o.cls=.type n)(hd:o.data=.fields vs)
  (I:["enumerate","zip","dict_itemiterator","dict_reverseitemiterator","odict_iterator","itertools.zip_longest","itertools.pairwise"].contains n=false) (z:Q () s):wpAny M A (RG tg (.ref it) u) Q E s:=by
 unfold RG;cases tg<;>first
  |show wpAny_pure z
  |(cases u<;>first
    |show wpAny_pure z
    |(show qs (wpAny_load F ?_)
      rw[G,hd];change wpAny M A (if (["enumerate","zip","dict_itemiterator","dict_reverseitemiterator","odict_iterator","itertools.zip_longest","itertools.pairwise"].contains n&&vs[0]?==some (US _))=true then _ else _) Q E s;rw[Wx (by intro h;rwa[I,Bool.false_and]at h)];show wpAny_pure z))
def Er(K:DD)(a:Addr):It :=
 #[λi H=>∃xs x,bq K H a xs/\xs[i]?=some x,λi H x H'=>H'=H/\∀xs,bq K H a xs->xs[i]?=some x,λi H=>∃xs,bq K H a xs/\xs.length<=i]
def Lm(K:DD)(a:Addr):It :=
 #[λi H=>∃xs x,bL K H a xs/\xs[i]?=some x,λi H x H'=>H'=H/\∀xs,bL K H a xs->xs[i]?=some x,λi H=>∃xs,bL K H a xs/\xs.length<=i]
def Ce(lo:Int)(n:Nat):It:=#[λi _=>i<n,λi H x H'=>H'=H/\x=.int (lo+i),λi _=>n<=i]
theorem hZ{P:tp}{w:By}{K:DD}{tg:Ob}(a it:Addr):Turn P w K tg (Er K a) [it] it (λi h=>h.IsListIter it a i) where
 mem:=by simp
 obj:=λi h st b F=>by
  let e:b=it:=‹F›;subst e;let#[o,e,c,d]:=st;show#[o,e,λv z=>by rwa[d]at z]
 keep:=λi h h' st k=>st.at λo e=>k it (by simp) o e
 item:=by
  intro X hP N U hc i pins s σ H E I J st O;subst hP N U;let#[xs,x,G,hx]:=O;let#[its,L,p,hz]:=I.list G;let#[u,hu,ru]:=L.get hx;let#[S,Y,f2,f3,f4,R]:=J it (by simp);show Q3 st p.isList (x:=u) ‹hu› λh' ab sb=>?_;let I1: ~~~H { s with heap:=h' }:=I.turned (t':=s.toks) (λb o F e=>(sb.2 b F).trans e) S Y f3 f4 R;let#[o,e,c,d]:=id ab;show#[u,rfl,pV (s:={ s with heap:=h' }) e c d ar #[x,H,I1,ru,#[rfl,λys hy=>by rw[I.jm hy G];show hx],ab,λb F=>(J b F).1]]
 done:=by
  intro X hP N U hc i pins s σ H E I J st O;subst hP N U;let#[xs,G,hx]:=O;let#[its,L,p,hz]:=I.list G;let#[S,Y,f2,f3,f4,R]:=J it (by simp);let hl:=L.length;show wpAny_pyNext_list_end (I.ok.hd hc) st p.isList (by simp;omega) λh' eb=>#[rfl,I.turned (t':=s.toks) (λb o F e=>eb b o F e) S Y f3 f4 R]
 self:=λ_ _ _ _ _ st h=>Tj st h
theorem wY{P:tp}{w:By}{K:DD}{tg:Ob}(a it:Addr):Turn P w K tg (Lm K a) [it] it (λi h=>h.IsTupleIter it a i) where
 mem:=by simp
 obj:=λi h st b F=>by
  let e:b=it:=‹F›;subst e;let#[o,e,c,d]:=st;show#[o,e,λv z=>by rwa[d]at z]
 keep:=λi h h' st k=>st.at λo e=>k it (by simp) o e
 item:=by
  intro X hP N U hc i pins s σ H E I J st O;subst hP N U;let#[xs,x,G,hx]:=O;let#[its,L,p,hz]:=I.tuple G;let#[u,hu,ru]:=L.get hx;let#[S,Y,f2,f3,f4,R]:=J it (by simp);show wpAny_pyNext_tuple_item st (show s.heap.IsTuple a its.toArray from p) (x:=u) ‹hu› λh' ab sb=>?_;let I1: ~~~H { s with heap:=h' }:=I.turned (t':=s.toks) (λb o F e=>(sb.2 b F).trans e) S Y f3 f4 R;let#[o,e,c,d]:=id ab;show#[u,rfl,pV (s:={ s with heap:=h' }) e c d ar #[x,H,I1,ru,#[rfl,λys hy=>by rw[I.Ai hy G];show hx],ab,λb F=>(J b F).1]]
 done:=by
  intro X hP N U hc i pins s σ H E I J st O;subst hP N U;let#[xs,G,hx]:=O;let#[its,L,p,hz]:=I.tuple G;let#[S,Y,f2,f3,f4,R]:=J it (by simp);let hl:=L.length;show wpAny_pyNext_tuple_end (I.ok.hd hc) st (show s.heap.IsTuple a its.toArray from p) (by simp;omega) λh' eb=>#[rfl,I.turned (t':=s.toks) (λb o F e=>eb b o F e) S Y f3 f4 R]
 self:=λ_ _ _ _ _ st h=>wpAny_pyIter_tupleiter st h
theorem gu{P:tp}{w:By}{K:DD}{tg:Ob}(it:Addr)(lo:Int)(n:Nat):Turn P w K tg (Ce lo n) [it] it (λi h=>QV h it (lo+(i:Nat)*1) ((n:Int)-(i:Nat)) 1) where
 mem:=by simp
 obj:=λi h st b F=>by
  let e:b=it:=‹F›;subst e;show#[_,st,λv z=>by
   let z':Data.fields _=Data.cell v:=z;cases z']
 keep:=λi h h' st k=>k it (by simp) _ st
 item:=by
  intro X Y J S R i pins s σ H E I G st L;subst Y J S;let#[O,U,f2,f3,f4,N]:=G it (by simp);let W:=Wk (prog:=X.prog) (w:=X.w) (I.ok.hd R) it lo 1 n;show W.item i s _ _ L st λv h' tk hv ab kk=>?_;let#[t,rfl]:=hv;let I1: ~~~H { s with heap:=h',toks:=tk }:=I.turned (λb o F e=>kk b o ‹F› e) O U f3 f4 N;show#[0,pV (s:={ s with heap:=h',toks:=tk }) (n := "range_iterator") ab rfl rfl ar #[.int (lo+i),H,I1,#[t,?_],#[1],ab,λb F=>(G b F).1]];rw[Int.mul_one]
 done:=by
  intro X Y J S R i pins s σ H E I G st L;subst Y J S;let#[O,U,f2,f3,f4,N]:=G it (by simp);show SW (I.ok.hd R) st (by have:n<=i:=L;omega) λh' eb=>#[rfl,I.turned (t':=s.toks) (λb o F e=>eb b o F e) O U f3 f4 N]
 self:=λ_ _ _ _ _ st h=>SY st h
section
variable{X:Cx}{tg:Ob}
def F7(K:DD)(tl:TE):TI:=λσ H R=>tl σ H λx H1=>∃a,x=.ref a/\(∃xs,bq K H1 a xs)/\R (Er K a) H1
def LG(K:DD)(tl:TE):TI:=λσ H R=>tl σ H λx H1=>∃a,x=.ref a/\(∃xs,bL K H1 a xs)/\R (Lm K a) H1
theorem cK{l:Ob}{tl:TE}(N:PE X l tl):PI X tg l (F7 X.K tl):=by
 intros R I h;show bR (N pins s σ H _ I h) λv s1 G=>?_;let#[x,H1,z,J,L]:=G;let#[a,e,#[xs,F],q]:=L;subst e;cases J;let#[its,S,p,U]:=z.list F;show UD p.isList ?_;show#[s1⁻¹,[s1⁻¹],2,H1,rfl,z.kept (t':=s1.toks) λb o e=>Heap.get?_push_of_some _ e,hZ a _,#[_,Heap.get?_push_size _ rfl,1],λb O=>?_,q];let e:b=s1⁻¹:=‹O›;subst e;show z.kK (t7 _) (z.bJ.fresh (t7 _))
theorem Ja{l:Ob}{tl:TE}(N:PE X l tl):PI X tg l (LG X.K tl):=by
 intros R I h;show bR (N pins s σ H _ I h) λv s1 L=>?_;let#[x,H1,z,G,J]:=L;let#[a,e,#[xs,F],q]:=J;subst e;cases G;let#[its,S,p,U]:=z.tuple F;show wpAny_pyIter_tuple (show s1.heap.IsTuple a its.toArray from p) ?_;show#[s1⁻¹,[s1⁻¹],2,H1,rfl,z.kept (t':=s1.toks) λb o e=>Heap.get?_push_of_some _ e,wY a _,#[_,Heap.get?_push_size _ rfl,1],λb O=>?_,q];let e:b=s1⁻¹:=‹O›;subst e;show z.kK (t7 _) (z.bJ.fresh (t7 _))
theorem wj{pins:WB}{σ:St}{H:Hp}{s:oR}{R:It->Hp->Prop}{E:WC}{lo hi:Int}{t u v:Wj}{tk:Nat}(I: ~~~H s)(h1 : -(2^62)<=lo)(h2:lo<2^62)(J : -(2^62)<=hi)(L:hi<2^62)
  (q:R (Ce lo (hi-lo).toNat) H):↑(Wb (.ref s⁻¹)) (Nm X pins σ tg R) E { s with heap:=s.heap.push { cls:=.type "range",data:=.fields ([.int lo t,.int hi u,.int 1 v].toArray) },toks:=tk }:=by
 show RW (U8 ..) (V4 h1 h2 J L) ?_;let z: ~~~H { s with heap:=s.heap.push { cls:=.type "range",data:=.fields ([.int lo t,.int hi u,.int 1 v].toArray) },toks:=tk }:=I.kept λb o e=>Heap.get?_push_of_some _ e;show#[(s.heap.push { cls:=.type "range",data:=.fields ([.int lo t,.int hi u,.int 1 v].toArray) }).objs.size,[(s.heap.push { cls:=.type "range",data:=.fields ([.int lo t,.int hi u,.int 1 v].toArray) }).objs.size],2,H,rfl,
  z.kept (t':=tk) λb o e=>Heap.get?_push_of_some _ e,gu _ lo (hi-lo).toNat,?_,λb N=>?_,q]
 .let G:lo+((0:Nat):Int)*1=lo:=(by simp);let F:(((hi-lo).toNat:Nat):Int)-((0:Nat):Int)=Builtin.Range.rangeSize lo hi 1:=(by rw[Ui];split<;>omega);change QV _ _ (lo+((0:Nat):Int)*1) ((((hi-lo).toNat:Nat):Int)-((0:Nat):Int)) 1;rw[G,F];show Heap.get?_push_size _ rfl
 .let e:b=(s.heap.push { cls:=.type "range",data:=.fields ([.int lo t,.int hi u,.int 1 v].toArray) }).objs.size:=‹N›;subst e;show z.kK (t7 _) (z.bJ.fresh (t7 _))
def FW(ta:TA):TI:=λσ H R=>ta σ H λvs H1=>∃j:Int,vs=[.int j] /\ -(2^62)<=j/\j<2^62/\R (Ce 0 j.toNat) H1
def Jr(ta:TA):TI:=λσ H R=>ta σ H λvs H1=>Jd λ(i j:Int)=>uN (vs=[.int i,.int j]) ((-(2^62)<=i/\i<2^62 /\ -(2^62)<=j/\j<2^62)) (R (Ce i (j-i).toNat) H1)
theorem mh{a:Ob}{ta:TA}{p pos:QJ}(J:Gl X "range")(O:X.mg "range" = none)(N:PA X [a] ta)(hs:starEach [a] X.env=[(false,eval a X.env)]:=by rfl):PI X tg (.Call (.Name "range" p) [a] [] pos) (FW ta):=by
 intros R I h;show Wl (iI I J O Ur (OH (bR (N pos pins s σ H _ I h) λus s1 S=>?_) hs rfl));let#[vs,H1,G,L,z]:=S;let#[j,e,z,U,q]:=z;subst e;cases L with
 |cons r F =>
  cases F;let#[t,rfl]:=r;show call_range_1 (wj G af af z U ‹q›)
theorem rW{a b:Ob}{ta:TA}{p pos:QJ}(J:Gl X "range")(hm:X.mg "range" = none)(L:PA X [a,b] ta)(hs:starEach [a,b] X.env=[(false,eval a X.env),(false,eval b X.env)]:=by rfl)(G:starEach [b] X.env=[(false,eval b X.env)]:=by rfl) :
  PI X tg (.Call (.Name "range" p) [a,b] [] pos) (Jr ta):=by
 intros R I h;show Wl (iI I J hm Ur (OH (bR (L pos pins s σ H _ I h) λus s1 ⟨vs,H1,S,Y,z⟩=>?_) (by rw[hs,G]) (by rw[G];rfl)));let#[i,j,e,#[z,O,q3,U],q]:=z;subst e;cases Y with
 |cons r F =>
  cases F with
  |cons N F =>
   cases F;let#[t,rfl]:=r;let#[t',rfl]:=N;show call_range_2 (wj S z O q3 U q)
def JJ(wi:TI)(g:TG)(tb:TS):TS:=λD σ H=>wi σ H λJ H1=>∃W:Nat->Nat->St->Hp->Prop,(∃m,W 0 m σ H1)/\∀i m σ H,W i m σ H ->
 (J.stop i H/\D.nx σ H)\/(J.go i H/\∃N:St->Hp->Prop,(∀F H',N F H'->∃z,z<m/\W (i+1) z F H')/\∀x H',J.El i H x H'->g x σ H' λG H2=>tb { D with nx:=N,ct:=N,bk:=D.nx } G H2)
def kD(fp:List Addr)(h:Heap):List (Addr×Obj):=fp.filterMap λb=>(h.get? b).map λo=>(b,o)
theorem dQ{fp:List Addr}{h:Heap}{b:Addr}{o:Obj}(z:b∈fp)(e:h.get? b=some o):(b,o)∈kD fp h:=RX.mpr #[b,z,by rw[e];rfl]
theorem zP{fp:List Addr}{h:Heap}{p:Addr×Obj}(z:p∈kD fp h):p.1∈fp/\h.get? p.1=some p.2:=by
 let#[b,G,e]:=RX.mp z;cases q:h.get? b with
 |none=>rwa[q]at e
 |some o =>
  rw[q]at e;let F:(b,o)=p:=sN e;subst F;show#[G,q]
theorem Inv.pinned{pins:WB}{σ:St}{H:Hp}{s:oR}{fp:List Addr}(I: ~~~H s)(S:∀b∈fp,fg X pins H b)(L:∀b∈fp,∃o,s.heap.get? b=some o/\∀v,o.data≠.cell v):Inv X (pins++kD fp s.heap) σ H s :=
 I.jE λp J=>(t4.mp J).elim (λz=>I.pin p (wh _ z)) λz=>by
  let#[G,e]:=zP z;let#[R,O,N,_]:=S p.1 G;let#[o,F,d]:=L p.1 G;rwa[e]at F;show#[e,R,O,N,d]
theorem Inv.ff{pins pl:WB}{σ:St}{H:Hp}{s:oR}(I:Inv X (pins++pl) σ H s): ~~~H s:=I.jE λp z=>I.pin p (wh _ (OB _ z))
theorem cA{iter:Ob}{body:List N8}{wi:TI}{g:TG}{tb:TS}{pos:QJ}(S:UR (model X.prog X.w) X.A X.env X.xe)(hc:X.calm=true)(hi:PI X tg iter wi)(hg:PG X tg g)(F:wg X body tb)
  (hs:∀x,Qs iter X.env x=pure x:=by intro _;rfl):PS X (.For tg iter body [] pos) (JJ wi g tb):=by
 intros D I h;show V5 (bR (hi pins s σ H _ I h) λv s1 h1=>bR h1 λa6 s2 h2=>?_) hs;let#[it,fp,tn,J,H2,e,I2,T,aT,f2,W,#[m0,w0],ap]:=h2;subst e;let ac:∀{H':Hp},(∀b∈fp,H' b=none)->∀b∈fp,fg X pins H' b:=λhn b F=>#[hn b F,(f2 b F).2];show Ue (λn s'=>∃i R H',Inv X pins R H' s'/\tn i s'.heap/\(∀b∈fp,H' b=none)/\W i n R H') ?_ m0 #[(0),σ,H2,I2,aT,λb F=>(f2 b F).1,w0];rintro n s3 ⟨i,Y,H3,I3,am,ad,w3⟩;rcases ap i n Y H3 w3 with⟨a3,qn⟩|⟨go,N,hN,step⟩
 .show OP S (bR (T.done X rfl rfl rfl hc i pins s3 Y H3 X.xe I3 (ac ad) am a3) λr s4 a5=>?_);let#[hr,I4]:=a5;subst hr;show Py #[Y,H3,I4,qn]
 .show OP S (bR (T.item X rfl rfl rfl hc i pins s3 Y H3 X.xe I3 (ac ad) am go) λr s4 aB=>?_);let#[u,hr,h4]:=aB;subst hr;show OP S (bR h4 λ_ s5 a1=>?_);let#[x,H5,I5,r5,y5,ab,as]:=a1;let a0:=I5.pinned (ac as) (T.obj _ _ ab);show OP S (bR (hg _ s5 Y H5 x u _ a0 r5 (step x H5 y5)) λ_ s6 a2=>?_);let#[a4,H6,I6,q6]:=a2;show OP S (bR (F _ s6 a4 H6 _ I6 q6) λf s7 O=>?_);let again:∀{z:St}{L:Hp},Inv X (pins++kD fp s5.heap) z L s7->N z L->∃m,m<n/\∃i R H',Inv X pins R H' s7/\tn i s7.heap/\(∀b∈fp,H' b=none)/\W i m R H':=λ{z L} G U=>by
   let#[m',hm,w7]:=hN z L U;show#[m',hm,i+1,z,L,G.ff,T.keep _ _ _ ab λb F o e=>(G.pin (b,o) (wh _ (wh _ (dQ F e)))).1,λb F=>?_,w7];let#[o,e,d]:=T.obj _ _ ab b F;show(G.pin (b,o) (wh _ (wh _ (dQ F e)))).2.1
  cases f with
  |next=>let#[z,L,G,U]:=O;show again G U
  |cont=>let#[z,L,G,U]:=O;show again G U
  |brk=>let#[z,L,G,O]:=O;show#[z,L,G.ff,O]
  |ret v=>let#[x7,z,L,G,r7,O]:=O;show#[x7,z,L,G.ff,r7,O]
end
theorem cq{K:DD}{a:Addr}{xs:List V}{g:TG}{tb:TS}{D:Ends}{σ:St}{H:Hp}(Pv:Nat->St->Hp->Prop)(O:Pv 0 σ H)(J:∀i σ H,i<=xs.length->Pv i σ H->bq K H a xs)
  (hs:∀i x σ H,xs[i]?=some x->Pv i σ H->g x σ H λz H2=>tb { D with nx:=Pv (i+1),ct:=Pv (i+1),bk:=D.nx } z H2) (hd:∀σ H,Pv xs.length σ H->D.nx σ H) :
  ∃W:Nat->Nat->St->Hp->Prop,(∃m,W 0 m σ H)/\∀i m σ H,W i m σ H ->
   ((Er K a).stop i H/\D.nx σ H)\/((Er K a).go i H/\∃N:St->Hp->Prop,(∀F H',N F H'->∃G,G<m/\W (i+1) G F H')/\∀x H',(Er K a).El i H x H'->g x σ H' λz H2=>tb { D with nx:=N,ct:=N,bk:=D.nx } z H2):=by
 show#[λi m σ H=>m=xs.length-i/\i<=xs.length/\Pv i σ H,#[xs.length,by simp,Oc _,O],?_];rintro i m σ H ⟨rfl,hi,p⟩;let q:=J i σ H hi p;cases I:i<xs.length
 .show .inr #[#[xs,xs[i],q,by simp[I]],Pv (i+1),λF H' L=>#[xs.length-(i+1),af,rfl,I,L],λx H' y=>?_];let#[e,y]:=y;subst e;show hs i x σ _ (y xs q) p
 .let e:i=xs.length:=af;subst e;show .inl #[#[xs,q,t7 _],hd σ H p]
theorem jP{lo:Int}{n:Nat}{g:TG}{tb:TS}{D:Ends}{σ:St}{H:Hp}(Pv:Nat->St->Hp->Prop)(L:Pv 0 σ H)
  (hs:∀i σ H,i<n->Pv i σ H->g (.int (lo+i)) σ H λz H2=>tb { D with nx:=Pv (i+1),ct:=Pv (i+1),bk:=D.nx } z H2) (hd:∀σ H,Pv n σ H->D.nx σ H) :
  ∃W:Nat->Nat->St->Hp->Prop,(∃m,W 0 m σ H)/\∀i m σ H,W i m σ H ->
   ((Ce lo n).stop i H/\D.nx σ H)\/((Ce lo n).go i H/\∃N:St->Hp->Prop,(∀F H',N F H'->∃I,I<m/\W (i+1) I F H')/\∀x H',(Ce lo n).El i H x H'->g x σ H' λz H2=>tb { D with nx:=N,ct:=N,bk:=D.nx } z H2):=by
 show#[λi m σ H=>m=n-i/\i<=n/\Pv i σ H,#[n,by simp,Oc _,L],?_];rintro i m σ H ⟨rfl,hi,p⟩;cases G:i<n
 .show .inr #[G,Pv (i+1),λF H' J=>#[n-(i+1),af,rfl,G,J],λx H' y=>?_];let#[e,y]:=y;subst e y;show hs i σ _ G p
 .let e:i=n:=af;subst e;show .inl #[t7 _,hd σ H p]
abbrev R2:=V->V->Hp->VK->Prop
def jY(X:Cx)(f:Value->Value->Sem Value)(r:R2):Prop :=
 ∀(pins:WB)(s:oR)(σ:St)(H:Hp)(x y:V)(v u:Value)(Q:VK),~~~H s->RelV x v->RelV y u->r x y H Q ->
  ↑(f v u) (EP X pins σ Q) X.xe s
def ML(X:Cx)(f:Value->Sem Value)(r:V->Hp->VK->Prop):Prop :=
 ∀(pins:WB)(s:oR)(σ:St)(H:Hp)(x:V)(v:Value)(Q:VK),~~~H s->RelV x v->r x H Q ->
  ↑(f v) (EP X pins σ Q) X.xe s
def eQ(X:Cx)(f:Value)(r:List V->Hp->VK->Prop):Prop :=
 ∀(pins:WB)(s:oR)(σ:St)(H:Hp)(xs:List V)(us:WH)(Q:VK),~~~H s->Vals xs us->r xs H Q ->
  ↑(call f us) (EP X pins σ Q) X.xe s
def Aj(r:R2)(ta tb:TE):TE:=λσ H Q=>ta σ H λx H1=>tb σ H1 λy H2=>r x y H2 Q
def NP(r:V->Hp->VK->Prop)(ta:TE):TE:=λσ H Q=>ta σ H λx H1=>r x H1 Q
inductive rI(C:Int->Int->Prop)(g:Int->Int->V)(x:V)(y:V)(H:Hp)(Q:VK):Prop
 |mk(i:_)(j:_)(_:x=.int i)(_:y=.int j)(_:C i j)(_:Q (g i j) H)
inductive FA(g:Int->Int->V)(x:V)(y:V)(H:Hp)(Q:VK):Prop
 |mk(i:_)(j:_)(_:x=.int i)(_:y=.int j)(_:Q (g i j) H)
inductive rU(g:Int->V)(x:V)(H:Hp)(Q:VK):Prop
 |mk(i:_)(_:x=.int i)(_:Q (g i) H)
section
variable{X:Cx}{a b c:Ob}{ta tb tc:TE}{pos:QJ}
theorem Hq(O:PE X a ta)(hb:PE X b tb){pins:WB}{s:oR}{σ:St}{H:Hp}{R:V->V->Hp->Prop}(I: ~~~H s)
  (h:ta σ H λx H1=>tb σ H1 λy H2=>R x y H2) {Q:WC}{f:Value->Value->Sem Value}
  (hf:∀v u s2 x y H2,~~~H2 s2->RelV x v->RelV y u->R x y H2->↑(f v u) Q X.xe s2) :
  ↑(eval a X.env) (λv z=>↑(eval b X.env) (λu G=>↑(f v u) Q X.xe G) X.xe z) X.xe s:=by
 show bR (O pins s σ H _ I h) λv s1 S=>?_;let#[x,H1,J,L,N]:=S;show bR (hb pins s1 σ H1 _ J N) λu s2 U=>?_;let#[y,H2,F,Y,q2]:=U;show hf v u s2 x y H2 F L Y q2
theorem ay{z:UB}{r:R2}(F:jY X (Rx z) r)(J:PE X a ta)(N:PE X b tb):PE X (.BinOp a z b pos) (Aj r ta tb):=by
 intros Q I h;show wpAny_BinOp (Hq J N I h λv u s2 x y H2 G O L q=>F pins s2 σ H2 x y v u Q G O L q)
theorem qp{z:UnaryOp}{r:V->Hp->VK->Prop}(G:ML X (unaryOp z) r)(O:PE X a ta):PE X (.UnaryOp z a pos) (NP r ta):=by
 intros Q I h;show UnaryOp_ (bR (O pins s σ H _ I h) λv s1 F=>by let#[x,H1,J,L,N]:=F;show G pins s1 σ H1 x v Q J L N)
theorem Lx{f:Value->Value->Sem Value}{C:Int->Int->Prop}{g:Int->Int->Int}
  (rule:∀(i j:Int)(t u:Wj)(s:oR)(Q:WC)(E:WC),C i j->Q (.int (g i j) s.toks) { s with toks:=s.toks+1 }->↑(f (.int i t) (.int j u)) Q E s) :
  jY X f (rI C λi j=>.int (g i j)):=by
 intros x y v u Q I G F h;let#[i,j,rfl,rfl,z,q]:=h;let#[t,rfl]:=G;let#[t',rfl]:=F;show rule i j t t' s _ _ z #[.int (g i j),H,I.tok _,#[0],q]
theorem J8{f:Value->Value->Sem Value}{g:Int->Int->Int}
  (rule:∀(i j:Int)(t u:Wj)(s:oR)(Q:WC)(E:WC),Q (.int (g i j) s.toks) { s with toks:=s.toks+1 }->↑(f (.int i t) (.int j u)) Q E s) :
  jY X f (FA λi j=>.int (g i j)):=by
 intros x y v u Q I F z h;let#[i,j,rfl,rfl,q]:=h;let#[t,rfl]:=F;let#[t',rfl]:=z;show rule i j t t' s _ _ #[.int (g i j),H,I.tok _,#[0],q]
theorem Ft{f:Value->Value->Sem Value}{g:Int->Int->Bool}
  (rule:∀(i j:Int)(t u:Wj)(s:oR)(Q:WC)(E:WC),Q (.bool (g i j)) s->↑(f (.int i t) (.int j u)) Q E s) :
  jY X f (FA λi j=>.bl (g i j)):=by
 intros x y v u Q I F z h;let#[i,j,rfl,rfl,q]:=h;let#[t,rfl]:=F;let#[t',rfl]:=z;show rule i j t t' s _ _ #[.bl (g i j),H,I,rfl,q]
def LO(i j:Int):Prop:=0<j/\j<1073741824
def LX(i j:Int):Prop:=0<=j/\j<=1000000/\i.natAbs<2^64
def EY(i j:Int):Prop:=(-(2^64)<i/\i<2^64)\/(-(2^64)<j/\j<2^64)
theorem EY.ok{i j:Int}(h:EY i j):IntMulOk i j:=by
 rcases h with⟨h1,h2⟩|⟨h1,h2⟩
 .show .of_left (intBits_le_64 h1 h2)
 .show .of_right (intBits_le_64 h1 h2)
theorem bD:jY X (Rx .Add) (FA λi j=>.int (i+j)):=J8 λ_ _ _ _ _ _ _ q=>add_int q
theorem ky:jY X (Rx .Sub) (FA λi j=>.int (i-j)):=J8 λ_ _ _ _ _ _ _ q=>sub_int q
theorem kh:jY X (Rx .Mult) (rI EY λi j=>.int (i*j)):=Lx λ_ _ _ _ _ _ _ z q=>mul_int q z.ok
theorem bg:jY X (Rx .FloorDiv) (rI LO λi j=>.int (i/j)):=Lx λi j _ _ _ _ _ z q=>by
 let h1:(0:Int)<j:=z.1;let h2:j<1073741824:=z.2;show floordiv_int af (by rw[Int.fdiv_eq_ediv_of_nonneg i af];show q) (.inl (PyProof.noPylong_small af))
theorem bw:jY X (Rx .Mod) (rI (λ_ j=>0<j) λi j=>.int (i%j)):=Lx λi j _ _ _ _ _ z q=>by
 let h1:(0:Int)<j:=z;show mod_int' af (by rw[Int.fmod_eq_emod_of_nonneg i af];show q)
theorem gp:jY X (Rx .Pow) (rI LX λi j=>.int (i^j.toNat)):=Lx λ_ _ _ _ _ _ _ z q=>pow_int_small z.1 z.2.1 z.2.2 q
theorem Ny{f:Value->Sem Value}{g:Int->Int}
  (rule:∀(i:Int)(t:Wj)(s:oR)(Q:WC)(E:WC),Q (.int (g i) s.toks) { s with toks:=s.toks+1 }->↑(f (.int i t)) Q E s) :
  ML X f (rU λi=>.int (g i)):=by
 intros x v Q I z h;let#[i,rfl,q]:=h;let#[t,rfl]:=z;show rule i t s _ _ #[.int (g i),H,I.tok _,#[0],q]
theorem kB:ML X (unaryOp .USub) (rU λi=>.int (-i)):=Ny λ_ _ _ _ _ q=>neg_int q
end
def HK:V->V->Bool
 |.non,.non=>true|.non,.int _=>true|.int _,.non=>true|.non,.bl _=>true|.bl _,.non=>true|.non,.str _=>true|.str _,.non=>true
 |.int _,.int _=>true|.bl _,.bl _=>true|.str _,.str _=>true|.byt _,.byt _=>true
 |.int _,.str _=>true|.str _,.int _=>true|.bl _,.str _=>true|.str _,.bl _=>true
 |_,_=>false
def Jc:R2:=λx y H Q=>HK x y=true/\Q (.bl (decide (x=y))) H
def NW:R2:=λx y H Q=>HK x y=true/\Q (.bl (!decide (x=y))) H
theorem zC{i j:Int}:decide (V.int i=V.int j)=(i==j):=by
 rw[QR];simp
theorem BS{i j:Bool}:decide (V.bl i=V.bl j)=(i==j):=by
 rw[QR];simp
theorem zg{i j:Str}:decide (V.str i=V.str j)=(i==j):=by
 rw[QR];simp
theorem zv{i j:Array UInt8}:decide (V.byt i=V.byt j)=(i.toList==j.toList):=by
 rw[QR];cases i;cases j;simp
section
variable{X:Cx}{a b c:Ob}{ta tb tc:TE}{pos:QJ}
theorem bP{pins:WB}{σ:St}{H:Hp}{s:oR}{Q:VK}{k z:Bool}(I: ~~~H s)(q:Q (.bl k) H)(e:k=z):EP X pins σ Q (.bool z) s:=by
 subst e;show#[.bl k,H,I,rfl,q]
theorem bM:jY X (OL .Eq) Jc:=by
 intros x y v u Q I F z h;let#[hs,q]:=h;cases x with
 |non =>
  cases F;cases y with
  |non=>cases z;show PySem.EqNone.eq_none_none (bP I q (by simp))
  |bl j=>cases z;show PySem.EqNone.eq_none_bool (bP I q (by simp))
  |int j=>let#[t',rfl]:=z;show PySem.EqNone.eq_none_int (bP I q (by simp))
  |str j=>let#[t',rfl]:=z;show PySem.EqNone.eq_none_str (bP I q (by simp))
  |_=>show absurd (show false=true from hs) vr
 |bl i =>
  cases F;cases y with
  |non=>cases z;show PySem.EqNone.eq_bool_none (bP I q (by simp))
  |bl j=>cases z;show eq_bool (bP I q BS)
  |str j=>let#[t',rfl]:=z;show VS (bP I q (by simp))
  |_=>show absurd (show false=true from hs) vr
 |int i =>
  let#[t,rfl]:=F;cases y with
  |non=>cases z;show PySem.EqNone.eq_int_none (bP I q (by simp))
  |int j=>let#[t',rfl]:=z;show eq_int (bP I q zC)
  |str j=>let#[t',rfl]:=z;show VW (bP I q (by simp))
  |_=>show absurd (show false=true from hs) vr
 |str i =>
  let#[t,rfl]:=F;cases y with
  |non=>cases z;show PySem.EqNone.eq_str_none (bP I q (by simp))
  |bl j=>cases z;show VT (bP I q (by simp))
  |int j=>let#[t',rfl]:=z;show VX (bP I q (by simp))
  |str j=>let#[t',rfl]:=z;show eq_str (bP I q zg)
  |_=>show absurd (show false=true from hs) vr
 |byt i =>
  let#[t,rfl]:=F;cases y with
  |byt j=>let#[t',rfl]:=z;show PySem.W.eq_bytes (bP I q zv)
  |_=>show absurd (show false=true from hs) vr
 |_=>cases y<;>show absurd (show false=true from hs) vr
theorem qY:jY X (OL .NotEq) NW:=by
 intros x y v u Q I F z h;let#[hs,q]:=h;cases x with
 |non =>
  cases F;cases y with
  |non=>cases z;show PySem.EqNone.ne_none_none (bP I q (by simp))
  |bl j=>cases z;show PySem.EqNone.ne_none_bool (bP I q (by simp))
  |int j=>let#[t',rfl]:=z;show PySem.EqNone.ne_none_int (bP I q (by simp))
  |str j=>let#[t',rfl]:=z;show PySem.EqNone.ne_none_str (bP I q (by simp))
  |_=>show absurd (show false=true from hs) vr
 |bl i =>
  cases F;cases y with
  |non=>cases z;show PySem.EqNone.ne_bool_none (bP I q (by simp))
  |bl j=>cases z;show ne_bool (bP I q (congrArg not BS))
  |str j=>let#[t',rfl]:=z;show VU (bP I q (by simp))
  |_=>show absurd (show false=true from hs) vr
 |int i =>
  let#[t,rfl]:=F;cases y with
  |non=>cases z;show PySem.EqNone.ne_int_none (bP I q (by simp))
  |int j=>let#[t',rfl]:=z;show ne_int (bP I q (congrArg not zC))
  |str j=>let#[t',rfl]:=z;show VY (bP I q (by simp))
  |_=>show absurd (show false=true from hs) vr
 |str i =>
  let#[t,rfl]:=F;cases y with
  |non=>cases z;show PySem.EqNone.ne_str_none (bP I q (by simp))
  |bl j=>cases z;show VV (bP I q (by simp))
  |int j=>let#[t',rfl]:=z;show VZ (bP I q (by simp))
  |str j=>let#[t',rfl]:=z;show ne_str (bP I q (congrArg not zg))
  |_=>show absurd (show false=true from hs) vr
 |byt i =>
  let#[t,rfl]:=F;cases y with
  |byt j=>let#[t',rfl]:=z;show PySem.W.ne_bytes (bP I q (congrArg not zv))
  |_=>show absurd (show false=true from hs) vr
 |_=>cases y<;>show absurd (show false=true from hs) vr
theorem fE:jY X (OL .Lt) (FA λi j=>.bl (decide (i<j))):=Ft λ_ _ _ _ _ _ _ q=>lt_int q
theorem F6:jY X (OL .LtE) (FA λi j=>.bl (decide (i<=j))):=Ft λ_ _ _ _ _ _ _ q=>le_int q
theorem kO:jY X (OL .Gt) (FA λi j=>.bl (decide (j<i))):=Ft λ_ _ _ _ _ _ _ q=>gt_int q
theorem Lb:jY X (OL .GtE) (FA λi j=>.bl (decide (j<=i))):=Ft λ_ _ _ _ _ _ _ q=>ge_int q
theorem Iq:jY X (OL .Is) (λx y H Q=>y=.non/\Q (.bl (decide (x=.non))) H):=by
 intros x y v u Q I z F h;let#[rfl,q]:=h;cases F;show is_none_gen (bP I q ?_);cases x<;>first
  |(cases z;rfl)
  |(let#[t,rfl]:=z;rfl)
theorem EJ:jY X (OL .IsNot) (λx y H Q=>y=.non/\Q (.bl (!decide (x=.non))) H):=by
 intros x y v u Q I z F h;let#[rfl,q]:=h;cases F;show isnot_none_gen (bP I q ?_);cases x<;>first
  |(cases z;rfl)
  |(let#[t,rfl]:=z;rfl)
theorem aF(b:Ob){z:V3}(h:z≠.In:=by decide)(h2:z≠.NotIn:=by decide):Rq z b=false:=by
 let G:(z==CmpOp.In)=false:=by cases z<;>first|rfl|show absurd rfl h
 let F:(z==CmpOp.NotIn)=false:=by cases z<;>first|rfl|show absurd rfl h2
 cases b<;>simp[Rq,G,F]
theorem eF{z:V3}{r:R2}(F:jY X (OL z) r)(J:PE X a ta)(O:PE X b tb)(L:Rq z b=false):PE X (.Compare a [z] [b] pos) (Aj r ta tb):=by
 intros Q I h;show wpAny_Compare1 (Hq J O I h λv u s2 x y H2 G R N q=>F pins s2 σ H2 x y v u Q G R N q) L
inductive DJ(t:TE)(Q:Bool->Hp->Prop)(x:V)(H':Hp):Prop
 |mk(k:_)(_:x=.bl k)(_:Q k H')
def pY(t:TE):TT:=λσ H Q=>t σ H λx H'=>DJ t Q x H'
theorem az{F:V3}{r:R2}(G:jY X (OL F) r)(U:PE X a ta)(hb:PE X b tb)(hm:Rq F b=false):PT X (.Compare a [F] [b] pos) (pY (Aj r ta tb)):=by
 intros Q I h;show Ti (bR (U pins s σ H _ I h) λv s1 ⟨x,H1,N,R,S⟩=>bR (hb pins s1 σ H1 _ N S) λu s2 ⟨y,H2,J,O,q2⟩ =>
  bR (G pins s2 σ H2 x y v u _ J R O q2) λc s3 ⟨z,Y,I3,L,k,e,q3⟩=>?_) hm
 subst e;cases L;show OZ #[Y,I3,q3]
inductive zq(r r':R2)(ta tb tc:TE)(σ:St)(Q:VK)(y:V)(z:V)(H3:Hp):Prop
 |mk (k:_) (_:z=.bl k) (_:(if k=true then tc σ H3 λw' H4=>r' y w' H4 Q else Q (.bl false) H3)):zq r r' ta tb tc σ Q y z H3
def DH(r F:R2)(ta tb tc:TE):TE:=λσ H Q=>ta σ H λx H1=>tb σ H1 λy H2=>r x y H2 λz G=>zq r F ta tb tc σ Q y z G
theorem vV{G F:V3}{r N:R2}(U:jY X (OL G) r)(ac:jY X (OL F) N)(ha:PE X a ta)(hb:PE X b tb)(hc:PE X c tc)
  (hm:lastMarks [G,F] [b,c]=false:=by with_unfolding_all rfl):PE X (.Compare a [G,F] [b,c] pos) (DH r N ta tb tc):=by
 intros Q I h;show Compare_chain (bR (ha pins s σ H _ I h) λv s1 ⟨x,H1,I1,r1,q1⟩=>chain_link (bR (hb pins s1 σ H1 _ I1 q1) λu s2 ⟨y,H2,Y,J,q2⟩ =>
  bR (U pins s2 σ H2 x y v u _ Y r1 J q2) λd s3 ⟨z,L,O,r3,k,e,R⟩=>?_)) hm
 subst e;cases r3;show OZ ?_;cases k with
 |false=>show ite_ff #[.bl false,L,O,rfl,R]
 |true=>show ite_tt (chain_last (bR (hc pins s3 σ L _ O R) λw' S ab=>by let#[z',H4,I4,r4,q4]:=ab;show ac pins S σ H4 y z' u w' Q I4 J r4 q4))
theorem DY{G F:V3}{r N:R2}(U:jY X (OL G) r)(ac:jY X (OL F) N)(ha:PE X a ta)(hb:PE X b tb)(hc:PE X c tc)
  (hm:lastMarks [G,F] [b,c]=false:=by with_unfolding_all rfl):PT X (.Compare a [G,F] [b,c] pos) (pY (DH r N ta tb tc)):=by
 intros Q I h;show isTrue_chain (bR (ha pins s σ H _ I h) λv s1 ⟨x,H1,I1,r1,q1⟩=>test_link (bR (hb pins s1 σ H1 _ I1 q1) λu s2 ⟨y,H2,Y,J,q2⟩ =>
  bR (U pins s2 σ H2 x y v u _ Y r1 J q2) λd s3 ⟨z,L,O,r3,k,e,R⟩=>?_)) hm
 subst e;cases r3;show OZ ?_;cases k with
 |false =>
  let#[k',e',q']:=R;cases e';show ite_ff #[L,O,q']
 |true =>
  show ite_tt (test_last (bR (hc pins s3 σ L _ O R) λw' S ad=>?_));let#[z',H4,I4,r4,q4]:=ad;show bR (ac pins S σ H4 y z' u w' _ I4 J r4 q4) λd' s5 ab=>?_;let#[z2,H5,I5,r5,k2,e2,q5]:=ab;subst e2;cases r5;show OZ #[H5,I5,q5]
theorem qr:(sizeLine:Nat)<2^63:=by rw[vl];decide
theorem vals1{x:V}{us:WH}(r:Vals [x] us):∃u,us=[u]/\RelV x u:=by
 cases r with
 |cons z F=>cases F;show#[0,z]
theorem vals2{x y:V}{us:WH}(r:Vals [x,y] us):∃u z,us=[u,z]/\RelV x u/\RelV y z:=by
 cases r with
 |cons I G =>
  cases G with
  |cons F J=>cases J;show#[_,0,I,F]
theorem AY(F:X.calm=true):eQ X (.builtin "min") (λxs H Q=>∃i j,xs=[.int i,.int j]/\Q (.int (if j<i then j else i)) H):=by
 intros xs us Q I r h;let#[i,j,rfl,q]:=h;let#[u,G,rfl,#[t,rfl],#[t',rfl]]:=vals2 r;show min_two_ints (I.ok.hd F) λh' tk k=>#[_,H,I.kept k,?_,q];cases z:j<i
 .rw[Wy z,Wy z];show#[0]
 .rw[Wx z,Wx z];show#[0]
theorem q8:eQ X (.type "int") (λxs H Q=>(∃i,xs=[.int i]/\Q (.int i) H)\/∃k,xs=[.bl k]/\Q (.int (if k then 1 else 0)) H):=by
 intros xs us Q I r h;rcases h with⟨i,rfl,q⟩|⟨k,rfl,q⟩
 .let#[u,rfl,t,rfl]:=vals1 r;show call_int_int #[.int i,H,I,#[0],q]
 .let#[u,rfl,z]:=vals1 r;cases z;show call_int_bool #[.int (if k then 1 else 0),H,I.tok _,#[0],q]
end
structure yN(h:Heap)(x dx C:Addr)(mA:WD):Prop where
 obj:h.get? x=some (instObj C dx)
 ns:h.Ns1 dx mA
 ne:dx≠x
theorem Ak{h:Heap}{dx:Addr}{mA:WD}(n:h.Ns1 dx mA):∃od,h.get? dx=some od/\∀name,lookIn name od=some (mA name):=by
 let#[o,es,ep,F,hd,G,_,N]:=n;show#[o,F,λname=>?_];let e:=N name;unfold nsFind findBy at e;rw[<-Array.find?_toList]at e;unfold lookIn;rw[hd];dsimp only
 set_option tactic.hygienic true in split
 .rename_i y q;rw[q]at e;show congrArg some e
 .rename_i q;rw[q]at e;let a:es.toList.any (·.refKey)=false:=by
   rw[List.any_eq_false];intro y J;let#[z,t,I]:=G y (Array.mem_toList_iff.mp J);simp[DictEntry.refKey,I]
  let L:¬ es.toList.any (·.refKey)=true:=(by rw[a];show vr);rw[Wx L];show congrArg some e
theorem yN.look{h:Heap}{x dx C:Addr}{mA:WD}(I:yN h x dx C mA):∃od,PySem.W.InstAt h x (instObj C dx) C (some od)/\∀name,lookIn name od=some (mA name):=
 let ⟨od,z,F⟩:=Ak I.ns
 #[od,#[I.obj,1,z],F]
section
variable{prog:tp}{w:By}{A:L5}{E:WC}{s:oR}{K:DD}{x dx C f:Addr}{mA:WD}{name:Str}{v:Value}
theorem get_map{F:Bool}{Q:WC}(X:K.In s.heap)(I:yN s.heap x dx C mA)(N:Vv K C name=true)(G:V6 K C=true)
  (R:OA K (.ref C) name=some none) (z:mA name=some v) (L:handedIn v=true) (h:Q v { s with toks:=s.toks+1 }) :
  wpAny (model prog w) A (getAttr (.ref x) name F) Q E s:=by
 let#[od,J,O]:=I.look;show PySem.W.get_value X J (U9 N).1 (PySem.W.findObj_own G R rfl (by rw[O,z])) L h
theorem Bl{pl:Sem Bool}{Q:Value×List Value->oR->Prop}(X:K.In s.heap)(I:yN s.heap x dx C mA)(z:Vv K C name=true)
  (N:OA K (.ref C) name=some (some (.ref f))) (G:isFn K (.ref f)=true) (F:mA name=none) (h:Q (.ref f,[.ref x]) s) :
  wpAny (model prog w) A (Ri (.ref x) name pl) Q E s:=by
 let#[od,J,L]:=I.look;show PySem.W.method_fn X J (U9 z).1 (U9 z).2 N (beq_iff_eq.mp G) (by change(lookIn name od).map (·.isSome)=some false;rw[L,F];rfl) h
theorem Fg{ns:List Str}{Q:Unit->oR->Prop}(X:K.In s.heap)(I:yN s.heap x dx C mA)
  (hs:OA K (.ref C) "__setattr__" = some (some (.builtin "object.__setattr__"))) (G:plainOver K C=true) (U:takerIn K C name=some none) (Y:V6 K C=true)
  (N:Uy mA ns) (hsz:ns.length<=sizeLine)
  (h:∀h',yN h' x dx C (λy=>if y=name then some v else mA y)->Heap.SameBut dx s.heap h'->Q () { s with heap:=h',toks:=s.toks+2 }) :
  wpAny (model prog w) A (setAttr (.ref x) name v) Q E s:=by
 let#[od,J,hl]:=I.look;show PySem.W.set_plain X J hs (PySem.W.osa_open (s:={ s with toks:=s.toks+1 }) (r:=none) X J G U λb=>?_);let#[cd,L,S]:=PySem.W.any_some Y;let hx:s.heap.get? x=some #[.ref C,some dx,.plain, ([].toArray)]:=I.obj;show qs (wpAny_pure (qs (qs (wpAny_loadPart hx (qs (Wt (s:={ s with toks:=s.toks+1 }) (PySem.W.looks_clsIn X L) ?_))))));rw[S];show wpAny_pure (a:=some dx) (qs (wpAny_pure (qs ?_)));show wpAny_nsSet1 (s:={ s with toks:=s.toks+1 }) I.ns λh' F z=>?_;let#[oD,ac,ad,ab,O,R]:=F.count (PySem.Within.cons name v N);show qs (wpAny_lookBehind ab (by rw[O];show pastItsLine_dict (le_trans R (by rw[K4];omega))) ?_);show wpAny_pure (h _ #[(z.2 _ (G0 I.ne)).trans I.obj,F,I.ne] z)
theorem D4{R:Vx->oR->Prop}{vs:WH}{z:List (Str×Value)}(X:K.In s.heap)(F:makesIn K C=true)
  (hi:OA K (.ref C) "__init__" = some (some (.ref f))) (G:PySem.W.typeIn K (.ref f)=some (.type "function"))
  (h:QA (model prog w) (A.under (.builtin "type.__call__" #[.ref C::vs,z])) (.call (.ref f) #[.ref (s⁻¹+1)::vs,z]) (PySem.W.InitBack (s⁻¹+1) R)
   { s with heap:=(s.heap.push emptyDict).push (instObj C s⁻¹) }) :
  QA (model prog w) A (.call (.ref C) #[vs,z]) R s:=by
 let#[I,g,d,t,os]:=s;show PySem.W.make_core (PySem.W.makes_of X F) (RY X hi) (λself=>PySem.W.bind_fn X self G) (.inl rfl) h
end
def bu(f:Str)(v:V):List (Str×V)->List (Str×V)
 | []=>[(f,v)]
 |(g,x)::r=>if g=f then(g,v)::r else(g,x)::bu f v r
theorem aG(f g:Str)(v:V):∀fs:List (Str×V),(bu f v fs).lookup g=if g=f then some v else fs.lookup g
 | []=>by
  change QW g [(f,v)]=_;cases h:g=f
  .let z:(g==f)=true:=beq_iff_eq.mpr h;simp only[QW,z,Wy h]
  .let z:(g==f)=false:=beq_eq_false_iff_ne.mpr h;simp only[QW,z,Wx h]
 |(k,x)::r=>by
  let G:=aG f g v r;rw[show bu f v ((k,x)::r)=(if k=f then(k,v)::r else(k,x)::bu f v r)from rfl];cases F:k=f
  .rw[Wy F];cases h:g=k
   .let z:(g==k)=true:=beq_iff_eq.mpr h;simp only[QW,z,Wy (h.trans F)]
   .let z:(g==k)=false:=beq_eq_false_iff_ne.mpr h;simp only[QW,z,Wx (λe:g=f=>h (e.trans F.symm))]
  .rw[Wx F];cases h:g=k
   .let z:(g==k)=true:=beq_iff_eq.mpr h;simp only[QW,z,Wx (λe:g=f=>F (h.symm.trans e))]
   .let z:(g==k)=false:=beq_eq_false_iff_ne.mpr h;simp only[QW,z];show G
theorem mf(f:Str)(v:V):∀fs:List (Str×V),f∈(bu f v fs).map (·.1)/\∀g,g∈fs.map (·.1)->g∈(bu f v fs).map (·.1)
 | []=>#[by simp[bu],λg h=>by simp at h]
 |(k,x)::r=>by
  let#[F,G]:=mf f v r;rw[show bu f v ((k,x)::r)=(if k=f then(k,v)::r else(k,x)::bu f v r)from rfl];cases z:k=f
  .rw[Wy z];subst z;show#[by simp,λg h=>by simpa using h]
  .rw[Wx z];show#[?_,λg h=>?_]
   .rw[Pb];show Oq _ F
   .rw[Pb]at h ⊢;rcases se.mp h with e|e
    .show se.mpr (.inl e)
    .show Oq _ (G g e)
theorem mY(f:Str)(v:V):∀fs:List (Str×V),(bu f v fs).length<=fs.length+1
 | []=>by simp[bu]
 |(k,x)::r=>by
  let F:=mY f v r;rw[show bu f v ((k,x)::r)=(if k=f then(k,v)::r else(k,x)::bu f v r)from rfl];cases z:k=f
  .rw[Wy z,K4,K4];omega
  .rw[Wx z,K4,K4];omega
theorem gM.some_of{v:V}{o:WI}(r:gM (some v) o):∃u,o=some u/\RelV v u:=by
 cases o with
 |none=>show(show False from r).elim
 |some u=>show#[u,rfl,r]
theorem gM.none_of{o:WI}(r:gM none o):o=none:=by
 cases o with
 |none=>rfl
 |some u=>show(show False from r).elim
theorem zS{v:V}{u:Value}(r:RelV v u):handedIn u=true:=by
 cases v with
 |non=>cases(show u=Value.none from r);rfl
 |bl b=>cases(show u=Value.bool b from r);rfl
 |int i=>let#[t,e]:=(show ∃t,u=Value.int i t from r);cases e;rfl
 |str x=>let#[t,e]:=(show ∃t,u=Value.str x t from r);cases e;rfl
 |byt b=>let#[t,e]:=(show ∃t,u=Value.bytes b t from r);cases e;rfl
 |flt b=>let#[t,e]:=(show ∃t,u=Value.float b t from r);cases e;rfl
 |ref a=>cases(show u=Value.ref a from r);rfl
 |ty n=>cases(show u=Value.type n from r);rfl
section
variable{P:tp}{w:By}{H H':Hp}{h h':Heap}{a C dx:Addr}{fs fs':List (Str×V)}
theorem ny(F:j7 P w H h)(e:H a=some (.ins C dx fs)):∃mA,yN h a dx C mA/\(∀f,gM (fs.lookup f) (mA f))/\Uy mA (fs.map (·.1))/\fs.length<=1000/\H dx=some (.own a):=by
 let#[d,z,ne,G,mA,n,r,q]:=(show bU P w H h a (.ins C dx fs)from F a _ e);show#[mA,#[G,n,ne],r,q,z,d]
end
structure qI(K:DD)(C:Addr):Prop where
 pg:Vv K C Str.empty=true
 hd:V6 K C=true
 po:plainOver K C=true
 sa:OA K (.ref C) "__setattr__" = some (some (.builtin "object.__setattr__"))
theorem qI.get{K:DD}{C:Addr}(c:qI K C)(f:Str):Vv K C f=true:=c.pg
def dv(K:DD)(C:Addr)(f:Str):Prop:=OA K (.ref C) f=some none
theorem dv.Kd{K:DD}{C:Addr}{f:Str}(n:dv K C f):takerIn K C f=some none:=by
 unfold takerIn;rw[show OA K (.ref C) f=some none from n];rfl
structure Meth(K:DD)(C:Addr)(m:Str)(f:Addr):Prop where
 at_:OA K (.ref C) m=some (some (.ref f))
 fn:isFn K (.ref f)=true
 kp:RZ K (.ref f)=true
section
variable{X:Cx}{pins:WB}{σ:St}{H:Hp}{s:oR}{a C dx:Addr}{fs:List (Str×V)}{f:Str}{v:V}{A:L5}{E:WC}
theorem oY{b:Bool}{Q:WC}(I: ~~~H s)(e:H a=some (.ins C dx fs))(c:qI X.K C)(n:dv X.K C f)(l:fs.lookup f=some v)
  (h:∀u s',~~~H s'->RelV v u->Q u s'):wpAny (model X.prog X.w) A (getAttr (.ref a) f b) Q E s:=by
 let#[mA,O,r,_,_,_]:=ny I.bJ e;let#[u,F,z]:=gM.some_of (v:=v) (o:=mA f) (by rw[<-l];show r f);show get_map I.jL O (c.get f) c.hd n F (zS z) (h u _ (I.tok _) z)
theorem ir{m:Str}{g:Addr}{pl:Sem Bool}{Q:Value×List Value->oR->Prop}(I: ~~~H s)(e:H a=some (.ins C dx fs))(c:qI X.K C)(k:Meth X.K C m g)(l:fs.lookup m=none)
  (h:Q (.ref g,[.ref a]) s):wpAny (model X.prog X.w) A (Ri (.ref a) m pl) Q E s:=by
 let#[mA,O,r,_,_,_]:=ny I.bJ e;let z:mA m=none:=gM.none_of (by rw[<-l];show r m);show Bl I.jL O (c.get m) k.at_ k.fn z h
theorem pR{y:V}{u:Value}{Q:Unit->oR->Prop}(I: ~~~H s)(e:H a=some (.ins C dx fs))(c:qI X.K C)(n:dv X.K C f)(Y:fs.length<1000)(S:RelV y u)
  (h:∀s',~~~(upd H a (.ins C dx (bu f y fs))) s'->Q () s'):wpAny (model X.prog X.w) A (setAttr (.ref a) f u) Q E s:=by
 let#[mA,O,r,wi,_,G]:=ny I.bJ e;let N:(fs.map (·.1)).length<=sizeLine:=(by rw[qi,vl];omega);show Fg I.jL O c.sa c.po n.Kd c.hd wi N λh' F R=>h _ ?_;let hd:∃o,h'.get? dx=some o:=let ⟨o,_,_,J,_⟩:=F.ns;#[o,J];show I.write (x:=a) (e:=dx) (by rw[e];show Pe) (.inr G) (λb q U z=>(R.2 b U).trans z) hd ?_;show#[by rw[aj O.ne];show G,?_,O.ne,F.obj,_,F.ns,λg=>?_,λg L=>?_]
 .have:=mY f y fs;omega
 .change gM ((bu f y fs).lookup g) (if g=f then some u else mA g);rw[aG];cases q:g=f
  .rw[Wy q,Wy q];show S
  .rw[Wx q,Wx q];show r g
 .by_cases q:g=f
  .rw[q];show(mf f y fs).1
  .show(mf f y fs).2 g (wi g λz=>L ?_);change(if g=f then some u else mA g)=none;rw[Wx q];show z
theorem Inv.made(I: ~~~H s): ~~~(upd (upd H s⁻¹ (.own (s⁻¹+1))) (s⁻¹+1) (.ins C s⁻¹ []))
  { s with heap:=(s.heap.push emptyDict).push (instObj C s⁻¹) }:=by
 let z:(s.heap.push emptyDict).get? s⁻¹=some emptyDict:=Heap.get?_push_size s.heap rfl;let F:((s.heap.push emptyDict).push (instObj C s⁻¹)).get? (s⁻¹+1)=some (instObj C s⁻¹):=by
  have:=Heap.get?_push_size (s.heap.push emptyDict) (o:=instObj C s⁻¹) rfl
  rwa [Heap.size_push]at this
 let G:(s.heap.push emptyDict).Ns s⁻¹ (λ_=>none):=#[emptyDict, ([].toArray),_,z,rfl,(λe N=>absurd N (by simp)),λ_=>rfl];let J:=I.laid (a:=s⁻¹) (o:=.own (s⁻¹+1)) (h':=s.heap.push emptyDict) (t':=s.toks) (λb u q=>Heap.get?_push_of_some _ q) (t7 _) #[_,z];show J.laid (a:=s⁻¹+1) (o:=.ins C s⁻¹ []) (t':=s.toks) (λb u q=>Heap.get?_push_of_some _ q) (UE (Heap.size_push _ _)) ?_;let ne:s⁻¹≠s⁻¹+1:=Ou (Q4 _);show#[by rw[aj ne,ae],Oc _,ne,F,λ_=>none,(Heap.Ns1.of_empty G).at λo q=>Heap.get?_push_of_some _ q,λ_=>Pe,λy L=>absurd rfl L]
theorem E5{prog:tp}{w:By}{env:Sn}{e:Ob}{f:Str}{pos:QJ}{s:oR}{Q:WC}(F:QL e f env (eval e env)=eval e env)
  (h:wpAny (model prog w) A (eval e env) (λo z=>wpAny (model prog w) A (getAttr o f true) Q E z) E s):wpAny (model prog w) A (eval (.Attribute e f pos) env) Q E s :=
 Attribute_any_ h (by rw[arm_eval_Attribute,F])
end
inductive FV(K:DD)(ta:TE)(f:Str)(Q:VK)(x:V)(H1:Hp):Prop
 |mk(a:_)(C:_)(dx:_)(fs:_)(v:_)(_:x=.ref a)(_:H1 a=some (.ins C dx fs))(_:qI K C)(_:dv K C f)(_:fs.lookup f=some v)(_:Q v H1)
def EU(K:DD)(ta:TE)(f:Str):TE:=λσ H Q=>ta σ H λx H1=>FV K ta f Q x H1
def LD(K:DD)(ta tv:TE)(f:Str):TS:=λD σ H=>tv σ H λy H1=>ta σ H1 λx H2=>Li λa C dx fs=>Em (x=.ref a) (H2 a=some (.ins C dx fs)) (qI K C) (dv K C f) (fs.length<1000) (D.nx σ (upd H2 a (.ins C dx (bu f y fs))))
def Jl(X:Cx)(z:UB)(rd:V->V->Hp->VK->Prop):Prop :=
 ∀(pins:WB)(s:oR)(σ:St)(H:Hp)(x y:V)(u v:Value)(Q:VK),~~~H s->RelV x u->RelV y v->rd x y H Q->↑(inplaceOp z u v) (EP X pins σ Q) X.xe s
def Ez(K:DD)(ta tv:TE)(rd:V->V->Hp->VK->Prop)(f:Str):TS:=λD σ H=>ta σ H λx H1=>Es λa C dx fs v=>Em (x=.ref a) (H1 a=some (.ins C dx fs)) (qI K C) (dv K C f) (fs.lookup f=some v) (tv σ H1 λy H2=>rd v y H2 λz F=>∃G fs',F a=some (.ins C G fs')/\fs'.length<1000/\D.nx σ (upd F a (.ins C G (bu f z fs'))))
section
variable{X:Cx}{o e value:Ob}{f:Str}{pos pos' tpos:QJ}{ta tv:TE}
theorem aH(G:PE X e ta)(O:QL e f X.env (eval e X.env)=eval e X.env):PE X (.Attribute e f pos) (EU X.K ta f):=by
 intros Q I h;show E5 O (bR (G pins s σ H _ I h) λu s1 N=>?_);let#[x,H1,F,R,a,C,dx,fs,v,ex,J,c,n,l,q]:=N;subst ex;obtain rfl:u=Value.ref a:=R;show oY F J c n l λS s2 z L=>#[v,H1,z,L,q]
theorem gq(G:PE X o ta)(Y:PE X value tv)(hs:Rh value (some (.Attribute o f pos')) pos.line X.env=pure false):PS X (.Assign [.Attribute o f pos'] value pos) (LD X.K ta tv f):=by
 intros D I h;show plainObj_wpAny_Assign_Attribute (bR (Y pins s σ H _ I h) λu s1 U=>?_) hs;let#[y,H1,S,N,q]:=U;show bR (G pins s1 σ H1 _ S q) λov s2 F=>?_;let#[x,H2,z,R,a,C,dx,fs,ex,J,c,n,l,O]:=F;subst ex;obtain rfl:ov=Value.ref a:=R;show pR z J c n l N λs3 L=>#[σ,_,L,O]
theorem AJ{F:UB}{rd:V->V->Hp->VK->Prop}(O:PE X o ta)(hv:PE X value tv)(ac:Jl X F rd):PS X (.AugAssign (.Attribute o f tpos) F value pos) (Ez X.K ta tv rd f):=by
 intros D I h;show wpAny_AugAssign_AttributeAny (bR (O pins s σ H _ I h) λov s1 J=>?_);let#[x,H1,I1,rx,a,C,dx,fs,v,ex,U,c,n,l,q]:=J;subst ex;obtain rfl:ov=Value.ref a:=rx;show oY I1 U c n l λu s2 G ru=>bR (hv pins s2 σ H1 _ G q) λR s3 N=>?_;let#[y,H2,I3,ry,q3]:=N;show bR (ac pins s3 σ H2 v y u R _ I3 ru ry q3) λw4 s4 ab=>?_;let#[z,H3,I4,L,ad,fs',Y,l',q4]:=ab;show pR I4 Y c n l' L λs5 S=>#[σ,_,S,q4]
inductive K0(x:V)(y:V)(H:Hp)(Q:VK):Prop
 |mk(i:_)(j:_)(_:x=.int i)(_:y=.int j)(_:Q (.int (i+j)) H)
theorem IM:Jl X .Add K0:=by
 rintro pins s σ H x y u v Q I F z ⟨i,j,rfl,rfl,q⟩;let#[t,rfl]:=(show ∃t,u=Value.int i t from F);let#[t',rfl]:=(show ∃t',v=Value.int j t' from z);show Vo #[.int (i+j),H,I.tok _,#[0],q]
variable{pins:WB}{σ:St}{H:Hp}{s:oR}{A:L5}{E:WC}{Q:WC}{c:Value}{b:Bool}
inductive kR(K:DD)(H:Hp):V->Value->Prop where
 |non:kR K H .non (.type "NoneType")
 |bl(x:Bool):kR K H (.bl x) (.type "bool")
 |int(i:Int):kR K H (.int i) (.type "int")
 |str(x:Str):kR K H (.str x) (.type "str")
 |flt(x:UInt64):kR K H (.flt x) (.type "float")
 |lst {a:Addr}{xs:List V}(e:H a=some (.lst xs)):kR K H (.ref a) (.type "list")
 |frz {a:Addr}{o:Obj}{xs:List V}(e:H a=some (.frz o (.lst xs))):kR K H (.ref a) (.type "list")
 |tup {a:Addr}{xs:List V}(e:H a=some (.tup xs)):kR K H (.ref a) (.type "tuple")
 |dK {a:Addr}{kvs:List (Key×V)}(e:H a=some (.dK kvs)):kR K H (.ref a) (.type "dict")
 |dT {a:Addr}{kvs:List (List Key×V)}(e:H a=some (.dT kvs)):kR K H (.ref a) (.type "dict")
 |ins {a C dx:Addr}{fs:List (Str×V)}(e:H a=some (.ins C dx fs)) (cl:qI K C) (ha:OA K (.ref C) "__class__" = some (some (.builtin "object.__class__")))
   (hn:RO K (.builtin "object.__class__") "__get__" = some (some (.builtin "getset_descriptor.__get__"))) (htk:Tn K (.builtin "object.__class__")=some true)
   (hm:To K C (.type "object")=some true):kR K H (.ref a) (.ref C)
theorem Av{x:V}{u t:Value}(I: ~~~H s)(G:RelV x u)(ty:kR X.K H x t)(e:PM X.K t c=some b)(h:∀tk,Q (.bool b) { s with toks:=tk }) :
  wpAny (model X.prog X.w) A (call (.builtin "isinstance") [u,c]) Q E s:=by
 cases ty with
 |non=>cases(show u=Value.none from G);show QS PySem.W.kitx_none I.jL Pe e (λz=>nomatch z) h
 |bl y=>cases(show u=Value.bool y from G);show QS PySem.W.kitx_bool I.jL Pe e (λz=>nomatch z) h
 |int i=>let#[t,q]:=(show ∃t,u=Value.int i t from G);cases q;show QS PySem.W.kitx_int I.jL Pe e (λz=>nomatch z) h
 |str y=>let#[t,q]:=(show ∃t,u=Value.str y t from G);cases q;show QS PySem.W.kitx_str I.jL Pe e (λz=>nomatch z) h
 |flt y=>let#[t,q]:=(show ∃t,u=Value.float y t from G);cases q;show QS PySem.W.kitx_float I.jL Pe e (λz=>nomatch z) h
 | @lst a xs F =>
  cases(show u=Value.ref a from G);let#[_,_,n,_,h1]:=(show bU X.prog X.w H s.heap a (.lst xs)from I.bJ a _ F);show QS kitx_list I.jL #[_,h1,rfl] e (λz=>nomatch z) h
 | @frz a N xs F =>
  cases(show u=Value.ref a from G);let#[_,_,_,n,_,h1]:=(show bU X.prog X.w H s.heap a (.frz N (.lst xs))from I.bJ a _ F);show QS kitx_list I.jL #[_,h1,rfl] e (λz=>nomatch z) h
 | @tup a xs F =>
  cases(show u=Value.ref a from G);let#[_,_,_,p]:=(show bU X.prog X.w H s.heap a (.tup xs)from I.bJ a _ F);let#[o,h1,h2,_]:=p;show QS kitx_tuple I.jL #[o,h1,h2] e (λz=>nomatch z) h
 | @dK a kvs F =>
  cases(show u=Value.ref a from G);let#[_,_,vs,_,p]:=(show bU X.prog X.w H s.heap a (.dK kvs)from I.bJ a _ F);let#[o,es,ep,h1,h2,_]:=p;show QS kitx_dict I.jL #[o,h1,h2.1] e (λz=>nomatch z) h
 | @dT a kvs F =>
  cases(show u=Value.ref a from G);let#[_,_,xs,_,o,es,ep,h1,h2,_]:=(show bU X.prog X.w H s.heap a (.dT kvs)from I.bJ a _ F);show QS kitx_dict I.jL #[o,h1,h2.1] e (λz=>nomatch z) h
 | @ins a C dx fs F cl L U R S =>
  cases(show u=Value.ref a from G);let#[mA,O,_]:=ny I.bJ F;let#[od,J,_]:=O.look;show QS (PySem.W.kitx_own (cl.get _) cl.hd L U R S) I.jL J e (λz=>nomatch z) h
end
structure cW(k:Nat)(A:L5):Prop where
 hd:A.handled=none
 dp:A.depth+3*k+5<Tz
 un:A.units+16*k+200<P0
theorem cW.mono{j k:Nat}{A:L5}(r:cW k A)(h:j<=k):cW j A:=#[r.hd,by have:=r.dp;omega,by have:=r.un;omega]
theorem cW.deeper{k:Nat}{A:L5}(r:cW (k+1) A)(env:Sn):cW k (A.deeper env):=
 #[r.hd,by have:=r.dp;change A.depth+1+3*k+5<_;omega,by have:=r.un;change A.units+3+16*k+200<_;omega]
theorem yz{A:L5}{C:Addr}{us:WH}{z:List (Str×Value)}:(A.under (.builtin "type.__call__" #[.ref C::us,z])).depth=A.depth+1:=by
 first|rfl|simp[UG,Code.weight,Code.isCreation,Code.isGuard,Code.isCaller,Wm,UH,guardIds]
theorem yI{A:L5}{C:Addr}{us:WH}{z:List (Str×Value)}:(A.under (.builtin "type.__call__" #[.ref C::us,z])).units=A.units+1:=by
 first|rfl|simp[UG,Code.cUnits,Wm,UH]
theorem cW.make{k:Nat}{A:L5}(r:cW (k+1) A)(C:Addr)(us:WH)(z:List (Str×Value)):cW k (A.under (.builtin "type.__call__" #[.ref C::us,z])):=
 #[r.hd,by have:=r.dp;rw[yz];omega,by have:=r.un;rw[yI];omega]
theorem cW.depth{k:Nat}{A:L5}(r:cW k A):A.depth<Tz:=by have:=r.dp;omega
theorem cW.units{k:Nat}{A:L5}(r:cW k A):A.units+64<P0:=by have:=r.un;omega
theorem cW.gj{k:Nat}{A:L5}(r:cW k A):A.units<P0:=by have:=r.un;omega
def Eu:TA:=λ_ H Q=>Q [] H
def La(ta:TE)(z:TA):TA:=λσ H Q=>ta σ H λx H1=>z σ H1 λxs H2=>Q (x::xs) H2
section
variable{X:Cx}{e:Ob}{es:List Ob}{te:TE}{t:TA}{pos:QJ}
theorem ag:PA X [] Eu:=λ_ _ _ _ H Q I h=>Calls.spliced_nil #[[],H,I,.nil,h]
theorem aa(N:PE X e te)(O:PA X es t)(hs:starEach (e::es) X.env=(false,eval e X.env)::starEach es X.env:=by rfl):PA X (e::es) (La te t):=by
 intro pos pins s σ H Q I h;rw[hs];change wpAny _ _ (Vn ((false,eval e X.env)::backTo pos (starEach es X.env))) _ _ s;show Calls.spliced_cons (bR (N pins s σ H _ I h) λu s1 S=>?_);let#[x,H1,F,J,L]:=S;show bR (O pos pins s1 σ H1 _ F L) λus s2 R=>by let#[xs,H2,z,G,U]:=R;show#[x::xs,H2,z,.cons J G,U]
def Mh(t:TA):TE:=λσ H Q=>t σ H λxs H1=>xs.length<=sizeLine/\∀p,H1 p=none->Q (.ref p) (upd H1 p (.tup xs))
def M7(t:TA):TE:=λσ H Q=>t σ H λxs H1=>xs.length<=sizeLine/\∀p,H1 p=none->Q (.ref p) (upd H1 p (.lst xs))
theorem cI{x1}(h:PA X es t):PE X (.Tuple es x1 pos) (Mh t):=by
 intros Q I G;show wpAny_Tuple_spliced (bR (h pos pins s σ H _ I G) λus s1 J=>?_);let#[xs,H1,F,r,z,q]:=J;show#[by rw[<-r.length];show z,?_];let L:H1 s1⁻¹=none:=F.bJ.fresh (t7 _);show#[.ref s1⁻¹,upd H1 s1⁻¹ (.tup xs),F.laid (t':=s1.toks) (λb u e=>Heap.get?_push_of_some _ e) (t7 _) ?_,rfl,q _ L];show#[z,us,r,#[_,Heap.get?_push_size _ rfl,rfl,0]]
theorem bE(h:PA X es t):PE X (.List es pos) (M7 t):=by
 intros Q I G;show wpAny_List_spliced (bR (h pos pins s σ H _ I G) λus s1 J=>?_);let#[xs,H1,F,r,z,q]:=J;show#[by rw[<-r.length];show z,?_];let L:H1 s1⁻¹=none:=F.bJ.fresh (t7 _);show#[.ref s1⁻¹,upd H1 s1⁻¹ (.lst xs),F.laid (t':=s1.toks) (λb u e=>Heap.get?_push_of_some _ e) (t7 _) ?_,rfl,q _ L];show#[z,us,(0),r,Heap.get?_push_size _ rfl]
end
abbrev Sp:=List V->Hp->VK->XK->Prop
abbrev qP:=List Sn->Hp->oR->XK->Value->oR->Prop
structure tH(P:tp)(w:By)(K:DD)(mg:WD)(base:Heap)(A:L5)(outer:List Sn)(s:oR)(H:Hp):Prop where
 frames:A.frames=some outer
 mod:Mod K mg base
 bs:∀b o,base.get? b=some o->s.heap.get? b=some o/\H b=none
 Bc:base.objs.size<=s⁻¹
 jZ:s.heap.FunFrames base outer
 Eo:∀b∈qE outer,H b=none
 bJ:j7 P w H s.heap
 bare:RN s.gens
def CE(outer:List Sn)(P:tp)(w:By)(H:Hp)(s:oR)(Q:VK)(u:Value)(s':oR):Prop :=
 ∃v H',s'.os=s.os/\RN s'.gens/\Un (qE outer) [] H H' s.heap s'.heap/\j7 P w H' s'.heap/\RelV v u/\Q v H'
def CR(CX:qP)(outer:List Sn)(P:tp)(w:By)(H:Hp)(s:oR)(Q:VK)(E:XK)(r:Vx)(s':oR):Prop :=
 match r with
 |.ok (.ret u)=>CE outer P w H s Q u s'
 |.ok _=>False
 |.error e=>CX outer H s E e s'
structure aN(P:tp)(w:By)(K:DD)(mg:WD)(base:Heap)(CX:qP)(k:Nat)(f:Addr)(fd:qw)(ps:List Str)(sp:Sp):Prop where
 len:∀vs H Q E,sp vs H Q E->vs.length=ps.length
 run:∀(A:L5)(outer:List Sn)(s:oR)(H:Hp)(args:Args)(us:WH)(vs:List V)(Q:VK)(E:XK),cW k A->tH P w K mg base A outer s H->Ua s fd args (ps.zip us)->Vals vs us->sp vs H Q E ->
  QA (model P w) A (.call (.ref f) args) (CR CX outer P w H s Q E) s
theorem aN.mono{P:tp}{w:By}{K:DD}{mg:WD}{base:Heap}{CX:qP}{j k:Nat}{f:Addr}{fd:qw}{ps:List Str}{sp:Sp}(F:aN P w K mg base CX j f fd ps sp)(h:j<=k) :
  aN P w K mg base CX k f fd ps sp:=#[F.len,λA outer s H args us vs Q E z=>F.run A outer s H args us vs Q E (z.mono h)]
theorem tH.make{P:tp}{w:By}{K:DD}{mg:WD}{base:Heap}{A:L5}{outer:List Sn}{s:oR}{H:Hp}(e:tH P w K mg base A outer s H)(C:Addr)(us:WH)(z:List (Str×Value)) :
  tH P w K mg base (A.under (.builtin "type.__call__" #[.ref C::us,z])) outer s H:=#[by first|show e.frames|(simpa[UG,Code.envs,UH,pushEnvs]using e.frames),e.mod,e.bs,e.Bc,e.jZ,e.Eo,e.bJ,e.bare]
section
variable{X:Cx}{pins:WB}{σ:St}{H:Hp}{s s':oR}
theorem Inv.Fb(I: ~~~H s):tH X.prog X.w X.K X.mg X.base X.A X.stack s H :=
 #[I.ok.frames,I.ok.mod,I.bs,le_trans I.ok.Bc I.sz,I.stack,I.uC,I.bJ,I.bare]
theorem Inv.after{Q:VK}{u:Value}(I: ~~~H s)(h:CE X.stack X.prog X.w H s Q u s'):EP X pins σ Q u s':=by
 let#[v,H',os,bare,un,F,r,q]:=h;let#[G,g,d,t,J]:=s';obtain rfl:J=s.os:=os;show#[v,H',I.call (h':=G) (g':=g) (d':=d) (t':=t) (ch:=[]) un F bare (λb z=>absurd z (by simp)),r,q]
end
def Dx(sp:Sp)(dvs:List V)(E:XK)(t:TA):TE:=λσ H Q=>t σ H λvs H1=>sp (vs++dvs) H1 Q E
inductive Bn(C:Addr)(m:Str)(sp:Sp)(dvs:List V)(E:XK)(ta:TE)(t:TA)(σ:St)(Q:VK)(x:V)(H1:Hp):Prop
 |mk (a:_) (dx:_) (fs:_) (_:x=.ref a) (_:H1 a=some (.ins C dx fs)) (_:fs.lookup m=none) (_:t σ H1 λvs H2=>sp (x::(vs++dvs)) H2 Q E):Bn C m sp dvs E ta t σ Q x H1
def zh(C:Addr)(m:Str)(sp:Sp)(dvs:List V)(E:XK)(ta:TE)(t:TA):TE:=λσ H Q=>ta σ H λx H1=>Bn C m sp dvs E ta t σ Q x H1
def FP(C:Addr)(sp:Sp)(dvs:List V)(E:XK)(t:TA):TE:=λσ H Q=>t σ H λvs H1=>∀x dx,H1 x=none->H1 dx=none->dx≠x ->
 sp (.ref x::(vs++dvs)) (upd (upd H1 dx (.own x)) x (.ins C dx [])) (λv H2=>v=.non/\Q (.ref x) H2) E
def Binds(K:DD)(fd:qw)(ps:List Str)(ds:WH):Prop :=
 ∀(s:oR)(us:WH),K.In s.heap->(us++ds).length=ps.length->Ua s fd #[us,[]] (ps.zip (us++ds))
theorem Binds.all{K:DD}{fd:qw}{ps:List Str}(h:∀us:List Value,us.length=ps.length->Vy fd #[us,[]]=pure (ps.zip us)):Binds K fd ps []:=λs us _ z=>by
 rw[QU]at z ⊢;show .of_eq (h us z)
def Passes(CX:qP)(X:Cx)(E:XK):Prop:=∀(pins:WB)(σ:St)(H:Hp)(s:oR)(e:Value)(s':oR),~~~H s->CX X.stack H s E e s'->X.xe e s'
section
variable{X:Cx}{CX:qP}{k:Nat}{f C:Addr}{fd:qw}{ps:List Str}{sp:Sp}{dvs:List V}{ds:WH}{E:XK}{x m:Str}{p pos apos:QJ}{e o:Ob}{es:List Ob}{ta:TE}{t:TA}
theorem yo{pins:WB}{σ:St}{H:Hp}{s:oR}{Q:VK}{us:WH}{vs:List V}(F:aN X.prog X.w X.K X.mg X.base CX k f fd ps sp)(J:cW k X.A)(N:Binds X.K fd ps ds)(hd:Vals dvs ds)(hx:Passes CX X E)
  (I: ~~~H s) (r:Vals vs us) (h:sp (vs++dvs) H Q E):↑(call (.ref f) us) (EP X pins σ Q) X.xe s:=by
 let G:Vals (vs++dvs) (us++ds):=r.append hd;let L:(us++ds).length=ps.length:=(by rw[<-G.length];show F.len _ _ _ _ h);show Rj (QB (F.run X.A X.stack s H #[us,[]] (us++ds) (vs++dvs) Q E J I.Fb (N s us I.jL L) G h) λr s' z=>?_);cases r with
 |error e=>show hx pins σ H s e s' I z
 |ok O =>
  cases O with
  |ret u=>show I.after z
  |next=>show Ov z
  |brk=>show Ov z
  |cont=>show Ov z
theorem f6(F:aN X.prog X.w X.K X.mg X.base CX k f fd ps sp)(S:cW k X.A)(L:Gl X x)(U:X.mg x=some (.ref f))(N:RZ X.K (.ref f)=true)(Y:Binds X.K fd ps ds)(hd:Vals dvs ds)(hx:Passes CX X E)
  (O:PA X (e::es) t) (G:(x==("__debug__" : Str))=false:=by decide) (he:starEach (e::es) X.env=(false,eval e X.env)::starEach es X.env:=by rfl) (J:(backTo pos (starEach es X.env)).any (·.1)=false:=by rfl) :
  PE X (.Call (.Name x p) (e::es) [] pos) (Dx sp dvs E t):=by
 intros Q I h;show Pf (gI I L U ?_ G);show Rk (h₀:=X.base) I.ok.mod.Dr N (bR (O pos pins s σ H _ I h) λus s1 R=>?_) he J;let#[vs,H1,z,r,q]:=R;show#[z.jL,?_];show yo F S Y hd hx z r q
theorem E1{pl:Sem Bool}(N:PE X o ta)(c:qI X.K C)(J:Meth X.K C m f)(F:aN X.prog X.w X.K X.mg X.base CX k f fd ps sp)(U:cW k X.A)(hb:Binds X.K fd ps ds)(hd:Vals dvs ds)(hx:Passes CX X E)(O:PA X (e::es) t)
  (ac:starEach (e::es) X.env=(false,eval e X.env)::starEach es X.env:=by rfl) (L:(backTo pos (starEach es X.env)).any (·.1)=false:=by rfl)
  (R:eval (.Call (.Attribute o m apos) (e::es) [] pos) X.env=(do
   let ov <-eval o X.env
   SV apos.atName
   let (f,first) <-Q2 [ov] (Ri ov m pl)
   TB pos f first (backTo pos (starEach (e::es) X.env)) (Ry pos (Qe [] X.env))):=by rfl) :
  PE X (.Call (.Attribute o m apos) (e::es) [] pos) (zh C m sp dvs E ta t):=by
 intros Q I h;show SF (pl:=pl) (bR (N pins s σ H _ I h) λu s1 S=>?_) R;let#[x,H1,G,rx,a,dx,fs,ex,Y,l,q]:=S;subst ex;obtain rfl:u=Value.ref a:=rx;show ir G Y c J l ?_;show Rk (first:=[.ref a]) (h₀:=X.base) I.ok.mod.Dr J.kp (bR (O pos pins s1 σ H1 _ G q) λus s2 ab=>?_) ac L;let#[vs,H2,z,r,q2]:=ab;show#[z.jL,?_];show yo (us:=.ref a::us) (vs:=.ref a::vs) F U hb hd hx z (.cons rfl r) q2
theorem Dp{pl:Sem Bool}(U:PE X o ta)(c:qI X.K C)(G:Meth X.K C m f)(F:aN X.prog X.w X.K X.mg X.base CX k f fd ps sp)(N:cW k X.A)(R:Binds X.K fd ps ds)(hd:Vals dvs ds)(hx:Passes CX X E)
  (L:eval (.Call (.Attribute o m apos) [] [] pos) X.env=(do
   let ov <-eval o X.env
   SV apos.atName
   let (f,first) <-Q2 [ov] (Ri ov m pl)
   TB pos f first (backTo pos (starEach [] X.env)) (Ry pos (Qe [] X.env))):=by rfl) :
  PE X (.Call (.Attribute o m apos) [] [] pos) (zh C m sp dvs E ta Eu):=by
 intros Q I h;show SF (pl:=pl) (bR (U pins s σ H _ I h) λu s1 J=>?_) L;let#[x,H1,z,S,a,dx,fs,ex,O,l,q]:=J;subst ex;obtain rfl:u=Value.ref a:=S;show ir z O c G l ?_;show callWith_K0 (first:=[.ref a]) z.jL G.kp (yo (us:=[.ref a]) (vs:=[.ref a]) F N R hd hx z (.cons rfl .nil) q)
structure Mk(K:DD)(C f:Addr):Prop where
 makes:makesIn K C=true
 init:OA K (.ref C) "__init__" = some (some (.ref f))
 fn:isFn K (.ref f)=true
 kp:RZ K (.ref C)=true
theorem vU{pins:WB}{σ:St}{H:Hp}{s:oR}{Q:VK}{us:WH}{vs:List V}(M:Mk X.K C f)(F:aN X.prog X.w X.K X.mg X.base CX k f fd ps sp)(U:cW (k+1) X.A)(hb:Binds X.K fd ps ds)(hd:Vals dvs ds)
  (hx:Passes CX X E) (I: ~~~H s) (r:Vals vs us)
  (h:∀x dx,H x=none->H dx=none->dx≠x->sp (.ref x::(vs++dvs)) (upd (upd H dx (.own x)) x (.ins C dx [])) (λv H2=>v=.non/\Q (.ref x) H2) E) :
  ↑(call (.ref C) us) (EP X pins σ Q) X.xe s:=by
 let J:=h (s⁻¹+1) s⁻¹ (I.bJ.fresh (QT _)) (I.bJ.fresh (t7 _)) (Ou (Q4 _));let G:=Inv.made (C:=C) I;let L:Vals (V.ref (s⁻¹+1)::(vs++dvs)) (Value.ref (s⁻¹+1)::(us++ds)):=.cons rfl (r.append hd);let R:(Value.ref (s⁻¹+1)::us++ds).length=ps.length:=by
  let e:=L.length;rw[F.len _ _ _ _ J]at e;show e.symm
 show Rj (D4 (f:=f) I.jL M.makes M.init (beq_iff_eq.mp M.fn) (QB (F.run _ X.stack _ _ #[Value.ref (s⁻¹+1)::us,[]] (Value.ref (s⁻¹+1)::(us++ds)) _ _ E (U.make C us [])
  (G.Fb.make C us []) (hb _ (Value.ref (s⁻¹+1)::us) G.jL R) L J) λr s' z=>?_))
 cases r with
 |error e=>show hx pins σ _ _ e s' G z
 |ok O =>
  cases O with
  |ret u =>
   let#[v,H',Y,S,N,q3]:=G.after z;subst N;show#[S,#[V.ref (s⁻¹+1),H',Y,rfl,q3]]
  |next=>show Ov z
  |brk=>show Ov z
  |cont=>show Ov z
theorem ou(M:Mk X.K C f)(F:aN X.prog X.w X.K X.mg X.base CX k f fd ps sp)(R:cW (k+1) X.A)(L:Gl X x)(S:X.mg x=some (.ref C))(U:Binds X.K fd ps ds)(hd:Vals dvs ds)(hx:Passes CX X E)
  (O:PA X (e::es) t) (G:(x==("__debug__" : Str))=false:=by decide) (Y:starEach (e::es) X.env=(false,eval e X.env)::starEach es X.env:=by rfl) (J:(backTo pos (starEach es X.env)).any (·.1)=false:=by rfl) :
  PE X (.Call (.Name x p) (e::es) [] pos) (FP C sp dvs E t):=by
 intros Q I h;show Pf (gI I L S ?_ G);show Rk (h₀:=X.base) I.ok.mod.Dr M.kp (bR (O pos pins s σ H _ I h) λus s1 N=>?_) Y J;let#[vs,H1,z,r,q]:=N;show#[z.jL,?_];show vU M F R U hd hx z r q
theorem vj(M:Mk X.K C f)(F:aN X.prog X.w X.K X.mg X.base CX k f fd ps sp)(G:cW (k+1) X.A)(N:Gl X x)(J:X.mg x=some (.ref C))(L:Binds X.K fd ps ds)(hd:Vals dvs ds)(hx:Passes CX X E)
  (z:(x==("__debug__" : Str))=false:=by decide):PE X (.Call (.Name x p) [] [] pos) (FP C sp dvs E Eu):=by
 intros Q I h;show Pf (gI I N J ?_ z);show callWith_K0 I.jL M.kp (vU (us:=[]) M F G L hd hx I .nil h)
variable{ks:List Str}{kpos:QJ}{kws:List Ub}{te:TE}{tk:TA}{nm:Option Str}
variable{g:List Value->List Value->List Value}{gV:List V->List V->List V}
end
structure aA(N P:List Str)(sc:Rw):Prop where
 kind:sc.kind=.function
 co:sc.isCoroutine=false
 gen:sc.isGenerator=false
 nd:N.Nodup
 pre:N.take P.length=P
 par:∀x∈P,sc.names.lookup x=some .local\/sc.names.lookup x=some .cell
 Ic:∀y∈sc.names,y.2≠.free
theorem bC{N P:List Str}{z:Rw}(a:z.kind=.function:=by exact rfl)(b:z.isCoroutine=false:=by exact rfl)(c:z.isGenerator=false:=by exact rfl)(d:N.Nodup:=by decide +kernel)(e:N.take P.length=P:=by exact rfl)(f:∀x∈P,z.names.lookup x=some .local\/z.names.lookup x=some .cell:=by decide +kernel)(g:∀y∈z.names,y.2≠.free:=by decide +kernel):aA N P z:=#[a,b,c,d,e,f,g]
theorem qU{kindOf:Str->Option NameKind}{x:Str}:∀{binds:List (Str×Value)}{m:WD},(∀v,(x,v)∉binds)->Vz kindOf binds m x=m x
 | [],_,_=>rfl
 |(n,v)::r,m,h=>by
  unfold Vz;rw[qU λw z=>h w (Oq _ z)];split
  .have:x≠n:=(by rintro rfl;show h v Oi);simp[this]
  .rfl
theorem qZ{kindOf:Str->Option NameKind}{x:Str}:∀{binds:List (Str×Value)}{m:WD},(∀v,(x,v)∉binds)->VA kindOf binds m x=m x
 | [],_,_=>rfl
 |(n,v)::r,m,h=>by
  unfold VA;rw[qZ λw z=>h w (Oq _ z)];split
  .rfl
  .have:x≠n:=(by rintro rfl;show h v Oi);simp[this]
theorem rV{kindOf:Str->Option NameKind}{x:Str}{v:Value}:∀{P:List Str}{vs:WH}{i:Nat}{m:WD},P.Nodup->P[i]?=some x->vs[i]?=some v->kindOf x=some .local ->
  Vz kindOf (P.zip vs) m x=some v
 | [],_,_,_,_,h,_,_=>by simp at h
 |_::_,[],_,_,_,_,h,_=>by simp at h
 |p::P,w::vs,0,m,F,h1,h2,z=>by
  simp at h1 h2;subst h1;subst h2;change Vz kindOf ((p,w)::P.zip vs) m p=_;unfold Vz;rw[qU λv G=>(N6.mp F).1 (Us G).1,Wy z];simp
 |p::P,w::vs,i+1,m,F,h1,h2,z=>by
  change Vz kindOf ((p,w)::P.zip vs) m x=_;unfold Vz;show rV (i:=i) (N6.mp F).2 ‹h1› ‹h2› z
theorem rR{kindOf:Str->Option NameKind}{x:Str}{v:Value}:∀{P:List Str}{vs:WH}{i:Nat}{m:WD},P.Nodup->P[i]?=some x->vs[i]?=some v->kindOf x≠some .local ->
  VA kindOf (P.zip vs) m x=some v
 | [],_,_,_,_,h,_,_=>by simp at h
 |_::_,[],_,_,_,_,h,_=>by simp at h
 |p::P,w::vs,0,m,F,h1,h2,z=>by
  simp at h1 h2;subst h1;subst h2;change VA kindOf ((p,w)::P.zip vs) m p=_;unfold VA;rw[qZ λv G=>(N6.mp F).1 (Us G).1,Wx z];simp
 |p::P,w::vs,i+1,m,F,h1,h2,z=>by
  change VA kindOf ((p,w)::P.zip vs) m x=_;unfold VA;show rR (i:=i) (N6.mp F).2 ‹h1› ‹h2› z
def start(N:List Str)(vs:List V):St:=vs.map some++replicate (N.length-vs.length) none
def qR(CX:qP)(P:tp)(w:By)(K:DD)(mg:WD)(base:Heap)(N:List Str)(qual:Str)(scope:Rw)(f:Addr)(cd:Value)(A:L5)(outer:List Sn)(s:oR)(H:Hp)(E:XK):Cx where
 prog:=P
 w:=w
 K:=K
 mg:=mg
 base:=base
 A:=A.deeper (Rl qual scope s⁻¹ f cd)
 N:=N
 s₀:=s
 H₀:=H
 env:=Rl qual scope s⁻¹ f cd
 outer:=outer
 stack:=Rl qual scope s⁻¹ f cd::outer
 ex:=[]
 calm:=true
 fn:=λ_=>true
 pn:=[]
 xe:=λe s'=>wpAny (model P w) (A.deeper (Rl qual scope s⁻¹ f cd)) (leaving (Rl qual scope s⁻¹ f cd) e) (λ_ z=>CX outer H s E e z) (λF z=>CX outer H s E F z) s'
theorem vD{z:Rw}{n:Nat}{x:Str}(h:z.names.lookup x=some .cell):∃c,(UT n z.names []).lookup x=some c:=by
 let q:=TC z.names n [] (.inl h);show Po.mp q
theorem rH{CX:qP}{P:tp}{w:By}{K:DD}{mg:WD}{base:Heap}{N ps:List Str}{qual:Str}{scope:Rw}{f:Addr}{cd:Value}{A:L5}{outer:List Sn}{s s1:oR}{H:Hp}{E:XK}{us:WH}{vs:List V}
  (S:aA N ps scope) (hd:A.handled=none) (F:tH P w K mg base A outer s H) (hl:vs.length=ps.length) (r:Vals vs us)
  (x:InCallC s s⁻¹ (Vz (Rl qual scope s⁻¹ f cd).kindOf (ps.zip us) λ_=>none) (UT (s⁻¹+1) scope.names []) (VA (Rl qual scope s⁻¹ f cd).kindOf (ps.zip us) λ_=>none) s1) :
  Inv (qR CX P w K mg base N qual scope f cd A outer s H E) [] (start N vs) H s1:=by
 let ab:ps.length<=N.length:=(by have:=congrArg QX S.pre;rw[Oz]at this;omega);let#[h1,tk,rfl,R]:=x.done;let J:∀b:Addr,b∉(qR CX P w K mg base N qual scope f cd A outer s H E).ex:=λb z=>absurd (show b∈([]:List Addr)from z) (by simp);show#[#[F.mod,S.kind,1,t7 _,λy z c h1 h2=>?_,λy G=>?_,λy c _ h=>?_,λ_=>hd,Around.frames_deeper F.frames,.inr #[1],λb z=>absurd z (J b),F.bs,F.Bc,λb _ _=>J b,λb z=>absurd z (J b),F.jZ,F.Eo],
  rfl,F.bare,Un.kept R,#[_,x.toInCall.ns,λi y v h1 h2 h3=>?_],λy c h=>#[_,x.cell y c h],F.bJ.fresh (t7 _),λy c h=>?_,λp I=>absurd (show p∈([]:WB)from I) (by simp),F.bJ.kept R,?_]
 .show name_of_addr x.apart (O8 h1) (O8 h2)
 .let G:scope.names.lookup y=some .cell\/scope.names.lookup y=some .free:=G;rcases G with G|G
  .show vD G
  .show absurd rfl (S.Ic _ (O8 G))
 .show Vt (x.above y c (O8 h))
 .let hi:i<vs.length:=by
   unfold start at h2;cases hi:i<vs.length
   .show hi
   .rw[Pc ‹hi›]at h2;rw[List.getElem?_replicate]at h2;split at h2<;>cases h2
  let Y:vs[i]?=some v:=by
   unfold start at h2;rw[Pp ‹hi›,vu]at h2;cases e:vs[i]? with
   |none=>rwa[e]at h2
   |some a=>rwa[e]at h2;rfl
  let#[u,O,U]:=r.get Y;let I:ps[i]?=some y:=by
   rw[<-S.pre,List.getElem?_take_of_lt af];show h1
  let L:ps.Nodup:=(by rw[<-S.pre];show S.nd.sublist (QC _ _));show#[u,U,?_];rcases S.par y (vh I)with k|k
  .show .inl #[k,rV L I O k]
  .let#[c,e]:=vD (n:=s⁻¹+1) k;show .inr #[.inl k,c,e,?_];let q:=x.cell y c e;rw[rR L I O (by change scope.names.lookup y≠_;rw[k];decide)]at q;show q
 .show F.bJ.fresh (Vt (x.above y c (O8 h)))
 .unfold start;change _=N.length;rw[y3,qi,OW];omega
theorem F5{CX:qP}{P:tp}{w:By}{K:DD}{mg:WD}{base:Heap}{k:Nat}{f:Addr}{name qual:Str}{Y:Arguments}{body:List N8}{scope:Rw}{dV kV R pm z ct oc:Value}{an od:WJ}
  {aT:Array (Option Value)}{N ps:List Str}{sp:Sp}(lk:K.lookup f=some #[oc,od,.func (Wc name qual Y body scope dV kV R pm an z ct),aT]) (am:Wd K z qual=true) (S:aA N ps scope)
  (len:∀vs H Q E,sp vs H Q E->vs.length=ps.length)
  (ad:∀(A:L5)(outer:List Sn)(s:oR)(H:Hp)(vs:List V)(Q:VK)(E:XK),cW k (A.deeper (Rl qual scope s⁻¹ f z))->sp vs H Q E ->
   ∃t,wg (qR CX P w K mg base N qual scope f z A outer s H E) body t/\t { nx:=λ_ H'=>Q .non H',rt:=Q } (start N vs) H) :
  aN P w K mg base CX (k+1) f (Wc name qual Y body scope dV kV R pm an z ct) ps sp:=by
 show#[len,λA outer s H args us vs Q E O F hb r ab=>?_];let hl:=len _ _ _ _ ab;let U:K.In s.heap:=F.mod.Dr.keeps λb o e=>(F.bs b o e).1;let aB:s.heap.NoLimit:=F.mod.nolimit.keeps λb o e=>(F.bs b o e).1;let as:∀y∈ps.zip us,scope.names.lookup y.1=some .local\/(scope.names.lookup y.1=some .cell/\((UT (s⁻¹+1) scope.names []).lookup y.1).isSome=true):=λap hy=>by
  let#[n,v]:=ap;rcases S.par n (Us hy).1 with q|q
  .show .inl q
  .show .inr #[q,TC _ _ _ (.inl q)]
 show Tp O.depth (U _ _ lk) rfl S.co S.gen rfl (codeRec_of U am) (hb _ _ _ _ ?_);show R0 S.kind as λenv he s1 x=>?_;subst he;show#[aB.keeps x.toInCall.keep,codeAny_func ?_];let#[t,ht,hq]:=ad A outer s H vs Q E (O.deeper _) ab;let I:Inv (qR CX P w K mg base N qual scope f z A outer s H E) [] (start N vs) H s1:=rH S O.hd F hl r x;show Oj (ht [] s1 (start N vs) H _ I hq) (λfl s' hs=>?_) λe s' hs=>hs;let ac:∀{G:St}{H':Hp}{v:V}{u:Value},Inv (qR CX P w K mg base N qual scope f z A outer s H E) [] G H' s'->RelV v u->Q v H'->CE outer P w H s Q u s' :=
  λ{G H' v u} J L q=>#[v,H',J.os,J.bare,J.base,J.bJ,L,q]
 cases fl with
 |ret u =>
  let#[v,G,H',J,L,q]:=hs;show ac J L q
 |next =>
  let#[G,H',J,q]:=hs;show ac (v:=V.non) (u:=Value.none) J rfl q
 |brk =>
  let#[_,_,_,q]:=hs;show Ov q
 |cont =>
  let#[_,_,_,q]:=hs;show Ov q
section
variable{X:Cx}{x:Str}{p pos:QJ}{e:Ob}{es:List Ob}{t:TA}{id T:String}{r:List V->Hp->VK->Prop}
def Nt(r:List V->Hp->VK->Prop)(t:TA):TE:=λσ H Q=>t σ H λvs H1=>r vs H1 Q
theorem aO(z:eQ X (.builtin id) r)(N:Gl X x)(Y:X.mg x=none)(U:Om x=some (.builtin id))(S:PA X (e::es) t)(hn:x ≠ "__name__" := by decide)(F:(x==("__debug__" : Str))=false:=by decide)
  (he:starEach (e::es) X.env=(false,eval e X.env)::starEach es X.env:=by rfl) (G:(backTo pos (starEach es X.env)).any (·.1)=false:=by rfl):PE X (.Call (.Name x p) (e::es) [] pos) (Nt r t):=by
 intros Q I h;show Pf (iI I N Y U ?_ hn F);show PyProof.Rows.callWith_builtin1 (bR (S pos pins s σ H _ I h) λus s1 J=>by let#[vs,H1,L,O,R]:=J;show z pins s1 σ H1 vs us Q L O R) he G
theorem cJ(z:eQ X (.type T) r)(L:Gl X x)(U:X.mg x=none)(S:Om x=some (.type T))(R:PA X (e::es) t)(Y:x ≠ "__name__" := by decide)(F:(x==("__debug__" : Str))=false:=by decide)
  (he:starEach (e::es) X.env=(false,eval e X.env)::starEach es X.env:=by rfl) (G:(backTo pos (starEach es X.env)).any (·.1)=false:=by rfl):PE X (.Call (.Name x p) (e::es) [] pos) (Nt r t):=by
 intros Q I h;show Pf (iI I L U S ?_ Y F);show OH (bR (R pos pins s σ H _ I h) λus s1 ab=>by let#[vs,H1,J,N,O]:=ab;show z pins s1 σ H1 vs us Q J N O) he G
end
end L2
namespace HT
open PySem PyProof.Rows
section
open PySem.SeqAt
open PySem.AutoSeq1 (wpAny_loadPart')
open PySem.MeetsSeq PySem.MeetsSeq2 PySem.MeetsSeq3
variable{prog:tp}{w:By}{A:L5}{E:WC}{s:oR}
def uM(n d:Nat):Option Int->Nat
 |none=>d
 |some v=>if v<0 then(v+(n:Int)).toNat else min v.toNat n
theorem nD(n d k:Nat):uM n d (some (k:Int))=min k n:=by
 change(if (k:Int)<0 then((k:Int)+(n:Int)).toNat else min (k:Int).toNat n)=min k n;rw[Wx af,OY]
end
end HT
namespace L2
open PySem PySem.Spec PyProof.Rows
abbrev TO:=St->Hp->(Option Int->Hp->Prop)->Prop
def PO(X:Cx)(e:Option Ob)(t:TO):Prop :=
 ∀(pins:WB)(s:oR)(σ:St)(H:Hp)(Q:Option Int->Hp->Prop),~~~H s->t σ H Q ->
  ↑(evalPart e X.env) (λu s'=>∃o H',~~~H' s'/\IsPart u o/\Q o H') X.xe s
def ED:TO:=λ_ H Q=>Q none H
def Jz(t:TE):TO:=λσ H Q=>t σ H λx H1=>∃i,x=.int i/\Q (some i) H1
theorem intsAre_of{ns:List Int}:∀{us:WH},Vals (ns.map V.int) us->QD us ns:=by
 induction ns with
 |nil=>intro us r;rwa[map_nil]at r;show .nil
 |cons n ns G =>
  intro us r;rw[Pb]at r;cases r with
  |cons F z =>
   let#[t,e]:=F;subst e;show .cons n t (G z)
section
variable{X:Cx}{e:Ob}{te:TE}{lo hi:Option Ob}{tl th:TO}{pos p2:QJ}
theorem nQ:PO X none ED:=by
 intros Q I h;rw[evalPart_none];show wpAny_pure #[none,H,I,.none,h]
theorem gD(h:PE X e te):PO X (some e) (Jz te):=by
 intros Q I z;rw[evalPart_some];show bR (h pins s σ H _ I z) λu s1 L=>?_;let#[x,H1,F,G,J]:=L;let#[i,rfl,q]:=J;let#[t,rfl]:=G;show#[some i,H1,F,.int i t,q]
def LF(X:Cx)(r:V->Option Int->Option Int->Hp->VK->Prop):Prop :=
 ∀(pins:WB)(s:oR)(σ:St)(H:Hp)(x:V)(v z F:Value)(lo hi:Option Int)(sl:Addr)(Q:VK),~~~H s->RelV x v->s.heap.IsSliceOf sl z F .none->IsPart z lo->IsPart F hi->r x lo hi H Q ->
  ∃T id,VB (.type T) "__getitem__" = pure (some (.builtin id))/\s.TypeIs v T/\↑(T9 v (.ref sl)) (EP X pins σ Q) X.xe s
def Nv(r:V->Option Int->Option Int->Hp->VK->Prop)(te:TE)(tl th:TO):TE:=λσ H Q=>te σ H λx H1=>tl σ H1 λl H2=>th σ H2 λu z=>r x l u z Q
theorem hJ{r:V->Option Int->Option Int->Hp->VK->Prop}(U:LF X r)(N:PE X e te)(hl:PO X lo tl)(hu:PO X hi th):PE X (.Subscript e (.Slice lo hi none p2) pos) (Nv r te tl th):=by
 intros Q I h;show VC (bR (N pins s σ H _ I h) λv s1 ac=>?_);let#[x,H1,I1,r1,L]:=ac;show wpAny_Slice (bR (hl pins s1 σ H1 _ I1 L) λF s2 ad=>?_);let#[l,H2,J,pl,q2]:=ad;show bR (hu pins s2 σ H2 _ J q2) λz s3 ab=>?_;let#[u,G,I3,O,q3]:=ab;rw[evalPart_none];show wpAny_pure ?_;let I4: ~~~G { s3 with heap:=s3.heap.push { cls:=.type "slice",data:=.fields ([F,z,.none].toArray) } }:=I3.kept (t':=s3.toks) λb ob q=>Heap.get?_push_of_some _ q;let#[T,id,Y,S,R]:=U pins { s3 with heap:=s3.heap.push { cls:=.type "slice",data:=.fields ([F,z,.none].toArray) } } σ G x v F z l u s3⁻¹ Q I4 r1 (Heap.IsSliceOf.new ..) pl O q3;change ↑(Uj e (.Slice lo hi none p2) v (.ref s3⁻¹)) (EP X pins σ Q) X.xe { s3 with heap:=s3.heap.push { cls:=.type "slice",data:=.fields ([F,z,.none].toArray) } };show tail_any (ops:=[.ref s3⁻¹,v]) S Y R (by with_unfolding_all rfl)
def kG(xs:List V)(lo hi:Option Int):List V:=(xs.drop (HT.uM xs.length 0 lo)).take (HT.uM xs.length xs.length hi-HT.uM xs.length 0 lo)
theorem wm(xs:List V)(lo hi:Option Int):(kG xs lo hi).length<=xs.length:=by
 unfold kG;rw[Oz,P1];omega
end
def xk(n:Nat)(i:Int):Option Nat:=if 0<=i then(if i<n then some i.toNat else none)else if -(n:Int)<=i then some (i+n).toNat else none
def zz{α:Type}(xs:List α)(i:Int):Option α:=(xk xs.length i).bind λj=>xs[j]?
theorem zA{n:Nat}{i:Int}{j:Nat}(h:xk n i=some j):V7 i n=some j/\j<n /\ -(n:Int)<=i/\i<n:=by
 unfold xk at h;cases z:0<=i
 .rw[Wy z]at h;cases h1:i<n
  .rw[Wy h1]at h;let e:i.toNat=j:=sN h;show#[by rw[Sx z h1,e],af,af,h1]
  .rw[Wx h1]at h;cases h
 .rw[Wx z]at h;by_cases h1 : -(n:Int)<=i
  .rw[Wy h1]at h;let e:(i+n).toNat=j:=sN h;show#[by rw[seqIndex_neg af h1,e],af,h1,af]
  .rw[Wx h1]at h;cases h
theorem uu{α:Type}{xs:List α}{i:Int}{v:α}(h:zz xs i=some v):∃j,V7 i xs.length=some j/\xs[j]?=some v/\j<xs.length /\ -(xs.length:Int)<=i/\i<xs.length:=by
 unfold zz at h;cases e:xk xs.length i with
 |none=>rwa[e]at h
 |some j =>
  rw[e]at h;let#[h1,h2,z,F]:=zA e;show#[j,h1,h,h2,z,F]
theorem lq{α:Type}{xs:List α}{j:Nat}{v:α}(h:xs[j]?=some v):zz xs (j:Int)=some v:=by
 let z:j<xs.length:=(qc.mp h).1;let e:xk xs.length (j:Int)=some j:=by
  unfold xk;rw[Wy af,Wy af];simp
 unfold zz;rw[e];show h
def E7(b:Ob):Prop:=∀o i,TF b false o i=operate [o,i] (T9 o i)
def KA(X:Cx)(r:R2):Prop :=
 ∀(value z:Ob)(pins:WB)(s:oR)(σ:St)(H:Hp)(x y:V)(v u:Value)(Q:VK),~~~H s->RelV x v->RelV y u->r x y H Q ->
  TF z false v u=operate [v,u] (T9 v u)->↑(Uj value z v u) (EP X pins σ Q) X.xe s
def Nj(X:Cx)(id:String)(r:V->List V->Hp->VK->Prop):Prop :=
 ∀(pins:WB)(s:oR)(σ:St)(H:Hp)(x:V)(xs:List V)(v:Value)(us:WH)(Q:VK),~~~H s->RelV x v->Vals xs us->r x xs H Q ->
  ↑(call (.builtin id) (v::us)) (EP X pins σ Q) X.xe s
section
variable{X:Cx}{a b:Ob}{ta tb:TE}{pos:QJ}
theorem aM{r:R2}(G:KA X r)(F:PE X a ta)(L:PE X b tb)(hs:E7 b):PE X (.Subscript a b pos) (Aj r ta tb):=by
 intros Q I h;show VC (Hq F L I h λv u s2 x y H2 z N J q=>G a b pins s2 σ H2 x y v u Q z N J q (hs _ _))
inductive Cg(K:DD)(x:V)(y:V)(H:Hp)(Q:VK):Prop
 |mk(p:_)(xs:_)(i:_)(v:_)(_:x=.ref p)(_:y=.int i)(_:bq K H p xs)(_:zz xs i=some v)(_:Q v H)
inductive zR(K:DD)(x:V)(y:V)(H:Hp)(Q:VK):Prop
 |mk(p:_)(xs:_)(i:_)(v:_)(_:x=.ref p)(_:y=.int i)(_:bL K H p xs)(_:zz xs i=some v)(_:Q v H)
theorem cu:KA X (Cg X.K):=by
 intro value ab pins s σ H x y v u Q I Y U h hs;let#[p,xs,i,z,rfl,rfl,N,R,q]:=h;cases Y;let#[t,rfl]:=U;let#[its,r,pl,hz]:=I.list N;let#[j,h1,h2,h3,h4,S]:=uu R;let#[w,G,O]:=r.get h2;let hl:=r.length;let hn:=qr;let L:EP X pins σ Q w s:=#[z,H,I,O,q];cases J:0<=i
 .let F:i.toNat=j:=by
   rw[Sx J S]at h1;show sN h1
  show item_listR pl.isList J af (by rw[F];simpa using G) L hs
 .let F:(i+(its.toArray.size:Int)).toNat=j:=by
   rw[seqIndex_neg af h4]at h1;rw[ti, <-hl];show sN h1
  show S0 (x:=w) pl.isList.typeIs UI.lookup
   (S6 (Q:=λr s'=>r=w/\EP X pins σ Q r s') pl.isList af (by rw[ti]<;>omega) af (by rw[F];simpa using G) #[rfl,L]) hs
theorem aK:KA X (zR X.K):=by
 intro value ab pins s σ H x y v u Q I N L h hs;let#[p,xs,i,z,rfl,rfl,F,J,q]:=h;cases N;let#[t,rfl]:=L;let#[its,r,pl,U]:=I.tuple F;let#[j,h1,h2,Y,h4,h5]:=uu J;let#[w,O,G]:=r.get h2;let R:=r.length;let hn:=qr;let S:EP X pins σ Q w s:=#[z,H,I,G,q];show S0 (x:=w) pl.typeIs slot_tuple_getitem.lookup
  (getItem_tuple (j:=j) (Q:=λr s'=>r=w/\EP X pins σ Q r s') pl af af (by rw[ti, <-R];show h1) ‹O› #[rfl,S]) hs
theorem xB(its:WH)(n j:Nat)(u:Value):Obj.mapSeq (·.setIfInBounds j u) { cls:=.type "list",data:=.seq its.toArray n }={ cls:=.type "list",data:=.seq (its.set j u).toArray n }:=by
 simp[Obj.mapSeq]
theorem Inv.lst{pins:WB}{σ:St}{H:Hp}{s:oR}{p:Addr}{xs:List V}(I: ~~~H s)(h:H p=some (.lst xs)) :
  ∃(its:WH)(n:Nat),Vals xs its/\s.heap.get? p=some { cls:=.type "list",data:=.seq its.toArray n }/\xs.length<=sizeLine:=by
 let#[z,its,n,r,e]:=I.bJ p _ h;show#[its,n,r,e,z]
theorem Inv.HE{pins:WB}{σ:St}{H:Hp}{s:oR}{p:Addr}{xs ys:List V}{its its':WH}{n z:Nat}{f:Obj->Obj}(I: ~~~H s)(h:H p=some (.lst xs))
  (G:s.heap.get? p=some { cls:=.type "list",data:=.seq its.toArray n }) (F:f { cls:=.type "list",data:=.seq its.toArray n }={ cls:=.type "list",data:=.seq its'.toArray z }) (r:Vals ys its') (J:ys.length<=sizeLine) (t:Nat) :
  ~~~(upd H p (.lst ys)) { s with heap:=s.heap.update p f,toks:=t }:=by
 let e:(s.heap.update p f).get? p=some { cls:=.type "list",data:=.seq its'.toArray z }:=by
  rw[Heap.get?_update_self f G (by rw[F]<;>rfl),F]
 show I.write (x:=p) (e:=p) (by rw[h];trivial) (.inl rfl) (λb u L q=>(Heap.get?_update_other _ _ (G0 L)).trans q) #[_,e] ?_;show#[J,its',z,r,e]
inductive F0(o:V)(i:V)(v:V)(H:Hp)(Q:(Hp->Prop)):Prop
 |mk(p:_)(xs:_)(k:_)(j:_)(_:o=.ref p)(_:i=.int k)(_:H p=some (.lst xs))(_:xk xs.length k=some j)(_:Q (upd H p (.lst (xs.set j v))))
theorem set_list:Fu X F0:=by
 intros o i v ov iv u Q I ro Y S h;let#[p,xs,k,j,rfl,rfl,L,hj,q]:=h;cases ro;let#[t,rfl]:=Y;let#[its,n,r,z,U]:=I.lst L;let#[h1,h2,J,O]:=zA hj;let G:=r.length;let hn:=qr;let N: ~~~(upd H p (.lst (xs.set j v))) { s with heap:=s.heap.update p (Obj.mapSeq (·.setIfInBounds j u)) }:=
  I.HE L z (xB its n j u) (r.set S j) (by rw[OG];show U) s.toks
 cases R:0<=k
 .let F:k.toNat=j:=by
   rw[Sx R O]at h1;show sN h1
  show PySem.W.ki_setAt z R af (by rw[ti, <-G];show O) (by rw[F];show#[_,N,q])
 .let F:(k+(its.toArray.size:Int)).toNat=j:=by
   rw[seqIndex_neg af J]at h1;rw[ti, <-G];show sN h1
  show PySem.W.ki_setBack z af (by rw[ti, <-G];show J) af (by rw[F];show#[_,N,q])
theorem uf(lo hi:Option Int)(n:Nat):(QY lo hi none n).1=((HT.uM n 0 lo:Nat):Int)/\(QY lo hi none n).2.1=((HT.uM n n hi:Nat):Int)/\(QY lo hi none n).2.2=1:=by
 show#[3,rfl]
 .cases lo with
  |none=>simp[QY,HT.uM]
  |some i =>
   simp only[QY,HT.uM,getD_none,show(1:Int)>0 by decide,if_true];cases h:i<0
   .simp only[h,if_true]<;>omega
   .simp only[h,if_false]<;>omega
 .cases hi with
  |none=>simp[QY,HT.uM]
  |some i =>
   simp only[QY,HT.uM,getD_none,show(1:Int)>0 by decide,if_true];cases h:i<0
   .simp only[h,if_true]<;>omega
   .simp only[h,if_false]<;>omega
theorem qO(its:WH)(lo hi:Option Int):slicePick its.toArray lo hi none=((its.drop (HT.uM its.length 0 lo)).take (HT.uM its.length its.length hi-HT.uM its.length 0 lo)).toArray:=by
 let#[h1,h2,z]:=uf lo hi its.toArray.size;unfold slicePick;rw[h1,h2,z];simp only[sliceRange_one,pick_run,ti]<;>rfl
inductive Gx(K:DD)(x:V)(lo:Option Int)(hi:Option Int)(H:Hp)(Q:VK):Prop
 |mk(a:_)(xs:_)(_:x=.ref a)(_:bq K H a xs)(_:∀p,H p=none->Q (.ref p) (upd H p (.lst (kG xs lo hi))))
theorem jQ:LF X (Gx X.K):=by
 intros x v R O lo hi sl Q I L hs pl G h;let#[a,xs,rfl,hx,q]:=h;cases L;let#[its,r,z,F]:=I.list hx;let J:=r.length;show#["list",_,UI.lookup,z.isList.typeIs,?_];show wpAny_getItem_list_slice z.isList hs pl G .none (by simp) ?_ (by rw[ti]<;>omega);rw[qO, <-J];show#[.ref s⁻¹,_,I.laid (t':=s.toks) (o:=.lst (kG xs lo hi)) (λb N q=>Heap.get?_push_of_some _ q) (t7 _) ?_,rfl,q _ (I.bJ.fresh (t7 _))];show#[le_trans (wm xs lo hi) F,_,(0),(r.drop (HT.uM xs.length 0 lo)).take (HT.uM xs.length xs.length hi-HT.uM xs.length 0 lo),Heap.get?_push_size _ rfl]
def ed:V->Bool
 |.non=>true
 |.bl _=>true
 |.int _=>true
 |.str _=>true
 |_=>false
def mK:V->V->Bool
 |.non,.non=>true
 |.bl a,.bl b=>a==b
 |.bl a,.int b=>(if a then 1 else 0)==b
 |.int a,.bl b=>a==(if b then 1 else 0)
 |.int a,.int b=>a==b
 |.str a,.str b=>a==b
 |_,_=>false
theorem mE{A:L5}{s:oR}{y x:V}{u v:Value}(G:RelV y u)(z:RelV x v)(I:ed y=true)(F:ed x=true):P8 A s u v (mK y x):=by
 cases y with
 |non =>
  cases G;cases x with
  |non=>cases z;show SeqAt.EqAt.same _
  |bl b=>cases z;show SeqAt.EqAt.none_bool b
  |int b=>let#[t,rfl]:=z;show SeqAt.EqAt.none_int b t
  |str b=>let#[t,rfl]:=z;show SeqAt.EqAt.none_str b t
  |_=>show absurd (show false=true from F) vr
 |bl a =>
  cases G;cases x with
  |non=>cases z;show SeqAt.EqAt.bool_none a
  |bl b=>cases z;show SeqAt.EqAt.bool_bool a b
  |int b=>let#[t,rfl]:=z;show SeqAt.EqAt.bool_int a b t
  |str b=>let#[t,rfl]:=z;show SeqAt.EqAt.bool_str a b t
  |_=>show absurd (show false=true from F) vr
 |int a =>
  let#[t',rfl]:=G;cases x with
  |non=>cases z;show SeqAt.EqAt.int_none a t'
  |bl b=>cases z;show SeqAt.EqAt.int_bool a t' b
  |int b=>let#[t,rfl]:=z;show SeqAt.EqAt.int_int a t' b t
  |str b=>let#[t,rfl]:=z;show Uo a t' b t
  |_=>show absurd (show false=true from F) vr
 |str a =>
  let#[t',rfl]:=G;cases x with
  |non=>cases z;show SeqAt.EqAt.str_none a t'
  |bl b=>cases z;show SeqAt.EqAt.str_bool a t' b
  |int b=>let#[t,rfl]:=z;show Uq a t' b t
  |str b=>let#[t,rfl]:=z;show SeqAt.EqAt.str_str a t' b t
  |_=>show absurd (show false=true from F) vr
 |_=>show absurd (show false=true from I) vr
def yj(x:V)(u:Value):Bool:=match u with
 |.none=>mK .non x
 |.bool b=>mK (.bl b) x
 |.int i _=>mK (.int i) x
 |.str z _=>mK (.str z) x
 |_=>false
theorem DM{x y:V}{u:Value}(r:RelV y u)(f:ed y=true):yj x u=mK y x:=by
 cases y with
 |non=>cases r;rfl
 |bl b=>cases r;rfl
 |int i=>let#[t,rfl]:=r;rfl
 |str z=>let#[t,rfl]:=r;rfl
 |_=>show absurd (show false=true from f) vr
theorem lI{x:V}:∀{xs:List V}{us:WH},Vals xs us->xs.all ed=true->us.any (yj x)=xs.any λy=>mK y x
 |_,_,.nil,_=>rfl
 |y::xs,u::us,.cons r t,f=>by
  rw[all_cons,Qd]at f;rw[TH,TH,DM r f.1,lI t f.2]
theorem iS{A:L5}{s:oR}{x:V}{v:Value}(G:RelV x v)(F:ed x=true):∀{xs:List V}{us:WH},Vals xs us->xs.all ed=true->∀u∈us,P8 A s u v (yj x u)
 |_,_,.nil,_=>λu z=>by cases z
 |y::xs,u::us,.cons r t,f=>λI z=>by
  rw[all_cons,Qd]at f;rcases se.mp z with rfl|z
  .rw[DM r f.1];show mE r G f.1 F
  .show iS G F t f.2 I z
def Ay(x:V)(xs:List V):Bool:=xs.any λy=>mK y x
inductive LZ(K:DD)(neg:Bool)(x:V)(y:V)(H:Hp)(Q:VK):Prop
 |mk(p:_)(xs:_)(_:y=.ref p)(_:(bq K H p xs\/bL K H p xs))(_:ed x=true)(_:xs.all ed=true)(_:Q (.bl (if neg then !Ay x xs else Ay x xs)) H)
theorem gT:jY X (OL .In) (LZ X.K false):=by
 intros x y v u Q I J N h;let#[p,xs,rfl,z,G,fs,q]:=h;cases N;rcases z with z|z
 .let#[its,r,pl,L]:=I.list z;show SeqAt.in_listAt (yj x) pl.isList (λw F=>iS J G r fs w ‹F›) #[.bl _,H,I,4];rw[show its.toArray.any (yj x)=its.any (yj x)by simp,lI r fs];show q
 .let#[its,r,pl,L]:=I.tuple z;show SeqAt.in_tupleAt (yj x) pl (λw F=>iS J G r fs w ‹F›) #[.bl _,H,I,4];rw[show its.toArray.any (yj x)=its.any (yj x)by simp,lI r fs];show q
theorem eX:jY X (OL .NotIn) (LZ X.K true):=by
 intros x y v u Q I J N h;let#[p,xs,rfl,z,G,fs,q]:=h;cases N;rcases z with z|z
 .let#[its,r,pl,L]:=I.list z;show SeqAt.notIn_listAt (yj x) pl.isList (λw F=>iS J G r fs w ‹F›) #[.bl _,H,I,4];rw[show its.toArray.any (yj x)=its.any (yj x)by simp,lI r fs];show q
 .let#[its,r,pl,L]:=I.tuple z;show SeqAt.notIn_tupleAt (yj x) pl (λw F=>iS J G r fs w ‹F›) #[.bl _,H,I,4];rw[show its.toArray.any (yj x)=its.any (yj x)by simp,lI r fs];show q
theorem bB:eQ X (.builtin "len") (λxs H Q=>∃p ys,xs=[.ref p]/\(bq X.K H p ys\/bL X.K H p ys)/\Q (.int ys.length) H):=by
 intros xs us Q I r h;let#[p,ys,rfl,z,q]:=h;let#[u,rfl,L]:=vals1 r;cases L;let N:=qr;rcases z with z|z
 .let#[its,F,pl,J]:=I.list z;let G:=F.length;show Calls.call_len_list pl.isList (by simp only[ti]<;>omega) #[.int ys.length,H,I.tok _,#[s.toks+1,by rw[ti,G]],q]
 .let#[its,F,pl,J]:=I.tuple z;let G:=F.length;show len_tuple pl (by simp only[ti]<;>omega) #[.int ys.length,H,I.tok _,#[s.toks+1,by rw[ti,G]],q]
theorem dY:eQ X (.type "list") (λxs H Q=>∃p ys,xs=[.ref p]/\(bq X.K H p ys\/bL X.K H p ys)/\∀l,H l=none->Q (.ref l) (upd H l (.lst ys))):=by
 intros xs us Q I r h;let#[p,ys,rfl,G,q]:=h;let#[u,rfl,U]:=vals1 r;cases U;let R:∀(its:WH),Vals ys its->ys.length<=sizeLine->∀(h':Heap)(F:Nat),(∀b o',s.heap.get? b=some o'->h'.get? b=some o') ->
   h'.get? s⁻¹=some { cls:=.type "list",dict:=none,data:=.seq its.toArray F,slots := ([].toArray) }->EP X pins σ Q (.ref s⁻¹) { s with heap:=h' }:=λits z J h' F L e =>
  #[.ref s⁻¹,_,I.laid (t':=s.toks) L (t7 _) (show bU X.prog X.w _ h' _ (.lst ys)from#[J,its,F,z,e]),rfl,q _ (I.bJ.fresh (t7 _))]
 rcases G with G|G
 .let#[its,z,pl,J]:=I.list G;let S:=z.length;let#[o,N,O,n,hd]:=pl.isList;show call_list_seq p (.inl rfl) N O hd (λh' F L e=>R its z J h' F L e) (by simp only[ti]<;>omega)
 .let#[its,z,pl,J]:=I.tuple G;let S:=z.length;let#[o,N,O,n,hd]:=pl;show call_list_seq p (.inr rfl) N O hd (λh' F L e=>R its z J h' F L e) (by simp only[ti]<;>omega)
theorem qH:eQ X (.type "tuple") (λxs H Q=>∃p ys,xs=[.ref p]/\((bq X.K H p ys/\∀l,H l=none->Q (.ref l) (upd H l (.tup ys)))\/(bL X.K H p ys/\Q (.ref p) H))):=by
 intros xs us Q I r h;let#[p,ys,rfl,h]:=h;let#[u,rfl,O]:=vals1 r;cases O;rcases h with⟨z,q⟩|⟨z,q⟩
 .let#[its,F,pl,J]:=I.list z;let R:=F.length;show call_tuple_list pl.isList (λh' N=>?_) (by simp only[ti]<;>omega);let G: ~~~H { s with heap:=h' }:=I.kept (t':=s.toks) N;let L: ~~~(upd H h'.objs.size (.tup ys)) { s with heap:=h'.push { cls:=.type "tuple",data:=.seq its.toArray } }:=
   G.laid (t':=s.toks) (λb o e=>Heap.get?_push_of_some _ e) (t7 _) (show bU X.prog X.w _ _ _ (.tup ys)from#[J,its,F,IsTup.new _ _])
  show#[.ref h'.objs.size,_,L,rfl,q _ (G.bJ.fresh (t7 _))]
 .let#[its,F,pl,J]:=I.tuple z;show call_tuple_same pl #[.ref p,H,I,rfl,q]
def MN(K:DD)(T:String)(x:V)(H:Hp):Prop:=match x with
 |.str _=>T = "str"
 |.int _=>T = "int"
 |.ref p=>(T = "list" /\ ∃xs,bq K H p xs)\/(T = "tuple" /\ ∃o,K.lookup p=some o/\o.cls=.type "tuple" /\ o.dict=none) \/
   (T = "dict" /\ ((∃kvs,H p=some (.dK kvs))\/∃kvs,H p=some (.dT kvs)))\/(T = "set" /\ ∃S n,H p=some (.set S n))
 |_=>False
theorem DU{pins:WB}{σ:St}{H:Hp}{s:oR}{T:String}{x:V}{v:Value}(I: ~~~H s)(r:RelV x v)(ty:MN X.K T x H) :
  s.TypeIs v T/\∀a,v=.ref a->∃J,s.heap.get? a=some J/\J.dict=none:=by
 cases x with
 |str z =>
  let#[t,rfl]:=r;cases(show T = "str" from ty);show#[typeIs_str s z t,λ_ e=>nomatch e]
 |int i =>
  let#[t,rfl]:=r;cases(show T = "int" from ty);show#[VD s i t,λ_ e=>nomatch e]
 |ref p =>
  cases r;rcases ty with⟨rfl,xs,N⟩|⟨rfl,o,F,L,hd⟩|⟨rfl,F⟩|⟨rfl,S,n,F⟩
  .let#[its,_,pl,_]:=I.list N;show#[pl.isList.typeIs,λa e=>?_];cases e;let#[o,n,e,c,hd,_]:=pl;show#[o,e,hd]
  .show#[#[o,I.jL p o F,L],λa e=>?_];cases e;show#[o,I.jL _ o F,hd]
  .let z:∃o,s.heap.get? p=some o/\o.ExactDict:=by
    rcases F with⟨kvs,F⟩|⟨kvs,F⟩
    .let#[_,_,_,_,o,_,_,e,ex,_]:=I.bJ p _ F;show#[o,e,ex]
    .let#[_,_,_,_,o,_,_,e,ex,_]:=I.bJ p _ F;show#[o,e,ex]
   let#[o,e,ex]:=z;show#[#[o,e,ex.1],λa G=>?_];cases G;show#[o,e,ex.2.1]
  .let#[o,_,_,_,e,ex,_]:=I.bJ p _ F;show#[#[o,e,ex.1],λa G=>?_];cases G;show#[o,e,ex.2.1]
 |_=>show Ov ty
def LR(K:DD)(T:String)(r:V->List V->Hp->VK->Prop)(to:TE):TE:=λσ H Q=>to σ H λx H1=>MN K T x H1/\r x [] H1 Q
def NR(K:DD)(T:String)(r:V->List V->Hp->VK->Prop)(to:TE)(t:TA):TE:=λσ H Q=>to σ H λx H1=>MN K T x H1/\t σ H1 λxs H2=>r x xs H2 Q
variable{o e:Ob}{es:List Ob}{to:TE}{t:TA}{name:Str}{apos cpos:QJ}{T id:String}{r:V->List V->Hp->VK->Prop}
theorem Gh(U:PlainAttrs T)(slot:Slot T name id)(J:Ut (.builtin id)=pure (.type "method_descriptor"))(S:Nj X id r)(G:PE X o to)
  (R:QL o name X.env (eval o X.env)=eval o X.env:=by rfl) (O:(apos.endLine==cpos.line)=true:=by rfl):PE X (.Call (.Attribute o name apos) [] [] cpos) (LR X.K T r to):=by
 intros Q I h;show wpAny_Call_method0_late R O (bR (G pins s σ H _ I h) λv s1 N=>?_);let#[x,H1,z,F,ty,L]:=N;let#[h1,h2]:=DU z F ty;show#[T,id,U,slot,J,h1,h2,Calls.callWith_builtin rfl (PySem.evalArgs_none (S pins s1 σ H1 x [] v [] Q z F .nil L))]
theorem gU(pa:PlainAttrs T)(slot:Slot T name id)(ac:Ut (.builtin id)=pure (.type "method_descriptor"))(hm:Nj X id r)(J:PE X o to)(S:PA X (e::es) t)
  (ap:QL o name X.env (eval o X.env)=eval o X.env:=by rfl)
  (ab:((backTo cpos (starEach (e::es) X.env)).all (λx => !x.1)&&(Ry cpos (Qe [] X.env)).all (λx=>x.1.isSome)
   && decide ((e::es).length+([]:List Ub).length+(if ([]:List Ub).isEmpty then 0 else 1)<30))=true:=by rfl)
  (ad:(apos.endLine==cpos.line)=true:=by rfl) (hs:starEach (e::es) X.env=(false,eval e X.env)::starEach es X.env:=by rfl) (am:(backTo cpos (starEach es X.env)).any (·.1)=false:=by rfl) :
  PE X (.Call (.Attribute o name apos) (e::es) [] cpos) (NR X.K T r to t):=by
 intros Q I h;show wpAny_Call_method_late ap ab ad rfl (bR (J pins s σ H _ I h) λv s1 Y=>?_);let#[x,H1,z,F,ty,O]:=Y;let#[h1,h2]:=DU z F ty;show#[T,id,pa,slot,ac,h1,h2,?_];let G:=S cpos pins s1 σ H1 _ z O;rw[hs]at G ⊢;show Calls.callWith_builtin (by change(false||(backTo cpos (starEach es X.env)).any (·.1))=false;rw[am]<;>rfl) (Calls.evalArgs_plain ?_);show bR G λus s2 R=>by let#[vs,H2,L,N,U]:=R;show hm pins s2 σ H2 x vs v us Q L F N U
end
def FQ(X:Cx)(id:String)(r:V->List V->Hp->VK->Prop):Prop :=
 ∀(pins:WB)(s:oR)(σ:St)(H:Hp)(x:V)(xs:List V)(v:Value)(us:WH)(Q:VK),~~~H s->RelV x v->Vals xs us->r x xs H Q ->
  ↑(call (.builtin id) (v::us)) (EP X pins σ Q) X.xe s
theorem Vals.one:∀{x:V}{us:WH},Vals [x] us->∃u,us=[u]/\RelV x u
 |_,_,.cons r .nil=>#[0,r]
theorem Vals.zero:∀{us:WH},Vals [] us->us=[]
 |_,.nil=>rfl
theorem Vals.eraseIdx:∀{xs:List V}{us:WH}(i:Nat),Vals xs us->Vals (xs.eraseIdx i) (us.eraseIdx i)
 |_,_,_,.nil=>.nil
 |_,_,0,.cons _ t=>t
 |_,_,i+1,.cons r t=>.cons r (Vals.eraseIdx i t)
theorem Vals.rep{xs:List V}{us:WH}(h:Vals xs us):∀k:Nat,Vals (replicate k xs).flatten (replicate k us).flatten
 |0=>.nil
 |k+1=>by
  rw[Pq,Pq,Q5,Q5];show Vals.append h (Vals.rep h k)
theorem rY{α:Type}:∀(l:List α)(i:Nat),(l.eraseIdx i).length<=l.length
 | [],_=>t7 _
 |_::_,0=>QT _
 |_::r,i+1=>RP (rY r i)
theorem foldl_rep(its:WH):∀(k:Nat)(z:WH),
  foldl (λF G=>F++G) z.toArray (replicate k its.toArray)=(z++(replicate k its).flatten).toArray
 |0,z=>by simp
 |k+1,z=>by
  let e:z.toArray++its.toArray=(z++its).toArray:=(by simp);let I:(z++its)++(replicate k its).flatten=z++(replicate (k+1) its).flatten:=by
   rw[Pq,Q5,Oa]
  rw[<-I, <-foldl_rep its k (z++its), <-e,Pq,List.foldl_cons]
section
variable{X:Cx}{pins:WB}{σ:St}{H:Hp}{s:oR}{l b:Addr}{xs ys zs:List V}
theorem Inv.BU{its its':WH}{n:Nat}{f:Array Value->Array Value}{t':Nat}(I: ~~~H s)(G:H l=some (.lst xs))
  (e:s.heap.get? l=some { cls:=.type "list",data:=.seq its.toArray n }) (J:f its.toArray=its'.toArray) (F:Vals ys its') (z:ys.length<=sizeLine) :
  ~~~(upd H l (.lst ys)) { s with heap:=s.heap.update l (Obj.mapSeq f),toks:=t' }:=by
 let q:=QF e f;rw[J]at q;show I.write (x:=l) (e:=l) (by rw[G];show trivial) (.inl rfl) (λb' u L N=>(Heap.get?_update_other s.heap (Obj.mapSeq f) (G0 L)).trans N) #[_,q] ?_;show#[z,its',_,F,q]
theorem Inv.Kf{its:WH}{t':Nat}(I: ~~~H s)(z:Vals ys its)(F:ys.length<=sizeLine) :
  ~~~(upd H s⁻¹ (.lst ys)) { s with heap:=s.heap.push { cls:=.type "list",data:=.seq its.toArray },toks:=t' }:=
 I.laid (λ_ _ q=>Heap.get?_push_of_some _ q) (t7 _) #[F,its,(0),z,Heap.get?_push_size _ rfl]
theorem Inv.fresh(I: ~~~H s):H s⁻¹=none:=I.bJ.fresh (t7 _)
theorem Inv.nh(I: ~~~H s)(F:H l=some (.lst xs)):xs.length<=sizeLine/\∃(its:WH)(n:Nat),Vals xs its/\xs.length=its.length/\s.heap.get? l=some { cls:=.type "list",data:=.seq its.toArray n }:=by
 let#[z,its,n,r,e]:=I.bJ l _ F;show#[z,its,n,r,r.length,e]
theorem vS{n:Nat}(h:n<=sizeLine):Builtin.List.listTooLong n=false:=by
 unfold Builtin.List.listTooLong;show decide_eq_false af
inductive y4(x:V)(vs:List V)(H:Hp)(Q:VK):Prop
 |mk(l:_)(xs:_)(y:_)(_:x=.ref l)(_:vs=[y])(_:H l=some (.lst xs))(_:xs.length<sizeLine)(_:Q .non (upd H l (.lst (xs++[y]))))
theorem jT:FQ X "list.append" y4:=by
 intros x vs v us Q I N J h;let#[l,xs,y,rfl,rfl,G,O,q]:=h;cases N;let#[u,rfl,L]:=J.one;let#[z,its,n,r,R,e]:=I.nh G;show Qh F.slot_list_append #[_,e,rfl] F.entry_list_append (F.args_list_append_2 _ _) (Va l its.toArray n u (by rw[ti];omega)) #[e,?_];show#[.non,_,I.BU (its':=its++[u]) G e (by simp) (r.append (.cons L .nil)) ?_,rfl,q];rw[y3,OC];omega
inductive za(x:V)(vs:List V)(H:Hp)(Q:VK):Prop
 |mk(l:_)(b:_)(xs:_)(zs:_)(_:x=.ref l)(_:vs=[.ref b])(_:H l=some (.lst xs))(_:H b=some (.lst zs))(_:xs.length+zs.length<=sizeLine)(_:Q .non (upd H l (.lst (xs++zs))))
theorem qW:FQ X "list.extend" za:=by
 intros x vs v us Q I R U h;let#[l,b,xs,zs,rfl,rfl,J,hB,hz,q]:=h;cases R;let#[u,rfl,O]:=U.one;cases O;let#[z,its,n,r,hl,e]:=I.nh J;let#[z2,G,N,L,ab,S]:=I.nh hB;let hsz:its.toArray.size+G.toArray.size<=sizeLine:=(by rw[ti,ti];omega);let Y:¬ (!its.toArray.isEmpty&&Builtin.List.listTooLong (its.toArray.size+G.toArray.size))=true:=by
  rw[vS hsz,TK];show vr
 show Qh F.slot_list_extend #[_,e,rfl] F.entry_list_extend (F.args_list_extend_2 _ _)
  (AutoSeq1.list_extend_list_list_0 l its.toArray n b G.toArray N Y (by rw[ti];omega) af) #[e,S,?_]
 show#[.non,_,I.BU (its':=its++G) J e (by simp) (r.append L) ?_,rfl,q];rw[y3];omega
inductive DA(x:V)(vs:List V)(H:Hp)(Q:VK):Prop
 |mk(l:_)(xs:_)(i:_)(k:_)(y:_)(_:x=.ref l)(_:vs=[.int i])(_:H l=some (.lst xs))(_ : -(2^63)<=i)(_:i<2^63)(_:V7 i xs.length=some k)(_:xs[k]?=some y)(_:Q y (upd H l (.lst (xs.eraseIdx k))))
theorem vL:FQ X "list.pop" DA:=by
 intros x vs v us Q I Y J h;let#[l,xs,i,k,y,rfl,rfl,G,h1,h2,N,R,q]:=h;cases Y;let#[u,rfl,S]:=J.one;let#[t,rfl]:=S;let#[z,its,n,r,U,e]:=I.nh G;let#[w,L,O]:=r.get R;show Qh F.slot_list_pop #[_,e,rfl] F.entry_list_pop (F.args_list_pop_2 _ _)
  (MeetsSeq.list_pop_at l its.toArray n i t k w (fitsIndex_both h1 h2) (by rw[ti, <-U];show N) (by rw[<-Pz];show L) (by rw[ti];omega)) #[e,?_]
 show#[y,_,I.BU (its':=its.eraseIdx k) G e ?_ (r.eraseIdx k) ?_,O,q]
 .change its.toArray.eraseIdxIfInBounds k=(its.eraseIdx k).toArray;rw[Rc]
 .have:=rY xs k;omega
inductive CC(x:V)(vs:List V)(H:Hp)(Q:VK):Prop
 |mk(l:_)(xs:_)(_:x=.ref l)(_:vs=[])(_:H l=some (.lst xs))(_:Q .non (upd H l (.lst [])))
theorem Cq:FQ X "list.clear" CC:=by
 intros x vs v us Q I N J h;let#[l,xs,rfl,rfl,G,q]:=h;cases N;let L:=J.zero;subst L;let#[z,its,n,r,O,e]:=I.nh G;show Qh F.slot_list_clear #[_,e,rfl] F.entry_list_clear (F.args_list_clear_1 _) (AutoSeq1.list_clear_list_0 l its.toArray n (by rw[ti];omega)) #[e,?_];show#[.non,_,I.BU (its':=[]) (ys:=[]) G e rfl .nil (Oc _),rfl,q]
inductive Kv(x:V)(y:V)(H:Hp)(Q:VK):Prop
 |mk(l:_)(b:_)(xs:_)(zs:_)(_:x=.ref l)(_:y=.ref b)(_:H l=some (.lst xs))(_:H b=some (.lst zs))(_:xs.length+zs.length<=sizeLine)(_:∀p,H p=none->Q (.ref p) (upd H p (.lst (xs++zs))))
theorem sA:jY X (Rx .Add) Kv:=by
 intros x y v u Q I S O h;let#[l,b,xs,zs,rfl,rfl,N,R,Y,q]:=h;cases S;cases O;let#[z,its,n,r,hl,e]:=I.nh N;let#[z2,F,n2,J,U,G]:=I.nh R;show PySem.P.add_list e G ?_ (by rw[ti,ti];omega);let L:its.toArray++F.toArray=(its++F).toArray:=(by simp);rw[L];show#[.ref _,_,I.Kf (t':=s.toks) (r.append J) (by rw[y3];omega),rfl,q _ I.fresh]
inductive Kj(x:V)(y:V)(H:Hp)(Q:VK):Prop
 |mk(l:_)(k:_)(xs:_)(_:x=.ref l)(_:y=.int k)(_:H l=some (.lst xs))(_ : -(2^63)<=k)(_:k<2^63)(_:xs.length*k.toNat<=sizeLine)(_:∀p,H p=none->Q (.ref p) (upd H p (.lst (replicate k.toNat xs).flatten)))
theorem len_rep{α:Type}(xs:List α)(k:Nat):(replicate k xs).flatten.length=k*xs.length:=by
 induction k with
 |zero=>simp
 |succ k z=>rw[Pq,Q5,y3,z,Nat.succ_mul,Nat.add_comm]
theorem iq:jY X (Rx .Mult) Kj:=by
 intros x y v u Q I rx ry h;let#[l,k,xs,rfl,rfl,R,h1,h2,L,q]:=h;cases rx;let#[t,rfl]:=ry;let#[z,its,n,r,hl,e]:=I.nh R;let Y:its.toArray.size*k.toNat<=sizeLine:=(by rw[ti, <-hl];show L);let N:¬ its.toArray.size*k.toNat>(2^63-1)/8:=by
  have:(sizeLine:Nat)<=(2^63-1)/8:=ar;omega
 let ab:¬ (!Builtin.List.listFitsIndex k)=true:=by
  rw[fitsIndex_both h1 h2];show vr
 let S:¬ Builtin.List.listTooLong (its.toArray.size*k.toNat)=true:=by
  rw[vS Y];show vr
 let ac:foldl (λG J=>G++J) ([].toArray) (replicate (if its.toArray.isEmpty=true then 0 else k.toNat) its.toArray)=(replicate k.toNat its).flatten.toArray:=by
  let O:∀m:Nat,foldl (λG J=>G++J) ([].toArray) (replicate m its.toArray)=(replicate m its).flatten.toArray:=λm=>by
   have:=foldl_rep its m [];rw[Vf]at this;show this
  rw[O];cases its with
  |nil=>simp
  |cons a r'=>rw[Wx (by simp)]
 show wpAny_binaryOp_repeat_ref (T := "list") (U := "int") ar #[_,e,rfl] (λs'=>VD s' k t) noFill_list_mul F.fills_int_mul F.slot_int_rmul repeat_list F.slot_int_index.lookup
  (Qh F.slot_int_rmul (VD s k t) F.entry_int_rmul (F.args_int_rmul_2 _ _) (int___rmul___int_list k t l its.toArray n)
   #[e,rfl,#[_,e,rfl],Qh F.slot_list_mul #[_,e,rfl] F.entry_list_mul (F.args_list_mul_2 _ _) (AutoListH.list___mul___list_int_3 l its.toArray n k t ab N S) #[e,?_]])
 rw[ac];show#[.ref _,_,I.Kf (t':=s.toks) (r.rep k.toNat) (by rw[len_rep,Nat.mul_comm];show L),rfl,q _ I.fresh]
variable{prog:tp}{w:By}{A:L5}{E:WC}
end
end L2
namespace Att
open PySem PySem.W PySem.Calls PyProof.Rows
theorem nv{P:Params}{h:Heap}:∀(ns:List Int)(vs:WH),WellAll P h vs (ns.map WData.int)->QD vs ns:=by
 intro ns
 induction ns with
 |nil =>
  intro vs w;rwa[map_nil]at w;show .nil
 |cons n ns z =>
  intro vs w;rw[Pb]at w;cases w with
  |cons a b =>
   cases a;show .cons _ _ (z _ b)
theorem Ba{l:Rz}{n:Nat}(hn:l.most=some n){P:Params}{h:Heap}{args:List WData}{I:WH}
  (J:l.row.toRowW.claim.pre args=true) (N:WellAll P h I args) :
  ∃a vs ns,I=[Value.ref a]/\args=[WData.list (ns.map WData.int)]/\h.get? a=some { cls:=.type "list",data:=.seq vs.toArray }/\QD vs ns/\ns.length<=n:=by
 let ab:WShape.hasAll [] args [.list .int]=true:=(pre_splitW J).1;let G:l.pre.holds [] { args:=args }=true:=(pre_splitW J).2;let#[d,r,rfl,h1,h2]:=hasAllW_cons ab;obtain rfl:=hasAllW_nil h2;let#[xs,rfl,R]:=hasW_list h1;let#[ns,rfl]:=items_int R;let ac:ns.length<=n:=by
  unfold OpenLaw.pre at G;let z:(WTm.not (.lt (.lit (.int (n:Int))) (.len (.arg 0)))).holds [] { args:=[.list (ns.map .int)] }=true:=by
   let z:=(holds_andW G).1;rw[hn]at z;show z
  let F:=condW_of z (w_not (w_lt w_lit (w_len_list (w_arg rfl))));rw[qi]at F;show OF λq=>?_;let S:(n:Int)<((ns.length:Nat):Int):=af
  first
   |(rw[decide_eq_true S]at F;show absurd F ar)
   |(simp at F;omega)
 cases N with
 |cons Y U =>
  cases U;cases Y with
  |list L O=>show#[2,ns,1,L,nv ns _ O,ac]
theorem AE(l:Rz)(args:List WData):l.row.toRowW.claim.post args (.bool true) args=true :=
 postW_of (r:=l.row.toRowW) (X:=(true==true))
  (show Wu [] (.bool true) .bool=true by first|rfl|decide|simp[Wu,WShape.arms,WShape.armsAll])
  (show(WTm.eq .res (.lit (.bool true))).value [] { args:=args,res:=some (.bool true),after:=args }=some (.bool (true==true))from w_eq_bool (w_res rfl) w_lit) rfl
theorem wJ{l:Rz}{n:Nat}{q:tp}{loose:List Str}{XP:(Str->Option Value)->Heap->Prop}{N:By->Heap->Prop}{d:DefRec}
  (hn:l.most=some n) (ad:d.params.defaults=[])
  (call:∀(w:By)(s₀ z:oR)(mg J:WD)(F:Addr)(o:Obj)(pm cd I:Value)(a:Addr)(vs:WH)(ns:List Int),
   Ground q loose [] XP w s₀ mg J z.heap->N w z.heap ->
   z.heap.get? F=some o->o.data=.func (docDef d.name d.params d.body d.scope pm cd I)->z.heap.CodeRec cd d.name->mg d.name=some (.ref F) ->
   z.heap.get? a=some { cls:=.type "list",data:=.seq vs.toArray }->QD vs ns->ns.length<=n->z.gens = ([].toArray) ->
   QA (model l.prog w) Uc (.call (.ref F) #[[.ref a],[]]) (λr s'=>r=.ok (.ret (.bool true))/\OldK z.heap s'.heap/\s'.os=z.os/\RN s'.gens) z) :
  Vp q loose XP N l.row.toRowW d [] (λf vs=>VE f vs):=by
 intro w s₀ z mg J G Y F o pm cd I dV kV S hd ap L O hg args a0 as ab aT a2 U a1;obtain rfl:dV=.none:=Dflts.none L ad;obtain rfl:kV=.none:=Dflts.noKw L;let#[a,vs,ns,rfl,rfl,am,aB,ac]:=Ba hn ab U;show enter_call (QB (call w s₀ z mg J F o pm cd I a vs ns G Y S (fd_plain hd) ap O am aB ac hg) λr s' R=>?_);let#[rfl,h2,h3,h4]:=R;show#[.inl #[.bool true,.bool true,[],rfl,λ_=>rfl,.bool true,AE l _,λ_=>#[Sy,λ_ hm=>(nomatch hm)]],h2,h3,h4]
section
variable{prog:tp}{w:By}{A:L5}{E:WC}{s:oR}{K:DD}
end
end Att
namespace L2
open PySem PySem.Spec PyProof.Rows
theorem jA:∀{vs:WH}{ns:List Int},QD vs ns->Vals (ns.map V.int) vs
 |_,_,.nil=>.nil
 |_,_,.cons n t h=>.cons #[t,rfl] (jA h)
def IK(H:Hp):Prop:=∀b,H b=none\/∃o xs,H b=some (.frz o (.lst xs))
theorem Bk{P:tp}{w:By}{K:DD}{mg R:WD}{CX:qP}{k:Nat}{S a:Addr}{fd:qw}{x:Str}{sp:Sp}{G:oR}{vs:WH}{ns:List Int}
  (KX:K.In G.heap) (am:G.heap.Ns Od mg) (I:G.heap.Ns Vs R) (a1:∀x:Str,x ≠ "__name__" -> R x=Om x) (aB:G.heap.NoLimit) (hg:G.gens = ([].toArray))
  (L:G.heap.get? a=some { cls:=.type "list",data:=.seq vs.toArray }) (hi:QD vs ns) (hl:ns.length<=sizeLine) (hr:cW k Uc)
  (F:∀base:Heap,K.In base->base.Ns Od mg->aN P w K mg base CX k S fd [x] sp) (a2:∀(s:oR)(u:Value),Ua s fd #[[u],[]] [(x,u)])
  (as:∀H:Hp,IK H->bq K H a (ns.map V.int)->sp [.ref a] H (λv _=>v=.bl true) λ_ _ _=>False)
  (a4:∀H e s',CX [] H G (λ_ _ _=>False) e s'->False) :
  QA (model P w) Uc (.call (.ref S) #[[.ref a],[]]) (λr s'=>r=.ok (.ret (.bool true))/\OldK G.heap s'.heap/\s'.os=G.os/\RN s'.gens) G:=by
 let rv:=jA hi;let a0:=hi.length;let ad:∀H:Hp,IK H->bq K H a (ns.map V.int)->j7 P w H G.heap->(∀b,H b≠none->b=a)->(H a≠none->K.lookup a=none) ->
   QA (model P w) Uc (.call (.ref S) #[[.ref a],[]]) (λr s'=>r=.ok (.ret (.bool true))/\OldK G.heap s'.heap/\s'.os=G.os/\RN s'.gens) G:=by
  intro H hO hS bJ hA hK;let ab:∀{b:Addr}{o:Obj},G.heap.get? b=some o->H b=none->(tU G.heap H).get? b=some o:=λe n=>CF e n;let a3:∀{b:Addr}{o:Obj}{es:Array DictEntry}{ep:Nat},G.heap.get? b=some o->o.data=.dict es ep->H b=none:=λ{b o es ep} e d=>by
   cases q:H b with
   |none=>rfl
   |some u =>
    let O:b=a:=hA b (by rw[q];simp);subst O;rwa[L]at e;let d':Data.seq vs.toArray _=Data.dict es ep:=d;cases d'
  let N:∀{b:Addr}{m:WD},G.heap.Ns b m->(tU G.heap H).Ns b m:=λ{b m} aT=>(by let#[o,es,ep,e,d,r]:=aT;show#[o,es,ep,ab e (a3 e d),d,r]);let ac:K.In (tU G.heap H):=λb o e=>ab (KX b o e) (by
   cases q:H b with
   |none=>rfl
   |some u =>
    let O:b=a:=hA b (by rw[q];simp);subst O;rwa[hK (by rw[q];simp)]at e)
  let hM:Mod K mg (tU G.heap H):=#[ac,N am,#[R,N I,a1],let ⟨mc,h1,h2⟩:=aB;#[mc,N h1,h2]];let e0:tH P w K mg (tU G.heap H) Uc [] G H:=#[rfl,hM,λb o e=>EL e,UE (z8 _ _),trivial,λb I=>absurd (show b∈([]:List Addr)from I) (by simp),bJ,.of_eq hg];show QB ((F _ ac (N am)).run Uc [] G H #[[.ref a],[]] [.ref a] [.ref a] _ _ hr e0 (a2 G (.ref a)) (.cons rfl .nil) (as H hO hS)) λr s' h=>?_;cases r with
  |error e=>show(a4 H e s' h).elim
  |ok fl =>
   cases fl with
   |next=>show Ov h
   |brk=>show Ov h
   |cont=>show Ov h
   |ret u =>
    let#[v,H',os,bare,un,ap,r',q]:=h;let q':v=.bl true:=q;subst q';obtain rfl:u=Value.bool true:=r';show#[rfl,OldK.of_keep λb o e=>?_,os,bare];cases q:H b with
    |none=>show un.keep b o e q (by intro z;show absurd (show b∈([]:List Addr)from z) (by simp)) (by simp)
    |some u =>
     rcases hO b with z|⟨ob,xs,z⟩
     .rw[q]at z;cases z
     .let z2:=un.nj b ob _ z;let#[Y,_]:=bJ b _ z;let#[e2,_]:=ap b _ z2;rwa[e]at Y;show e2
 cases U:K.lookup a with
 |some o =>
  let e:=KX a o U;rwa[L]at e;show ad (λ_=>none) (λ_=>.inl rfl) (.inr #[_,vs.toArray,_,U,1,rfl,by rw[ti,a0];show hl,by simpa using rv]) (λb u z=>by let J:(none:Option HO)=some u:=z;cases J) (λb z=>absurd rfl z) λz=>absurd rfl z
 |none =>
  show ad (λb=>if b=a then some (.frz { cls:=.type "list",data:=.seq vs.toArray } (.lst (ns.map V.int)))else none) (λb=>?_) (.inl (.inr #[{ cls:=.type "list",data:=.seq vs.toArray },Wy rfl])) (λb u z=>?_) (λb z=>?_) λ_=>U
  .by_cases I:b=a
   .show .inr #[2,Wy I]
   .show .inl (Wx I)
  .by_cases I:b=a
   .let J:=(Wy I).symm.trans z;cases J;subst I;show#[L,by rw[qi];show hl,vs,_,rv,L]
   .let J:=(Wx I).symm.trans z;cases J
  .by_cases I:b=a
   .show I
   .show absurd (Wx I) z
theorem Fd{l:Rz}{n k:Nat}{q:tp}{loose:List Str}{XP:(Str->Option Value)->Heap->Prop}{I:By->Heap->Prop}{d:DefRec}{K:Params->DD}{CX:By->qP}{sp:By->Sp}{x:Str}
  (hn:l.most=some n) (am:n<=sizeLine) (ab:d.params.defaults=[]) (hr:cW k Uc)
  (hY:∀(w:By)(h:Heap),I w h->(K w.params).In h)
  (F:∀(w:By)(mg:WD)(z:Addr)(h:Heap),(K w.params).In h->h.Ns Od mg->mg d.name=some (.ref z) ->
   ∃fd:qw,(∀(s:oR)(u:Value),Ua s fd #[[u],[]] [(x,u)]) /\
    ∀base:Heap,(K w.params).In base->base.Ns Od mg->aN l.prog w (K w.params) mg base (CX w) k z fd [x] (sp w))
  (ac:∀(w:By)(H:Hp)(a:Addr)(ns:List Int),ns.length<=n->IK H->bq (K w.params) H a (ns.map V.int)->sp w [.ref a] H (λv _=>v=.bl true) λ_ _ _=>False)
  (ad:∀(w:By)(H:Hp)(s:oR)(e:Value)(s':oR),CX w [] H s (λ_ _ _=>False) e s'->False) :
  Vp q loose XP I l.row.toRowW d [] (λf vs=>VE f vs):=by
 show Att.wJ hn ab λw s₀ R mg mb z o pm cd aB a vs ns G Y ho hd aT O ap as J S=>?_;let L:=hY w _ Y;let#[fd,hb,U]:=F w mg z _ L G.T.g O;show Bk L G.T.g G.T.b G.T.builtins G.T.nolimit S ap as (le_trans J am) hr U hb (λH N hS=>ac w H a ns J N hS) λH e s'=>ad w H R e s'
def inClass(s:N8)(j:Nat):N8:=match s with
 |.ClassDef _ _ _ body _ _ _ _ _ _ _=>body.getD j (.Pass #[(0),(0),(0),(0)])
 |_=>.Pass #[(0),(0),(0),(0)]
def gB(s:N8):Arguments:=match s with
 |.FunctionDef _ a _ _ _ _ _ _ _ _=>a
 |_=>{ posonlyargs:=[],args:=[],vararg:=none,kwonlyargs:=[],kw_defaults:=[],kwarg:=none,defaults:=[] }
def dD(s:N8):List N8:=match s with
 |.FunctionDef _ _ b _ _ _ _ _ _ _=>b
 |_=>[]
def aq(s:N8):Rw:=match s with
 |.FunctionDef _ _ _ _ _ _ z _ _ _=>z
 |_=>{ kind:=.function,names:=[],isGenerator:=false,isCoroutine:=false }
abbrev aU:qP:=λ_ _ _ _ _ _=>False
abbrev E0:XK:=λ_ _ _=>False
theorem aw{X:Cx}:Passes aU X E0:=λ_ _ _ _ _ _ _ h=>h.elim
structure cj(K:DD)(x qual:Str)(st:N8)(f:Addr)(fd:qw):Prop where
 ex:∃(oc:Value)(od:WJ)(kV doc pm:Value)(an:WJ)(cdv ct:Value)(osl:Array (Option Value)),
  fd=Wc x qual (gB st) (dD st) (aq st) .none kV doc pm an cdv ct/\K.lookup f=some #[oc,od,.func fd,osl]/\Wd K cdv qual=true
 kp:RZ K (.ref f)=true
section
variable{P:tp}{w:By}{K:DD}{mg:WD}{base:Heap}
theorem cj.ok{x qual:Str}{st:N8}{f:Addr}{fd:qw}{N ps:List Str}{k:Nat}{sp:Sp}(F:cj K x qual st f fd)(S:aA N ps (aq st))(len:∀vs H Q E,sp vs H Q E->vs.length=ps.length)
  (G:∀(z:Value)(A:L5)(outer:List Sn)(s:oR)(H:Hp)(vs:List V)(Q:VK)(E:XK),cW k (A.deeper (Rl qual (aq st) s⁻¹ f z))->sp vs H Q E ->
   ∃t,wg (qR aU P w K mg base N qual (aq st) f z A outer s H E).mZ (dD st) t/\t { nx:=λ_ H'=>Q .non H',rt:=Q } (start N vs) H):↥aN (k+1) f fd ps sp:=by
 let#[oc,od,kV,R,pm,an,z,ct,U,rfl,L,O]:=F.ex;show F5 L O S len λA outer s H vs Q E I J=>?_;let#[t,h,q]:=G z A outer s H vs Q E I J;show#[t,h.mZ,q]
theorem cj.dE{x qual:Str}{st:N8}{f:Addr}{fd:qw}{N ps:List Str}{k:Nat}{sp:Sp}(F:cj K x qual st f fd)(S:aA N ps (aq st))
  (G:∀(z:Value)(A:L5)(outer:List Sn)(s:oR)(H:Hp)(vs:List V)(Q:VK)(E:XK),cW k (A.deeper (Rl qual (aq st) s⁻¹ f z))->sp vs H Q E ->
   ∃t,wg (qR aU P w K mg base N qual (aq st) f z A outer s H E).mZ (dD st) t/\t { nx:=λ_ H'=>Q .non H',rt:=Q } (start N vs) H) (len:∀vs H Q E,sp vs H Q E->vs.length=ps.length:=by intro vs H Q E h;cases h<;>subst_vars<;>rfl):↥aN (k+1) f fd ps sp:=F.ok S len G
theorem cj.binds{x qual:Str}{st:N8}{f:Addr}{fd:qw}{ps:List Str}(F:cj K x qual st f fd)
  (h:∀(kV G pm:Value)(an:WJ)(z ct:Value)(us:WH),us.length=ps.length->Vy (Wc x qual (gB st) (dD st) (aq st) .none kV G pm an z ct) #[us,[]]=pure (ps.zip us)):Binds K fd ps []:=by
 let#[oc,od,kV,G,pm,an,z,ct,I,rfl,J,L]:=F.ex;show .all (h kV G pm an z ct)
theorem tO{x qual:Str}{st:N8}{f:Addr}{oc:Value}{od an:WJ}{G:Array (Option Value)}{kV F pm z ct:Value}(l:K.lookup f=some #[oc,od,.func (Wc x qual (gB st) (dD st) (aq st) .none kV F pm an z ct),G])
  (c:Wd K z qual=true) (k:RZ K (.ref f)=true):cj K x qual st f (Wc x qual (gB st) (dD st) (aq st) .none kV F pm an z ct):=#[#[oc,od,kV,F,pm,an,z,ct,G,rfl,l,c],k]
end
theorem bN{A:L5}{k:Nat}(z:cW k A):A.units+1<P0:=PQ (QK (by decide:1<=64) _) z.units
section
variable{X:Cx}
theorem pv(i:Nat){x:Str}{pos:QJ}(F:X.N[i]?=some x:=by rfl)(z:KJ X.env.scope x:=by first|show Or.inl rfl|show Wv (Or.inl rfl)|show Wv (Wv rfl))(hd:(x==("__debug__" : Str))=false:=by decide)
  (G:(x==("__classdict__" : Str))=false:=by decide):PE X (.Name x pos) (vY i):=Hy F z hd G
end
theorem b9{A B:Prop}(h:B):if false=true then A else B:=by
 rw[Wx vr];show h
theorem eg{A B:Prop}(h:A):if true=true then A else B:=by
 rw[Wy rfl];show h
theorem dX{c A B:Prop}[Decidable c](h1:c->A)(h2:¬ c->B):if c then A else B:=by
 cases h:c
 .rw[Wy h];show h1 h
 .rw[Wx h];show h2 h
def aR(H H':Hp):Prop:=∀b o,H b=some o->H' b=some o
theorem aR.refl(H:Hp):aR H H:=λ_ _ h=>h
theorem aR.trans{H H1 H2:Hp}(a:aR H H1)(b:aR H1 H2):aR H H2:=λc o h=>b c o (a c o h)
theorem aR.free{H H':Hp}(e:aR H H'){l:Addr}(h:H' l=Wn):H l=Wn:=by
 cases q:H l with
 |none=>rfl
 |some o =>
  rwa[e l o q]at h
end L2
namespace PySem
open PySem.Sem (wp)
section
variable{prog:tp}{w:By}{A:L5}{E:WC}{h:Heap}{g:Array Uz}{d:Drawn}{t:Nat}{os:OsState}{a:Addr}{its:WG}{n:Nat}
end
end PySem
namespace Srt
open PySem PyProof.Rows
structure SI(a₀:Array C1)(st:Ow):Prop where
 perm:(BY st).Perm a₀
 kind:kindOf st=QM
 failed:QN st=none
structure Ks(a₀:Array C1):Prop where
 ik:IntKeys a₀
 nd:(a₀.toList.map λp=>Qf p.1).Nodup
def l8(xs:Array C1)(lo hi:Nat):Prop:=∀i j,lo<=i->i<=j->j<hi->K xs i<=K xs j
theorem SI.size{a₀:Array C1}{st:Ow}(h:SI a₀ st):(BY st).size=a₀.size:=h.perm.size_eq
theorem wQ{a₀ xs:Array C1}(z:xs.Perm a₀)(k:Ks a₀){i:Nat}(hi:i<xs.size):∃t q,xs[i]?=some (.int (K xs i) t,q):=by
 let F:xs[i]∈a₀.toList:=(PR.mp z).mem_iff.mp (by simp);let#[n,t,G]:=k.ik _ F;let e:xs[i]?=some xs[i]:=getElem?_pos _ i hi;let I:xs[i]=(.int n t,xs[i].2):=VF G rfl;show#[t,xs[i].2,?_];unfold K;rw[e,I];rfl
theorem key_ne{a₀ xs:Array C1}(F:xs.Perm a₀)(k:Ks a₀){i j:Nat}(hi:i<j)(z:j<xs.size):K xs i≠K xs j:=by
 let G:=(PR.mp F).map λp:C1=>Qf p.1;let I:(xs.toList.map λp=>Qf p.1).Nodup:=G.nodup_iff.mpr k.nd;let h1:i<xs.size:=UJ hi z;let a:=Pa.mp I i j ‹h1› ‹z› hi;unfold K;rw[getElem?_pos xs i h1,getElem?_pos xs j z];simpa using a
theorem SI.setArr{a₀:Array C1}{st:Ow}(h:SI a₀ st){xs:Array C1}(z:xs.Perm (BY st)):SI a₀ (setArr st xs):=#[z.trans h.perm,h.kind,h.failed]
section
variable{prog:tp}{w:By}{A:L5}{E:WC}{s:oR}{a₀:Array C1}
theorem sh{st:Ow}{x y:C1}{a b:Int}{t u:Wj}{Q:Option Bool->Ow->Prop}(F:kindOf st=QM)(hx:x.1=.int a t)(z:y.1=.int b u)(h:Q (some (decide (a<b))) st) :
  Wi (model prog w) A E s (lt' x y) Q st:=by
 rw[lt'_eq];show rn (Q6 ?_);rw[F,keyLt'_oneType,hx,z];show rn (SJ (Rt (oneLt_int #[rfl,rz h])))
theorem bA{st:Ow}{xs:Array C1}{i:Nat}{p:C1}{Q:C1->Ow->Prop}(hi:xs[i]?=some p)(h:Q p st):Wi (model prog w) A E s (elem' xs i) Q st:=by
 rw[elem'_eq,hi];show rz h
theorem qX{st:Ow}{i j:Nat}{Q:Option Bool->Ow->Prop}(S:SI a₀ st)(k:Ks a₀)(hi:i<a₀.size)(z:j<a₀.size)(h:Q (some (decide (K (BY st) i<K (BY st) j))) st) :
  Wi (model prog w) A E s (ltAt' i j) Q st:=by
 let#[t,p,F]:=wQ S.perm k (by rw[S.size];show hi);let#[u,q,G]:=wQ S.perm k (by rw[S.size];show z);show wpS_ltAt S.kind F G h
structure Cut(a₀:Array C1)(st st':Ow)(lo:Nat):Prop where
 S:SI a₀ st'
 pre:∀i,i<lo->(BY st')[i]?=(BY st)[i]?
 pend:N7 st'=N7 st
theorem Co{st:Ow}{lo nrem:Nat}{Q:Option Nat->Ow->Prop}(S:SI a₀ st)(k:Ks a₀)(hn:lo+nrem<=a₀.size)(h1:1<=nrem)
  (h:∀m F,Cut a₀ st F lo->1<=m->m<=nrem->l8 (BY F) lo (lo+m)->Q (some m) F):Wi (model prog w) A E s (countRun' lo nrem) Q st:=by
 rw[countRun'_eq];show rn (Pd (Ox (I:=λx c F=>uN (F=st) (c=(none,x)) (l8 (BY st) lo (lo+x))) (Q:=λc F=>F=st/\∃n,c=(none,n)/\1<=n/\n<=nrem/\l8 (BY st) lo (lo+n)/\(n=nrem\/K (BY st) (lo+n)<K (BY st) (lo+n-1))) ?_ ?_ ?_) ?_)
 .rintro x c F U ab ⟨rfl,rfl,hs⟩;dsimp only;show rn (qX S k af af ?_);cases c:K (BY F) (lo+x)<K (BY F) (lo+x-1)
  .simp only[c,decide_true,if_true];show rz #[rfl,x,rfl,U,af,hs,.inr c]
  .simp only[c,decide_false,Ph,if_false];show rz #[1,λi j hi J N=>?_];cases z:j<lo+x
   .show hs i j hi J z
   .by_cases R:i=j
    .rw[R];show OR _
    .have:=hs i (lo+x-1) hi af af;let O:j=lo+x:=Qt N z;rw[O];omega
 .rintro c F ⟨rfl,rfl,hs⟩;rw[show max 1 nrem=nrem by omega]at hs ⊢;show#[rfl,nrem,rfl,h1,t7 _,hs,.inl rfl]
 .show#[1,λi j hi J N=>by rw[show i=j by omega];show OR _]
 .rintro c F ⟨rfl,n,rfl,n1,n2,hs,am⟩;dsimp only;cases e:n=nrem
  .rw[Wy ‹e›];show rz (h n F #[S,λ_ _=>rfl,rfl] n1 n2 hs)
  .rw[Wx ‹e›];let ap:=am.resolve_left e;cases g:n>1
   .rw[Wy g];show rn (qX S k af af ?_);let r:K (BY F) lo<K (BY F) (lo+n-1):=by
     let a:=hs lo (lo+n-1) (t7 _) af af;let b:=key_ne S.perm k (i:=lo) (j:=lo+n-1) af (by rw[S.size];omega);omega
    simp only[r,decide_true,if_true];show rz (h n F #[S,λ_ _=>rfl,rfl] n1 n2 hs)
   .rw[Wx g];let e1:n=1:=af;subst e1;show rn (SJ (Qw #[4]));let ad:∀i j,lo<=i->i<=j->j<lo+2->K (BY F) j<=K (BY F) i:=λi j hi J N=>by
     cases z:i=j
     .rw[z];show OR _
     .let ei:i=lo:=af;let O:j=lo+1:=af;rw[ei,O];show Oo ap
    show rn (Pd (Ox (I:=λx c G=>uN (G=F) (c=(none,x,0)) (∀i j,lo<=i->i<=j->j<lo+x->K (BY F) j<=K (BY F) i)) (Q:=λc G=>G=F/\∃n,c=(none,n,0)/\2<=n/\n<=nrem/\∀i j,lo<=i->i<=j->j<lo+n->K (BY F) j<=K (BY F) i) ?_ ?_ ?_) ?_)
    .rintro x c G U ab ⟨rfl,rfl,hd⟩;dsimp only;show rn (qX S k af af ?_);cases c:K (BY G) (lo+x)<K (BY G) (lo+x-1)
     .simp only[c,decide_true,if_true];rw[Wx af];show rz #[1,λi j hi J N=>?_];cases z:j<lo+x
      .show hd i j hi J z
      .by_cases R:i=j
       .rw[R];show OR _
       .have:=hd i (lo+x-1) hi af af;let O:j=lo+x:=Qt N z;rw[O];omega
     .simp only[c,decide_false,Ph,if_false];show rn (qX S k af af ?_);let r:K (BY G) (lo+x-1)<K (BY G) (lo+x):=by
       let b:=key_ne S.perm k (i:=lo+x-1) (j:=lo+x) af (by rw[S.size];omega);omega
      simp only[r,decide_true,if_true];show rz #[rfl,x,rfl,U,af,hd]
    .rintro c G ⟨rfl,rfl,hd⟩;rw[show max (1+1) nrem=nrem by omega]at hd ⊢;show#[rfl,nrem,rfl,af,t7 _,hd]
    .show#[1,ad]
    .rintro c G ⟨rfl,n,rfl,m1,m2,hd⟩;dsimp only;rw[Wx af];show rn (wpS_reverse ?_);let hsz:lo+n<=(BY G).size:=(by rw[S.size];omega);let S3:=S.setArr (mirror_perm (BY G) lo (lo+n) ((lo+n-lo)/2));let C3:Cut a₀ G (setArr G (VG (BY G) lo (lo+n) ((lo+n-lo)/2))) lo:=by
      show#[S3,λi hi=>?_,rfl];change(VG (BY G) lo (lo+n) ((lo+n-lo)/2))[i]?=_;rw[getElem?_mirror_all hsz,Wx af]
     let ac:l8 (BY (setArr G (VG (BY G) lo (lo+n) ((lo+n-lo)/2)))) lo (lo+n):=λi j hi J N=>by
      change K (VG (BY G) lo (lo+n) ((lo+n-lo)/2)) i<=K (VG (BY G) lo (lo+n) ((lo+n-lo)/2)) j;rw[K_mirror hsz,K_mirror hsz,Wy af,Wy af];show hd _ _ af (Nat.sub_le_sub_left J (lo+(lo+n)-1)) af
     generalize setArr G (VG (BY G) lo (lo+n) ((lo+n-lo)/2))=Y at S3 C3 ac ⊢;show rn (Pd (Ox (I:=λx c L=>uN (L=Y) (c=(none,x)) (l8 (BY Y) lo (lo+x))) (Q:=λc L=>L=Y/\∃m,c=(none,m)/\1<=m/\m<=nrem/\l8 (BY Y) lo (lo+m)) ?_ ?_ ?_) ?_)
     .rintro x c L U ab ⟨rfl,rfl,hs⟩;dsimp only;show rn (qX S3 k af af ?_);cases c:K (BY L) (lo+x)<K (BY L) (lo+x-1)
      .simp only[c,decide_true,if_true];show rz #[rfl,x,rfl,af,af,hs]
      .simp only[c,decide_false,Ph,if_false];show rz #[1,λi j hi J N=>?_];cases z:j<lo+x
       .show hs i j hi J z
       .by_cases R:i=j
        .rw[R];show OR _
        .have:=hs i (lo+x-1) hi af af;let O:j=lo+x:=Qt N z;rw[O];omega
     .rintro c L ⟨rfl,rfl,hs⟩;rw[show max n nrem=nrem by omega]at hs ⊢;show#[rfl,nrem,rfl,h1,t7 _,hs]
     .show#[1,ac]
     .rintro c L ⟨rfl,m,rfl,q1,q2,hs⟩;show rz (h m L C3 q1 q2 hs)
theorem Dt{st:Ow}{lo n ok:Nat}{Q:Bool->Ow->Prop}(S:SI a₀ st)(k:Ks a₀)(hn:lo+n<=a₀.size)(h1:1<=ok)(bJ:ok<=n)(hs:l8 (BY st) lo (lo+ok))
  (h:∀z,Cut a₀ st z lo->l8 (BY z) lo (lo+n)->Q true z):Wi (model prog w) A E s (binarySort' lo n ok) Q st:=by
 rw[binarySort'_eq];show rn (Pd (Ox (I:=λx c z=>uN (c=(none,())) (Cut a₀ st z lo) (l8 (BY z) lo (lo+x))) (Q:=λc z=>uN (c=(none,())) (Cut a₀ st z lo) (l8 (BY z) lo (lo+n))) ?_ ?_ ?_) ?_)
 .rintro x c z am ad ⟨rfl,C,G⟩;let O:lo+x<(BY z).size:=(by rw[C.S.size];omega);show rn (Pd (Ox (I:=λy c F=>F=z/\∃l r,c=(none,l,r)/\l<=r/\r<=x/\r-l<=x-y/\(∀i,lo<=i->i<lo+l->K (BY z) i<=K (BY z) (lo+x))/\∀i,lo+r<=i->i<lo+x->K (BY z) (lo+x)<K (BY z) i)
   (Q:=λc F=>F=z/\∃l,c=(none,l,l)/\l<=x/\(∀i,lo<=i->i<lo+l->K (BY z) i<=K (BY z) (lo+x))/\∀i,lo+l<=i->i<lo+x->K (BY z) (lo+x)<K (BY z) i) ?_ ?_ ?_) ?_)
  .rintro y c F as ap ⟨rfl,l,r,rfl,lr,R,hm,L,J⟩;dsimp only;cases g:l>=r
   .rw[Wy g];obtain rfl:l=r:=af;show rz #[rfl,l,rfl,R,L,J]
   .rw[Wx g];show rn (qX C.S k af af ?_);cases c:K (BY F) (lo+x)<K (BY F) (lo+(l+r)/2)
    .simp only[c,decide_true,if_true];show rz #[rfl,l,(l+r)/2,rfl,af,af,af,L,λi hi U=>?_];have:=G (lo+(l+r)/2) i af hi af;show Sa c this
    .simp only[c,decide_false,Ph,if_false];show rz #[rfl,(l+r)/2+1,r,rfl,af,af,af,λi hi U=>?_,J];have:=G i (lo+(l+r)/2) hi (Q7 U) af;omega
  .rintro c F ⟨rfl,l,r,rfl,lr,R,hm,L,J⟩;obtain rfl:l=r:=af;show#[rfl,l,rfl,R,L,J]
  .show#[rfl,(0),x,rfl,af,af,af,λi hi ac=>by omega,λi hi ac=>by omega]
  .rintro c F ⟨rfl,l,rfl,lx,L,J⟩;dsimp only;rw[moveDown'_eq];show rn (Qi (rz #[rfl,#[C.S.setArr (bubble_perm _ _ _),λi hi=>?_,C.pend],λi j hi ab hj=>?_]))
   .change(bubble (BY F) (lo+x) (lo+x-(lo+l)))[i]?=_;rw[getElem?_bubble O _ (We (lo+x) (lo+l)),Wx af,Wx af];show C.pre i hi
   .change K (bubble (BY F) (lo+x) (lo+x-(lo+l))) i<=K (bubble (BY F) (lo+x) (lo+x-(lo+l))) j;rw[K_bubble O (We (lo+x) (lo+l)),K_bubble O (We (lo+x) (lo+l)),show lo+x-(lo+x-(lo+l))=lo+l by omega];cases Y:i=lo+l
    .rw[Wy Y];cases N:j=lo+l
     .rw[Wy N];show OR _
     .rw[Wx N,Wy af];have:=J (j-1) af af;show Oo this
    .rw[Wx Y];cases N:j=lo+l
     .rw[Wy N,Wx af];show L i hi af
     .rw[Wx N];cases c3:lo+l<i/\i<=lo+x
      .rw[Wy c3,Wy af];show G _ _ af (Nat.sub_le_sub_right ab 1) af
      .rw[Wx c3];cases c4:lo+l<j/\j<=lo+x
       .rw[Wy c4];show G _ _ af af af
       .rw[Wx c4];show G _ _ af af af
 .rintro c z ⟨rfl,C,G⟩;rw[show max (max ok 1) n=n by omega]at G;show#[rfl,C,G]
 .rw[show max ok 1=ok by show Nat.max_eq_left h1];show#[rfl,#[S,λ_ _=>rfl,rfl],hs]
 .rintro c z ⟨rfl,C,G⟩;show rz (h z C G)
end
def Ff:Bool->C1->Array C1->Nat->Nat->Nat->StateT Ow Sem (Option Nat):=sortPriv% PySem.Builtin.gallop
def gP(left:Bool)(a:Int)(xs:Array C1)(base i:Nat):Bool:=if left then decide (K xs (base+i)<a)else !decide (a<K xs (base+i))
section
variable{prog:tp}{w:By}{A:L5}{E:WC}{s:oR}{a₀:Array C1}
def su(left:Bool)(z:C1)(xs:Array C1)(base i:Nat):StateT Ow Sem (Option Bool):=
 bind (elem' xs (base+i)) λx=>ite (left=true) (lt' x z) (bind (lt' z x) λr=>pure (Option.map (λb => !b) r))
theorem HV{st:Ow}{left:Bool}{G:C1}{a:Int}{t u:Wj}{q:Value}{xs:Array C1}{base i:Nat}{Q:Option Bool->Ow->Prop}(z:kindOf st=QM)(F:G.1=.int a t)(hx:xs[base+i]?=some (.int (K xs (base+i)) u,q))
  (h:Q (some (gP left a xs base i)) st):Wi (model prog w) A E s (su left G xs base i) Q st:=by
 unfold su;show rn (bA hx ?_);unfold gP at h;cases left with
 |true=>show sh z rfl F h
 |false=>show rn (sh z F rfl (rz h))
theorem ju{left:Bool}{a:Int}{xs:Array C1}{base n i j:Nat}(hs:l8 xs base (base+n))(G:i<=j)(F:j<n)(h:gP left a xs base j=true):gP left a xs base i=true:=by
 have:=hs (base+i) (base+j) af (Qj QZ G) (Nat.add_lt_add_left F base);unfold gP at h ⊢;cases left with
 |true =>
  let z:K xs (base+j)<a:=of_decide_eq_true h;show decide_eq_true (Sb this z)
 |false =>
  let z:¬ a<K xs (base+j):=of_decide_eq_false ‹h›;change(!decide (a<K xs (base+i)))=true;rw[decide_eq_false af];rfl
theorem jF{left:Bool}{a:Int}{xs:Array C1}{base n i j:Nat}(hs:l8 xs base (base+n))(F:i<=j)(z:j<n)(h:gP left a xs base i=false):gP left a xs base j=false:=by
 cases e:gP left a xs base j with
 |false=>rfl
 |true=>rwa[ju hs F z e]at h
theorem eK{st:Ow}{left:Bool}{ab:C1}{a:Int}{t:Wj}{xs:Array C1}{base n hint:Nat}{Q:Option Nat->Ow->Prop}(hk:kindOf st=QM)(aB:ab.1=.int a t)(hx:∀i,i<n->∃t q,xs[base+i]?=some (.int (K xs (base+i)) t,q))
  (hs:l8 xs base (base+n)) (hh:hint<n) (h:∀r,r<=n->(∀i,i<r->gP left a xs base i=true)->(∀i,r<=i->i<n->gP left a xs base i=false)->Q (some r) st) :
  Wi (model prog w) A E s (Ff left ab xs base n hint) Q st:=by
 let B:∀{i:Nat}{Q:Option Bool->Ow->Prop},i<n->Q (some (gP left a xs base i)) st->Wi (model prog w) A E s (su left ab xs base i) Q st:=λhi q=>by
  let#[u,v,e]:=hx _ hi;show HV hk aB e q
 show rn (B hh ?_);cases c:gP left a xs base hint with
 |true =>
  dsimp only;rw[Wy rfl];show rn (Pd (Ox (I:=λx c z=>z=st/\∃l o,c=(none,l,o)/\l<o/\x+1<=o/\hint+l<n/\gP left a xs base (hint+l)=true) (Q:=λc z=>z=st/\∃l o,c=(none,l,o)/\l<o/\hint+l<n/\gP left a xs base (hint+l)=true/\(n-hint<=o\/(hint+o<n/\gP left a xs base (hint+o)=false))) ?_ ?_ ?_) ?_)
  .rintro x c z ad ac ⟨rfl,l,o,rfl,lo,xo,O,J⟩;dsimp only;cases g:o>=n-hint
   .rw[Wy g];show rz #[rfl,l,o,rfl,lo,O,J,.inl g]
   .rw[Wx g];show rn (B (i:=hint+o) af ?_);cases R:gP left a xs base (hint+o)with
    |true=>show rz #[rfl,o,2*o+1,rfl,af,af,af,R]
    |false=>show rz #[rfl,l,o,rfl,lo,O,J,.inr #[af,R]]
  .rintro c z ⟨rfl,l,o,rfl,lo,xo,O,J⟩;show#[rfl,l,o,rfl,lo,O,J,.inl af]
  .show#[rfl,(0),(1),rfl,af,af,hh,c]
  .rintro c z ⟨rfl,l,o,rfl,lo,O,J,am⟩;dsimp only;let f1:∀i,i<hint+l+1->gP left a xs base i=true:=λi hi=>ju hs (j:=hint+l) (Q7 hi) O J;let Y:∀i,hint+min o (n-hint)<=i->i<n->gP left a xs base i=false:=λi hi S=>by
    rcases am with g|⟨g1,g2⟩
    .omega
    .show jF hs (i:=hint+o) af S g2
   let U:hint+l+1<=hint+min o (n-hint):=af;let f4:hint+min o (n-hint)<=n:=af;generalize hint+l+1=ap at f1 U ⊢;generalize hint+min o (n-hint)=as at Y U f4 ⊢;show rn (Pd (Ox (I:=λx c N=>N=z/\∃l r,c=(none,l,r)/\l<=r/\r<=n/\r-l<=n-x/\(∀i,i<l->gP left a xs base i=true)/\∀i,r<=i->i<n->gP left a xs base i=false) (Q:=λc N=>N=z/\∃r,c=(none,r,r)/\r<=n/\(∀i,i<r->gP left a xs base i=true)/\∀i,r<=i->i<n->gP left a xs base i=false) ?_ ?_ ?_) ?_)
   .rintro x c N ad ac ⟨rfl,l,r,rfl,lr,L,hm,G,F⟩;dsimp only;cases g:l>=r
    .rw[Wy g];obtain rfl:l=r:=af;show rz #[rfl,l,rfl,L,G,F]
    .rw[Wx g];show rn (B (i:=l+(r-l)/2) af ?_);cases R:gP left a xs base (l+(r-l)/2)with
     |true=>show rz #[rfl,l+(r-l)/2+1,r,rfl,af,L,af,λi hi=>ju hs (j:=l+(r-l)/2) (Q7 hi) af R,F]
     |false=>show rz #[rfl,l,l+(r-l)/2,rfl,af,af,af,G,λi hi S=>jF hs hi S R]
   .rintro c N ⟨rfl,l,r,rfl,lr,L,hm,G,F⟩;obtain rfl:l=r:=af;show#[rfl,l,rfl,L,G,F]
   .show#[rfl,ap,as,rfl,U,f4,af,f1,Y]
   .rintro c N ⟨rfl,r,rfl,L,G,F⟩;show rz (h r L G F)
 |false =>
  dsimp only;rw[Wx ar];show rn (Pd (Ox (I:=λx c z=>z=st/\∃l o,c=(none,l,o)/\l<o/\x+1<=o/\l<=hint/\gP left a xs base (hint-l)=false) (Q:=λc z=>z=st/\∃l o,c=(none,l,o)/\l<o/\l<=hint/\gP left a xs base (hint-l)=false/\(hint+1<=o\/(o<=hint/\gP left a xs base (hint-o)=true))) ?_ ?_ ?_) ?_)
  .rintro x c z ad ac ⟨rfl,l,o,rfl,lo,xo,O,J⟩;dsimp only;cases g:o>=hint+1
   .rw[Wy g];show rz #[rfl,l,o,rfl,lo,O,J,.inl g]
   .rw[Wx g];show rn (B (i:=hint-o) (UU hh) ?_);cases R:gP left a xs base (hint-o)with
    |true=>show rz #[rfl,l,o,rfl,lo,O,J,.inr #[OF g,R]]
    |false=>show rz #[rfl,o,2*o+1,rfl,af,af,OF g,R]
  .rintro c z ⟨rfl,l,o,rfl,lo,xo,O,J⟩;show#[rfl,l,o,rfl,lo,O,J,.inl af]
  .show#[rfl,(0),(1),rfl,af,af,Oc _,c]
  .rintro c z ⟨rfl,l,o,rfl,lo,O,J,am⟩;dsimp only;let f1:∀i,i<hint+1-min o (hint+1)->gP left a xs base i=true:=λi hi=>by
    rcases am with g|⟨g1,g2⟩
    .omega
    .show ju hs (j:=hint-o) af (UU hh) g2
   let Y:∀i,hint-l<=i->i<n->gP left a xs base i=false:=λi hi S=>jF hs hi S J;let U:hint+1-min o (hint+1)<=hint-l:=af;let f4:hint-l<=n:=af;generalize hint+1-min o (hint+1)=ap at f1 U ⊢;generalize hint-l=as at Y U f4 ⊢;show rn (Pd (Ox (I:=λx c N=>N=z/\∃l r,c=(none,l,r)/\l<=r/\r<=n/\r-l<=n-x/\(∀i,i<l->gP left a xs base i=true)/\∀i,r<=i->i<n->gP left a xs base i=false) (Q:=λc N=>N=z/\∃r,c=(none,r,r)/\r<=n/\(∀i,i<r->gP left a xs base i=true)/\∀i,r<=i->i<n->gP left a xs base i=false) ?_ ?_ ?_) ?_)
   .rintro x c N ad ac ⟨rfl,l,r,rfl,lr,L,hm,G,F⟩;dsimp only;cases g:l>=r
    .rw[Wy g];obtain rfl:l=r:=af;show rz #[rfl,l,rfl,L,G,F]
    .rw[Wx g];show rn (B (i:=l+(r-l)/2) af ?_);cases R:gP left a xs base (l+(r-l)/2)with
     |true=>show rz #[rfl,l+(r-l)/2+1,r,rfl,af,L,af,λi hi=>ju hs (j:=l+(r-l)/2) (Q7 hi) af R,F]
     |false=>show rz #[rfl,l,l+(r-l)/2,rfl,af,af,af,G,λi hi S=>jF hs hi S R]
   .rintro c N ⟨rfl,l,r,rfl,lr,L,hm,G,F⟩;obtain rfl:l=r:=af;show#[rfl,l,rfl,L,G,F]
   .show#[rfl,ap,as,rfl,U,f4,af,f1,Y]
   .rintro c N ⟨rfl,r,rfl,L,G,F⟩;show rz (h r L G F)
end
def le(p q:C1):Prop:=Qf p.1<=Qf q.1
structure Up(a:Array C1):Prop where
 ik:IntKeys a
 up:a.toList.Pairwise le
theorem Up.at{a:Array C1}(u:Up a){i:Nat}(hi:i<a.size):∃t q,a[i]?=some (.int (K a i) t,q):=by
 let#[n,t,z]:=u.ik a[i] (by simp);let e:a[i]?=some a[i]:=getElem?_pos _ i hi;let F:a[i]=(.int n t,a[i].2):=VF z rfl;show#[t,a[i].2,?_];unfold K;rw[e,F];rfl
theorem Up.Lf{a:Array C1}(u:Up a):l8 a 0 a.size:=λi j _ G F=>by
 cases e:i=j
 .rw[e];show OR _
 .let hi:i<a.size:=PQ G F;let z:=Pa.mp u.up i j ‹hi› ‹F› (OQ G e);rw[K_eq hi,K_eq F];simpa[le]using z
theorem l8.sub{a:Array C1}{lo hi z F:Nat}(h:l8 a lo hi)(h1:lo<=z)(h2:F<=hi):l8 a z F:=λi j hi I G=>h i j (le_trans h1 hi) I (N9 G h2)
structure MI(a b out:Array C1)(ia ib:Nat):Prop where
 la:ia<=a.size
 lb:ib<=b.size
 pm:(out.toList++a.toList.drop ia++b.toList.drop ib).Perm (a.toList++b.toList)
 up:out.toList.Pairwise le
 ba:∀p∈out.toList,∀q∈a.toList.drop ia,le p q
 bb:∀p∈out.toList,∀q∈b.toList.drop ib,le p q
theorem MI.sz{a b out:Array C1}{z F:Nat}(m:MI a b out z F):out.size+(a.size-z)+(b.size-F)=a.size+b.size:=by
 have:=m.pm.length_eq;simp at this;omega
theorem MI.uS{a b out O:Array C1}{F L:Nat}(m:MI a b out F L)(Y:Up a){k:Nat}(S:F+k<=a.size)(J:O.toList=out.toList++(a.toList.drop F).take k)(h:∀p∈(a.toList.drop F).take k,∀q∈b.toList.drop L,le p q):MI a b O (F+k) L:=by
 let hd:a.toList.drop (F+k)=(a.toList.drop F).drop k:=(by rw[VH]);let N:(a.toList.drop F).Pairwise le:=Y.up.sublist (RQ _ _);let R:=N;rw[<-Pj k (a.toList.drop F)]at R;let#[U,p2,p3]:=Oh.mp R;show#[S,m.lb,3,λp I q G=>?_,λp I q G=>?_]
 .rw[J,hd,Oa out.toList,Pj];show m.pm
 .rw[J,Oh];show#[m.up,U,λp N q G=>m.ba p N q (RB G)]
 .rw[hd]at G;rw[J]at I;rcases t4.mp I with z|z
  .show m.ba p z q (RC G)
  .show p3 p z q G
 .rw[J]at I;rcases t4.mp I with z|z
  .show m.bb p z q G
  .show h p z q G
theorem MI.vH{a b out O:Array C1}{N F:Nat}(m:MI a b out N F)(Y:Up b){k:Nat}(S:F+k<=b.size)(J:O.toList=out.toList++(b.toList.drop F).take k)(h:∀p∈(b.toList.drop F).take k,∀q∈a.toList.drop N,le p q):MI a b O N (F+k):=by
 let hd:b.toList.drop (F+k)=(b.toList.drop F).drop k:=(by rw[VH]);let L:(b.toList.drop F).Pairwise le:=Y.up.sublist (RQ _ _);let R:=L;rw[<-Pj k (b.toList.drop F)]at R;let#[U,p2,p3]:=Oh.mp R;show#[m.la,S,3,λp I q G=>?_,λp I q G=>?_]
 .show RH ?_ m.pm;rw[J,hd];let e:b.toList.drop F=(b.toList.drop F).take k++(b.toList.drop F).drop k:=(Pj _ _).symm
  conv=>rhs;rw[e]
  generalize (b.toList.drop F).take k=T;generalize (b.toList.drop F).drop k=D;rw[Oa,Oa,Oa];show PX _ ?_;rw[<-Oa, <-Oa];show Qk _ QG
 .rw[J,Oh];show#[m.up,U,λp L q G=>m.bb p L q (RB G)]
 .rw[J]at I;rcases t4.mp I with z|z
  .show m.ba p z q G
  .show h p z q G
 .rw[hd]at G;rw[J]at I;rcases t4.mp I with z|z
  .show m.bb p z q (RC G)
  .show p3 p z q G
def Good(a b R:Array C1):Prop:=R.toList.Perm (a.toList++b.toList)/\R.toList.Pairwise le
theorem eO{a:Array C1}{i:Nat}{q:C1}(h:q∈a.toList.drop i):∃j,i<=j/\j<a.size/\Qf q.1=K a j:=by
 let#[n,z,e]:=TL.mp h;let F:i+n<a.size:=by
  rw[P1]at z;simp at z;show PY z
 show#[i+n,af,F,?_];rw[K_eq F, <-e,UK];simp
theorem eL{a:Array C1}{i k:Nat}{q:C1}(h:q∈(a.toList.drop i).take k):∃j,j<k/\i+j<a.size/\Qf q.1=K a (i+j):=by
 let#[n,z,e]:=TL.mp h;rw[Oz,P1]at z;simp at z;let F:i+n<a.size:=af;show#[n,af,F,?_];rw[K_eq F, <-e,RS,UK];simp
theorem MI.iJ{a b out:Array C1}{z F:Nat}(m:MI a b out z F)(L:Up a)(S:Up b)(hi:z<a.size){p:C1}(G:a[z]?=some p)(h:∀j,F<=j->j<b.size->K a z<=K b j):MI a b (out.push p) (z+1) F:=by
 let ep:a[z]=p:=(by rw[getElem?_pos a z hi]at G;show sN G);show m.uS L (k:=1) (UL hi) ?_ λx hx q I=>?_
 .rw[Sz,P2 ‹hi›];simp[ep]
 .let#[j,R,_,e]:=eL hx;let#[N,h2,J,O]:=eO I;have:j=0:=af;subst this;change Qf x.1<=Qf q.1;rw[e,O];show h N h2 J
theorem MI.mW{a b out:Array C1}{F z:Nat}(m:MI a b out F z)(S:Up a)(L:Up b)(hi:z<b.size){p:C1}(G:b[z]?=some p)(h:∀j,F<=j->j<a.size->K b z<=K a j):MI a b (out.push p) F (z+1):=by
 let ep:b[z]=p:=(by rw[getElem?_pos b z hi]at G;show sN G);show m.vH L (k:=1) (UL hi) ?_ λx hx q I=>?_
 .rw[Sz,P2 ‹hi›];simp[ep]
 .let#[j,R,_,e]:=eL hx;let#[N,h2,J,O]:=eO I;have:j=0:=af;subst this;change Qf x.1<=Qf q.1;rw[e,O];show h N h2 J
theorem vt{a:Array C1}{i k:Nat}:(a.extract i (i+k)).toList=(a.toList.drop i).take k:=by
 rw[Sd,PZ];congr 1;show Tq i k
theorem lN{a:Array C1}{i:Nat}:(a.extract i a.size).toList=a.toList.drop i:=by
 rw[Sd,PZ];show ON ?_;rw[P1];simp
theorem MI.rj{a b out:Array C1}{F z:Nat}(m:MI a b out F z)(J:Up a)(h:z=b.size):Good a b (out++a.extract F a.size++b.extract z b.size):=by
 let e:(out++a.extract F a.size++b.extract z b.size).toList=out.toList++a.toList.drop F++b.toList.drop z:=by
  rw[OU,OU,lN,lN]
 show#[by rw[e];show m.pm,?_];rw[e,h,List.drop_of_length_le (l:=b.toList) (by simp),QU,Oh];show#[m.up,J.up.sublist (RQ _ _),λp G q I=>m.ba p G q I]
theorem MI.last{a b out:Array C1}{F G:Nat}(m:MI a b out F G)(O:Up a)(N:Up b)(hi:F+1=a.size)(h:∀j,G<=j->j<b.size->K b j<=K a F):Good a b (out++b.extract G b.size++a.extract F a.size):=by
 let e:(out++b.extract G b.size++a.extract F a.size).toList=out.toList++b.toList.drop G++a.toList.drop F:=by
  rw[OU,OU,lN,lN]
 show#[3]
 .rw[e];show RH ?_ m.pm;rw[Oa,Oa];show PX _ QG
 .rw[e,Oh,Oh];show#[#[m.up,N.up.sublist (RQ _ _),λp J q I=>m.bb p J q I],O.up.sublist (RQ _ _),λp J q I=>?_];rcases t4.mp J with z|z
  .show m.ba p z q I
  .let#[j,h1,h2,L]:=eO z;let#[R,U,Y,S]:=eO I;have:R=F:=af;subst this;change Qf p.1<=Qf q.1;rw[L,S];show h j h1 h2
theorem MI.Ii{a b out:Array C1}{z F:Nat}(m:MI a b out z F)(R:Up a){k:Nat}(J:z+k<=a.size)(h:∀i j,i<k->F<=j->j<b.size->K a (z+i)<=K b j):MI a b (out++a.extract z (z+k)) (z+k) F :=
 m.uS R J (by rw[OU,vt]) λp G q I=>by
  let#[j,h1,h2,L]:=eL G;let#[S,N,O,U]:=eO I;change Qf p.1<=Qf q.1;rw[L,U];show h j S h1 N O
theorem MI.D0{a b out:Array C1}{F z:Nat}(m:MI a b out F z)(R:Up b){k:Nat}(J:z+k<=b.size)(h:∀i j,i<k->F<=j->j<a.size->K b (z+i)<=K a j):MI a b (out++b.extract z (z+k)) F (z+k):=
 m.vH R J (by rw[OU,vt]) λp G q I=>by
  let#[j,h1,h2,L]:=eL G;let#[S,N,O,U]:=eO I;change Qf p.1<=Qf q.1;rw[L,U];show h j S h1 N O
theorem Bp{a:Int}{xs:Array C1}{base n r:Nat}(G:∀i,i<r->gP false a xs base i=true)(F:∀i,r<=i->i<n->gP false a xs base i=false):(∀i,i<r->K xs (base+i)<=a)/\∀j,base+r<=j->j<base+n->a<K xs j:=by
 show#[λi hi=>?_,λj z I=>?_]
 .have:=G i hi;unfold gP at this;simpa using this
 .have:=F (j-base) (Tr z) af;unfold gP at this;rw[show base+(j-base)=j by omega]at this;simpa using this
theorem uR{a:Int}{xs:Array C1}{base n r:Nat}(G:∀i,i<r->gP true a xs base i=true)(F:∀i,r<=i->i<n->gP true a xs base i=false):(∀i,i<r->K xs (base+i)<a)/\∀j,base+r<=j->j<base+n->a<=K xs j:=by
 show#[λi hi=>?_,λj z I=>?_]
 .have:=G i hi;unfold gP at this;simpa using this
 .have:=F (j-base) (Tr z) af;unfold gP at this;rw[show base+(j-base)=j by omega]at this;simpa using this
theorem MI.grow{a b out O:Array C1}{G F I B:Nat}(m:MI a b out G F)(z:MI a b O I B)(h1:G<=I)(h2:F<=B):out.size<=O.size:=by
 let J:=m.sz;let L:=z.sz;have:=z.la;have:=z.lb;omega
def Cp:Array C1->Array C1->StateT Ow Sem (Array C1):=sortPriv% PySem.Builtin.mergeLo
structure wL(st st':Ow):Prop where
 arr:BY st'=BY st
 kind:kindOf st'=kindOf st
 failed:QN st'=QN st
 pend:N7 st'=N7 st
section
variable{prog:tp}{w:By}{A:L5}{E:WC}{s:oR}{a₀:Array C1}
theorem aW{α:Type}{c:Prop}[Decidable c]{m n:StateT Ow Sem α}{Q:α->Ow->Prop}{st:Ow}(h1:c->Wi (model prog w) A E s m Q st)(h2:¬ c->Wi (model prog w) A E s n Q st):Wi (model prog w) A E s (if c then m else n) Q st:=by
 cases z:c
 .rw[Wy z];show h1 z
 .rw[Wx z];show h2 z
def ID:Nat->StateT Ow Sem Unit:=sortPriv% PySem.Builtin.setMinGallop
theorem zr{F st:Ow}{g:Nat}{Q:Unit->Ow->Prop}(k:wL F st)(h:∀z,wL F z->Q () z):Wi (model prog w) A E s (ID g) Q st :=
 Qi (h _ #[k.arr,k.kind,k.failed,k.pend])
theorem yb{st:Ow}{a b:Array C1}{Q:Array C1->Ow->Prop}(hk:kindOf st=QM)(J:Up a)(L:Up b)(na:1<=a.size)(nb:1<=b.size)(h0:K b 0<K a 0)(hl:∀j,j<b.size->K b j<K a (a.size-1))
  (h:∀R ab,Good a b R->wL st ab->Q R ab):Wi (model prog w) A E s (Cp a b) Q st:=by
 show rn (SJ (Qw #[4]));let#[t0,q0,e0]:=L.at (i:=0) (UM nb);show rn (bA e0 ?_);let sa:=J.Lf;let sb:=L.Lf;let M0:MI a b ([(Value.int (K b 0) t0,q0)].toArray) 0 1:=by
  let M:MI a b ([].toArray) 0 0:=#[Oc _,Oc _,by simp,Sy,(λp hp=>by cases hp),(λp hp=>by cases hp)];show M.mW J L (UM nb) e0 λj _ hj=>by
   have:=sa 0 j af af hj;omega
 show aW (λg=>?_) (λg=>?_)
 .show rz (h _ _ (M0.rj J ‹g›) #[1,1])
 let g1:¬ 1=b.size:=‹g›;show aW (λg=>?_) (λg=>?_)
 .let g':0+1=a.size:=‹g›;show rz (h _ _ (M0.last J L g' λj _ hj=>?_) #[1,1]);have:=hl j hj;rw[<-g']at this;show Oo this
 let g2:¬ 0+1=a.size:=‹g›;show rn (Q6 ?_);show rn (Pd (Ox (I:=λx c ab=>Li λout F G mg=>Em (c=(none,out,F,G,mg)) (MI a b out F G) (F+1<a.size) (G<b.size) (x+1<=out.size) (wL st ab)) (Q:=λc ab=>∃R,uN (Good a b R) (c.1=some R) (wL st ab)) ?_ ?_ ?_) ?_)
 .rintro x c a2 bm bl ⟨out,F,G,mg,rfl,M,O,lb,lo,K1⟩;show rn (Pd (Ox (I:=λy c ab=>Es λS F G ac bc=>Em (c=(none,S,F,G,ac,bc)) (MI a b S F G) (F+1<a.size) (G<b.size) (out.size+y<=S.size) (wL st ab))
   (Q:=λc ab=>wL st ab/\((∃R,Good a b R/\c.1=some R)\/(Es λS F G ac bc=>Jh (c=(none,S,F,G,ac,bc)) (MI a b S F G) (F+1<a.size) (G<b.size) (out.size+1<=S.size)))) ?_ ?_ ?_) ?_)
  .rintro y c a0 bf bb ⟨S,F,G,ac,bc,rfl,M,O,lb,a8,K2⟩;let ba:kindOf a0=QM:=K2.kind.trans hk;let#[tb,qb,eb]:=L.at lb;let#[ta,qa,ea]:=J.at (i:=F) (SA O);show rn (bA eb (rn (bA ea (rn (sh ba rfl rfl ?_)))));cases c:K b G<K a F
   .rw[decide_eq_true c];show rn (bA eb ?_);let M2:=M.mW J L lb eb λj h1 h2=>by
     have:=sa F j af h1 h2;omega
    show aW (λg=>?_) (λg=>?_)
    .show rz #[K2,.inl #[_,M2.rj J ‹g›,rfl]]
    .let g':¬ G+1=b.size:=‹g›;let sz:(S.push (Value.int (K b G) tb,qb)).size=S.size+1:=SK ..;show aW (λg=>?_) (λg=>?_)
     .show rz #[K2,.inr #[S.push (Value.int (K b G) tb,qb),F,G+1,_,0,M2,O,OQ lb g',af]]
     .show rz #[S.push (Value.int (K b G) tb,qb),F,G+1,_,0,M2,O,OQ lb g',af,K2]
   .rw[decide_eq_false c];show rn (bA ea ?_);let M2:=M.iJ J L (SA O) ea λj h1 h2=>by
     have:=sb G j af h1 h2;omega
    show aW (λg=>?_) (λg=>?_)
    .let g':F+1+1=a.size:=‹g›;show rz #[K2,.inl #[_,M2.last J L g' (λj h1 h2=>?_),rfl]];have:=hl j h2;rw[show a.size-1=F+1 by show Qj P5 (id (Ru g'))]at this;show Oo this
    .let g':¬ F+1+1=a.size:=‹g›;let sz:(S.push (Value.int (K a F) ta,qa)).size=S.size+1:=SK ..;show aW (λg=>?_) (λg=>?_)
     .show rz #[K2,.inr #[S.push (Value.int (K a F) ta,qa),F+1,G,_,0,M2,OQ O g',lb,af]]
     .show rz #[S.push (Value.int (K a F) ta,qa),F+1,G,_,0,M2,OQ O g',lb,af,K2]
  .rintro c a0 ⟨S,F,G,ac,bc,rfl,M,O,lb,a8,K2⟩;show#[K2,.inr #[2,2,0,M,O,lb,af]]
  .show#[out,F,G,_,0,M,O,lb,af,K1]
  .rintro c a0 ⟨K2,⟨R,hR,e⟩|⟨S,F,G,ac,bc,rfl,M,O,lb,a8⟩⟩
   .let#[c1,c2]:=c;cases e;show rz #[R,hR,rfl,K2]
   .show rn (SJ (Qw #[4]));show rn (Pd (Ox (I:=λy c ab=>JI λam F G mg ac bc=>Em (c=(none,am,F,G,mg,ac,bc)) (MI a b am F G) (F+1<a.size) (G<b.size) (S.size<=am.size) (wL st ab))
     (Q:=λc ab=>wL st ab/\((∃R,Good a b R/\c.1=some R)\/(JI λam F G mg ac bc=>Jh (c=(none,am,F,G,mg,ac,bc)) (MI a b am F G) (F+1<a.size) (G<b.size) (S.size<=am.size)))) ?_ ?_ ?_) ?_)
    .rintro y c a7 bf bb ⟨am,F,G,a6,ac,bc,rfl,M,O,lb,ad,K3⟩;show aW (λg=>?_) (λg=>?_)
     all_goals
      show rn (zr K3 λa5 U=>?_);let a4:kindOf a5=QM:=U.kind.trans hk;let#[tb,qb,eb]:=L.at lb;show rn (bA eb (rn (eK (base:=F) (n:=a.size-F) (hint:=0) a4 rfl (λi hi=>J.at (PY hi)) (sa.sub (Oc _) af) af λr hr r1 r2=>?_)));let#[R1,R2]:=Bp r1 r2;rw[show F+(a.size-F)=a.size by omega]at R2;let be:F+r<a.size:=by
       cases z:F+r<a.size
       .show z
       .let a1:=R1 (a.size-1-F) af;rw[show F+(a.size-1-F)=a.size-1 by omega]at a1;have:=hl G lb;omega
      let M1:=M.Ii J (k:=r) (SD be) λi j hi h1 h2=>PD (R1 i hi) (sb G j (Oc _) h1 h2);show aW (λg2=>?_) (λg2=>?_)
      .show aW (λg3=>?_) (λg3=>?_)
       .let g':F+r+1=a.size:=‹g3›;show rz #[U,.inl #[_,M1.last J L g' (λj h1 h2=>?_),rfl]];have:=hl j h2;rw[show a.size-1=F+r by omega]at this;show Oo this
       .let bi:¬ F+r+1=a.size:=‹g3›;show aW (λg4=>?_) (λg4=>?_)
        .let g':F+r=a.size:=‹g4›;omega
        .clear g4;let M2:=M1.mW J L lb eb λj h1 h2=>Oo (R2 j af h2);show rn (bA eb ?_);show aW (λg5=>rz #[U,.inl #[_,M2.rj J ‹g5›,rfl]]) (λg5=>?_);let ap:¬ G+1=b.size:=‹g5›;let#[ta,qa,ea]:=J.at (i:=F+r) af;show rn (bA ea (rn (eK (base:=G+1) (n:=b.size-(G+1)) (hint:=0) a4 rfl (λi hi=>L.at (PY hi)) (sb.sub (Oc _) af) af λr' as aT aB=>?_)));let#[T1,T2]:=uR aT aB;rw[show G+1+(b.size-(G+1))=b.size by show Rv lb]at T2;let M3:=M2.D0 L (k:=r') (Ww (Ql lb) as) λi j hi h1 h2=>Oo (Sa (T1 i hi) (sa _ j (Oc _) h1 h2));show aW (λg6=>?_) (λg6=>?_)
         .show aW (λg7=>rz #[U,.inl #[_,M3.rj J ‹g7›,rfl]]) (λg7=>?_);let bd:¬ G+1+r'=b.size:=‹g7›;show rn (bA ea ?_);let N:=M3.iJ J L af ea λj h1 h2=>T2 j af h2;show aW (λg8=>?_) (λg8=>?_)
          .let Y:F+r+1+1=a.size:=‹g8›;show rz #[U,.inl #[_,N.last J L Y (λj h1 h2=>?_),rfl]];have:=hl j h2;rw[show a.size-1=F+r+1 by show Qj P5 (id (Ru Y))]at this;show Oo this
          .let Y:¬ F+r+1+1=a.size:=‹g8›;show aW (λg9=>rz #[U,.inr #[_,F+r+1,G+1+r',2,0,N,af,af,le_trans ad (M.grow N af af)]]) (λg9=>rz #[_,F+r+1,G+1+r',2,0,N,af,af,le_trans ad (M.grow N af af),U])
         .let a3:r'=0:=af;subst a3;show rn (bA ea ?_);let N:=M2.iJ J L af ea λj h1 h2=>T2 j af h2;show aW (λg8=>?_) (λg8=>?_)
          .let Y:F+r+1+1=a.size:=‹g8›;show rz #[U,.inl #[_,N.last J L Y (λj h1 h2=>?_),rfl]];have:=hl j h2;rw[show a.size-1=F+r+1 by show Qj P5 (id (Ru Y))]at this;show Oo this
          .let Y:¬ F+r+1+1=a.size:=‹g8›;show aW (λg9=>rz #[U,.inr #[_,F+r+1,G+1,2,0,N,af,OQ lb ap,le_trans ad (M.grow N af af)]]) (λg9=>rz #[_,F+r+1,G+1,2,0,N,af,OQ lb ap,le_trans ad (M.grow N af af),U])
      .let r0:r=0:=af;subst r0;let M2:=M.mW J L lb eb λj h1 h2=>Oo (R2 j af h2);show rn (bA eb ?_);show aW (λg5=>rz #[U,.inl #[_,M2.rj J ‹g5›,rfl]]) (λg5=>?_);let ap:¬ G+1=b.size:=‹g5›;let#[ta,qa,ea]:=J.at (i:=F) af;show rn (bA ea (rn (eK (base:=G+1) (n:=b.size-(G+1)) (hint:=0) a4 rfl (λi hi=>L.at (PY hi)) (sb.sub (Oc _) af) af λr' as aT aB=>?_)));let#[T1,T2]:=uR aT aB;rw[show G+1+(b.size-(G+1))=b.size by show Rv lb]at T2;let M3:=M2.D0 L (k:=r') (Ww (Ql lb) as) λi j hi h1 h2=>Oo (Sa (T1 i hi) (sa _ j (Oc _) h1 h2));show aW (λg6=>?_) (λg6=>?_)
       .show aW (λg7=>rz #[U,.inl #[_,M3.rj J ‹g7›,rfl]]) (λg7=>?_);let bd:¬ G+1+r'=b.size:=‹g7›;show rn (bA ea ?_);let N:=M3.iJ J L af ea λj h1 h2=>T2 j af h2;show aW (λg8=>?_) (λg8=>?_)
        .let Y:F+1+1=a.size:=‹g8›;show rz #[U,.inl #[_,N.last J L Y (λj h1 h2=>?_),rfl]];have:=hl j h2;rw[show a.size-1=F+1 by show Qj P5 (id (Ru Y))]at this;show Oo this
        .let Y:¬ F+1+1=a.size:=‹g8›;show aW (λg9=>rz #[U,.inr #[_,F+1,G+1+r',2,0,N,OQ O Y,af,le_trans ad (M.grow N af af)]]) (λg9=>rz #[_,F+1,G+1+r',2,0,N,OQ O Y,af,le_trans ad (M.grow N af af),U])
       .let a3:r'=0:=af;subst a3;show rn (bA ea ?_);let N:=M2.iJ J L af ea λj h1 h2=>T2 j af h2;show aW (λg8=>?_) (λg8=>?_)
        .let Y:F+1+1=a.size:=‹g8›;show rz #[U,.inl #[_,N.last J L Y (λj h1 h2=>?_),rfl]];have:=hl j h2;rw[show a.size-1=F+1 by show Qj P5 (id (Ru Y))]at this;show Oo this
        .let Y:¬ F+1+1=a.size:=‹g8›;show aW (λg9=>rz #[U,.inr #[_,F+1,G+1,2,0,N,OQ O Y,OQ lb ap,le_trans ad (M.grow N af af)]]) (λg9=>rz #[_,F+1,G+1,2,0,N,af,af,le_trans ad (M.grow N af af),U])
    .rintro c a7 ⟨am,F,G,a6,ac,bc,rfl,M,O,lb,ad,K3⟩;show#[K3,.inr #[2,2,_,0,M,O,lb,ad]]
    .show#[S,F,G,2,0,M,O,lb,t7 _,K2]
    .rintro c a7 ⟨K3,⟨R,hR,e⟩|⟨am,F,G,a6,ac,bc,rfl,M,O,lb,ad⟩⟩
     .let#[c1,c2]:=c;cases e;show rz #[R,hR,rfl,K3]
     .show rn (zr K3 λa5 U=>?_);show rz #[am,F,G,0,M,O,lb,af,U]
 .rintro c a2 ⟨out,F,G,mg,rfl,M,O,lb,lo,K1⟩;exfalso;have:=M.sz;omega
 .show#[2,_,0,M0,OQ na g2,OQ nb g1,t7 _,#[1,1]]
 .rintro c a2 ⟨R,hR,e,K1⟩;let#[c1,c2]:=c;cases e;show rz (h R a2 hR K1)
end
def seg(a:Array C1)(k n:Nat):List C1:=(a.toList.drop k).take (n-k)
theorem jU{a:Array C1}{k n:Nat}(h:k<=n):a.toList.take n=a.toList.take k++seg a k n:=by
 unfold seg;let e:a.toList.take k=(a.toList.take n).take k:=(by rw[List.take_take,SE h]);rw[e, <-List.drop_take,Pj]
theorem nX{a:Array C1}{k n:Nat}{q:C1}(h:q∈seg a k n):∃j,k<=j/\j<n/\j<a.size/\Qf q.1=K a j:=by
 let#[j,h1,h2,e]:=eL h;show#[k+j,af,PY h1,h2,e]
theorem nA{a:Array C1}{n:Nat}{q:C1}(h:q∈a.toList.take n):∃j,j<n/\j<a.size/\Qf q.1=K a j:=by
 have:q∈(a.toList.drop 0).take n:=(by rw[VI];show h);let#[j,h1,h2,e]:=eL this;rw[VJ]at h2 e;show#[j,h1,h2,e]
theorem iy{a:Array C1}{k n:Nat}:(a.extract k n).toList=seg a k n:=by
 unfold seg;rw[Sd,PZ]
theorem nU{a:Array C1}{n:Nat}:(a.extract 0 n).toList=a.toList.take n:=by
 rw[Sd,PZ];simp
theorem ze{a:Array C1}{k:Nat}(h:k<a.size):seg a k (k+1)=[a[k]]:=by
 unfold seg;rw[P2 ‹h›];simp
structure MH(a b out:Array C1)(na nb:Nat):Prop where
 la:na<=a.size
 lb:nb<=b.size
 pm:(a.toList.take na++b.toList.take nb++out.toList.reverse).Perm (a.toList++b.toList)
 up:out.toList.reverse.Pairwise le
 ab:∀p∈a.toList.take na,∀q∈out.toList,le p q
 bb:∀p∈b.toList.take nb,∀q∈out.toList,le p q
theorem MH.sz{a b out:Array C1}{z F:Nat}(m:MH a b out z F):out.size+z+F=a.size+b.size:=by
 have:=m.pm.length_eq;let h1:=m.la;let h2:=m.lb;simp at this;omega
theorem MH.grow{a b out O:Array C1}{F z I B:Nat}(m:MH a b out F z)(G:MH a b O I B)(h1:I<=F)(h2:B<=z):out.size<=O.size:=by
 let J:=m.sz;let L:=G.sz;omega
theorem nN{out:Array C1}{l r:List C1}{q:C1}(h:out.toList.reverse=l++r.reverse)(F:q∈out.toList):q∈l\/q∈r:=by
 have:q∈out.toList.reverse:=Pk.mpr F;rw[h]at this;rcases t4.mp this with z|z
 .show .inl z
 .show .inr (Pk.mp z)
theorem MH.uS{a b out R:Array C1}{F O k:Nat}(m:MH a b out F O)(ua:Up a)(S:k<=F)(L:R.toList.reverse=seg a k F++out.toList.reverse)(h:∀i j,i<O->i<b.size->k<=j->j<F->K b i<=K a j):MH a b R k O:=by
 let N:=jU (a:=a) S;let J:(a.toList.take F).Pairwise le:=ua.up.sublist (QC _ _);rw[N]at J;let#[p1,p2,p3]:=Oh.mp J;let ac:=m.la;show#[le_trans S ac,m.lb,3,λp I q G=>?_,λp I q G=>?_]
 .show RH ?_ m.pm;rw[L,N];generalize seg a k F=T;generalize a.toList.take k=D;generalize b.toList.take O=B;rw[Oa,Oa,Oa];show PX _ ?_;rw[<-Oa, <-Oa];show Qk _ QG
 .rw[L,Oh];show#[p2,m.up,λp J q G=>m.ab p ?_ q (Pk.mp G)];rw[N];show wh _ J
 .rcases nN L G with z|z
  .show p3 p I q z
  .show m.ab p ?_ q z;rw[N];show OB _ I
 .rcases nN L G with z|z
  .let#[i,i1,i2,Y]:=nA I;let#[j,U,j2,j3,e2]:=nX z;change Qf p.1<=Qf q.1;rw[Y,e2];show h i j i1 i2 U j2
  .show m.bb p I q z
theorem MH.vH{a b out R:Array C1}{J F k:Nat}(m:MH a b out J F)(ub:Up b)(S:k<=F)(N:R.toList.reverse=seg b k F++out.toList.reverse)(h:∀i j,i<J->i<a.size->k<=j->j<F->K a i<=K b j):MH a b R J k:=by
 let O:=jU (a:=b) S;let L:(b.toList.take F).Pairwise le:=ub.up.sublist (QC _ _);rw[O]at L;let#[p1,p2,p3]:=Oh.mp L;let U:=m.lb;show#[m.la,le_trans S U,3,λp I q G=>?_,λp I q G=>?_]
 .show RH ?_ m.pm;rw[N,O];generalize seg b k F=T;generalize b.toList.take k=D;generalize a.toList.take J=B;rw[Oa,Oa,Oa]
 .rw[N,Oh];show#[p2,m.up,λp L q G=>m.bb p ?_ q (Pk.mp G)];rw[O];show wh _ L
 .rcases nN N G with z|z
  .let#[i,i1,i2,e1]:=nA I;let#[j,Y,j2,j3,e2]:=nX z;change Qf p.1<=Qf q.1;rw[e1,e2];show h i j i1 i2 Y j2
  .show m.ab p I q z
 .rcases nN N G with z|z
  .show p3 p I q z
  .show m.bb p ?_ q z;rw[O];show OB _ I
theorem MH.iJ{a b out:Array C1}{z F:Nat}(m:MH a b out z F)(J:Up a)(I:1<=z){p:C1}(G:a[z-1]?=some p)(h:∀i,i<F->i<b.size->K b i<=K a (z-1)):MH a b (out.push p) (z-1) F:=by
 let L:=m.la;let hi:z-1<a.size:=TM I L;let ep:a[z-1]=p:=(by rw[getElem?_pos a _ hi]at G;show sN G);show m.uS J (We z 1) ?_ λi j h1 h2 N O=>?_
 .have:=ze hi;rw[show z-1+1=z by show Uu I]at this;rw[this,Sz,Q8,ep];rfl
 .rw[show j=z-1 by omega];show h i h1 h2
theorem MH.mW{a b out:Array C1}{F z:Nat}(m:MH a b out F z)(L:Up b)(I:1<=z){p:C1}(G:b[z-1]?=some p)(h:∀i,i<F->i<a.size->K a i<=K b (z-1)):MH a b (out.push p) F (z-1):=by
 let J:=m.lb;let hi:z-1<b.size:=TM I J;let ep:b[z-1]=p:=(by rw[getElem?_pos b _ hi]at G;show sN G);show m.vH L (We z 1) ?_ λi j h1 h2 N O=>?_
 .have:=ze hi;rw[show z-1+1=z by show Uu I]at this;rw[this,Sz,Q8,ep];rfl
 .rw[show j=z-1 by omega];show h i h1 h2
theorem MH.Ii{a b out:Array C1}{z F k:Nat}(m:MH a b out z F)(G:Up a)(I:k<=z)(h:∀i j,i<F->i<b.size->k<=j->j<z->K b i<=K a j):MH a b (out++(a.extract k z).reverse) k F :=
 m.uS G I (by rw[OU,Q8,Se,TN,iy]) h
theorem MH.D0{a b out:Array C1}{F z k:Nat}(m:MH a b out F z)(G:Up b)(I:k<=z)(h:∀i j,i<F->i<a.size->k<=j->j<z->K a i<=K b j):MH a b (out++(b.extract k z).reverse) F k :=
 m.vH G I (by rw[OU,Q8,Se,TN,iy]) h
theorem MH.done{a b out:Array C1}{z F:Nat}(m:MH a b out z F)(L:Up a)(J:Up b)(h:z=0\/F=0):Good a b (a.extract 0 z++b.extract 0 F++out.reverse):=by
 let e:(a.extract 0 z++b.extract 0 F++out.reverse).toList=a.toList.take z++b.toList.take F++out.toList.reverse:=by
  rw[OU,OU,nU,nU,Se]
 show#[by rw[e];show m.pm,?_];rw[e];rcases h with h|h
 .rw[h,UW,Vf,Oh];show#[J.up.sublist (QC _ _),m.up,λp G q I=>m.bb p G q (Pk.mp I)]
 .rw[h,UW,QU,Oh];show#[L.up.sublist (QC _ _),m.up,λp G q I=>m.ab p G q (Pk.mp I)]
theorem MH.first{a b out:Array C1}{G F:Nat}(m:MH a b out G F)(O:Up a)(N:Up b)(hn:F=1)(h:∀j,j<a.size->K b 0<=K a j):Good a b (b.extract 0 F++a.extract 0 G++out.reverse):=by
 let e:(b.extract 0 F++a.extract 0 G++out.reverse).toList=b.toList.take F++a.toList.take G++out.toList.reverse:=by
  rw[OU,OU,nU,nU,Se]
 show#[3]
 .rw[e];show(Qk _ QG).trans m.pm
 .rw[e,Oh,Oh];show#[#[N.up.sublist (QC _ _),O.up.sublist (QC _ _),λp J q I=>?_],m.up,λp J q I=>?_]
  .let#[i,Y,i2,L]:=nA J;let#[j,U,R,S]:=nA I;change Qf p.1<=Qf q.1;rw[L,S,show i=0 by omega];show h j R
  .rcases t4.mp J with z|z
   .show m.bb p z q (Pk.mp I)
   .show m.ab p z q (Pk.mp I)
def DW:Array C1->Array C1->StateT Ow Sem (Array C1):=sortPriv% PySem.Builtin.mergeHi
section
variable{prog:tp}{w:By}{A:L5}{E:WC}{s:oR}{a₀:Array C1}
theorem xE{st:Ow}{a b:Array C1}{Q:Array C1->Ow->Prop}(hk:kindOf st=QM)(G:Up a)(J:Up b)(F:1<=a.size)(z:1<=b.size)(h0:K b 0<K a 0)(hl:∀j,j<b.size->K b j<K a (a.size-1))
  (h:∀R ab,Good a b R->wL st ab->Q R ab):Wi (model prog w) A E s (DW a b) Q st:=by
 show rn (SJ (Qw #[4]));let sa:=G.Lf;let sb:=J.Lf;let as:∀j,j<a.size->K b 0<=K a j:=λj hj=>by
  have:=sa 0 j (Oc _) (Oc _) hj;omega
 let#[t0,q0,e0]:=G.at (i:=a.size-1) af;show rn (bA e0 ?_);let M0:MH a b ([(Value.int (K a (a.size-1)) t0,q0)].toArray) (a.size-1) b.size:=by
  let M:MH a b ([].toArray) a.size b.size:=#[t7 _,t7 _,(by rw[ON (l:=a.toList) (by simp),ON (l:=b.toList) (by simp)];simp),Sy,(λp _ q hq=>by cases hq),(λp _ q hq=>by cases hq)];show M.iJ G F e0 λi h1 h2=>Oo (hl i h2)
 show aW (λg=>rz (h _ _ (M0.done G J (.inl ‹g›)) #[1,1])) (λg=>?_);let g1:¬ a.size-1=0:=‹g›;show aW (λg=>rz (h _ _ (M0.first G J ‹g› as) #[1,1])) (λg=>?_);let g2:¬ b.size=1:=‹g›;show rn (Q6 ?_);show rn (Pd (Ox (I:=λx c ab=>Li λF z out mg=>Em (c=(none,F,z,out,mg)) (MH a b out F z) (1<=F) (2<=z) (x+1<=out.size) (wL st ab)) (Q:=λc ab=>∃R,uN (Good a b R) (c.1=some R) (wL st ab)) ?_ ?_ ?_) ?_)
 .rintro x c a1 bx bv ⟨F,z,out,mg,rfl,M,la,lb,lo,K1⟩;show rn (Pd (Ox (I:=λy c ab=>Es λF z N ac bc=>Em (c=(none,F,z,N,ac,bc)) (MH a b N F z) (1<=F) (2<=z) (out.size+y<=N.size) (wL st ab))
   (Q:=λc ab=>wL st ab/\((∃R,Good a b R/\c.1=some R)\/(Es λF z N ac bc=>Jh (c=(none,F,z,N,ac,bc)) (MH a b N F z) (1<=F) (2<=z) (out.size+1<=N.size)))) ?_ ?_ ?_) ?_)
  .rintro y c a0 bm bd ⟨F,z,N,ac,bc,rfl,M,la,lb,a8,K2⟩;let bb:kindOf a0=QM:=K2.kind.trans hk;let lA:=M.la;let lB:=M.lb;let#[tb,qb,eb]:=J.at (i:=z-1) af;let#[ta,qa,U]:=G.at (i:=F-1) af;show rn (bA eb (rn (bA U (rn (sh bb rfl rfl ?_)))));cases c:K b (z-1)<K a (F-1)
   .rw[decide_eq_true c];show rn (bA U ?_);let M2:=M.iJ G af U λi h1 h2=>Oo (Sb (sb i (z-1) (Oc _) af af) c);show aW (λg=>rz #[K2,.inl #[_,M2.done G J (.inl ‹g›),rfl]]) (λg=>?_);let g':¬ F-1=0:=‹g›;let sz:(N.push (Value.int (K a (F-1)) ta,qa)).size=N.size+1:=SK ..;show aW (λg=>rz #[K2,.inr #[F-1,z,N.push (Value.int (K a (F-1)) ta,qa),_,0,M2,af,lb,af]]) (λg=>rz #[F-1,z,N.push (Value.int (K a (F-1)) ta,qa),_,0,M2,af,lb,af,K2])
   .rw[decide_eq_false c];show rn (bA eb ?_);let M2:=M.mW J af eb λi h1 h2=>PD (sa i (F-1) (Oc _) af af) (Int.not_lt.mp c);show aW (λg=>rz #[K2,.inl #[_,M2.first G J ‹g› as,rfl]]) (λg=>?_);let g':¬ z-1=1:=‹g›;let sz:(N.push (Value.int (K b (z-1)) tb,qb)).size=N.size+1:=SK ..;show aW (λg=>rz #[K2,.inr #[F,z-1,N.push (Value.int (K b (z-1)) tb,qb),_,0,M2,la,af,af]]) (λg=>rz #[F,z-1,N.push (Value.int (K b (z-1)) tb,qb),_,0,M2,la,af,af,K2])
  .rintro c a0 ⟨F,z,N,ac,bc,rfl,M,la,lb,a8,K2⟩;show#[K2,.inr #[F,z,N,_,0,M,la,lb,af]]
  .show#[F,z,out,_,0,M,la,lb,af,K1]
  .rintro c a0 ⟨K2,⟨R,hR,e⟩|⟨F,z,N,ac,bc,rfl,M,la,lb,a8⟩⟩
   .let#[c1,c2]:=c;cases e;show rz #[R,hR,rfl,K2]
   .show rn (SJ (Qw #[4]));show rn (Pd (Ox (I:=λy c ab=>JI λF z ad mg ac bc=>Em (c=(none,F,z,ad,mg,ac,bc)) (MH a b ad F z) (1<=F) (2<=z) (N.size<=ad.size) (wL st ab))
     (Q:=λc ab=>wL st ab/\((∃R,Good a b R/\c.1=some R)\/(JI λF z ad mg ac bc=>Jh (c=(none,F,z,ad,mg,ac,bc)) (MH a b ad F z) (1<=F) (2<=z) (N.size<=ad.size)))) ?_ ?_ ?_) ?_)
    .rintro y c a7 bm bd ⟨F,z,ad,a6,ac,bc,rfl,M,la,lb,am,K3⟩;show aW (λg=>?_) (λg=>?_)
     all_goals
      show rn (zr K3 λa5 O=>?_);let a4:kindOf a5=QM:=O.kind.trans hk;let lA:=M.la;let lB:=M.lb;let#[tb,qb,eb]:=J.at (i:=z-1) af;show rn (bA eb (rn (eK (base:=0) (n:=F) (hint:=F-1) a4 rfl (λi hi=>G.at af) (sa.sub (Oc _) af) af λr hr r1 r2=>?_)));let#[R1,R2]:=Bp r1 r2;simp only[VJ]at R1 R2;let M1:=M.Ii G (k:=r) af λi j h1 h2 h3 h4=>Oo (Sb (sb i (z-1) (Oc _) af af) (R2 j h3 h4));show aW (λg2=>?_) (λg2=>?_)
      .show aW (λg3=>rz #[O,.inl #[_,M1.done G J (.inl ‹g3›),rfl]]) (λg3=>?_);let bn:¬ r=0:=‹g3›;let M2:=M1.mW J af eb λi h1 h2=>R1 i af;show rn (bA eb ?_);show aW (λg5=>rz #[O,.inl #[_,M2.first G J ‹g5› as,rfl]]) (λg5=>?_);let bi:¬ z-1=1:=‹g5›;let#[ta,qa,U]:=G.at (i:=r-1) af;show rn (bA U (rn (eK (base:=0) (n:=z-1) (hint:=z-1-1) a4 rfl (λi hi=>J.at af) (sb.sub (Oc _) af) af λS ba aT aB=>?_)));let#[T1,T2]:=uR aT aB;simp only[VJ]at T1 T2;let M3:=M2.D0 J (k:=S) af λi j h1 h2 h3 h4=>PD (sa i (r-1) (Oc _) af af) (T2 j h3 h4);show aW (λg6=>?_) (λg6=>?_)
       .show aW (λg7=>rz #[O,.inl #[_,M3.first G J ‹g7› as,rfl]]) (λg7=>?_);let bl:¬ S=1:=‹g7›;show aW (λap=>rz #[O,.inl #[_,M3.done G J (.inr ‹ap›),rfl]]) (λap=>?_);let be:¬ S=0:=‹ap›;show rn (bA U ?_);let L:=M3.iJ G af U λi h1 h2=>Oo (T1 i af);show aW (λY=>rz #[O,.inl #[_,L.done G J (.inl ‹Y›),rfl]]) (λY=>?_);let a3:¬ r-1=0:=‹Y›;show aW (λg9=>rz #[O,.inr #[r-1,S,2,_,0,L,af,af,le_trans am (M.grow L af af)]]) (λg9=>rz #[r-1,S,2,_,0,L,af,af,le_trans am (M.grow L af af),O])
       .let bf:¬ z-1-S>0:=g6;let a2:S=z-1:=af;subst a2;show rn (bA U ?_);let L:=M2.iJ G af U λi h1 h2=>Oo (T1 i af);show aW (λY=>rz #[O,.inl #[_,L.done G J (.inl ‹Y›),rfl]]) (λY=>?_);let a3:¬ r-1=0:=‹Y›;show aW (λg9=>rz #[O,.inr #[r-1,z-1,2,_,0,L,af,af,le_trans am (M.grow L af af)]]) (λg9=>rz #[r-1,z-1,2,_,0,L,af,af,le_trans am (M.grow L af af),O])
      .let bz:¬ F-r>0:=g2;let r0:r=F:=af;subst r0;let M2:=M.mW J af eb λi h1 h2=>R1 i af;show rn (bA eb ?_);show aW (λg5=>rz #[O,.inl #[_,M2.first G J ‹g5› as,rfl]]) (λg5=>?_);let bi:¬ z-1=1:=‹g5›;let#[ta,qa,U]:=G.at (i:=r-1) af;show rn (bA U (rn (eK (base:=0) (n:=z-1) (hint:=z-1-1) a4 rfl (λi hi=>J.at af) (sb.sub (Oc _) af) af λS ba aT aB=>?_)));let#[T1,T2]:=uR aT aB;simp only[VJ]at T1 T2;let M3:=M2.D0 J (k:=S) af λi j h1 h2 h3 h4=>PD (sa i (r-1) (Oc _) af af) (T2 j h3 h4);show aW (λg6=>?_) (λg6=>?_)
       .show aW (λg7=>rz #[O,.inl #[_,M3.first G J ‹g7› as,rfl]]) (λg7=>?_);let bl:¬ S=1:=‹g7›;show aW (λap=>rz #[O,.inl #[_,M3.done G J (.inr ‹ap›),rfl]]) (λap=>?_);let be:¬ S=0:=‹ap›;show rn (bA U ?_);let L:=M3.iJ G af U λi h1 h2=>Oo (T1 i af);show aW (λY=>rz #[O,.inl #[_,L.done G J (.inl ‹Y›),rfl]]) (λY=>?_);let a3:¬ r-1=0:=‹Y›;show aW (λg9=>rz #[O,.inr #[r-1,S,2,_,0,L,af,af,le_trans am (M.grow L af af)]]) (λg9=>rz #[r-1,S,2,_,0,L,af,af,le_trans am (M.grow L af af),O])
       .let bf:¬ z-1-S>0:=g6;let a2:S=z-1:=af;subst a2;show rn (bA U ?_);let L:=M2.iJ G af U λi h1 h2=>Oo (T1 i af);show aW (λY=>rz #[O,.inl #[_,L.done G J (.inl ‹Y›),rfl]]) (λY=>?_);let a3:¬ r-1=0:=‹Y›;show aW (λg9=>rz #[O,.inr #[r-1,z-1,2,_,0,L,af,af,le_trans am (M.grow L af af)]]) (λg9=>rz #[r-1,z-1,2,_,0,L,af,af,le_trans am (M.grow L af af),O])
    .rintro c a7 ⟨F,z,ad,a6,ac,bc,rfl,M,la,lb,am,K3⟩;show#[K3,.inr #[F,z,ad,2,0,M,la,lb,am]]
    .show#[F,z,N,2,0,M,la,lb,t7 _,K2]
    .rintro c a7 ⟨K3,⟨R,hR,e⟩|⟨F,z,ad,a6,ac,bc,rfl,M,la,lb,am⟩⟩
     .let#[c1,c2]:=c;cases e;show rz #[R,hR,rfl,K3]
     .show rn (zr K3 λa5 O=>?_);show rz #[F,z,ad,0,M,la,lb,af,O]
 .rintro c a1 ⟨F,z,out,mg,rfl,M,la,lb,lo,K1⟩;exfalso;have:=M.sz;omega
 .show#[2,_,0,M0,af,af,t7 _,#[1,1]]
 .rintro c a1 ⟨R,hR,e,K1⟩;let#[c1,c2]:=c;cases e;show rz (h R a1 hR K1)
end
def putAll(a:Array C1)(o n:Nat)(l:List C1):Array C1:=(l.zipIdx n).foldl (λa (p,j)=>a.setIfInBounds (o+j) p) a
theorem kH(o:Nat):∀(l:List C1)(n:Nat)(a:Array C1),o+n+l.length<=a.size->∀i,(putAll a o n l)[i]?=if o+n<=i/\i<o+n+l.length then l[i-(o+n)]? else a[i]?
 | [],n,a,_,i=>by
  rw[Wx (by rw[Vg];omega)];rfl
 |p::l,n,a,h,i=>by
  rw[K4]at h;change(putAll (a.setIfInBounds (o+n) p) o (n+1) l)[i]?=_;rw[kH o l (n+1) _ (by rw[Array.size_setIfInBounds];omega),K4,Array.getElem?_setIfInBounds];cases c:o+(n+1)<=i/\i<o+(n+1)+l.length
  .rw[Wy c,Wy af,show i-(o+n)=(i-(o+(n+1)))+1 by omega];simp
  .rw[Wx c];cases d:o+n=i
   .rw[Wy d,Wy (Nat.lt_of_add_right_lt h),Wy af, <-d];simp
   .rw[Wx d,Wx af]
theorem vq{a:Array C1}{o:Nat}{l:List C1}(h:o+l.length<=a.size):(putAll a o 0 l).toList=a.toList.take o++l++a.toList.drop (o+l.length):=by
 apply S9;intro i;let e:=kH o l 0 a af i;rw[Pz,e,Oa];cases F:i<o
 .rw[Wx af,Pp (by rw[Oz];simp;omega),List.getElem?_take];simp[F]
 .rw[Pc (by rw[Oz];omega)];let z:(a.toList.take o).length=o:=(by rw[Oz];simp;omega);rw[z];cases G:i<o+l.length
  .rw[Wy af,Pp af];rfl
  .rw[Wx af,Pc af,List.getElem?_drop,Pz];congr 1;omega
theorem vy{a:Array C1}{lo hi i:Nat}(h:i<hi-lo)(hs:hi<=a.size):K (a.extract lo hi) i=K a (lo+i):=by
 show Vq ?_;rw[Array.getElem?_extract];rw[Wy af]
theorem qz{a:Array C1}{lo hi:Nat}(hs:hi<=a.size):(a.extract lo hi).size=hi-lo:=by
 rw[Array.size_extract];omega
theorem DG{a₀ a:Array C1}(L:a.Perm a₀)(k:Ks a₀){lo hi:Nat}(hs:hi<=a.size)(h:l8 a lo hi):Up (a.extract lo hi):=by
 show#[λp G=>k.ik p ((PR.mp L).mem_iff.mp ?_),Pa.mpr λi j J R S=>?_]
 .rw[iy]at G;show RC (RB G)
 .let sz:=qz (a:=a) (lo:=lo) hs;let O:i<(a.extract lo hi).size:=(by rw[<-Pn];show J);let N:j<(a.extract lo hi).size:=(by rw[<-Pn];show R);let F:=K_eq O;let I:=K_eq N;rw[vy af hs]at F I;let z:=h (lo+i) (lo+j) af af af;rw[F,I]at z;simpa[le]using z
theorem parts{a:Array C1}{lo mid hi:Nat}(h1:lo<=mid)(h2:mid<=hi):a.toList=a.toList.take lo++(seg a lo mid++seg a mid hi)++a.toList.drop hi:=by
 let z:=jU (a:=a) h1;let F:=jU (a:=a) h2;rw[<-Oa, <-z, <-F,Pj]
theorem yX{a R:Array C1}{lo mid hi:Nat}(h1:lo<=mid)(h2:mid<=hi)(S:hi<=a.size)(G:Good (a.extract lo mid) (a.extract mid hi) R) :
  R.size=hi-lo/\(putAll a lo 0 R.toList).Perm a/\(∀i,¬ (lo<=i/\i<hi)->(putAll a lo 0 R.toList)[i]?=a[i]?)/\l8 (putAll a lo 0 R.toList) lo hi/\∀i,lo<=i->i<hi->∃j,lo<=j/\j<hi/\K (putAll a lo 0 R.toList) i=K a j:=by
 let#[J,g2]:=G;let sz:R.size=hi-lo:=by
  have:=J.length_eq;simp only[y3,Pn]at this;rw[qz (le_trans h2 S),qz S]at this;omega
 let hl:R.toList.length=hi-lo:=(by rw[Pn];show sz);let get:=kH lo R.toList 0 a af;let L:∀i,lo<=i->i<hi->∃(h:i-lo<R.size),K (putAll a lo 0 R.toList) i=Qf (R[i-lo]).1:=λi ab ac=>by
  let Y:i-lo<R.size:=af;show#[Y,?_];let e:=get i;rw[Wy af]at e;unfold K;rw[e,Pz,Nat.add_zero,getElem?_pos R (i-lo) Y]
 show#[sz,?_,λi hi=>?_,λi j hi O U=>?_,λi ab ac=>?_]
 .rw[PR,vq af]
  conv=>rhs;rw[parts (a:=a) h1 h2]
  rw[hl,show lo+(hi-lo)=hi by omega];show Qk _ (PX _ ?_);rw[<-iy, <-iy];show J
 .rw[get i,Wx af]
 .let#[a1,I]:=L i hi (PQ O U);let#[a2,e2]:=L j (le_trans hi O) U;rw[I,e2];cases z:i=j
  .subst z;show OR _
  .have:=Pa.mp g2 (i-lo) (j-lo) ‹a1› ‹a2› af;simpa[le]using this
 .let#[a1,I]:=L i ab ac;let hm:R[i-lo]∈(a.extract lo mid).toList++(a.extract mid hi).toList:=J.mem_iff.mp (by simp);rw[I];rcases t4.mp hm with z|z
  .rw[iy]at z;let#[j,F,N,j3,e]:=nX z;show#[j,F,N9 N h2,e]
  .rw[iy]at z;let#[j,F,N,j3,e]:=nX z;show#[j,le_trans h1 F,N,e]
structure Ir(a₀:Array C1)(st st':Ow)(i lo n:Nat)(pw:Nat):Prop where
 S:SI a₀ st'
 out:∀j,¬ (lo<=j/\j<lo+n)->(BY st')[j]?=(BY st)[j]?
 up:l8 (BY st') lo (lo+n)
 pend:N7 st'=((N7 st).setIfInBounds i (lo,n,pw)).eraseIdxIfInBounds (i+1)
section
variable{prog:tp}{w:By}{A:L5}{E:WC}{s:oR}{a₀:Array C1}
theorem Gp{st x:Ow}{Q:PUnit->Ow->Prop}(h:Q #[] x):Wi (model prog w) A E s (set x:StateT Ow Sem PUnit) Q st:=by
 unfold Wi;rw[StateT.run_set];show wpAny_pure #[rfl,h]
theorem BN{st:Ow}{i z F pw nb ap:Nat}{Q:Bool->Ow->Prop}(S:SI a₀ st)(k:Ks a₀)(h1:(N7 st)[i]?=some (z,F,pw))(h2:(N7 st)[i+1]?=some (z+F,nb,ap))(n1:1<=F)(n2:1<=nb)(hsz:z+F+nb<=a₀.size)
  (Y:l8 (BY st) z (z+F)) (u2:l8 (BY st) (z+F) (z+F+nb)) (h:∀ac,Ir a₀ st ac i z (F+nb) pw->Q true ac):Wi (model prog w) A E s (mergeAt' i) Q st:=by
 show rn (Q6 ?_);let hs:=S.size;let ka:∀{j:Nat},j<(BY st).size->∃t q,(BY st)[j]?=some (.int (K (BY st) j) t,q):=λN=>wQ S.perm k N;rw[h1,h2];show rn (Gp ?_);let#[tb,qb,eb]:=ka (j:=z+F) af;show rn (bA eb (rn (eK (base:=z) (n:=F) (hint:=0) S.kind rfl (λi hi=>ka af) Y af λr hr r1 r2=>?_)));let#[R1,R2]:=Bp r1 r2;show aW (λg=>?_) (λg=>?_)
 .let g':F-r=0:=‹g›;show rz (h _ #[#[S.perm,S.kind,S.failed],λ_ _=>rfl,λi j hi L N=>?_,rfl]);change K (BY st) i<=K (BY st) j;cases U:j<z+F
  .show Y i j hi L U
  .by_cases J:i<z+F
   .let O:=R1 (i-z) af;rw[show z+(i-z)=i by show Rv hi]at O;show PD O (u2 (z+F) j (t7 _) (OF U) af)
   .show u2 i j (OF J) L af
 let g':¬ F-r=0:=‹g›;let#[ta,qa,ea]:=ka (j:=z+r+(F-r)-1) af;show rn (bA ea (rn (eK (base:=z+F) (n:=nb) (hint:=nb-1) S.kind rfl (λi hi=>ka af) u2 (Nat.sub_one_lt_of_lt n2) λI as am ad=>?_)));let#[T1,T2]:=uR am ad;show aW (λg=>?_) (λg=>?_)
 .let aB:I=0:=‹g›;show rz (h _ #[#[S.perm,S.kind,S.failed],λ_ _=>rfl,λi j hi L N=>?_,rfl]);change K (BY st) i<=K (BY st) j;cases U:j<z+F
  .show Y i j hi L U
  .by_cases J:i<z+F
   .show PD (Y i (z+r+(F-r)-1) hi af af) (T2 j af af)
   .show u2 i j (OF J) L af
 let g2:¬ I=0:=‹g›;let ux:Up ((BY st).extract (z+r) (z+F)):=DG S.perm k af λi j hi L N=>Y i j (Qm hi) L N;let uy:Up ((BY st).extract (z+F) (z+F+I)):=DG S.perm k af λi j hi L N=>u2 i j hi L af;let sx:((BY st).extract (z+r) (z+F)).size=F-r:=(by rw[qz af];show Nat.add_sub_add_left z F r);let sy:((BY st).extract (z+F) (z+F+I)).size=I:=(by rw[qz af];show Tq (z+F) I);let x0:K ((BY st).extract (z+F) (z+F+I)) 0<K ((BY st).extract (z+r) (z+F)) 0:=by
  rw[vy af af,vy af af];show R2 (z+r) (t7 _) af
 let xl:∀j,j<((BY st).extract (z+F) (z+F+I)).size->K ((BY st).extract (z+F) (z+F+I)) j<K ((BY st).extract (z+r) (z+F)) (((BY st).extract (z+r) (z+F)).size-1):=λj N=>by
  rw[vy af af,vy af af,sx,show z+r+(F-r-1)=z+r+(F-r)-1 by omega];show T1 j (PU N sy)
 show aW (λg=>?_) (λg=>?_)
 .show rn (yb S.kind ux uy (by rw[sx];show Qj Qn g') (by rw[sy];show Qj Qn g2) x0 xl λR Wo G KC=>?_);let#[z1,z2,z3,z4,z5]:=yX (a:=BY st) (lo:=z+r) (mid:=z+F) (hi:=z+F+I) (Qj QZ hr) af af G;show rn (Qi (rn (Q6 (rz ?_))));let hf:QN Wo=none:=KC.failed.trans S.failed;let hc:BY Wo=BY st:=KC.arr;change Q (QN Wo).isNone (Uv (kindOf Wo) (putAll (BY Wo) (z+r) 0 R.toList) (N7 Wo) (gallopOf Wo) (QN Wo));rw[hf,hc];show h _ #[#[z2.trans S.perm,KC.kind.trans S.kind,rfl],λj N=>z3 j af,λi j hi L N=>?_,KC.pend];change K (putAll (BY st) (z+r) 0 R.toList) i<=K (putAll (BY st) (z+r) 0 R.toList) j;let out:∀i,¬ (z+r<=i/\i<z+F+I)->K (putAll (BY st) (z+r) 0 R.toList) i=K (BY st) i:=λi hi=>Vq (z3 i hi);cases U:i<z+r
  .rw[out i af];let ab:∀j,z+r<=j->j<z+F+nb->K (BY st) i<=K (BY st) j:=λj h1 h2=>by
    cases c:j<z+F
    .show Y i j hi af c
    .let O:=R1 (i-z) (So hi U);rw[show z+(i-z)=i by show Rv hi]at O;show PD O (u2 (z+F) j (t7 _) (OF c) h2)
   cases J:z+r<=j/\j<z+F+I
   .let#[j',q1,q2,e]:=z5 j J.1 J.2;rw[e];show ab j' q1 af
   .rw[out j J];cases c3:j<z+r
    .show Y i j hi L af
    .show ab j (OF c3) af
  .by_cases J:i<z+F+I
   .by_cases c3:j<z+F+I
    .show z4 i j (OF U) L c3
    .rw[out j (Qj not_and λa=>c3)];let#[i',q1,q2,e]:=z5 i (OF U) J;rw[e];cases c4:i'<z+F
     .let O:=T2 j (OF c3) af;show PD (Y i' (z+r+(F-r)-1) (Qm q1) af af) O
     .show u2 i' j (OF c4) af af
   .rw[out i (Qj not_and λa=>J),out j af];show u2 i j af L af
 .show rn (xE S.kind ux uy (by rw[sx];show Qj Qn g') (by rw[sy];show Qj Qn g2) x0 xl λR Wo G KC=>?_);let#[z1,z2,z3,z4,z5]:=yX (a:=BY st) (lo:=z+r) (mid:=z+F) (hi:=z+F+I) (Qj QZ hr) af af G;show rn (Qi (rn (Q6 (rz ?_))));let hf:QN Wo=none:=KC.failed.trans S.failed;let hc:BY Wo=BY st:=KC.arr;change Q (QN Wo).isNone (Uv (kindOf Wo) (putAll (BY Wo) (z+r) 0 R.toList) (N7 Wo) (gallopOf Wo) (QN Wo));rw[hf,hc];show h _ #[#[z2.trans S.perm,KC.kind.trans S.kind,rfl],λj N=>z3 j af,λi j hi L N=>?_,KC.pend];change K (putAll (BY st) (z+r) 0 R.toList) i<=K (putAll (BY st) (z+r) 0 R.toList) j;let out:∀i,¬ (z+r<=i/\i<z+F+I)->K (putAll (BY st) (z+r) 0 R.toList) i=K (BY st) i:=λi hi=>Vq (z3 i hi);cases U:i<z+r
  .rw[out i af];let ab:∀j,z+r<=j->j<z+F+nb->K (BY st) i<=K (BY st) j:=λj h1 h2=>by
    cases c:j<z+F
    .show Y i j hi af c
    .let O:=R1 (i-z) (So hi U);rw[show z+(i-z)=i by show Rv hi]at O;show PD O (u2 (z+F) j (t7 _) (OF c) h2)
   cases J:z+r<=j/\j<z+F+I
   .let#[j',q1,q2,e]:=z5 j J.1 J.2;rw[e];show ab j' q1 af
   .rw[out j J];cases c3:j<z+r
    .show Y i j hi L af
    .show ab j (OF c3) af
  .by_cases J:i<z+F+I
   .by_cases c3:j<z+F+I
    .show z4 i j (OF U) L c3
    .rw[out j (Qj not_and λa=>c3)];let#[i',q1,q2,e]:=z5 i (OF U) J;rw[e];cases c4:i'<z+F
     .let O:=T2 j (OF c3) af;show PD (Y i' (z+r+(F-r)-1) (Qm q1) af af) O
     .show u2 i' j (OF c4) af af
   .rw[out i (Qj not_and λa=>J),out j af];show u2 i j af L af
end
def Chain(xs:Array C1):Nat->List (Nat×Nat×Nat)->Nat->Prop
 |s,[],e=>s=e
 |s,(t,n,_)::r,e=>t=s/\1<=n/\l8 xs s (s+n)/\Chain xs (s+n) r e
theorem Chain.le{xs:Array C1}:∀{s:Nat}{l:List (Nat×Nat×Nat)}{e:Nat},Chain xs s l e->s+l.length<=e
 |s,[],e,h=>UE h
 |s,(t,n,p)::r,e,⟨_,h2,_,z⟩=>by
  have:=Chain.le z;rw[K4];omega
theorem Chain.app{xs:Array C1}:∀{s:Nat}{l l2:List (Nat×Nat×Nat)}{e:Nat},Chain xs s (l++l2) e↔∃m,Chain xs s l m/\Chain xs m l2 e
 |s,[],l2,e=>#[λh=>#[s,rfl,h],λ⟨m,h1,h2⟩=>by rw[show s=m from h1];show h2]
 |s,(t,n,p)::r,l2,e=>by
  constructor
  .rintro⟨h1,h2,F,I⟩;let#[m,z,G]:=Chain.app.mp I;show#[m,#[h1,h2,F,z],G]
  .rintro⟨m,⟨h1,h2,F,z⟩,G⟩;show#[h1,h2,F,Chain.app.mpr #[m,z,G]]
theorem l8.congr{xs ys:Array C1}{lo hi:Nat}(h:l8 xs lo hi)(e:∀i,lo<=i->i<hi->ys[i]?=xs[i]?):l8 ys lo hi:=λi j hi F z=>by
 rw[Vq (e i hi (PQ F z)),Vq (e j (le_trans hi F) z)];show h i j hi F z
theorem Chain.congr{xs ys:Array C1}:∀{s:Nat}{l:List (Nat×Nat×Nat)}{e:Nat},Chain xs s l e->(∀i,s<=i->i<e->ys[i]?=xs[i]?)->Chain ys s l e
 |s,[],e,h,_=>h
 |s,(t,n,p)::r,e,⟨h1,h2,F,z⟩,q=>by
  have:=Chain.le z;show#[h1,h2,F.congr λi a b=>q i a af,z.congr λi a b=>q i (Qm a) b]
structure RI(a₀:Array C1)(st:Ow)(lo:Nat):Prop where
 S:SI a₀ st
 ch:Chain (BY st) 0 (N7 st).toList lo
 le:lo<=a₀.size
theorem Ib{α:Type}{l:List α}{i:Nat}(h:i+1<l.length):∃l1 x y l2,l=l1++x::y::l2/\l1.length=i:=by
 show#[l.take i,l[i],l[i+1],l.drop (i+2),3]
 .rw[<-P2 af, <-P2 (SA h),Pj]
 .rw[Oz];omega
theorem rJ{p:Array (Nat×Nat×Nat)}{l1 l2:List (Nat×Nat×Nat)}{x y z:Nat×Nat×Nat}{i:Nat}(h:p.toList=l1++x::y::l2)(hi:l1.length=i):((p.setIfInBounds i z).eraseIdxIfInBounds (i+1)).toList=l1++z::l2:=by
 let#[l]:=p;subst h;subst hi;simp;rw[List.eraseIdx_append_of_length_le af];simp
theorem Fw{c:Bool}{n:Nat}(h:¬ n<=1):(if c=true then n-2-1 else n-2)+1<n:=by
 cases c
 .rw[Wx ar];omega
 .rw[Wy rfl];omega
theorem yt{α z:Type}{l:List α}{i:Nat}{f:α->α}{g:α->z}(h:∀x,g (f x)=g x):(l.modify i f).map g=l.map g:=by
 apply S9;intro j;rw[vu,vu,List.getElem?_modify];cases l[j]? with
 |none=>rfl
 |some x =>
  cases c:i=j
  .simp[c,h]
  .simp[c]
theorem Chain.same{xs:Array C1}:∀{s:Nat}{l l':List (Nat×Nat×Nat)}{e:Nat},Chain xs s l e->l'.map (λx=>(x.1,x.2.1))=l.map (λx=>(x.1,x.2.1))->Chain xs s l' e
 |s,[],l',e,h,q=>by
  cases l' with
  |nil=>show h
  |cons x r=>cases q
 |s,(t,n,p)::r,l',e,⟨h1,h2,I,J⟩,q=>by
  cases l' with
  |nil=>cases q
  |cons x R =>
   let#[t',L,O]:=x;rw[Pb,Pb]at q;let#[G,N]:=List.cons.inj q;let#[F,z]:=Vb G;let F:t'=t:=F;let z:L=n:=z;subst F;subst z;show#[h1,h2,I,J.same N]
theorem RI.push{a₀:Array C1}{st:Ow}{lo n p:Nat}(R:RI a₀ st lo)(F:1<=n)(z:lo+n<=a₀.size)(u:l8 (BY st) lo (lo+n)):RI a₀ (setPending st ((N7 st).push (lo,n,p))) (lo+n):=by
 show#[#[R.S.perm,R.S.kind,R.S.failed],?_,z];change Chain (BY st) 0 ((N7 st).push (lo,n,p)).toList (lo+n);rw[Sz];show Chain.app.mpr #[lo,R.ch,rfl,F,u,rfl]
theorem RI.last{a₀:Array C1}{st:Ow}{lo:Nat}(R:RI a₀ st lo){f:Nat×Nat×Nat->Nat×Nat×Nat}(z:∀x,((f x).1,(f x).2.1)=(x.1,x.2.1))(i:Nat):RI a₀ (setPending st ((N7 st).modify i f)) lo:=by
 show#[#[R.S.perm,R.S.kind,R.S.failed],?_,R.le];change Chain (BY st) 0 ((N7 st).modify i f).toList lo;show R.ch.same ?_;rw[Array.toList_modify];show yt z
section
variable{prog:tp}{w:By}{A:L5}{E:WC}{s:oR}{a₀:Array C1}
theorem ku{st:Ow}{lo i:Nat}{Q:Bool->Ow->Prop}(R:RI a₀ st lo)(k:Ks a₀)(hi:i+1<(N7 st).size)
  (h:∀F,RI a₀ F lo->(∀j,lo<=j->(BY F)[j]?=(BY st)[j]?)->(N7 F).size+1=(N7 st).size->Q true F):Wi (model prog w) A E s (mergeAt' i) Q st:=by
 let#[l1,x,y,l2,e,J]:=Ib (l:=(N7 st).toList) (i:=i) ‹hi›;let#[z,G,pw]:=x;let#[sb,I,O]:=y;let ch:=R.ch;rw[e]at ch;let#[m,N,e1,U,u1,e2,n2,u2,L]:=Chain.app.mp ch;subst e1;subst e2;let b1:=N.le;let b2:=L.le;let ab:=R.le;let g1:(N7 st)[i]?=some (z,G,pw):=by
  rw[<-Pz,e, <-J];simp
 let g2:(N7 st)[i+1]?=some (z+G,I,O):=by
  rw[<-Pz,e, <-J];simp
 show BN R.S k g1 g2 U n2 af u1 u2 λF M=>h F #[M.S,?_,R.le] (λj Y=>M.out j af) ?_
 .rw[M.pend,rJ e J];show Chain.app.mpr #[z,N.congr λj _ Y=>M.out j af,rfl,Nat.le_add_right_of_le U,M.up,?_];rw[show z+(G+I)=z+G+I by omega];show L.congr λj Y _=>M.out j af
 .let p1:(N7 F).toList.length=(l1++(z,G+I,pw)::l2).length:=(by rw[M.pend,rJ e J]);let p2:(N7 st).toList.length=(l1++(z,G,pw)::(z+G,I,O)::l2).length:=(by rw[e]);simp only[Pn,y3,K4]at p1 p2;omega
theorem Az{st:Ow}{Q:Unit->Ow->Prop}(k:Ks a₀)(S:SI a₀ st)(hp:N7 st = ([].toArray))(h2:2<=a₀.size)(h:∀N,(BY N).Perm a₀->QN N=none->SortedTo (BY N) a₀.size->Q () N):Wi (model prog w) A E s sortRuns' Q st:=by
 rw[sortRuns'_eq];show rn (Q6 ?_);let hsz:=S.size;let a3:(BY st).size=a₀.size:=hsz;dsimp only;rw[hsz];show rn (Pd (Ox (I:=λx c N=>∃lo,uN (c=(none,lo)) (RI a₀ N lo) (x<=lo)) (Q:=λc N=>c=(none,a₀.size)/\RI a₀ N a₀.size) ?_ ?_ ?_) ?_)
 .rintro x c a1 as ap ⟨lo,rfl,R,hx⟩;let ab:=R.le;show aW (λg=>?_) (λg=>?_)
  .let g':a₀.size<=lo:=g;obtain rfl:lo=a₀.size:=af;show rz #[rfl,R]
  let g':¬ a₀.size<=lo:=g;show rn (Co R.S k (lo:=lo) (nrem:=a₀.size-lo) af af λm G C m1 m2 us=>?_);dsimp only;show aW (λgm=>?_) (λgm=>?_)
  .show rn (SJ (Qw #[4]));generalize hf:min (a₀.size-lo) (minRun' a₀.size a₀.size 0)=n;show rn (Dt C.S k (lo:=lo) (n:=n) (ok:=m) af m1 af us λac C3 ad=>?_);let O:RI a₀ ac lo:=#[C3.S,by
    rw[C3.pend,C.pend];show R.ch.congr λi _ hi=>(C3.pre i hi).trans (C.pre i hi),R.le]
   show rn (Q6 ?_);cases e:(N7 ac).back? with
   |none=>show rn (Qi (rz #[lo+n,rfl,O.push af af ad,af]))
   |some t =>
    let#[s1,U,p1]:=t;show rn (Pd (Ox (I:=λy c F=>uN (c=(none,())) (RI a₀ F lo) (∀j,lo<=j->(BY F)[j]?=(BY ac)[j]?)) (Q:=λc F=>uN (c=(none,())) (RI a₀ F lo) (∀j,lo<=j->(BY F)[j]?=(BY ac)[j]?)) ?_ ?_ ?_) ?_)
    .rintro y c F aT aB ⟨rfl,L,J⟩;show rn (Q6 ?_);cases g:(N7 F).size>1
     .rw[Wy g,getElem?_pos (N7 F) ((N7 F).size-2) af];show aW (λ_=>rz #[rfl,L,J]) (λ_=>?_);show rn (ku L k af λa0 R5 o5 _=>rz #[rfl,R5,λj Y=>(o5 j Y).trans (J j Y)])
     .rw[Wx g];show rz #[rfl,L,J]
    .show λc F q=>q
    .show#[rfl,O,λ_ _=>rfl]
    .rintro c F ⟨rfl,L,J⟩;show rn (Qi (rn (Qi (rz #[lo+n,4,af]))));show RI.push (L.last (f:=λx=>(x.fst,x.2.fst,power' a₀.size (2*s1+U) (2*s1+U+U+n) a₀.size)) (λx=>rfl) _) af af (ad.congr λi h1 _=>J i h1)
  .let O:RI a₀ G lo:=#[C.S,by
    rw[C.pend];show R.ch.congr λi _ hi=>C.pre i hi,R.le]
   show rn (Q6 ?_);cases e:(N7 G).back? with
   |none=>show rn (Qi (rz #[lo+m,rfl,O.push af (Ww (Ql ab) m2) us,VL hx m1]))
   |some t =>
    let#[s1,U,p1]:=t;show rn (Pd (Ox (I:=λy c F=>uN (c=(none,())) (RI a₀ F lo) (∀j,lo<=j->(BY F)[j]?=(BY G)[j]?)) (Q:=λc F=>uN (c=(none,())) (RI a₀ F lo) (∀j,lo<=j->(BY F)[j]?=(BY G)[j]?)) ?_ ?_ ?_) ?_)
    .rintro y c F aT aB ⟨rfl,L,J⟩;show rn (Q6 ?_);cases g:(N7 F).size>1
     .rw[Wy g,getElem?_pos (N7 F) ((N7 F).size-2) af];show aW (λ_=>rz #[rfl,L,J]) (λ_=>?_);show rn (ku L k af λa0 R5 o5 _=>rz #[rfl,R5,λj Y=>(o5 j Y).trans (J j Y)])
     .rw[Wx g];show rz #[rfl,L,J]
    .show λc F q=>q
    .show#[rfl,O,λ_ _=>rfl]
    .rintro c F ⟨rfl,L,J⟩;show rn (Qi (rn (Qi (rz #[lo+m,4,VL hx m1]))));show RI.push (L.last (f:=λx=>(x.fst,x.2.fst,power' a₀.size (2*s1+U) (2*s1+U+U+m) a₀.size)) (λx=>rfl) _) af (Ww (Ql ab) m2) (us.congr λi h1 _=>J i h1)
 .rintro c N ⟨lo,rfl,R,hx⟩;have:=R.le;obtain rfl:lo=a₀.size:=Nat.le_antisymm this hx;show#[rfl,R]
 .show#[(0),rfl,#[S,by rw[hp];rfl,Oc _],t7 _]
 .rintro c N ⟨rfl,R⟩;dsimp only;show rn (Pd (Ox (I:=λx c G=>uN (c=(none,())) (RI a₀ G a₀.size) ((N7 G).size+x<=a₀.size)) (Q:=λc G=>uN (c=(none,())) (RI a₀ G a₀.size) ((N7 G).size<=1)) ?_ ?_ ?_) ?_)
  .rintro x c G as ap ⟨rfl,R2,ab⟩;show rn (Q6 ?_);show aW (λg=>rz #[rfl,R2,g]) (λg=>?_);show rn (ku R2 k ?_ λac O _ a2=>?_)
   .show Fw g
   .show rz #[rfl,O,af]
  .rintro c G ⟨rfl,R2,ab⟩;show#[rfl,R2,af]
  .show#[rfl,R,?_];have:=R.ch.le;simpa using this
  .rintro c G ⟨rfl,R2,ab⟩;show rz (h G R2.S.perm R2.S.failed ?_);let ch:=R2.ch;cases e:(N7 G).toList with
   |nil =>
    rw[e]at ch;have:0=a₀.size:=ch;omega
   |cons x r =>
    let hr:r=[]:=by
     let z:(N7 G).toList.length=r.length+1:=(by rw[e];rfl);rw[Pn]at z;show OM.mp af
    subst hr;let#[t,n,p]:=x;rw[e]at ch;let#[_,_,u,e2]:=ch;let e3:0+n=a₀.size:=e2;rw[e3]at u;show λi j am Y=>u i j (Oc _) am Y
end
theorem J3{vs:WH}{ns:List Int}(z:QD vs ns)(F:ns.Nodup):Ks (Ta vs):=by
 show#[z.intKeys,?_];let e:((Ta vs).toList.map λp=>Qf p.1)=ns:=by
  rw[pairsOf_toList, <-z.nums]
  conv=>rhs;rw[<-List.map_fst_zip (l₁:=vs) (l₂:=vs) (t7 _)]
  rw[Qo];rfl
 rw[e];show F
section
variable{prog:tp}{w:By}{A:L5}{E:WC}{s:oR}
theorem rA{a:Addr}{vs:WH}{ns:List Int}{n:Nat}{P:Fin->oR->Prop}(uQ:s.heap.get? a=some (seqObj "list" vs.toArray n))(R:QD vs ns)(hn:ns.Nodup)(hz:vs.length<=1000)
  (k:∀(out:WG)(N:List Int),QD out.toList N->N.Perm ns->N.Pairwise (· <= ·)->P (.done (.ret .none)) { s with heap:=sortedHeap s.heap a vs out }):wpAny (model prog w) A (Builtin.«list.sort» #[[.ref a],[]]) P E s:=by
 let lz:sizeLine=16777216:=vl;rw[list_sort_plain];let lt:=Heap.lt_size uQ;show qs (listItems_at uQ rfl (qs (Uk uQ rfl ?_ (by simp only[ti];omega))));obtain⟨ep,U⟩:∃ep,(s.heap.update a (Obj.mapSeq λ_ => ([].toArray))).get? a=some (seqObj "list" ([].toArray) ep):=#[_,get?_update_seq uQ λ_ => ([].toArray)];show qs (Vc U rfl (qs (wpAny_newTuple (qs (Ul (OX ?_))))));let O:(((s.heap.update a (Obj.mapSeq λ_ => ([].toArray))).push (seqObj "tuple" vs.toArray 0)).push (seqObj "list" ([].toArray) 0)).get? a=some (seqObj "list" ([].toArray) ep):=by
  let l1:a<((s.heap.update a (Obj.mapSeq λ_ => ([].toArray))).push (seqObj "tuple" vs.toArray 0)).objs.size:=(by rw[VM,Heap.size_update];show Qq lt);rw[Heap.get?_push_ne _ _ _ (Ou l1),Heap.get?_push_ne _ _ _ (by rw[Heap.size_update];show Ou lt)];show U
 let done:∀F:Ow,(BY F).Perm (Ta vs)->SortedTo (BY F) (Ta vs).size->P (.done (.ret .none)) { s with heap:=sortedHeap s.heap a vs ((BY F).map (·.2)) }:=λF J L=>by
  let#[N,w1,w2,Y]:=sorted_out R J L;show k _ N w1 w2 Y
 change wpAny (model prog w) A _ P E { s with heap:=((s.heap.update a (Obj.mapSeq λ_ => ([].toArray))).push (seqObj "tuple" vs.toArray 0)).push (seqObj "list" ([].toArray) 0) };dsimp only;cases two:vs.toArray.size<2
 .rw[Wy two,Wy two];show qs (wpAny_pure ?_);rw[StateT.run_pure];show qs (wpAny_pure (qs (Vc O rfl (qs (Uk O rfl ?_ (Oc _) ?_)))))
  .simp only[bne_self_eq_false,Ph,if_false];show wpAny_pure (done (Uv general' (vs.toArray.zip vs.toArray) ([].toArray) 7 none) (Vh _) λi j ab hj=>?_);rw[Tc]at hj;rw[ti]at two;rw[show i=j by omega];show OR _
  .change(Array.map (λx:C1=>x.2) (vs.toArray.zip vs.toArray)).size<=sizeLine+1;rw[VN];change(Ta vs).size<=sizeLine+1;rw[Tc];omega
 .rw[Wx two,Wx two];rw[ti]at two;obtain⟨G,v2,I,rfl⟩:∃G v2 I,vs=G::v2::I:=by
   match vs,two with
   | [],z=>show absurd ar z
   | [_],z=>show absurd (by rw[OC];decide) z
   |G::v2::I,_=>show#[G,v2,I,rfl]
  rw[keyKind_ints R];let sr:=Az (prog:=prog) (w:=w) (A:=A) (E:=E) (s:={ s with heap:=((s.heap.update a (Obj.mapSeq λ_ => ([].toArray))).push (seqObj "tuple" (G::v2::I).toArray 0)).push (seqObj "list" ([].toArray) 0) }) (J3 R hn)
   (st:=Uv QM (Ta (G::v2::I)) ([].toArray) 7 none) (Q:=λ_ F=>uN ((BY F).Perm (Ta (G::v2::I))) (QN F=none) (SortedTo (BY F) (Ta (G::v2::I)).size)) #[Vh _,1] rfl (by rw[Tc];show Nat.le_of_ble_eq_true rfl) λF J L S=>#[J,L,S]
  show qs (wpAny_pure (qs (Oj sr ?_ λ_ _ e=>e)));rintro⟨⟨⟩,F⟩ s' ⟨rfl,J,L,S⟩;dsimp only;show qs (Vc O rfl (qs (Uk O rfl ?_ (Oc _) ?_)))
  .rw[L];simp only[bne_self_eq_false,Ph,if_false];show wpAny_pure (done F J S)
  .change(Array.map (λx:C1=>x.2) (BY F)).size<=sizeLine+1;rw[VN,J.size_eq,Tc];omega
theorem yk{l:Addr}{vs:WH}{ns:List Int}{Q:WC}(uQ:s.heap.IsList l vs.toArray)(O:QD vs ns)(R:ns.Nodup)(I:vs.length<=1000)
  (k:∀(out:WG)(z:List Int),QD out.toList z->z.Perm ns->z.Pairwise (· <= ·)->Q (.ref (s⁻¹+1)) { s with heap:=sortedAll s.heap vs out }):wpAny (model prog w) A (call (.builtin "sorted") [.ref l]) Q E s:=by
 let S:sizeLine=16777216:=vl;show Calls.call_function_entry kind_sorted plain_sorted entry_sorted (args_sorted1 _) ?_;show qs (m:=checkCount "sorted" 1 1 _) (wpAny_pure (qs (collect_list uQ (qs (Ul ?_)) af)));let G:((s.heap.push (seqObj "list" ([].toArray) 0)).update s⁻¹ (Obj.mapSeq (· ++ vs.toArray))).objs.size=s⁻¹+1:=(by rw[Heap.size_update,VM]);let F:=Heap.get?_push_size ((s.heap.push (seqObj "list" ([].toArray) 0)).update s⁻¹ (Obj.mapSeq (· ++ vs.toArray))) (o:=seqObj "list" vs.toArray 0) rfl;rw[G]at F;change wpAny _ _ _ _ _ { s with heap:=((s.heap.push (seqObj "list" ([].toArray) 0)).update s⁻¹ (Obj.mapSeq (· ++ vs.toArray))).push (seqObj "list" vs.toArray 0) };rw[G];show qs (OX (Rn slot_list_sort #[_,F,rfl] entry_list_sort (rA F O R I λout z N L J=>#[0,wpAny_pure #[0,k out z N L J]]) (args_list_sort _)))
end
end Srt
namespace L2
open PySem PySem.Spec PyProof.Rows
def kf(X:Cx)(z:List Str)(scope:Rw)(cl:List (Str×Addr))(C:Addr)(s₀:oR)(H₀:Hp)(ex:List Addr):Cx where
 prog:=X.prog
 w:=X.w
 K:=X.K
 mg:=X.mg
 base:=X.base
 A:=X.A
 N:=z
 s₀:=s₀
 H₀:=H₀
 env:=SM scope cl C X.env
 outer:=X.stack
 stack:=X.stack
 ex:=ex
 fn:=λ_=>false
 calm:=X.calm
 pn:=[]
 xe:=λ_ _=>False
def eh(t:Str)(caps:List (Str×Nat)):List Str:=t::caps.map (·.1)
def fC(caps:List (Str×Nat))(σ:St)(v:Option V):St:=v::caps.map λp=>(σ[p.2]?).join
structure j5(X:Cx)(scope:Rw)(cl:List (Str×Addr))(t:Str)(caps:List (Str×Nat)):Prop where
 kind:scope.kind=.function
 BP:∀y∈scope.names,y.2≠.cell
 names:∀y∈scope.names,y.2=.local->scope.names.lookup y.1=some .local
 Ly:scope.names.lookup t=some .local
 Jt:closureFor scope X.env=pure cl
 sub:∀p∈cl,X.env.cells.lookup p.1=some p.2
 has:((relabel scope X.env).names.all λy => !(y.2 == .cell||y.2 == .free)||(cl.lookup y.1).isSome)=true
 Nz:∀p∈caps,X.N[p.2]?=some p.1/\(X.env.kindOf p.1=some .cell\/X.env.kindOf p.1=some .free)/\((relabel scope X.env).names.lookup p.1=some .cell\/(relabel scope X.env).names.lookup p.1=some .free)
 nd:(eh t caps).Nodup
section
variable{X:Cx}{scope:Rw}{cl:List (Str×Addr)}{t:Str}{caps:List (Str×Nat)}{pins:WB}{σ:St}{H:Hp}{s:oR}{C:Addr}{fp:List Addr}
theorem j5.look(K:j5 X scope cl t caps){x:Str}{c:Addr}(h:cl.lookup x=some c):X.env.cells.lookup x=some c:=K.sub (x,c) (O8 h)
theorem j5.hs(K:j5 X scope cl t caps){x:Str}(h:(relabel scope X.env).names.lookup x=some .cell\/(relabel scope X.env).names.lookup x=some .free):∃c,cl.lookup x=some c:=by
 let go:∀k,(relabel scope X.env).names.lookup x=some k->(k==NameKind.cell||k==NameKind.free)=true->∃c,cl.lookup x=some c:=λk e z=>by
  have:=OD.mp K.has (x,k) (O8 e);dsimp only at this;rw[z]at this;show Po.mp ‹this›
 rcases h with h|h
 .show go _ h rfl
 .show go _ h rfl
theorem MY(I: ~~~H s)(K:j5 X scope cl t caps)(G:∀b∈fp,fg X pins H b)(L:∀b∈fp,b<s⁻¹)(J:s⁻¹<=C):(kf X (eh t caps) scope cl C s H fp).Ok where
 mod:=I.ok.mod
 kind:=K.kind
 glob:=I.ok.glob
 blt:=I.ok.blt
 above:=J
 inj:=λx y c h1 h2=>I.ok.inj x y c (K.look h1) (K.look h2)
 has:=λx hx=>K.hs hx
 HM:=λx c h=>nomatch (show false=true from h)
 hd:=I.ok.hd
 frames:=I.ok.frames
 Jk:=.inl rfl
 Lh:=λb F=>#[Ou (N9 (L b F) J),λx c e=>(G b F).2.2.2.2.1 x c (K.look e)]
 bs:=I.bs
 Bc:=le_trans I.ok.Bc I.sz
 xP:=λb o e F=>by
  rcases(G b F).2.2.2.1 with z|z
  .show I.ok.xP b o e z
  .show absurd (N9 (Heap.lt_size e) (le_trans I.ok.Bc z)) (PH _)
 vo:=λb F N=>by
  rcases se.mp (I.pX b N)with e|e
  .show(G b F).2.1 e
  .show(G b F).2.2.1 e
 jZ:=I.stack
 Eo:=I.uC
theorem KP{N:Heap}{m:WD}{tk:Nat}(I: ~~~H s)(K:j5 X scope cl t caps)(hf:∀b∈fp,fg X pins H b)(ho:∀b∈fp,b<s⁻¹)(hC:s⁻¹<=C)
  (O:∀b o,s.heap.get? b=some o->N.get? b=some o) (ns:N.Ns C m):Inv (kf X (eh t caps) scope cl C s H fp) [] (fC caps σ none) H { s with heap:=N,toks:=tk }:=by
 let ac:∀c v,s.heap.IsCell c v->N.IsCell c v:=λc v am=>(by let#[o,e,d]:=am;show#[o,O c o e,d]);show#[MY I K hf ho hC,rfl,I.bare,Un.kept O,#[m,ns,λi x v e1 S e3=>?_],λx c e=>?_,I.bJ.fresh hC,λx c e=>I.fW x c (K.look e),λp G=>absurd (show p∈([]:WB)from G) (by simp),I.bJ.kept O,by simp[fC,eh,kf]]
 .cases i with
  |zero =>
   let F:some (none:Option V)=some (some v):=S;cases F
  |succ j =>
   let J:(caps.map (·.1))[j]?=some x:=e1;let F:(caps.map λp=>(σ[p.2]?).join)[j]?=some (some v):=S;rw[vu]at J F;cases G:caps[j]? with
   |none=>rwa[G]at J
   |some p =>
    rw[G]at J F;let ex:p.1=x:=sN J;let L:(σ[p.2]?).join=some v:=sN F;let as:σ[p.2]?=some (some v):=by
     cases q:σ[p.2]? with
     |none=>rwa[q]at L
     |some z=>rw[q]at L;show congrArg some L
    let#[hN,Y,ab]:=K.Nz p (vh G);subst ex;let#[m',_,hl]:=I.loc;let ap:KJ X.env.scope p.1:=by
     rcases Y with z|z
     .show .inr (.inl z)
     .show .inr (.inr z)
    let#[u,r,l]:=hl p.2 p.1 v hN as ap;let#[c,U]:=K.hs ab;rcases l with⟨z,_⟩|⟨_,c',R,ad⟩
    .rcases Y with y|y<;>(rwa[y]at z)
    .rw[K.look U]at R;cases R;show#[u,r,.inr #[ab,c,U,ac c _ ad]]
 .let#[v,z]:=I.cell x c (K.look e);show#[v,ac c v z]
theorem Inv.Gd{D:Addr}{ys:List V}{its:WH}{n:Nat}(I: ~~~H s)(f:fg X pins H D)(e:s.heap.get? D=some { cls:=.type "list",data:=.seq its.toArray n })(r:Vals ys its)(J:ys.length<=sizeLine) :
  ~~~(upd H D (.lst ys)) s:=by
 let#[G,N,Y,U,O,L]:=f;let#[S,g,d,tk,os]:=s;show I.step (g':=g) (d':=d) (t':=tk) (h':=S) (ch:=[D]) (λb F=>?_) (λb o _ _ _ e _=>e) (λb o _ _ _ e _=>#[o.slots,e]) (λb o F _ n=>?_) (λb o _ e=>#[o,e]) (λb xs q=>?_) (λb o u q=>?_) (λb ps q=>#[([].toArray),?_]) (λm R=>R) (λb u q=>?_) I.bare
 .let z:b=D:=‹F›;subst z;show#[U,N,O,L]
 .rw[aj (λz=>F (by simp[z]))];show n
 .rw[aj (av q G)];show q
 .rw[aj (av q G)];show q
 .rw[aj (av q G),q];simp
 .by_cases F:b=D
  .subst F;rwa[ae]at q;show#[J,its,n,r,e]
  .rw[aj F]at q;show(I.bJ b u q).iP (λ_ _ _ z=>z) (λc z=>by rw[aj (av z G)];show z) λc xs z=>by rw[aj (av z G)];show z
end
def Ji(X:Cx)(ifs:List Ob)(t:TT):Prop :=
 ∀(pins:WB)(s:oR)(σ:St)(H:Hp)(Q:Bool->Hp->Prop),~~~H s->t σ H Q ->
  ↑(forIn ifs true λc r=>if r=true then do let ok <-isTrue c X.env (eval c X.env);pure (Vi ok)else pure (Vi r)) (TP X pins σ Q) X.xe s
def vd:TT:=λ_ H Q=>Q true H
theorem iG{X:Cx}:Ji X [] vd:=λ_ _ _ H _ I h=>wpAny_tests_nil #[H,I,h]
theorem ER{X:Cx}{c:Ob}{t:TT}(h:PT X c t):Ji X [c] t:=λpins s σ H Q I q=>wpAny_tests_one (h pins s σ H Q I q)
def iL(caps:List (Str×Nat))(tt:TT)(te:TE)(σ:St)(J:It)(Q:List V->Hp->Prop)(W:Nat->Nat->List V->Hp->Prop):Prop :=
 ∀i m ys H,W i m ys H->(J.stop i H/\Q ys H)\/(J.go i H/\∃N:List V->Hp->Prop,(∀F H',N F H'->∃z,z<m/\W (i+1) z F H')/\∀x H',J.El i H x H'->tt (fC caps σ (some x)) H' λb H2 =>
  if b=true then te (fC caps σ (some x)) H2 (λy G=>ys.length<sizeLine/\N (ys++[y]) G)else N ys H2)
def Jn(caps:List (Str×Nat))(wi:TI)(tt:TT)(te:TE):TE:=λσ H Q=>wi σ H λJ H1 =>
 ∃W:Nat->Nat->List V->Hp->Prop,(∃m,W 0 m [] H1)/\iL caps tt te σ J (λys H2=>∀p,H2 p=none->Q (.ref p) (upd H2 p (.lst ys))) W
section
variable{X:Cx}{scope:Rw}{cl:List (Str×Addr)}{t:Str}{caps:List (Str×Nat)}{elt iter:Ob}{ifs:List Ob}{px pos:QJ}{wi:TI}{tt:TT}{te:TE}
theorem yg{pins:WB}{σ:St}{H:Hp}{s:oR}{J:It}{fp:List Addr}{it:Addr}{tn:Nat->Heap->Prop}{W:Nat->Nat->List V->Hp->Prop}{QE:List V->Hp->Prop}{E:WC}{RR:Value->Addr->Vx->oR->Prop}{m0:Nat}
  (K:j5 X scope cl t caps) (hc:X.calm=true)
  (ht:∀C s₀ H₀ ex,Ji (kf X (eh t caps) scope cl C s₀ H₀ ex) ifs tt) (he:∀C s₀ H₀ ex,PE (kf X (eh t caps) scope cl C s₀ H₀ ex) elt te)
  (I: ~~~H s) (T:Turn X.prog X.w X.K (.Name t px) J fp it tn) (st:tn 0 s.heap) (S:∀b∈fp,fg X pins H b) (w0:W 0 m0 [] H) (hW:iL caps tt te σ J QE W)
  (b6:∀D C ys H' s' m,H' D=none->~~~(upd H' D (.lst ys)) s'->s'.heap.Ns C m->fg X pins (upd H' D (.lst ys)) C->QE ys H'->RR (.ref D) C (.ok .next) s') :
  ↑(newList []) (λbe ab=>↑(newFunctionEnv scope X.env.globals cl [] X.env.qual none .none (some X.env)) (λba b3 =>
   QA (model X.prog X.w) X.A (.compStart (.ListComp elt [#[.Name t px,iter,ifs,(0)]] scope pos) 0 (.ref it) be { ba with scope:=relabel scope X.env }) (RR be ba.locals) b3) E ab) E s:=by
 show wpAny_newObj_type (TU K.BP (by intro y hy;simp at hy) (λam a0 ad=>?_) K.kind);dsimp only at a0 ad ⊢;generalize ap:s.heap.push { cls:=.type "list",dict:=none,data:=.seq ([]:WH).toArray }=H2 at a0 ad ⊢;let hC:H2.objs.size=s⁻¹+1:=(by rw[<-ap,Heap.size_push]);let ac:s⁻¹≠H2.objs.size:=(by rw[hC];show Ou (Q4 _));let a6:s⁻¹<=H2.objs.size:=(by rw[hC];show QT _);let below:∀b,b<s⁻¹->b≠H2.objs.size:=λb G=>(by rw[hC];show Ou (Qq G));let bi:∀b o,s.heap.get? b=some o->am.get? b=some o:=λb o e=>ad.extBut b o (below b (Heap.lt_size e)) (Heap.get?_push_of_some _ (ap▸Heap.get?_push_of_some _ e));let bY:am.get? s⁻¹=some { cls:=.type "list",data:=.seq ([]:WH).toArray }:=ad.extBut _ _ ac (Heap.get?_push_of_some _ (ap▸Heap.get?_push_size _ rfl));let ho:∀b∈fp,b<s⁻¹:=λb G=>let ⟨_,e,_⟩:=T.obj 0 _ st b G;Heap.lt_size e;let a8:s⁻¹∉fp:=λhm=>PH _ (ho _ hm);let bd:tn 0 am:=T.keep 0 _ _ st λb _ o e=>bi b o e;let b4:s⁻¹∉qE X.stack:=λz=>by
  rcases se.mp (I.pX _ z)with e|e
  .show absurd (e▸I.lt) (PH _)
  .show I.Il (t7 _) e
 let bH:∀x c,cl.lookup x=some c->c≠s⁻¹:=λx c e z=>by
  let#[v,q]:=I.cell x c (K.look e);show absurd (z▸q.lt) (PH _)
 let aT:∀{pl:WB}{HC:Hp},(∀b∈fp,HC b=none)->(∀p∈pl,p.1∉fp)->∀b∈fp,fg (kf X (eh t caps) scope cl H2.objs.size s H fp) pl HC b:=λ{pl HC} hn R b G =>
  #[hn b G,below b (ho b G),(MY I K S ho a6).vo b G,.inl G,λx c e=>(S b G).2.2.2.2.1 x c (K.look e),λp b5 z=>by
   let b2:p∈pl:=b5;show R p b2 (z▸G)]
 let bl:∀ab:oR,ab={ s with heap:=am,toks:=s.toks+([]:List (Str×Value)).length } ->
   QA (model X.prog X.w) X.A (.compLoop (.ListComp elt [#[.Name t px,iter,ifs,(0)]] scope pos) 0 (.ref it) (.ref s⁻¹) (SM scope cl H2.objs.size X.env)) (RR (.ref s⁻¹) H2.objs.size) ab:=by
  rintro ab rfl;show codeAny_loop rfl (λn s'=>∃i ys its L HC v0,Inv (kf X (eh t caps) scope cl H2.objs.size s H fp) [] (fC caps σ v0) HC s'/\tn i s'.heap/\(∀b∈fp,HC b=none)/\HC s⁻¹=none /\
   s'.heap.get? s⁻¹=some { cls:=.type "list",data:=.seq its.toArray L }/\Vals ys its/\ys.length<=sizeLine/\W i n ys HC) (λn s' hI=>?_) m0
   #[(0),[],[],(0),H,none,KP I K S ho a6 bi a0,bd,λb G=>(S b G).1,I.bJ.fresh (t7 _),bY,.nil,Oc _,w0]
  let#[i,ys,its,L,HC,v0,I3,bb,bc,aB,e3,r3,z3,w3]:=hI;change wpAny _ X.A ((compTurn (.ListComp elt [#[.Name t px,iter,ifs,(0)]] scope pos) 0 (.ref it) (.ref s⁻¹) (SM scope cl H2.objs.size X.env)).onRaise (λx=>do noteFrame x (SM scope cl H2.objs.size X.env);theTreesLotGoes x)) _ _ s';show wpAny_noted ?_;rw[compTurn_list];let bf:Inv (kf X (eh t caps) scope cl H2.objs.size s H fp) [(s⁻¹, { cls:=.type "list",data:=.seq its.toArray L })] (fC caps σ v0) HC s':=I3.jE λp R=>by
   let ep:p=(s⁻¹, { cls:=.type "list",data:=.seq its.toArray L }):=‹R›;subst ep;show#[e3,aB,ac,b4,λv z=>by cases(show Data.seq its.toArray L=Data.cell v from z)]
  let pD:∀p∈[((s⁻¹:Addr),({ cls:=.type "list",data:=.seq its.toArray L }:Obj))],p.1∉fp:=λp R=>by
   let ep:p=(s⁻¹, { cls:=.type "list",data:=.seq its.toArray L }):=‹R›;subst ep;show a8
  rcases hW i n ys HC w3 with⟨bn,q⟩|⟨go,N,hN,step⟩
  .show qs (Rr (qs (bR (T.done (kf X (eh t caps) scope cl H2.objs.size s H fp) rfl rfl rfl hc i _ s' _ HC _ bf (aT bc pD) bb bn) λr s4 bI=>?_)));let#[hr,U]:=bI;subst hr;show wpAny_pure ?_;let I5: ~~~HC s4:=I.zw (ch:=fp) U.os U.base U.bJ U.bare λb G=>#[(S b G).2.2.2.1,(S b G).2.1,(S b G).2.2.2.2.1,(S b G).2.2.2.2.2];let e4:=(U.pin _ (wh _ Oi)).1;let fD:fg X pins HC s⁻¹:=I.kK (t7 _) aB;let I6:=I5.Gd fD e4 r3 z3;let#[m,hn,_]:=U.loc;show b6 _ _ ys HC s4 m aB I6 hn (I.kK a6 ?_) q;rw[aj (G0 ac)];show U.free
  .show qs (Rr (qs (bR (T.item (kf X (eh t caps) scope cl H2.objs.size s H fp) rfl rfl rfl hc i _ s' _ HC _ bf (aT bc pD) bb go) λr s4 bm=>?_)));let#[u,hr,h4]:=bm;subst hr;show qs (bR h4 λ_ s5 bz=>?_);let#[x,H5,I5,r5,y5,a5,bx]:=bz;let b8:=(I5.pin _ (wh _ Oi)).2.1;let b7:=I5.pinned (aT bx pD) (T.obj _ _ a5);let mZ:∀{α:Type}{tr:Sem α}{Q:α->oR->Prop}{E':WC}{O:oR},↑tr Q (λ_ _=>False) O->↑tr Q E' O:=λh=>Oj h (λ_ _ z=>z) λ_ _ z=>z.elim;show qs (Sw (hU (X:=kf X (eh t caps) scope cl H2.objs.size s H fp) (i:=0) (x:=t) b7 K.nd rfl (.inl (Qx K.Ly)) r5 (λs6 I6=>?_) (.inr (Qx K.Ly))));let e0:(fC caps σ v0).set 0 (some x)=fC caps σ (some x):=rfl;rw[e0]at I6;show qs (mZ (bR (ht _ _ _ _ _ s6 _ H5 _ I6 (step x H5 y5)) λok s7 bv=>?_));let#[H7,I7,q7]:=bv;let a7:∀{Y:St}{H':Hp}{O:oR},Inv (kf X (eh t caps) scope cl H2.objs.size s H fp) ([(s⁻¹, { cls:=.type "list",data:=.seq its.toArray L })]++kD fp s5.heap) Y H' O ->
     O.heap.get? s⁻¹=some { cls:=.type "list",data:=.seq its.toArray L }/\H' s⁻¹=none/\tn (i+1) O.heap/\(∀b∈fp,H' b=none):=λ{Y H' O} Ix=>by
    let a:=Ix.pin _ (wh _ (OB _ Oi));show#[a.1,a.2.1,T.keep _ _ _ a5 λb G o e=>(Ix.pin (b,o) (wh _ (wh _ (dQ G e)))).1,λb G=>?_];let#[o,e,d]:=T.obj _ _ a5 b G;show(Ix.pin (b,o) (wh _ (wh _ (dQ G e)))).2.1
   let bare:∀{pl:WB}{Y:St}{H':Hp}{O:oR},Inv (kf X (eh t caps) scope cl H2.objs.size s H fp) pl Y H' O->Inv (kf X (eh t caps) scope cl H2.objs.size s H fp) [] Y H' O:=λIx=>Ix.jE λp R=>absurd R (by simp);cases ok with
   |false =>
    rw[Wx vr]at q7;let#[m',hm,w7]:=hN _ _ q7;let#[a1,a2,a3,a4]:=a7 I7;show wpAny_pure #[rfl,m',hm,i+1,ys,its,L,H7,some x,bare I7,a3,a4,a2,a1,r3,z3,w7]
   |true =>
    rw[Wy rfl]at q7;show qs (qs (mZ (bR (he _ _ _ _ _ s7 _ H7 _ I7 q7) λy s8 b0=>?_)));let#[yv,H8,I8,r8,b1,n8]:=b0;let#[m',hm,w8]:=hN _ _ n8;let#[a1,a2,a3,a4]:=a7 I8;let ca:=r3.length;show qs (Qh F.slot_list_append #[_,a1,rfl] F.entry_list_append (F.args_list_append_2 _ _) (Va s⁻¹ its.toArray L y (by rw[ti];omega)) #[a1,?_]);obtain⟨as,q⟩:∃as:Nat,(s8.heap.update s⁻¹ (Obj.mapSeq (·.push y))).get? s⁻¹=some { cls:=.type "list",data:=.seq (its++[y]).toArray as }:=by
     let q:=QF a1 (·.push y);let ea:its.toArray.push y=(its++[y]).toArray:=(by simp);rw[ea]at q;show#[_,q]
    let I9:Inv (kf X (eh t caps) scope cl H2.objs.size s H fp) [] (fC caps σ (some x)) H8 { s8 with heap:=s8.heap.update s⁻¹ (Obj.mapSeq (·.push y)) }:=
     (bare I8).turned (t':=s8.toks) (λb o G e=>(Heap.get?_update_other _ _ (G0 G)).trans e) a2 ac (.inr (t7 _)) bH (λp R=>absurd (show p∈([]:WB)from R) (by simp))
    show wpAny_pure (wpAny_pure #[rfl,m',hm,i+1,ys++[yv],its++[y],as,H8,some x,I9,T.keep _ _ _ a3 λb G o e=>(Heap.get?_update_other _ _ (show s⁻¹≠b from λz=>a8 (by rw[z];show G))).trans e,a4,a2,q,r3.append (.cons r8 .nil),?_,w8])
    .rw[y3,OC];show PySem.W.kdl_size b1
 show Td (bl _ rfl) (T.self _ 0 _ _ _ bd (bl _ rfl))
theorem jC(K:j5 X scope cl t caps)(U:X.calm=true)(hi:PI X (.Name t px) iter wi)
  (N:∀C s₀ H₀ ex,Ji (kf X (eh t caps) scope cl C s₀ H₀ ex) ifs tt) (L:∀C s₀ H₀ ex,PE (kf X (eh t caps) scope cl C s₀ H₀ ex) elt te)
  (hs:∀x,Qs iter X.env x=pure x:=by intro _;rfl):PE X (.ListComp elt [#[.Name t px,iter,ifs,(0)]] scope pos) (Jn caps wi tt te):=by
 intros Q I h;rw[eval_ListComp];show SG (use:=none) rfl hs K.Jt K.kind K.names (bR (hi pins s σ H _ I h) λv s1 h1=>bR h1 λac s2 h2=>?_);let#[it,fp,tn,J,H2,e,F,T,ab,f2,W,#[m0,w0],O]:=h2;subst e;show yg (RR:=λY C=>compPost (model X.prog X.w) X.A X.xe none (EP X pins σ Q) Y C) K U N L F T ab f2 w0 O ?_;intro D C ys H' s' m z I' hn hC q;show#[m,hn,λh' G=>?_];let#[R,c1,c2,c3,c4,c5]:=hC;show#[.ref D,_,I'.turned (t':=s'.toks) (λb o S e=>(G.2 b S).trans e) R c1 c3 c4 c5,rfl,q D z]
end
theorem xA{caps:List (Str×Nat)}{tt:TT}{te:TE}{σ:St}{H:Hp}{lo:Int}{n:Nat}{F:List V->Hp->Prop}(Pv:Nat->List V->Hp->Prop)(J:Pv 0 [] H)
  (hs:∀i ys H,i<n->Pv i ys H->tt (fC caps σ (some (.int (lo+i)))) H λb H2=>if b=true then te (fC caps σ (some (.int (lo+i)))) H2 (λy G=>ys.length<sizeLine/\Pv (i+1) (ys++[y]) G)else Pv (i+1) ys H2)
  (hd:∀ys H,Pv n ys H->F ys H):∃W:Nat->Nat->List V->Hp->Prop,(∃m,W 0 m [] H)/\iL caps tt te σ (Ce lo n) F W:=by
 show#[λi m ys H=>m=n-i/\i<=n/\Pv i ys H,#[n,by simp,Oc _,J],?_];rintro i m ys H ⟨rfl,hi,p⟩;cases z:i<n
 .show .inr #[z,Pv (i+1),λL H' I=>#[n-(i+1),PK n i z,rfl,z,I],λx H' y=>?_];let#[e,y]:=y;subst e y;show hs i ys _ z p
 .let e:i=n:=af;subst e;show .inl #[t7 _,hd ys H p]
theorem Bh{K:DD}{a:Addr}{xs:List V}{caps:List (Str×Nat)}{tt:TT}{te:TE}{σ:St}{H:Hp}{F:List V->Hp->Prop}(Pv:Nat->List V->Hp->Prop)(J:Pv 0 [] H)(I:∀i ys H,i<=xs.length->Pv i ys H->bL K H a xs)
  (hs:∀i x ys H,xs[i]?=some x->Pv i ys H->tt (fC caps σ (some x)) H λb H2=>if b=true then te (fC caps σ (some x)) H2 (λy G=>ys.length<sizeLine/\Pv (i+1) (ys++[y]) G)else Pv (i+1) ys H2)
  (hd:∀ys H,Pv xs.length ys H->F ys H):∃W:Nat->Nat->List V->Hp->Prop,(∃m,W 0 m [] H)/\iL caps tt te σ (Lm K a) F W:=by
 show#[λi m ys H=>m=xs.length-i/\i<=xs.length/\Pv i ys H,#[xs.length,by simp,Oc _,J],?_];rintro i m ys H ⟨rfl,hi,p⟩;let q:=I i ys H hi p;cases z:i<xs.length
 .show .inr #[#[xs,xs[i],q,by simp[z]],Pv (i+1),λN H' L=>#[xs.length-(i+1),PK (QX xs) i z,rfl,z,L],λx H' y=>?_];let#[e,y]:=y;subst e;show hs i x ys _ (y xs q) p
 .let e:i=xs.length:=af;subst e;show .inl #[#[xs,q,t7 _],hd ys H p]
theorem wI{caps:List (Str×Nat)}{te:TE}{σ:St}{H:Hp}{lo:Int}{n:Nat}{z:List V->Hp->Prop}(Pv:Nat->List V->Hp->Prop)(G:Pv 0 [] H)
  (hs:∀i ys H,i<n->Pv i ys H->te (fC caps σ (some (.int (lo+i)))) H (λy F=>ys.length<sizeLine/\Pv (i+1) (ys++[y]) F))
  (hd:∀ys H,Pv n ys H->z ys H):∃W:Nat->Nat->List V->Hp->Prop,(∃m,W 0 m [] H)/\iL caps vd te σ (Ce lo n) z W :=
 xA Pv G (λi ys H hi p=>by
  change if true=true then _ else Pv (i+1) ys H
  rw[Wy rfl];show hs i ys H hi p) hd
theorem AL{K:DD}{a:Addr}{xs:List V}{caps:List (Str×Nat)}{te:TE}{σ:St}{H:Hp}{z:List V->Hp->Prop}(Pv:Nat->List V->Hp->Prop)(I:Pv 0 [] H)(G:∀i ys H,i<=xs.length->Pv i ys H->bL K H a xs)
  (hs:∀i x ys H,xs[i]?=some x->Pv i ys H->te (fC caps σ (some x)) H (λy F=>ys.length<sizeLine/\Pv (i+1) (ys++[y]) F))
  (hd:∀ys H,Pv xs.length ys H->z ys H):∃W:Nat->Nat->List V->Hp->Prop,(∃m,W 0 m [] H)/\iL caps vd te σ (Lm K a) z W :=
 Bh Pv I G (λi x ys H hi p=>by
  change if true=true then _ else Pv (i+1) ys H
  rw[Wy rfl];show hs i x ys H hi p) hd
theorem fb:Om "list" = some (.type "list"):=ak
theorem ja:Om "tuple" = some (.type "tuple"):=ak
theorem xf:Om "int" = some (.type "int"):=ak
theorem EE:Om "bool" = some (.type "bool"):=ak
theorem uc:Om "dict" = some (.type "dict"):=ak
theorem bo:Om "isinstance" = some (.builtin "isinstance"):=ak
theorem gS:Om "sorted" = some (.builtin "sorted"):=ak
section
variable{X:Cx}
inductive BR(x:V)(vs:List V)(H:Hp)(Q:VK):Prop
 |mk(l:Addr)(ns:List Int)(k:Int)(_:x=.ref l)(_:vs=[.int k])(_:H l=some (.lst (ns.map V.int)))(_:k∈ns)(_:Q (.int (ns.idxOf k:Nat)) H)
theorem Ed:FQ X "list.index" BR:=by
 intros x vs v us Q I S Y h;let#[l,ns,k,rfl,rfl,N,hk,q]:=h;cases S;let#[u,rfl,O]:=Y.one;let#[t,rfl]:=O;let#[z,its,n,r,L,e]:=I.nh N;let hi:=intsAre_of r;let R:=hi.length;rw[qi]at L z;let hs:=vl;let G:ns.idxOf k<ns.length:=OV.mpr hk;show Qh SN #[_,e,rfl] PySem.F.entry_list_index (PySem.F.args_list_index_2 _ _)
  (SeqAt.list_indexAt l its.toArray n none ([].toArray) (.int k t) (Wq k) (ns.idxOf k) (by simpa[R]using G) af ?_ ?_) #[e,λy U=>(eq_isInt k t hi y ‹U›).at _ _,#[.int (ns.idxOf k:Nat),H,I.tok _,#[0],q]]
 .change Wq k its[ns.idxOf k]=true;rw[VO k hi _ (PU G L) G];simpa using Sf G
 .intro j ab J;change Wq k its[j]=false;rw[VO k hi j ‹ab› (UJ J G)];show ne_of_lt_idxOf J _
inductive Dv(x:V)(vs:List V)(H:Hp)(Q:VK):Prop
 |mk(l:Addr)(ns:List Int)(k:Int)(_:x=.ref l)(_:vs=[.int k])(_:H l=some (.lst (ns.map V.int)))(_:Q (.int (ns.count k:Nat)) H)
theorem BL:FQ X "list.count" Dv:=by
 intros x vs v us Q I L F h;let#[l,ns,k,rfl,rfl,G,q]:=h;cases L;let#[u,rfl,J]:=F.one;let#[t,rfl]:=J;let#[z,its,n,r,N,e]:=I.nh G;show count_list_ints (PySem.IsL.isList e) (intsAre_of r) #[.int (ns.count k:Nat),H,I.tok _,#[0],q]
end
def jv:List V->List V->Bool
 | [],[]=>true
 |x::xs,y::ys=>mK x y&&jv xs ys
 |_,_=>false
theorem oO:∀{xs ys:List V},xs.length≠ys.length->jv xs ys=false
 | [],[],h=>absurd rfl h
 | [],_::_,_=>rfl
 |_::_,[],_=>rfl
 |x::xs,y::ys,h=>by
  let z:=oO (xs:=xs) (ys:=ys) λe=>h (by simp[e]);change(mK x y&&jv xs ys)=false;rw[z,TK]
theorem kF:∀{xs ys:List V},xs.length=ys.length->(Pw xs.length).all (λj=>mK (xs.getD j .non) (ys.getD j .non))=jv xs ys
 | [],[],_=>rfl
 |x::xs,y::ys,h=>by
  let z:=kF (xs:=xs) (ys:=ys) ‹h›;rw[K4,List.range_succ_eq_map,all_cons,Wf];change(mK x y&&_)=(mK x y&&jv xs ys);rw[<-z];rfl
 | [],_::_,h=>by simp at h
 |_::_,[],h=>by simp at h
theorem fh(xs:List Int):(xs.map V.int).all ed=true:=by
 rw[Wf];show OD.mpr λ_ _=>rfl
section
variable{X:Cx}
theorem pz:Ku X (Cg X.K):=by
 intros o i ov iv Q I ro U h;let#[p,xs,k,z,rfl,rfl,N,he,q]:=h;cases ro;let#[t,rfl]:=U;let#[its,r,pl,hz]:=I.list N;let#[j,h1,h2,h3,Y,S]:=uu he;let#[w,J,O]:=r.get h2;let R:=r.length;let hn:=qr;let G:EP X pins σ Q w s:=#[z,H,I,O,q];cases L:0<=k
 .let F:k.toNat=j:=by
   rw[Sx L S]at h1;show sN h1
  show wpAny_getItem_list pl.isList L af (by rw[F];simpa using J) G
 .let F:(k+(its.toArray.size:Int)).toNat=j:=by
   rw[seqIndex_neg af Y]at h1;rw[ti, <-R];show sN h1
  show S6 pl.isList af (by rw[ti]<;>omega) af (by rw[F];simpa using J) G
theorem dq:eQ X (.builtin "isinstance") (λxs H Q=>∃x n t b,xs=[x,.ty n]/\kR X.K H x t/\PM X.K t (.type n)=some b/\Q (.bl b) H):=by
 intros xs us Q I r h;let#[x,n,t,b,rfl,ty,e,q]:=h;let#[u,c,rfl,F,z]:=vals2 r;obtain rfl:c=Value.type n:=z;show Av I F ty e λtk=>#[.bl b,H,I.tok _,rfl,q]
theorem Gi(K:DD):PM K (.type "int") (.type "int")=some true:=rfl
theorem BW(K:DD):PM K (.type "list") (.type "list")=some true:=rfl
theorem Gm(K:DD):PM K (.type "int") (.type "bool")=some false:=by with_unfolding_all rfl
end
theorem D3:Om "range" = some (.type "range"):=ak
section
variable{X:Cx}
end
end L2
namespace PySem.W
open PySem PySem.Spec PySem.Calls PyProof.Rows Builtin Builtin.ObjectAttr Builtin.Getset_descriptor
section
variable{prog:tp}{w:By}{A:L5}{E:WC}{s:oR}{K:DD}{x C:Addr}
theorem EI{M:Sv}{h:Heap}{v a g:Value}{name:Str}(X:K.In h)(J:OA K (.ref C) name=some (some a))(G:RO K a "__get__" = some (some g))(z:Tn K a=some true) :
  Ud M h (find v (.ref C) name) (.bind g a):=by
 let I:=RY (M:=M) X J;let L2:Ud M h (getOf (some a)) (some g):=looks_specialIn X G;let F:=looks_takesIn (M:=M) X z;show I.andThen (L2.andThen ((show Ud M h (dataDescriptor? (some a) (some g)) (some (g,a))from F.andThen .now).andThen (Looks.tag .now)))
theorem sD{R:Vx->oR->Prop}{F:Value}(X:K.In s.heap)(I:Ud (model prog w) s.heap (Ut (.ref x)) (.ref C))(z:To K C (.type "object")=some true)
  (h:R (.ok (.ret (.ref C))) s):QA (model prog w) A (.call (.builtin "getset_descriptor.__get__") #[[.builtin "object.__class__",.ref x,F],[]]) R s:=by
 let#[G,g,L,t,os]:=s;let J:=looks_mroIn (M:=model prog w) X z;show RD KF.slot_gs.plain KF.entry_gs (KF.slot_gs.check _ _ _ _ _ _ _ _ KF.type_class (KF.args_gs _ _ _) ?_);unfold Builtin.«getset_descriptor.__get__» descrGet;rw[dga_obj];show qs (wpAny_pure ?_);unfold descrGetter descrCheckInstance descrNameAndClass isInstance;simp only[KF.owner_class]
 repeat lk
 show#[Code.quiet_builtin _ ak,codeAny_builtin KF.entry_class ?_];unfold Builtin.«object.__class__» shownTypeOf
 repeat lk
 show h
theorem Ct{tk:Wj}{Q:Fin->oR->Prop}(X:K.In s.heap)(z:Ud (model prog w) s.heap (Ut (.ref x)) (.ref C))(F:To K C (.type "object")=some true)
  (L:OA K (.ref C) "__class__" = some (some (.builtin "object.__class__"))) (J:RO K (.builtin "object.__class__") "__get__" = some (some (.builtin "getset_descriptor.__get__"))) (G:Tn K (.builtin "object.__class__")=some true)
  (h:Q (.done (.ret (.ref C))) s):wpAny (model prog w) A (Builtin.«object.__getattribute__» #[[.ref x,.str "__class__" tk],[]]) Q E s:=by
 let#[N,g,O,t,os]:=s;let I:=EI (M:=model prog w) (v:=.ref x) X L J G;show qs (wpAny_pure (qs (wpAny_pure (qs (z.at (qs (I.at ?_)))))));change wpAny _ _ (Q2 [.builtin "object.__class__"] (call (.builtin "getset_descriptor.__get__") [.builtin "object.__class__",.ref x,.ref C])>>=ret) _ _ _;show qs (OX (Rj (sD X z F (wpAny_pure h))))
theorem zI(self:Value):bindSpecial (.builtin "BaseException.__getattribute__") self=pure (.builtin "BaseException.__getattribute__",[self]):=F.excAttr_ValueError.ga.bind self
theorem wV{M:Sv}{Q:Unit->oR->Prop}(X:K.In s.heap)(N:Ud M s.heap (Ut (.ref x)) (.ref C))(J:To K C (.type "BaseException")=some true)(b:Value)
  (G:Q () s):wpAny M A (UX "BaseException.__getattribute__" #[[.ref x,b],[]]) Q E s:=by
 let#[L,g,S,t,os]:=s;let O:=looks_mroIn (M:=M) X J;let I:builtinKind "BaseException.__getattribute__" = some .slot:=ak;let z:splitId "BaseException.__getattribute__" = some ("BaseException","__getattribute__"):=ak;let R:=F.args_bexc_ga (.ref x) b;simp only[UX,I,z];unfold isInstance
 repeat lk
 show G
theorem wF{tk:Wj}{Q:WC}(X:K.In s.heap)(z:Ud (model prog w) s.heap (Ut (.ref x)) (.ref C))(O:To K C (.type "object")=some true)(J:To K C (.type "BaseException")=some true)
  (I:OA K (.ref C) "__getattribute__" = some (some (.builtin "BaseException.__getattribute__"))) (L:OA K (.ref C) "__getattr__" = some none)
  (G:OA K (.ref C) "__class__" = some (some (.builtin "object.__class__"))) (S:RO K (.builtin "object.__class__") "__get__" = some (some (.builtin "getset_descriptor.__get__"))) (N:Tn K (.builtin "object.__class__")=some true)
  (h:Q (.ref C) s):wpAny (model prog w) A (getAttrBy (.ref x) (.str "__class__" tk) false) Q E s:=by
 let#[U,g,Y,t,os]:=s;let R:=RY (M:=model prog w) X I;let L2:=RY (M:=model prog w) X L;unfold getAttrBy;show OX (qs (z.at (qs (R.at ?_))));change wpAny _ _ (getAttrByItsOwn _ _ _ _ _ _) _ _ _;unfold getAttrByItsOwn;show qs (show wpAny _ _ (VB (.ref C) "__getattr__") _ _ _ from L2.at (qs (Rt (OX ?_))));change wpAny _ _ (boundAndCalled _ _ _) _ _ _;unfold boundAndCalled;rw[zI];show qs (wpAny_pure ?_);change wpAny _ _ (call (.builtin "BaseException.__getattribute__") [.ref x,.str "__class__" tk]) _ _ _;show Rj (RD F.excAttr_ValueError.ga.plain F.entry_bexc_ga (wV X z J _ (Ct X z O G S N ?_)));show wpAny_pure h
theorem CM{Q:Option Value->oR->Prop}(X:K.In s.heap)(G:Ud (model prog w) s.heap (Ut (.ref x)) (.ref C))(J:To K C (.type "object")=some true)(O:To K C (.type "BaseException")=some true)
  (L:OA K (.ref C) "__getattribute__" = some (some (.builtin "BaseException.__getattribute__"))) (z:OA K (.ref C) "__getattr__" = some none)
  (I:OA K (.ref C) "__class__" = some (some (.builtin "object.__class__"))) (N:RO K (.builtin "object.__class__") "__get__" = some (some (.builtin "getset_descriptor.__get__"))) (F:Tn K (.builtin "object.__class__")=some true)
  (h:Q (some (.ref C)) { s with toks:=s.toks+1 }):wpAny (model prog w) A (getAttr? (.ref x) "__class__") Q E s:=by
 unfold getAttr? getAttrBy?;show qs (wpAny_mkText (qs (Rt (wF (s:={ s with toks:=s.toks+1 }) X G J O L z I N F (wpAny_pure h)))))
end
structure AF(K:DD)(C:Addr):Prop where
 ob:To K C (.type "object")=some true
 be:To K C (.type "BaseException")=some true
 ga:OA K (.ref C) "__getattribute__" = some (some (.builtin "BaseException.__getattribute__"))
 gb:OA K (.ref C) "__getattr__" = some none
 cc:OA K (.ref C) "__class__" = some (some (.builtin "object.__class__"))
 cg:RO K (.builtin "object.__class__") "__get__" = some (some (.builtin "getset_descriptor.__get__"))
 ct:Tn K (.builtin "object.__class__")=some true
theorem AF.cl{K:DD}{C:Addr}(c:AF K C):(clsIn K C).isSome=true:=by
 let#[cd,h,_]:=Q0.mp c.ob;rw[h];rfl
theorem D2{K:DD}{x C:Addr}(c:AF K C):KitX K (.ref x) (.ref C) (λh=>∃o,h.get? x=some o/\o.cls=.ref C) where
 ty:=λM h _ ⟨o,h1,h2⟩=>h2▸(Vj h1).andThen .now
 it:=λ_ _ X _=>by
  let#[R,F]:=Po.mp c.cl;unfold clsIn at F
  set_option tactic.hygienic true in split at F
  .rename_i O d' L I G;intro S Y U s' k q;unfold isType loadHead;show qs (wpAny_loadPart (k _ _ (X _ _ G)) (wpAny_pure q))
  .cases F
 ne:=λh N dd its n sl X J=>by
  let#[R,F]:=Po.mp c.cl;show Bool.eq_false_iff.mpr λq=>?_;let e:C=N:=Value.ref.inj (beq_iff_eq.mp q);subst e;unfold clsIn at F
  set_option tactic.hygienic true in split at F
  .rename_i O d' L I G;let z:=(X _ _ G).symm.trans J;cases z
  .cases F
 ca:=λX ⟨o,h1,h2⟩ k=>CM X (h2▸(Vj h1).andThen .now) c.ob c.be c.ga c.gb c.cc c.cg c.ct k
end PySem.W
namespace L2
open PySem PySem.Spec PyProof.Rows PySem.W
def C2(e:Addr)(h:Heap):Prop:=∃o vs,h.get? e=some o/\o.data=.fields vs/\vs[2]?=some .none
def Mn(f:Obj->Obj):Prop:=∀o vs,o.data=.fields vs->vs[2]?=some .none->∃z,(f o).data=.fields z/\z[2]?=some .none
inductive Pl{α:Type}:Sem α->Prop
 |pure(a:α):Pl (.pure a)
 |raise(e:Value):Pl (.raise e)
 |unsupported(x:String):Pl (.unsupported x)
 |finish(x:Ending):Pl (.finish x)
 |rule(tag:String)(k:Unit->Sem α)(h:∀u,Pl (k u)):Pl (.rule tag k)
 |at_(p:QJ)(k:Unit->Sem α)(h:∀u,Pl (k u)):Pl (.at p k)
 |load(a:Addr)(part:WI)(k:Obj->Sem α)(h:∀o,Pl (k o)):Pl (.load a part k)
 |update(a:Addr)(part:WI)(f:Obj->Obj)(k:Unit->Sem α)(hf:Mn f)(h:∀u,Pl (k u)):Pl (.update a part f k)
 |alloc(o:Obj)(k:Addr->Sem α)(h:∀a,Pl (k a)):Pl (.alloc o k)
 |loadIfAlive(a:Addr)(k:Option Obj->Sem α)(h:∀o,Pl (k o)):Pl (.loadIfAlive a k)
 |point(l:WH)(k:Unit->Sem α)(h:∀u,Pl (k u)):Pl (.point l k)
 |register(a:Addr)(k:Unit->Sem α):Pl (.register a k)
 |fresh(k:Wj->Sem α)(h:∀t,Pl (k t)):Pl (.fresh k)
 |ask(k:Setting->Sem α)(h:∀t,Pl (k t)):Pl (.ask k)
 |handled(own:Bool)(k:Option Value->Sem α)(h:∀t,Pl (k t)):Pl (.handled own k)
 |stack(k:List (Code×QJ)->Sem α)(h:∀t,Pl (k t)):Pl (.stack k)
theorem Pl.bind{α G:Type}{t:Sem α}{k:α->Sem G}(h:Pl t)(I:∀a,Pl (k a)):Pl (t>>=k):=by
 change Pl (Sem.bind t k)
 induction h with
 |pure a=>show I a
 |raise e=>show .raise e
 |unsupported x=>show .unsupported x
 |finish x=>show .finish x
 |rule L F _ z=>show .rule _ _ z
 |at_ p F _ z=>show .at_ _ _ z
 |load a part F _ z=>show .load _ _ _ z
 |update a part f F J _ z=>show .update _ _ _ _ J z
 |alloc o F _ z=>show .alloc _ _ z
 |loadIfAlive a F _ z=>show .loadIfAlive _ _ z
 |point l F _ z=>show .point _ _ z
 |register a F=>show .register _ _
 |fresh F _ z=>show .fresh _ z
 |ask F _ z=>show .ask _ z
 |handled own F _ z=>show .handled _ _ z
 |stack F _ z=>show .stack _ z
theorem C2.push{e:Addr}{h:Heap}{o:Obj}(c:C2 e h):C2 e (h.push o):=let ⟨x,vs,h1,h2⟩:=c;#[x,vs,Heap.get?_push_of_some _ h1,h2]
theorem C2.update{e a:Addr}{h:Heap}{f:Obj->Obj}(c:C2 e h)(I:Mn f):C2 e (h.update a f):=by
 let#[x,vs,h1,h2,F]:=c;cases q:a=e
 .subst q;let#[J,z,G]:=I x vs h2 F;show#[f x,J,Heap.get?_update_self _ h1 (Obj.isFreed_of_fields z),z,G]
 .show#[x,vs,(Heap.get?_update_other _ _ q).trans h1,h2,F]
theorem Pl.wp{α:Type}{M:Sv}{F:PySem.Ctx}{t:Sem α}{e:Addr}{Q:α->QJ->oR->Prop}{E:Value->QJ->oR->Prop}(h:Pl t):∀(p:QJ)(s:oR),Sem.wp M F t Q E p s->C2 e s.heap ->
  Sem.wp M F t (λa p s=>Q a p s/\C2 e s.heap) (λx p s=>E x p s/\C2 e s.heap) p s:=by
 induction h with
 |pure a=>intro p s q c;rw[Sem.wp]at q ⊢;show#[q,c]
 |raise e=>intro p s q c;rw[Sem.wp]at q ⊢;show#[q,c]
 |unsupported x=>intro p s q c;rw[Sem.wp]at q;show q.elim
 |finish x=>intro p s q c;rw[Sem.wp]at q;show q.elim
 |rule L k _ z=>intro p s q c;rw[Sem.wp]at q ⊢;show z () p s q c
 |at_ I k _ z=>intro p s q c;rw[Sem.wp]at q ⊢;show z () I s q c
 |load a part k _ z=>intro p s q c;rw[Sem.wp]at q ⊢;let#[o,G,q]:=q;show#[o,G,z o p s q c]
 |update a part f k J _ z=>intro p s q c;rw[Sem.wp]at q ⊢;show#[q.1,z () p _ q.2 (c.update J)]
 |alloc o k _ z=>intro p s q c;rw[Sem.wp]at q ⊢;show z _ p _ q c.push
 |loadIfAlive a k _ z=>intro p s q c;rw[Sem.wp]at q ⊢;show z _ p s q c
 |point l k _ z=>intro p s q c;rw[Sem.wp]at q ⊢;show z () p s q c
 |register a k=>intro p s q c;rw[Sem.wp]at q;show q.elim
 |fresh k _ z=>intro p s q c;rw[Sem.wp]at q ⊢;show z _ p _ q c
 |ask k _ z=>intro p s q c;rw[Sem.wp]at q ⊢;show z _ p s q c
 |handled own k _ z=>intro p s q c;rw[Sem.wp]at q ⊢;show z _ p s q c
 |stack k _ z=>intro p s q c;rw[Sem.wp]at q ⊢;show z _ p s q c
theorem Pl.any{α:Type}{M:Sv}{A:L5}{t:Sem α}{e:Addr}{Q:α->oR->Prop}{E:WC}{s:oR}(h:Pl t)(q:wpAny M A t Q E s)(c:C2 e s.heap):wpAny M A t (λa s=>Q a s/\C2 e s.heap) (λx s=>E x s/\C2 e s.heap) s :=
 λz p F=>h.wp p s (q z p F) c
theorem Hv{i:Nat}{v:Value}(h:i≠2):Mn (Obj.mapFields (·.setIfInBounds i v)):=λo vs hd h2=>#[_,Obj.data_mapFields hd _,by rw[Array.getElem?_setIfInBounds_ne h];show h2]
theorem sZ(a:Addr):Pl (load a):=.load _ _ _ λo=>.pure o
theorem As(v:Value):Pl (fieldsOf v):=by
 unfold fieldsOf;split
 .show Pl.bind (sZ _) λo=>?_;split
  .show .pure _
  .show .unsupported _
 .show .unsupported _
theorem lS(v:Value)(i:Nat):Pl (V8 v i):=by
 unfold V8;show Pl.bind (As v) λvs=>?_;split
 .show .pure _
 .show .unsupported _
theorem iV(v:Value)(i:Nat)(x:Value)(h:i≠2):Pl (setField v i x):=by
 unfold setField;split
 .unfold updateField;show Pl.bind (sZ _) λo=>?_;split
  .split
   .show .update _ _ _ _ (Hv h) λu=>.pure u
   .show .unsupported _
  .show .unsupported _
 .show .unsupported _
theorem oW:Pl stack:=.stack _ λl=>.pure l
theorem sO(ty:String)(vs:WH):Pl (newFields ty vs):=by
 let z:Pl (newObjAsIs (Value.type ty) (Data.fields vs.toArray)):=Pl.bind (.alloc _ _ λa=>.pure a) λa=>.pure _;unfold newFields newObj;dsimp only;split
 .show Pl.bind (.unsupported _) λ_=>z
 .show z
theorem Ey:Pl frameEnvs:=by
 unfold frameEnvs;show Pl.bind oW λl=>.pure _
theorem AO(env:Sn)(outer:List Sn):Pl (behindIsImport env outer):=by
 unfold behindIsImport;split
 .show .pure _
 .split
  .show .pure _
  .show Pl.bind (lS _ _) λ_=>.pure _
theorem B2:Pl TV:=by
 unfold TV;show Pl.bind oW λ_=>.pure _
theorem FH(env:Sn)(i:Bool)(l:List Sn):Pl (keptBack env i l):=by
 unfold keptBack;split
 .split
  .show .pure _
  .show Pl.bind B2 λ_=>.pure _
 .show .pure _
theorem wG:∀l:List Sn,Pl (readyFrames l)
 | []=>.pure _
 |env::outer=>by
  unfold readyFrames;split
  .show Pl.bind (sZ _) λo=>?_;split
   .show .pure _
   .show Pl.bind (AO _ _) λi=>Pl.bind (FH _ _ _) λb=>Pl.bind (.update _ _ _ _ (λo vs h1 h2=>#[vs,h1,h2]) λu=>.pure u) λ_=>wG outer
  .show .unsupported _
theorem qh(l:List Sn):Pl (frameObject l):=by
 cases l with
 |nil=>show .pure _
 |cons env outer =>
  unfold frameObject;show Pl.bind (wG _) λ_=>.pure _
theorem xh(env:Sn):Pl (Um env):=by
 unfold Um;show Pl.bind Ey λl=>Pl.bind (qh _) λo=>?_;split
 .show .pure _
 .show .unsupported _
theorem CL(f:Addr)(b:Bool):Pl (UN f b):=by
 unfold UN;show Pl.bind oW λl=>?_;split
 .show .pure _
 .show .pure _
theorem mq(v:Value)(f:WJ):Pl (setFlight v f):=by
 unfold setFlight;show Pl.bind (lS _ _) λtb=>?_;split
 .show iV _ _ _ ar
 .show .pure _
theorem yU(v:Value)(env:Sn):Pl (noteFrame v env):=by
 unfold noteFrame;split
 .show Pl.bind (lS _ _) λhd=>?_;let rest:∀f:Addr,Pl (do
    let a <-Um env
    let pl <-UN f (hd != .none)
    let b <-EntryCells.newEntry hd a .none (US f) .none pl
    setField v 1 b):=λf=>Pl.bind (xh _) λa=>Pl.bind (CL _ _) λq=>Pl.bind (sO _ _) λb=>iV _ _ _ ar
  split
  .show Pl.bind (lS _ _) λx=>?_;split
   .show .pure _
   .show Pl.bind (iV _ _ _ ar) λ_=>rest _
  .show rest _
 .show .unsupported _
theorem yH(env:Sn)(v:Value):Pl (leaving env v):=by
 unfold leaving;show Pl.bind (yU _ _) λ_=>mq _ _
def uU(B:Heap)(l:List Sn)(e:Addr)(cls F:Value)(h:Heap):Prop :=
 B.StaysIn h/\B.get? e=none/\h.FunFrames B l/\∃z vs,h.get? e=some z/\z.cls=cls/\z.data=.fields vs/\vs[0]?=some F/\vs[1]?=some .none
def Cc(X:Cx)(pins:WB)(σ:St)(H:Hp)(B:Heap)(s:oR):Prop :=
 ∀(h':Heap)(tk:Nat),B.StaysIn h'->s.heap.UpToSlots h'->~~~H { s with heap:=h',toks:=tk }
structure D5(X:Cx)(pins:WB)(H:Hp)(e:Addr):Prop where
 old:X.s₀.heap.get? e=none
 loc:e≠X.env.locals
 fs:e∉X.fs
 cell:∀x c,X.env.cells.lookup x=some c->c≠e
 pin:∀p∈X.pn++pins,p.1≠e
 free:H e=none
abbrev XR:=St->Value->Hp->Prop
def XP(X:Cx)(pins:WB)(R:XR)(x:Value)(s':oR):Prop :=
 ∃(e:Addr)(cls z:Value)(B:Heap)(σ:St)(H:Hp),x=.ref e/\(uU B X.stack e cls z s'.heap\/Heap.FlyingW B X.stack e cls z s'.heap\/∃L,X.env.frame=some L/\Heap.HeldW B X.stack e cls z L s'.heap)/\C2 e s'.heap/\Cc X pins σ H B s'/\D5 X pins H e/\R σ cls H
def fB(P:tp)(w:By):qP:=λouter H s E x s' =>
 ∃(e:Addr)(cls z:Value)(B:Heap)(H':Hp),x=.ref e/\s'.os=s.os/\RN s'.gens/\s.heap.get? e=none/\H' e=none/\Heap.FlyingW B outer e cls z s'.heap/\C2 e s'.heap /\
  (∀h',B.StaysIn h'->s'.heap.UpToSlots h'->Un (qE outer) [] H H' s.heap h'/\j7 P w H' h')/\E cls none H'
theorem aN.cx{P:tp}{w:By}{K:DD}{mg:WD}{base:Heap}{k:Nat}{f:Addr}{fd:qw}{ps:List Str}{sp:Sp}(F:↥aN k f fd ps sp) :
  ⇑aN k f fd ps sp:=#[F.len,λA outer s H args us vs Q E G J I r h=>QB (F.run A outer s H args us vs Q E G J I r h) λr s' q=>by
   cases r with
   |error e=>show Ov q
   |ok z=>cases z<;>show q]
section
variable{X:Cx}{pins:WB}{σ:St}{H H':Hp}{s s':oR}
theorem Inv.Ga(I: ~~~H s)(hex:X.ex=[]){e:Addr}(h:s.heap.get? e=none)(L:H' e=none):D5 X pins H' e:=by
 let G:X.s₀.heap.get? e=none:=by
  cases q:X.s₀.heap.get? e with
  |none=>rfl
  |some o =>
   let#[o',z]:=I.base.there e o q (by rw[hex];simp);rwa[h]at z
 show#[G,λz=>?_,λz=>?_,λx c q z=>?_,λp J z=>?_,L]
 .let#[m,#[o,_,_,F,_],_]:=I.loc;rwa[<-z,h]at F
 .let#[_,o,F,_]:=I.ok.jZ.mem z;rwa[G]at F
 .let#[v,o,F,_]:=I.cell x c q;rwa[z,h]at F
 .have:=(I.pin p J).1;rwa[z,h]at this
theorem Inv.comes{E:XK}{x:Value}(I: ~~~H s)(hex:X.ex=[])(h:fB X.prog X.w X.stack H s E x s'):XP X pins (λL cls H'=>L=σ/\E cls none H') x s':=by
 let#[e,cls,J,B,H',rfl,os,bare,new,free,N,F,keep,q]:=h;show#[e,cls,J,B,σ,H',rfl,.inr (.inl N),F,λh' tk k u=>?_,I.Ga hex new free,rfl,q];let#[un,G]:=keep h' k u;show I.zw (s':={ s' with heap:=h',toks:=tk }) (ch:=[]) os un G bare (λb z=>absurd z (by simp))
theorem XP.imp{R z:XR}{x:Value}(h:XP X pins R x s')(J:∀σ cls H,R σ cls H->z σ cls H):XP X pins z x s':=by
 let#[e,cls,O,B,σ,H,L,I,G,F,N,q]:=h;show#[e,cls,O,B,σ,H,L,I,G,F,N,J _ _ _ q]
theorem Cc.now{B:Heap}(b:Cc X pins σ H B s)(k:B.StaysIn s.heap): ~~~H s:=b s.heap s.toks k (Heap.UpToSlots.refl _)
end
abbrev Fj:=St->Hp->VK->(Value->Hp->Prop)->Prop
abbrev pK:=Ends->XR->St->Hp->Prop
def En(X:Cx)(e:Ob)(t:Fj):Prop :=
 ∀(pins:WB)(s:oR)(σ:St)(H:Hp)(Q:VK)(R:Value->Hp->Prop),~~~H s->t σ H Q R ->
  ↑(eval e X.env) (EP X pins σ Q) (XP X pins λz cls H'=>z=σ/\R cls H') s
def CV(X:Cx)(st:N8)(t:pK):Prop :=
 ∀(pins:WB)(s:oR)(σ:St)(H:Hp)(D:Ends)(R:XR),~~~H s->t D R σ H->↑(exec st X.env) (SP X pins D) (XP X pins R) s
def p5(X:Cx)(st:List N8)(t:pK):Prop :=
 ∀(pins:WB)(s:oR)(σ:St)(H:Hp)(D:Ends)(R:XR),~~~H s->t D R σ H->↑(execs st X.env) (SP X pins D) (XP X pins R) s
section
variable{X:Cx}{e:Ob}{te:TE}{tx:Fj}{t:TS}{ts us:pK}{st:N8}{sts rest:List N8}{pos:QJ}
theorem dy(h:PS X.mZ st t):CV X st (λD _ σ H=>t D σ H):=λpins s σ H D R I q =>
 Oj (h pins s σ H D (I.gJ _) q) (λ_ _ z=>z.cm) λ_ _ z=>z.elim
def zE(t u:pK):pK:=λD R σ H=>t { D with nx:=u D R } R σ H
theorem aE(h1:CV X st ts)(h2:p5 X rest us):p5 X (st::rest) (zE ts us):=by
 intros D R I h;show Rg (bR (h1 pins s σ H _ R I h) λf s1 z=>?_);cases f with
 |next =>
  let#[G,H',F,q]:=z;show h2 pins s1 G H' D R F q
 |brk=>show z
 |cont=>show z
 |ret u=>show z
theorem bO(h1:CV X st ts):p5 X [st] ts:=by
 intros D R I h;show Rg (bR (h1 pins s σ H D R I h) λf s1 q=>?_);cases f with
 |next=>show Py q
 |ret v=>show q
 |brk=>show q
 |cont=>show q
def tL:pK:=λD _ σ H=>D.nx σ H
theorem cf:p5 X [] tL:=λ_ _ σ H _ _ I h=>Py #[σ,H,I,h]
theorem nx{α:Type}{M:Sv}{A:L5}{F:Sem α}{Q G:α->oR->Prop}{E:WC}{s:oR}(h:wpAny M A F Q (λ_ _=>False) s)(I:∀a s,Q a s->G a s):wpAny M A F G E s :=
 Oj h I λ_ _ z=>z.elim
def IQ(te:Fj):pK:=λD R σ H=>te σ H (λ_ H1=>D.nx σ H1) (R σ)
theorem XP.at{pins:WB}{σ:St}{R:XR}{x:Value}{s':oR}(h:XP X pins (λz cls H'=>z=σ/\R σ cls H') x s'):XP X pins R x s':=h.imp λ_ _ _ ⟨e,q⟩=>e▸q
theorem gy(J:En X e tx)(hs:Rh e none pos.line X.env=pure false:=by rfl):CV X (.Expr e pos) (IQ tx):=by
 intros D R I h;show wpAny_Expr_any (Oj (J pins s σ H _ _ I h) (λv s1 ⟨x,H1,F,L,G⟩=>#[σ,H1,F,G]) λ_ _ z=>z.at) I.quiet hs
def KU(te:Fj):pK:=λD R σ H=>te σ H D.rt (R σ)
theorem ix(L:En X e tx):CV X (.Return (some e) pos) (KU tx):=by
 intros D R I h;show UA (Oj (L pins s σ H _ _ I h) (λv s1 ⟨x,H1,F,G,J⟩=>#[x,σ,H1,F,G,J]) λ_ _ z=>z.at)
def Gb(te:Fj)(i:Nat):pK:=λD R σ H=>te σ H (λv H1=>D.nx (σ.set i (some v)) H1) (R σ)
theorem EG{i:Nat}{x:Str}{pos':QJ}(S:X.N.Nodup)(hi:X.N[i]?=some x)(hx:Loc X.env.scope x)(O:En X e tx)(hs:Rh e (some (.Name x pos')) pos.line X.env=pure false:=by rfl)(U:X.fn x=true\/X.env.scope.names.lookup x=some .local:=by first|show .inl rfl|show .inr rfl|assumption) :
  CV X (.Assign [.Name x pos'] e pos) (Gb tx i):=by
 intros D R I h;show UC (Oj (O pins s σ H _ _ I h) (λv s1 ⟨y,H1,G,J,L⟩=>?_) λ_ _ z=>z.at) hs;show hU G S hi hx J (λs2 F=>#[_,H1,F,L]) U
theorem Bb(i:Nat){x:Str}{pos':QJ}(z:X.N.Nodup)(G:En X e tx)(hi:X.N[i]?=some x:=by rfl)(hx:Loc X.env.scope x:=by first|show .inl rfl|show .inr rfl)(hs:Rh e (some (.Name x pos')) pos.line X.env=pure false:=by rfl)(F:X.fn x=true\/X.env.scope.names.lookup x=some .local:=by first|show .inl rfl|show .inr rfl|assumption):CV X (.Assign [.Name x pos'] e pos) (Gb tx i):=EG z hi hx G hs F
def Fp(c:TT)(t u:pK):pK:=λD R σ H=>c σ H λb H1=>if b=true then t D R σ H1 else u D R σ H1
theorem dz{c:Ob}{a b:List N8}{tc:TT}(G:PT X.mZ c tc)(J:p5 X a ts)(L:p5 X b us):CV X (.If c a b pos) (Fp tc ts us):=by
 intros D R I h;show wpAny_If (nx (G pins s σ H _ (I.gJ _) h) λd s1 ⟨H1,z,F⟩=>?_);cases d with
 |true=>show J pins s1 σ H1 D R z.cm F
 |false=>show L pins s1 σ H1 D R z.cm F
variable{k:Nat}{f C:Addr}{fd:qw}{ps:List Str}{sp:Sp}{dvs:List V}{ds:WH}{x m:Str}{p apos:QJ}{o:Ob}{es:List Ob}{ta:TE}{t:TA}
theorem zj{pins:WB}{σ:St}{H:Hp}{s:oR}{Q:VK}{R:Value->Hp->Prop}{us:WH}{vs:List V}(F:aN X.prog X.w X.K X.mg X.base (fB X.prog X.w) k f fd ps sp)(L:cW k X.A)(O:Binds X.K fd ps ds)(hd:Vals dvs ds)(hex:X.ex=[])
  (I: ~~~H s) (r:Vals vs us) (h:sp (vs++dvs) H Q λcls _ H'=>R cls H'):↑(call (.ref f) us) (EP X pins σ Q) (XP X pins λJ cls H'=>J=σ/\R cls H') s:=by
 let G:Vals (vs++dvs) (us++ds):=r.append hd;let N:(us++ds).length=ps.length:=(by rw[<-G.length];show F.len _ _ _ _ h);show Rj (QB (F.run X.A X.stack s H #[us,[]] (us++ds) (vs++dvs) Q _ L I.Fb (O s us I.jL N) G h) λr s' z=>?_);cases r with
 |error e=>show I.comes (E:=λcls _ H'=>R cls H') hex (show fB X.prog X.w X.stack H s (λcls _ H'=>R cls H') e s' from z)
 |ok S =>
  cases S with
  |ret u=>show I.after z
  |next=>show Ov z
  |brk=>show Ov z
  |cont=>show Ov z
def BE(sp:Sp)(dvs:List V)(t:TA):Fj:=λσ H Q R=>t σ H λvs H1=>sp (vs++dvs) H1 Q λcls _ H'=>R cls H'
def Iw(C:Addr)(m:Str)(sp:Sp)(dvs:List V)(ta:TE)(t:TA):Fj:=λσ H Q R=>ta σ H λx H1=>∃a dx fs,x=.ref a/\H1 a=some (.ins C dx fs)/\fs.lookup m=none /\
 t σ H1 λvs H2=>sp (x::(vs++dvs)) H2 Q λcls _ H'=>R cls H'
theorem wk(F:aN X.prog X.w X.K X.mg X.base (fB X.prog X.w) k f fd ps sp)(S:cW k X.A)(hex:X.ex=[])(L:Gl X x)(U:X.mg x=some (.ref f))(N:RZ X.K (.ref f)=true)(Y:Binds X.K fd ps ds)(hd:Vals dvs ds)
  (O:PA X.mZ (e::es) t) (G:(x==("__debug__" : Str))=false:=by decide) (he:starEach (e::es) X.env=(false,eval e X.env)::starEach es X.env:=by rfl) (J:(backTo pos (starEach es X.env)).any (·.1)=false:=by rfl) :
  En X (.Call (.Name x p) (e::es) [] pos) (BE sp dvs t):=by
 intros Q R I h;show Pf (gI I L U ?_ G);show Rk (h₀:=X.base) I.ok.mod.Dr N (nx (O pos pins s σ H _ (I.gJ _) h) λus s1 ⟨vs,H1,z,r,q⟩=>#[z.cm.jL,?_]) he J;show zj F S Y hd hex z.cm r q
theorem gz{pl:Sem Bool}(he:PE X.mZ o ta)(c:qI X.K C)(J:Meth X.K C m f)(F:aN X.prog X.w X.K X.mg X.base (fB X.prog X.w) k f fd ps sp)(S:cW k X.A)(hex:X.ex=[])(Y:Binds X.K fd ps ds)(hd:Vals dvs ds)(N:PA X.mZ (e::es) t)
  (ab:starEach (e::es) X.env=(false,eval e X.env)::starEach es X.env:=by rfl) (L:(backTo pos (starEach es X.env)).any (·.1)=false:=by rfl)
  (O:eval (.Call (.Attribute o m apos) (e::es) [] pos) X.env=(do
   let ov <-eval o X.env
   SV apos.atName
   let (f,first) <-Q2 [ov] (Ri ov m pl)
   TB pos f first (backTo pos (starEach (e::es) X.env)) (Ry pos (Qe [] X.env))):=by rfl) :
  En X (.Call (.Attribute o m apos) (e::es) [] pos) (Iw C m sp dvs ta t):=by
 intros Q R I h;show SF (pl:=pl) (nx (he pins s σ H _ (I.gJ _) h) λu s1 ⟨x,H1,G,rx,a,dx,fs,ex,U,l,q⟩=>?_) O;subst ex;obtain rfl:u=Value.ref a:=rx;show ir G.cm U c J l ?_;show Rk (first:=[.ref a]) (h₀:=X.base) I.ok.mod.Dr J.kp (nx (N pos pins s1 σ H1 _ G q) λus s2 ⟨vs,H2,z,r,q2⟩=>#[z.cm.jL,?_]) ab L;show zj (us:=.ref a::us) (vs:=.ref a::vs) F S Y hd hex z.cm (.cons rfl r) q2
end
def Ck:List Value:=[.type "ValueError",.type "Exception",.type "BaseException",.type "object"]
theorem ES{K:DD}{h:Heap}{C:Addr}{J:WH}{G:String}(X:K.In h)(q:excIn K C J G=true) :
  ∃bm N nm q bs hdct sn sub ab col dd k0 k1 k2 k3 k5 mN,h.get? C=some (excClassObj nm q C N bs bm hdct sn sub ab col dd k0 k1 k2 k3 k5 G)/\h.Ns N mN/\mN "__init__" = none/\OwnTail h J bm:=by
 unfold excIn at q
 set_option tactic.hygienic true in split at q
 .rename_i dd cd sl O
  set_option tactic.hygienic true in split at q
  .rename_i C' bm k0 k1 k2 k3 n k5 L hs;simp only[Qd,beq_iff_eq,Bool.not_eq_true']at q;let#[#[#[#[#[rfl,rfl],I],R],z],F]:=q;let#[nm,bs,Y,ns,S,hd,sn,sub,ab,col,del]:=cd;dsimp only at L I z F;subst L I;let U:sl = ([k0,k1,k2,k3,some (.builtin n),k5].toArray):=by
    let#[l]:=sl;simp only at hs;rw[hs]
   subst U;show#[bm,ns,nm,S,bs,hd,sn,sub,ab,col,dd,k0,k1,k2,k3,k5,_,X _ _ O,.of_isNs (PySem.W.isNs_of_in X z),PySem.W.nsMap_none_of_in X z F,PySem.W.tail_of_in X R]
  .cases q
 .cases q
theorem uY{P:tp}{w:By}{H:Hp}{h:Heap}{a:Addr}{o:HO}(x:bU P w H h a o):∃z,h.get? a=some z:=by
 cases o with
 |lst xs=>let#[_,_,_,_,e]:=x;show#[_,e]
 |tup xs=>let#[_,_,_,p]:=x;let#[o,e,_]:=p;show#[_,e]
 |dK kvs=>let#[_,_,_,_,o,_,_,e,_]:=x;show#[_,e]
 |dT kvs=>let#[_,_,_,_,o,_,_,e,_]:=x;show#[_,e]
 |set S n=>let#[o,_,_,_,e,_]:=x;show#[_,e]
 |ins C dx fs=>let#[_,_,_,e,_]:=x;show#[_,e]
 |own y=>let#[_,e]:=x;show#[_,e]
 |xd fs=>let#[_,#[_,_,_,e,_],_]:=x;show#[_,e]
 |rng lo hi=>let#[_,_,_,e]:=x;show#[_,e]
 |frz z u=>let#[e,_]:=x;show#[_,e]
 |tbl ps=>show#[_,(show h.get? a=some _ from x)]
 |met f y=>show#[_,(show h.get? a=some _ from x)]
 |ext F=>let#[_,e,_]:=x;show e
section
variable{X:Cx}{pins:WB}{σ:St}{H:Hp}{s:oR}
theorem Inv.raised{h':Heap}{e:Addr}{cls:Value}{vs:WH}(I: ~~~H s)(hex:X.ex=[])(hx:Heap.MadeExcOf s.heap h' e cls vs):XP X pins (λU c H'=>U=σ/\c=cls/\H'=H) (.ref e) { s with heap:=h' }:=by
 let#[t,G,ac,ht]:=hx.there;let S:∀env∈X.stack,∀a,env.frame=some a->a∈qE X.stack:=λenv G a hf=>RX.mpr #[env,G,hf];let nf:∀b u,H b=some u->b∉qE X.stack:=λb u q z=>(by rwa[I.uC b z]at q);let Y:∀b,s.heap.get? b=none->(V9 s.heap (qE X.stack)).get? b=none:=λb q=>by
  cases z:(V9 s.heap (qE X.stack)).get? b with
  |none=>rfl
  |some o=>rwa[Vr _ z]at q
 show#[e,cls,.ref t,V9 s.heap (qE X.stack),σ,H,rfl,.inl #[λb o q=>hx.keeps b o (Vr _ q),Y e hx.new,?_,2,G,1,1],#[2,G,1],λJ tk k u=>?_,I.Ga hex hx.new ?_,1,rfl]
 .show(PySem.W.funFrames_hide I.stack S).of_keeps λb o q _=>#[o,hx.keeps b o q,rfl]
 .let L:∀b o,s.heap.get? b=some o->b∉qE X.stack->J.get? b=some o:=λb o q nb=>k b o (hideAll_get _ q nb);let sl:∀b o,s.heap.get? b=some o->b∈qE X.stack->∃sl,J.get? b=some { o with slots:=sl }:=λb o q F=>by
   let#[_,o',O,hd]:=I.stack.mem F;rwa[q]at O;show u b o (hx.keeps b o q) hd
  show I.zw (s':={ s with heap:=J,toks:=tk }) (ch:=[]) rfl #[λb o q n F _=>L b o q F,λb o q n F _=>sl b o q F,λb o q n _=>n,λb o q _=>?_,λb xs q=>q,λb o u q=>q,λb ps q=>#[([].toArray),by rw[q];simp]] (λa o q=>?_) I.bare (λb z=>absurd z (by simp))
  .by_cases F:b∈qE X.stack
   .let#[ab,q']:=sl b o q F;show#[_,q']
   .show#[o,L b o q F]
  .show(I.bJ a o q).iP (λc v hc R=>L c v R ?_) (λ_ z=>z) λ_ _ z=>z;rcases hc with z|z
   .rw[z];show nf a o q
   .show nf c _ z
 .cases z:H e with
  |none=>rfl
  |some o =>
   let#[ob,N]:=uY (I.bJ e o z);rwa[hx.new]at N
end
abbrev TJ:=Str->St->Hp->(Str->Hp->Prop)->Prop
def PJ(X:Cx)(vs:List Ob)(t:TJ):Prop :=
 ∀(pins:WB)(s:oR)(σ:St)(H:Hp)(z:Str)(Q:Str->Hp->Prop),~~~H s->t z σ H Q->Joins (model X.prog X.w) X.A X.xe (evalEach vs X.env) z (λout s1=>∃H',~~~H' s1/\Q out H') s
section
variable{X:Cx}{v v2:Ob}{vs:List Ob}{te:TE}{t:TJ}{pos:QJ}
def JY:TJ:=λacc _ H Q=>Q acc H
def Hn(te:TE)(t:TJ):TJ:=λz σ H Q=>te σ H λx H1=>∃y,x=.str y/\(z++y).length<=sizeLine/\t (z++y) σ H1 Q
theorem j9:PJ X [] JY:=λ_ s _ H _ _ I h=>show ∃H',_ from#[H,I,h]
theorem cy(G:PE X v te)(J:PJ X vs t):PJ X (v::vs) (Hn te t):=by
 intros N Q I h;change wpAny _ _ (eval v X.env) _ _ s;show bR (G pins s σ H _ I h) λu s1 ⟨x,H1,z,F,y,ex,L,q⟩=>?_;subst ex;let#[tk,rfl]:=F;show#[y,tk,rfl,L,J pins s1 σ H1 _ Q z q]
theorem iB(h:PJ X (v::v2::vs) t):PE X (.JoinedStr (v::v2::vs) pos) (λσ H Q=>t Str.empty σ H λout H'=>out.length<=sizeLine/\Q (.str out) H'):=by
 intros Q I q;show wpAny_JoinedStr ?_;let z:=h pins s σ H Str.empty _ I q;let go:∀(l:List (Sem Value))(F:Str)(s:oR),Joins (model X.prog X.w) X.A X.xe l F (λout s1=>∃H',~~~H' s1/\out.length<=sizeLine/\Q (.str out) H') s ->
   Joins (model X.prog X.w) X.A X.xe l F (λout s1=>out.length<=sizeLine/\EP X pins σ Q (.str out s1.toks) { s1 with toks:=s1.toks+1 }) s:=by
  intro l
  induction l with
  |nil =>
   intro F s ⟨H',L,J,G⟩;show#[J,.str F,H',L.tok _,#[0],G]
  |cons a r N =>
   intro F s O;show bR O λu s1 ⟨y,tk,e,J,G⟩=>#[y,tk,e,J,N _ _ G]
 show go _ _ _ z
theorem lD(G:PE X v te):PE X (.FormattedValue v (-1) none pos) (λσ H Q=>te σ H λx H1=>∃i:Int,x=.int i/\i.natAbs.log2<1920/\Q (.str (toString i)) H1):=by
 intros Q I h;show wpAny_FormattedValue_plain (bR (G pins s σ H _ I h) λu s1 ⟨x,H1,z,F,i,ex,J,q⟩=>?_);subst ex;let#[tk,rfl]:=F;show wpAny_formatField_int J #[.str (toString i),H1,z.tok _,#[0],q]
end
theorem len_app(a b:Str):(a++b).length=a.length+b.length:=strLen_append a b
theorem Fs{i:Int}(h:i.natAbs.log2<1920):(toString i:Str).length<=1921:=by
 let e:=int_text_length_le (k:=1920) ar h;change(Str.ofString (toString i)).length<=1921;rw[PySem.ofString_length];show e
section
variable{X:Cx}{C:Addr}{x:Str}{np cpos pos:QJ}{e₀:Ob}{es:List Ob}{t:TA}
theorem fm(S:Gl X x)(hm:X.mg x=some (.ref C))(O:excIn X.K C Ck "ValueError.__new__" = true)(hc:X.calm=true)(hex:X.ex=[])(Y:PA X.mZ (e₀::es) t)
  (G:starEach (e₀::es) X.env=(false,eval e₀ X.env)::starEach es X.env:=by rfl) (L:(backTo cpos (starEach es X.env)).any (·.1)=false:=by rfl) (hd:(x==("__debug__" : Str))=false:=by decide) :
  CV X (.Raise (some (.Call (.Name x np) (e₀::es) [] cpos)) none pos) (λD R σ H=>t σ H λvs H1=>vs.length<=sizeLine/\R σ (.ref C) H1):=by
 intros D R I h;let#[tl,N,nm,q,bs,hdct,sn,sub,ab,col,dd,k0,k1,k2,k3,k5,mN,hC,hN,J,T]:=ES I.ok.mod.Dr O;show wpAny_Raise_call_subT (C:=C) (nm:=nm) (q:=q) (N:=N) (bs:=bs) (bm:=tl) (hdct:=hdct) (sn:=sn) (sub:=sub) (ab:=ab) (col:=col) (dd:=dd) (k0:=k0) (k1:=k1) (k2:=k2) (k3:=k3) (k5:=k5)
  F.excBase_ValueError (mN:=mN) (T.hasType F.excBase_ValueError.hasBase) (I.ok.hd hc) (by rw[G];change(false||(backTo cpos (starEach es X.env)).any (·.1))=false;rw[L];rfl) J (gI I S hm #[4] hd)
 let h2:=Y cpos pins s σ H _ (I.gJ _) h;rw[G]at h2 ⊢;show Calls.evalArgs_plain (nx h2 λus s2 ⟨vs,H1,z,r,hl,U⟩=>#[4,z.cm.bk _ _ hC,hN.keeps z.cm.bk,T.keeps z.cm.bk,λh' e hx=>?_])
 .change us.length<=sizeLine;rw[<-r.length];show hl
 .show(z.cm.raised hex hx).imp λ_ _ _ ⟨a,b,c⟩=>by subst a b c;show U
variable{P:tp}{w:By}{K:DD}{mg:WD}{base:Heap}
theorem sJ{M:Sv}{A:L5}{E:WC}{s:oR}{B:Heap}{env:Sn}{outer:List Sn}{L e:Addr}{cls z:Value}{Q:Unit->oR->Prop}
  (O:A.frames=some (env::outer)) (G:env.frame=some L) (h:uU B (env::outer) e cls z s.heap\/Heap.FlyingW B (env::outer) e cls z s.heap\/∃L,env.frame=some L/\Heap.HeldW B (env::outer) e cls z L s.heap)
  (I:∀h',Heap.FlyingW B outer e cls z h'->s.heap.UpToSlots h'->Q () { s with heap:=h' }):wpAny M A (leaving env (.ref e)) Q E s:=by
 rcases h with⟨h1,h2,R,oe,vs,he,hc,hd,h0,ab⟩|h|⟨L',N,J⟩
 .subst hc;show wpAny_leaving_firstW O R G he h1 h2 hd ab h0 λh' ⟨k1,⟨_,_,k2⟩,k3,U⟩=>I h' #[k1,h2,k2,k3] U
 .show wpAny_leaves_onW O G h I
 .rw[G]at N;cases N;let#[g1,g2,g3,S]:=id J;show qs (Te G S (wpAny_landsW J λh' F Y=>I h' #[F.1,F.2.1,?_,F.2.2.2] Y));show(show h'.FunFrames B (env::outer)from F.2.2.1).2.2
theorem vz{M:Sv}{A:L5}{E:WC}{s:oR}{B:Heap}{env:Sn}{outer:List Sn}{L e:Addr}{cls F:Value}{Q:Unit->oR->Prop}
  (J:A.frames=some (env::outer)) (O:env.frame=some L) (h:uU B (env::outer) e cls F s.heap\/Heap.FlyingW B (env::outer) e cls F s.heap\/∃L,env.frame=some L/\Heap.HeldW B (env::outer) e cls F L s.heap) (c:C2 e s.heap)
  (G:∀h',Heap.FlyingW B outer e cls F h'->s.heap.UpToSlots h'->C2 e h'->Q () { s with heap:=h' }):wpAny M A (leaving env (.ref e)) Q E s :=
 Oj ((yH env (.ref e)).any (E:=λ_ _=>False) (sJ (Q:=λ_ s'=>∃h',s'={ s with heap:=h' }/\Heap.FlyingW B outer e cls F h'/\s.heap.UpToSlots h') J O h λh' f u=>#[h',rfl,f,u]) c)
  (λ_ s' ⟨⟨h',I,f,u⟩,N⟩=>by subst I;show G h' f u N) λ_ _ z=>z.1.elim
theorem cj.NZ{x qual:Str}{st:N8}{f:Addr}{fd:qw}{N ps:List Str}{k:Nat}{sp:Sp}(F:cj K x qual st f fd)(S:aA N ps (aq st))(len:∀vs H Q E,sp vs H Q E->vs.length=ps.length)
  (ac:∀(G:Value)(A:L5)(outer:List Sn)(s:oR)(H:Hp)(vs:List V)(Q:VK)(E:XK),cW k (A.deeper (Rl qual (aq st) s⁻¹ f G))->sp vs H Q E ->
   ∃t,p5 (qR (fB P w) P w K mg base N qual (aq st) f G A outer s H E) (dD st) t/\t { nx:=λ_ H'=>Q .non H',rt:=Q } (λ_ cls H'=>E cls none H') (start N vs) H):⇑aN (k+1) f fd ps sp:=by
 let#[oc,od,kV,aB,pm,an,G,ct,aT,rfl,lk,ap]:=F.ex;show F5 lk ap S len λA outer s H vs Q E hr am=>?_;let#[t,h,q]:=ac G A outer s H vs Q E hr am;show#[λD σ H'=>t D (λ_ cls H'=>E cls none H') σ H',λpins s1 σ H1 D I q1=>?_,q];show Oj (h pins s1 σ H1 D _ I q1) (λ_ _ z=>z) λv s2 hx=>?_;let#[e,cls,a0,B,as,H2,rfl,R,Y,U,new,hE]:=hx;let iP:B.StaysIn s2.heap:=by
  rcases R with z|z|⟨_,_,z⟩
  .show z.1
  .show z.1
  .show z.1
 let O:=U.now iP;show vz (L:=s⁻¹) O.ok.frames rfl R Y λh' ab up c3=>?_;show#[e,cls,a0,B,H2,rfl,O.os,O.bare,new.old,new.free,ab,c3,λad k u=>(λJ=>#[J.base,J.bJ]) (U ad s2.toks k (up.trans u)),hE]
theorem cj.j0{x qual:Str}{st:N8}{f:Addr}{fd:qw}{N ps:List Str}{k:Nat}{sp:Sp}(F:cj K x qual st f fd)(S:aA N ps (aq st))
  (G:∀(z:Value)(A:L5)(outer:List Sn)(s:oR)(H:Hp)(vs:List V)(Q:VK)(E:XK),cW k (A.deeper (Rl qual (aq st) s⁻¹ f z))->sp vs H Q E ->
   ∃t,p5 (qR (fB P w) P w K mg base N qual (aq st) f z A outer s H E) (dD st) t/\t { nx:=λ_ H'=>Q .non H',rt:=Q } (λ_ cls H'=>E cls none H') (start N vs) H) (len:∀vs H Q E,sp vs H Q E->vs.length=ps.length:=by intro vs H Q E h;cases h<;>subst_vars<;>rfl):⇑aN (k+1) f fd ps sp:=F.NZ S len G
end
abbrev Cx.hand(X:Cx)(e:Addr):Cx:={ X with A:=X.A.mark (some (.ref e)),calm:=false }
section
variable{X:Cx}{pins:WB}{σ:St}{H:Hp}{s:oR}
theorem Cx.Ok.hand(ok:X.Ok)(e:Addr):(X.hand e).Ok :=
 #[ok.mod,ok.kind,ok.glob,ok.blt,ok.above,ok.inj,ok.has,ok.HM,(λz=>Bool.noConfusion z),ok.frames,ok.Jk,ok.Lh,ok.bs,ok.Bc,ok.xP,ok.vo,ok.jZ,ok.Eo]
theorem Inv.hand(I: ~~~H s)(e:Addr):Inv (X.hand e) pins σ H s:=#[I.ok.hand e,I.os,I.bare,I.base,I.loc,I.cell,I.free,I.fW,I.pin,I.bJ,I.len]
theorem Inv.HL{e:Addr}(I:Inv (X.hand e) pins σ H s)(ok:X.Ok): ~~~H s:=#[ok,I.os,I.bare,I.base,I.loc,I.cell,I.free,I.fW,I.pin,I.bJ,I.len]
theorem Inv.unset{i:Nat}{n:Str}{m:WD}{h':Heap}{v:WI}{tk:Nat}(I: ~~~H s)(Y:X.N.Nodup)(hi:X.N[i]?=some n)(hl:X.env.kindOf n=some .local)
  (hm:s.heap.Ns X.env.locals m) (ab:∀(i:Nat)(x:Str)(v:V),X.N[i]?=some x->σ[i]?=some (some v)->KJ X.env.scope x->∃u,RelV v u/\Look X.env s.heap m x u)
  (hn:h'.Ns X.env.locals (λx=>if x=n then v else m x)) (hs:Heap.SameBut X.env.locals s.heap h'):Inv X pins (σ.set i none) H { s with heap:=h',toks:=tk }:=by
 let U:i<σ.length:=(by rw[I.len];show(qc.mp hi).1);let D7:=I.D7;let O:∀b o,X.s₀.heap.get? b=some o->b≠X.env.locals:=λb o e=>Ou (N9 (Heap.lt_size e) I.ok.above);show#[I.ok,I.os,I.bare,#[λb o e n L hx=>?_,λb o e n L hx=>?_,I.base.free,λb o e hx=>?_,I.base.pM,I.base.nj,I.base.pb],#[_,hn,λj y v' F J e3=>?_],λy c e=>?_,I.free,I.fW,λp hp=>?_,λb ob e=>?_,by simpa using I.len]
 .show(hs.2 b (O b o e)).trans (I.base.keep b o e n L hx)
 .let#[sl,F]:=I.base.slot b o e n L hx;show#[sl,(hs.2 b (O b o e)).trans F]
 .let#[o',F]:=I.base.there b o e hx;show#[o',(hs.2 b (O b o e)).trans F]
 .by_cases R:j=i
  .subst R;rwa[Ot U]at J
  .rw[Og (G0 R)]at J;let#[u',r',q]:=ab j y v' F J e3;show#[u',r',?_];rcases q with⟨k,e⟩|⟨k,c,e,z⟩
   .show .inl #[k,?_];have:y≠n:=λe=>R (qo Y F (e▸hi));simp[this,e]
   .show .inr #[k,c,e,z.sameBut hs (D7 y c e)]
 .let#[S,z]:=I.cell y c e;show#[S,z.sameBut hs (D7 y c e)]
 .let#[e,n,ne,nf,d]:=I.pin p hp;show#[(hs.2 p.1 ne).trans e,n,ne,nf,d]
 .show(I.bJ b ob e).iP (λc S G q=>(hs.2 c ?_).trans q) (λ_ q=>q) λ_ _ q=>q;rintro rfl;rcases G with G|G
  .rw[<-G,I.free]at e;cases e
  .rw[I.free]at G;cases G
end
theorem wA{M:Sv}{A:L5}{E:WC}{s:oR}{B:Heap}{env:Sn}{outer:List Sn}{L e:Addr}{cls F:Value}{Q:Unit->oR->Prop}
  (O:A.frames=some (env::outer)) (z:env.frame=some L) (h:uU B (env::outer) e cls F s.heap\/Heap.FlyingW B (env::outer) e cls F s.heap\/∃L,env.frame=some L/\Heap.HeldW B (env::outer) e cls F L s.heap)
  (G:∀h',Heap.HeldW B (env::outer) e cls F L h'->s.heap.UpToSlots h'->Q () { s with heap:=h' }):wpAny M A (noteFrame (.ref e) env) Q E s:=by
 rcases h with⟨h1,h2,S,oe,vs,R,Y,hd,h0,N⟩|h|⟨L',J,I⟩
 .subst Y;unfold noteFrame;simp only[z];show qs (Qg R hd N ?_);rw[Wx ar];show wpAny_entryW O S z R h1 h2 hd (Qy.mp N).1 h0 λh' ⟨k1,k2,k3,U⟩=>G h' #[k1,h2,k2,k3] U
 .show wpAny_looks_onW O z h G
 .rw[z]at J;cases J;show Te z I.2.2.2 (G s.heap I (Heap.UpToSlots.refl _))
theorem oN{M:Sv}{A:L5}{E:WC}{s:oR}{B:Heap}{env:Sn}{outer:List Sn}{L e:Addr}{cls F:Value}{Q:Unit->oR->Prop}
  (J:A.frames=some (env::outer)) (O:env.frame=some L) (h:uU B (env::outer) e cls F s.heap\/Heap.FlyingW B (env::outer) e cls F s.heap\/∃L,env.frame=some L/\Heap.HeldW B (env::outer) e cls F L s.heap) (c:C2 e s.heap)
  (G:∀h',Heap.HeldW B (env::outer) e cls F L h'->s.heap.UpToSlots h'->C2 e h'->Q () { s with heap:=h' }):wpAny M A (noteFrame (.ref e) env) Q E s :=
 Oj ((yU (.ref e) env).any (E:=λ_ _=>False) (wA (Q:=λ_ s'=>∃h',s'={ s with heap:=h' }/\Heap.HeldW B (env::outer) e cls F L h'/\s.heap.UpToSlots h') J O h λh' f u=>#[h',rfl,f,u]) c)
  (λ_ s' ⟨⟨h',I,f,u⟩,N⟩=>by subst I;show G h' f u N) λ_ _ z=>z.1.elim
theorem EM{M:Sv}{A:L5}{E:WC}{s:oR}{B:Heap}{l:List Sn}{e L:Addr}{cls F:Value}{Q:Unit->oR->Prop}(J:Heap.HeldW B l e cls F L s.heap)(c:C2 e s.heap)
  (G:∀h',Heap.FlyingW B l e cls F h'->s.heap.UpToSlots h'->C2 e h'->Q () { s with heap:=h' }):wpAny M A (setFlight (.ref e) none) Q E s :=
 Oj ((mq (.ref e) none).any (E:=λ_ _=>False) (wpAny_landsW (Q:=λ_ s'=>∃h',s'={ s with heap:=h' }/\Heap.FlyingW B l e cls F h'/\s.heap.UpToSlots h') J λh' f u=>#[h',rfl,f,u]) c)
  (λ_ s' ⟨⟨h',I,f,u⟩,N⟩=>by subst I;show G h' f u N) λ_ _ z=>z.1.elim
theorem BV{M:Sv}{A:L5}{E:WC}{s:oR}{B:Heap}{l:List Sn}{e:Addr}{cls F:Value}{Q:Unit->oR->Prop}(J:Heap.FlyingW B l e cls F s.heap)(c:C2 e s.heap)
  (G:∀h',Heap.FlyingW B l e cls F h'->s.heap.UpToSlots h'->C2 e h'->Q () { s with heap:=h' }):wpAny M A (setFlight (.ref e) none) Q E s :=
 Oj ((mq (.ref e) none).any (E:=λ_ _=>False) (lands_againW (Q:=λ_ s'=>∃h',s'={ s with heap:=h' }/\Heap.FlyingW B l e cls F h'/\s.heap.UpToSlots h') J λh' f u=>#[h',rfl,f,u]) c)
  (λ_ s' ⟨⟨h',I,f,u⟩,L⟩=>by subst I;show G h' f u L) λ_ _ z=>z.1.elim
def Jo(i:Nat)(D:Ends):Ends:={ nx:=λσ H=>D.nx (σ.set i none) H,rt:=D.rt,bk:=λσ H=>D.bk (σ.set i none) H,ct:=λσ H=>D.ct (σ.set i none) H }
section
variable{X:Cx}{C:Addr}{i:Nat}{x n:Str}{np hpos pos:QJ}{body suite:List N8}{b₀:N8}{tb:pK}{ts:TS}
variable{κ:Type}[DecidableEq κ]
def cG(kvs:List (κ×V))(k:κ):Option V:=(kvs.find? λz=>decide (z.1=k)).map (·.2)
def putK(kvs:List (κ×V))(k:κ)(v:V):List (κ×V):=
 if (kvs.any λz=>decide (z.1=k))=true then kvs.map (λz=>if z.1=k then(z.1,v)else z)else kvs++[(k,v)]
def m9(kvs:List (κ×V))(k:κ):List (κ×V):=kvs.filter λz=>decide (z.1≠k)
theorem dt{p:κ×V}{r:List (κ×V)}{k:κ}(e:p.1=k):cG (p::r) k=some p.2:=by simp[cG,Ro,e]
theorem dh{p:κ×V}{r:List (κ×V)}{k:κ}(e:¬ p.1=k):cG (p::r) k=cG r k:=by simp[cG,Ro,e]
theorem hV(k:κ):∀kvs:List (κ×V),(kvs.any λz=>decide (z.1=k))=(cG kvs k).isSome
 | []=>rfl
 |p::r=>by
  rw[TH];cases e:p.1=k
  .simp only[dt e,decide_eq_true e,Bool.true_or,Option.isSome_some]
  .rw[dh e,decide_eq_false e,Bool.false_or];show hV k r
theorem we(k j:κ)(y:V):∀kvs:List (κ×V),cG (kvs.map λF=>if F.1=k then(F.1,y)else F) j=(cG kvs j).map λx=>if j=k then y else x
 | []=>rfl
 |p::r=>by
  let G:=we k j y r;rw[Pb];cases h:p.1=k
  .rw[Wy h];cases e:p.1=j
   .rw[dt (p:=(p.1,y)) e,dt e,VP,Wy (e.symm.trans h)]
   .rw[dh (p:=(p.1,y)) e,dh e,G]
  .rw[Wx h];cases e:p.1=j
   .rw[dt (p:=p) e,dt e,VP,Wx (λz=>h (e.trans z))]
   .rw[dh (p:=p) e,dh e,G]
theorem rq(k j:κ)(y:V):∀kvs:List (κ×V),cG kvs k=none->cG (kvs++[(k,y)]) j=if j=k then some y else cG kvs j
 | [],_=>by
  cases e:k=j
  .rw[Wy e.symm];show dt (p:=(k,y)) e
  .rw[Wx (λz=>e z.symm)];show dh (p:=(k,y)) e
 |p::r,F=>by
  rw[List.cons_append];let G:¬ p.1=k:=λz=>(by rwa[dt z]at F);rw[dh G]at F;let I:=rq k j y r F;cases e:p.1=j
  .rw[dt e,dt e,Wx (λz=>G (e.trans z))]
  .rw[dh e,dh e,I]
theorem qk(kvs:List (κ×V))(k j:κ)(y:V):cG (putK kvs k y) j=if j=k then some y else cG kvs j:=by
 unfold putK;cases a:(kvs.any λz=>decide (z.1=k))=true
 .rw[Wy a,we];rw[hV]at a;cases e:j=k
  .let#[x,hx]:=Po.mp a;rw[Wy e,e,hx,VP,Wy rfl]
  .rw[Wx e];cases cG kvs j with
   |none=>rfl
   |some x=>rw[VP,Wx e]
 .rw[Wx a];show rq k j y kvs ?_;rw[hV]at a;cases q:cG kvs k with
  |none=>rfl
  |some x=>rw[q]at a;show(a rfl).elim
theorem eJ(kvs:List (κ×V))(k:κ)(v:V):(putK kvs k v).length<=kvs.length+1:=by
 unfold putK;split
 .rw[qi];omega
 .rw[y3,K4,Vg];omega
theorem BQ{kvs:List (κ×V)}{k:κ}(v:V)(h:cG kvs k=none):putK kvs k v=kvs++[(k,v)]:=by
 unfold putK;rw[hV,h];show Wx ar
theorem gM.gX{o:Option V}{u:WI}(r:gM o u):o.isSome=u.isSome:=by
 cases o with
 |none=>cases u with
  |none=>rfl
  |some _=>show(show False from r).elim
 |some _=>cases u with
  |none=>show(show False from r).elim
  |some _=>rfl
theorem gM.getD{o:Option V}{u:WI}{d:V}{d':Value}(r:gM o u)(rd:RelV d d'):RelV (o.getD d) (u.getD d'):=by
 cases o with
 |none=>cases u with
  |none=>show rd
  |some _=>show(show False from r).elim
 |some _=>cases u with
  |none=>show(show False from r).elim
  |some _=>show r
theorem KV.val{kvs:List (κ×V)}{vs:List (κ×Value)}(r:KV kvs vs)(k:κ):gM (cG kvs k) (Tf vs k):=by
 unfold KV at r
 induction r with
 |nil=>show Pe
 | @cons p q ps F h t I =>
  let#[h1,h2]:=h;cases e:p.1=k
  .let G:q.1=k:=h1.symm.trans e;let b:Tf (q::F) k=some q.2:=(by simp[Tf,Ro,G]);rw[dt e,b];show h2
  .let G:¬ q.1=k:=λz=>e (h1.trans z);let b:Tf (q::F) k=Tf F k:=(by simp[Tf,Ro,G]);rw[dh e,b];show I
theorem KV.any{kvs:List (κ×V)}{vs:List (κ×Value)}(r:KV kvs vs)(k:κ):(kvs.any λz=>decide (z.1=k))=vs.any λz=>decide (z.1=k):=by
 unfold KV at r
 induction r with
 |nil=>rfl
 |cons h t F=>rw[TH,TH,F,h.1]
theorem KV.Iu{kvs:List (κ×V)}{vs:List (κ×Value)}(r:KV kvs vs)(k:κ){y:V}{u:Value}(I:RelV y u) :
  KV (kvs.map λF=>if F.1=k then(F.1,y)else F) (vs.map λF=>if F.1=k then(F.1,u)else F):=by
 unfold KV at r ⊢
 induction r with
 |nil=>show .nil
 | @cons p q ps J h t G =>
  rw[Pb,Pb];show .cons ?_ G;let#[h1,h2]:=h;cases e:p.1=k
  .rw[Wy e,Wy (h1.symm.trans e)];show#[h1,I]
  .rw[Wx e,Wx (λz=>e (h1.trans z))];show#[h1,h2]
theorem KV.put{kvs:List (κ×V)}{vs:List (κ×Value)}(r:KV kvs vs)(k:κ){y:V}{u:Value}(z:RelV y u):KV (putK kvs k y) (stored vs k u):=by
 unfold putK stored;rw[r.any k];cases e:(vs.any λF=>decide (F.1=k))=true
 .rw[Wy e,Wy e];show r.Iu k z
 .rw[Wx e,Wx e];show Paired.snoc r #[rfl,z]
theorem KV.drop{kvs:List (κ×V)}{vs:List (κ×Value)}(r:KV kvs vs)(k:κ):KV (m9 kvs k) (without vs k):=by
 unfold KV at r ⊢;unfold m9 without
 induction r with
 |nil=>show .nil
 | @cons p q ps I h t F =>
  let#[h1,h2]:=h;rw[Pt,Pt];cases e:p.1=k
  .let a:¬ decide (p.1≠k)=true:=(by simp[e]);let b:¬ decide (q.1≠k)=true:=(by simp[h1.symm.trans e]);rw[Wx a,Wx b];show F
  .let G:¬ q.1=k:=λz=>e (h1.trans z);let a:decide (p.1≠k)=true:=(by simp[e]);let b:decide (q.1≠k)=true:=(by simp[G]);rw[Wy a,Wy b];show .cons #[h1,h2] F
theorem KV.keys{kvs:List (κ×V)}{vs:List (κ×Value)}(r:KV kvs vs):kvs.map (·.1)=vs.map (·.1):=by
 unfold KV at r
 induction r with
 |nil=>rfl
 |cons h t z=>rw[Pb,Pb,z,h.1]
theorem KV.length{kvs:List (κ×V)}{vs:List (κ×Value)}(r:KV kvs vs):kvs.length=vs.length:=Paired.length r
theorem Ci(kvs:List (κ×V))(k:κ):(m9 kvs k).length<=kvs.length:=QH _ _
end
theorem lO{P:tp}{w:By}{k:Key}{u:Value}(r:RelV (kV k) u):(bT P w).is k u=true:=by
 cases k with
 |inl i=>let#[t,e]:=(show ∃t,u=Value.int i t from r);subst e;show vC P w i t
 |inr x=>let#[t,e]:=(show ∃t,u=Value.str x t from r);subst e;show vW P w x t
theorem qV{P:tp}{w:By}:∀{ks:List Key}{us:WH},Vals (ks.map kV) us->ItemsAre (bT P w) ks us
 | [],_,r=>by rwa[map_nil]at r;show .nil
 |k::ks,_,r=>by
  rw[Pb]at r;cases r with
  |cons h t=>show .cons (lO h) (qV t)
abbrev KT(H:Hp):List (List Key×V)->List (List Key×Addr×Value)->Prop:=Paired λp q=>p.1=q.1/\H q.2.1=some (.tup (p.1.map kV))/\RelV p.2 q.2.2
theorem KT.val{H:Hp}{kvs:List (List Key×V)}{xs:List (List Key×Addr×Value)}(r:KT H kvs xs)(k:List Key):gM (cG kvs k) ((Vd xs k).map (·.2)):=by
 induction r with
 |nil=>show Pe
 | @cons p q ps F h t I =>
  let#[h1,_,h2]:=h;cases e:p.1=k
  .let G:q.1=k:=h1.symm.trans e;let b:Vd (q::F) k=some q.2:=(by simp[Vd,Ro,G]);rw[dt e,b];show h2
  .let G:¬ q.1=k:=λz=>e (h1.trans z);let b:Vd (q::F) k=Vd F k:=(by simp[Vd,Ro,G]);rw[dh e,b];show I
theorem KT.Iu{H:Hp}{kvs:List (List Key×V)}{xs:List (List Key×Addr×Value)}(r:KT H kvs xs)(k:List Key){y:V}{u:Value}(J:RelV y u) :
  KT H (kvs.map λF=>if F.1=k then(F.1,y)else F) (xs.map (putAt k u)):=by
 induction r with
 |nil=>show .nil
 | @cons p q ps L h t I =>
  rw[Pb,Pb];show .cons ?_ I;let#[h1,h2,G]:=h;unfold putAt;cases e:p.1=k
  .rw[Wy e,Wy (h1.symm.trans e)];show#[h1,h2,J]
  .rw[Wx e,Wx (λz=>e (h1.trans z))];show#[h1,h2,G]
theorem KT.put{H:Hp}{kvs:List (List Key×V)}{xs:List (List Key×Addr×Value)}(r:KT H kvs xs)(k:List Key){b:Addr}{y:V}{u:Value}(F:H b=some (.tup (k.map kV)))(z:RelV y u) :
  KT H (putK kvs k y) (storedH xs k b u):=by
 let e:(kvs.any λG=>decide (G.1=k))=(Vd xs k).isSome:=by
  rw[hV,(r.val k).gX,VQ]
 unfold putK storedH;rw[e];cases q:(Vd xs k).isSome=true
 .rw[Wy q,Wy q];show r.Iu k z
 .rw[Wx q,Wx q];show Paired.snoc r #[rfl,F,z]
theorem KT.keeps{H H':Hp}{kvs:List (List Key×V)}{xs:List (List Key×Addr×Value)}(r:KT H kvs xs)(F:∀b ys,H b=some (.tup ys)->H' b=some (.tup ys)):KT H' kvs xs :=
 Paired.CB r λ_ _ z=>#[z.1,F _ _ z.2.1,z.2.2]
section
variable{P:tp}{w:By}{H:Hp}{h:Heap}{a:Addr}
theorem Gf{u:HO}(ok:j7 P w H h)(e:Rd H a u):bU P w H h a u:=e.ok ok
theorem kU{kvs:List (Key×V)}(ok:j7 P w H h)(e:Rd H a (.dK kvs)):kvs.length<=sizeLine/\(a==PL)=false/\∃vs,KV kvs vs/\h.DictOf (bT P w) a vs :=
 show bU P w H h a (.dK kvs)from Gf ok e
theorem qq{kvs:List (Key×V)}(ok:j7 P w H h)(e:H a=some (.dK kvs)):kvs.length<=sizeLine/\(a==PL)=false/\∃vs,KV kvs vs/\h.DictOf (bT P w) a vs:=kU ok (.inl e)
theorem kg{ks:List Key}(ok:j7 P w H h)(e:H a=some (.tup (ks.map kV))):(RU (bT P w)).is h ks a:=by
 let#[_,its,r,o,h1,h2,n,z]:=(show bU P w H h a (.tup (ks.map kV))from ok a _ e);show#[o,its.toArray,n,h1,h2,z,by simpa using qV r]
theorem mX{kvs:List (List Key×V)}(ok:j7 P w H h)(e:Rd H a (.dT kvs)):kvs.length<=sizeLine/\(a==PL)=false /\
  ∃xs,KT H kvs xs/\h.DictOfH (RU (bT P w)) a xs:=by
 let#[z,y,xs,r,o,es,ep,h1,h2,G,J,L]:=(show bU P w H h a (.dT kvs)from Gf ok e);show#[z,y,xs,r,o,es,ep,h1,h2,G,J,λx hx=>?_,L];let all:∀{l:List (List Key×V)}{m:List (List Key×Addr×Value)},KT H l m->∀x∈m,(RU (bT P w)).is h x.1 x.2.1:=by
  intro l m q
  induction q with
  |nil=>intro x hx;show nomatch hx
  | @cons p q ps N F t I =>
   intro x hx;rcases se.mp hx with e|hx
   .subst e;show kg ok (by rw[<-F.1];show F.2.1)
   .show I x hx
 show all r x hx
theorem K8{kvs:List (List Key×V)}(ok:j7 P w H h)(e:H a=some (.dT kvs)):kvs.length<=sizeLine/\(a==PL)=false /\
  ∃xs,KT H kvs xs/\h.DictOfH (RU (bT P w)) a xs:=mX ok (.inl e)
end
def dN(H:Hp)(a:Addr)(y:V)(r:Option V):Prop :=
 (∃kvs k,Rd H a (.dK kvs)/\y=kV k/\r=cG kvs k)\/∃kvs k b,Rd H a (.dT kvs)/\y=.ref b/\H b=some (.tup (k.map kV))/\r=cG kvs k
def gK(H:Hp)(a:Addr)(y v:V)(H':Hp):Prop :=
 (∃kvs k,H a=some (.dK kvs)/\y=kV k/\kvs.length<sizeLine/\H'=upd H a (.dK (putK kvs k v))) \/
 ∃kvs k b,H a=some (.dT kvs)/\y=.ref b/\H b=some (.tup (k.map kV))/\kvs.length<sizeLine/\H'=upd H a (.dT (putK kvs k v))
theorem dN.k{H:Hp}{a:Addr}{kvs:List (Key×V)}{k:Key}(e:H a=some (.dK kvs)):dN H a (kV k) (cG kvs k):=.inl #[kvs,k,.inl e,1]
theorem dN.t{H:Hp}{a b:Addr}{kvs:List (List Key×V)}{k:List Key}(e:H a=some (.dT kvs))(z:H b=some (.tup (k.map kV))):dN H a (.ref b) (cG kvs k):=.inr #[kvs,k,b,.inl e,rfl,z,rfl]
theorem gK.k{H:Hp}{a:Addr}{kvs:List (Key×V)}{k:Key}{v:V}(e:H a=some (.dK kvs))(z:kvs.length<sizeLine):gK H a (kV k) v (upd H a (.dK (putK kvs k v))):=.inl #[kvs,k,e,rfl,z,rfl]
theorem gK.t{H:Hp}{a b:Addr}{kvs:List (List Key×V)}{k:List Key}{v:V}(e:H a=some (.dT kvs))(F:H b=some (.tup (k.map kV)))(z:kvs.length<sizeLine) :
  gK H a (.ref b) v (upd H a (.dT (putK kvs k v))):=.inr #[kvs,k,b,e,rfl,F,z,rfl]
section
variable{X:Cx}{pins:WB}{σ:St}{H:Hp}{s:oR}{a:Addr}{y v:V}{u r:Value}{o:Option V}{A:L5}{E:WC}
theorem Inv.big(I: ~~~H s):PL<s⁻¹:=by
 let h:Od<s⁻¹:=(I.mod.glob.keeps I.bk).lt;show UJ ar h
theorem Ac{Q:WC}(Y:A.units+1<P0)(I: ~~~H s)(g:dN H a y (some v))(O:RelV y u)(h:∀F s',~~~H s'->RelV v F->Q F s') :
  wpAny (model X.prog X.w) A (T9 (.ref a) u) Q E s:=by
 rcases g with⟨kvs,k,e,L,l⟩|⟨kvs,k,b,e,L,U,l⟩
 .subst L;let#[z,hd,vs,N,dd]:=kU I.bJ e;let#[F,G,J]:=gM.some_of (v:=v) (o:=Tf vs k) (by rw[l];show N.val k);show wpAny_getItem_of (lO O) dd.mapOf G (h F _ (I.tok _) J)
 .subst L;cases(show u=Value.ref b from O);let#[z,hd,xs,N,dd]:=mX I.bJ e;let#[F,G,J]:=gM.some_of (v:=v) (o:=(Vd xs k).map (·.2)) (by rw[l];show N.val k);let#[p,R,S]:=t5.mp G;show wpAny_getItem_heap (PV Y) (kg I.bJ U) dd R ?_;rw[S];show h F _ (I.tok _) J
theorem My{Q:WC}(N:A.units+1<P0)(I: ~~~H s)(g:dN H a y o)(J:RelV y u)(h:∀s',~~~H s'->Q (.bool o.isSome) s') :
  wpAny (model X.prog X.w) A (OL .In u (.ref a)) Q E s:=by
 rcases g with⟨kvs,k,e,F,l⟩|⟨kvs,k,b,e,F,L,l⟩
 .subst F;let#[z,hd,vs,G,dd]:=kU I.bJ e;show wpAny_in_of (lO J) hd dd.mapOf ?_;rw[<-(G.val k).gX, <-l];show h _ (I.tok _)
 .subst F;cases(show u=Value.ref b from J);let#[z,hd,xs,G,dd]:=mX I.bJ e;show wpAny_in_heap (PV N) (kg I.bJ L) hd dd ?_;let q:=(G.val k).gX;rw[VQ]at q;rw[<-q, <-l];show h _ (I.tok _)
theorem EH{Q:WC}(N:A.units+1<P0)(I: ~~~H s)(g:dN H a y o)(J:RelV y u)(h:∀s',~~~H s'->Q (.bool (!o.isSome)) s') :
  wpAny (model X.prog X.w) A (OL .NotIn u (.ref a)) Q E s:=by
 rcases g with⟨kvs,k,e,F,l⟩|⟨kvs,k,b,e,F,L,l⟩
 .subst F;let#[z,hd,vs,G,dd]:=kU I.bJ e;show wpAny_notIn_of (lO J) hd dd.mapOf ?_;rw[<-(G.val k).gX, <-l];show h _ (I.tok _)
 .subst F;cases(show u=Value.ref b from J);let#[z,hd,xs,G,dd]:=mX I.bJ e;show wpAny_notIn_heap (PV N) (kg I.bJ L) hd dd ?_;let q:=(G.val k).gX;rw[VQ]at q;rw[<-q, <-l];show h _ (I.tok _)
theorem nH{h':Heap}{t':Nat}{F:HO}(I: ~~~H s)(J:JV (H a))(hs:Heap.SameBut a s.heap h')(L:∃q,h'.get? a=some q)(new:bU X.prog X.w (upd H a F) h' a F) :
  ~~~(upd H a F) { s with heap:=h',toks:=t' }:=
 I.write (x:=a) (e:=a) J (.inl rfl) (λb q G z=>(hs.2 b G).trans z) L new
theorem uE{P:tp}{w:By}{H':Hp}{h':Heap}{kvs:List (Key×V)}{vs:List (Key×Value)}(z:kvs.length<=sizeLine)(hd:(a==PL)=false)(F:KV kvs vs)(dd:h'.DictOf (bT P w) a vs) :
  bU P w H' h' a (.dK kvs):=#[z,hd,vs,F,dd]
theorem rO{H':Hp}{Q:Unit->oR->Prop}(hu:A.units+1<P0)(I: ~~~H s)(g:gK H a y v H')(Y:RelV y u)(S:RelV v r)(h:∀s',~~~H' s'->Q () s') :
  wpAny (model X.prog X.w) A (Wa (.ref a) u r) Q E s:=by
 rcases g with⟨kvs,k,e,N,l,R⟩|⟨kvs,k,b,e,N,U,l,R⟩
 .subst N R;let#[z,hd,vs,F,dd]:=qq I.bJ e;let L:vs.length<=sizeLine:=(by rw[<-F.length];show z);let O:(putK kvs k v).length<=sizeLine:=(by have:=eJ kvs k v;omega);show wpAny_setItem_pairs (hsz:=L) (lO Y) dd λh' J hs=>h _ ?_;let he:∃q,h'.get? a=some q:=let ⟨q,_,_,G,_⟩:=J;#[q,G];show nH I (by rw[e];show Pe) hs he (uE O hd (F.put k S) J)
 .subst N R;cases(show u=Value.ref b from Y);let#[z,hd,xs,F,dd]:=K8 I.bJ e;let L:xs.length<=sizeLine:=(by rw[<-Paired.length F];show z);let O:(putK kvs k v).length<=sizeLine:=(by have:=eJ kvs k v;omega);show wpAny_setItem_heap (hsz:=L) (PV hu) (kg I.bJ U) dd λh' J hs=>h _ ?_;let#[q,es,ep,G,h2,h3,h4,_,h5]:=J;show nH I (by rw[e];show Pe) hs #[q,G] #[O,hd,_,(F.put k U S).keeps λc ys ec=>?_,q,es,ep,G,h2,h3,h4,h5];rw[aj (cU ec e (λz=>nomatch z))];show ec
variable{kvs:List (Key×V)}{k:Key}
theorem Kw{v:V}{G:WH}{Q:WC}(I: ~~~H s)(e:H a=some (.dK kvs))(L:RelV (kV k) u)(l:cG kvs k=some v)(R:G=[]\/∃x,G=[x])
  (h:∀J s',~~~(upd H a (.dK (m9 kvs k))) s'->RelV v J->Q J s'):wpAny (model X.prog X.w) A (call (.builtin "dict.pop") (.ref a::u::G)) Q E s:=by
 let#[z,hd,vs,N,dd]:=qq I.bJ e;let#[J,U,ab]:=gM.some_of (v:=v) (o:=Tf vs k) (by rw[<-l];show N.val k);let S:(keyPart u).isSome=true:=by
  cases k with
  |inl i=>let#[t,q]:=(show ∃t,u=Value.int i t from L);subst q;rfl
  |inr x=>let#[t,q]:=(show ∃t,u=Value.str x t from L);subst q;rfl
 let ha:argsOk "dict.pop" #[.ref a::u::G,[]]:=by
  rcases R with q|⟨x,q⟩
  .subst q;show PySem.F.args_dict_pop_2 _ _
  .subst q;show PySem.F.args_dict_pop_3 _ _ _
 show Q9 Ts dd.typeIs PySem.F.entry_dict_pop ha (meets_dict_pop_there (bT X.prog X.w) a (lO L) G R S)
  #[vs,J,dd,by rw[<-N.length];show z,U,λh' O hs=>h J _ ?_ ab]
 let he:∃q,h'.get? a=some q:=let ⟨q,_,_,Y,_⟩:=O;#[q,Y];show nH I (by rw[e];show Pe) hs he (uE (le_trans (Ci kvs k) z) hd (N.drop k) O)
theorem Jp{Q:WC}(I: ~~~H s)(e:Rd H a (.dK kvs))(h:∀t s',~~~H s'->Q (.int kvs.length t) s'):wpAny (model X.prog X.w) A (call (.builtin "len") [.ref a]) Q E s:=by
 let#[z,hd,vs,F,dd]:=kU I.bJ e;show call_len_dict hd dd (by rw[<-F.length];rw[vl]at z;omega) ?_;rw[<-F.length];show h _ _ (I.tok _)
end
def JK(i:Ob):Prop:=∀ov z,TF i false ov z=operate [ov,z] (T9 ov z)
theorem Fc{prog:tp}{w:By}{A:L5}{E:WC}{s:oR}{env:Sn}{value z:Ob}{pos:QJ}{T id:String}{Q:WC}
  (R:VB (.type T) "__getitem__" = pure (some (.builtin id))) (hs:JK z)
  (h:wpAny (model prog w) A (eval value env) (λo J=>wpAny (model prog w) A (eval z env) (λi F=>F.TypeIs o T/\wpAny (model prog w) A (T9 o i) Q E F) E J) E s) :
  wpAny (model prog w) A (eval (.Subscript value z pos) env) Q E s:=by
 show VC (Oj h (λo J S=>Oj S (λi F G=>?_) λ_ _ x=>x) λ_ _ x=>x);let#[N,G]:=G;unfold Uj;show qs ?_;rw[getitemInPython_of_ne N.not_modules];show qs (wpAny_specialOf N R ?_);let I:wpAny (model prog w) A (TF z false o i) (λr L=>wpAny (model prog w) A (letTemporaryGo value o r>>=λ_=>pure r) Q E L) E F:=by
  rw[hs o i];show wpAny_operating (Oj G (λr L O=>qs (wpAny_letTemporaryGo (wpAny_pure O))) λ_ _ x=>x)
 first
  |show wpAny_pure (qs I)
  |show qs (wpAny_pure (qs I))
  |show qs I
theorem wu{X:Cx}{pins:WB}{σ:St}{H:Hp}{s:oR}{a:Addr}{y:V}{o:Option V}(I: ~~~H s)(g:dN H a y o):s.TypeIs (.ref a) "dict" := by
 rcases g with⟨kvs,k,e,_,_⟩|⟨kvs,k,b,e,_,_,_⟩
 .let#[_,_,vs,_,dd]:=kU I.bJ e;show dd.typeIs
 .let#[_,_,xs,_,dd]:=mX I.bJ e;show dd.typeIs
inductive DT(td ty:TE)(Q:VK)(x:V)(y:V)(H2:Hp):Prop
 |mk(a:_)(v:_)(_:x=.ref a)(_:dN H2 a y (some v))(_:Q v H2)
def JE(td ty:TE):TE:=λσ H Q=>td σ H λx H1=>ty σ H1 λy H2=>DT td ty Q x y H2
inductive F2(ty td:TE)(Q:VK)(y:V)(x:V)(H2:Hp):Prop
 |mk(a:_)(o:_)(_:x=.ref a)(_:dN H2 a y o)(_:Q (.bl o.isSome) H2)
def MQ(ty td:TE):TE:=λσ H Q=>ty σ H λy H1=>td σ H1 λx H2=>F2 ty td Q y x H2
inductive uT(ty td:TE)(Q:VK)(y:V)(x:V)(H2:Hp):Prop
 |mk(a:_)(o:_)(_:x=.ref a)(_:dN H2 a y o)(_:Q (.bl (!o.isSome)) H2)
def E9(ty td:TE):TE:=λσ H Q=>ty σ H λy H1=>td σ H1 λx H2=>uT ty td Q y x H2
def KL(td ty tv:TE):TS:=λD σ H=>tv σ H λv H1=>td σ H1 λx H2=>ty σ H2 λy F=>Jd λa z=>uN (x=.ref a) (gK F a y v z) (D.nx σ z)
section
variable{X:Cx}{o i e value:Ob}{pos pos' tpos:QJ}{td ty tv:TE}
theorem cE(S:X.A.units+1<P0)(G:PE X o td)(hi:PE X i ty)(hs:JK i):PE X (.Subscript o i pos) (JE td ty):=by
 intros Q I h;show Fc PySem.F.slot_dict_getitem.lookup hs (bR (G pins s σ H _ I h) λu s1 J=>?_);let#[x,H1,I1,Y,N]:=J;show bR (hi pins s1 σ H1 _ I1 N) λiv s2 ab=>?_;let#[y,H2,z,R,a,v,ex,g,U]:=ab;subst ex;obtain rfl:u=Value.ref a:=Y;show#[wu z g,Ac S z g R λw' s3 O L=>#[v,H2,O,L,U]]
theorem Dz(S:X.A.units+1<P0)(hi:PE X i ty)(z:PE X o td):PC X .In i o (MQ ty td):=by
 intros Q I h;show bR (hi pins s σ H _ I h) λiv s1 N=>?_;let#[y,H1,G,R,J]:=N;show bR (z pins s1 σ H1 _ G J) λu s2 L=>?_;let#[x,H2,F,Y,a,ov,ex,g,U]:=L;subst ex;obtain rfl:u=Value.ref a:=Y;show My S F g R λs3 O=>#[.bl ov.isSome,H2,O,rfl,U]
theorem gR(S:X.A.units+1<P0)(hi:PE X i ty)(z:PE X o td):PC X .NotIn i o (E9 ty td):=by
 intros Q I h;show bR (hi pins s σ H _ I h) λiv s1 L=>?_;let#[y,H1,G,R,J]:=L;show bR (z pins s1 σ H1 _ G J) λu s2 N=>?_;let#[x,H2,F,Y,a,ov,ex,g,U]:=N;subst ex;obtain rfl:u=Value.ref a:=Y;show EH S F g R λs3 O=>#[.bl (!ov.isSome),H2,O,rfl,U]
theorem lj(R:X.A.units+1<P0)(F:PE X o td)(hi:PE X i ty)(hv:PE X value tv)(hs:Rh value (some (.Subscript o i pos')) pos.line X.env=pure false) :
  PS X (.Assign [.Subscript o i pos'] value pos) (KL td ty tv):=by
 intros D I h;show wpAny_Assign_Subscript (bR (hv pins s σ H _ I h) λr s1 N=>?_) hs;let#[v,H1,I1,z,J]:=N;show bR (F pins s1 σ H1 _ I1 J) λu s2 ab=>?_;let#[x,H2,G,U,S]:=ab;show bR (hi pins s2 σ H2 _ G S) λiv s3 Y=>?_;let#[y,H3,L,O,a,H4,ex,g,q3]:=Y;subst ex;obtain rfl:u=Value.ref a:=U;show rO R L g O z λs4 I4=>#[σ,H4,I4,q3]
end
theorem Bu{P:tp}{w:By}{H:Hp}(h:Heap)(z:PL<h.objs.size):bU P w H (h.push { cls:=.type "dict",data:=.dict ([].toArray) }) h.objs.size (.dK []):=
 #[Oc _,beq_eq_false_iff_ne.mpr (G0 (Ou z)),[],.nil,Heap.DictOf.new h]
theorem Cy{P:tp}{w:By}{H:Hp}(h:Heap)(z:PL<h.objs.size):bU P w H (h.push { cls:=.type "dict",data:=.dict ([].toArray) }) h.objs.size (.dT []):=
 #[Oc _,beq_eq_false_iff_ne.mpr (G0 (Ou z)),[],.nil,_, ([].toArray),(0),Heap.get?_push_size _ rfl,#[1,rfl],1,Pu]
def Ht:TE:=λ_ H Q=>∀p,H p=none->Q (.ref p) (upd H p (.dK []))
def Hl:TE:=λ_ H Q=>∀p,H p=none->Q (.ref p) (upd H p (.dT []))
section
variable{X:Cx}{pos:QJ}
theorem eE:PE X (.Dict [] [] pos) Ht:=λpins s σ H Q I h =>
 UY #[.ref s⁻¹,_,I.laid (a:=s⁻¹) (o:=.dK []) (t':=s.toks) (λ_ _ q=>Heap.get?_push_of_some _ q) (t7 _) (Bu s.heap I.big),rfl,h _ (I.bJ.fresh (t7 _))]
theorem vk:PE X (.Dict [] [] pos) Hl:=λpins s σ H Q I h =>
 UY #[.ref s⁻¹,_,I.laid (a:=s⁻¹) (o:=.dT []) (t':=s.toks) (λ_ _ q=>Heap.get?_push_of_some _ q) (t7 _) (Cy s.heap I.big),rfl,h _ (I.bJ.fresh (t7 _))]
end
structure M1(X:Cx)(o:Ob)(m:Str)(apos:QJ)(e:Ob)(cpos:QJ):Prop where
 base:QL o m X.env (eval o X.env)=eval o X.env
 FZ:((backTo cpos (starEach [e] X.env)).all (λx => !x.1)&&(Ry cpos (Qe [] X.env)).all (λx=>x.1.isSome)
  && decide (([e]:List Ob).length+([]:List Ub).length+(if ([]:List Ub).isEmpty then 0 else 1)<30))=true
 line:(apos.endLine==cpos.line)=true
 trees:backTo cpos (starEach [e] X.env)=[(false,eval e X.env)]
structure M2(X:Cx)(o:Ob)(m:Str)(apos:QJ)(e f:Ob)(cpos:QJ):Prop where
 base:QL o m X.env (eval o X.env)=eval o X.env
 FZ:((backTo cpos (starEach [e,f] X.env)).all (λx => !x.1)&&(Ry cpos (Qe [] X.env)).all (λx=>x.1.isSome)
  && decide (([e,f]:List Ob).length+([]:List Ub).length+(if ([]:List Ub).isEmpty then 0 else 1)<30))=true
 line:(apos.endLine==cpos.line)=true
 trees:backTo cpos (starEach [e,f] X.env)=[(false,eval e X.env),(false,eval f X.env)]
def Kg(H:Hp)(a:Addr):Prop:=(∃kvs,Rd H a (.dK kvs))\/∃kvs,Rd H a (.dT kvs)
theorem ug{X:Cx}{pins:WB}{σ:St}{H:Hp}{s:oR}{a:Addr}(I: ~~~H s)(d:Kg H a) :
  s.TypeIs (.ref a) "dict" /\ (∀b,Value.ref a=.ref b->∃z,s.heap.get? b=some z/\z.dict=none)/\(a==PL)=false:=by
 rcases d with⟨kvs,e⟩|⟨kvs,e⟩
 .let#[_,hd,vs,_,dd]:=kU I.bJ e;show#[dd.typeIs,λb q=>?_,hd];cases q;let#[z,_,_,h1,h2,_]:=dd;show#[z,h1,h2.2.1]
 .let#[_,hd,xs,_,dd]:=mX I.bJ e;show#[dd.typeIs,λb q=>?_,hd];cases q;let#[z,_,_,h1,h2,_]:=dd;show#[z,h1,h2.2.1]
section
variable{X:Cx}{pins:WB}{σ:St}{H:Hp}{s:oR}{a:Addr}{y d:V}{u r:Value}{o:Option V}{A:L5}{E:WC}
theorem GB{Q:WC}(R:A.units+1<P0)(I: ~~~H s)(g:dN H a y o)(N:RelV y u)(h:∀L s',~~~H s'->RelV (o.getD .non) L->Q L s') :
  wpAny (model X.prog X.w) A (call (.builtin "dict.get") [.ref a,u]) Q E s:=by
 rcases g with⟨kvs,k,e,G,l⟩|⟨kvs,k,b,e,G,O,l⟩
 .subst G;let#[z,hd,vs,J,dd]:=kU I.bJ e;show Q9 QO dd.typeIs Sg (SO _ _) (meets_dict_get (bT X.prog X.w) a (lO N) hd) #[_,dd.mapOf,h _ _ (I.tok _) ?_];rw[l];show(J.val k).getD rfl
 .subst G;cases(show u=Value.ref b from N);let#[z,hd,xs,J,dd]:=mX I.bJ e;show Q9 QO dd.typeIs Sg (SO _ _) (meetsH_dict_get (RU (bT X.prog X.w)) a b hd) #[PV R,k,xs,kg I.bJ O,dd,h _ _ (I.tok _) ?_];rw[l];show(J.val k).getD rfl
theorem Hg{Q:WC}(R:A.units+1<P0)(I: ~~~H s)(g:dN H a y o)(N:RelV y u)(rd:RelV d r)(h:∀L s',~~~H s'->RelV (o.getD d) L->Q L s') :
  wpAny (model X.prog X.w) A (call (.builtin "dict.get") [.ref a,u,r]) Q E s:=by
 rcases g with⟨kvs,k,e,G,l⟩|⟨kvs,k,b,e,G,O,l⟩
 .subst G;let#[z,hd,vs,J,dd]:=kU I.bJ e;show Q9 QO dd.typeIs Sg (SQ _ _ _) (meets_dict_get_default (bT X.prog X.w) a (lO N) hd r) #[_,dd.mapOf,h _ _ (I.tok _) ?_];rw[l];show(J.val k).getD rd
 .subst G;cases(show u=Value.ref b from N);let#[z,hd,xs,J,dd]:=mX I.bJ e;show Q9 QO dd.typeIs Sg (SQ _ _ _) (meetsH_dict_get_default (RU (bT X.prog X.w)) a b hd r) #[PV R,k,xs,kg I.bJ O,dd,h _ _ (I.tok _) ?_];rw[l];show(J.val k).getD rd
end
inductive zl(td ty:TE)(σ:St)(Q:VK)(x:V)(H1:Hp):Prop
 |mk (a:_) (_:x=.ref a) (_:Kg H1 a) (_:ty σ H1 λy H2=>∃o,dN H2 a y o/\Q (o.getD .non) H2):zl td ty σ Q x H1
def HS(td ty:TE):TE:=λσ H Q=>td σ H λx H1=>zl td ty σ Q x H1
inductive zy(td ty tx:TE)(σ:St)(Q:VK)(x:V)(H1:Hp):Prop
 |mk (a:_) (_:x=.ref a) (_:Kg H1 a) (_:ty σ H1 λy H2=>tx σ H2 λz H3=>∃o,dN H3 a y o/\Q (o.getD z) H3):zy td ty tx σ Q x H1
def Gg(td ty tx:TE):TE:=λσ H Q=>td σ H λx H1=>zy td ty tx σ Q x H1
inductive zB(td ty:TE)(σ:St)(Q:VK)(x:V)(H1:Hp):Prop
 |mk (a:_) (_:x=.ref a) (_:Kg H1 a) (_:ty σ H1 λy H2=>∃kvs k v,H2 a=some (.dK kvs)/\y=kV k/\cG kvs k=some v/\Q v (upd H2 a (.dK (m9 kvs k)))):zB td ty σ Q x H1
def IP(td ty:TE):TE:=λσ H Q=>td σ H λx H1=>zB td ty σ Q x H1
section
variable{X:Cx}{o e f:Ob}{apos cpos:QJ}{td ty tx:TE}
theorem BO(hu:X.A.units+1<P0)(G:PE X o td)(O:PE X e ty)(m:M1 X o "get" apos e cpos):PE X (.Call (.Attribute o "get" apos) [e] [] cpos) (HS td ty):=by
 intros Q I h;show Ra m.base m.FZ m.line RJ QO Tt (bR (G pins s σ H _ I h) λu s1 Y=>?_);let#[x,H1,z,rx,a,ex,d,N]:=Y;subst ex;obtain rfl:u=Value.ref a:=rx;let#[t1,t2,_]:=ug z d;show#[t1,t2,?_];rw[m.trees];show Calls.callWith_builtin rfl (Calls.evalArgs_plain (Calls.spliced_cons (bR (O pins s1 σ H1 _ z N) λiv s2 R=>?_)));let#[y,H2,J,U,ov,g,q2]:=R;show Calls.spliced_nil ?_;show GB hu J g U λw' s3 S L=>#[_,H2,S,L,q2]
theorem jo(hu:X.A.units+1<P0)(J:PE X o td)(he:PE X e ty)(hf:PE X f tx)(m:M2 X o "get" apos e f cpos):PE X (.Call (.Attribute o "get" apos) [e,f] [] cpos) (Gg td ty tx):=by
 intros Q I h;show Ra m.base m.FZ m.line RJ QO Tt (bR (J pins s σ H _ I h) λu s1 U=>?_);let#[x,H1,G,rx,a,ex,d,R]:=U;subst ex;obtain rfl:u=Value.ref a:=rx;let#[t1,t2,_]:=ug G d;show#[t1,t2,?_];rw[m.trees];show Calls.callWith_builtin rfl (Calls.evalArgs_plain (Calls.spliced_cons (bR (he pins s1 σ H1 _ G R) λiv s2 ⟨y,H2,L,ry,q2⟩ =>
  Calls.spliced_cons (bR (hf pins s2 σ H2 _ L q2) λfv s3 ⟨z,S,Y,N,ov,g,q3⟩=>Calls.spliced_nil ?_))))
 show Hg hu Y g ry N λw' s4 I4 O=>#[_,S,I4,O,q3]
theorem ic(G:PE X o td)(O:PE X e ty)(m:M1 X o "pop" apos e cpos):PE X (.Call (.Attribute o "pop" apos) [e] [] cpos) (IP td ty):=by
 intros Q I h;show Ra m.base m.FZ m.line RJ Ts PySem.F.type_dict_pop (bR (G pins s σ H _ I h) λu s1 ac=>?_);let#[x,H1,z,rx,a,ex,d,N]:=ac;subst ex;obtain rfl:u=Value.ref a:=rx;let#[t1,t2,_]:=ug z d;show#[t1,t2,?_];rw[m.trees];show Calls.callWith_builtin rfl (Calls.evalArgs_plain (Calls.spliced_cons (bR (O pins s1 σ H1 _ z N) λiv s2 ab=>?_)));let#[y,H2,J,Y,kvs,k,v,S,R,l,q2]:=ab;show Calls.spliced_nil ?_;subst R;show Kw J S Y l (.inl rfl) λw' s3 U L=>#[v,_,U,L,q2]
variable{pins:WB}{σ:St}{H:Hp}{s:oR}{a:Addr}{kvs:List (Key×V)}{A:L5}{E:WC}
variable{y:V}{u:Value}
theorem rP:eQ X (.builtin "len") (λxs H Q=>∃a kvs,xs=[V.ref a]/\H a=some (.dK kvs)/\Q (.int kvs.length) H):=by
 intros xs us Q I r h;let#[a,kvs,rfl,z,q]:=h;let#[u,rfl,G]:=vals1 r;cases G;show Jp I (.inl z) λt s' F=>#[.int kvs.length,H,F,#[t,rfl],q]
variable{κ:Type}[DecidableEq κ]
theorem kZ:∀{l:List κ}{k:κ},l.Nodup->¬ k∈l->(l++[k]).Nodup
 | [],k,_,_=>by simp
 |a::r,k,h,z=>by
  let#[h1,h2]:=N6.mp h;change(a::(r++[k])).Nodup;show N6.mpr #[λm=>?_,kZ h2 λm=>z (se.mpr (Wv m))];rcases t4.mp m with q|q
  .show h1 q
  .show z (se.mpr (Or.inl (qj.mp q).symm))
variable{k:Key}{r:Value}{d:V}
theorem Iv{Q:WC}(I: ~~~H s)(e:H a=some (.dK kvs))(ry:RelV (kV k) u)(rd:RelV d r)(Y:kvs.length<sizeLine)
  (h1:∀v J s',cG kvs k=some v->~~~H s'->RelV v J->Q J s') (h2:∀s',cG kvs k=none->~~~(upd H a (.dK (putK kvs k d))) s'->Q r s') :
  wpAny (model X.prog X.w) A (call (.builtin "dict.setdefault") [.ref a,u,r]) Q E s:=by
 let#[z,hd,vs,G,dd]:=qq I.bJ e;show Q9 RK dd.typeIs PySem.F.entry_dict_setdefault (PySem.F.args_dict_setdefault_3 _ _ _) (kt_meets_setdefault (bT X.prog X.w) a (lO ry) hd r)
  #[vs,dd,by rw[<-G.length];show z,λv L=>?_,λhn h' O hs=>?_]
 .let q:=G.val k;cases l:cG kvs k with
  |none=>rw[l]at q;rwa[gM.none_of q]at L
  |some y =>
   rw[l]at q;let#[J,N,S]:=gM.some_of q;rwa[L]at N;show h1 y v _ l (I.tok _) S
 .let l:cG kvs k=none:=by
   cases l:cG kvs k with
   |none=>rfl
   |some y =>
    let q:=G.val k;rwa[l,hn]at q
  let U:∃q,h'.get? a=some q:=let ⟨q,_,_,R,_⟩:=O;#[q,R];show h2 _ l (nH I (by rw[e];show Pe) hs U (uE (by have:=eJ kvs k d;show le_trans this Y) hd (G.put k rd) O))
end
inductive zF(td ty tx:TE)(σ:St)(Q:VK)(x:V)(H1:Hp):Prop
 |mk (a:_) (_:x=.ref a) (_:Kg H1 a) (_:ty σ H1 λy H2=>tx σ H2 λz H3=>∃kvs k,H3 a=some (.dK kvs)/\y=kV k/\kvs.length<sizeLine/\(∀v,cG kvs k=some v->Q v H3)/\(cG kvs k=none->Q z (upd H3 a (.dK (putK kvs k z))))):zF td ty tx σ Q x H1
def Gz(td ty tx:TE):TE:=λσ H Q=>td σ H λx H1=>zF td ty tx σ Q x H1
section
variable{X:Cx}{o e f:Ob}{apos cpos:QJ}{td ty tx:TE}
theorem CH(O:PE X o td)(he:PE X e ty)(hf:PE X f tx)(m:M2 X o "setdefault" apos e f cpos):PE X (.Call (.Attribute o "setdefault" apos) [e,f] [] cpos) (Gz td ty tx):=by
 intros Q I h;show Ra m.base m.FZ m.line RJ RK PySem.F.type_dict_setdefault (bR (O pins s σ H _ I h) λu s1 S=>?_);let#[x,H1,L,rx,a,ex,d,Y]:=S;subst ex;obtain rfl:u=Value.ref a:=rx;let#[t1,t2,_]:=ug L d;show#[t1,t2,?_];rw[m.trees];show Calls.callWith_builtin rfl (Calls.evalArgs_plain (Calls.spliced_cons (bR (he pins s1 σ H1 _ L Y) λiv s2 ⟨y,H2,R,ry,q2⟩ =>
  Calls.spliced_cons (bR (hf pins s2 σ H2 _ R q2) λfv s3 ⟨z,H3,I3,J,kvs,k,ea,ey,hl,q3,q4⟩=>Calls.spliced_nil ?_))))
 subst ey;show Iv I3 ea ry J hl (λv w' N l G U=>#[v,_,G,U,q3 v l]) λN l G=>#[z,_,G,J,q4 l]
variable{pins:WB}{σ:St}{H:Hp}{s:oR}{a:Addr}{o:Obj}{u:HO}{kvs:List (Key×V)}
theorem Inv.swap{w:HO}(I: ~~~H s)(h:H a=some u)(h1:∀o F,X.H₀ a≠some (.frz o F))(h2:∀xs,u≠.tup xs)(R:∀ps,u≠.tbl ps)(S:∀x,u≠.own x)(new:bU X.prog X.w (upd H a w) s.heap a w): ~~~(upd H a w) s:=by
 let ne:∀b,H b=none->b≠a:=λb q z=>(by rwa[z,h]at q);show#[I.ok,I.os,I.bare,#[I.base.keep,I.base.slot,λb o q U hx=>?_,I.base.there,λb xs q=>?_,λb o F q=>?_,λb ps q=>?_],I.loc,I.cell,?_,λy c q=>?_,λp L=>?_,λb v q=>?_,I.len]
 .let z:=I.base.free b o q U hx;rw[aj (ne b z)];show z
 .let z:=I.base.pM b xs q;rw[aj (λe=>h2 xs (by rw[e,h]at z;show sN z))];show z
 .let z:=I.base.nj b o F q;rw[aj (λe=>h1 o F (by rw[<-e];show q))];show z
 .let#[N,z]:=I.base.pb b ps q;show#[N,by rw[aj (λe=>R _ (by rw[e,h]at z;show sN z))];show z]
 .rw[aj (ne _ I.free)];show I.free
 .rw[aj (ne _ (I.fW y c q))];show I.fW y c q
 .let#[Y,G,O]:=I.pin p L;show#[Y,by rw[aj (ne _ G)];show G,O]
 .by_cases J:b=a
  .subst J;rwa[ae]at q;show new
  .rw[aj J]at q;show(I.bJ b v q).iP (λ_ _ _ z=>z) (λc z=>by rw[aj (λe=>S b (by rw[e,h]at z;show sN z))];show z) λc xs z=>by rw[aj (λe=>h2 xs (by rw[e,h]at z;show sN z))];show z
theorem Inv.freeze(I: ~~~H s)(h:H a=some (.dK kvs))(G:s.heap.get? a=some o)(h1:∀o F,X.H₀ a≠some (.frz o F)): ~~~(upd H a (.frz o (.dK kvs))) s :=
 I.swap h h1 (λ_ z=>nomatch z) (λ_ z=>nomatch z) (λ_ z=>nomatch z) #[G,(show bU X.prog X.w H s.heap a (.dK kvs)from I.bJ a _ h)]
theorem Inv.Hf(I: ~~~H s)(h:H a=some (.frz o (.dK kvs)))(h1:∀o F,X.H₀ a≠some (.frz o F)): ~~~(upd H a (.dK kvs)) s :=
 I.swap h h1 (λ_ z=>nomatch z) (λ_ z=>nomatch z) (λ_ z=>nomatch z) (show bU X.prog X.w H s.heap a (.frz o (.dK kvs))from I.bJ a _ h).2
end
def Jg(o:Obj):Nat:=match o.data with
 |.dict _ ep=>ep
 |_=>0
def HY(a:Addr)(o:Obj)(kvs:List (Key×V)):It :=
 #[λi H=>H a=some (.frz o (.dK kvs))/\i<kvs.length,λi H x H'=>H'=H/\∃k v,kvs[i]?=some (k,v)/\x=kV k,λi H=>H a=some (.frz o (.dK kvs))/\kvs.length<=i]
theorem yp{P:tp}{w:By}{k:Key}{u:Value}(h:(bT P w).is k u=true):RelV (kV k) u:=by
 rcases cB (show p9 k u=true from h)with⟨i,t,rfl,rfl⟩|⟨x,t,rfl,rfl⟩
 .show#[t,rfl]
 .show#[t,rfl]
theorem CW{P:tp}{w:By}{H:Hp}{h:Heap}{a:Addr}{o:Obj}{kvs:List (Key×V)}(ok:j7 P w H h)(e:H a=some (.frz o (.dK kvs))):(a==PL)=false/\∃vs,KV kvs vs/\h.DictAt (bT P w) a vs (Jg o):=by
 let#[z,_,hd,vs,r,o',es,ep,h1,h2,F,I]:=(show bU P w H h a (.frz o (.dK kvs))from ok a _ e);rwa[z]at h1;let G:Jg o=ep:=(by unfold Jg;rw[F]);show#[hd,vs,r,o,es,z,h2,by rw[G];show F,I]
theorem zU{P:tp}{w:By}{K:DD}{tg:Ob}(a it:Addr)(aB:a≠it)(o:Obj)(kvs:List (Key×V)):Turn P w K tg (HY a o kvs) [it] it (λi h=>h.IsKeyIter it a i kvs.length (Jg o)) where
 mem:=by simp
 obj:=λi h st b F=>by
  let e:b=it:=‹F›;subst e;let#[ob,h1,_,R]:=st;show#[ob,h1,λv z=>by rwa[R]at z]
 keep:=λi h h' st k=>st.at λo e=>k it (by simp) o e
 item:=by
  intro X hP N hK hc i pins s σ H E I L st O;subst hP N hK;let#[ab,J]:=O;let#[U,f1,f2,f3,f4,S]:=L it (by simp);let#[hd,vs,r,Y]:=CW I.bJ ab;let G:=r.length;obtain⟨⟨k,x⟩,hx⟩:∃p,vs[i]?=some p:=#[vs[i]'(PU J G),by simp];let ap:∃v,kvs[i]?=some (k,v):=by
   let hi:i<kvs.length:=J;show#[(kvs[i]).2,?_];let e:=r.keys;let e1:(kvs.map (·.1))[i]?=(vs.map (·.1))[i]?:=(by rw[e]);rw[vu,vu,hx,M4 hi]at e1;let e2:kvs[i].1=k:=sN e1;rw[M4 hi, <-e2]
  let#[v,hv]:=ap;rw[G]at st ⊢;show wpAny_pyNext_dict_item st Y hx λas h' am ac ad=>?_;let I1: ~~~H { s with heap:=h',toks:=s.toks }:=I.turned (λb o F e=>(ad.2 b F).trans e) U f1 f3 f4 S;let#[ob,h1,h2,R]:=id ac;show#[0,pV (s:={ s with heap:=h' }) (n := "dict_keyiterator") h1 h2 R ar #[kV k,H,I1,yp am,#[rfl,k,v,hv,rfl],ac,λb F=>(L b F).1]]
 done:=by
  intro X hP N hK hc i pins s σ H E I L st O;subst hP N hK;let#[ab,J]:=O;let#[U,f1,f2,f3,f4,S]:=L it (by simp);let#[hd,vs,r,Y]:=CW I.bJ ab;let G:=r.length;rw[G]at st;show wpAny_pyNext_dict_end (I.ok.hd hc) st Y (by simp;show le_of_eq_of_le (id (Ru G)) J) λh' eb=>#[rfl,I.turned (t':=s.toks) (λb o F e=>eb b o F e) U f1 f3 f4 S]
 self:=λ_ _ _ _ _ st h=>wpAny_pyIter_keyiter st h
def KW(H₀:Hp)(td:TE):TI:=λσ H R=>td σ H λx H1=>Jd λa kvs=>Mf (x=.ref a) (H1 a=some (.dK kvs)) ((∀o z,H₀ a≠some (.frz o z))) (∀o,R (HY a o kvs) (upd H1 a (.frz o (.dK kvs))))
section
variable{X:Cx}{tg:Ob}
theorem jI{l:Ob}{td:TE}(hl:PE X l td):PI X tg l (KW X.H₀ td):=by
 intros R I h;show bR (hl pins s σ H _ I h) λv s1 Y=>?_;let#[x,H1,J,U,a,kvs,e,G,hn,q]:=Y;subst e;cases U;let#[_,hd,vs,O,dd]:=qq J.bJ G;let#[z,es,ep,h1,h2,L,h4]:=id dd;let F:=J.freeze G h1 hn;let lt:a<s1⁻¹:=Heap.lt_size h1;let N:s1.heap.DictAt (bT X.prog X.w) a vs (Jg z):=#[z,es,h1,h2,by unfold Jg;rw[L],h4];show wpAny_pyIter_dict hd N ?_;show#[s1⁻¹,[s1⁻¹],_,HY a z kvs,0,F.kept (t':=s1.toks) λb o e=>Heap.get?_push_of_some _ e,zU a _ (Ou lt) z kvs,#[_,Heap.get?_push_size _ rfl,4],λb S=>?_,q z]
 .rw[O.length];rfl
 .let e:b=s1⁻¹:=‹S›;subst e;show F.kK (t7 _) (F.bJ.fresh (t7 _))
def Ka(H₀:Hp)(t:TS):TS:=λD σ H=>t { D with
 nx:=λF H'=>∃a o kvs,H' a=some (.frz o (.dK kvs))/\(∀o z,H₀ a≠some (.frz o z))/\D.nx F (upd H' a (.dK kvs))
 rt:=λv H'=>∃a o kvs,H' a=some (.frz o (.dK kvs))/\(∀o z,H₀ a≠some (.frz o z))/\D.rt v (upd H' a (.dK kvs)) } σ H
theorem tZ{st:N8}{t:TS}(h:PS X st t):PS X st (Ka X.H₀ t):=by
 intros D I q;show bR (h pins s σ H _ I q) λf s1 z=>?_;cases f with
 |next =>
  let#[L,H',J,a,o,kvs,G,N,F]:=z;show#[L,_,J.Hf G N,F]
 |ret u =>
  let#[v,L,H',J,r,a,o,kvs,G,N,F]:=z;show#[v,L,_,J.Hf G N,r,F]
 |brk=>show z
 |cont=>show z
end
theorem oV{a:Addr}{o:Obj}{kvs:List (Key×V)}{g:TG}{tb:TS}{D:Ends}{σ:St}{H:Hp}(Pv:Nat->St->Hp->Prop)(R:Pv 0 σ H)(L:∀i σ H,i<=kvs.length->Pv i σ H->H a=some (.frz o (.dK kvs)))
  (hs:∀i k v σ H,kvs[i]?=some (k,v)->Pv i σ H->g (kV k) σ H λz H2=>tb { D with nx:=Pv (i+1),ct:=Pv (i+1),bk:=D.nx } z H2) (hd:∀σ H,Pv kvs.length σ H->D.nx σ H) :
  ∃W:Nat->Nat->St->Hp->Prop,(∃m,W 0 m σ H)/\∀i m σ H,W i m σ H ->
   ((HY a o kvs).stop i H/\D.nx σ H)\/((HY a o kvs).go i H/\∃N:St->Hp->Prop,(∀F H',N F H'->∃I,I<m/\W (i+1) I F H')/\∀x H',(HY a o kvs).El i H x H'->g x σ H' λz H2=>tb { D with nx:=N,ct:=N,bk:=D.nx } z H2):=by
 show#[λi m σ H=>m=kvs.length-i/\i<=kvs.length/\Pv i σ H,#[kvs.length,by simp,Oc _,R],?_];rintro i m σ H ⟨rfl,hi,p⟩;let q:=L i σ H hi p;cases G:i<kvs.length
 .show .inr #[#[q,G],Pv (i+1),λF H' O=>#[kvs.length-(i+1),PK (QX kvs) i G,rfl,G,O],λx H' y=>?_];let#[e,k,v,J,ex]:=y;subst e ex;show hs i k v σ _ J p
 .let e:i=kvs.length:=af;subst e;show .inl #[#[q,t7 _],hd σ H p]
section
variable{X:Cx}
inductive Jw(K:DD)(x:V)(y:V)(H:Hp)(Q:VK):Prop
 |mk(p:_)(q:_)(xs:_)(ys:_)(_:x=.ref p)(_:y=.ref q)(_:bq K H p xs)(_:bq K H q ys)(_:xs.all ed=true)(_:ys.all ed=true)(_:Q (.bl (!jv xs ys)) H)
theorem BD(S:X.A.units<P0):jY X (OL .NotEq) (Jw X.K):=by
 intros x y v u Q I rx ry h;let#[p,q,xs,ys,rfl,rfl,hx,hy,fx,Y,L]:=h;cases rx;cases ry;let#[its,r,pl,hz]:=I.list hx;let#[R,O,U,ad]:=I.list hy;let J:=r.length;let N:=O.length;cases e:xs.length=ys.length
 .show V0 (e:=λj=>mK (xs.getD j .non) (ys.getD j .non)) pl.isList U.isList (by rw[ti,ti];omega) S (λj h1 h2=>?_) _ _ _ _ #[.bl (!jv xs ys),H,I,?_,L]
  .let G:j<xs.length:=(by rw[ti]at h1;show PU h1 (id (Ru J)));let F:j<ys.length:=PU h2 (id (Ru N));let#[a,ea,ra]:=r.get (i:=j) (x:=xs[j]) (by simp[G]);let#[b,eb,rb]:=O.get (i:=j) (x:=ys[j]) (by simp[F]);let#[_,ab]:=qc.mp ea;let#[_,ac]:=qc.mp eb;let g1:xs.getD j .non=xs[j]:=(by simp[G]);let g2:ys.getD j .non=ys[j]:=(by simp[F]);change P8 _ _ its.toArray[j] R.toArray[j] (mK (xs.getD j .non) (ys.getD j .non));rw[g1,g2];let f1:ed xs[j]=true:=OD.mp fx _ (P6 G);let f2:ed ys[j]=true:=OD.mp Y _ (P6 F);let z:=mE (A:=X.A.in1) (s:=s) ra rb f1 f2;let a1:its.toArray[j]=a:=‹ab›;let a2:R.toArray[j]=b:=‹ac›;rw[a1,a2];show z
  .change Value.bool _=Value.bool _;rw[ti, <-J,kF e]
 .show UO pl.isList U.isList ?_ S _ _ _ _ #[.bl (!jv xs ys),H,I,?_,L]
  .rw[ti,ti, <-J, <-N];show bne_iff_ne.mpr e
  .change Value.bool _=Value.bool _;rw[oO e];rfl
end
def Gk(lo st:Int)(n:Nat):It:=#[λi _=>i<n,λi H x H'=>H'=H/\x=.int (lo+i*st),λi _=>n<=i]
theorem vR{P:tp}{w:By}{K:DD}{tg:Ob}(it:Addr)(lo st:Int)(n:Nat):Turn P w K tg (Gk lo st n) [it] it (λi h=>QV h it (lo+(i:Nat)*st) ((n:Int)-(i:Nat)) st) where
 mem:=by simp
 obj:=λi h st b F=>by
  let e:b=it:=‹F›;subst e;show#[_,st,λv z=>by
   let z':Data.fields _=Data.cell v:=z;cases z']
 keep:=λi h h' st k=>k it (by simp) _ st
 item:=by
  intro X hP J U S i pins s σ H E I G R L;subst hP J U;let#[O,Y,f2,f3,f4,N]:=G it (by simp);let W:=Wk (prog:=X.prog) (w:=X.w) (I.ok.hd S) it lo st n;show W.item i s _ _ L R λv h' tk hv ab kk=>?_;let#[t,rfl]:=hv;let I1: ~~~H { s with heap:=h',toks:=tk }:=I.turned (λb o F e=>kk b o ‹F› e) O Y f3 f4 N;show#[0,pV (s:={ s with heap:=h',toks:=tk }) (n := "range_iterator") ab rfl rfl ar #[.int (lo+i*st),H,I1,#[t,rfl],#[1],ab,λb F=>(G b F).1]]
 done:=by
  intro X hP J U S i pins s σ H E I G R L;subst hP J U;let#[O,Y,f2,f3,f4,N]:=G it (by simp);show SW (I.ok.hd S) R (by have:n<=i:=L;omega) λh' eb=>#[rfl,I.turned (t':=s.toks) (λb o F e=>eb b o F e) O Y f3 f4 N]
 self:=λ_ _ _ _ _ st h=>SY st h
def JD(ta:TA):TI:=λσ H R=>ta σ H λvs H1=>∃(i j st:Int)(n:Nat),vs=[.int i,.int j,.int st]/\Builtin.Range.small i j st=true/\Builtin.Range.rangeSize i j st=(n:Int)/\st≠0/\Builtin.divisionGoesByPylong (j-i) st=false/\R (Gk i st n) H1
section
variable{X:Cx}{tg:Ob}
theorem AU{a b c:Ob}{ta:TA}{p pos:QJ}(N:Gl X "range")(hm:X.mg "range" = none)(S:PA X [a,b,c] ta)(hs:starEach [a,b,c] X.env=[(false,eval a X.env),(false,eval b X.env),(false,eval c X.env)]:=by rfl)(J:starEach [b,c] X.env=[(false,eval b X.env),(false,eval c X.env)]:=by rfl) :
  PI X tg (.Call (.Name "range" p) [a,b,c] [] pos) (JD ta):=by
 intros R I h;show Wl (iI I N hm Ur (OH (bR (S pos pins s σ H _ I h) λus s1 ⟨vs,H1,I1,r1,G⟩=>?_) (by rw[hs,J]) (by rw[J];rfl)));let#[i,j,st,n,e,G,q2,q3,q4,q]:=G;subst e;cases r1 with
 |cons r z =>
  cases z with
  |cons U z =>
   cases z with
   |cons ab z =>
    cases z;let#[t,rfl]:=r;let#[t',rfl]:=U;let#[L,rfl]:=ab;show call_range_3 q3 ?_ (.inl q4);show RW (U8 ..) G ?_;let F: ~~~H1 { s1 with heap:=s1.heap.push { cls:=.type "range",data:=.fields ([.int i t,.int j t',.int st L].toArray) },toks:=s1.toks }:=I1.kept λb o e=>Heap.get?_push_of_some _ e;show#[_,[_],2,H1,rfl,F.kept (t':=s1.toks) λb o e=>Heap.get?_push_of_some _ e,vR _ i st n,?_,λb Y=>?_,q]
    .let O:i+((0:Nat):Int)*st=i:=(by simp);let e2:(n:Int)-((0:Nat):Int)=Builtin.Range.rangeSize i j st:=(by rw[q2];omega);change QV _ _ (i+((0:Nat):Int)*st) ((n:Int)-((0:Nat):Int)) st;rw[O,e2];show Heap.get?_push_size _ rfl
    .let e:=qj.mp Y;subst e;show F.kK (t7 _) (F.bJ.fresh (t7 _))
end
theorem CQ(K:DD):PM K (.type "int") (.type "tuple")=some false:=by with_unfolding_all rfl
theorem DF(K:DD):PM K (.type "int") (.type "list")=some false:=by with_unfolding_all rfl
theorem DE(K:DD):PM K (.type "int") (.type "dict")=some false:=by with_unfolding_all rfl
theorem DZ(K:DD):PM K (.type "str") (.type "tuple")=some false:=by with_unfolding_all rfl
theorem CG(K:DD):PM K (.type "str") (.type "list")=some false:=by with_unfolding_all rfl
theorem Di(K:DD):PM K (.type "str") (.type "dict")=some false:=by with_unfolding_all rfl
theorem Dy(K:DD):PM K (.type "NoneType") (.type "tuple")=some false:=by with_unfolding_all rfl
theorem Be(K:DD):PM K (.type "NoneType") (.type "list")=some false:=by with_unfolding_all rfl
theorem Dj(K:DD):PM K (.type "NoneType") (.type "dict")=some false:=by with_unfolding_all rfl
theorem sR(K:DD):PM K (.type "tuple") (.type "tuple")=some true:=rfl
end L2
namespace Srt
open PySem PyProof.Rows
theorem yS:∀{vs:WH}{ns:List Int},vs.length=ns.length->(∀(j:Nat)(v:Value),vs[j]?=some v->∃(m:Int)(t:Wj),ns[j]?=some m/\v=.int m t)->QD vs ns
 | [],[],_,_=>.nil
 |v::vs,n::ns,z,h=>by
  let#[m,t,e,rfl]:=h 0 v rfl;cases e;show .cons n t (yS ‹z› λj u F=>by simpa using h (j+1) u ‹F›)
 | [],_::_,z,_=>by simp at z
 |_::_,[],z,_=>by simp at z
section
variable{prog:tp}{w:By}{A:L5}{E:WC}{s:oR}{T:String}{r d:Addr}{n:Nat}{P:Nat->Value->Prop}{OK:Heap->Prop}
theorem xm{ns:List Int}{Q:WC}(S:KdlSrc prog w T r d n P OK)(O:A.handled=none)(L:OK s.heap)(hP:∀(i:Nat)(v:Value),P i v->∃(m:Int)(t:Wj),ns[i]?=some m/\v=.int m t)(hl:ns.length=n)(hn:ns.Nodup)(hz:n<=1000)
  (k:∀(h1 h':Heap)(tk:Nat)(out:WG)(F:List Int)(e:Nat),(∀b o,s.heap.get? b=some o->h1.get? b=some o)->(∀b o,h1.get? b=some o->h'.get? b=some o)->h'.get? h1.objs.size=some (seqObj "list" out e)->QD out.toList F->F.Perm ns->F.Pairwise (· <= ·)->Q (.ref h1.objs.size) { s with heap:=h',toks:=tk }) :
  wpAny (model prog w) A (call (.builtin "sorted") [.ref r]) Q E s:=by
 let lz:sizeLine=16777216:=vl;show Calls.call_function_entry kind_sorted plain_sorted entry_sorted (args_sorted1 _) ?_;show qs (m:=checkCount "sorted" 1 1 _) (wpAny_pure (qs (PySem.W.kdu_collect (A:=A.in1) S O L af λh1 tk z k1 J=>?_)));let ln:z.toList.length=n:=(by rw[Pn];show J.1);show qs (Ul ?_ af);let U:QD z.toList ns:=yS af λj v e=>hP j v (J.2 j v (by rw[<-Pz];show e));let G:=Heap.get?_push_size h1 (o:=seqObj "list" z.toList.toArray 0) rfl;change wpAny _ _ _ _ _ { s with heap:=h1.push (seqObj "list" z.toList.toArray 0),toks:=tk };show qs (OX (Rn slot_list_sort #[_,G,rfl] entry_list_sort (rA G U hn af λout F R Y N=>#[0,wpAny_pure #[0,?_]]) (args_list_sort _)));let#[e,he]:=sortedHeap_at (vs:=z.toList) (out:=out) G;show k h1 _ tk out F e k1 (λb o I=>?_) he R Y N;let lt:=Heap.lt_size I;rw[sortedHeap_old (Ou lt) (by rw[VM];show Qq lt),Heap.get?_push_ne _ _ _ (Ou lt)];show I
end
end Srt
namespace L2
open PySem PySem.Spec PyProof.Rows
section
variable{X:Cx}
theorem uq:eQ X (.builtin "sorted") (λxs H Q=>∃(p:Addr)(ns:List Int),xs=[.ref p]/\bq X.K H p (ns.map V.int)/\ns.Nodup/\ns.length<=1000/\∀(l:Addr)(z:List Int),H l=none->z.Perm ns->z.Pairwise (· <= ·)->Q (.ref l) (upd H l (.lst (z.map V.int)))):=by
 intros xs us Q I r h;let#[p,ns,rfl,J,N,hn,q]:=h;let#[u,rfl,U]:=vals1 r;cases U;let#[its,F,pl,hz]:=I.list J;let S:=intsAre_of F;let Y:=F.length;rw[qi]at Y;show Srt.yk pl.isList S N af λout z R G L=>?_;let#[e,O]:=sortedAll_at s.heap its out;let hs:=vl;show#[.ref (s⁻¹+1),_,I.laid (t':=s.toks) (λb o e=>sortedAll_old e) (QT _) (show bU X.prog X.w _ _ _ (.lst (z.map V.int))from#[by rw[qi,G.length_eq];omega,out.toList,e,jA R,by simpa using O]),rfl,q _ z (I.bJ.fresh (QT _)) G L]
end
end L2
namespace Srt
open PySem PyProof.Rows
theorem wy{prog:tp}{w:By}{A:L5}{I:Addr}{fp wr:List Addr}{G:Array Uz->Array Uz->Prop}{n:Nat}{P:Nat->Value->Prop}{St:Nat->oR->Prop}(W:WalksS prog w A I fp wr G n P St)(m:Nat)(z:Nat->Value->Prop) :
  WalksS prog w A I fp wr G (m+n) (λj v=>(j<m/\z j v)\/(m<=j/\P (j-m) v)) (λi s=>m<=i/\St (i-m) s) where
 sub:=W.sub
 grefl:=W.grefl
 gtrans:=W.gtrans
 frame:=λi s h' tk st J N=>#[st.1,W.frame (i-m) s h' tk st.2 J N]
 item:=λi s Q E hi st h=>W.item (i-m) s Q E (by have:=st.1;omega) st.2 λv s' F L O=>h v s' (.inr #[st.1,F]) #[by have:=st.1;omega,by rw[show i+1-m=i-m+1 by have:=st.1;omega];show L] O
 done:=λs Q E st h=>W.done s Q E (by have:=st.2;rwa [show m+n-m=n by omega]at this) h
 self:=λi s Q E st h=>W.self (i-m) s Q E st.2 h
section
variable{prog:tp}{w:By}{A:L5}{s:oR}{T:String}{r d:Addr}{n:Nat}{P:Nat->Value->Prop}{OK:Heap->Prop}
theorem wN{R:Vx->oR->Prop}(Z:KdlSrc prog w T r d n P OK)(hh:A.handled=none)(U:OK s.heap)(S:Addr)(sr:S≠r)(sd:S≠d)(res:Value)(G:WG)(c:Nat)(hS:s.heap.get? S=some { cls:=.type "list",data:=.seq G c })(hz:G.size+n<sizeLine)
  (k:∀h' tk L J,(∀b o,b≠S->s.heap.get? b=some o->h'.get? b=some o)->h'.get? S=some { cls:=.type "list",data:=.seq L J }->ItemsOf (λj v=>(j<G.size/\G[j]?=some v)\/(G.size<=j/\P (j-G.size) v)) L (G.size+n)->R (.ok (.ret res)) { s with heap:=h',toks:=tk }) :
  wpAny (model prog w) A.in1 (Builtin.List.listExtendWith (.ref S) (.ref r) res) (λas s'=>match as with|.done f=>R (.ok f) s' |.again J=>J.quiet=true/\QA (model prog w) A J R s') (λe s'=>R (.error e) s') s:=by
 let nI:S≠s⁻¹:=Ou (Heap.lt_size hS);let#[oI,St,ap,W,ad]:=Z.iter A.in1 s hh U;let ab:S∉[s⁻¹,d]:=λz=>by
  rcases se.mp z with e|z
  .show nI e
  .show sd (qj.mp z)
 let am:∀(h:Heap)(c1 tk:Nat),St 0 h->(∀b o,b≠S->s.heap.get? b=some o->h.get? b=some o)->h.get? S=some { cls:=.type "list",data:=.seq G c1 } ->
   QA (model prog w) A (.builtin "list.extend.loop" #[[.ref S,.ref s⁻¹,res],[]]) R { s with heap:=h,toks:=tk }:=by
  intro h c1 tk q0 N O;let WS:=wy W.toS G.size λj v=>G[j]?=some v;show codeAny_extend_loopS WS (Vt hz) S ab res n G.size _ G c1 af af #[t7 _,by rw[Nat.sub_self];show q0] O #[rfl,λj v e=>.inl #[?_,e]] λs' L J mv e1 e2=>?_
  .show(Qy.mp e).1
  .rw[Moved.eq_with mv];show k s'.heap s'.toks L J (λb o I e=>mv.heap b o (λz=>?_) (N b o I e)) e1 e2;rcases se.mp z with z|z
   .show I z
   .show PH _ (qj.mp z▸Heap.lt_size e)
 unfold Builtin.List.listExtendWith;show qs (wpAny_typeOf (T:=T) (Z.type s U) ?_);let ns:Builtin.List.listSameRef (.ref S) (.ref r)=false:=(by simp[Builtin.List.listSameRef,sr]);simp only[ns,Z.notList,Z.notTuple,Bool.or_false,Ph,if_false];show qs (ap _ _ ?_);let Y:=Heap.get?_push_of_some oI hS;show qs (OX (Z.hint _ _ _ _ (Z.keep _ _ U λb _ o e=>Heap.get?_push_of_some _ e) ?_));show wpAny_ite_split (λ_=>?_) (λ_=>wpAny_pure #[plainId_quiet Sq _,am _ c _ ad (λb o _ e=>Heap.get?_push_of_some _ e) Y]);show qs (Qw (qs ?_));change wpAny _ _ (updateSeq S (·.push .none)>>=λ_=>updateSeq S (·.pop)) _ _ _;let N:=QF Y (·.push Value.none);let O:=QF N (·.pop);let ep:(G.push Value.none).pop=G:=Array.pop_push ..;show qs (wpAny_updateSeq Y rfl (wpAny_updateSeq N rfl (wpAny_pure #[plainId_quiet Sq _,?_]) ?_ ?_) ?_ ?_)
 .rw[ep]at O;show am _ _ _ (W.frame 0 _ _ ad λb I o e=>?_) (λb o I e=>?_) O
  .let ac:b≠S:=λz=>ab (z▸I);show(Heap.get?_update_other _ _ (G0 ac)).trans ((Heap.get?_update_other _ _ (G0 ac)).trans e)
  .show(Heap.get?_update_other _ _ (G0 I)).trans ((Heap.get?_update_other _ _ (G0 I)).trans (Heap.get?_push_of_some _ e))
 .change(G.push Value.none).size<=sizeLine;rw[SK];omega
 .change((G.push Value.none).pop).size<=sizeLine+1;rw[ep];omega
 .omega
 .change(G.push Value.none).size<=sizeLine+1;rw[SK];omega
end
end Srt
namespace L2
open PySem PySem.Spec PyProof.Rows
theorem tD:∀{xs:List V}{vs:WH},xs.length=vs.length->(∀(j:Nat)(x:V)(v:Value),xs[j]?=some x->vs[j]?=some v->RelV x v)->Vals xs vs
 | [],[],_,_=>.nil
 |x::xs,v::vs,z,h=>.cons (h 0 x v rfl rfl) (tD ‹z› λj a b F G=>h (j+1) a b ‹F› ‹G›)
 | [],_::_,z,_=>by simp at z
 |_::_,[],z,_=>by simp at z
section
variable{X:Cx}
inductive wH(x:V)(vs:List V)(H:Hp)(Q:VK):Prop
 |mk (l:_) (d:_) (xs:_) (kvs:_) (_:x=.ref l) (_:vs=[.ref d]) (_:H l=some (.lst xs)) (_:H d=some (.dK kvs)) (_:xs.length+kvs.length<sizeLine) (_:Q .non (upd H l (.lst (xs++kvs.map λkv=>kV kv.1)))):wH x vs H Q
theorem x9(hc:X.calm=true):FQ X "list.extend" wH:=by
 intros x vs v us Q I rx rv h;let#[l,d,xs,kvs,rfl,rfl,L,S,hz,q]:=h;cases rx;let#[u,rfl,ru]:=rv.one;cases ru;let#[z,its,n,r,hl,e]:=I.nh L;let#[_,hd,vs,ab,dd]:=qq I.bJ S;let#[ep,ad]:=dd.dictAt;let ap:=ab.length;let ac:l≠d:=λz=>(by rwa[z,S]at L);show Rj (RD Qc.plain PySem.F.entry_list_extend (Qc.check _ _ _ _ _ _ _ _ #[_,e,rfl] (PySem.F.args_list_extend_2 _ _) ?_));change wpAny _ _ (Builtin.List.listExtendWith (.ref l) (.ref d) .none) _ _ s;show Srt.wN (R:=λr s'=>match r with|.ok (.ret v)=>EP X pins σ Q v s' |.ok _=>False|.error e=>X.xe e s') (kdl_dict (knd:=bT X.prog X.w) (kvs:=vs) (ep:=ep) hd) (I.ok.hd hc) ad l ac ac .none its.toArray n e (by rw[ti];omega) λh' tk G c' k1 k2 k3=>#[.non,_,?_,rfl,q];let#[sz,it]:=k3;let sz:G.size=its.length+vs.length:=(by rw[sz,ti]);show I.write (x:=l) (e:=l) (by rw[L];show trivial) (.inl rfl) k1 #[_,k2] (show bU X.prog X.w _ _ _ (.lst _)from#[?_,G.toList,c',tD ?_ λj x v hx hv=>?_,by simpa using k2])
 .rw[y3,qi];omega
 .let al:G.toList.length=G.size:=Pn;rw[y3,qi];omega
 .let am:G[j]?=some v:=(by rw[<-Pz];show hv);rcases it j v am with⟨O,N⟩|⟨O,N⟩
  .rw[ti]at O;rw[Pp af]at hx;let#[b,Y,rb]:=r.get hx;have:its[j]?=some v:=‹N›;rwa[this]at Y;show rb
  .rw[ti]at O N;let#[k,y,e1,e2]:=N;rw[Pc af,vu]at hx;let J:(vs.map (·.1))[j-its.length]?=some k:=(by rw[vu,e1];rfl);rw[<-ab.keys,vu]at J;rw[show j-xs.length=j-its.length by omega]at hx;cases U:kvs[j-its.length]? with
   |none=>rwa[U]at J
   |some kv =>
    rw[U]at J hx;obtain rfl:kv.1=k:=sN J;obtain rfl:kV kv.1=x:=sN hx;show yp e2
def LU(K:DD):R2:=λx y H Q=>∃p q xs ys,x=.ref p/\y=.ref q/\bL K H p xs/\bL K H q ys/\xs.all ed=true/\ys.all ed=true/\Q (.bl (jv xs ys)) H
theorem rK:∀{xs ys:List V},((Pw (min xs.length ys.length)).all (λj=>mK (xs.getD j .non) (ys.getD j .non))&&xs.length==ys.length)=jv xs ys:=by
 intro xs ys;cases e:xs.length=ys.length
 .rw[e,Nat.min_self,beq_self_eq_true,Bool.and_true, <-kF e,e]
 .rw[oO e,beq_eq_false_iff_ne.mpr e,TK]
theorem oS(hu:X.A.units<P0):jY X (OL .Eq) (LU X.K):=by
 intros x y v u Q I rx ry h;let#[p,q,xs,ys,rfl,rfl,hx,hy,S,O,L]:=h;cases rx;cases ry;let#[its,r,pl,hz]:=I.tuple hx;let#[J,G,ad,am]:=I.tuple hy;let hl:=r.length;let N:=G.length;show UZ (e:=λj=>mK (xs.getD j .non) (ys.getD j .non)) pl ad hu (λj h1 h2=>?_) #[.bl (jv xs ys),H,I,?_,L]
 .rw[ti]at h1 h2;let F:j<xs.length:=af;let z:j<ys.length:=af;let#[a,Y,ra]:=r.get (i:=j) (x:=xs[j]) (by simp[F]);let#[b,eb,rb]:=G.get (i:=j) (x:=ys[j]) (by simp[z]);let#[_,ab]:=qc.mp Y;let#[_,ac]:=qc.mp eb;let U:xs.getD j .non=xs[j]:=(by simp[F]);let g2:ys.getD j .non=ys[j]:=(by simp[z]);change P8 _ _ its.toArray[j] J.toArray[j] (mK (xs.getD j .non) (ys.getD j .non));let a1:its.toArray[j]=a:=‹ab›;let R:J.toArray[j]=b:=‹ac›;rw[U,g2,a1,R];show mE ra rb (OD.mp S _ (P6 F)) (OD.mp O _ (P6 z))
 .change Value.bool _=Value.bool _;rw[ti,ti, <-hl, <-N,rK]
end
def qG(K:DD)(H:Hp):Nat->V->V->Prop
 |0,x,y=>x=y/\ed x=true
 |n+1,x,y=>(x=y/\ed x=true)\/∃p q xs ys,x=.ref p/\y=.ref q/\p≠q/\((bq K H p xs/\bq K H q ys)\/(bL K H p xs/\bL K H q ys))/\Paired (qG K H n) xs ys
theorem wx:∀{x:V},ed x=true->mK x x=true:=by
 intro x h;cases x<;>first|(simp[mK];done)|show nomatch h
theorem uH{α z:Type}{F:α->z->Prop}:∀{xs:List α}{ys:List z},Paired F xs ys->xs.length=ys.length
 |_,_,.nil=>rfl
 |_,_,.cons _ t=>by rw[K4,K4,uH t]
theorem F8{α z:Type}{F:α->z->Prop}:∀{xs:List α}{ys:List z},Paired F xs ys->∀(j:Nat)(x:α)(y:z),xs[j]?=some x->ys[j]?=some y->F x y
 |_,_,.nil,j,_,_,h,_=>by simp at h
 |_,_,.cons r t,0,x,y,h1,h2=>by simp at h1 h2;subst h1;subst h2;show r
 |_,_,.cons r t,j+1,x,y,h1,h2=>F8 t j x y ‹h1› ‹h2›
section
variable{X:Cx}{pins:WB}{σ:St}{H:Hp}{s:oR}
theorem iA{n:Nat}{A:L5}{xs ys:List V}{its z:WH}(r:Vals xs its)(F:Vals ys z)(J:Paired (qG X.K H n) xs ys)
  (O:∀{x y:V}{v u:Value},qG X.K H n x y->RelV x v->RelV y u->P8 A s v u true) (j:Nat) (h1:j<its.toArray.size) (h2:j<z.toArray.size):P8 A s its.toArray[j] z.toArray[j] true:=by
 let hl:=r.length;let ab:=F.length;rw[ti]at h1 h2;let G:j<xs.length:=af;let I:j<ys.length:=af;let#[a,S,R]:=r.get (i:=j) (x:=xs[j]) (by simp[G]);let#[b,eb,rb]:=F.get (i:=j) (x:=ys[j]) (by simp[I]);let#[_,Y]:=qc.mp S;let#[_,L]:=qc.mp eb;let U:its.toArray[j]=a:=‹Y›;let N:z.toArray[j]=b:=‹L›;rw[U,N];show O (F8 J j _ _ (by simp[G]) (by simp[I])) R rb
theorem tV(I: ~~~H s):∀(n:Nat){A:L5}{x y:V}{v u:Value},A.units+n<P0->qG X.K H n x y->RelV x v->RelV y u->P8 A s v u true
 |0,A,x,y,v,u,_,⟨e,f⟩,J,G=>by
  subst e;let z:=mE (A:=A) (s:=s) J G f f
  rwa [wx f]at z
 |n+1,A,x,y,v,u,hu,h,J,G=>by
  rcases h with⟨e,f⟩|⟨p,q,xs,ys,rfl,rfl,S,Y,N⟩
  .subst e;let z:=mE (A:=A) (s:=s) J G f f
   rwa [wx f]at z
  .cases J;cases G;let U:A.in1.units+n<P0:=(by change A.units+1+n<P0;omega);let R:∀{x y:V}{v u:Value},qG X.K H n x y->RelV x v->RelV y u->P8 A.in1 s v u true:=λa b c=>tV I n U a b c;let hl:=uH N;rcases Y with⟨h1,h2⟩|⟨h1,h2⟩
   .let#[its,r,pl,_]:=I.list h1;let#[L,F,O,_]:=I.list h2;let l1:=r.length;let l2:=F.length;let z:=SeqAt.RcAt.lists (A:=A) (s:=s) (e:=λ_=>true) pl.isList O.isList (by rw[ti,ti];omega) af (iA r F N R);let e:((Pw its.toArray.size).all λ_=>true)=true:=OD.mpr λ_ _=>rfl;rw[e]at z;show Uw S z
   .let#[its,r,pl,_]:=I.tuple h1;let#[L,F,O,_]:=I.tuple h2;let l1:=r.length;let l2:=F.length;let z:=SeqAt.RcAt.tuples (A:=A) (s:=s) (e:=λ_=>true) pl O af (iA r F N R);let e:((Pw (min its.toArray.size L.toArray.size)).all (λ_=>true)&&its.toArray.size==L.toArray.size)=true:=by
     rw[Qd];show#[OD.mpr λ_ _=>rfl,by rw[ti,ti];show beq_iff_eq.mpr af]
    rw[e]at z;show Uw S z
end
end L2
namespace PySem
open PyProof.Rows
namespace F
end F
section
variable{prog:tp}{w:By}{K:Type}[DecidableEq K]{knd:KeyKind prog w K}{A:L5}{E:WC}
end
end PySem
namespace L2
open PySem PySem.Spec PyProof.Rows
section
variable{X:Cx}{scope:Rw}{cl:List (Str×Addr)}{t:Str×Str}{caps:List (Str×Nat)}{pins:WB}{σ:St}{H:Hp}{s:oR}{C:Addr}{fp:List Addr}
variable{elt iter:Ob}{ifs:List Ob}{px pos:QJ}{es:List Ob}{kx:Nat}{g:TG}{wi:TI}{tt:TT}{te:TE}
end
theorem He:Om "zip" = some (.type "zip"):=ak
theorem sQ:Om "enumerate" = some (.type "enumerate"):=ak
theorem Ig:Om "min" = some (.builtin "min"):=ak
section
variable{X:Cx}{pins:WB}{σ:St}{H:Hp}{s:oR}{h':Heap}
theorem Inv.lQ{t':Nat}{ch:List Addr}(I: ~~~H s)(k:∀b o,b∉ch->s.heap.get? b=some o->h'.get? b=some o)(G:∀b∈ch,fg X pins H b): ~~~H { s with heap:=h',toks:=t' }:=by
 let J:∀b u,H b=some u->b∉ch:=λb u e z=>(by rwa[(G b z).1]at e);show I.step (g':=s.gens) (d':=s.drawn) (ch:=ch) (λb Y=>?_) (λb o _ _ F e _=>k b o F e) (λb o _ _ F e _=>#[o.slots,k b o F e]) (λ_ _ _ _ n=>n)
  (λb o F e=>#[o,k b o F e]) (λ_ _ e=>e) (λ_ _ _ e=>e) (λb ps e=>#[([].toArray),by rw[e];simp]) (λm S=>?_) (λb u e=>?_) I.bare
 .let#[_,O,f2,U,R,N]:=G b Y;show#[U,O,R,N]
 .let#[o,es,ep,L,r]:=S;show#[o,es,ep,k _ o (λz=>(G _ z).2.1 rfl) L,r]
 .show(I.bJ b u e).iP (λc v F q=>k c v ?_ q) (λ_ q=>q) λ_ _ q=>q;rcases F with z|z
  .rw[z];show J b u e
  .show J c _ z
theorem Inv.Ca{D:Addr}{ys:List V}{its:WH}(I: ~~~H s)(f:fg X pins H D)(e:IsTup s.heap D its.toArray)(r:Vals ys its)(J:ys.length<=sizeLine) :
  ~~~(upd H D (.tup ys)) s:=by
 let#[G,N,Y,U,O,L]:=f;let#[S,g,d,tk,os]:=s;show I.step (g':=g) (d':=d) (t':=tk) (h':=S) (ch:=[D]) (λb F=>?_) (λb o _ _ _ e _=>e) (λb o _ _ _ e _=>#[o.slots,e]) (λb o F _ n=>?_) (λb o _ e=>#[o,e]) (λb xs q=>?_) (λb o u q=>?_) (λb ps q=>#[([].toArray),?_]) (λm R=>R) (λb u q=>?_) I.bare
 .let z:b=D:=‹F›;subst z;show#[U,N,O,L]
 .rw[aj (λz=>F (by simp[z]))];show n
 .rw[aj (av q G)];show q
 .rw[aj (av q G)];show q
 .rw[aj (av q G),q];simp
 .by_cases F:b=D
  .subst F;rwa[ae]at q;show#[J,its,r,e]
  .rw[aj F]at q;show(I.bJ b u q).iP (λ_ _ _ z=>z) (λc z=>by rw[aj (av z G)];show z) λc xs z=>by rw[aj (av z G)];show z
end
def K5(K:DD)(l1 l2:Addr):It :=
 #[λi H=>∃xs ys x y,bq K H l1 xs/\bq K H l2 ys/\xs[i]?=some x/\ys[i]?=some y,
  λi H v H'=>∃T x y,v=.ref T/\H T=none/\H'=upd H T (.tup [x,y])/\(∀xs,bq K H l1 xs->xs[i]?=some x)/\∀ys,bq K H l2 ys->ys[i]?=some y,
  λi H=>∃xs ys,bq K H l1 xs/\bq K H l2 ys/\(xs.length<=i\/ys.length<=i)]
def N0(z TI TO F G l1 l2:Addr)(i:Nat)(h:Heap):Prop:=IsZip h z TI TO .none/\IsPair h TI (.ref F) (.ref G)/\(∃a b,IsPair h TO a b)/\h.IsListIter F l1 i/\h.IsListIter G l2 i
theorem Bg:2<=sizeLine:=by rw[vl];decide
theorem D8{P:tp}{w:By}{K:DD}{es:List Ob}{kx:Nat}{px:QJ}{z TI TO R L l1 l2:Addr}(D:ZipApart z TI TO R L l1 l2):Turn P w K (.Tuple es kx px) (K5 K l1 l2) [z,TI,TO,R,L] z (N0 z TI TO R L l1 l2) where
 mem:=by simp
 obj:=by
  rintro i h ⟨N,G,⟨a,b',J⟩,h1,h2⟩ b F;simp only[se,DO,or_false]at F;rcases F with rfl|rfl|rfl|rfl|rfl
  .show#[_,N,λv q=>by cases(show Data.fields _=Data.cell v from q)]
  .show#[_,G,λv q=>by cases(show Data.seq _ _=Data.cell v from q)]
  .show#[_,J,λv q=>by cases(show Data.seq _ _=Data.cell v from q)]
  .let#[o,e,c,d]:=h1;show#[o,e,λv q=>by rwa[d]at q]
  .let#[o,e,c,d]:=h2;show#[o,e,λv q=>by rwa[d]at q]
 keep:=λi h h' ⟨N,G,⟨a,b,J⟩,h1,h2⟩ k=>#[k z (by simp) _ N,k TI (by simp) _ G,#[a,b,k TO (by simp) _ J],h1.at λo e=>k R (by simp) o e,h2.at λo e=>k L (by simp) o e]
 item:=by
  intro X hP hw hK hc i pins s σ H E I S st hg;subst hP hw hK;let#[N,G,#[a,b,J],h1,h2]:=st;let#[xs,ys,x,y,q1,Y,e1,e2]:=hg;let#[a0,ac,p1,_]:=I.list q1;let#[ap,ad,p2,_]:=I.list Y;let#[u1,aB,aT]:=ac.get e1;let#[u2,as,a5]:=ad.get e2;let f4:∀b∈[z,TO,R,L],fg X pins H b:=λb F=>S b (by simp only[se,DO,or_false]at F ⊢;rcases F with h|h|h|h<;>simp[h]);show wpAny_pyNext_zip_item D N G J h1 h2 p1.isList p2.isList (x:=u1) (y:=u2) ‹aB› ‹as› λh' z' am a1 a2 pT sz kk=>?_;let I1: ~~~H { s with heap:=h' }:=I.lQ (t':=s.toks) (ch:=[z,TO,R,L]) (λb o F e=>kk b o (λq=>F (by simp[q])) (λq=>F (by simp[q])) (λq=>F (by simp[q])) (λq=>F (by simp[q])) e) f4;show#[0,wpAny_letOwnedTupleGo_zip z' λU z2 O=>?_];replace O:Heap.SameBut z h' U:=O;let I2: ~~~H { s with heap:=U }:=I1.lQ (s:={ s with heap:=h' }) (h':=U) (t':=s.toks) (ch:=[z]) (λb o F e=>(O.2 b (λq=>F (by simp[q]))).trans e) λb F=>S b (by simp only[qj]at F;simp[F]);let fT:fg X pins H s⁻¹:=I.kK (t7 _) (I.bJ.fresh (t7 _));let nz:s⁻¹≠z:=Tx (Heap.lt_size N);let a4:IsPair U s⁻¹ u1 u2:=O.extBut _ _ nz pT;let I3: ~~~(upd H s⁻¹ (.tup [x,y])) { s with heap:=U }:=I2.Ca (its:=[u1,u2]) fT #[_,a4,rfl,0] (.cons aT (.cons a5 .nil)) Bg;show#[.ref s⁻¹,_,I3,rfl,#[_,x,y,rfl,fT.1,rfl,λzs ab=>by rw[I.jm ab q1];show e1,λzs ab=>by rw[I.jm ab Y];show e2],#[z2,O.extBut _ _ D.TIz (kk _ _ D.TIz D.TITO D.TIi1 D.TIi2 G),#[2,O.extBut _ _ D.TOz am],a1.extBut O.extBut D.i1z,a2.extBut O.extBut D.i2z],λb F=>?_];let nb:b≠s⁻¹:=by
   intro q;simp only[se,DO,or_false]at F;let#[o1,g1,_]:=h1;let#[o2,g2,_]:=h2;rcases F with e|e|e|e|e<;>rw[e]at q
   .show nz q.symm
   .show Ou (Heap.lt_size G) q
   .show Ou (Heap.lt_size J) q
   .show Ou (Heap.lt_size g1) q
   .show Ou (Heap.lt_size g2) q
  rw[aj nb];show(S b F).1
 done:=by
  intro X hP hw hK hc i pins s σ H E I S st hg;subst hP hw hK;let#[N,G,#[a,b,J],h1,h2]:=st;let#[xs,ys,q1,Y,e]:=hg;let#[a0,ac,p1,_]:=I.list q1;let#[ap,ad,p2,_]:=I.list Y;let a6:=ac.length;let a3:=ad.length;let f4:∀b∈[z,TO,R,L],fg X pins H b:=λb F=>S b (by simp only[se,DO,or_false]at F ⊢;rcases F with h|h|h|h<;>simp[h]);show wpAny_pyNext_zip_end (I.ok.hd hc) D N G J h1 h2 p1.isList p2.isList (e.elim (λe=>.inl (by simp;show le_of_eq_of_le (id (Ru a6)) e)) λe=>.inr (by simp;show le_of_eq_of_le (id (Ru a3)) e)) λh' kk=>#[rfl,I.lQ (t':=s.toks) (ch:=[z,TO,R,L]) (λb o F e=>kk b o (λq=>F (by simp[q])) (λq=>F (by simp[q])) (λq=>F (by simp[q])) (λq=>F (by simp[q])) e) f4]
 self:=λ_ _ _ _ _ st h=>U0 st.1 h
section
variable{X:Cx}
def Ma(K:DD)(ta:TA):TI:=λσ H R=>ta σ H λvs H1=>Jd λl1 l2=>Mf (vs=[.ref l1,.ref l2]) ((∃xs,bq K H1 l1 xs)) ((∃ys,bq K H1 l2 ys)) (R (K5 K l1 l2) H1)
theorem Hm{es:List Ob}{kx:Nat}{px:QJ}{a b:Ob}{ta:TA}{p pos:QJ}(N:Gl X "zip")(hm:X.mg "zip" = none)(U:PA X [a,b] ta)(hs:starEach [a,b] X.env=[(false,eval a X.env),(false,eval b X.env)]:=by rfl)(J:starEach [b] X.env=[(false,eval b X.env)]:=by rfl) :
  PI X (.Tuple es kx px) (.Call (.Name "zip" p) [a,b] [] pos) (Ma X.K ta):=by
 intros R I h;show Wl (iI I N hm He (OH (bR (U pos pins s σ H _ I h) λus s1 ⟨vs,H1,z,r1,O⟩=>?_) (by rw[hs,J]) (by rw[J];rfl)));let#[l1,l2,rfl,#[xs,Y],#[ys,g2],q]:=O;let#[u1,u2,rfl,S,e2]:=vals2 r1;obtain rfl:u1=Value.ref l1:=S;obtain rfl:u2=Value.ref l2:=e2;let#[aB,aT,L,_]:=z.list Y;let#[a0,a1,p2,_]:=z.list g2;let ac:l1<s1⁻¹:=let ⟨_,e,_⟩:=L.isList;Heap.lt_size e;let ap:l2<s1⁻¹:=let ⟨_,e,_⟩:=p2.isList;Heap.lt_size e;show call_zip_2 L.isList p2.isList λh' F am ab ad as hsz hk=>?_;show U0 F ?_;show#[s1⁻¹+4,[s1⁻¹+4,s1⁻¹+2,s1⁻¹+3,s1⁻¹,s1⁻¹+1],2,H1,rfl,z.kept (t':=s1.toks) hk,D8 (zipApart_new ac ap),#[F,am,#[2,ab],ad,as],λb G=>?_,q];let le:s1⁻¹<=b:=by
  simp only[se,DO,or_false]at G;rcases G with e|e|e|e|e<;>rw[e]<;>first|show t7 _|show U1 _ _
 show z.kK le (z.bJ.fresh le)
def JN(K:DD)(l:Addr):It :=
 #[λi H=>∃xs x,bq K H l xs/\xs[i]?=some x,
  λi H v H'=>∃T x,v=.ref T/\H T=none/\H'=upd H T (.tup [.int i,x])/\∀xs,bq K H l xs->xs[i]?=some x,
  λi H=>∃xs,bq K H l xs/\xs.length<=i]
def NA(e it l:Addr)(i:Nat)(h:Heap):Prop:=(∃z,IsEnum h e it i z)/\h.IsListIter it l i
theorem AS{P:tp}{w:By}{K:DD}{es:List Ob}{kx:Nat}{px:QJ}{e it l:Addr}(D:e≠it):Turn P w K (.Tuple es kx px) (JN K l) [e,it] e (NA e it l) where
 mem:=by simp
 obj:=by
  rintro i h ⟨⟨O,G⟩,h1⟩ b F;simp only[se,DO,or_false]at F;rcases F with rfl|rfl
  .show#[_,G,λv q=>by cases(show Data.fields _=Data.cell v from q)]
  .let#[o,e,c,d]:=h1;show#[o,e,λv q=>by rwa[d]at q]
 keep:=λi h h' ⟨⟨O,G⟩,h1⟩ k=>#[#[O,k e (by simp) _ G],h1.at λo q=>k it (by simp) o q]
 item:=by
  intro X hP hw Y hc i pins s σ H E I J st hg;subst hP hw Y;let#[#[O,G],h1]:=st;let#[xs,x,R,N]:=hg;let#[am,U,p1,_]:=I.list R;let#[u1,ac,ad]:=U.get N;show wpAny_pyNext_enum_item G h1 p1.isList (x:=u1) ‹ac› D λh' eo a1 pT sz kk=>?_;let I1: ~~~H { s with heap:=h',toks:=s.toks+1 }:=I.lQ (t':=s.toks+1) (ch:=[e,it]) (λb o F q=>kk b o (λz=>F (by simp[z])) (λz=>F (by simp[z])) q) J;show#[0,wpAny_letOwnedTupleGo_enum eo λS e2 L=>?_];replace L:Heap.SameBut e h' S:=L;let I2: ~~~H { s with heap:=S,toks:=s.toks+1 }:=I1.lQ (s:={ s with heap:=h',toks:=s.toks+1 }) (h':=S) (t':=s.toks+1) (ch:=[e]) (λb o F q=>(L.2 b (λz=>F (by simp[z]))).trans q) λb F=>J b (by simp only[qj]at F;simp[F]);let fT:fg X pins H s⁻¹:=I.kK (t7 _) (I.bJ.fresh (t7 _));let ne:s⁻¹≠e:=Tx (Heap.lt_size G);let ap:=L.extBut _ _ ne pT;let I3: ~~~(upd H s⁻¹ (.tup [.int i,x])) { s with heap:=S,toks:=s.toks+1 }:=I2.Ca (its:=[.int i s.toks,u1]) fT #[_,ap,rfl,0] (.cons #[0] (.cons ad .nil)) Bg;show#[.ref s⁻¹,_,I3,rfl,#[_,x,rfl,fT.1,rfl,λzs ab=>by rw[I.jm ab R];show N],#[#[u1,?_],a1.extBut L.extBut (G0 D)],λb F=>?_]
  .let ec:((i+1:Nat):Int)=(i:Int)+1:=(by push_cast;rfl);rw[ec];show e2
  .let nb:b≠s⁻¹:=by
    intro q;simp only[se,DO,or_false]at F;let#[o1,g1,_]:=h1;rcases F with z|z<;>rw[z]at q
    .show ne q.symm
    .show Ou (Heap.lt_size g1) q
   rw[aj nb];show(J b F).1
 done:=by
  intro X hP hw Y hc i pins s σ H E I J st hg;subst hP hw Y;let#[#[O,G],h1]:=st;let#[xs,R,N]:=hg;let#[am,U,p1,_]:=I.list R;let as:=U.length;let#[f0,f1,f2,f3,f4,f5]:=J it (by simp);show wpAny_pyNext_enum_end (I.ok.hd hc) G h1 p1.isList (by simp;show le_of_eq_of_le (id (Ru as)) N) λh' eb=>#[rfl,I.turned (t':=s.toks) (λb o F q=>eb b o F q) f0 f1 f3 f4 f5]
 self:=λ_ _ _ _ _ st h=>let ⟨⟨_,G⟩,_⟩:=st;UP G h
def Jm(K:DD)(ta:TA):TI:=λσ H R=>ta σ H λvs H1=>∃l,vs=[.ref l]/\(∃xs,bq K H1 l xs)/\R (JN K l) H1
theorem Fy{es:List Ob}{kx:Nat}{px:QJ}{a:Ob}{ta:TA}{p pos:QJ}(J:Gl X "enumerate")(hm:X.mg "enumerate" = none)(O:PA X [a] ta)(hs:starEach [a] X.env=[(false,eval a X.env)]:=by rfl) :
  PI X (.Tuple es kx px) (.Call (.Name "enumerate" p) [a] [] pos) (Jm X.K ta):=by
 intros R I h;show Wl (iI I J hm sQ (OH (bR (O pos pins s σ H _ I h) λus s1 U=>?_) hs rfl));let#[vs,H1,z,Y,L]:=U;let#[l,rfl,#[xs,S],q]:=L;let#[u1,rfl,N]:=vals1 Y;obtain rfl:u1=Value.ref l:=N;let#[ab,ac,p1,_]:=z.list S;show call_enumerate_list p1.isList λh' F hi hsz hk=>?_;show UP F ?_;show#[s1⁻¹+1,[s1⁻¹+1,s1⁻¹],2,H1,rfl,z.kept (t':=s1.toks) hk,AS (l:=l) (Nat.succ_ne_self _),#[#[_,F],hi],λb G=>?_,q];let le:s1⁻¹<=b:=by
  simp only[se,DO,or_false]at G;rcases G with e|e<;>rw[e]<;>first|show t7 _|show U1 _ _
 show z.kK le (z.bJ.fresh le)
end
theorem Br{K:DD}{a:Addr}{xs:List V}{g:TG}{tb:TS}{D:Ends}{σ:St}{H:Hp}(Pv:Nat->St->Hp->Prop)(U:Pv 0 σ H)(R:∀i σ H,i<=xs.length->Pv i σ H->bq K H a xs)
  (hs:∀i x σ H T,xs[i]?=some x->H T=none->Pv i σ H->g (.ref T) σ (upd H T (.tup [.int i,x])) λF H2=>tb { D with nx:=Pv (i+1),ct:=Pv (i+1),bk:=D.nx } F H2) (hd:∀σ H,Pv xs.length σ H->D.nx σ H) :
  ∃W:Nat->Nat->St->Hp->Prop,(∃m,W 0 m σ H)/\∀i m σ H,W i m σ H ->
   ((JN K a).stop i H/\D.nx σ H)\/((JN K a).go i H/\∃N:St->Hp->Prop,(∀G H',N G H'->∃J,J<m/\W (i+1) J G H')/\∀x H',(JN K a).El i H x H'->g x σ H' λF H2=>tb { D with nx:=N,ct:=N,bk:=D.nx } F H2):=by
 show#[λi m σ H=>m=xs.length-i/\i<=xs.length/\Pv i σ H,#[xs.length,by simp,Oc _,U],?_];rintro i m σ H ⟨rfl,hi,p⟩;let z:=R i σ H hi p;cases I:i<xs.length
 .show .inr #[#[xs,xs[i],z,by simp[I]],Pv (i+1),λG H' S=>#[xs.length-(i+1),PK (QX xs) i I,rfl,I,S],?_];rintro v H' ⟨T,x,rfl,O,rfl,L⟩;show hs i x σ H T (L xs z) O p
 .let e:i=xs.length:=af;subst e;show .inl #[#[xs,z,t7 _],hd σ H p]
section
variable{X:Cx}
theorem fX(hc:X.calm=true):eQ X (.builtin "sorted") (λxs H Q=>∃(a:Addr)(kvs:List (Key×V))(ns:List Int),xs=[.ref a]/\H a=some (.dK kvs)/\kvs.map (·.1)=ns.map NC/\ns.Nodup/\ns.length<=1000 /\
  ∀(l:Addr)(z:List Int),H l=none->z.Perm ns->z.Pairwise (· <= ·)->Q (.ref l) (upd H l (.lst (z.map V.int)))):=by
 intros xs us Q I r h;let#[a,kvs,ns,rfl,U,hk,ac,hn,q]:=h;let#[u,rfl,ru]:=vals1 r;cases ru;let#[_,hd,vs,ab,dd]:=qq I.bJ U;let#[ep,Y]:=dd.dictAt;let N:vs.map (·.1)=ns.map NC:=(by rw[<-ab.keys];show hk);let R:ns.length=vs.length:=by
  have:=congrArg QX N;simpa using this.symm
 let hs:=vl;show Srt.xm (kdl_dict (knd:=bT X.prog X.w) (kvs:=vs) (ep:=ep) (d:=a) hd) (I.ok.hd hc) Y (ns:=ns) (λi w' O=>?_) R ac af λh1 h' tk out z e k1 k2 he a1 J a3=>?_
 .let#[k,x,S,e2]:=O;let F:(vs.map (·.1))[i]?=some k:=(by rw[vu,S];rfl);rw[N,vu]at F;cases G:ns[i]? with
  |none=>rwa[G]at F
  |some m =>
   rw[G]at F;obtain rfl:NC m=k:=sN F;let#[t,rfl]:=yp e2;show#[m,t,1]
 .let L: ~~~H { s with heap:=h1,toks:=tk }:=I.kept k1;show#[.ref h1.objs.size,_,L.laid (t':=tk) k2 (t7 _) (show bU X.prog X.w _ _ _ (.lst (z.map V.int))from#[by rw[qi,J.length_eq];omega,out.toList,e,jA a1,by simpa using he]),rfl,q _ z (L.bJ.fresh (t7 _)) J a3]
inductive zm(H₀:Hp)(t:TE)(Q:VK)(v:V)(H':Hp):Prop
 |mk(a:_)(o:_)(kvs:_)(_:H' a=some (.frz o (.dK kvs)))(_:(∀o u',H₀ a≠some (.frz o u')))(_:Q v (upd H' a (.dK kvs)))
def CU(H₀:Hp)(t:TE):TE:=λσ H Q=>t σ H λv H'=>zm H₀ t Q v H'
theorem sE{e:Ob}{t:TE}(h:PE X e t):PE X e (CU X.H₀ t):=by
 intros Q I q;show bR (h pins s σ H _ I q) λu s1 J=>?_;let#[v,H',G,r,a,o,kvs,F,L,z]:=J;show#[v,_,G.Hf F L,r,z]
variable{tg:Ob}
theorem XP.passes{pins:WB}{R:XR}(U:X.stack=X.env::X.outer)(G:X.env.frame=some X.env.locals):UR (model X.prog X.w) X.A X.env (XP X pins R):=by
 intro x s1 hx;let#[e,cls,a0,B,ac,H1,rfl,F,c2,O,new,q]:=hx;let iP:B.StaysIn s1.heap:=by
  rcases F with z|z|⟨_,_,z⟩
  .show z.1
  .show z.1
  .show z.1
 let I1:=O.now iP;let ab:=I1.ok.frames;rw[U]at F ab;show oN ab G F c2 λY L ad c4=>?_;let#[g1,g2,g3,oe,vs,T,oT,ts,k1,#[k2,k3],J,k5,k6,k7,S,N,I]:=id L;change wpAny _ _ _ _ _ _;rw[G];show qs (Qg k1 J k5 ?_);rw[Wx (by simp)];unfold setFlight;show qs (Qg k1 J k5 ?_);rw[Wy (by simp)];show wpAny_setField S N (Qy.mp I).1 ?_;let eu:=Heap.update_setField_same Y T oT ts 3 (US X.env.locals) S N I;change XP X pins R (.ref e) { s1 with heap:=Y.update T (Obj.mapFields λx=>x.setIfInBounds 3 (US X.env.locals)) };rw[eu];show#[e,cls,a0,B,ac,H1,rfl,.inr (.inr #[X.env.locals,G,by rw[U];show L]),c4,λh' tk k u=>O h' tk k (ad.trans u),new,q]
theorem XP.ff{pins pl:WB}{R:XR}{x:Value}{s':oR}(h:XP X (pins++pl) R x s'):XP X pins R x s':=by
 let#[e,cls,J,B,G,H1,rfl,L,F,I,new,q]:=h;show#[e,cls,J,B,G,H1,rfl,L,F,λh' tk k u=>(I h' tk k u).ff,#[new.old,new.loc,new.fs,new.cell,λp z=>new.pin p ?_,new.free],q];rcases t4.mp z with m|m
 .show OB _ m
 .show wh _ (OB _ m)
def Kh(wi:TI)(g:TG)(tb:pK):pK:=λD R σ H=>JJ wi g (λF z H'=>tb F R z H') D σ H
theorem zk{iter:Ob}{body:List N8}{wi:TI}{g:TG}{tb:pK}{pos:QJ}(aT:X.stack=X.env::X.outer)(hf:X.env.frame=some X.env.locals)(hc:X.calm=true)(hi:PI X.mZ tg iter wi)(hg:PG X.mZ tg g)(F:p5 X body tb)
  (hs:∀x,Qs iter X.env x=pure x:=by intro _;rfl):CV X (.For tg iter body [] pos) (Kh wi g tb):=by
 intros D R I h;let Y:UR (model X.prog X.w) X.A X.env (XP X pins R):=XP.passes aT hf;show V5 (nx (hi pins s σ H _ (I.gJ _) h) λv s1 h1=>nx h1 λa6 s2 h2=>?_) hs;let#[it,fp,tn,J,H2,e,a4,T,a0,a2,W,#[m0,w0],as]:=h2;let I2:=a4.cm;let f2:∀b∈fp,fg X pins H2 b:=λb F=>a2 b F;subst e;let ad:∀{H':Hp},(∀b∈fp,H' b=none)->∀b∈fp,fg X pins H' b:=λhn b F=>#[hn b F,(f2 b F).2];show Ue (λn s'=>∃i U H',Inv X pins U H' s'/\tn i s'.heap/\(∀b∈fp,H' b=none)/\W i n U H') ?_ m0 #[(0),σ,H2,I2,a0,λb F=>(f2 b F).1,w0];rintro n s3 ⟨i,ab,H3,I3,ap,am,w3⟩;rcases as i n ab H3 w3 with⟨a3,qn⟩|⟨go,N,hN,step⟩
 .show OP Y (bR (T.done X rfl rfl rfl hc i pins s3 ab H3 _ I3 (ad am) ap a3) λr s4 ⟨hr,I4⟩=>?_);subst hr;show Py #[ab,H3,I4,qn]
 .show OP Y (bR (T.item X rfl rfl rfl hc i pins s3 ab H3 _ I3 (ad am) ap go) λr s4 ⟨u,hr,h4⟩=>?_);subst hr;show OP Y (bR h4 λ_ s5 ⟨x,H5,I5,r5,y5,ac,aB⟩=>?_);let a1:=I5.pinned (ad aB) (T.obj _ _ ac);show OP Y (nx (hg _ s5 ab H5 x u _ (a1.gJ _) r5 (step x H5 y5)) λ_ s6 ⟨a5,H6,I6,q6⟩=>?_);show OP Y (Oj (F _ s6 a5 H6 _ R I6.cm q6) (λf s7 S=>?_) λ_ _ z=>z.ff);let again:∀{G:St}{O:Hp},Inv X (pins++kD fp s5.heap) G O s7->N G O->∃m,m<n/\∃i U H',Inv X pins U H' s7/\tn i s7.heap/\(∀b∈fp,H' b=none)/\W i m U H':=λ{G O} L n7=>by
   let#[m',hm,w7]:=hN G O n7;show#[m',hm,i+1,G,O,L.ff,T.keep _ _ _ ac λb F o e=>(L.pin (b,o) (wh _ (wh _ (dQ F e)))).1,λb F=>?_,w7];let#[o,e,d]:=T.obj _ _ ac b F;show(L.pin (b,o) (wh _ (wh _ (dQ F e)))).2.1
  cases f with
  |next=>let#[G,O,L,n7]:=S;show again L n7
  |cont=>let#[G,O,L,n7]:=S;show again L n7
  |brk=>let#[G,O,L,S]:=S;show#[G,O,L.ff,S]
  |ret v=>let#[x7,G,O,L,r7,S]:=S;show#[x7,G,O,L.ff,r7,S]
variable{C:Addr}{x:Str}{np hpos pos:QJ}{body suite:List N8}{b₀:N8}{tb:pK}{ts:TS}
end
end L2
namespace Srt
open PySem PyProof.Rows
section
variable{prog:tp}{w:By}{A:L5}{E:WC}{s:oR}{a₀:Array C1}
variable{T:String}{r d:Addr}{n:Nat}{P:Nat->Value->Prop}{OK:Heap->Prop}
end
end Srt
variable{P:tp}{w:By}{K:DD}{mg:WD}{base:Heap}{f:Addr}{fd:qw}
namespace L2
open PySem PySem.Spec PyProof.Rows
section
variable{X:Cx}
end
theorem rh{K:DD}{a:Addr}{xs:List V}{g:TG}{tb:pK}{R:XR}{D:Ends}{σ:St}{H:Hp}(Pv:Nat->St->Hp->Prop)(J:Pv 0 σ H)(I:∀i σ H,i<=xs.length->Pv i σ H->bq K H a xs)
  (hs:∀i x σ H,xs[i]?=some x->Pv i σ H->g x σ H λz H2=>tb { D with nx:=Pv (i+1),ct:=Pv (i+1),bk:=D.nx } R z H2) (hd:∀σ H,Pv xs.length σ H->D.nx σ H) :
  ∃W:Nat->Nat->St->Hp->Prop,(∃m,W 0 m σ H)/\∀i m σ H,W i m σ H ->
   ((Er K a).stop i H/\D.nx σ H)\/((Er K a).go i H/\∃N:St->Hp->Prop,(∀G H',N G H'->∃F,F<m/\W (i+1) F G H')/\∀x H',(Er K a).El i H x H'->g x σ H' λz H2=>tb { D with nx:=N,ct:=N,bk:=D.nx } R z H2):=
 cq (tb:=λD σ H=>tb D R σ H) Pv J I hs hd
end L2
namespace Sp
open PySem PySem.StrLaws PySem.Builtin PySem.Builtin.Str
end Sp
namespace L2
open PySem PySem.Spec PyProof.Rows PySem.Builtin PySem.Builtin.Str
section
variable{X:Cx}
theorem qd(J:X.calm=true):eQ X (.builtin "sum") (λxs H Q=>∃(p:Addr)(ns:List Int),xs=[.ref p]/\bq X.K H p (ns.map V.int)/\Q (.int ns.sum) H):=by
 intros xs us Q I r h;let#[p,ns,rfl,L,q]:=h;let#[u,rfl,O]:=vals1 r;cases O;let#[its,G,pl,S]:=I.list L;let z:=intsAre_of G;let R:=z.numsOf;let#[ys,e]:=z.allInts.items;let F:=pl.isList;rw[e]at F;show sum_intListG (I.ok.hd J) F λh' tk t' N=>?_;let hs:preSum (numAt ys) ys.size=ns.sum:=by
  rw[preSum_eq,ON (by simp), <-nums_intItems, <-e];rw[show its.toArray.toList=its from rfl,R]
 show#[.int ns.sum,H,I.kept N,#[_,by rw[hs]],q]
theorem AW:eQ X (.type "range") (λxs H Q=>∃i j:Int,xs=[.int i,.int j]/\∀p,H p=none->Q (.ref p) (upd H p (.rng i j))):=by
 intros xs us Q I r h;let#[i,j,rfl,q]:=h;let#[u,z,rfl,#[t,rfl],#[t',rfl]]:=vals2 r;show call_range_2 #[.ref s⁻¹,_,I.laid (λb o e=>Heap.get?_push_of_some _ e) (t7 _) ?_,rfl,q _ (I.bJ.fresh (t7 _))];show#[2,_,Heap.get?_push_size s.heap rfl]
def zx(K:DD):List V->Hp->VK->Prop:=λxs H Q=>∃p ys,xs=[.ref p]/\(bq K H p ys\/bL K H p ys)/\Q (.int (ys.length:Nat)) H
theorem Ad:eQ X (.builtin "len") (zx X.K):=bB
variable{t u r:TS}{D:Ends}{σ:St}{H:Hp}
abbrev Le(u z:TS):Prop:=∀D σ H,u D σ H->z D σ H
theorem Le.rfl:Le u u:=λ_ _ _ h=>h
theorem Lp(k:∀z,Le u z->cn t z D σ H):cn t u D σ H:=k u Le.rfl
theorem JT{c:TT}(k:∀t' z F,Le t t'->Le u z->Le r F->cn (xF c t' z) F D σ H):cn (xF c t u) r D σ H:=k t u r Le.rfl Le.rfl Le.rfl
theorem gN{te:TE}{i:Nat}(k:∀Q:V->Hp->Prop,(∀x H1,u D (σ.set i (some x)) H1->Q x H1)->te σ H Q):cn (EF te (rS i)) u D σ H:=k _ λ_ _ h=>h
theorem GJ{te:TE}(k:∀Q:V->Hp->Prop,(∀x H1,u D σ H1->Q x H1)->te σ H Q):cn (CJ te) u D σ H:=k _ λ_ _ h=>h
theorem Kn{te:TE}(k:∀Q:V->Hp->Prop,(∀x H1,D.nx σ H1->Q x H1)->te σ H Q):CJ te D σ H:=k _ λ_ _ h=>h
theorem MD{te:TE}(k:∀Q:V->Hp->Prop,(∀x H1,D.rt x H1->Q x H1)->te σ H Q):GN te D σ H:=k _ λ_ _ h=>h
theorem bQ{A B:Hp->Prop}{Q:Bool->Hp->Prop}(e:Q=λb H1=>if b=true then A H1 else B H1):(∀H1,A H1->Q true H1)/\∀H1,B H1->Q false H1:=by
 subst e;show#[λ_ h=>eg h,λ_ h=>b9 h]
theorem gO{c:TT}(k:∀Q:Bool->Hp->Prop,(∀H1,t { D with nx:=r D } σ H1->Q true H1)->(∀H1,r D σ H1->Q false H1)->c σ H Q):cn (xF c t rN) r D σ H:=k _ (bQ rfl).1 (bQ (A:=λH1=>t { D with nx:=r D } σ H1) rfl).2
theorem qT{c:TT}(k:∀Q:Bool->Hp->Prop,(∀H1,t D σ H1->Q true H1)->(∀H1,D.nx σ H1->Q false H1)->c σ H Q):xF c t rN D σ H:=k _ (bQ rfl).1 (bQ (A:=λH1=>t D σ H1) rfl).2
theorem jj{Q:Bool->Hp->Prop}{b:Bool}{H:Hp}(t:b=true->Q true H)(f:¬ b=true->Q false H):Q b H:=by
 cases b
 .show f (by intro z;cases z)
 .show t rfl
theorem yY{t r:pK}{R:XR}{c:TT}(k:∀Q:Bool->Hp->Prop,(∀H1,t { D with nx:=r D R } R σ H1->Q true H1)->(∀H1,r D R σ H1->Q false H1)->c σ H Q):zE (Fp c t tL) r D R σ H:=k _ (bQ rfl).1 (bQ (A:=λH1=>t { D with nx:=r D R } R σ H1) rfl).2
theorem J1{N G F z:TS}(k:∀I,Le z I->∀L,Le (cn F I) L->∀J,Le (cn G L) J->cn N J D σ H):cn N (cn G (cn F z)) D σ H:=k z Le.rfl (cn F z) Le.rfl (cn G (cn F z)) Le.rfl
def Ev(te:TE)(σ:St)(H:Hp)(v:V):Prop:=∀Q:V->Hp->Prop,Q v H->te σ H Q
theorem Hw{i:Nat}{v:V}(h:σ[i]?=some (some v)):Ev (vY i) σ H v:=λ_ q=>#[_,h,q]
theorem Hj{v:V}:Ev (tC v) σ H v:=λ_ q=>q
theorem Mi{ta tb:TE}{x y:V}{Q:Bool->Hp->Prop}(a:Ev ta σ H x)(b:Ev tb σ H y)(s:HK x y=true)(n:¬ x=y)(q:Q false H):pY (Aj Jc ta tb) σ H Q:=a _ (b _ #[s,0,by rw[decide_eq_false n];show q])
theorem share(Pr:St->Hp->Prop)(mk:∀z,(∀σ H,Pr σ H->z D σ H)->cn t z D σ H)(h:∀σ H,Pr σ H->u D σ H):cn t u D σ H:=mk u h
theorem oK(N:X.calm=true):eQ X (.type "list") (λxs H Q=>∃(p:Addr)(i:Int)(n:Nat),xs=[.ref p]/\H p=some (.rng i (i+n))/\n<=1000 /\ -1000<=i/\i<=1000/\∀l,H l=none->Q (.ref l) (upd H l (.lst ((Pw n).map λk:Nat=>V.int (i+k))))):=by
 intros xs us Q I r h;let#[p,i,n,rfl,O,hn,i0,i1,q]:=h;let#[u,rfl,G]:=vals1 r;cases G;let hs:=vl;let#[t,u,v,e]:=(show bU X.prog X.w H s.heap p (.rng i (i+n))from I.bJ p _ O);show call_list_range (n:=n) (I.ok.hd N) e (V4 af af af af) (by rw[Ui];split<;>omega) af λh' tk z J R L it=>?_;let F:Vals ((Pw n).map λk:Nat=>V.int (i+k)) z.toList:=by
  let#[h1,h2]:=it;show tD ?_ λj x v hx Y=>?_
  .rw[qi,PF];simpa using h1.symm
  .rw[vu]at hx;let#[k,S,rfl]:=t5.mp hx;let U:k=j:=by
    have:=qc.mp S;let#[_,e]:=this;simpa using e.symm
   let#[t,e]:=h2 j v ‹Y›;show#[t,by rw[e,U];congr 1;omega]
 show#[.ref s⁻¹,_,I.laid R (t7 _) (show bU X.prog X.w _ h' _ (.lst ((Pw n).map λk:Nat=>V.int (i+k)))from#[by rw[qi,PF];omega,z.toList,J,F,by simpa using L]),rfl,q _ (I.bJ.fresh (t7 _))]
end
theorem kL{a:Addr}{o:Obj}{kvs:List (Key×V)}{caps:List (Str×Nat)}{te:TE}{σ:St}{H:Hp}{I:List V->Hp->Prop}(Pv:Nat->List V->Hp->Prop)(R:Pv 0 [] H)
  (N:∀i zs H,i<=kvs.length->Pv i zs H->H a=some (.frz o (.dK kvs)))
  (hs:∀i k v zs H,kvs[i]?=some (k,v)->Pv i zs H->te (fC caps σ (some (kV k))) H (λz L=>zs.length<sizeLine/\Pv (i+1) (zs++[z]) L))
  (hd:∀zs H,Pv kvs.length zs H->I zs H):∃W:Nat->Nat->List V->Hp->Prop,(∃m,W 0 m [] H)/\iL caps vd te σ (HY a o kvs) I W:=by
 show#[λi m zs H=>m=kvs.length-i/\i<=kvs.length/\Pv i zs H,#[kvs.length,by simp,Oc _,R],?_];rintro i m zs H ⟨rfl,hi,p⟩;let G:=N i zs H hi p;cases F:i<kvs.length
 .show .inr #[#[G,F],Pv (i+1),λS H' O=>#[kvs.length-(i+1),PK (QX kvs) i F,rfl,F,O],?_];rintro x H' ⟨rfl,k,v,J,rfl⟩;unfold vd;dsimp only;rw[Wy rfl];show hs i k v zs _ J p
 .let e:i=kvs.length:=af;subst e;show .inl #[#[G,t7 _],hd zs H p]
theorem tT{caps:List (Str×Nat)}{te:TE}{σ:St}{H:Hp}{lo st:Int}{n:Nat}{F:List V->Hp->Prop}(Pv:Nat->List V->Hp->Prop)(J:Pv 0 [] H)
  (hs:∀i ys H,i<n->Pv i ys H->te (fC caps σ (some (.int (lo+i*st)))) H (λy G=>ys.length<sizeLine/\Pv (i+1) (ys++[y]) G))
  (hd:∀ys H,Pv n ys H->F ys H):∃W:Nat->Nat->List V->Hp->Prop,(∃m,W 0 m [] H)/\iL caps vd te σ (Gk lo st n) F W:=by
 show#[λi m ys H=>m=n-i/\i<=n/\Pv i ys H,#[n,by simp,Oc _,J],?_];rintro i m ys H ⟨rfl,hi,p⟩;cases z:i<n
 .show .inr #[z,Pv (i+1),λL H' I=>#[n-(i+1),PK n i z,rfl,z,I],λx H' y=>?_];let#[e,y]:=y;subst e y;unfold vd;dsimp only;rw[Wy rfl];show hs i ys _ z p
 .let e:i=n:=af;subst e;show .inl #[t7 _,hd ys H p]
theorem Fo{K:DD}{a b:Addr}{xs ys:List V}{g:TG}{tb:TS}{D:Ends}{σ:St}{H:Hp}(Pv:Nat->St->Hp->Prop)(h0:Pv 0 σ H)(he:xs.length=ys.length)
  (Y:∀i σ H,i<=xs.length->Pv i σ H->bq K H a xs/\bq K H b ys)
  (hs:∀i x y σ H T,xs[i]?=some x->ys[i]?=some y->H T=none->Pv i σ H->g (.ref T) σ (upd H T (.tup [x,y])) λG H2=>tb { D with nx:=Pv (i+1),ct:=Pv (i+1),bk:=D.nx } G H2)
  (hd:∀σ H,Pv xs.length σ H->D.nx σ H) :
  ∃W:Nat->Nat->St->Hp->Prop,(∃m,W 0 m σ H)/\∀i m σ H,W i m σ H ->
   ((K5 K a b).stop i H/\D.nx σ H)\/((K5 K a b).go i H/\∃N:St->Hp->Prop,(∀I H',N I H'->∃L,L<m/\W (i+1) L I H')/\∀x H',(K5 K a b).El i H x H'->g x σ H' λG H2=>tb { D with nx:=N,ct:=N,bk:=D.nx } G H2):=by
 show#[λi m σ H=>m=xs.length-i/\i<=xs.length/\Pv i σ H,#[xs.length,by simp,Oc _,h0],?_];rintro i m σ H ⟨rfl,hi,p⟩;let#[F,J]:=Y i σ H hi p;cases z:i<xs.length
 .let O:i<ys.length:=PU z he;show .inr #[#[xs,ys,xs[i],ys[i],F,J,by simp[z],by simp[O]],Pv (i+1),λI H' p'=>#[xs.length-(i+1),PK (QX xs) i z,rfl,z,p'],?_];rintro v H' ⟨T,x,y,rfl,S,rfl,R,U⟩;show hs i x y σ H T (R _ F) (U _ J) S p
 .let e:i=xs.length:=af;subst e;show .inl #[#[xs,ys,F,J,.inl (t7 _)],hd σ H p]
inductive Md(P:tp)(w:By)(K:DD)(mg:WD)(base:Heap)(cx:qP)(k:Nat)(C:Addr)(m:Str)(sp:Sp):Prop
 |mk(f:Addr)(fd:qw)(ps:List Str)(_:aN P w K mg base cx k f fd ps sp)(_:Binds K fd ps [])(_:Meth K C m f)
inductive Df(P:tp)(w:By)(K:DD)(mg:WD)(base:Heap)(cx:qP)(k:Nat)(x:Str)(sp:Sp):Prop
 |mk(f:Addr)(fd:qw)(ps:List Str)(_:aN P w K mg base cx k f fd ps sp)(_:Binds K fd ps [])(_:mg x=some (.ref f))(_:RZ K (.ref f)=true)
section
variable{X:Cx}{CX:qP}{k j:Nat}{C:Addr}{sp:Sp}{E:XK}{x m:Str}{p pos apos:QJ}{e o:Ob}{es:List Ob}{ta:TE}{t:TA}
theorem pm{pl:Sem Bool}(O:PE X o ta)(c:qI X.K C)(F:Md X.prog X.w X.K X.mg X.base CX k C m sp)(G:cW j X.A)(hx:Passes CX X E)(N:PA X (e::es) t)(L:k<=j:=by decide)
  (J:starEach (e::es) X.env=(false,eval e X.env)::starEach es X.env:=by rfl) (I:(backTo pos (starEach es X.env)).any (·.1)=false:=by rfl)
  (z:eval (.Call (.Attribute o m apos) (e::es) [] pos) X.env=(do
   let ov <-eval o X.env
   SV apos.atName
   let (f,first) <-Q2 [ov] (Ri ov m pl)
   TB pos f first (backTo pos (starEach (e::es) X.env)) (Ry pos (Qe [] X.env))):=by rfl) :
  PE X (.Call (.Attribute o m apos) (e::es) [] pos) (zh C m sp [] E ta t):=by
 let#[f,fd,_,g,b,q]:=F;show E1 O c q g (G.mono L) b .nil hx N J I z
theorem lU{pl:Sem Bool}(J:PE X o ta)(c:qI X.K C)(F:Md X.prog X.w X.K X.mg X.base CX k C m sp)(G:cW j X.A)(hx:Passes CX X E)(I:k<=j:=by decide)
  (z:eval (.Call (.Attribute o m apos) [] [] pos) X.env=(do
   let ov <-eval o X.env
   SV apos.atName
   let (f,first) <-Q2 [ov] (Ri ov m pl)
   TB pos f first (backTo pos (starEach [] X.env)) (Ry pos (Qe [] X.env))):=by rfl) :
  PE X (.Call (.Attribute o m apos) [] [] pos) (zh C m sp [] E ta Eu):=by
 let#[f,fd,_,g,b,q]:=F;show Dp J c q g (G.mono I) b .nil hx z
theorem pc(F:Df X.prog X.w X.K X.mg X.base CX k x sp)(G:cW j X.A)(hx:Passes CX X E)(N:PA X (e::es) t)(J:Gl X x:=by rfl)(L:k<=j:=by decide)
  (z:(x==("__debug__" : Str))=false:=by decide) (O:starEach (e::es) X.env=(false,eval e X.env)::starEach es X.env:=by rfl) (I:(backTo pos (starEach es X.env)).any (·.1)=false:=by rfl) :
  PE X (.Call (.Name x p) (e::es) [] pos) (Dx sp [] E t):=by
 let#[f,fd,_,g,b,q,r]:=F;show f6 g (G.mono L) J q r b .nil hx N z O I
end
end L2
namespace St
open PySem L2
def top(i:Nat):N8:=PySem.Challenge.pw_ownroom_k91_whole_counts_of_pages.main.body.getD i (.Pass #[(0),(0),(0),(0)])
abbrev pU:N8:=inClass (top 10) 0
abbrev BA:N8:=inClass (top 10) 1
abbrev Bv:N8:=inClass (top 10) 3
abbrev BB:N8:=inClass (top 10) 2
abbrev Eg:N8:=inClass (top 10) 7
abbrev wX:N8:=inClass (top 10) 4
abbrev yh:N8:=inClass (top 10) 5
abbrev Hk:N8:=inClass (top 10) 6
abbrev tE:N8:=inClass (top 10) 8
theorem kc:¬ (("owners" : Str) = "contents"):=ak
def lF(ow co:Addr):List (Str×V):=bu "contents" (.ref co) (bu "owners" (.ref ow) [])
theorem fA(ow co:Addr):(lF ow co).lookup ("owners" : Str)=some (.ref ow):=by
 unfold lF;rw[aG,Wx kc,aG,Wy rfl]
theorem tS(ow co:Addr):(lF ow co).lookup ("contents" : Str)=some (.ref co):=by
 unfold lF;rw[aG,Wy rfl]
theorem aV(ow co:Addr){m:Str}(h1:¬ m = "contents")(h2:¬ m = "owners"):(lF ow co).lookup m=none:=by
 unfold lF;rw[aG,Wx h1,aG,Wx h2]
 all_goals rfl
def eR(H:Hp)(M:Wz):V->Option (List Int)->Prop
 |.non,none=>True
 |.ref a,some ns=>¬ M a/\H a=some (.lst (ns.map V.int))
 |_,_=>False
structure aY(C:Addr)(H:Hp)(M:Wz)(p ow co:Addr)(os:List Int)(pg:List (Option (List Int))):Prop where
 ob:∃dx,H p=some (.ins C dx (lF ow co))
 hw:H ow=some (.lst (os.map V.int))
 hc:∃cs,H co=some (.lst cs)/\Paired (eR H M) cs pg
def Off(B:Wz)(H H':Hp):Prop:=∀b o,H b=some o->¬ B b->H' b=some o
theorem eR.off{B M:Wz}{H H':Hp}(h:Off B H H')(F:∀b,B b->M b):∀{v:V}{x:Option (List Int)},eR H M v x->eR H' M v x
 |.non,none,_=>trivial
 |.ref a,some ns,⟨h1,h2⟩=>#[h1,h a _ h2 λz=>h1 (F a z)]
theorem jX{B M:Wz}{H H':Hp}(h:Off B H H')(F:∀b,B b->M b){cs:List V}{pg:List (Option (List Int))}(q:Paired (eR H M) cs pg):Paired (eR H' M) cs pg :=
 Paired.CB q λ_ _ z=>z.off h F
theorem qg{α z:Type}{F:α->z->Prop}:∀{xs:List α}{ys:List z}{i:Nat}{y:z},Paired F xs ys->ys[i]?=some y->∃x,xs[i]?=some x/\F x y
 |_,_,_,_,.nil,e=>by simp at e
 |_,_,0,_,.cons r _,e=>by simp at e;subst e;show#[0,r]
 |_,_,i+1,y,.cons _ t,e=>by
  let#[u,h1,h2]:=qg (i:=i) (y:=y) t ‹e›;show#[u,by simpa using h1,h2]
theorem kJ{α z:Type}{F:α->z->Prop}{x:α}{y:z}(r:F x y):∀{xs:List α}{ys:List z}(i:Nat),Paired F xs ys->Paired F (xs.set i x) (ys.set i y)
 |_,_,_,.nil=>.nil
 |_,_,0,.cons _ t=>.cons r t
 |_,_,i+1,.cons q t=>.cons q (kJ r i t)
theorem oy{α z:Type}{F:α->z->Prop}{x:α}{y:z}(r:F x y):∀n:Nat,Paired F (replicate n x) (replicate n y)
 |0=>.nil
 |n+1=>.cons r (oy r n)
structure Txt(K:DD)(mg:WD)(C:Addr):Prop where
 cl:qI K C
 nO:dv K C "owners"
 nC:dv K C "contents"
 len:mg "len" = none
 list:mg "list" = none
 pc:∃u,mg "PAGE_CELLS" = some u/\RelV (.int 8) u
inductive jb(C:Addr)(v:List V)(H:Hp)(Q:VK)(e:XK):Prop
 |mk(p dx:Addr)(n:Nat)(_:v=[.ref p,.int n])(_:n<=60)(_:H p=some (.ins C dx []))(_:∀(ow co:Addr)(H':Hp),H ow=none->H co=none->ow≠co->(∀M,aY C H' M p ow co (replicate n 0) (replicate n none))->Off (· = p) H H'->Q .non H')
def eS(os:List Int)(n:Int):Int:=if n<0\/(os.length:Int)<=n then 0 else os.getD n.toNat 0
theorem nK{os:List Int}{n:Int}(h:eS os n≠0):0<=n/\n.toNat<os.length/\n<os.length/\n=(n.toNat:Int):=by
 unfold eS at h;cases z:n<0\/(os.length:Int)<=n
 .rw[Wy z]at h;show absurd rfl h
 .omega
theorem yl{os:List Int}{j:Nat}(h:j<os.length):eS os (j:Int)=os.getD j 0:=by
 unfold eS;rw[Wx af];simp
inductive iw(C:Addr)(v:List V)(H:Hp)(Q:VK)(e:XK):Prop
 |mk(p ow co:Addr)(M:Wz)(os:List Int)(pg:List (Option (List Int)))(n:Int)(_:v=[.ref p,.int n])(_:aY C H M p ow co os pg)(_:os.length<=60)(_:Q (.int (eS os n)) H)
inductive ie(C:Addr)(v:List V)(H:Hp)(Q:VK)(e:XK):Prop
 |mk(p ow co:Addr)(M:Wz)(os:List Int)(pg:List (Option (List Int)))(n:Int)(_:v=[.ref p,.int n])(_:aY C H M p ow co os pg)(_:os.length<=60)(_:eS os n≠0)(_:Q .non H)
inductive yu(C:Addr)(v:List V)(H:Hp)(Q:VK)(e:XK):Prop
 |mk (p ow co:Addr) (M:Wz) (os:List Int) (pg:List (Option (List Int))) (_:v=[.ref p]) (_:aY C H M p ow co os pg) (_:M ow) (_:M co) (_:(∀b,M b->H b≠none)) (_:ow≠co) (_:os.length=pg.length) (_:os.length<=60) (_:(¬ (0:Int)∈os->Q .non H)) (_:((0:Int)∈os->∀H',aY C H' M p ow co (os.set (os.idxOf 0) 1) (pg.set (os.idxOf 0) (some (replicate 8 0)))->Off (λb=>b=ow\/b=co) H H'->Q (.int (os.idxOf 0:Nat)) H')):yu C v H Q e
inductive uo(C:Addr)(v:List V)(H:Hp)(Q:VK)(e:XK):Prop
 |mk (p ow co:Addr) (M:Wz) (os:List Int) (pg:List (Option (List Int))) (n:Int) (_:v=[.ref p,.int n]) (_:aY C H M p ow co os pg) (_:M ow) (_:M co) (_:ow≠co) (_:os.length<=60) (_:eS os n≠0) (_:∀H',aY C H' M p ow co (os.set n.toNat (eS os n-1)) pg->Off (λb=>b=ow\/b=co) H H'->Q .non H'):uo C v H Q e
inductive ui(C:Addr)(v:List V)(H:Hp)(Q:VK)(e:XK):Prop
 |mk (p ow co:Addr) (M:Wz) (os:List Int) (pg:List (Option (List Int))) (n:Int) (_:v=[.ref p,.int n]) (_:aY C H M p ow co os pg) (_:M ow) (_:M co) (_:ow≠co) (_:os.length<=60) (_:eS os n≠0) (_:∀H',aY C H' M p ow co (os.set n.toNat (eS os n+1)) pg->Off (λb=>b=ow\/b=co) H H'->Q .non H'):ui C v H Q e
inductive tM(C:Addr)(v:List V)(H:Hp)(Q:VK)(e:XK):Prop
 |mk(p ow co:Addr)(M:Wz)(os:List Int)(pg:List (Option (List Int)))(_:v=[.ref p])(_:aY C H M p ow co os pg)(_:Q (.int (os.count 0:Nat)) H)
inductive nE(C:Addr)(v:List V)(H:Hp)(Q:VK)(e:XK):Prop
 |mk(p ow co:Addr)(M:Wz)(os:List Int)(pg:List (Option (List Int)))(n:Int)(ns:List Int)(_:v=[.ref p,.int n])(_:aY C H M p ow co os pg)(_:os.length<=60)(_:eS os n≠0)(_:pg[n.toNat]?=some (some ns))(_:∀l,H l=none->Q (.ref l) (upd H l (.lst (ns.map V.int))))
inductive zo(K:DD)(C:Addr)(v:List V)(H:Hp)(Q:VK)(e:XK):Prop
 |mk (p ow co c:Addr) (M:Wz) (os:List Int) (pg:List (Option (List Int))) (n:Int) (ns:List Int) (_:v=[.ref p,.int n,.ref c]) (_:aY C H M p ow co os pg) (_:M ow) (_:M co) (_:(∀b,M b->H b≠none)) (_:ow≠co) (_:os.length=pg.length) (_:os.length<=60) (_:eS os n≠0) (_:bq K H c (ns.map V.int)) (_:∀H',aY C H' M p ow co os (pg.set n.toNat (some ns))->Off (λb=>b=ow\/b=co) H H'->Q .non H'):zo K C v H Q e
theorem rep1{α:Type}(x:α)(n:Nat):(replicate n [x]).flatten=replicate n x:=by
 induction n with
 |zero=>rfl
 |succ n z=>rw[Pq,Q5,z,Pq];rfl
theorem MG:aA ["self","many"] ["self","many"] (aq pU):=L2.bC
theorem sX{C:Addr}(F:cj K "__init__" "Store.__init__" pU f fd)(T:Txt K mg C):↥aN 1 f fd ["self","many"] (jb C):=by
 show F.dE MG (λaB A outer s H vs Q E hr h=>?_);let#[p,dx,n,rfl,hn,L,k]:=h;show#[_,ai (gq (pv 0) (ay iq (bE (aa ah ag)) (pv 1)) rfl) (ao (gq (pv 0) (ay iq (bE (aa mI ag)) (pv 1)) rfl)),?_];let hs:=vl;show#[ar,λl1 ab=>?_];let ap:p≠l1:=av L ab;show#[0,l1,n,0,rfl,ae,af,af,by rw[OC];omega,λow J=>?_];let as:ow≠l1:=λz=>(by rwa[z,ae]at J);rw[aj as]at J;let R:p≠ow:=av L J;show#[0,p,C,dx,[],rfl,by rw[aj R,aj ap];show L,T.cl,T.nO,ar,?_];show#[ar,λl2 I=>?_];let Y:l2≠p:=λz=>(by rwa[z,ae]at I);rw[aj Y]at I;let S:l2≠ow:=λz=>(by rwa[z,ae]at I);rw[aj S]at I;let ac:l2≠l1:=λz=>(by rwa[z,ae]at I);rw[aj ac]at I;show#[0,l2,n,0,rfl,ae,af,af,by rw[OC];omega,λco G=>?_];let am:co≠l2:=λz=>(by rwa[z,ae]at G);rw[aj am]at G;let O:co≠p:=λz=>(by rwa[z,ae]at G);rw[aj O]at G;let N:co≠ow:=λz=>(by rwa[z,ae]at G);rw[aj N]at G;let ad:co≠l1:=λz=>(by rwa[z,ae]at G);rw[aj ad]at G;show#[0,p,C,dx,0,by rw[aj (G0 O),aj (G0 Y),ae],T.cl,T.nC,by change 1<1000;decide,?_];rw[show((n:Int)).toNat=n by omega,rep1,rep1];show k ow co _ J G (G0 N) (λM=>#[#[dx,ae],?_,#[_,?_,oy (show eR _ M .non none from trivial) n]]) λb o e hb=>?_
 .rw[aj (G0 R),aj (G0 N),aj (G0 S),aj (G0 R),ae,Sh]
 .rw[aj O,ae]
 .let U:b≠p:=hb;rw[aj U,aj (av e G),aj (av e I),aj U,aj (av e J),aj (av e ab)];show e
theorem Ld:aA ["self","n"] ["self","n"] (aq wX):=L2.bC
theorem Bt{C:Addr}(F:cj K "count" "Store.count" wX f fd)(T:Txt K mg C):↥aN 1 f fd ["self","n"] (iw C):=by
 show F.dE Ld (λJ A outer s H vs Q E L h=>?_);let#[p,ow,co,M,os,pg,n,rfl,S,N,k]:=h;let#[#[dx,h1],G,_]:=id S;show#[_,ai (bj (fJ (az fE (pv 1) ah (aF _)) (fN (az Lb (pv 1) (aO bB (by rfl) T.len boot_len (aa (aH (pv 0) rfl) ag)) (aF _)))).pt (ao (aJ ah)) aI)
  (ao (aJ (aM cu (aH (pv 0) rfl) (pv 1) bX))),?_]
 show#[0,_,0,rfl,0,?_];show dX (λc=>?_) (λc=>?_)
 .show eg ?_;let I:n<0:=‹c›;unfold eS at k;rw[Wy (.inl I)]at k;show k
 .let I:¬ n<0:=‹c›;show#[0,0,p,C,dx,_,0,h1,T.cl,T.nO,fA _ _,ow,0,.inl (bq.of G),_,0,rfl,0,?_];show dX (λd=>?_) (λd=>?_)
  .let d':(os.length:Int)<=n:=‹d›;unfold eS at k;rw[Wy (.inr d')]at k;show k
  .let d':¬ (os.length:Int)<=n:=‹d›;obtain⟨j,rfl⟩:∃j:Nat,n=j:=#[n.toNat,af];let z:j<os.length:=af;rw[yl z]at k;show#[0,p,C,dx,_,0,h1,T.cl,T.nO,fA _ _,0,ow,_,j,.int (os.getD j 0),1,bq.of G,lq ?_,k];rw[vu,M4 z];simp[z]
theorem Nw:aA ["self","n"] ["self","n"] (aq tE):=L2.bC
theorem Ap{C:Addr}(F:cj K "refuse_free" "Store.refuse_free" tE f fd)(T:Txt K mg C)(I:↥Md 1 C "count" (iw C)) :
  ↥aN 2 f fd ["self","n"] (ie C):=by
 show F.dE Nw (λL A outer s H vs Q E G h=>?_);let#[p,ow,co,M,os,pg,n,rfl,S,J,z,k]:=h;let#[#[dx,h1],N,_]:=id S;show#[_,ao (bj (az bM (pm (pv 0) T.cl I G aw (aa (pv 1) ag)) ah (aF _)) (du) aI),?_];show#[0,p,dx,0,h1,aV _ _ ak ak,0,p,ow,co,M,os,pg,n,rfl,S,J,rfl,0,?_];show dX (λc=>?_) (λc=>?_)
 .show absurd ‹c› z
 .show k
theorem Lv:aA ["self","n"] ["self","n"] (aq Bv):=L2.bC
theorem gY{H:Hp}{M:Wz}{a:Addr}{o:HO}{cs:List V}{pg:List (Option (List Int))}(F:M a)(q:Paired (eR H M) cs pg):Paired (eR (upd H a o) M) cs pg :=
 jX (B:=(· = a)) (λb u e G=>by rw[aj (show b≠a from G)];show e) (λb z=>by rw[show b=a from z];show F) q
theorem mj{H:Hp}{M:Wz}{a:Addr}{o:HO}{cs:List V}{pg:List (Option (List Int))}(F:H a=none)(q:Paired (eR H M) cs pg):Paired (eR (upd H a o) M) cs pg :=
 jX (B:=λ_=>False) (λb u e _=>by rw[aj (av e F)];show e) (λb z=>z.elim) q
theorem jJ{H:Hp}{p a C dx:Addr}{fs:List (Str×V)}{xs:List V}(h:H p=some (.ins C dx fs))(h':H a=some (.lst xs)):p≠a:=cU h h' (by intro z;cases z)
theorem Fz{C:Addr}(F:cj K "less" "Store.less" Bv f fd)(T:Txt K mg C)(O:↥Md 2 C "refuse_free" (ie C)) :
  ↥aN 3 f fd ["self","n"] (uo C):=by
 show F.dE Lv (λac A outer s H vs Q E N h=>?_);let#[p,ow,co,M,os,pg,n,rfl,S,mw,mc,ab,hl,J,k]:=h;let#[#[dx,h1],G,cs,Y,U]:=id S;show#[_,ai (aQ (pm (pv 0) T.cl O N aw (aa (pv 1) ag)))
  (ao (tP (aH (pv 0) rfl) (pv 1) (pz) ah IX set_list)),?_]
 show#[0,p,dx,0,h1,aV _ _ ak ak,0,p,ow,co,M,os,pg,n,rfl,S,hl,J,?_];let#[h0,I,hn,L]:=nK J;generalize n.toNat=j at *;subst L;show#[0,p,C,dx,_,0,h1,T.cl,T.nO,fA _ _,0,ow,_,j,.int (os.getD j 0),1,bq.of G,lq (by rw[vu,M4 I];simp[I]),_,0,rfl,ow,_,j,j,1,G,3]
 .unfold xk;rw[qi,Wy af,Wy af];simp
 .rw[yl I]at k;show k _ #[#[dx,by rw[aj (jJ h1 G)];show h1],?_,#[cs,by rw[aj (G0 ab)];show Y,gY mw U]] λb o e R=>?_
  .rw[ae,Wg]
  .rw[aj (λz=>R (.inl z))];show e
theorem NT:aA ["self","n"] ["self","n"] (aq yh):=L2.bC
theorem BH{C:Addr}(F:cj K "cells" "Store.cells" yh f fd)(T:Txt K mg C)(N:↥Md 2 C "refuse_free" (ie C)) :
  ↥aN 3 f fd ["self","n"] (nE C):=by
 show F.dE NT (λab A outer s H vs Q E L h=>?_);let#[p,ow,co,M,os,pg,n,ns,rfl,S,Y,z,G,k]:=h;let#[#[dx,h1],hw,cs,R,O]:=id S;show#[_,ai (aQ (pm (pv 0) T.cl N L aw (aa (pv 1) ag)))
  (ao (aJ (cJ dY (by rfl) T.list fb (aa (aM cu (aH (pv 0) rfl) (pv 1) bX) ag)))),?_]
 show#[0,p,dx,0,h1,aV _ _ ak ak,0,p,ow,co,M,os,pg,n,rfl,S,Y,z,?_];let#[h0,hj,hn,I]:=nK z;generalize n.toNat=j at *;subst I;let#[v,U,cv]:=qg O G;obtain⟨a,rfl,J⟩:∃a,v=.ref a/\H a=some (.lst (ns.map V.int)):=by
  cases v with
  |ref a=>show#[a,rfl,cv.2]
  |_=>show Ov cv
 show#[0,p,C,dx,_,0,h1,T.cl,T.nC,tS _ _,0,co,cs,j,0,rfl,bq.of R,lq U,a,0,.inl (bq.of J),k]
theorem Ju:aA ["self","n","cells"] ["self","n","cells"] (aq Hk):=L2.bC
theorem kz{α z:Type}{F:α->z->Prop}:∀{xs:List α}{ys:List z},Paired F xs ys->xs.length=ys.length
 |_,_,.nil=>rfl
 |_,_,.cons _ t=>by rw[K4,K4,kz t]
theorem Hr{C:Addr}(F:cj K "put" "Store.put" Hk f fd)(T:Txt K mg C)(GG:↥Md 2 C "refuse_free" (ie C)) :
  ↥aN 3 f fd ["self","n","cells"] (zo K C):=by
 show F.dE Ju (λac A outer s H vs Q E Y h=>?_);let#[p,ow,co,c,M,os,pg,n,ns,rfl,S,mw,mc,mt,ab,am,hl,L,O,k]:=h;let#[#[dx,h1],J,cs,I,N]:=id S;show#[_,ai (aQ (pm (pv 0) T.cl GG Y aw (aa (pv 1) ag)))
  (ao (fq (cJ dY (by rfl) T.list fb (aa (pv 2) ag)) (gr (aH (pv 0) rfl) (pv 1) set_list))),?_]
 show#[0,p,dx,0,h1,aV _ _ ak ak,0,p,ow,co,M,os,pg,n,rfl,S,hl,L,?_];let#[h0,hj,hn,R]:=nK L;generalize n.toNat=j at *;subst R;let ad:=kz N;show#[0,c,0,.inl O,λl G=>?_];let nl:∀{b:Addr}{o:HO},H b=some o->b≠l:=λe=>av e G;show#[0,p,C,dx,_,0,by rw[aj (nl h1)];show h1,T.cl,T.nC,tS _ _,0,co,cs,j,j,1,by rw[aj (nl I)];show I,3]
 .unfold xk;rw[Wy af,Wy af];simp
 .let U:¬ M l:=λz=>mt l z G;show k _ #[#[dx,by rw[aj (jJ h1 I),aj (nl h1)];show h1],by rw[aj ab,aj (nl J)];show J,#[_,ae,gY mc (kJ #[U,ae] j (mj G N))]] λb o e hb=>?_;rw[aj (λz=>hb (.inr z)),aj (nl e)];show e
theorem Nb:aA ["self","n"] ["self"] (aq BA):=L2.bC
theorem N3(os:List Int):Ay (.int 0) (os.map V.int)=decide ((0:Int)∈os):=by
 unfold Ay;rw[List.any_map,QR,U2,decide_eq_true_iff];constructor
 .rintro⟨x,hx,e⟩;let z:x=0:=by
   have:(x==(0:Int))=true:=e;simpa using this
  subst z;show hx
 .intro h;show#[(0),h,rfl]
theorem EA{C:Addr}(F:cj K "take" "Store.take" BA f fd)(T:Txt K mg C):↥aN 1 f fd ["self"] (yu C):=by
 show F.dE Nb (λac A outer s H vs Q E hr h=>?_);let#[p,ow,co,M,os,pg,rfl,S,mw,mc,mt,ab,am,hl,k0,k1]:=h;let#[#[dx,h1],I,cs,N,Y]:=id S;let#[u8,m8,r8]:=T.pc;let hs:=vl;show#[_,ai (bj (az eX ah (aH (pv 0) rfl) (by with_unfolding_all rfl)) (ao (aJ mI)) aI)
  (ai (cQ 1 Nb.nd (gU OE SN PySem.F.type_list_index Ed (aH (pv 0) rfl) (aa ah ag)))
  (ai (fq ah (gr (aH (pv 0) rfl) (pv 1) set_list))
  (ai (fq (ay iq (bE (aa ah ag)) (bG (by rfl) m8 r8)) (gr (aH (pv 0) rfl) (pv 1) set_list))
  (ao (aJ (pv 1)))))),?_]
 show#[0,p,C,dx,_,0,h1,T.cl,T.nO,fA _ _,ow,0,.inl (bq.of I),rfl,fh _,0,?_];change if (!Ay (.int 0) (os.map V.int))=true then _ else _
 rw[N3];cases c:(0:Int)∈os
 .rw[decide_eq_true c];show b9 ?_;let hj:os.idxOf 0<os.length:=OV.mpr c;let ad:=kz Y;show#[0,p,C,dx,_,0,h1,T.cl,T.nO,fA _ _,.inl #[5,bq.of I],ow,os,(0),1,I,c,?_];let k2:=k1 c;generalize os.idxOf 0=j at *;show#[0,p,C,dx,_,0,h1,T.cl,T.nO,fA _ _,0,ow,_,j,j,1,I,3]
  .unfold xk;rw[qi,Wy af,Wy af];simp
  .show#[ar,λl L=>?_];let U:l≠ow:=λz=>(by rwa[z,ae]at L);rw[aj U]at L;show#[l,(8),0,rfl,ae,af,af,by rw[OC];omega,λq G=>?_];let ql:q≠l:=λz=>(by rwa[z,ae]at G);rw[aj ql]at G;let O:q≠ow:=λz=>(by rwa[z,ae]at G);rw[aj O]at G;let nl:∀{b:Addr}{o:HO},H b=some o->b≠l:=λe=>av e L;let J:∀{b:Addr}{o:HO},H b=some o->b≠q:=λe=>av e G;show#[0,p,C,dx,_,0,by rw[aj (J h1),aj (nl h1),aj (jJ h1 I)];show h1,T.cl,T.nC,tS _ _,0,co,cs,j,j,1,by rw[aj (J N),aj (nl N),aj (G0 ab)];show N,3]
   .unfold xk;rw[Wy af,Wy af];simp
   .show#[0,?_];let hM:¬ M q:=λz=>mt q z G;show k2 _ #[#[dx,by rw[aj (jJ h1 N),aj (J h1),aj (nl h1),aj (jJ h1 I)];show h1],?_,#[_,ae,gY mc (kJ #[hM,by rw[ae];rfl] j (mj (by rw[aj ql,aj O];show G) (mj (by rw[aj U];show L) (gY mw Y))))]] λb o e R=>?_
    .rw[aj ab,aj (J I),aj (nl I),ae,Wg]
    .rw[aj (λz=>R (.inr z)),aj (J e),aj (nl e),aj (λz=>R (.inl z))];show e
 .rw[decide_eq_false c];show k0 c
theorem MZ:aA ["self","n"] ["self","n"] (aq BB):=L2.bC
theorem FI{C:Addr}(F:cj K "more" "Store.more" BB f fd)(T:Txt K mg C)(O:↥Md 2 C "refuse_free" (ie C)) :
  ↥aN 3 f fd ["self","n"] (ui C):=by
 show F.dE MZ (λac A outer s H vs Q E N h=>?_);let#[p,ow,co,M,os,pg,n,rfl,S,mw,mc,ab,hl,J,k]:=h;let#[#[dx,h1],G,cs,Y,U]:=id S;show#[_,ai (aQ (pm (pv 0) T.cl O N aw (aa (pv 1) ag)))
  (ao (tP (aH (pv 0) rfl) (pv 1) (pz) ah DC set_list)),?_]
 show#[0,p,dx,0,h1,aV _ _ ak ak,0,p,ow,co,M,os,pg,n,rfl,S,hl,J,?_];let#[h0,I,hn,L]:=nK J;generalize n.toNat=j at *;subst L;show#[0,p,C,dx,_,0,h1,T.cl,T.nO,fA _ _,0,ow,_,j,.int (os.getD j 0),1,bq.of G,lq (by rw[vu,M4 I];simp[I]),_,0,rfl,ow,_,j,j,1,G,3]
 .unfold xk;rw[qi,Wy af,Wy af];simp
 .rw[yl I]at k;show k _ #[#[dx,by rw[aj (jJ h1 G)];show h1],?_,#[cs,by rw[aj (G0 ab)];show Y,gY mw U]] λb o e R=>?_
  .rw[ae,Wg]
  .rw[aj (λz=>R (.inl z))];show e
theorem Mq:aA ["self"] ["self"] (aq Eg):=L2.bC
theorem EC{C:Addr}(F:cj K "free" "Store.free" Eg f fd)(T:Txt K mg C):↥aN 1 f fd ["self"] (tM C):=by
 show F.dE Mq (λG A outer s H vs Q E I h=>?_);let#[p,ow,co,M,os,pg,rfl,S,k]:=h;let#[#[dx,h1],z,_]:=id S;show#[_,ao (aJ (gU OE PySem.F.slot_list_count PySem.F.type_list_count BL (aH (pv 0) rfl) (aa ah ag))),?_];show#[0,p,C,dx,_,0,h1,T.cl,T.nO,fA _ _,.inl #[5,bq.of z],ow,os,(0),1,z,k]
end St
namespace Tb
open PySem L2
def top(i:Nat):N8:=PySem.Challenge.pw_ownroom_k91_whole_counts_of_pages.main.body.getD i (.Pass #[(0),(0),(0),(0)])
abbrev zG:N8:=top 29
abbrev pU:N8:=inClass (top 30) 0
abbrev I0:N8:=inClass (top 30) 1
abbrev II:N8:=inClass (top 30) 2
abbrev xJ:N8:=inClass (top 30) 3
abbrev xC:N8:=inClass (top 30) 4
theorem au{H:Hp}{l:Addr}{X:HO}(h:H l=none):aR H (upd H l X):=λb o e=>by rw[aj (av e h)];show e
def Off(B:Wz)(H H':Hp):Prop:=∀b o,H b=some o->¬ B b->H' b=some o
section
variable{α:Type}
def look(l:List (Int×α))(k:Int):Option α:=(l.find? λx=>decide (x.1=k)).map (·.2)
def dk(f:α->V)(l:List (Int×α)):List (Key×V):=l.map λx=>(NC x.1,f x.2)
def a9(l:List (Int×α))(k:Int)(a:α):List (Int×α):=l.map λx=>if x.1=k then(k,a)else x
def bp(l:List (Int×α))(k:Int):List (Int×α):=l.filter λx=>decide (x.1≠k)
theorem iQ(k:Int):look ([]:List (Int×α)) k=none:=rfl
theorem aX(x:Int×α)(l:List (Int×α))(k:Int):look (x::l) k=if x.1=k then some x.2 else look l k:=by
 unfold look;rw[Ro];cases h:x.1=k
 .rw[decide_eq_true h,Wy h];rfl
 .rw[decide_eq_false h,Wx h]
theorem cL(f:α->V)(k:Int):∀l:List (Int×α),cG (dk f l) (NC k)=(look l k).map f
 | []=>rfl
 |x::l=>by
  let z:=cL f k l;change cG ((NC x.1,f x.2)::dk f l) (NC k)=_;rw[aX];cases h:x.1=k
  .rw[Wy h,dt (by rw[h])];rfl
  .rw[Wx h,dh (λe=>h (Su e)),z]
theorem aC{l:List (Int×α)}{k:Int}{a:α}(h:look l k=some a):(k,a)∈l:=by
 unfold look at h;let#[x,hx,e]:=t5.mp h;let h1:=List.mem_of_find?_eq_some hx;let h2:x.1=k:=‹List.find?_some hx›;rw[<-h2, <-e];show h1
theorem cp{l:List (Int×α)}{k:Int}(h:look l k=none):¬ k∈l.map (·.1):=by
 unfold look at h;rw[Option.map_eq_none_iff,List.find?_eq_none]at h;rintro m;let#[x,hx,e]:=IF.mp m;show h x hx (decide_eq_true e)
theorem bW{l:List (Int×α)}{k:Int}{a:α}(F:(l.map (·.1)).Nodup)(h:(k,a)∈l):look l k=some a:=by
 induction l with
 |nil=>cases h
 |cons x l G =>
  rw[aX];let#[z,I]:=N6.mp (show(x.1::l.map (·.1)).Nodup from F);rcases se.mp h with e|m
  .rw[<-e,Wy rfl]
  .have:¬ x.1=k:=λe=>z (e▸IF.mpr #[_,m,rfl]);rw[Wx this];show G I m
theorem Gr(f:α->V)(l:List (Int×α))(k:Int):((dk f l).any λz=>decide (z.1=NC k))=(look l k).isSome:=by
 rw[hV,cL];cases look l k<;>rfl
theorem dU{f:α->V}{l:List (Int×α)}{k:Int}{a:α}(h:look l k=none):putK (dk f l) (NC k) (f a)=dk f (l++[(k,a)]):=by
 rw[BQ _ (by rw[cL,h];rfl)];unfold dk;rw[N5];rfl
theorem jx{f:α->V}{l:List (Int×α)}{k:Int}{a b:α}(h:look l k=some b):putK (dk f l) (NC k) (f a)=dk f (a9 l k a):=by
 unfold putK;rw[Wy (by rw[Gr,h];rfl)];unfold dk a9;rw[Qo,Qo];congr 1;funext x;change(if (NC x.1:Key)=NC k then((NC x.1:Key),f a)else(NC x.1,f x.2))=((NC (if x.1=k then(k,a)else x).1:Key),f (if x.1=k then(k,a)else x).2);cases e:x.1=k
 .rw[Wy (by rw[e]),Wy e,e]
 .rw[Wx (λz=>e (Su z)),Wx e]
theorem hG(f:α->V)(l:List (Int×α))(k:Int):m9 (dk f l) (NC k)=dk f (bp l k):=by
 unfold m9 dk bp;rw[Vk];congr 1;congr 1;funext x;change decide (¬ (NC x.1:Key)=NC k)=decide (¬ x.1=k);cases e:x.1=k
 .rw[e];simp
 .simp[e]
theorem bZ{l:List (Int×α)}{k:Int}{a:α}(j:Int)(h:look l k=none):look (l++[(k,a)]) j=if j=k then some a else look l j:=by
 induction l with
 |nil =>
  change look [(k,a)] j=_;rw[aX,iQ];cases e:j=k
  .rw[Wy e,Wy e.symm]
  .rw[Wx e,Wx (G0 e)]
 |cons x l G =>
  rw[aX]at h;cases e:x.1=k
  .rw[Wy e]at h;cases h
  .rw[Wx e]at h;change look (x::(l++[(k,a)])) j=_;rw[aX,aX,G h];cases F:x.1=j
   .rw[Wy F,Wy F,Wx (λz=>e (F.trans z))]
   .rw[Wx F,Wx F]
theorem bK{l:List (Int×α)}{k:Int}{a b:α}(j:Int)(h:look l k=some b):look (a9 l k a) j=if j=k then some a else look l j:=by
 induction l with
 |nil=>cases h
 |cons x l G =>
  rw[aX]at h;change look ((if x.1=k then(k,a)else x)::a9 l k a) j=_;cases e:x.1=k
  .rw[Wy e,aX,aX];cases F:j=k
   .rw[Wy F.symm,Wy F]
   .rw[Wx (G0 F),Wx F,Wx (λz=>F (z.symm.trans e))];clear G h
    induction l with
    |nil=>rfl
    |cons y l G =>
     change look ((if y.1=k then(k,a)else y)::a9 l k a) j=_;cases I:y.1=k
     .rw[Wy I,aX,aX,Wx (G0 F),Wx (λz=>F (z.symm.trans I)),G]
     .rw[Wx I,aX,aX,G]
  .rw[Wx e]at h;rw[Wx e,aX,aX,G h];cases F:x.1=j
   .rw[Wy F,Wy F,Wx (λz=>e (F.trans z))]
   .rw[Wx F,Wx F]
theorem bV(l:List (Int×α))(k j:Int):look (bp l k) j=if j=k then none else look l j:=by
 induction l with
 |nil =>
  change look [] j=if j=k then none else look [] j
  rw[iQ];split<;>rfl
 |cons x l G =>
  unfold bp at *;rw[Pt];cases e:x.1=k
  .rw[Wx (by simp[e]),G,aX];cases F:j=k
   .rw[Wy F,Wy F]
   .rw[Wx F,Wx F,Wx (λz=>F (z.symm.trans e))]
  .rw[Wy (by simp[e]),aX,aX,G];cases F:x.1=j
   .rw[Wy F,Wy F,Wx (λz=>e (F.trans z))]
   .rw[Wx F,Wx F]
theorem gk(l:List (Int×α))(k:Int)(a:α):(a9 l k a).map (·.1)=l.map (·.1):=by
 unfold a9;rw[Qo];congr 1;funext x;change(if x.1=k then(k,a)else x).1=x.1;cases e:x.1=k
 .rw[Wy e,e]
 .rw[Wx e]
theorem lu(l:List (Int×α))(k:Int):(bp l k).map (·.1)=(l.map (·.1)).filter λx=>decide (x≠k):=by
 unfold bp;rw[Vk];rfl
theorem ij(l:List (Int×α))(k:Int)(a:α):(a9 l k a).length=l.length:=by unfold a9;rw[qi]
theorem mem_set{l:List (Int×α)}{k:Int}{a:α}{x:Int×α}(h:x∈a9 l k a):x=(k,a)\/(x∈l/\x.1≠k):=by
 unfold a9 at h;let#[y,z,e]:=IF.mp h;cases c:y.1=k
 .rw[Wy c]at e;show .inl e.symm
 .rw[Wx c]at e;subst e;show .inr #[z,c]
theorem cZ{l:List (Int×α)}{k:Int}{x:Int×α}(h:x∈bp l k):x∈l/\x.1≠k:=by
 unfold bp at h;let#[h1,h2]:=Px.mp h;show#[h1,of_decide_eq_true h2]
theorem dg(f:α->V)(l:List (Int×α)):(dk f l).length=l.length:=by unfold dk;rw[qi]
theorem oj{l:List (Int×α)}{k:Int}{a:α}(I:(l.map (·.1)).Nodup)(h:look l k=some a):(bp l k).length+1=l.length:=by
 induction l with
 |nil=>cases h
 |cons x l J =>
  let#[G,L]:=N6.mp (show(x.1::l.map (·.1)).Nodup from I);rw[aX]at h;unfold bp at *;rw[Pt];cases e:x.1=k
  .rw[Wx (by simp[e])];have:l.filter (λx=>decide (x.1≠k))=l:=by
    rw[Si];intro y F;have:y.1≠k:=λz=>G (by rw[e, <-z];show IF.mpr #[_,F,rfl]);simpa using this
   rw[this,K4]
  .rw[Wx e]at h;rw[Wy ‹e›,K4,K4,J L h]
end
abbrev wM:=List (Int×(Addr×List V))
abbrev kM:=List (Int×(Addr×wM))
def fS:Addr×List V->V:=λx=>.ref x.1
def fF:Addr×wM->V:=λx=>.ref x.1
def BF:V->Bool
 |.int _=>true
 |.str _=>true
 |_=>false
def qf(xs:List V):Bool:=xs.all BF&&decide (xs.length<1000)
theorem FK{xs:List V}(h:qf xs=true):xs.all BF=true:=(TY.mp h).1
theorem FC{xs:List V}(h:qf xs=true):xs.length<1000:=of_decide_eq_true (TY.mp h).2
def lF(fs:Addr):List (Str×V):=bu "first_step" (.ref fs) []
theorem mQ(fs:Addr):(lF fs).lookup ("first_step" : Str)=some (.ref fs):=by
 unfold lF;rw[aG,Wy rfl]
theorem aV(fs:Addr){m:Str}(h:¬ m = "first_step"):(lF fs).lookup m=none:=by
 unfold lF;rw[aG,Wx h]
 all_goals rfl
structure iO(H:Hp)(k:Int)(sec:wM):Prop where
 ht:∀y∈sec,H y.2.1=some (.tup y.2.2)/\qf y.2.2=true/\y.1/8=k/\0<=y.1/\y.1<64
 ns:(sec.map (·.1)).Nodup
 ne:sec≠[]
structure TabAt(C:Addr)(H:Hp)(p fs:Addr)(tb:kM):Prop where
 ob:∃dx,H p=some (.ins C dx (lF fs))
 hf:H fs=some (.dK (dk fF tb))
 hd:∀x∈tb,H x.2.1=some (.dK (dk fS x.2.2))
 hs:∀x∈tb,iO H x.1 x.2.2
 nk:(tb.map (·.1)).Nodup
 na:∀x∈tb,∀y∈tb,x.2.1=y.2.1->x.1=y.1
 nf:∀x∈tb,x.2.1≠fs
def dC(tb:kM)(q:Int):Option (List V):=(look tb (q/8)).bind λx=>(look x.2 q).map (·.2)
def fK(fs:Addr)(tb:kM):Addr->Prop:=λb=>b=fs\/∃x∈tb,b=x.2.1
theorem iO.keep{H H':Hp}{k:Int}{F:wM}(S:iO H k F)(h:∀b xs,H b=some (.tup xs)->H' b=some (.tup xs)):iO H' k F :=
 #[λy z=>#[h _ _ (S.ht y z).1,(S.ht y z).2],S.ns,S.ne]
theorem TabAt.same{C:Addr}{H H':Hp}{p fs:Addr}{tb:kM}(T:TabAt C H p fs tb)(s:aR H H'):TabAt C H' p fs tb:=by
 let#[#[dx,h1],h2,z,F,G,I,J]:=T;show#[#[dx,s _ _ h1],s _ _ h2,λx hx=>s _ _ (z x hx),λx hx=>(F x hx).keep λb xs e=>s _ _ e,G,I,J]
theorem TabAt.put{C:Addr}{H H':Hp}{p fs d:Addr}{tb:kM}{k:Int}{F sec':wM}(T:TabAt C H p fs tb)(J:look tb k=some (d,F))(o:Off (· = d) H H')(hd:H' d=some (.dK (dk fS sec')))(S:iO H' k sec'):TabAt C H' p fs (a9 tb k (d,sec')):=by
 let#[#[dx,h1],h2,O,h4,R,Y,N]:=T;let I:=aC J;let U:=O _ I;let L:∀x∈tb,x.1≠k->x.2.1≠d:=λx hx hk e=>hk (Y x hx _ I e);let same:dk fF (a9 tb k (d,sec'))=dk fF tb:=by
  let e:=jx (f:=fF) (a:=(d,sec')) J;rw[<-e];let e2:=jx (f:=fF) (a:=(d,F)) J;let e3:fF (d,sec')=fF (d,F):=rfl;rw[e3,e2];unfold dk a9;rw[Qo];show O0 λx hx=>?_;change((NC (if x.1=k then(k,(d,F))else x).1:Key),fF (if x.1=k then(k,(d,F))else x).2)=(NC x.1,fF x.2);cases c:x.1=k
  .rw[Wy c,c];have:look tb k=some x.2:=bW R (by rw[<-c];show hx);rw[J]at this;rw[<-sN this]
  .rw[Wx c]
 show#[#[dx,o _ _ h1 (cU h1 U (by intro z;cases z))],by rw[same];show o _ _ h2 (G0 (N _ I)),λx hx=>?_,λx hx=>?_,by rw[gk];show R,λx hx y G e=>?_,λx hx=>?_]
 .rcases mem_set hx with rfl|⟨hx,c⟩
  .show hd
  .show o _ _ (O x hx) (L x hx c)
 .rcases mem_set hx with rfl|⟨hx,c⟩
  .show S
  .show(h4 x hx).keep λb xs e=>o _ _ e (cU e U (by intro z;cases z))
 .rcases mem_set hx with rfl|⟨hx,c⟩<;>rcases mem_set G with rfl|⟨G,c'⟩
  .rfl
  .show absurd e.symm (L y G c')
  .show absurd e (L x hx c)
  .show Y x hx y G e
 .rcases mem_set hx with rfl|⟨hx,c⟩
  .show(N _ I:d≠fs)
  .show N x hx
theorem TabAt.add{C:Addr}{H H':Hp}{p fs d:Addr}{tb:kM}{k:Int}{sec':wM}(T:TabAt C H p fs tb)(U:look tb k=none)(G:H d=none)(o:Off (· = fs) H H')(hf:H' fs=some (.dK (dk fF (tb++[(k,(d,sec'))]))))(hd:H' d=some (.dK (dk fS sec')))(S:iO H' k sec') :
  TabAt C H' p fs (tb++[(k,(d,sec'))]):=by
 let#[#[dx,h1],h2,I,N,O,R,L]:=T;let J:∀x∈tb,x.2.1≠d:=λx hx=>av (I x hx) G;let Y:d≠fs:=λe=>(by rwa[e,h2]at G);show#[#[dx,o _ _ h1 (cU h1 h2 (by intro z;cases z))],hf,λx hx=>?_,λx hx=>?_,?_,λx hx y F e=>?_,λx hx=>?_]
 .rcases t4.mp hx with hx|hx
  .show o _ _ (I x hx) (L x hx)
  .rw[qj.mp hx];show hd
 .rcases t4.mp hx with hx|hx
  .show(N x hx).keep λb xs e=>o _ _ e (cU e h2 (by intro z;cases z))
  .rw[qj.mp hx];show S
 .rw[N5];show kZ O (cp U)
 .rcases t4.mp hx with hx|hx<;>rcases t4.mp F with F|F
  .show R x hx y F e
  .rw[qj.mp F]at e;show absurd e (J x hx)
  .rw[qj.mp hx]at e;show absurd e.symm (J y F)
  .rw[qj.mp hx,qj.mp F]
 .rcases t4.mp hx with hx|hx
  .show L x hx
  .rw[qj.mp hx];show Y
theorem TabAt.del{C:Addr}{H H':Hp}{p fs d:Addr}{tb:kM}{k:Int}{O:wM}(T:TabAt C H p fs tb)(U:look tb k=some (d,O))(o:Off (λb=>b=d\/b=fs) H H')(Y:H' fs=some (.dK (dk fF (bp tb k)))):TabAt C H' p fs (bp tb k):=by
 let#[#[dx,h1],h2,F,N,R,J,L]:=T;let G:=aC U;let I:=F _ G;show#[#[dx,o _ _ h1 λz=>z.elim (cU h1 I (by intro z;cases z)) (cU h1 h2 (by intro z;cases z))],Y,λx hx=>?_,λx hx=>?_,?_,λx hx y S e=>J x (cZ hx).1 y (cZ S).1 e,λx hx=>L x (cZ hx).1]
 .let#[hx,c]:=cZ hx;show o _ _ (F x hx) λz=>z.elim (λe=>c (J x hx _ G e)) (L x hx)
 .let#[hx,c]:=cZ hx;show(N x hx).keep λb xs e=>o _ _ e λz=>z.elim (cU e I (by intro z;cases z)) (cU e h2 (by intro z;cases z))
 .rw[lu];show R.filter _
theorem Bq:∀(n:Nat)(a:Int)(l:List Int),l.Nodup->(∀x∈l,a<=x/\x<a+n)->l.length<=n
 |0,a,l,_,h=>by
  cases l with
  |nil=>show t7 _
  |cons x r=>have:=h x Oi;omega
 |n+1,a,l,z,h=>by
  let F:=Bq n a (l.filter λx=>decide (x≠a+n)) (z.filter _) λx hx=>by
   let#[h1,h2]:=Px.mp hx;let N:=h x h1;let O:x≠a+n:=of_decide_eq_true h2;omega
  let e:(l.filter λx=>decide (x≠a+n)).length+1>=l.length:=by
   clear F h
   induction l with
   |nil=>simp
   |cons x r L =>
    let#[J,G]:=N6.mp z;rw[Pt];cases c:x=a+n
    .rw[Wx (by simp[c])];have:r.filter (λx=>decide (x≠a+n))=r:=by
      rw[Si];intro y I;have:y≠a+n:=λe=>J (by rw[c, <-e];show I);simpa using this
     rw[this];simp
    .rw[Wy ‹c›];have:=L G;rw[K4,K4];omega
  omega
theorem iO.len{H:Hp}{k:Int}{z:wM}(S:iO H k z):z.length<=64:=by
 have:=Bq 64 0 (z.map (·.1)) S.ns λx hx=>by
  let#[y,F,rfl]:=IF.mp hx;have:=S.ht y F;omega
 rwa [qi]at this
theorem TabAt.kb{C:Addr}{H:Hp}{p fs:Addr}{tb:kM}(T:TabAt C H p fs tb):∀x∈tb,0<=x.1/\x.1<8:=λx hx=>by
 let S:=T.hs x hx;cases e:x.2.2 with
 |nil=>show absurd e S.ne
 |cons y r =>
  have:=S.ht y (by rw[e];show Oi);omega
theorem TabAt.len{C:Addr}{H:Hp}{p fs:Addr}{tb:kM}(T:TabAt C H p fs tb):tb.length<=8:=by
 have:=Bq 8 0 (tb.map (·.1)) T.nk λx hx=>by
  let#[y,z,rfl]:=IF.mp hx;have:=T.kb y z;omega
 rwa [qi]at this
theorem TabAt.uX{C:Addr}{H:Hp}{p fs:Addr}{tb:kM}(T:TabAt C H p fs tb){q:Int}(h:dC tb q≠none):0<=q/\q<64:=by
 unfold dC at h;cases e:look tb (q/8)with
 |none=>rw[e]at h;show absurd rfl h
 |some a =>
  rw[e,Rp]at h;cases z:look a.2 q with
  |none=>rw[z]at h;show absurd rfl h
  |some b =>
   have:=(T.hs _ (aC e)).ht _ (aC z);omega
end Tb
namespace L2
open PySem PySem.Spec PyProof.Rows
section
variable{X:Cx}
theorem rQ{α z:Type}(f:α->z):∀(l:List α)(i:Nat),(l.map f).eraseIdx i=(l.eraseIdx i).map f
 | [],_=>rfl
 |_::_,0=>rfl
 |a::l,i+1=>by
  change f a::(l.map f).eraseIdx i=f a::(l.eraseIdx i).map f;rw[rQ f l i]
inductive zd(x:V)(vs:List V)(H:Hp)(Q:VK):Prop
 |mk(l:Addr)(ns:List Int)(k:Int)(_:x=.ref l)(_:vs=[.int k])(_:H l=some (.lst (ns.map V.int)))(_:k∈ns)(_:Q .non (upd H l (.lst ((ns.erase k).map V.int))))
theorem qS:FQ X "list.remove" zd:=by
 intros x vs v us Q I S rv h;let#[l,ns,k,rfl,rfl,J,N,q]:=h;cases S;let#[u,rfl,O]:=rv.one;let#[t,rfl]:=O;let#[z,its,n,r,L,e]:=I.nh J;let hi:=intsAre_of r;let R:=hi.length;let ac:=L;rw[qi]at L z;let hs:=vl;let G:ns.idxOf k<ns.length:=OV.mpr N;show Qh SR #[_,e,rfl] PySem.F.entry_list_remove (PySem.F.args_list_remove_2 _ _)
  (MeetsSeq.list_remove l its.toArray n (.int k t) (Wq k) (λy U=>eq_isInt k t hi y ‹U›) (ns.idxOf k) (by simpa[R]using G) ?_ ?_ (by rw[ti];omega)) #[e,?_]
 .change Wq k its[ns.idxOf k]=true;rw[VO k hi _ af G];simpa using Sf G
 .intro j ab Y;change Wq k its[j]=false;rw[VO k hi j ‹ab› af];show ne_of_lt_idxOf Y _
 .show#[.non,_,I.BU (its':=its.eraseIdx (ns.idxOf k)) J e ?_ ?_ ?_,?_,q]
  .change its.toArray.eraseIdxIfInBounds _=(its.eraseIdx _).toArray;rw[Rc]
  .rw[List.erase_eq_eraseIdx_of_idxOf rfl, <-rQ];show r.eraseIdx _
  .rw[qi];have:=List.length_erase_of_mem N;omega
  .trivial
end
def j4(K:DD)(H:Hp)(a:Addr)(xs:List V):Prop:=H a=some (.tup xs)\/bL K (λ_=>none) a xs
theorem j4.sq{K:DD}{H:Hp}{a:Addr}{xs:List V}(h:j4 K H a xs):bL K H a xs:=by
 rcases h with h|h
 .show bL.of h
 .rcases h with h|h
  .rcases h with h|⟨o,h⟩
   .cases h
   .cases h
  .show .inr h
theorem j4.keep{K:DD}{H H':Hp}{a:Addr}{xs:List V}(h:j4 K H a xs)(s:∀o,H a=some o->H' a=some o):j4 K H' a xs:=by
 rcases h with h|h
 .show .inl (s _ h)
 .show .inr h
theorem j4.off{K:DD}{H H':Hp}{a:Addr}{xs:List V}(h:j4 K H a xs)(s:H a=some (.tup xs)->H' a=some (.tup xs)):j4 K H' a xs:=by
 rcases h with h|h
 .show .inl (s h)
 .show .inr h
theorem zO{X:Cx}:eQ X (.builtin "isinstance") (λxs H Q=>(∃x n t b,xs=[x,.ty n]/\kR X.K H x t/\PM X.K t (.type n)=some b/\Q (.bl b) H)\/∃a ys,xs=[.ref a,.ty "tuple"]/\bL X.K H a ys/\Q (.bl true) H):=by
 intros xs us Q I r h;rcases h with h|⟨a,ys,rfl,G,q⟩
 .show dq pins s σ H xs us Q I r h
 .let#[u,c,rfl,J,F]:=vals2 r;obtain rfl:c=Value.type "tuple" := F;cases(show u=Value.ref a from J);let#[its,_,#[o,h1,h2,_],_]:=I.tuple G;show QS kitx_tuple I.jL #[o,h1,h2] (sR _) (λz=>nomatch z) λtk=>#[.bl true,H,I.tok _,rfl,q]
end L2
namespace Tb
open PySem L2
structure Bw(mg:WD):Prop where
 uP:mg "isinstance" = none
 tuple:mg "tuple" = none
 list:mg "list" = none
 dict:mg "dict" = none
 len:mg "len" = none
 sorted:mg "sorted" = none
def DR:V->Bool
 |.int _=>true
 |.str _=>true
 |.non=>true
 |_=>false
inductive tN(vs:List V)(H:Hp)(Q:VK)(e:XK):Prop
 |mk(v:_)(_:vs=[v])(_:DR v=true)(_:Q v H)
def yC(K:DD):Sp:=λvs H Q _=>(∃v,vs=[v]/\DR v=true/\Q v H)\/∃(a:Addr)(xs:List V),vs=[.ref a]/\j4 K H a xs/\qf xs=true/\∀H' l,aR H H'->H l=none->H' l=some (.tup xs)->Q (.ref l) H'
theorem E4:∀{v:V},BF v=true->DR v=true
 |.int _,_=>rfl
 |.str _,_=>rfl
theorem Ld:aA ["value","copied","key"] ["value"] (aq zG):=L2.bC
theorem BX(F:cj K "own_copy" "own_copy" zG f fd)(T:Bw mg):↥aN 1 f fd ["value"] tN:=by
 show F.dE Ld (λG A outer s H vs Q E I h=>?_);let#[v,rfl,z,k]:=h;show#[_,(ai (bj (cO (aO dq (by rfl) T.uP bo (aa (pv 0) (aa (dW (v:=.ty "tuple") (by rfl) T.tuple ja rfl) ag)))) (ao eV) aI)
  (ai (bj (cO (aO dq (by rfl) T.uP bo (aa (pv 0) (aa (dW (v:=.ty "list") (by rfl) T.list fb rfl) ag)))) (ao eV) aI)
  (ai (bj (cO (aO dq (by rfl) T.uP bo (aa (pv 0) (aa (dW (v:=.ty "dict") (by rfl) T.dict uc rfl) ag)))) (ai eV
  (ai eV
  (ao eV))) aI)
  (ao (aJ (pv 0)))))),?_]
 cases v with
 |int i=>show#[0,.int i,"tuple",_,false,rfl,.int i,CQ _,false,rfl,b9 #[0,.int i,"list",_,false,rfl,.int i,DF _,false,rfl,b9 #[0,.int i,"dict",_,false,rfl,.int i,DE _,false,rfl,b9 #[0,k]]]]
 |str i=>show#[0,.str i,"tuple",_,false,rfl,.str i,DZ _,false,rfl,b9 #[0,.str i,"list",_,false,rfl,.str i,CG _,false,rfl,b9 #[0,.str i,"dict",_,false,rfl,.str i,Di _,false,rfl,b9 #[0,k]]]]
 |non=>show#[0,.non,"tuple",_,false,rfl,.non,Dy _,false,rfl,b9 #[0,.non,"list",_,false,rfl,.non,Be _,false,rfl,b9 #[0,.non,"dict",_,false,rfl,.non,Dj _,false,rfl,b9 #[0,k]]]]
 |_=>cases z
theorem Fe(F:cj K "own_copy" "own_copy" zG f fd)(T:Bw mg)(O:↥Df 1 "own_copy" tN):↥aN 2 f fd ["value"] (yC K):=by
 show F.ok Ld (λvs H Q E h=>?_) (λac A outer s H vs Q E R h=>?_)
 .rcases h with⟨v,rfl,_⟩|⟨a,xs,rfl,_⟩
  .rfl
  .rfl
 .show#[_,(ai (bj (cO (aO zO (by rfl) T.uP bo (aa (pv 0) (aa (dW (v:=.ty "tuple") (by rfl) T.tuple ja rfl) ag)))) (ao (aJ (cJ qH (by rfl) T.tuple ja (aa (jC (cl:=[]) (caps:=[]) #[rfl,ak,ak,rfl,by kernel_rfl,by intro p J;simp at J,by kernel_rfl,by intro p J;simp at J,ak] rfl (Ja (pv 0)) (λ_ _ _ _=>iG) (λ_ _ _ _=>(pc O R aw (aa (pv 0) ag)))) ag)))) aI)
   (ai (bj (cO (aO dq (by rfl) T.uP bo (aa (pv 0) (aa (dW (v:=.ty "list") (by rfl) T.list fb rfl) ag)))) (ao eV) aI)
   (ai (bj (cO (aO dq (by rfl) T.uP bo (aa (pv 0) (aa (dW (v:=.ty "dict") (by rfl) T.dict uc rfl) ag)))) (ai eV
   (ai eV
   (ao eV))) aI)
   (ao (aJ (pv 0)))))),?_]
  rcases h with⟨v,rfl,U,k⟩|⟨a,xs,rfl,I,L,k⟩
  .cases v with
   |int i=>show#[0,.inl #[.int i,"tuple",_,false,rfl,.int i,CQ _,false,rfl,b9 #[0,.int i,"list",_,false,rfl,.int i,DF _,false,rfl,b9 #[0,.int i,"dict",_,false,rfl,.int i,DE _,false,rfl,b9 #[0,k]]]]]
   |str i=>show#[0,.inl #[.str i,"tuple",_,false,rfl,.str i,DZ _,false,rfl,b9 #[0,.str i,"list",_,false,rfl,.str i,CG _,false,rfl,b9 #[0,.str i,"dict",_,false,rfl,.str i,Di _,false,rfl,b9 #[0,k]]]]]
   |non=>show#[0,.inl #[.non,"tuple",_,false,rfl,.non,Dy _,false,rfl,b9 #[0,.non,"list",_,false,rfl,.non,Be _,false,rfl,b9 #[0,.non,"dict",_,false,rfl,.non,Dj _,false,rfl,b9 #[0,k]]]]]
   |_=>cases U
  .let hs:=vl;let hx:=FK L;let hn:=FC L;show#[0,.inr #[a,xs,rfl,I.sq,true,rfl,eg ?_]];show#[0,a,rfl,#[xs,I.sq],?_];show AL (xs:=xs) (λi ys H'=>H'=H/\ys=xs.take i) #[1] (λi ys H' _ p=>by rw[p.1];show I.sq) (λi x ys H' hi p=>?_) (λys H' p l hl=>?_)
   .let#[rfl,rfl]:=p;let#[Y,S]:=qc.mp hi;show#[0,x,rfl,E4 (OD.mp hx x (S▸P6 Y)),?_,4]
    .rw[Oz];omega
    .rw[VR,hi];rfl
   .let#[rfl,rfl]:=p;rw[OS];show#[l,xs,rfl,.inl #[bq.of ae,λl2 G=>?_]];let ab:l2≠l:=λz=>(by rwa[z,ae]at G);let N:H' l2=none:=(by rw[aj ab]at G;show G);show k _ l2 ((au hl).trans (au G)) N ae
structure Txt(K:DD)(mg:WD)(C:Addr):Prop where
 cl:qI K C
 nF:dv K C "first_step"
 sp:∃u,mg "STEP_PAGES" = some u/\RelV (.int 8) u
def Kz(H:Hp)(v:V):Option (List V)->Prop
 |none=>v=.non
 |some xs=>∃t,v=.ref t/\H t=some (.tup xs)
inductive jb(C:Addr)(v:List V)(H:Hp)(Q:VK)(e:XK):Prop
 |mk(p dx:Addr)(_:v=[.ref p])(_:H p=some (.ins C dx []))(_:∀(fs:Addr)(H':Hp),H fs=none->TabAt C H' p fs []->Off (· = p) H H'->Q .non H')
inductive qt(C:Addr)(vs:List V)(H:Hp)(Q:VK)(e:XK):Prop
 |mk(p fs:Addr)(tb:kM)(q:Int)(_:vs=[.ref p,.int q])(_:TabAt C H p fs tb)(_:∀H' v,aR H H'->Kz H' v (dC tb q)->Q v H')
inductive wa(K:DD)(C:Addr)(v:List V)(H:Hp)(Q:VK)(e:XK):Prop
 |mk(p fs t:Addr)(tb:kM)(q:Int)(xs:List V)(_:v=[.ref p,.int q,.ref t])(_:TabAt C H p fs tb)(_:0<=q)(_:q<64)(_:j4 K H t xs)(_:qf xs=true)(_:∀H' tb',TabAt C H' p fs tb'->(∀j,dC tb' j=if j=q then some xs else dC tb j)->Off (fK fs tb) H H'->(∀b,fK fs tb' b->fK fs tb b\/H b=none)->Q .non H')
inductive tw(C:Addr)(v:List V)(H:Hp)(Q:VK)(e:XK):Prop
 |mk(p fs:Addr)(tb:kM)(q:Int)(_:v=[.ref p,.int q])(_:TabAt C H p fs tb)(_:∀H' tb',TabAt C H' p fs tb'->(∀j,dC tb' j=if j=q then none else dC tb j)->(tb'.length=tb.length\/tb'.length+1=tb.length)->Off (fK fs tb) H H'->(∀b,fK fs tb' b->fK fs tb b\/H b=none)->Q .non H')
def gA(tb:kM):List Int:=tb.flatMap λx=>x.2.2.map (·.1)
inductive dA(C:Addr)(v:List V)(H:Hp)(Q:VK)(e:XK):Prop
 |mk(p fs:Addr)(tb:kM)(_:v=[.ref p])(_:TabAt C H p fs tb)(_:∀H' l (ns:List Int),aR H H'->H l=none->H' l=some (.lst (ns.map V.int))->ns.Perm (gA tb)->ns.Pairwise (· <= ·)->Q (.ref l) H')
theorem vQ{C:Addr}{H:Hp}{p fs:Addr}{tb:kM}(T:TabAt C H p fs tb)(q:Int):q∈gA tb↔dC tb q≠none:=by
 unfold gA;rw[QI];constructor
 .rintro⟨x,hx,G⟩;let#[y,F,rfl]:=IF.mp G;let S:=T.hs x hx;unfold dC;rw[(S.ht y F).2.2.1,bW T.nk hx,Rp,bW S.ns F];simp
 .intro h;unfold dC at h;cases e:look tb (q/8)with
  |none=>rw[e]at h;show absurd rfl h
  |some a =>
   rw[e,Rp]at h;cases z:look a.2 q with
   |none=>rw[z]at h;show absurd rfl h
   |some b=>show#[_,aC e,IF.mpr #[_,aC z,rfl]]
theorem kS{C:Addr}{H:Hp}{p fs:Addr}{tb:kM}(T:TabAt C H p fs tb):(gA tb).Nodup:=by
 let hs:=T.hs;let N:=T.nk;clear T
 induction tb with
 |nil=>show Pu
 |cons x r S =>
  let#[Y,U]:=N6.mp (show(x.1::r.map (·.1)).Nodup from N);change(x.2.2.map (·.1)++gA r).Nodup;rw[Qu];show#[(hs x Oi).ns,S (λy F=>hs y (Oq _ F)) U,λa R b G e=>Y ?_];let#[y,F,rfl]:=IF.mp R;let#[z,I,G]:=QI.mp G;let#[J,ab,rfl]:=IF.mp G;let a1:=((hs x Oi).ht y F).2.2.1;let O:=((hs z (Oq _ I)).ht J ab).2.2.1;let L:y.1=J.1:=e;rw[<-a1,L,O];show IF.mpr #[z,I,rfl]
theorem uZ{C:Addr}{H:Hp}{p fs:Addr}{tb:kM}(T:TabAt C H p fs tb)(i:Nat):(gA (tb.take i)).length<=64:=by
 let h1:(gA tb).length<=64:=Bq 64 0 (gA tb) (kS T) λx hx=>by
  have:=T.uX ((vQ T x).mp hx);omega
 let h2:(gA (tb.take i)).length<=(gA tb).length:=by
  conv=>rhs;rw[<-Pj i tb]
  unfold gA;rw[Sj,y3];omega
 omega
theorem wq{tb:kM}{q:Int}{d:Addr}{z:wM}(h:look tb (q/8)=some (d,z)):dC tb q=(look z q).map (·.2):=by
 unfold dC;rw[h,Rp]
theorem uV{tb:kM}{q:Int}(h:look tb (q/8)=none):dC tb q=none:=by
 unfold dC;rw[h];rfl
theorem rT{tb:kM}{k q:Int}{d:Addr}{F sec':wM}{o:Option (Addr×List V)}(z:look tb k=some (d,F))(G:q/8=k)(h:∀j,look sec' j=if j=q then o else look F j)(j:Int) :
  dC (a9 tb k (d,sec')) j=if j=q then o.map (·.2)else dC tb j:=by
 unfold dC;rw[bK (j/8) z];cases c:j/8=k
 .rw[Wy c,Rp,h j,c,z,Rp];cases e:j=q
  .rw[Wy e,Wy e]
  .rw[Wx e,Wx e]
 .rw[Wx c,Wx (λe=>c (by rw[e];show G))]
theorem zX{tb:kM}{k q:Int}{d:Addr}{sec':wM}{o:Option (Addr×List V)}(z:look tb k=none)(F:q/8=k)(h:∀j,look sec' j=if j=q then o else none)(j:Int) :
  dC (tb++[(k,(d,sec'))]) j=if j=q then o.map (·.2)else dC tb j:=by
 unfold dC;rw[bZ (j/8) z];cases c:j/8=k
 .rw[Wy c,Rp,h j,c,z];cases e:j=q
  .rw[Wy e,Wy e]
  .rw[Wx e,Wx e];rfl
 .rw[Wx c,Wx (λe=>c (by rw[e];show F))]
theorem z7{tb:kM}{k q:Int}{d:Addr}{z:wM}(F:look tb k=some (d,z))(G:q/8=k)(h:∀j,j≠q->look z j=none)(j:Int) :
  dC (bp tb k) j=if j=q then none else dC tb j:=by
 unfold dC;rw[bV];cases c:j/8=k
 .rw[Wy c,c,F];cases e:j=q
  .rw[Wy e];rfl
  .rw[Wx e,Rp,h j e];rfl
 .rw[Wx c,Wx (λe=>c (by rw[e];show G))]
theorem FG{H:Hp}{k q:Int}{G:wM}{l:Addr}{xs:List V}(S:iO H k G)(J:H l=some (.tup xs))(hx:qf xs=true)(I:q/8=k)(L:0<=q)(h1:q<64) :
  ∃sec',putK (dk fS G) (NC q) (.ref l)=dk fS sec'/\(∀j,look sec' j=if j=q then some (l,xs)else look G j)/\iO H k sec':=by
 cases e:look G q with
 |none =>
  show#[G++[(q,(l,xs))],dU (f:=fS) (a:=(l,xs)) e,λj=>bZ j e,λy F=>?_,?_,by simp]
  .rcases t4.mp F with F|F
   .show S.ht y F
   .rw[qj.mp F];show#[J,hx,I,L,h1]
  .rw[N5];show kZ S.ns (cp e)
 |some b =>
  show#[a9 G q (l,xs),jx (f:=fS) (a:=(l,xs)) e,λj=>bK j e,λy F=>?_,3]
  .rcases mem_set F with rfl|⟨F,_⟩
   .show#[J,hx,I,L,h1]
   .show S.ht y F
  .rw[gk];show S.ns
  .intro z;have:=ij G q (l,xs);rw[z]at this;show S.ne (OM.mp this.symm)
theorem iU{B:Wz}{H H' z:Hp}(s:aR H H')(o:Off B H' z):Off B H z:=λb u e F=>o b u (s b u e) F
theorem uF{B:Wz}{H:Hp}{a:Addr}{X:HO}(h:B a):Off B H (upd H a X):=λb u e F=>by rw[aj (λz=>F (by rw[z];show h))];show e
theorem Off.mono{B F:Wz}{H H':Hp}(o:Off B H H')(h:∀b,B b->F b):Off F H H':=λb u e G=>o b u e λz=>G (h b z)
theorem HZ{C:Addr}{H:Hp}{p fs:Addr}{tb:kM}(T:TabAt C H p fs tb):(dk fF tb).length<sizeLine:=by
 let h:=T.len;let hs:=vl;rw[dg];omega
theorem Gu{H:Hp}{k:Int}{z:wM}(S:iO H k z):(dk fS z).length<sizeLine:=by
 let h:=S.len;let hs:=vl;rw[dg];omega
theorem zi{fs d:Addr}{tb:kM}{k:Int}{F sec':wM}(z:(k,(d,F))∈tb){b:Addr}(h:fK fs (a9 tb k (d,sec')) b):fK fs tb b:=by
 rcases h with h|⟨x,hx,h⟩
 .show .inl h
 .rcases mem_set hx with rfl|⟨hx,_⟩
  .show .inr #[_,z,h]
  .show .inr #[x,hx,h]
theorem EW{fs:Addr}{tb:kM}{k:Int}{b:Addr}(h:fK fs (bp tb k) b):fK fs tb b:=by
 rcases h with h|⟨x,hx,h⟩
 .show .inl h
 .show .inr #[x,(cZ hx).1,h]
theorem mL(tb:kM)(k:Int):cG (dk fF tb) (NC k)=(look tb k).map fF:=cL fF k tb
theorem xS(z:wM)(k:Int):cG (dk fS z) (NC k)=(look z k).map fS:=cL fS k z
theorem MG:aA ["self"] ["self"] (aq pU):=L2.bC
theorem sX{C:Addr}(F:cj K "__init__" "Table.__init__" pU f fd)(T:Txt K mg C):↥aN 1 f fd ["self"] (jb C):=by
 show F.dE MG (λJ A outer s H vs Q E L h=>?_);let#[p,dx,rfl,G,k]:=h;show#[_,(ao (gq (pv 0) eE rfl)),?_];intro fs z;let np:p≠fs:=av G z;show#[0,p,C,dx,[],rfl,by rw[aj np];show G,T.cl,T.nF,ar,?_];show k fs _ z #[#[dx,by rw[ae];rfl],by rw[aj (G0 np),ae];rfl,λx hx=>(DO hx).elim,λx hx=>(DO hx).elim,.nil,λx hx=>(DO hx).elim,λx hx=>(DO hx).elim] λb u e I=>?_;rw[aj I,aj (av e z)];show e
theorem Nd:aA ["self","page","second"] ["self","page"] (aq I0):=L2.bC
theorem Hs{C:Addr}(F:cj K "get" "Table.get" I0 f fd)(T:Txt K mg C)(N:↥Df 2 "own_copy" (yC K)):↥aN 3 f fd ["self","page"] (qt C):=by
 let#[u8,O,S]:=T.sp;show F.dE Nd (λab A outer s H vs Q E I h=>?_);let#[p,fs,tb,q,rfl,TT,k]:=h;let#[dx,h1]:=TT.ob;show#[_,(ai (cQ 2 Nd.nd (jo (bN I) (aH (pv 0) rfl) (ay bg (pv 1) (bG (by rfl) O S)) eE #[1,1]))
  (ao (aJ (pc N I aw (aa (BO (bN I) (pv 2) (pv 1) #[1,1]) ag))))),?_]
 show#[0,p,C,dx,_,.ref fs,rfl,h1,T.cl,T.nF,mQ fs,fs,rfl,.inl #[_,.inl TT.hf],0,_,0,rfl,#[ar,ar],λe Y=>?_];let z:=au (X:=.dK []) Y;let J:=TT.same z;show#[_,dN.k (k:=.inl (q/8)) J.hf,?_];rw[mL];cases c:look tb (q/8)with
 |none =>
  show#[0,e,rfl,.inl #[_,.inl ae],0,_,dN.k (k:=.inl q) ae,.inl #[.non,1,k _ _ z ?_]];rw[uV c];rfl
 |some a =>
  let#[d,R]:=a;let L:=aC c;let hd:=J.hd _ L;show#[0,d,rfl,.inl #[_,.inl hd],0,_,dN.k (k:=.inl q) hd,?_];rw[xS];let le:=wq c;cases G:look R q with
  |none =>
   show .inl #[.non,1,k _ _ z ?_];rw[le,G];rfl
  |some b =>
   let#[t,xs]:=b;let hs:=(J.hs _ L).ht _ (aC G);show .inr #[t,xs,rfl,.inl hs.1,hs.2.1,λH' l s' ac U=>k _ _ (z.trans s') ?_];rw[le,G];show#[l,rfl,U]
theorem Lv:aA ["self","page","entry","second"] ["self","page","entry"] (aq II):=L2.bC
theorem IB{C:Addr}(F:cj K "lay" "Table.lay" II f fd)(T:Txt K mg C)(GC:↥Df 2 "own_copy" (yC K)):↥aN 3 f fd ["self","page","entry"] (wa K C):=by
 let#[u8,m8,r8]:=T.sp;show F.dE Lv (λam A outer s H vs Q E hr h=>?_);let#[p,fs,t,tb,q,xs,rfl,TT,q0,q1,ht,hx,k]:=h;let#[dx,h1]:=TT.ob;show#[_,(ai (cQ 3 Lv.nd (CH (aH (pv 0) rfl) (ay bg (pv 1) (bG (by rfl) m8 r8)) eE #[1,1]))
  (ao (lj (bN hr) (pv 3) (pv 1) (pc GC hr aw (aa (pv 2) ag)) rfl))),?_]
 show#[0,p,C,dx,_,.ref fs,rfl,h1,T.cl,T.nF,mQ fs,fs,rfl,.inl #[_,.inl TT.hf],0,_,0,rfl,#[ar,ar],λe L=>?_];let Y:=au (X:=.dK []) L;let S:=TT.same Y;show#[_,.inl (q/8),S.hf,rfl,HZ S,λv G=>?_,λG=>?_]
 .rw[mL]at G;cases c:look tb (q/8)with
  |none=>rwa[c]at G
  |some a =>
   let#[d,ap]:=a;rw[c]at G;obtain rfl:V.ref d=v:=sN G;let N:=aC c;show#[0,.inr #[t,xs,rfl,ht.keep λo e=>Y _ _ e,hx,λH2 l s2 ac O=>?_]];let R:=S.same s2;let#[sec',e1,e2,S']:=FG (R.hs _ N) O hx rfl q0 q1;let hd:=R.hd _ N;show#[0,0,d,0,gK.k (k:=.inl q) hd (Gu (R.hs _ N)),?_];rw[e1];let J:Off (· = d) H2 (upd H2 d (.dK (dk fS sec'))):=uF rfl;show k _ _ (R.put c J ae (S'.keep λb ys I=>J _ _ I (cU I hd (by intro z;cases z)))) (λj=>rT c rfl e2 j) (iU (Y.trans s2) (J.mono λb z=>.inr #[_,N,z])) λb z=>.inl (zi N z)
 .rw[mL]at G;let c:look tb (q/8)=none:=by
   cases c:look tb (q/8)with
   |none=>rfl
   |some a=>rwa[c]at G
  let ep:putK (dk fF tb) (NC (q/8)) (.ref e)=dk fF (tb++[(q/8,(e,[]))]):=dU (f:=fF) (a:=(e,[])) c;rw[ep];let ef:e≠fs:=λz=>av TT.hf L z.symm;let hE:upd (upd H e (.dK [])) fs (.dK (dk fF (tb++[(q/8,(e,[]))]))) e=some (.dK []):=(by rw[aj ef,ae]);let o1:Off (· = fs) H (upd (upd H e (.dK [])) fs (.dK (dk fF (tb++[(q/8,(e,[]))])))):=λb u I U=>(by rw[aj U,aj (av I L)];show I);show#[0,.inr #[t,xs,rfl,ht.off λe=>o1 _ _ e (cU e TT.hf (by intro z;cases z)),hx,λH2 l s2 ac O=>?_]];let ab:=s2 _ _ hE;show#[0,0,e,0,gK.k (k:=.inl q) ab ar,?_];let e1:putK ([]:List (Key×V)) (NC q) (.ref l)=dk fS [(q,(l,xs))]:=rfl;rw[e1];let J:Off (· = e) H2 (upd H2 e (.dK (dk fS [(q,(l,xs))]))):=uF rfl;let oA:Off (· = fs) H (upd H2 e (.dK (dk fS [(q,(l,xs))]))):=λb u I U=>J b u (s2 _ _ (o1 b u I U)) (av I L);let ad:(upd H2 e (.dK (dk fS [(q,(l,xs))]))) l=some (.tup xs):=J _ _ O (cU O ab (by intro z;cases z));show k _ _ (TT.add (sec':=[(q,(l,xs))]) c L oA ?_ ae #[λy hy=>?_,?_,by simp]) (λj=>zX (o:=some (l,xs)) c rfl (λj=>?_) j) (oA.mono λb z=>.inl z) λb z=>?_
  rotate_left 4
  .rcases z with z|⟨x,hx,z⟩
   .show .inl (.inl z)
   .rcases t4.mp hx with hx|hx
    .show .inl (.inr #[x,hx,z])
    .rw[qj.mp hx]at z;rw[z];show .inr L
  .show J _ _ (s2 _ _ ae) (G0 ef) |>.trans ?_;unfold dk;rw[N5,N5];rfl
  .rw[qj.mp hy];show#[ad,hx,rfl,q0,q1]
  .simp
  .rw[aX,iQ];cases z:j=q
   .rw[Wy z,Wy z.symm]
   .rw[Wx z,Wx (G0 z)]
theorem MJ:aA ["self","page","k","second"] ["self","page"] (aq xJ):=L2.bC
theorem Eb{C:Addr}(F:cj K "clear" "Table.clear" xJ f fd)(T:Txt K mg C)(TP:Bw mg):↥aN 1 f fd ["self","page"] (tw C):=by
 let#[u8,m8,r8]:=T.sp;let R:=T;show F.dE MJ (λam A outer s H vs Q E hr h=>?_);let#[p,fs,tb,q,rfl,TT,k]:=h;let#[dx,h1]:=TT.ob;replace T:=TP;show#[_,(ai (cQ 2 MJ.nd (ay bg (pv 1) (bG (by rfl) m8 r8)))
  (ai (cQ 3 MJ.nd (jo (bN hr) (aH (pv 0) rfl) (pv 2) eE #[1,1]))
  (ai (bj (kq (gR (bN hr) (pv 1) (pv 3))) (ao sg) aI)
  (ai (aQ (ic (pv 3) (pv 1) #[1,1]))
  (ao (bj (az bM (aO rP (by rfl) T.len boot_len (aa (pv 3) ag)) ah (aF _)) (ao (aQ (ic (aH (pv 0) rfl) (pv 2) #[1,1]))) aI)))))),?_]
 show#[0,_,0,rfl,#[ar,ar],?_];show#[0,p,C,dx,_,.ref fs,rfl,h1,R.cl,R.nF,mQ fs,fs,rfl,.inl #[_,.inl TT.hf],0,λe he=>?_];let J:=au (X:=.dK []) he;let I:=TT.same J;show#[_,dN.k (k:=.inl (q/8)) I.hf,?_];rw[mL];cases c:look tb (q/8)with
 |none =>
  show#[0,0,e,0,dN.k (k:=.inl q) ae,true,rfl,eg ?_];show k _ _ I (λj=>?_) (.inl rfl) (iU J λb u N _=>N) λb z=>.inl z;cases z:j=q
  .rw[Wy z,z];show uV c
  .rw[Wx z]
 |some a =>
  let#[d,G]:=a;let L:=aC c;let hd:=I.hd _ L;let S:=I.hs _ L;show#[0,0,d,0,dN.k (k:=.inl q) hd,?_];rw[xS];cases c2:look G q with
  |none =>
   show#[true,rfl,eg ?_];show k _ _ I (λj=>?_) (.inl rfl) (iU J λb u N _=>N) λb z=>.inl z;cases z:j=q
   .rw[Wy z,z,wq c,c2];rfl
   .rw[Wx z]
  |some b =>
   show#[false,rfl,b9 ?_];show#[0,d,rfl,.inl #[_,.inl hd],0,_,.inl q,fS b,hd,rfl,by rw[xS,c2];rfl,?_];rw[hG];show#[0,d,0,ae,4];let O:Off (· = d) (upd H e (.dK [])) (upd (upd H e (.dK [])) d (.dK (dk fS (bp G q)))):=uF rfl;cases z:bp G q=[]
   .let U:decide (V.int ((dk fS (bp G q)).length:Nat)=V.int 0)=true:=(by rw[z];rfl);rw[U];show#[true,rfl,eg ?_];let ad:d≠fs:=TT.nf _ L;let ab:(upd (upd H e (.dK [])) d (.dK (dk fS (bp G q)))) fs=some (.dK (dk fF tb)):=O _ _ I.hf (G0 ad);let ac:(upd (upd H e (.dK [])) d (.dK (dk fS (bp G q)))) p=some (.ins C dx (lF fs)):=O _ _ (J _ _ h1) (cU (J _ _ h1) hd (by intro z;cases z));show#[0,p,C,dx,_,.ref fs,rfl,ac,R.cl,R.nF,mQ fs,fs,rfl,.inl #[_,.inl ab],0,_,.inl (q/8),fF (d,G),ab,rfl,by rw[mL,c];rfl,?_];rw[hG];let o3:Off (λb=>b=d\/b=fs) (upd H e (.dK [])) (upd (upd (upd H e (.dK [])) d (.dK (dk fS (bp G q)))) fs (.dK (dk fF (bp tb (q/8))))):=λb u N hb=>by
     rw[aj λz=>hb (.inr z),aj λz=>hb (.inl z)];show N
    show k _ _ (I.del c o3 ae) (λj=>z7 c rfl (λj hj=>?_) j) (.inr ?_) (iU J (o3.mono λb z=>z.elim (λz=>.inr #[_,L,z]) .inl)) λb z=>.inl (EW z)
    .have:=bV G q j;rw[z,iQ,Wx hj]at this;show this.symm
    .show oj TT.nk c
   .let U:decide (V.int ((dk fS (bp G q)).length:Nat)=V.int 0)=false:=decide_eq_false λy=>by
     injection y with y;rw[dg]at y;show z (OM.mp af)
    rw[U];show#[false,rfl,b9 ?_];let S2:iO (upd (upd H e (.dK [])) d (.dK (dk fS (bp G q)))) (q/8) (bp G q):=#[λy hy=>?_,?_,z]
    .show k _ _ (I.put c O ae S2) (λj=>rT c rfl (λj=>bV G q j) j) (.inl (ij _ _ _)) (iU J (O.mono λb z=>.inr #[_,L,z])) λb z=>.inl (zi L z)
    .let Y:=S.ht y (cZ hy).1;show#[O _ _ Y.1 (cU Y.1 hd (by intro z;cases z)),Y.2]
    .rw[lu];show S.ns.filter _
theorem Ju:aA ["self","found","k"] ["self"] (aq xC):=L2.bC
theorem Bx{C:Addr}(F:cj K "pages" "Table.pages" xC f fd)(L:Txt K mg C)(T:Bw mg):↥aN 1 f fd ["self"] (dA C):=by
 show F.dE Ju (λap A outer s H vs Q E hr h=>?_);let#[p,fs,tb,rfl,TT,k]:=h;let#[dx,h1]:=TT.ob;let J:=TT.hf;let hs:=vl;show#[_,(ai (cQ 1 Ju.nd (bE ag))
  (ai (tZ (cA C4 rfl (jI (aH (pv 0) rfl)) (gH 2 Ju.nd) (ao (aQ (gU OE Qc SS (x9 rfl) (pv 1) (aa (cE (bN hr) (aH (pv 0) rfl) (pv 2) bX) ag))))))
  (ao (aJ (aO uq (by rfl) T.sorted gS (aa (pv 1) ag)))))),?_]
 let R:∀o S,H fs≠some (.frz o S):=λo S z=>(by rwa[J]at z);show#[ar,λl I=>?_];let sl:=au (X:=.lst []) I;let N:l≠fs:=λz=>av J I z.symm;let Y:p≠l:=av h1 I;let ab:p≠fs:=cU h1 J (by intro z;cases z);show#[0,p,C,dx,_,.ref fs,rfl,sl _ _ h1,L.cl,L.nF,mQ fs,fs,0,sl _ _ J,R,λo=>?_];show oV (kvs:=dk fF tb) (λi σ H'=>H'=upd (upd H l (.lst ((gA (tb.take i)).map V.int))) fs (.frz o (.dK (dk fF tb)))/\∃v,σ=#v[.ref p,.ref l,v]) #[rfl,0] (λi σ H' _ h=>by rw[h.1,ae]) (λi k v σ H' hi h=>?_) (λσ H' h=>?_)
 .let#[rfl,v',rfl]:=h;unfold dk at hi;rw[vu]at hi;cases e:tb[i]? with
  |none=>rwa[e]at hi
  |some x =>
   rw[e]at hi;let#[rfl,rfl]:=Vb (sN hi);let hx:x∈tb:=vh e;let hd:=TT.hd x hx;let dl:x.2.1≠l:=av hd I;let df:x.2.1≠fs:=TT.nf x hx;let as:i<tb.length:=(qc.mp e).1;let Bq:=uZ TT i;let bx:=(TT.hs x hx).len;let U:(upd (upd H l (.lst ((gA (tb.take i)).map V.int))) fs (.frz o (.dK (dk fF tb)))) l=some (.lst ((gA (tb.take i)).map V.int)):=(by rw[aj N,ae]);show#[0,.inl #[5,bq.of U],0,p,C,dx,_,.ref fs,rfl,by rw[aj ab,aj Y];show h1,L.cl,L.nF,mQ fs,0,fs,.ref x.2.1,rfl,.inl #[dk fF tb,.inl x.1,.inr #[o,ae],4],l,x.2.1,_,dk fS x.2.2,1,U,by rw[aj df,aj dl];show hd,3]
   .rw[mL,bW TT.nk hx];rfl
   .rw[qi,dg];omega
   .show#[?_,0];rw[VR,e];funext b;cases z:b=l
    .rw[z,ae,aj N,ae];let ek:(dk fS x.2.2).map (λkv=>kV kv.1)=(x.2.2.map (·.1)).map V.int:=by
      unfold dk;rw[Qo,Qo];rfl
     rw[ek, <-N5];unfold gA;rw[Sj];simp
    .rw[aj z];cases O:b=fs
     .rw[O,ae,ae]
     .rw[aj O,aj O,aj z,aj z]
 .let#[rfl,v',rfl]:=h;show#[fs,o,_,ae,R,?_];rw[dg,OS];let e0:upd (upd (upd H l (.lst ((gA tb).map V.int))) fs (.frz o (.dK (dk fF tb)))) fs (.dK (dk fF tb))=upd H l (.lst ((gA tb).map V.int)):=by
   funext b;cases z:b=fs
   .rw[z,ae,aj (G0 N)];show J.symm
   .rw[aj z,aj z]
  rw[e0];let Bq:=uZ TT tb.length;rw[OS]at Bq;let am:=au (X:=.lst ((gA tb).map V.int)) I;show#[0,l,gA tb,rfl,bq.of ae,kS TT,af,λl2 ad G hp hs=>?_];let ac:l2≠l:=λz=>(by rwa[z,ae]at G);show k _ l2 ad (am.trans (au G)) (by rw[aj ac]at G;show G) ae hp hs
end Tb
namespace Rm
open PySem L2
def top(i:Nat):N8:=PySem.Challenge.pw_ownroom_k91_whole_counts_of_pages.main.body.getD i (.Pass #[(0),(0),(0),(0)])
abbrev iD:N8:=top 20
abbrev jK:N8:=top 21
abbrev tW:N8:=top 22
abbrev nV:N8:=top 23
abbrev lh:N8:=top 24
abbrev tR:N8:=top 25
abbrev BC:N8:=top 26
theorem au{H:Hp}{l:Addr}{X:HO}(h:H l=none):aR H (upd H l X):=λb o e=>by rw[aj (av e h)];show e
structure oH(K:DD)(mg:WD)(x:Str)(C:Addr):Prop where
 IL:mg x=some (.ref C)
 Ip:excIn K C Ck "ValueError.__new__" = true
structure Def(K:DD)(mg:WD)(x:Str)(f:Addr)(fd:qw)(ps:List Str):Prop where
 mg:mg x=some (.ref f)
 kp:RZ K (.ref f)=true
 b:Binds K fd ps []
structure xn(mg:WD):Prop where
 uX:∃u,mg "ROOM_PAGES" = some u/\RelV (.int 64) u
 cells:∃u,mg "PAGE_CELLS" = some u/\RelV (.int 8) u
 list:mg "list" = none
 range:mg "range" = none
 len:mg "len" = none
def br(p m:Int):Prop:=m<1\/p<0\/64<p+m
def aP(p m:Int):List Int:=(Pw m.toNat).map λk:Nat=>p+k
inductive cY(v:List V)(H:Hp)(Q:VK)(e:XK):Prop
 |mk(p m:Int)(_:v=[.int p,.int m])(_:¬ br p m)(_:∀(H':Hp)(l:Addr),aR H H'->H l=none->H' l=some (.lst ((aP p m).map V.int))->Q (.ref l) H')
theorem js(q:Int):∀z:List Int,Ay (.int q) (z.map V.int)=decide (q∈z)
 | []=>rfl
 |m::z=>by
  let F:=js q z;unfold Ay at F ⊢;rw[Pb,TH,F];cases e:q=m
  .rw[e];simp[mK]
  .let G:m≠q:=G0 e;simp[mK,e,G]
inductive iE(v:List V)(H:Hp)(Q:VK)(e:XK):Prop
 |mk(a b:Addr)(ms ps:List Int)(_:v=[.ref a,.ref b])(_:H a=some (.lst (ms.map V.int)))(_:H b=some (.lst (ps.map V.int)))(_:(∀q∈ps,q∈ms))(_:Q .non H)
theorem Ky:aA ["page","many"] ["page","many"] (aq iD):=L2.bC
theorem uK(F:cj K "pages_from" "pages_from" iD f fd)(T:xn mg):↥aN 1 f fd ["page","many"] cY:=by
 let#[ac,J,R]:=T.uX;show F.dE Ky (λab A outer s H vs Q E hr h=>?_);let#[p,m,rfl,G,U]:=h;let hs:=vl;let d1:¬ m<1:=λz=>G (.inl z);let d2:¬ p<0:=λz=>G (.inr (.inl z));let L:¬ 64<p+m:=λz=>G (.inr (.inr z));show#[_,(ai (bj (PW.pt (fJ (az fE (pv 1) ah (aF _)) (fJ (az fE (pv 0) ah (aF _)) (fN (az kO (ay bD (pv 0) (pv 1)) (bG (by rfl) J R) (aF _)))))) du aI)
  (ao (aJ (cJ (oK rfl) (by rfl) T.list fb (aa (cJ AW (by rfl) T.range D3 (aa (pv 0) (aa (ay bD (pv 0) (pv 1)) ag))) ag))))),?_]
 show gO λ_ N Y=>?_;clear N;show#[0,_,0,rfl,0,?_];show dX (λc=>absurd (of_decide_eq_true c) d1) (λ_=>?_);show#[0,_,0,rfl,0,?_];show dX (λc=>absurd (of_decide_eq_true c) d2) (λ_=>?_);show#[0,0,_,0,5,0,rfl,0,?_];show jj (λc=>absurd (of_decide_eq_true c) L) (λ_=>Y _ ?_);show#[0,0,0,_,0,rfl,p,p+m,rfl,λO S=>?_];let s1:=au (X:=.rng p (p+m)) S;show#[O,p,m.toNat,rfl,by rw[ae,RM af],af,af,af,λl I=>?_];show U _ l (s1.trans (au I)) (s1.free I) ?_;rw[ae];unfold aP;rw[Qo];rfl
theorem FO:aA ["mapped","pages","page"] ["mapped","pages"] (aq jK):=L2.bC
theorem vg(F:cj K "refuse_unmapped" "refuse_unmapped" jK f fd):↥aN 1 f fd ["mapped","pages"] iE:=by
 show F.dE FO (λO A outer s H vs Q E R h=>?_);let#[a,b,S,ps,rfl,G,z,L,N]:=h;show#[_,(ao (cA C4 rfl (cK (pv 1)) (gH 2 FO.nd) (ao (bj (az eX (pv 2) (pv 0) (by with_unfolding_all rfl)) du aI)))),?_];show#[0,b,rfl,#[_,bq.of z],?_];show cq (K:=K) (a:=b) (xs:=ps.map V.int) (λi σ H2=>∃v2:Option V,σ=#v[.ref a,.ref b,v2]/\H2=H) #[0,rfl] (λi σ H2 _ I=>by let#[_,_,e]:=I;rw[e];show bq.of z) ?_ ?_
 .rintro i x σ H2 hx ⟨v2,rfl,rfl⟩;rw[vu]at hx;let#[q,J,rfl]:=t5.mp hx;show#[0,0,a,0,.inl (bq.of G),rfl,fh _,0,?_];rw[js,decide_eq_true (L q (vh J))];show b9 #[0,rfl]
 .rintro σ H2 ⟨v2,rfl,rfl⟩;show N
theorem jD{p m:Int}(h:¬ br p m):∀q∈aP p m,0<=q/\q<64/\q.natAbs.log2<1920:=λq F=>by
 unfold aP at F;let#[k,G,rfl]:=IF.mp F;rw[Q1]at G;let h1:¬ m<1:=λz=>h (.inl z);let h2:¬ p<0:=λz=>h (.inr (.inl z));let J:¬ 64<p+m:=λz=>h (.inr (.inr z));show#[af,af,?_];cases z:(p+(k:Int)).natAbs=0
 .rw[z];decide
 .rw[log2_lt z];let I:(p+(k:Int)).natAbs<64:=af;let L:(64:Nat)<2^1920:=ak;omega
inductive oo(v:List V)(H:Hp)(Q:VK)(e:XK):Prop
 |mk(a:Addr)(ms:List Int)(p m:Int)(_:v=[.ref a,.int p,.int m])(_:H a=some (.lst (ms.map V.int)))(_:¬ br p m)(_:(∀q∈aP p m,¬ q∈ms))(_:∀(H':Hp)(l:Addr),aR H H'->H l=none->H' l=some (.lst ((aP p m).map V.int))->Q (.ref l) H')
inductive pE(v:List V)(H:Hp)(Q:VK)(e:XK):Prop
 |mk(a:Addr)(ms:List Int)(p m:Int)(_:v=[.ref a,.int p,.int m])(_:H a=some (.lst (ms.map V.int)))(_:¬ br p m)(_:(∀q∈aP p m,q∈ms))(_:∀(H':Hp)(l:Addr),aR H H'->H l=none->H' l=some (.lst ((aP p m).map V.int))->Q (.ref l) H')
def dR(ad:Int):Int:=ad/8
def dP(ad n:Int):Int:=(ad+n-1)/8-ad/8+1
def cD(ad n:Int)(z:List Int):Prop:=n<0\/(0<n/\(br (dR ad) (dP ad n)\/¬ ∀q∈aP (dR ad) (dP ad n),q∈z))
def aD(ad n:Int):List Int:=if n=0 then[]else aP (dR ad) (dP ad n)
inductive jM(v:List V)(H:Hp)(Q:VK)(e:XK):Prop
 |mk(a:Addr)(ms:List Int)(ad n:Int)(_:v=[.ref a,.int ad,.int n])(_:H a=some (.lst (ms.map V.int)))(_:¬ cD ad n ms)(_:∀(H':Hp)(l:Addr),aR H H'->H l=none->H' l=some (.lst ((aD ad n).map V.int))->Q (.ref l) H')
theorem yc:aA ["mapped","page","many","pages","wanted"] ["mapped","page","many"] (aq tW):=L2.bC
theorem Bo(F:cj K "pages_to_map" "pages_to_map" tW f fd)(R:↥Df 1 "pages_from" cY):↥aN 2 f fd ["mapped","page","many"] oo:=by
 show F.dE yc (λY A outer s H vs Q E L h=>?_);let#[a,ms,p,m,rfl,I,O,S,N]:=h;show#[_,(ai (cQ 3 yc.nd (pc R L aw (aa (pv 1) (aa (pv 2) ag))))
  (ai (cA C4 rfl (cK (pv 3)) (gH 4 yc.nd) (ao (bj (az gT (pv 4) (pv 0) (by with_unfolding_all rfl)) du aI)))
  (ao (aJ (pv 3))))),?_]
 show#[0,0,p,m,rfl,O,λH1 l s1 nl G=>?_];show#[0,l,rfl,#[_,bq.of G],?_];show cq (K:=K) (a:=l) (xs:=(aP p m).map V.int) (λi σ H2=>∃z:Option V,σ=#v[.ref a,.int p,.int m,.ref l,z]/\H2=H1) #[0,rfl] (λi σ H2 _ U=>by let#[_,_,e]:=U;rw[e];show bq.of G) ?_ ?_
 .rintro i x σ H2 hx ⟨z,rfl,rfl⟩;rw[vu]at hx;let#[q,J,rfl]:=t5.mp hx;show#[0,0,a,0,.inl (bq.of (s1 _ _ I)),rfl,fh _,0,?_];rw[js,decide_eq_false (S q (vh J))];show b9 #[0,rfl]
 .rintro σ H2 ⟨z,rfl,rfl⟩;show#[0,N _ l s1 nl G]
theorem CD:aA ["mapped","page","many","pages"] ["mapped","page","many"] (aq nV):=L2.bC
theorem zJ(F:cj K "pages_to_drop" "pages_to_drop" nV f fd)(N:↥Df 1 "pages_from" cY)(I:↥Df 1 "refuse_unmapped" iE):↥aN 2 f fd ["mapped","page","many"] pE:=by
 show F.dE CD (λU A outer s H vs Q E z h=>?_);let#[a,S,p,m,rfl,J,L,R,O]:=h;show#[_,(ai (cQ 3 CD.nd (pc N z aw (aa (pv 1) (aa (pv 2) ag))))
  (ai (aQ (pc I z aw (aa (pv 0) (aa (pv 3) ag))))
  (ao (aJ (pv 3))))),?_]
 show#[0,0,p,m,rfl,L,λH1 l s1 nl G=>?_];show#[0,0,a,l,S,aP p m,rfl,s1 _ _ J,G,R,#[0,O _ l s1 nl G]]
theorem pB:aA ["mapped","address","many","first","last","pages"] ["mapped","address","many"] (aq lh):=L2.bC
theorem yA(F:cj K "pages_of_cells" "pages_of_cells" lh f fd)(T:xn mg)(GP:↥Df 1 "pages_from" cY)(GU:↥Df 1 "refuse_unmapped" iE):↥aN 2 f fd ["mapped","address","many"] jM:=by
 let#[u8,I,S]:=T.cells;show F.dE pB (λab A outer s H vs Q E L h=>?_);let#[a,O,ad,n,rfl,ha,G,N]:=h;show#[_,(ai (bj (az bM (pv 2) ah (aF _)) (ao (aJ (bE ag))) aI)
  (ai (bj (az fE (pv 2) ah (aF _)) du aI)
  (ai (cQ 3 pB.nd (ay bg (pv 1) (bG (by rfl) I S)))
  (ai (cQ 4 pB.nd (ay bg (ay ky (ay bD (pv 1) (pv 2)) ah) (bG (by rfl) I S)))
  (ai (cQ 5 pB.nd (pc GP L aw (aa (pv 3) (aa (ay bD (ay ky (pv 4) (pv 3)) ah) ag))))
  (ai (aQ (pc GU L aw (aa (pv 0) (aa (pv 5) ag))))
  (ao (aJ (pv 5))))))))),?_]
 show#[0,rfl,0,?_];show dX (λc=>?_) (λc=>?_)
 .let e:n=0:=V.int.inj (of_decide_eq_true c);show#[ar,λl U=>?_];show N _ l (au U) U ?_;rw[ae];unfold aD;rw[Wy e];rfl
 let ne:¬ n=0:=λz=>c (decide_eq_true (by rw[z]));let nn:¬ n<0:=λz=>G (.inl z);let J:0<n:=af;let np:¬ br (dR ad) (dP ad n):=λz=>G (.inr #[J,.inl z]);let Y:∀q∈aP (dR ad) (dP ad n),q∈O:=OO λz=>G (.inr #[J,.inr z]);show#[0,_,0,rfl,0,?_];show dX (λc'=>absurd (of_decide_eq_true c') nn) (λ_=>?_);show#[0,_,0,rfl,#[ar,ar],0,0,_,0,5,0,5,0,rfl,#[ar,ar],?_];show#[0,0,0,_,0,5,0,rfl,dR ad,dP ad n,rfl,np,λH1 l s1 nl R=>?_];show#[0,0,a,l,O,aP (dR ad) (dP ad n),rfl,s1 _ _ ha,R,Y,#[0,N _ l s1 nl ?_]];unfold aD;rw[Wx ne];show R
theorem yT{ws:List Int}{s n:Nat}:kG (ws.map V.int) (some (s:Int)) (some ((s:Int)+(n:Int)))=((ws.drop s).take n).map V.int:=by
 unfold kG;rw[qi,HT.nD,show((s:Int)+(n:Int))=((s+n:Nat):Int)by push_cast;rfl,HT.nD, <-V1, <-map_take];congr 1;cases h:s<=ws.length
 .rw[SE h];cases h2:s+n<=ws.length
  .rw[SE h2,show s+n-s=n by omega]
  .rw[RT af,ON (by rw[P1];omega),ON (by rw[P1];omega)]
 .rw[RT af,RT af,Qp (t7 _),Qp af];simp
theorem xT{ws:List Int}{s:Nat}:kG (ws.map V.int) none (some (s:Int))=(ws.take s).map V.int:=by
 unfold kG;rw[qi,HT.nD,show HT.uM ws.length 0 none=0 from rfl,VI,Nat.sub_zero, <-map_take];congr 1;cases h:s<=ws.length
 .rw[SE h]
 .rw[RT af,ON (t7 _),ON af]
theorem Ar{ws:List Int}{s:Nat}:kG (ws.map V.int) (some (s:Int)) none=(ws.drop s).map V.int:=by
 unfold kG;rw[qi,HT.nD,show HT.uM ws.length ws.length none=ws.length from rfl, <-V1, <-map_take];congr 1;cases h:s<=ws.length
 .rw[SE h,ON (by rw[P1];omega)]
 .rw[RT af,Qp (t7 _),Qp af];simp
theorem gn{K:DD}{H H':Hp}{a:Addr}{xs:List V}(h:bq K H a xs)(s:∀o,H a=some o->H' a=some o):bq K H' a xs:=by
 rcases h with(h|⟨o,h⟩)|h
 .show .inl (.inl (s _ h))
 .show .inl (.inr #[o,s _ h])
 .show .inr h
theorem ye{α z:Type}{F G:α->z->Prop}(h:∀x y,F x y->G x y):∀{xs:List α}{ys:List z},Paired F xs ys->Paired G xs ys
 |_,_,.nil=>.nil
 |_,_,.cons q t=>.cons (h _ _ q) (ye h t)
theorem w6{α z:Type}{F:α->z->Prop}{xs G:List α}{ys I:List z}(p:Paired F xs ys)(h:Paired F G I):Paired F (xs++G) (ys++I):=by
 induction p with
 |nil=>show h
 |cons q _ J=>show .cons q J
theorem xi{α z:Type}{F:α->z->Prop}{x:α}{xs:List α}{ys:List z}(p:Paired F xs ys)(h:x∈xs):∃y,F x y:=by
 induction p with
 |nil=>cases h
 |cons q _ G =>
  rcases se.mp h with e|h
  .show#[_,e▸q]
  .show G h
inductive oQ(v:List V)(H:Hp)(Q:VK)(e:XK):Prop
 |mk(a:Addr)(ws:List Int)(ad:Int)(n:Nat)(_:v=[.ref a,.int ad,.int n])(_:H a=some (.lst (ws.map V.int)))(_:∀(H':Hp)(l:Addr),aR H H'->H l=none->H' l=some (.lst (((ws.drop (ad%8).toNat).take n).map V.int))->Q (.ref l) H')
def fQ(ws:List Int)(s:Nat)(cs:List Int):List Int:=ws.take s++cs++ws.drop (s+cs.length)
def jq(k:Nat)(ws:List Int):List (List Int):=(Pw k).map λi=>(ws.drop (8*i)).take 8
inductive xV(K:DD)(v:List V)(H:Hp)(Q:VK)(e:XK):Prop
 |mk (a c:Addr) (ws cs:List Int) (ad:Int) (k:Nat) (_:v=[.ref a,.int ad,.ref c]) (_:H a=some (.lst (ws.map V.int))) (_:bq K H c (cs.map V.int)) (_:ws.length<=600) (_:cs.length<=600) (_:k<=64) (_:(fQ ws (ad%8).toNat cs).length=8*k) (_:∀(H':Hp)(l:Addr)(rs:List Addr),aR H H'->H l=none->H' l=some (.lst (rs.map V.ref))->Paired (λr (row:List Int)=>H' r=some (.lst (row.map V.int))) rs (jq k (fQ ws (ad%8).toNat cs))->(∀r∈rs,H r=none)->rs.Nodup->Q (.ref l) H'):xV K v H Q e
theorem LC:∀k:Nat,k<65->Builtin.Range.small 0 (8*(k:Int)) 8=true/\Builtin.Range.rangeSize 0 (8*(k:Int)) 8=(k:Int)/\Builtin.divisionGoesByPylong (8*(k:Int)-0) 8=false:=ak
theorem JF:aA ["whole","address","many","start"] ["whole","address","many"] (aq tR):=L2.bC
theorem Au(F:cj K "run_within" "run_within" tR f fd)(T:xn mg):↥aN 1 f fd ["whole","address","many"] oQ:=by
 let#[S,G,N]:=T.cells;show F.dE JF (λO A outer s H vs Q E R h=>?_);let#[a,ws,ad,n,rfl,J,k]:=h;show#[_,(ai (cQ 3 JF.nd (ay bw (pv 1) (bG (by rfl) G N)))
  (ao (aJ (hJ jQ (pv 0) (gD (pv 3)) (gD (ay bD (pv 3) (pv 2))))))),?_]
 show#[0,_,0,rfl,Ih,?_];let L:=OI ad (show(8:Int)≠0 by decide);show#[0,0,ad%8,rfl,0,0,_,0,rfl,ad%8+n,rfl,a,0,bq.of J,λl z=>?_];let e:ad%8=((ad%8).toNat:Int):=(RM L).symm;let I:kG (ws.map V.int) (some (ad%8)) (some (ad%8+n))=((ws.drop (ad%8).toNat).take n).map V.int:=by
  rw[e];show yT
 show k _ l (au z) z (by rw[ae,I])
theorem HX:aA ["whole","address","cells","start","changed"] ["whole","address","cells"] (aq BC):=L2.bC
theorem FJ(F:cj K "pages_with" "pages_with" BC f fd)(T:xn mg):↥aN 1 f fd ["whole","address","cells"] (xV K):=by
 let#[u8,m8,r8]:=T.cells;show F.dE HX (λa3 A outer s H vs Q E hr h=>?_);let#[a,c,ws,cs,ad,j,rfl,ha,hc,hw,a4,hj,a2,k]:=h;let hs:=vl;show#[_,(ai (cQ 3 HX.nd (ay bw (pv 1) (bG (by rfl) m8 r8)))
  (ai (cQ 4 HX.nd (ay sA (ay sA (hJ jQ (pv 0) nQ (gD (pv 3))) (cJ dY (by rfl) T.list fb (aa (pv 2) ag))) (hJ jQ (pv 0) (gD (ay bD (pv 3) (aO bB (by rfl) T.len boot_len (aa (pv 2) ag)))) nQ)))
  (ao (aJ (jC (cl:=[("changed",s⁻¹+1)]) (caps:=[("changed",4)]) #[rfl,ak,ak,rfl,by kernel_rfl,by intro p G;simp only[se,DO,or_false]at G;rcases G with rfl<;>first|rfl|show#[rfl,.inl rfl,.inl rfl]|show#[rfl,.inl rfl,.inr rfl],by kernel_rfl,by intro p G;simp only[se,DO,or_false]at G;rcases G with rfl<;>first|rfl|show#[rfl,.inl rfl,.inl rfl]|show#[rfl,.inl rfl,.inr rfl],ak] rfl (AU (by rfl) T.range (aa ah (aa (aO bB (by rfl) T.len boot_len (aa (pv 4) ag)) (aa (bG (by rfl) m8 r8) ag)))) (λ_ _ _ _=>iG) (λ_ _ _ _=>(hJ (show LF _ (Gx K)from jQ) (pv 1) (gD (pv 0)) (gD (ay bD (pv 0) (bG (by rfl) m8 r8)))))))))),?_]
 show gN λ_ Y=>?_;show#[0,_,0,rfl,Ih,?_];let m0:=OI ad (show(8:Int)≠0 by decide);let e:ad%8=((ad%8).toNat:Int):=(RM m0).symm;show Y _ _ ?_;change cn _ _ _ [some (V.ref a),some (.int ad),some (.ref c),some (.int (ad%8)),none] H;rw[e];generalize (ad%8).toNat=st at *;clear e m0;show gN λ_ Y=>?_;show#[0,0,(st:Int),rfl,a,0,bq.of ha,λl1 a1=>?_];rw[xT];let s1:=au (X:=.lst ((ws.take st).map V.int)) a1;let e1:(upd H l1 (.lst ((ws.take st).map V.int))) l1=some (.lst ((ws.take st).map V.int)):=ae;show#[0,c,0,.inl (gn hc (s1 _)),λl2 a0=>?_];let s2:=au (X:=.lst (cs.map V.int)) a0;show#[l1,l2,_,0,rfl,s2 _ _ e1,ae,by rw[qi,qi,Oz];omega,λO aB=>?_];rw[<-N5];let s3:=au (X:=.lst ((ws.take st++cs).map V.int)) aB;let U:=(s1.trans s2).trans s3;let e3:(upd (upd (upd H l1 (.lst ((ws.take st).map V.int))) l2 (.lst (cs.map V.int))) O (.lst ((ws.take st++cs).map V.int))) O=some (.lst ((ws.take st++cs).map V.int)):=ae;generalize upd (upd (upd H l1 (.lst ((ws.take st).map V.int))) l2 (.lst (cs.map V.int))) O (.lst ((ws.take st++cs).map V.int))=R at *;show#[0,0,0,c,0,.inl (gn hc (U _)),_,0,rfl,0,a,0,bq.of (U _ _ ha),λN as=>?_];rw[show((st:Int)+((cs.map V.int).length:Nat))=((st+cs.length:Nat):Int)by rw[qi];push_cast;rfl,Ar];let s4:=au (X:=.lst ((ws.drop (st+cs.length)).map V.int)) as;show#[O,N,_,0,rfl,s4 _ _ e3,ae,by rw[qi,qi,y3,Oz,P1];omega,λJ aT=>?_];rw[<-N5,show ws.take st++cs++ws.drop (st+cs.length)=fQ ws st cs from rfl];let S5:aR H (upd (upd R N (.lst ((ws.drop (st+cs.length)).map V.int))) J (.lst ((fQ ws st cs).map V.int))):=(U.trans s4).trans (au aT);let e5:(upd (upd R N (.lst ((ws.drop (st+cs.length)).map V.int))) J (.lst ((fQ ws st cs).map V.int))) J=some (.lst ((fQ ws st cs).map V.int)):=ae;generalize upd (upd R N (.lst ((ws.drop (st+cs.length)).map V.int))) J (.lst ((fQ ws st cs).map V.int))=H5 at *;generalize fQ ws st cs=sp at *;let#[r1,r2,r3]:=LC j af;show Y _ _ (MD λ_ jr=>?_);show#[0,J,0,.inl (bq.of e5),(0),8*(j:Int),(8),j,by rw[qi,a2];push_cast;rfl,r1,r2,ar,r3,?_];show tT (lo:=0) (st:=8) (n:=j) (λi ys L=>∃rs:List Addr,Em (ys=rs.map V.ref) (rs.length=i) (Paired (λr (ab:List Int)=>L r=some (.lst (ab.map V.int))) rs (jq i sp)) (aR H5 L) ((∀r∈rs,H5 r=none)) rs.Nodup) #[[],1,.nil,aR.refl _,(λ_ h=>nomatch h),Pu] ?_ ?_
 .rintro i ys L hi ⟨rs,rfl,ac,G,I,hn,nd⟩;show#[0,0,0,0,_,0,rfl,0,J,0,bq.of (I _ _ e5),λr S=>?_];rw[show(0+(i:Int)*8)=((8*i:Nat):Int)by push_cast;omega,show(((8*i:Nat):Int)+8)=((8*i:Nat):Int)+((8:Nat):Int)from rfl,yT];let sr:=au (X:=.lst (((sp.drop (8*i)).take 8).map V.int)) S;show#[by rw[qi];omega,rs++[r],by rw[N5];rfl,by rw[y3,ac];rfl,?_,I.trans sr,λx hx=>?_,?_]
  .unfold jq at G ⊢;rw[List.range_succ,N5];show w6 (ye (λx y h=>sr _ _ h) G) (.cons ae .nil)
  .rcases t4.mp hx with hx|hx
   .show hn x hx
   .rw[qj.mp hx];show I.free S
  .show Qu.mpr #[nd,N6.mpr #[by simp,Pu],λx hx y hy=>?_];rw[qj.mp hy];intro z;let#[ab,am]:=xi G hx;rwa[z,S]at am
 .rintro ys L ⟨rs,rfl,ac,G,I,hn,nd⟩ l6 ap;let s7:=au (X:=.lst (rs.map V.ref)) ap;show jr _ _ (k _ l6 rs ((S5.trans I).trans s7) ((S5.trans I).free ap) ae (ye (λx y h=>s7 _ _ h) G) (λr h=>S5.free (hn r h)) nd)
end Rm
namespace Pg
def upd{α:Type}(f:Bool->α)(b:Bool)(v:α):Bool->α:=λc=>if c=b then v else f c
def d9{α:Type}(f:Int->α)(k:Int)(v:α):Int->α:=λj=>if j=k then v else f j
theorem ae{α:Type}{f:Bool->α}{b:Bool}{v:α}:upd f b v b=v:=Wy rfl
theorem bh{α:Type}{f:Bool->α}{b c:Bool}{v:α}(h:c≠b):upd f b v c=f c:=Wx h
theorem bt{α:Type}{f:Int->α}{b:Int}{v:α}:d9 f b v b=v:=Wy rfl
theorem aL{α:Type}{f:Int->α}{b c:Int}{v:α}(h:c≠b):d9 f b v c=f c:=Wx h
structure PS where
 ow:Bool->List Int
 co:Bool->List (Option (List Int))
 pl:Int->Option (Bool×Nat)
 ls:Int
 inf:List Int
def Vw(s:PS)(k:Int)(cs:List Int)(c:Int):Prop:=∃b n,s.pl k=some (b,n)/\(s.co b)[n]?=some (some cs)/\(s.ow b)[n]?=some c
structure Good(s:PS):Prop where
 rg:∀k p,s.pl k=some p->1<=k/\k<=s.ls
 va:∀k b n,s.pl k=some (b,n)->∃cs c,(s.co b)[n]?=some (some cs)/\(s.ow b)[n]?=some c/\1<=c/\cs.length=8
 inj:∀k j p,s.pl k=some p->s.pl j=some p->k=j
 on:∀b n c,(s.ow b)[n]?=some c->c=0\/∃k,s.pl k=some (b,n)
 ln:∀b,(s.co b).length=(s.ow b).length
 nd:s.inf.Nodup
 fi:∀k,k∈s.inf↔∃n,s.pl k=some (true,n)
def zb(s:PS)(b:Bool)(k:Int)(cs:List Int)(c:Int):PS :=
 { ow:=upd s.ow b ((s.ow b).set ((s.ow b).idxOf 0) c),co:=upd s.co b ((s.co b).set ((s.ow b).idxOf 0) (some cs)),pl:=d9 s.pl k (some (b,(s.ow b).idxOf 0)),ls:=s.ls,inf:=if b=true then s.inf++[k]else s.inf }
def qJ(s:PS)(k:Int)(b:Bool)(n:Nat):PS :=
 { ow:=upd s.ow b ((s.ow b).set n 0),co:=s.co,pl:=d9 s.pl k none,ls:=s.ls,inf:=s.inf.erase k }
def cF(s:PS)(b:Bool)(n:Nat)(c:Int):PS:={ s with ow:=upd s.ow b ((s.ow b).set n c) }
def write(s:PS)(b:Bool)(n:Nat)(cs:List Int):PS:={ s with co:=upd s.co b ((s.co b).set n (some cs)) }
theorem xQ{l:List Int}(h:(0:Int)∈l):l[l.idxOf 0]?=some 0:=by
 let z:l.idxOf 0<l.length:=OV.mpr h;rw[M4 z,Sf z]
theorem yF{l:List Int}(h:(0:Int)∈l):l.idxOf 0<l.length:=OV.mpr h
section
variable{s:PS}{b:Bool}{k:Int}{cs:List Int}{c:Int}{n:Nat}
theorem zp(G:Good s)(h:(0:Int)∈s.ow b):∀j,s.pl j≠some (b,(s.ow b).idxOf 0):=by
 intro j e;let#[cs,c,_,h2,z,_]:=G.va _ _ _ e;rwa[xQ h]at h2;omega
theorem qB(G:Good s)(h0:(0:Int)∈s.ow b)(R:s.pl k=none)(h1:1<=k)(h2:k<=s.ls)(h3:1<=c)(h4:cs.length=8):Good (zb s b k cs c):=by
 let hl:=yF h0;let S:=zp G h0;let ac:(s.ow b).idxOf 0<(s.co b).length:=(by rw[G.ln b];show hl);show#[3,3,3,?_]
 .intro j p e;cases F:j=k
  .subst F;show#[h1,h2]
  .show G.rg j p (by rw[<-e];show(aL F).symm)
 .intro j b' O e;cases F:j=k
  .subst F;let e:some (b,(s.ow b).idxOf 0)=some (b',O):=(by rw[<-e];show bt.symm);cases e;show#[cs,c,3,h3,h4]
   .change(upd s.co b _ b)[_]?=_;rw[ae,Ot ac]
   .change(upd s.ow b _ b)[_]?=_;rw[ae,Ot hl]
  .let J:s.pl j=some (b',O):=(by rw[<-e];show(aL F).symm);let#[ab,U,e1,Y,e3,e4]:=G.va _ _ _ J;show#[ab,U,3,e3,e4]
   .change(upd s.co b _ b')[_]?=_;cases z:b'=b
    .subst z;rw[ae,Og (λq=>S j (by rw[J,q]))];show e1
    .rw[bh z];show e1
   .change(upd s.ow b _ b')[_]?=_;cases z:b'=b
    .subst z;rw[ae,Og (λq=>S j (by rw[J,q]))];show Y
    .rw[bh z];show Y
 .intro j N p e I;cases F:j=k
  .by_cases L:N=k
   .rw[F,L]
   .subst F;let e:some (b,(s.ow b).idxOf 0)=some p:=(by rw[<-e];show bt.symm);let I:s.pl N=some p:=(by rw[<-I];show(aL L).symm);show absurd (I.trans e.symm) (S N)
  .let J:s.pl j=some p:=(by rw[<-e];show(aL F).symm);cases L:N=k
   .subst L;let I:some (b,(s.ow b).idxOf 0)=some p:=(by rw[<-I];show bt.symm);show absurd (J.trans I.symm) (S j)
   .let I:s.pl N=some p:=(by rw[<-I];show(aL L).symm);show G.inj _ _ _ J I
 .intro b' O U e;let e:(upd s.ow b ((s.ow b).set ((s.ow b).idxOf 0) c) b')[O]?=some U:=e;cases z:b'=b
  .subst z;cases en:(s.ow b').idxOf 0=O
   .show .inr #[k,by change d9 s.pl k _ k=_;rw[bt,en]]
   .rw[ae,Og en]at e;rcases G.on _ _ _ e with h|⟨j,h⟩
    .show .inl h
    .show .inr #[j,?_];change d9 s.pl k _ j=_;rw[aL (λq=>by rwa[q,R]at h)];show h
  .rw[bh z]at e;rcases G.on _ _ _ e with h|⟨j,h⟩
   .show .inl h
   .show .inr #[j,?_];change d9 s.pl k _ j=_;rw[aL (λq=>by rwa[q,R]at h)];show h
 .intro b';change(upd s.co b _ b').length=(upd s.ow b _ b').length;cases z:b'=b
  .subst z;rw[ae,ae,OG,OG];show G.ln _
  .rw[bh z,bh z];show G.ln _
 .change(if b=true then s.inf++[k]else s.inf).Nodup;cases z:b=true
  .rw[Wy z];show Qu.mpr #[G.nd,by simp,?_];intro x hx y hy e;rw[qj]at hy;subst hy;subst e;let#[m,hm]:=(G.fi x).mp hx;rwa[R]at hm
  .rw[Wx z];show G.nd
 .intro j;change j∈(if b=true then s.inf++[k]else s.inf)↔∃m,d9 s.pl k (some (b,(s.ow b).idxOf 0)) j=some (true,m);cases F:j=k
  .subst F;rw[bt];cases z:b=true
   .subst z;rw[Wy rfl];show#[λ_=>#[0],λ_=>by simp]
   .rw[Wx z,G.fi];show#[λ⟨m,h⟩=>(by rwa[R]at h),λ⟨m,h⟩=>(by cases h;show absurd rfl z)]
  .rw[aL F, <-G.fi];cases z:b=true
   .rw[Wy z];simp[F]
   .rw[Wx z]
theorem oU(z:(0:Int)∈s.ow b)(G:Good s):Vw (zb s b k cs c) k cs c:=by
 show#[b,(s.ow b).idxOf 0,bt,3]
 .change(upd s.co b _ b)[_]?=_;rw[ae,Ot (by rw[G.ln b];show yF z)]
 .change(upd s.ow b _ b)[_]?=_;rw[ae,Ot (yF z)]
theorem mi(G:Good s)(S:(0:Int)∈s.ow b){j:Int}(O:j≠k){N:List Int}{R:Int}:Vw (zb s b k cs c) j N R↔Vw s j N R:=by
 let U:=zp G S;let A:∀b' z,s.pl j=some (b',z)->((zb s b k cs c).co b')[z]?=(s.co b')[z]?/\((zb s b k cs c).ow b')[z]?=(s.ow b')[z]?:=by
  intro b' z e;change(upd s.co b _ b')[z]?=_/\(upd s.ow b _ b')[z]?=_;cases J:b'=b
  .subst J;have:(s.ow b').idxOf 0≠z:=λq=>U j (by rw[e,q]);rw[ae,ae,Og this,Og this];show#[1]
  .rw[bh J,bh J];show#[1]
 constructor
 .rintro⟨b',z,F,L,I⟩;let F:s.pl j=some (b',z):=(by rw[<-F];show(aL O).symm);show#[b',z,F,by rw[<-(A _ _ F).1];show L,by rw[<-(A _ _ F).2];show I]
 .rintro⟨b',z,F,L,I⟩;show#[b',z,(aL O).trans F,by rw[(A _ _ F).1];show L,by rw[(A _ _ F).2];show I]
theorem lR(G:Good s)(I:s.pl k=some (b,n)):Good (qJ s k b n):=by
 let#[ab,c0,g1,g2,_,_]:=G.va _ _ _ I;let hn:n<(s.ow b).length:=(qc.mp g2).1;let L:∀{j p},(qJ s k b n).pl j=some p->j≠k/\s.pl j=some p:=by
  intro j p e;cases z:j=k
  .subst z;let J:(none:Option (Bool×Nat))=some p:=(by rw[<-e];show bt.symm);cases J
  .show#[z,by rw[<-e];show(aL z).symm]
 show#[3,3,3,?_]
 .intro j p e;show G.rg j p (L e).2
 .intro j b' O e;let#[z,J]:=L e;let#[Y,R,e1,S,U,e4]:=G.va _ _ _ J;show#[Y,R,e1,?_,U,e4];change(upd s.ow b _ b')[_]?=_;cases F:b'=b
  .subst F;rw[ae,Og (λq=>z (G.inj _ _ _ J (by rw[I,q])))];show S
  .rw[bh F];show S
 .intro j j' p e e';show G.inj _ _ _ (L e).2 (L e').2
 .intro b' O R e;let e:(upd s.ow b ((s.ow b).set n 0) b')[O]?=some R:=e;cases F:b'=b
  .subst F;cases N:n=O
   .subst N;rwa[ae,Ot hn]at e;show .inl rfl
   .rw[ae,Og N]at e;rcases G.on _ _ _ e with h|⟨j,h⟩
    .show .inl h
    .show .inr #[j,?_];change d9 s.pl k _ j=_;rw[aL (λq=>by rwa[q,I]at h;show N rfl)];show h
  .rw[bh F]at e;rcases G.on _ _ _ e with h|⟨j,h⟩
   .show .inl h
   .show .inr #[j,?_];change d9 s.pl k _ j=_;rw[aL (λq=>by rwa[q,I]at h;show F rfl)];show h
 .intro b';change(s.co b').length=(upd s.ow b _ b').length;cases F:b'=b
  .subst F;rw[ae,OG];show G.ln _
  .rw[bh F];show G.ln _
 .show G.nd.erase k
 .intro j;change j∈s.inf.erase k↔∃m,d9 s.pl k none j=some (true,m);rw[QP G.nd,G.fi];cases z:j=k
  .subst z;rw[bt];show#[λh=>absurd rfl h.1,λ⟨m,h⟩=>by cases h]
  .rw[aL z];show#[λh=>h.2,λh=>#[z,h]]
theorem jR(G:Good s)(S:s.pl k=some (b,n)){j:Int}(J:j≠k){N:List Int}{O:Int}:Vw (qJ s k b n) j N O↔Vw s j N O:=by
 let A:∀b' z,s.pl j=some (b',z)->((qJ s k b n).ow b')[z]?=(s.ow b')[z]?:=by
  intro b' z e;change(upd s.ow b _ b')[z]?=_;cases R:b'=b
  .subst R;rw[ae,Og (λq=>J (G.inj _ _ _ e (by rw[S,q])))]
  .rw[bh R]
 constructor
 .rintro⟨b',z,F,L,I⟩;let F:s.pl j=some (b',z):=(by rw[<-F];show(aL J).symm);show#[b',z,F,L,by rw[<-A _ _ F];show I]
 .rintro⟨b',z,F,L,I⟩;show#[b',z,(aL J).trans F,L,by rw[A _ _ F];show I]
theorem wo(G:Good s)(z:s.pl k=some (b,n)):(0:Int)∈(qJ s k b n).ow b:=by
 let#[N,L,J,F,_,_]:=G.va _ _ _ z;let I:n<(s.ow b).length:=(qc.mp F).1;change(0:Int)∈upd s.ow b _ b;rw[ae];show vh (Ot I)
theorem lC(G:Good s)(O:s.pl k=some (b,n))(S:1<=c):Good (cF s b n c):=by
 let#[ab,c0,g1,Y,_,g4]:=G.va _ _ _ O;let hn:n<(s.ow b).length:=(qc.mp Y).1;show#[G.rg,?_,G.inj,3,G.nd,G.fi]
 .intro j b' F e;let#[U,L,e1,R,N,e4]:=G.va j b' F e;let A:∃J,(upd s.ow b ((s.ow b).set n c) b')[F]?=some J/\1<=J:=by
   cases z:b'=b
   .subst z;rw[ae];cases I:n=F
    .subst I;show#[c,Ot hn,S]
    .rw[Og I];show#[L,R,N]
   .rw[bh z];show#[L,R,N]
  let#[J,a1,a2]:=A;show#[U,J,e1,a1,a2,e4]
 .intro b' F L e;let e:(upd s.ow b ((s.ow b).set n c) b')[F]?=some L:=e;cases z:b'=b
  .subst z;rw[ae]at e;cases I:n=F
   .subst I;show .inr #[k,O]
   .rw[Og I]at e;show G.on _ _ _ e
  .rw[bh z]at e;show G.on _ _ _ e
 .intro b';change(s.co b').length=(upd s.ow b _ b').length;cases z:b'=b
  .subst z;rw[ae,OG];show G.ln _
  .rw[bh z];show G.ln _
theorem ke(G:Good s)(F:s.pl k=some (b,n)){J:Int}(h:Vw s k cs J):Vw (cF s b n c) k cs c:=by
 let#[b',N,z,L,I]:=h;rwa[F]at z;show#[b,n,F,L,?_];change(upd s.ow b _ b)[_]?=_;rw[ae,Ot (qc.mp I).1]
theorem eB(G:Good s)(S:s.pl k=some (b,n)){j:Int}(R:j≠k){L:List Int}{N:Int}:Vw (cF s b n c) j L N↔Vw s j L N:=by
 let A:∀b' z,s.pl j=some (b',z)->((cF s b n c).ow b')[z]?=(s.ow b')[z]?:=by
  intro b' z e;change(upd s.ow b _ b')[z]?=_;cases O:b'=b
  .subst O;rw[ae,Og (λq=>R (G.inj _ _ _ e (by rw[S,q])))]
  .rw[bh O]
 constructor
 .rintro⟨b',z,F,J,I⟩;show#[b',z,F,J,by rw[<-A _ _ F];show I]
 .rintro⟨b',z,F,J,I⟩;show#[b',z,F,J,by rw[A _ _ F];show I]
theorem w9(G:Good s)(U:s.pl k=some (b,n))(S:cs.length=8):Good (write s b n cs):=by
 let#[ab,c0,g1,g2,_,g4]:=G.va _ _ _ U;let hn:n<(s.co b).length:=(qc.mp g1).1;show#[G.rg,?_,G.inj,G.on,?_,G.nd,G.fi]
 .intro j b' I e;let#[J,c',L,e2,R,N]:=G.va j b' I e;let A:∃F,(upd s.co b ((s.co b).set n (some cs)) b')[I]?=some (some F)/\F.length=8:=by
   cases z:b'=b
   .subst z;rw[ae];cases O:n=I
    .subst O;show#[cs,Ot hn,S]
    .rw[Og O];show#[J,L,N]
   .rw[bh z];show#[J,L,N]
  let#[F,a1,Y]:=A;show#[F,c',a1,e2,R,Y]
 .intro b';change(upd s.co b _ b').length=(s.ow b').length;cases z:b'=b
  .subst z;rw[ae,OG];show G.ln _
  .rw[bh z];show G.ln _
theorem DV(G:Good s)(F:s.pl k=some (b,n)){J:List Int}(h:Vw s k J c):Vw (write s b n cs) k cs c:=by
 let#[b',N,z,L,I]:=h;rwa[F]at z;show#[b,n,F,?_,I];change(upd s.co b _ b)[_]?=_;rw[ae,Ot (qc.mp L).1]
theorem jw(G:Good s)(S:s.pl k=some (b,n)){j:Int}(R:j≠k){L:List Int}{N:Int}:Vw (write s b n cs) j L N↔Vw s j L N:=by
 let A:∀b' z,s.pl j=some (b',z)->((write s b n cs).co b')[z]?=(s.co b')[z]?:=by
  intro b' z e;change(upd s.co b _ b')[z]?=_;cases O:b'=b
  .subst O;rw[ae,Og (λq=>R (G.inj _ _ _ e (by rw[S,q])))]
  .rw[bh O]
 constructor
 .rintro⟨b',z,F,J,I⟩;show#[b',z,F,by rw[<-A _ _ F];show J,I]
 .rintro⟨b',z,F,J,I⟩;show#[b',z,F,by rw[A _ _ F];show J,I]
end
end Pg
namespace Pg
theorem sum_set{l:List Int}{n:Nat}{x y:Int}(h:l[n]?=some x):(l.set n y).sum=l.sum-x+y:=by
 induction l generalizing n with
 |nil=>cases h
 |cons a l z =>
  cases n with
  |zero =>
   cases h;change(y::l).sum=_;simp only[Sk];omega
  |succ n =>
   let h:l[n]?=some x:=h;change(a::l.set n y).sum=_;simp only[Sk,z h];omega
def all(s:PS):Int:=(s.ow true).sum+(s.ow false).sum
theorem sL{ow:Bool->List Int}{b:Bool}{n:Nat}{x y:Int}(h:(ow b)[n]?=some x) :
  (upd ow b ((ow b).set n y) true).sum+(upd ow b ((ow b).set n y) false).sum=(ow true).sum+(ow false).sum-x+y:=by
 cases b
 .rw[bh ar,ae,sum_set h];omega
 .rw[ae,bh ar,sum_set h];omega
section
variable{s s':PS}{b:Bool}{k:Int}{cs:List Int}{c:Int}{n:Nat}
theorem sM(z:(0:Int)∈s.ow b):all (zb s b k cs c)=all s+c:=by
 have:=sL (ow:=s.ow) (y:=c) (xQ z);unfold all zb;dsimp only;omega
theorem tQ{z:Int}(h:(s.ow b)[n]?=some z):all (qJ s k b n)=all s-z:=by
 have:=sL (ow:=s.ow) (y:=0) h;unfold all qJ;dsimp only;omega
theorem m5{z:Int}(h:(s.ow b)[n]?=some z):all (cF s b n c)=all s-z+c:=by
 have:=sL (ow:=s.ow) (y:=c) h;unfold all cF;dsimp only;omega
theorem eG{f:Bool->List Int}{n:Nat}{x:Int}(b':Bool):(upd f b ((f b).set n x) b').length=(f b').length:=by
 cases e:b'=b
 .subst e;rw[ae,OG]
 .rw[bh e]
structure Kept(s s':PS)(k:Int):Prop where
 ot:∀j cs' c',j≠k->(Vw s' j cs' c'↔Vw s j cs' c')
 ln:∀b,(s'.ow b).length=(s.ow b).length
 fr:(0:Int)∈s'.ow true->(0:Int)∈s.ow true/\∀j m,j≠k->s.pl j=some (true,m)->s'.pl j=some (true,m)
theorem Cs{l:List Int}{n:Nat}{x:Int}(hx:x≠0)(h:(0:Int)∈l.set n x):(0:Int)∈l:=by
 rcases Sr h with h|h
 .show h
 .show absurd h.symm hx
theorem AN(G:Good s)(F:(0:Int)∈s.ow true)(I:1<=c):Kept s (zb s true k cs c) k :=
 #[λj J L z=>mi G F z,λb=>eG b,λh=>#[F,λj m z e=>(aL z).trans e]]
def out(s:PS)(k0:Int)(F:Nat)(G:List Int)(z:Int):PS:=zb (qJ s k0 true F) false k0 G z
theorem vN(G:Good s){k0:Int}{z:Nat}{I:List Int}{F:Int}(J:s.pl k0=some (true,z))(hv:Vw s k0 I F)(hf:(0:Int)∈s.ow false) :
  Good (out s k0 z I F)/\Vw (out s k0 z I F) k0 I F/\(∀j O R,j≠k0->(Vw (out s k0 z I F) j O R↔Vw s j O R))/\(0:Int)∈(out s k0 z I F).ow true/\all (out s k0 z I F)=all s /\
  (∀b,((out s k0 z I F).ow b).length=(s.ow b).length)/\(∀j,j≠k0->(out s k0 z I F).pl j=s.pl j):=by
 let#[b',n',Y,e2,U]:=hv;rwa[J]at Y;let#[ab,c9,a1,a2,a3,a4]:=G.va _ _ _ J;rwa[e2]at a1;rwa[U]at a2;let S:=lR G J;let N:(0:Int)∈(qJ s k0 true z).ow false:=by
  show(bh (f:=s.ow) (v:=(s.ow true).set z 0) (show false≠true by decide)).symm▸hf
 let hn:(qJ s k0 true z).pl k0=none:=bt;let hr:=G.rg _ _ J;show#[qB S N hn hr.1 hr.2 a3 a4,oU N S,3,3,?_]
 .intro j O R L;show(mi S N L).trans (jR G J L)
 .show(bh (f:=(qJ s k0 true z).ow) (b:=false) (v:=((qJ s k0 true z).ow false).set (((qJ s k0 true z).ow false).idxOf 0) F) (show true≠false by decide)).symm▸wo G J
 .change all (zb _ _ _ _ _)=_;rw[sM N,tQ U];omega
 .intro b;show(eG (f:=(qJ s k0 true z).ow) b).trans (eG b)
 .intro j L;show(aL L).trans (aL L)
inductive BI(s:PS)(k:Int)(cs:List Int)(c:Int):PS->Prop
 |free:(0:Int)∈s.ow true->BI s k cs c (zb s true k cs c)
 |full {k0:Int}{r:List Int}{n0:Nat}{cs0:List Int}{c0:Int}:¬ (0:Int)∈s.ow true->(0:Int)∈s.ow false->s.inf=k0::r->s.pl k0=some (true,n0)->Vw s k0 cs0 c0->BI s k cs c (zb (out s k0 n0 cs0 c0) true k cs c)
structure Nr(s:PS)(k:Int)(cs:List Int)(c:Int)(s':PS):Prop where
 good:Good s'
 vw:Vw s' k cs c
 fr:∃m,s'.pl k=some (true,m)
 kept:Kept s s' k
 ls:s'.ls=s.ls
 al:all s'=all s+c
theorem FU(G:Good s)(R:s.pl k=none)(h1:1<=k)(h2:k<=s.ls)(h3:1<=c)(h4:cs.length=8)(h:BI s k cs c s'):Nr s k cs c s':=by
 cases h with
 |free S=>show#[qB G S R h1 h2 h3 h4,oU S G,#[_,bt],AN G S h3,rfl,sM S]
 | @full k0 r z I F nf hf hi hp hv =>
  let#[g1,g2,g3,L,g5,g6,g7]:=vN G hp hv hf;let am:k≠k0:=λe=>(by rwa[e,hp]at R);let ac:(out s k0 z I F).pl k=none:=(by rw[g7 k am];show R);show#[qB g1 L ac h1 h2 h3 h4,oU L g1,#[_,bt],#[3,?_],4]
  .intro j ab c' hj;rw[mi g1 L hj];cases e:j=k0
   .subst e;constructor
    .intro U;let#[x1,x2,y1,y2,Y]:=U;let#[z1,z2,N,O,J]:=g2;rwa[y1]at N;rwa[y2]at O;rwa[Y]at J;show hv
    .intro U;let#[x1,x2,y1,y2,Y]:=U;let#[z1,z2,N,O,J]:=hv;rwa[y1]at N;rwa[y2]at O;rwa[Y]at J;show g2
   .show g3 j ab c' e
  .intro b;show(eG (f:=(out s k0 z I F).ow) b).trans (g6 b)
  .intro h;exfalso;apply nf;let h:(0:Int)∈upd (out s k0 z I F).ow true (((out s k0 z I F).ow true).set (((out s k0 z I F).ow true).idxOf 0) c) true:=h;rw[ae]at h;let e1:(out s k0 z I F).ow true=(s.ow true).set z 0:=by
    show(bh (f:=(qJ s k0 true z).ow) (b:=false) (v:=((qJ s k0 true z).ow false).set (((qJ s k0 true z).ow false).idxOf 0) F) (show true≠false by decide)).trans (show upd s.ow true ((s.ow true).set z 0) true=_ from ae)
   rw[e1]at h;let#[i,ad,e]:=Rb h;let hl:i<(s.ow true).length:=‹ad›;let hz:(0:Int)∈(s.ow true).set z 0:=e1▸L;let e0:((s.ow true).set z 0).idxOf 0=z:=by
    let q:=xQ hz;cases en:z=((s.ow true).set z 0).idxOf 0
    .show en.symm
    .rw[Og en]at q;show absurd (vh q) nf
   rw[U3]at e;split at e
   .omega
   .rename_i ne;rw[U3]at e;split at e
    .rename_i e2;show absurd (e0.trans e2) ne
    .show e▸P6 hl
  .rw[sM L,g5]
theorem K7(G:Good s)(Y:(0:Int)∈s.ow true\/(0:Int)∈s.ow false)(S:s.ow true≠[]):((0:Int)∈s.ow true)\/(¬ (0:Int)∈s.ow true/\(0:Int)∈s.ow false/\∃k0 r z F I,s.inf=k0::r/\s.pl k0=some (true,z)/\Vw s k0 F I):=by
 cases h:(0:Int)∈s.ow true
 .show .inl h
 .show .inr #[h,Y.resolve_left h,?_];let L:0<(s.ow true).length:=List.length_pos_iff.mpr S;let U:(s.ow true)[0]?=some (s.ow true)[0]:=M4 L;rcases G.on _ _ _ U with e|⟨j,e⟩
  .show absurd (e▸P6 L) h
  .let N:j∈s.inf:=(G.fi j).mpr #[_,e];cases hi:s.inf with
   |nil=>rwa[hi]at N
   |cons k0 r =>
    let#[z,J]:=(G.fi k0).mp (by rw[hi];show Oi);let#[F,I,R,O,_,_]:=G.va _ _ _ J;show#[k0,r,z,F,I,rfl,J,true,z,J,R,O]
end
end Pg
namespace Pg
section
variable{s s':PS}{b:Bool}{k:Int}{cs:List Int}{c:Int}{n:Nat}
theorem Vw.one{z:List Int}{G:Int}(h:Vw s k cs c)(h':Vw s k z G):z=cs/\G=c:=by
 let#[Y,S,N,O,L]:=h;let#[R,U,F,J,I]:=h';rwa[N]at F;rwa[O]at J;rwa[L]at I;show#[1]
theorem Good.vw(G:Good s)(h:Vw s k cs c):1<=c/\cs.length=8:=by
 let#[U,S,L,O,J]:=h;let#[R,Y,z,F,I,N]:=G.va _ _ _ L;rwa[O]at z;rwa[J]at F;show#[I,N]
def used(s:PS)(k:Int):PS:={ s with inf:=s.inf.erase k++[k] }
theorem Ag(G:Good s)(F:s.pl k=some (true,n)):Good (used s k):=by
 show#[G.rg,G.va,G.inj,G.on,G.ln,3]
 .show Qu.mpr #[G.nd.erase k,by simp,?_];intro x hx y z e;rw[qj]at z;subst z;subst e;show((QP G.nd).mp hx).1 rfl
 .intro j;change j∈s.inf.erase k++[k]↔_;rw[t4,qj,QP G.nd,G.fi];constructor
  .rintro(h|h)
   .show h.2
   .subst h;show#[n,F]
  .intro h;cases e:j=k
   .show .inr e
   .show .inl #[e,h]
inductive FE(s:PS)(k:Int):PS->Prop
 |here {n:Nat}:s.pl k=some (true,n)->FE s k (used s k)
 |away {n:Nat}{cs:List Int}{c:Int}{s':PS}:s.pl k=some (false,n)->Vw s k cs c->BI (qJ s k false n) k cs c s'->FE s k s'
structure NU(s:PS)(k:Int)(s':PS):Prop where
 good:Good s'
 vw:∀j cs c,Vw s' j cs c↔Vw s j cs c
 fr:∃m,s'.pl k=some (true,m)
 kept:Kept s s' k
 ls:s'.ls=s.ls
 al:all s'=all s
theorem m7(G:Good s)(h:FE s k s'):NU s k s':=by
 cases h with
 |here z=>show#[Ag G z,λ_ _ _=>Iff.rfl,#[_,z],#[λ_ _ _ _=>Iff.rfl,λ_=>rfl,λh=>#[h,λ_ _ _ e=>e]],1]
 | @away n cs c _ z F hb =>
  let GR:=lR G z;let R:=G.rg _ _ z;let O:=G.vw F;let B:=FU GR (show d9 s.pl k none k=none from bt) R.1 R.2 O.1 O.2 hb;let U:(s.ow false)[n]?=some c:=by
   let#[x1,x2,S,y2,Y]:=F;rwa[z]at S;show Y
  show#[B.good,?_,B.fr,#[3,?_],B.ls,?_]
  .intro j I L;cases e:j=k
   .subst e;constructor
    .intro h;let#[J,N]:=B.vw.one h;subst J;subst N;show F
    .intro h;let#[J,N]:=F.one h;subst J;subst N;show B.vw
   .show(B.kept.ot j I L e).trans (jR G z e)
  .intro j I L e;show(B.kept.ot j I L e).trans (jR G z e)
  .intro b;show(B.kept.ln b).trans (eG b)
  .intro h;let#[a1,a2]:=B.kept.fr h;let e0:(qJ s k false n).ow true=s.ow true:=bh (f:=s.ow) (v:=(s.ow false).set n 0) (show true≠false by decide);show#[e0▸a1,λj m e hj=>a2 j m e ((aL e).trans hj)]
  .rw[B.al,tQ U];omega
def next(s:PS):PS:={ s with ls:=s.ls+1 }
theorem rE(G:Good s):Good (next s):=#[λk p h=>by have:=G.rg k p h;show#[this.1,by change k<=s.ls+1;omega],G.va,G.inj,G.on,G.ln,G.nd,G.fi]
theorem gi(G:Good s):s.pl (s.ls+1)=none:=by
 cases h:s.pl (s.ls+1)with
 |none=>rfl
 |some p=>have:=G.rg _ _ h;omega
theorem mG(G:Good s)(F:0<=s.ls)(z:cs.length=8)(h:BI (next s) (s.ls+1) cs 1 s'):Nr (next s) (s.ls+1) cs 1 s' :=
 FU (rE G) (gi G) af (OR _) (OR _) z h
inductive Fn(s:PS)(k:Int):PS->Prop
 |more {b:Bool}{n:Nat}{cs:List Int}{c:Int}:s.pl k=some (b,n)->Vw s k cs c->1<c->Fn s k (cF s b n (c-1))
 |last {b:Bool}{n:Nat}{cs:List Int}:s.pl k=some (b,n)->Vw s k cs 1->Fn s k (qJ s k b n)
theorem wc(G:s.pl k=some (b,n))(F:Vw s k cs c):(s.ow b)[n]?=some c:=by
 let#[J,N,z,L,I]:=F;rwa[G]at z;show I
structure NJ(s:PS)(k:Int)(c:Int)(s':PS):Prop where
 good:Good s'
 ot:∀j cs' c',j≠k->(Vw s' j cs' c'↔Vw s j cs' c')
 me:∀cs' c',Vw s' k cs' c'↔(1<c/\c'=c-1/\Vw s k cs' c)
 pl:∀j,j≠k->s'.pl j=s.pl j
 ln:∀b,(s'.ow b).length=(s.ow b).length
 ls:s'.ls=s.ls
 al:all s'=all s-1
 kept:1<c->Kept s s' k
theorem zu(G:Good s)(I:Vw s k cs c)(h:Fn s k s'):NJ s k c s':=by
 cases h with
 | @more b n ab U z S Y =>
  let#[F,L]:=I.one S;subst F;subst L;let R:=wc z I;show#[lC G z af,λj N O J=>eB G z J,?_,λ_ _=>rfl,λb=>eG b,rfl,3]
  .intro N O;let W:=ke (c:=U-1) G z I;constructor
   .intro h;let#[F,L]:=W.one h;subst F;subst L;show#[Y,rfl,I]
   .rintro⟨_,q,h⟩;let#[F,L]:=I.one h;subst F;subst q;show W
  .rw[m5 R];omega
  .intro _;show#[λj N O J=>eB G z J,λb=>eG b,λh=>#[?_,λ_ _ _ e=>e]];let h:(0:Int)∈upd s.ow b ((s.ow b).set n (U-1)) true:=h;cases e:true=b
   .subst e;rw[ae]at h;show Cs af h
   .rw[bh e]at h;show h
 | @last b n ab z S =>
  let#[F,L]:=I.one S;subst F;subst L;let R:=wc z I;show#[lR G z,λj N O J=>jR G z J,?_,λ_ J=>aL J,λb=>eG b,4,λh=>absurd h ar]
  .intro N O;constructor
   .rintro⟨x1,x2,y1,_,_⟩;let y9:(none:Option (Bool×Nat))=some (x1,x2):=(by rw[<-y1];show bt.symm);cases y9
   .rintro⟨q,_,_⟩;show absurd q ar
  .rw[tQ R]
theorem Bj(G:Good s)(F:s.pl k=some (b,n))(z:Vw s k cs c):Good (cF s b n (c+1))/\Vw (cF s b n (c+1)) k cs (c+1)/\all (cF s b n (c+1))=all s+1:=by
 have:=G.vw z;show#[lC G F af,ke G F z,?_];rw[m5 (wc F z)];omega
end
end Pg
namespace Pg
abbrev Ent:=Option Int
def full(es:List Ent):Int:=(es.countP (·.isSome):Nat)
structure RI(s:PS)(es:List Ent):Prop where
 good:Good s
 l0:0<=s.ls
 ne:s.ow true≠[]
 is:∀k,some k∈es->∃cs c,Vw s k cs c
 ct:∀k cs c,Vw s k cs c->c=(es.count (some k):Nat)
 al:all s=full es
 rm:es.length<=(s.ow true).length+(s.ow false).length
section
variable{s s':PS}{es r:List Ent}{k:Int}{cs:List Int}{c:Int}
theorem RI.perm{es':List Ent}(R:RI s es)(p:es.Perm es'):RI s es' :=
 #[R.good,R.l0,R.ne,λk h=>R.is k (p.mem_iff.mpr h),λk cs c h=>by rw[<-p.count_eq];show R.ct k cs c h,by rw[R.al];unfold full;rw[p.countP_eq],by rw[<-p.length_eq];show R.rm]
theorem jS:full (none::es)=full es:=by unfold full;rw[List.countP_cons_of_neg (by simp)]
theorem gW:full (some k::es)=full es+1:=by unfold full;rw[List.countP_cons_of_pos (by simp)];simp
theorem yZ:full es<=es.length:=by unfold full;exact_mod_cast List.countP_le_length
theorem km{j:Int}:(none::es).count (some j)=es.count (some j):=Rf (by simp)
theorem eI:(some k::es).count (some k)=es.count (some k)+1:=RE
theorem fL{j:Int}(h:j≠k):(some k::es).count (some j)=es.count (some j):=Rf ‹G0 h›
theorem RI.lay(R:RI s es)(h:es.length<(s.ow true).length+(s.ow false).length):RI s (none::es):=
 #[R.good,R.l0,R.ne,λk h=>R.is k ‹h›,λk cs c h=>by rw[km];show R.ct k cs c h,by rw[jS];show R.al,h]
theorem RI.bare(R:RI s (none::es)):RI s es :=
 #[R.good,R.l0,R.ne,λk h=>R.is k ‹h›,λk cs c h=>by rw[<-km];show R.ct k cs c h,by rw[<-jS];show R.al,SD R.rm]
theorem RI.leave(R:RI s (some k::es))(I:Vw s k cs c)(h:Fn s k s'):RI s' es:=by
 let L:=zu R.good I h;let N:=R.ct _ _ _ I;rw[eI]at N;show#[L.good,by rw[L.ls];show R.l0,3,3,?_]
 .intro e;have:=L.ln true;rw[e]at this;show R.ne (OM.mp this.symm)
 .intro j G;cases e:j=k
  .subst e;have:0<es.count (some j):=Oe.mpr G;show#[cs,c-1,(L.me cs (c-1)).mpr #[af,rfl,I]]
  .let#[z,F,q]:=R.is j (Oq _ G);show#[z,F,(L.ot j z F e).mpr q]
 .intro j z F G;cases e:j=k
  .subst e;let#[S,U,O]:=(L.me z F).mp G;omega
  .rw[<-fL e];show R.ct j z F ((L.ot j z F e).mp G)
 .let J:=R.al;rw[gW]at J;rw[L.al,J];omega
 .rw[L.ln,L.ln];show SD R.rm
theorem RI.share{b:Bool}{n:Nat}(R:RI s es)(G:s.pl k=some (b,n))(J:Vw s k cs c)(h:es.length<(s.ow true).length+(s.ow false).length):RI (cF s b n (c+1)) (some k::es):=by
 let#[g,v,a]:=Bj R.good G J;let L:=R.ct _ _ _ J;show#[g,R.l0,3,3,?_]
 .intro e;have:=eG (f:=s.ow) (b:=b) (n:=n) (x:=c+1) true;let e:upd s.ow b ((s.ow b).set n (c+1)) true=[]:=e;rw[e]at this;show R.ne (OM.mp this.symm)
 .intro j z;cases e:j=k
  .subst e;show#[cs,c+1,v]
  .let#[F,I,q]:=R.is j (by simpa[e]using z);show#[F,I,(eB R.good G e).mpr q]
 .intro j F I z;cases e:j=k
  .subst e;let#[_,q]:=v.one z;rw[eI];omega
  .rw[fL e];show R.ct j F I ((eB R.good G e).mp z)
 .rw[a,gW,R.al]
 .change es.length+1<=(upd s.ow b _ true).length+(upd s.ow b _ false).length;rw[eG,eG];show h
theorem RI.FX(R:RI s es)(h:FE s k s'):RI s' es:=by
 let F:=m7 R.good h;show#[F.good,by rw[F.ls];show R.l0,3,?_,by rw[F.al];show R.al,by rw[F.kept.ln,F.kept.ln];show R.rm]
 .intro e;have:=F.kept.ln true;rw[e]at this;show R.ne (OM.mp this.symm)
 .intro j z;let#[cs,c,q]:=R.is j z;show#[cs,c,(F.vw j cs c).mpr q]
 .intro j cs c z;show R.ct j cs c ((F.vw j cs c).mp z)
theorem RI.fill(R:RI s (none::r))(L:cs.length=8)(h:BI (next s) (s.ls+1) cs 1 s'):RI s' (some (s.ls+1)::r):=by
 let B:=mG R.good R.l0 L h;let no:r.count (some (s.ls+1))=0:=by
  apply Tg;intro q;let#[z,F,O,N,I,_]:=R.is _ (Oq _ (Oe.mp q));rwa[gi R.good]at I
 show#[B.good,by rw[B.ls];change 0<=s.ls+1;have:=R.l0;omega,3,3,?_]
 .intro e;have:=B.kept.ln true;rw[e]at this;show R.ne (OM.mp this.symm)
 .intro j G;cases e:j=s.ls+1
  .subst e;show#[cs,(1),B.vw]
  .let#[z,F,q]:=R.is j (by simpa[e]using G);show#[z,F,(B.kept.ot j z F e).mpr q]
 .intro j z F G;cases e:j=s.ls+1
  .subst e;let#[_,q]:=B.vw.one G;rw[eI,no,q];rfl
  .rw[fL e, <-km];show R.ct j z F ((B.kept.ot j z F e).mp G)
 .let J:=R.al;rw[jS]at J;rw[B.al,gW, <-J];rfl
 .rw[B.kept.ln,B.kept.ln];show R.rm
theorem lE{l:List Int}(h:∀x∈l,1<=x):(l.length:Int)<=l.sum:=by
 induction l with
 |nil=>show OR _
 |cons a l z =>
  let h1:=h a Oi;let h2:=z λx hx=>h x (Oq _ hx);rw[Sk,K4];omega
theorem Good.pos(G:Good s){b:Bool}(h:¬ (0:Int)∈s.ow b):∀x∈s.ow b,1<=x:=by
 intro x hx;let#[n,z]:=TZ hx;rcases G.on _ _ _ z with e|⟨j,e⟩
 .show absurd (e▸hx) h
 .let#[cs,c,_,F,I,_]:=G.va _ _ _ e;rwa[z]at F;show I
theorem RI.room(R:RI s (none::r)):(0:Int)∈s.ow true\/(0:Int)∈s.ow false:=by
 cases h1:(0:Int)∈s.ow true
 .show .inl h1
 .by_cases h2:(0:Int)∈s.ow false
  .show .inr h2
  .exfalso;let G:=lE (R.good.pos h1);let I:=lE (R.good.pos h2);let z:=R.al;rw[jS]at z;let J:=yZ (es:=r);let F:=R.rm;rw[K4]at F;unfold all at z;omega
theorem wt{l:List Int}(h:∀x∈l,1<=x){n:Nat}{c:Int}(z:l[n]?=some c):(l.length:Int)+c-1<=l.sum:=by
 induction l generalizing n with
 |nil=>cases z
 |cons a l F =>
  let h2:∀x∈l,1<=x:=λx hx=>h x (Oq _ hx);let h1:=h a Oi;cases n with
  |zero =>
   cases z;have:=lE h2;rw[Sk,K4];omega
  |succ n =>
   have:=F h2 (show l[n]?=some c from z);rw[Sk,K4];omega
theorem RI.JC(R:RI s es)(G:Vw s k cs c)(L:1<c):(0:Int)∈s.ow true\/(0:Int)∈s.ow false:=by
 cases h1:(0:Int)∈s.ow true
 .show .inl h1
 .by_cases h2:(0:Int)∈s.ow false
  .show .inr h2
  .exfalso;let N:=lE (R.good.pos h1);let I:=lE (R.good.pos h2);let F:=R.al;let O:=yZ (es:=es);let J:=R.rm;unfold all at F;let#[b,n,_,_,z]:=G;cases b
   .have:=wt (R.good.pos h2) z;omega
   .have:=wt (R.good.pos h1) z;omega
end
end Pg
namespace Pg
def Bd(s:PS)(e:Ent)(cs:List Int):Prop:=match e with
 |none=>cs=replicate 8 0
 |some k=>∃c,Vw s k cs c
def aR(es:List Ent)(s s':PS):Prop:=∀e∈es,∀cs,Bd s e cs->Bd s' e cs
theorem aR.refl{es:List Ent}{s:PS}:aR es s s:=λ_ _ _ h=>h
section
variable{s s':PS}{es r:List Ent}{k:Int}{cs:List Int}{c:Int}
theorem RI.yG(R:RI s (some k::es))(z:Vw s k cs c)(h:Fn s k s'):aR es s s':=by
 let L:=zu R.good z h;let I:=R.ct _ _ _ z;rw[eI]at I;intro e O S q;cases e with
 |none=>show q
 |some j =>
  let#[G,q]:=q;cases F:j=k
  .subst F;let#[J,N]:=z.one q;subst J;subst N;have:0<es.count (some j):=Oe.mpr O;show#[G-1,(L.me _ _).mpr #[af,rfl,z]]
  .show#[G,(L.ot j _ _ F).mpr q]
theorem xM{b:Bool}{n:Nat}(G:Good s)(I:s.pl k=some (b,n))(z:Vw s k cs c):aR es s (cF s b n (c+1)):=by
 intro e O N q;cases e with
 |none=>show q
 |some j =>
  let#[L,q]:=q;cases F:j=k
  .subst F;let#[J,R]:=z.one q;subst J;show#[c+1,ke G I z]
  .show#[L,(eB G I F).mpr q]
theorem xY(G:Good s)(h:FE s k s'):aR es s s':=by
 intro e I F q;cases e with
 |none=>show q
 |some j =>
  let#[z,q]:=q;show#[z,((m7 G h).vw _ _ _).mpr q]
theorem RI.AD(R:RI s (none::r))(I:cs.length=8)(h:BI (next s) (s.ls+1) cs 1 s'):aR r s s':=by
 let B:=mG R.good R.l0 I h;intro e O J q;cases e with
 |none=>show q
 |some j =>
  let#[G,q]:=q;let F:j≠s.ls+1:=by
   intro e;let#[N,L,z,_]:=q;rwa[e,gi R.good]at z
  show#[G,(B.kept.ot _ _ _ F).mpr q]
theorem RI.part{s1 s2:PS}{ab:List Int}{N:Int}(R:RI s (some k::r))(Y:Vw s k ab N)(hc:1<N)(h4:cs.length=8)(hB:BI (next s) (s.ls+1) cs 1 s1)(hL:Fn s1 k s2) :
  RI s2 (some (s.ls+1)::r)/\aR r s s2/\Bd s2 (some (s.ls+1)) cs/\(∃m,s2.pl (s.ls+1)=some (true,m))/\s2.ls=s.ls+1 /\
  ((0:Int)∈s2.ow true->(0:Int)∈s.ow true/\∀j m,s.pl j=some (true,m)->s2.pl j=some (true,m))/\(∀b,(s2.ow b).length=(s.ow b).length):=by
 let B:=mG R.good R.l0 h4 hB;let U:=gi R.good;let kn:k≠s.ls+1:=by
  intro e;let#[x1,x2,F,_]:=Y;rwa[e,U]at F
 let O:Vw s1 k ab N:=(B.kept.ot _ _ _ kn).mpr Y;let L:=zu B.good O hL;let K:=L.kept hc;let ad:=R.ct _ _ _ Y;rw[eI]at ad;let no:r.count (some (s.ls+1))=0:=by
  apply Tg;intro q;let#[J,I,x1,x2,F,_]:=R.is _ (Oq _ (Oe.mp q));rwa[U]at F
 let vn:Vw s2 (s.ls+1) cs 1:=(L.ot _ _ _ (G0 kn)).mpr B.vw;let S:∀b,(s2.ow b).length=(s.ow b).length:=λb=>(L.ln b).trans (B.kept.ln b);show#[#[L.good,3,3,3],?_,#[(1),vn],3,?_,S]
 .rw[L.ls,B.ls];change 0<=s.ls+1;have:=R.l0;omega
 .intro e;have:=S true;rw[e]at this;show R.ne (OM.mp this.symm)
 .intro j G;cases e:j=s.ls+1
  .subst e;show#[cs,(1),vn]
  .let G:some j∈r:=(by simpa[e]using G);cases z:j=k
   .subst z;show#[ab,N-1,(L.me _ _).mpr #[hc,rfl,O]]
   .let#[J,I,q]:=R.is j (Oq _ G);show#[J,I,(L.ot _ _ _ z).mpr ((B.kept.ot _ _ _ e).mpr q)]
 .intro j J I G;cases e:j=s.ls+1
  .subst e;let#[_,q]:=vn.one G;rw[eI,no,q];rfl
  .rw[fL e];cases z:j=k
   .subst z;let#[q1,q2,q3]:=(L.me _ _).mp G;omega
   .rw[<-fL z];show R.ct j J I ((B.kept.ot _ _ _ e).mp ((L.ot _ _ _ z).mp G))
 .let h9:=R.al;rw[gW]at h9;rw[L.al,B.al,gW, <-h9];change all s+1-1=all s;omega
 .rw[S,S];show R.rm
 .intro e he J q;cases e with
  |none=>show q
  |some j =>
   let#[I,q]:=q;let ej:j≠s.ls+1:=by
    intro e;let#[x1,x2,F,_]:=q;rwa[e,U]at F
   cases z:j=k
   .subst z;let#[q1,q2]:=Y.one q;subst q1;show#[N-1,(L.me _ _).mpr #[hc,rfl,O]]
   .show#[I,(L.ot _ _ _ z).mpr ((B.kept.ot _ _ _ ej).mpr q)]
 .let#[m,hm]:=B.fr;show#[m,(L.pl _ (G0 kn)).trans hm]
 .rw[L.ls,B.ls];rfl
 .intro h;let#[a1,a2]:=K.fr h;let#[b1,b2]:=B.kept.fr a1;show#[b1,?_];intro j m e;let ej:j≠s.ls+1:=(by intro q;rwa[q,U]at e);let e1:=b2 j m ej e;cases z:j=k
  .subst z;cases hL with
   |more hk ac am=>show e1
   |last hk ac =>
    have:=(O.one ac).2;omega
  .show a2 j m z e1
theorem RI.write{s1:PS}{m:Nat}(R:RI s (some k::r)){S:List Int}(Y:Vw s k S 1)(h4:cs.length=8)(U:FE s k s1)(G:s1.pl k=some (true,m)) :
  RI (write s1 true m cs) (some k::r)/\aR r s (write s1 true m cs)/\Bd (write s1 true m cs) (some k) cs:=by
 let F:=m7 R.good U;let z:=R.FX U;let O:Vw s1 k S 1:=(F.vw _ _ _).mpr Y;let ab:=R.ct _ _ _ Y;rw[eI]at ab;let no:¬ some k∈r:=λh=>(by have:0<r.count (some k):=Oe.mpr h;omega);let N:=DV (cs:=cs) z.good G O;show#[#[w9 z.good G h4,z.l0,z.ne,3,z.al,z.rm],?_,#[(1),N]]
 .intro j L;cases e:j=k
  .subst e;show#[cs,(1),N]
  .let#[J,I,q]:=z.is j L;show#[J,I,(jw z.good G e).mpr q]
 .intro j J I L;cases e:j=k
  .subst e;let#[_,q]:=N.one L;rw[q];show z.ct _ _ _ O
  .show z.ct j J I ((jw z.good G e).mp L)
 .intro e he J q;cases e with
  |none=>show q
  |some j =>
   let#[I,q]:=q;let ek:j≠k:=λe=>no (e▸he);show#[I,(jw z.good G ek).mpr ((F.vw _ _ _).mpr q)]
end
end Pg
namespace St
open PySem L2
abbrev Cw:N8:=top 12
abbrev um:N8:=top 13
theorem aY.keep{C p ow co:Addr}{M:Wz}{os:List Int}{pg:List (Option (List Int))}{H H':Hp}(S:aY C H M p ow co os pg)(h:Off (λ_=>False) H H'):aY C H' M p ow co os pg:=by
 let#[#[dx,h1],G,cs,I,F]:=S;show#[#[dx,h _ _ h1 id],h _ _ G id,cs,h _ _ I id,jX h (λ_ z=>z.elim) F]
theorem de{H:Hp}{l:Addr}{o:HO}(h:H l=none):Off (λ_=>False) H (upd H l o):=by
 intro b o' e _;rw[aj (λz=>by rwa[z,h]at e)];show e
theorem gG{os:List Int}{n:Nat}{x:Int}(h:n<os.length):eS (os.set n x) n=x:=by
 unfold eS;rw[Wx (by rw[OG];omega)];simp[h]
theorem dG{os:List Int}{n:Nat}{x:Int}(h:os[n]?=some x):eS os n=x:=by
 let#[h1,h2]:=qc.mp h;unfold eS;rw[Wx af];simp[h1,h2]
theorem E2{os:List Int}{n:Nat}{x:Int}(h:os[n]?=some x):os.set n x=os:=by
 let#[h1,h2]:=qc.mp h;rw[<-h2];show List.set_getElem_self h1
inductive uG(C:Addr)(v:List V)(H:Hp)(Q:VK)(e:XK):Prop
 |mk (p ow co:Addr) (M:Wz) (os:List Int) (pg:List (Option (List Int))) (n:Nat) (ns:List Int) (c:Nat) (_:v=[.ref p,.int n]) (_:aY C H M p ow co os pg) (_:M ow) (_:M co) (_:(∀b,M b->H b≠none)) (_:ow≠co) (_:os.length<=60) (_:os[n]?=some (c:Int)) (_:1<=c) (_:c<=1000) (_:pg[n]?=some (some ns)) (_:∀(H':Hp)(t l:Addr),H t=none->H' t=some (.tup [.ref l,.int c])->¬ M l->H' l=some (.lst (ns.map V.int))->aY C H' M p ow co (os.set n 0) pg->Off (λb=>b=ow\/b=co) H H'->Q (.ref t) H'):uG C v H Q e
theorem J0:aA ["store","n","moved"] ["store","n"] (aq Cw):=L2.bC
theorem Fl{C:Addr}(F:cj K "lift" "lift" Cw f fd)(T:Txt K mg C)(GE:↥Md 3 C "cells" (nE C))(GC:↥Md 1 C "count" (iw C))(GL:↥Md 3 C "less" (uo C)) :
  ↥aN 4 f fd ["store","n"] (uG C):=by
 show F.dE J0 (λaT A outer s H vs Q E R h=>?_);let#[p,ow,co,M,os,pg,n,ns,c,rfl,S,mw,mc,mt,aB,O,U,c1,c2,hg,k]:=h;let#[#[dx,h1],hw,cs,a0,hp]:=id S;let#[nl,_]:=qc.mp U;let hc:eS os n≠0:=(by rw[dG U];omega);show#[_,(ai (cQ 2 J0.nd (cI (aa (pm (pv 0) T.cl GE R aw (aa (pv 1) ag)) (aa (pm (pv 0) T.cl GC R aw (aa (pv 1) ag)) ag))))
  (ai (pQ C4 (az kO (pm (pv 0) T.cl GC R aw (aa (pv 1) ag)) ah (aF _)) (ao (aQ (pm (pv 0) T.cl GL R aw (aa (pv 1) ag)))))
  (ao (aJ (pv 2))))),?_]
 show#[0,p,dx,0,h1,aV _ _ ak ak,0,p,ow,co,M,os,pg,n,ns,rfl,S,O,hc,hg,?_];intro l fl;let N:=S.keep (de (o:=.lst (ns.map V.int)) fl);let am:upd H l (.lst (ns.map V.int)) l=some (.lst (ns.map V.int)):=ae;let O1:Off (λb=>b=ow\/b=co) H (upd H l (.lst (ns.map V.int))):=λb o e _=>de fl b o e id;generalize upd H l (.lst (ns.map V.int))=H1 at *;let#[ad,as]:=N.ob;show#[0,p,ad,0,as,aV _ _ ak ak,0,p,ow,co,M,os,pg,n,rfl,N,O,?_];rw[dG U];show#[fG,λt G=>?_];let S2:=N.keep (de (o:=.tup [.ref l,.int c]) G);let ht:upd H1 t (.tup [.ref l,.int c]) t=some (.tup [.ref l,.int c]):=ae;let ap:upd H1 t (.tup [.ref l,.int c]) l=some (.lst (ns.map V.int)):=de G l _ am id;let O2:Off (λb=>b=ow\/b=co) H (upd H1 t (.tup [.ref l,.int c])):=λb o e z=>de G b o (O1 b o e z) id;let nM:¬ M l:=λz=>mt l z fl;let fH:H t=none:=by
  cases e:H t with
  |none=>rfl
  |some o =>
   exfalso;cases z:t=ow\/t=co
   .rcases z with z|z
    .subst z;rwa[N.hw]at G
    .subst z;let#[_,q,_]:=N.hc;rwa[q]at G
   .rw[O1 t o e z]at G;cases G
 generalize upd H1 t (.tup [.ref l,.int c])=H2 at *;show#[λm σ I=>∃c':Nat,m=c'/\σ=#v[.ref p,.int n,.ref t]/\aY C I M p ow co (os.set n c') pg/\I t=some (.tup [.ref l,.int c])/\I l=some (.lst (ns.map V.int))/\Off (λb=>b=ow\/b=co) H I,
  #[c,c,1,by rw[E2 U];show S2,ht,ap,O2],?_]
 rintro m σ I ⟨c',rfl,rfl,J,L,l3,O3⟩;let#[ac,h3]:=J.ob;show#[0,p,ac,0,h3,aV _ _ ak ak,0,p,ow,co,M,_,pg,n,rfl,J,by rw[OG];show O,?_];rw[gG nl];show#[_,0,rfl,0,?_];cases z:(0:Int)<m
 .rw[decide_eq_true z];show#[λab H'=>ab=#v[.ref p,.int n,.ref t]/\aY C H' M p ow co (os.set n (m-1:Nat)) pg/\H' t=some (.tup [.ref l,.int c])/\H' l=some (.lst (ns.map V.int))/\Off (λb=>b=ow\/b=co) H H',3]
  .rintro ab H' ⟨a1,a2,a3,a4,a5⟩;show#[m-1,af,m-1,rfl,a1,a2,a3,a4,a5]
  .show#[0,p,ac,0,h3,aV _ _ ak ak,0,p,ow,co,M,_,pg,n,rfl,J,mw,mc,aB,by rw[OG];show O,by rw[gG nl];omega,?_];intro H4 S4 Y;rw[gG nl,show(n:Int).toNat=n from OY n,UQ]at S4;show#[rfl,3,3]
   .let e:((m-1:Nat):Int)=(m:Int)-1:=af;rw[e];show S4
   .show Y _ _ L λq=>?_;rcases q with q|q
    .subst q;rwa[J.hw]at L
    .subst q;let#[_,y,_]:=J.hc;rwa[y]at L
   .show Y _ _ l3 λq=>?_;rcases q with q|q
    .show nM (q▸mw)
    .show nM (q▸mc)
   .intro b o e q;show Y b o (O3 b o e q) q
 .rw[decide_eq_false z];let e:m=0:=af;subst e;show#[0,k I t l fH L nM l3 J O3]
theorem rM{C p ow co:Addr}{M:Wz}{os:List Int}{pg:List (Option (List Int))}{H H':Hp}(S:aY C H' M p ow co os pg)(h:Off (λb=>b=ow\/b=co) H H')(mt:∀b,M b->H b≠none):∀b,M b->H' b≠none:=by
 intro b G e;cases z:b=ow\/b=co
 .rcases z with z|z
  .subst z;rwa[S.hw]at e
  .subst z;let#[_,q,_]:=S.hc;rwa[q]at e
 .cases F:H b with
  |none=>show mt b G F
  |some o=>rwa[h b o F z]at e
inductive lM(C:Addr)(v:List V)(H:Hp)(Q:VK)(e:XK):Prop
 |mk (p ow co t l:Addr) (M:Wz) (os:List Int) (pg:List (Option (List Int))) (ns:List Int) (c:Nat) (_:v=[.ref p,.ref t]) (_:aY C H M p ow co os pg) (_:M ow) (_:M co) (_:(∀b,M b->H b≠none)) (_:ow≠co) (_:os.length=pg.length) (_:os.length<=60) (_:(0:Int)∈os) (_:H t=some (.tup [.ref l,.int c])) (_:H l=some (.lst (ns.map V.int))) (_:¬ M l) (_:1<=c) (_:c<=1000) (_:∀H':Hp,aY C H' M p ow co (os.set (os.idxOf 0) c) (pg.set (os.idxOf 0) (some ns))->Off (λb=>b=ow\/b=co) H H'->Q (.int (os.idxOf 0:Nat)) H'):lM C v H Q e
theorem J7:aA ["store","moved","n"] ["store","moved"] (aq um):=L2.bC
theorem An{C:Addr}(F:cj K "settle" "settle" um f fd)(T:Txt K mg C)(GT:↥Md 1 C "take" (yu C))(GP:↥Md 3 C "put" (zo K C))(GC:↥Md 1 C "count" (iw C))(GM:↥Md 3 C "more" (ui C)) :
  ↥aN 4 f fd ["store","moved"] (lM C):=by
 show F.dE J7 (λa0 A outer s H vs Q E O h=>?_);let#[p,ow,co,t,l,M,os,pg,ns,c,rfl,S,U,mc,mt,ab,ad,N,h0,J,as,nM,c1,c2,k]:=h;let#[dx,h1]:=S.ob;let nl:os.idxOf 0<os.length:=OV.mpr h0;show#[_,(ai (cQ 2 J7.nd (lU (pv 0) T.cl GT O aw))
  (ai (aQ (pm (pv 0) T.cl GP O aw (aa (pv 2) (aa (aM aK (pv 1) ah bX) ag))))
  (ai (pQ C4 (az fE (pm (pv 0) T.cl GC O aw (aa (pv 2) ag)) (aM aK (pv 1) ah bX) (aF _)) (ao (aQ (pm (pv 0) T.cl GM O aw (aa (pv 2) ag)))))
  (ao (aJ (pv 2)))))),?_]
 show#[0,p,dx,0,h1,aV _ _ ak ak,p,ow,co,M,os,pg,rfl,S,U,mc,mt,ab,ad,N,λz=>absurd h0 z,λ_ H1 Y R=>?_];generalize os.idxOf 0=j at *;let#[ap,aT]:=Y.ob;let nt:¬ (t=ow\/t=co):=λq=>by
  rcases q with q|q
  .subst q;rwa[S.hw]at J
  .subst q;let#[_,y,_]:=S.hc;rwa[y]at J
 let aB:¬ (l=ow\/l=co):=λq=>by
  rcases q with q|q
  .show nM (q▸U)
  .show nM (q▸mc)
 let t1:=R _ _ J nt;let l1:=R _ _ as aB;show#[0,p,ap,0,aT,aV _ _ ak ak,0,0,t,_,(0),0,rfl,bL.of t1,rfl,p,ow,co,l,M,2,_,ns,rfl,Y,U,mc,rM Y R mt,ab,by rw[OG,OG];show ad,by rw[OG];show N,by rw[gG nl];decide,bq.of l1,?_];intro H2 S2 O2;rw[show(j:Int).toNat=j from OY j,UQ]at S2;show#[λm σ I=>∃G:Nat,m+G=c/\1<=G/\σ=#v[.ref p,.ref t,.int j]/\aY C I M p ow co (os.set j G) (pg.set j (some ns))/\I t=some (.tup [.ref l,.int c])/\Off (λb=>b=ow\/b=co) H I,
  #[c-1,(1),af,t7 _,rfl,S2,O2 _ _ t1 nt,λb o e q=>O2 b o (R b o e q) q],?_]
 rintro m σ I ⟨G,em,p1,rfl,L,t3,O3⟩;let#[am,h3]:=L.ob;show#[0,p,am,0,h3,aV _ _ ak ak,0,p,ow,co,M,2,j,rfl,L,by rw[OG];show N,?_];rw[gG nl];show#[0,t,_,(1),0,rfl,bL.of t3,5,0,rfl,0,?_];cases z:(G:Int)<c
 .rw[decide_eq_true z];show#[λac H'=>ac=#v[.ref p,.ref t,.int j]/\aY C H' M p ow co (os.set j (G+1:Nat)) (pg.set j (some ns))/\H' t=some (.tup [.ref l,.int c])/\Off (λb=>b=ow\/b=co) H H',3]
  .rintro ac H' ⟨a1,a2,a3,a4⟩;show#[m-1,af,G+1,af,af,a1,a2,a3,a4]
  .show#[0,p,am,0,h3,aV _ _ ak ak,0,p,ow,co,M,2,j,rfl,L,U,mc,ab,by rw[OG];show N,by rw[gG nl];omega,?_];intro H4 S4 O4;rw[gG nl,show(j:Int).toNat=j from OY j,UQ]at S4;show#[rfl,S4,O4 _ _ t3 nt,λb o e q=>O4 b o (O3 b o e q) q]
 .rw[decide_eq_false z];let e:G=c:=af;subst e;show#[0,k I L O3]
structure PA where
 pg:Addr
 fp:Addr
 fo:Addr
 fc:Addr
 sp:Addr
 so:Addr
 sc:Addr
 pd:Addr
 il:Addr
def cX(A:PA)(n:Int):List (Str×V):=bu "in_frames" (.ref A.il) (bu "last_sheet" (.int n) (bu "places" (.ref A.pd) (bu "slots" (.ref A.sp) (bu "frames" (.ref A.fp) []))))
abbrev Hu:=List (Int×Addr×Bool×Nat)
def uO(x:Addr×Bool×Nat):V:=.ref x.1
def iK(b:Bool)(n:Nat):List V:=[.str (if b=true then "frame" else "slot"),.int n]
structure bS(C CS:Addr)(H:Hp)(M:Wz)(A:PA)(s:Pg.PS):Prop where
 ob:∃dx,H A.pg=some (.ins C dx (cX A s.ls))
 fr:aY CS H M A.fp A.fo A.fc (s.ow true) (s.co true)
 sl:aY CS H M A.sp A.so A.sc (s.ow false) (s.co false)
 il:H A.il=some (.lst (s.inf.map V.int))
 le:∀b,(s.ow b).length<=60
 pd:∃l:Hu,H A.pd=some (.dK (Tb.dk uO l))/\(l.map (·.1)).Nodup/\(∀x∈l,H x.2.1=some (.tup (iK x.2.2.1 x.2.2.2)))/\(∀k,(Tb.look l k).map (·.2)=s.pl k)/\l.length<=1000
structure qF(K:DD)(mg:WD)(C:Addr):Prop where
 cl:qI K C
 nF:dv K C "frames"
 nS:dv K C "slots"
 nP:dv K C "places"
 nL:dv K C "last_sheet"
 nI:dv K C "in_frames"
 list:mg "list" = none
abbrev xv:N8:=inClass (top 14) 9
inductive jB(C CS:Addr)(v:List V)(H:Hp)(Q:VK)(e:XK):Prop
 |mk(M:Wz)(A:PA)(s:Pg.PS)(k:Int)(b:Bool)(n:Nat)(_:v=[.ref A.pg,.int k])(_:bS C CS H M A s)(_:s.pl k=some (b,n))(_:∀t,H t=some (.tup (iK b n))->Q (.ref t) H)
theorem rC(A:PA)(n:Int):(cX A n).lookup ("places" : Str)=some (.ref A.pd):=by
 unfold cX;rw[aG,Wx ak,aG,Wx ak,aG,Wy rfl]
theorem MU:aA ["self","sheet"] ["self","sheet"] (aq xv):=L2.bC
theorem C8{C CS:Addr}(F:cj K "place" "Paging.place" xv f fd)(T:qF K mg C):↥aN 1 f fd ["self","sheet"] (jB C CS):=by
 show F.dE MU (λU A outer s H vs Q E L h=>?_);let#[M,z,s',k,b,n,rfl,G,R,q]:=h;let#[dx,h1]:=G.ob;let#[l,hd,Y,O,S,_]:=G.pd;show#[_,(ai (bj (kq (gR (bN L) (pv 1) (aH (pv 0) rfl))) du aI)
  (ao (aJ (cE (bN L) (aH (pv 0) rfl) (pv 1) bX)))),?_]
 obtain⟨x,hx,ex⟩:∃x,Tb.look l k=some x/\x.2=(b,n):=by
  have:=S k;rw[R]at this;show t5.mp this
 let J:dN H z.pd (.int k) (some (uO x)):=by
  let I:=dN.k (k:=NC k) hd;rw[Tb.cL,hx]at I;show I
 let N:=O _ (Tb.aC hx);show#[0,0,z.pg,C,dx,_,0,h1,T.cl,T.nP,rC _ _,z.pd,0,J,0,?_];show b9 #[0,z.pg,C,dx,_,0,h1,T.cl,T.nP,rC _ _,0,z.pd,uO x,rfl,J,q x.1 ?_];rw[show x.2.1=b by rw[ex],show x.2.2=n by rw[ex]]at N;show N
abbrev mD:N8:=inClass (top 14) 10
abbrev qy:N8:=inClass (top 14) 11
inductive dJ(C CS:Addr)(v:List V)(H:Hp)(Q:VK)(e:XK):Prop
 |mk(M:Wz)(A:PA)(s:Pg.PS)(k:Int)(b:Bool)(n:Nat)(_:v=[.ref A.pg,.int k])(_:bS C CS H M A s)(_:s.pl k=some (b,n))(_:Q (.int n) H)
def PA.st(A:PA)(b:Bool):Addr:=if b=true then A.fp else A.sp
inductive gg(C CS:Addr)(v:List V)(H:Hp)(Q:VK)(e:XK):Prop
 |mk(M:Wz)(A:PA)(s:Pg.PS)(k:Int)(b:Bool)(n:Nat)(_:v=[.ref A.pg,.int k])(_:bS C CS H M A s)(_:s.pl k=some (b,n))(_:Q (.ref (A.st b)) H)
theorem cR(A:PA)(n:Int){m:Str}(h1:¬ m = "in_frames")(h2:¬ m = "last_sheet")(F:¬ m = "places")(G:¬ m = "slots")(z:¬ m = "frames"):(cX A n).lookup m=none:=by
 unfold cX;rw[aG,Wx h1,aG,Wx h2,aG,Wx F,aG,Wx G,aG,Wx z]
 all_goals rfl
theorem pA(A:PA)(n:Int):(cX A n).lookup ("frames" : Str)=some (.ref A.fp):=by
 unfold cX;rw[aG,Wx ak,aG,Wx ak,aG,Wx ak,aG,Wx ak,aG,Wy rfl]
theorem vG(A:PA)(n:Int):(cX A n).lookup ("slots" : Str)=some (.ref A.sp):=by
 unfold cX;rw[aG,Wx ak,aG,Wx ak,aG,Wx ak,aG,Wy rfl]
theorem LS:aA ["self","sheet"] ["self","sheet"] (aq mD):=L2.bC
theorem uW{C CS:Addr}(F:cj K "number_of" "Paging.number_of" mD f fd)(T:qF K mg C)(N:↥Md 1 C "place" (jB C CS)):↥aN 2 f fd ["self","sheet"] (dJ C CS):=by
 show F.dE LS (λO A outer s H vs Q E L h=>?_);let#[M,z,s',k,b,n,rfl,G,I,q]:=h;let#[dx,h1]:=G.ob;show#[_,(ao (aJ (aM aK (pm (pv 0) T.cl N L aw (aa (pv 1) ag)) ah bX))),?_];show#[0,z.pg,dx,0,h1,cR _ _ ak ak ak ak ak,0,M,z,s',k,b,n,rfl,G,I,λt J=>?_];show#[t,_,(1),0,rfl,bL.of J,rfl,q]
theorem Me:aA ["self","sheet"] ["self","sheet"] (aq qy):=L2.bC
theorem yi{C CS:Addr}(F:cj K "store_of" "Paging.store_of" qy f fd)(T:qF K mg C)(N:↥Md 1 C "place" (jB C CS)):↥aN 2 f fd ["self","sheet"] (gg C CS):=by
 show F.dE Me (λO A outer s H vs Q E L h=>?_);let#[M,z,s',k,b,n,rfl,G,I,q]:=h;let#[dx,h1]:=G.ob;show#[_,(ai (bj (az bM (aM aK (pm (pv 0) T.cl N L aw (aa (pv 1) ag)) ah bX) aS (aF _)) (ao (aJ (aH (pv 0) rfl))) aI)
  (ao (aJ (aH (pv 0) rfl)))),?_]
 show#[0,z.pg,dx,0,h1,cR _ _ ak ak ak ak ak,0,M,z,s',k,b,n,rfl,G,I,λt J=>?_];show#[t,_,(0),0,rfl,bL.of J,1,0,?_];cases b with
 |true=>show eg #[0,z.pg,C,dx,_,0,h1,T.cl,T.nF,pA _ _,q]
 |false=>show b9 #[0,z.pg,C,dx,_,0,h1,T.cl,T.nS,vG _ _,q]
abbrev uz:N8:=inClass (top 14) 12
abbrev uk:N8:=inClass (top 14) 4
def PA.ow(A:PA)(b:Bool):Addr:=if b=true then A.fo else A.so
def PA.co(A:PA)(b:Bool):Addr:=if b=true then A.fc else A.sc
theorem bS.st{C CS:Addr}{H:Hp}{M:Wz}{A:PA}{s:Pg.PS}(G:bS C CS H M A s)(b:Bool):aY CS H M (A.st b) (A.ow b) (A.co b) (s.ow b) (s.co b):=by
 cases b
 .show G.sl
 .show G.fr
inductive pF(C CS:Addr)(v:List V)(H:Hp)(Q:VK)(e:XK):Prop
 |mk(M:Wz)(A:PA)(s:Pg.PS)(k:Int)(cs:List Int)(c:Int)(_:v=[.ref A.pg,.int k])(_:bS C CS H M A s)(_:Pg.Vw s k cs c)(_:Q (.int c) H)
inductive qv(C CS:Addr)(v:List V)(H:Hp)(Q:VK)(e:XK):Prop
 |mk(M:Wz)(A:PA)(s:Pg.PS)(k:Int)(cs:List Int)(c:Int)(_:v=[.ref A.pg,.int k])(_:bS C CS H M A s)(_:Pg.Vw s k cs c)(_:c≠0)(_:∀l,H l=none->Q (.ref l) (upd H l (.lst (cs.map V.int))))
theorem zQ:aA ["self","sheet"] ["self","sheet"] (aq uz):=L2.bC
theorem zV{C CS:Addr}(F:cj K "count" "Paging.count" uz f fd)(T:qF K mg C)(TS:Txt K mg CS)(U:↥Md 2 C "store_of" (gg C CS))(O:↥Md 2 C "number_of" (dJ C CS))(L:↥Md 1 CS "count" (iw CS)):↥aN 3 f fd ["self","sheet"] (pF C CS):=by
 show F.dE zQ (λY A outer s H vs Q E I h=>?_);let#[M,z,s',k,cs,c,rfl,G,#[b,n,J,ab,R],q]:=h;let#[dx,h1]:=G.ob;let S:=G.st b;let#[N,h2]:=S.ob;show#[_,(ao (aJ (pm (pm (pv 0) T.cl U I aw (aa (pv 1) ag)) TS.cl L I aw (aa (pm (pv 0) T.cl O I aw (aa (pv 1) ag)) ag)))),?_];show#[0,z.pg,dx,0,h1,cR _ _ ak ak ak ak ak,0,M,z,s',k,b,n,rfl,G,J,?_];show#[_,N,0,h2,aV _ _ ak ak,?_];show#[0,z.pg,dx,0,h1,cR _ _ ak ak ak ak ak,0,M,z,s',k,b,n,rfl,G,J,?_];show#[2,_,M,2,n,rfl,S,G.le b,?_];rw[dG R];show q
theorem LV:aA ["self","sheet"] ["self","sheet"] (aq uk):=L2.bC
theorem zH{C CS:Addr}(F:cj K "cells" "Paging.cells" uk f fd)(T:qF K mg C)(TS:Txt K mg CS)(U:↥Md 2 C "store_of" (gg C CS))(O:↥Md 2 C "number_of" (dJ C CS))(GE:↥Md 3 CS "cells" (nE CS)):↥aN 4 f fd ["self","sheet"] (qv C CS):=by
 show F.dE LV (λab A outer s H vs Q E I h=>?_);let#[M,z,s',k,cs,c,rfl,G,#[b,n,J,Y,R],N,q]:=h;let#[dx,h1]:=G.ob;let S:=G.st b;let#[L,h2]:=S.ob;show#[_,(ao (aJ (pm (pm (pv 0) T.cl U I aw (aa (pv 1) ag)) TS.cl GE I aw (aa (pm (pv 0) T.cl O I aw (aa (pv 1) ag)) ag)))),?_];show#[0,z.pg,dx,0,h1,cR _ _ ak ak ak ak ak,0,M,z,s',k,b,n,rfl,G,J,?_];show#[_,L,0,h2,aV _ _ ak ak,?_];show#[0,z.pg,dx,0,h1,cR _ _ ak ak ak ak ak,0,M,z,s',k,b,n,rfl,G,J,?_];show#[2,_,M,2,n,cs,rfl,S,G.le b,by rw[dG R];show N,by rw[show(n:Int).toNat=n from OY n];show Y,q]
theorem aY.off{C p ow co:Addr}{B M:Wz}{os:List Int}{pg:List (Option (List Int))}{H H':Hp}(S:aY C H M p ow co os pg)(h:Off B H H')(N:∀b,B b->M b)(J:¬ B p)(G:¬ B ow)(L:¬ B co):aY C H' M p ow co os pg:=by
 let#[#[dx,h1],F,cs,I,z]:=S;show#[#[dx,h _ _ h1 J],h _ _ F G,cs,h _ _ I L,jX h N z]
structure PA.Ok(A:PA)(M:Wz):Prop where
 ds:[A.pg,A.fp,A.fo,A.fc,A.sp,A.so,A.sc,A.pd,A.il].Nodup
 mm:∀x∈[A.pg,A.fp,A.fo,A.fc,A.sp,A.so,A.sc,A.pd,A.il],M x
def PA.own(A:PA):Addr->Prop:=λb=>b∈[A.pg,A.fo,A.fc,A.so,A.sc,A.pd,A.il]
abbrev ig:N8:=inClass (top 14) 8
theorem wD{α:Type}{l:List α}(h:l.Nodup)(i j:Nat){a b:α}(hi:l[i]?=some a)(I:l[j]?=some b)(J:i≠j):a≠b:=by
 let#[h1,G]:=qc.mp hi;let#[h2,F]:=qc.mp I;let q:=Pa.mp h;rcases Nat.lt_or_gt_of_ne J with z|z
 .rw[<-G, <-F];show q i j h1 h2 z
 .rw[<-G, <-F];show G0 (q j i h2 h1 z)
theorem jl{a b c:Addr}(h1:a≠b)(h2:a≠c):¬ (a=b\/a=c):=λz=>z.elim h1 h2
theorem Kr{M:Wz}{a b:Addr}(h1:M a)(h2:M b):∀c,c=a\/c=b->M c:=λc z=>z.elim (λe=>by rw[e];show h1) λe=>by rw[e];show h2
theorem in1{M:Wz}{a:Addr}(h1:M a):∀c,c=a->M c:=λc e=>by rw[e];show h1
section
variable{A:PA}{M:Wz}
theorem PA.Ok.n(ok:A.Ok M)(i j:Nat){a b:Addr}(hi:[A.pg,A.fp,A.fo,A.fc,A.sp,A.so,A.sc,A.pd,A.il][i]?=some a)(F:[A.pg,A.fp,A.fo,A.fc,A.sp,A.so,A.sc,A.pd,A.il][j]?=some b)(z:i≠j):a≠b:=wD ok.ds i j hi F z
theorem PA.Ok.m(ok:A.Ok M)(i:Nat){a:Addr}(hi:[A.pg,A.fp,A.fo,A.fc,A.sp,A.so,A.sc,A.pd,A.il][i]?=some a):M a:=ok.mm a (vh hi)
theorem PA.gQ(i:Nat){a:Addr}(hi:[A.pg,A.fo,A.fc,A.so,A.sc,A.pd,A.il][i]?=some a):A.own a:=vh hi
theorem PA.Ok.own(ok:A.Ok M):∀b,A.own b->M b:=by
 intro b h;unfold PA.own at h;simp only[se,DO,or_false]at h;rcases h with h|h|h|h|h|h|h<;>rw[h]
 .show ok.m 0 rfl
 .show ok.m 2 rfl
 .show ok.m 3 rfl
 .show ok.m 5 rfl
 .show ok.m 6 rfl
 .show ok.m 7 rfl
 .show ok.m 8 rfl
theorem bS.alive{C CS:Addr}{H H':Hp}{s:Pg.PS}(G:bS C CS H' M A s)(o:Off A.own H H')(mt:∀b,M b->H b≠none):∀b,M b->H' b≠none:=by
 intro b I e;cases z:A.own b
 .unfold PA.own at z;simp only[se,DO,or_false]at z;let#[dx,h1]:=G.ob;let#[_,J,_]:=G.fr.hc;let#[_,N,_]:=G.sl.hc;let#[l,L,_]:=G.pd;rcases z with z|z|z|z|z|z|z<;>rw[z]at e
  .rw[h1]at e;cases e
  .rw[G.fr.hw]at e;cases e
  .rw[J]at e;cases e
  .rw[G.sl.hw]at e;cases e
  .rw[N]at e;cases e
  .rw[L]at e;cases e
  .rw[G.il]at e;cases e
 .cases F:H b with
  |none=>show mt b I F
  |some o'=>rwa[o b o' F z]at e
theorem bS.keep{C CS:Addr}{H H':Hp}{s:Pg.PS}(G:bS C CS H M A s)(h:Off (λ_=>False) H H'):bS C CS H' M A s:=by
 let#[dx,h1]:=G.ob;let#[l,hd,J,z,F,I]:=G.pd;show#[#[dx,h _ _ h1 id],G.fr.keep h,G.sl.keep h,h _ _ G.il id,G.le,#[l,h _ _ hd id,J,λx hx=>h _ _ (z x hx) id,F,I]]
theorem bS.pL{C CS:Addr}{H:Hp}{s:Pg.PS}(G:bS C CS H M A s)(ok:A.Ok M)(r:List Int):bS C CS (upd H A.il (.lst (r.map V.int))) M A { s with inf:=r }:=by
 let o:Off (· = A.il) H (upd H A.il (.lst (r.map V.int))):=λb o e z=>(by rw[aj z];show e);let#[dx,h1]:=G.ob;let#[l,hd,L,F,I,J]:=G.pd;show#[#[dx,o _ _ h1 (ok.n 0 8 rfl rfl ar)],G.fr.off o (in1 (ok.m 8 rfl)) (ok.n 1 8 rfl rfl ar) (ok.n 2 8 rfl rfl ar) (ok.n 3 8 rfl rfl ar),G.sl.off o (in1 (ok.m 8 rfl)) (ok.n 4 8 rfl rfl ar) (ok.n 5 8 rfl rfl ar) (ok.n 6 8 rfl rfl ar),ae,G.le,
  #[l,o _ _ hd (ok.n 7 8 rfl rfl ar),L,λx hx=>o _ _ (F x hx) (cU (F x hx) G.il (by intro z;cases z)),I,J]]
theorem bS.Ie{C CS:Addr}{H:Hp}{s s':Pg.PS}(G:bS C CS H M A s)(z:s'.ow=s.ow)(F:s'.co=s.co)(I:s'.ls=s.ls)(N:s'.inf=s.inf)(O:∀j,s'.pl j=s.pl j):bS C CS H M A s':=by
 let#[l,hd,L,J,R,S]:=G.pd;show#[by rw[I];show G.ob,by rw[z,F];show G.fr,by rw[z,F];show G.sl,by rw[N];show G.il,by rw[z];show G.le,#[l,hd,L,J,λj=>by rw[O];show R j,S]]
theorem EK{H:Hp}{l:Hu}{f:Int->Option (Bool×Nat)}{k:Int}{t:Addr}{b:Bool}{n:Nat}(I:(l.map (·.1)).Nodup)(z:∀x∈l,H x.2.1=some (.tup (iK x.2.2.1 x.2.2.2)))(G:∀j,(Tb.look l j).map (·.2)=f j)(N:l.length<=999\/(f k≠none/\l.length<=1000))(J:H t=some (.tup (iK b n))) :
  ∃l':Hu,putK (Tb.dk uO l) (NC k) (.ref t)=Tb.dk uO l'/\(l'.map (·.1)).Nodup/\(∀x∈l',H x.2.1=some (.tup (iK x.2.2.1 x.2.2.2)))/\(∀j,(Tb.look l' j).map (·.2)=Pg.d9 f k (some (b,n)) j)/\l'.length<=1000:=by
 let F:∀l':Hu,(∀j,Tb.look l' j=if j=k then some (t,b,n)else Tb.look l j)->∀j,(Tb.look l' j).map (·.2)=Pg.d9 f k (some (b,n)) j:=by
  intro l' h j;rw[h j];cases e:j=k
  .rw[Wy e,e,Pg.bt];rfl
  .rw[Wx e,Pg.aL e];show G j
 cases e:Tb.look l k with
 |none =>
  let L:f k=none:=(by rw[<-G k,e];rfl);show#[l++[(k,(t,b,n))],Tb.dU (f:=uO) (a:=(t,b,n)) e,?_,λx hx=>?_,F _ λj=>Tb.bZ j e,?_]
  .rw[N5];show kZ I (Tb.cp e)
  .rcases t4.mp hx with hx|hx
   .show z x hx
   .rw[qj.mp hx];show J
  .rw[y3,OC];rcases N with h|h
   .omega
   .show absurd L h.1
 |some y =>
  show#[Tb.a9 l k (t,b,n),Tb.jx (f:=uO) (a:=(t,b,n)) e,by rw[Tb.gk];show I,λx hx=>?_,F _ λj=>Tb.bK j e,?_]
  .rcases Tb.mem_set hx with rfl|⟨hx,_⟩
   .show J
   .show z x hx
  .rw[Tb.ij];omega
theorem bS.DQ{C CS t:Addr}{H:Hp}{s:Pg.PS}{l:Hu}{f:Int->Option (Bool×Nat)}{k:Int}{b:Bool}{n:Nat}(ok:A.Ok M)
  (U:∃dx,H A.pg=some (.ins C dx (cX A s.ls))) (Y:aY CS H M A.fp A.fo A.fc (s.ow true) (s.co true)) (sl:aY CS H M A.sp A.so A.sc (s.ow false) (s.co false)) (S:H A.il=some (.lst (s.inf.map V.int))) (le:∀b,(s.ow b).length<=60)
  (hd:H A.pd=some (.dK (Tb.dk uO l))) (nd:(l.map (·.1)).Nodup) (L:∀x∈l,H x.2.1=some (.tup (iK x.2.2.1 x.2.2.2))) (hl:∀j,(Tb.look l j).map (·.2)=f j) (N:l.length<=999\/(f k≠none/\l.length<=1000)) (ab:H t=some (.tup (iK b n))) (R:∀j,s.pl j=Pg.d9 f k (some (b,n)) j) :
  bS C CS (upd H A.pd (.dK (putK (Tb.dk uO l) (NC k) (.ref t)))) M A s:=by
 let o:Off (· = A.pd) H (upd H A.pd (.dK (putK (Tb.dk uO l) (NC k) (.ref t)))):=λb o e z=>(by rw[aj z];show e);let#[l',G,O,F,I,J]:=EK (k:=k) nd L hl N ab;let#[dx,h1]:=U;show#[#[dx,o _ _ h1 (ok.n 0 7 rfl rfl ar)],Y.off o (in1 (ok.m 7 rfl)) (ok.n 1 7 rfl rfl ar) (ok.n 2 7 rfl rfl ar) (ok.n 3 7 rfl rfl ar),sl.off o (in1 (ok.m 7 rfl)) (ok.n 4 7 rfl rfl ar) (ok.n 5 7 rfl rfl ar) (ok.n 6 7 rfl rfl ar),o _ _ S (ok.n 8 7 rfl rfl ar),le,
  #[l',by rw[ae,G],O,λx hx=>o _ _ (F x hx) (cU (F x hx) hd (by intro z;cases z)),λj=>by rw[R j];show I j,J]]
theorem oj{α:Type}{k:Int}:∀{l:List (Int×α)},(l.map (·.1)).Nodup->l.length<=(Tb.bp l k).length+1
 | [],_=>Oc _
 |x::r,h=>by
  let#[F,I]:=N6.mp (show(x.1::r.map (·.1)).Nodup from h);let G:=oj (k:=k) I;unfold Tb.bp at G ⊢;rw[Pt];cases c:x.1=k
  .rw[Wx (by simp[c])];have:r.filter (λx=>decide (x.1≠k))=r:=by
    rw[Si];intro y z;have:y.1≠k:=λe=>F (by rw[c, <-e];show IF.mpr #[y,z,rfl]);simpa using this
   rw[this,K4];show t7 _
  .rw[Wy ‹c›,K4,K4];omega
theorem FD{s:Pg.PS}(G:Pg.Good s)(le:∀b,(s.ow b).length<=60){l:Hu}(R:(l.map (·.1)).Nodup)(z:∀x∈l,s.pl x.1=some x.2.2):l.length<=120:=by
 let lt:∀x∈l,x.2.2.2<60:=λx hx=>by
  let#[cs,c,_,h2,_,_]:=G.va x.1 x.2.2.1 x.2.2.2 (z x hx);let S:=(qc.mp h2).1;let U:=le x.2.2.1;omega
 have:=Tb.Bq 120 0 (l.map λx=>if x.2.2.1=true then(x.2.2.2:Int)else 60+(x.2.2.2:Int)) ?_ ?_
 .rwa [qi]at this
 .show Qv.mpr ((Qv.mp R).imp_of_mem ?_);intro a b F L N e;let h1:=lt a F;let h2:=lt b L;show N (G.inj a.1 b.1 b.2.2 ?_ (z b L));rw[z a F];congr 1;let e:(if a.2.2.1=true then(a.2.2.2:Int)else 60+(a.2.2.2:Int))=if b.2.2.1=true then(b.2.2.2:Int)else 60+(b.2.2.2:Int):=e
  show VF ?_ ?_
  .rcases I:a.2.2.1 with _|_<;>rcases J:b.2.2.1 with _|_
   .rfl
   .rw[I,J,Wx ar,Wy rfl]at e;omega
   .rw[I,J,Wy rfl,Wx ar]at e;omega
   .rfl
  .split at e<;>split at e<;>omega
 .intro x hx;let#[y,O,rfl]:=IF.mp hx;let h1:=lt y O;split<;>omega
theorem y6{s:Pg.PS}(G:Pg.Good s)(le:(s.ow true).length<=60):s.inf.length<=60:=by
 have:=Tb.Bq 60 0 (s.inf.map λk=>match s.pl k with|some p=>(p.2:Int)|none=>0) ?_ ?_
 .rwa [qi]at this
 .show Qv.mpr (G.nd.imp_of_mem ?_);intro a b J N I e;let#[n,z]:=(G.fi a).mp J;let#[m,F]:=(G.fi b).mp N;rw[z,F]at e;let e:(n:Int)=m:=e;let e:n=m:=af;subst e;show I (G.inj _ _ _ z F)
 .intro x hx;let#[y,L,rfl]:=IF.mp hx;let#[n,z]:=(G.fi y).mp L;let#[cs,c,_,h2,_,_]:=G.va _ _ _ z;let O:=(qc.mp h2).1;rw[z];change 0<=(n:Int)/\(n:Int)<0+(60:Nat);omega
inductive gv(C CS:Addr)(v:List V)(H:Hp)(Q:VK)(e:XK):Prop
 |mk(M:Wz)(A:PA)(s:Pg.PS)(k:Int)(n:Nat)(cs:List Int)(c:Nat)(_:v=[.ref A.pg,.int k])(_:bS C CS H M A s)(_:A.Ok M)(_:(∀b,M b->H b≠none))(_:s.pl k=some (true,n))(_:Pg.Vw s k cs c)(_:¬ k∈s.inf)(_:(0:Int)∈s.ow false)(_:(∀b,(s.co b).length=(s.ow b).length))(_:1<=c)(_:c<=1000)(_:∀H':Hp,bS C CS H' M A (Pg.out s k n cs c)->Off A.own H H'->Q .non H')
theorem JO:aA ["self","sheet","moved"] ["self","sheet"] (aq ig):=L2.bC
theorem yf{C CS:Addr}(F:cj K "put_out" "Paging.put_out" ig f fd)(T:qF K mg C)(a4:↥Df 4 "lift" (uG CS))(aT:↥Df 4 "settle" (lM CS))(a2:↥Md 2 C "number_of" (dJ C CS)):↥aN 5 f fd ["self","sheet"] (gv C CS):=by
 show F.dE JO (λa7 A outer s H vs Q E N h=>?_);let#[M,I,s',k,n,cs,c,rfl,G,ok,mt,S,hv,ni,h0,ap,c1,U,q]:=h;let#[dx,h1]:=G.ob;let#[b',n',Y,e2,e3]:=hv;rwa[S]at Y;let#[l,hd,nd,L,hl,am]:=G.pd;let hs:=vl;show#[_,(ai (cQ 2 JO.nd (pc a4 N aw (aa (aH (pv 0) rfl) (aa (pm (pv 0) T.cl a2 N aw (aa (pv 1) ag)) ag))))
  (ao (lj (bN N) (aH (pv 0) rfl) (pv 1) (cI (aa aS (aa (pc aT N aw (aa (aH (pv 0) rfl) (aa (pv 2) ag))) ag))) rfl))),?_]
 show#[0,I.pg,C,dx,_,0,h1,T.cl,T.nF,pA _ _,?_];show#[0,I.pg,dx,0,h1,cR _ _ ak ak ak ak ak,0,M,I,s',k,true,n,rfl,G,S,?_];show#[I.fp,I.fo,I.fc,M,2,n,cs,c,rfl,G.fr,ok.m 2 rfl,ok.m 3 rfl,mt,ok.n 2 3 rfl rfl ar,G.le true,e3,c1,U,e2,?_];intro H1 t l0 ft a6 nl ad S1 O;let a5:=O _ _ h1 (jl (ok.n 0 2 rfl rfl ar) (ok.n 0 3 rfl rfl ar));let a3:=G.sl.off O (Kr (ok.m 2 rfl) (ok.m 3 rfl)) (jl (ok.n 4 2 rfl rfl ar) (ok.n 4 3 rfl rfl ar)) (jl (ok.n 5 2 rfl rfl ar) (ok.n 5 3 rfl rfl ar)) (jl (ok.n 6 2 rfl rfl ar) (ok.n 6 3 rfl rfl ar));show#[0,I.pg,C,dx,_,0,a5,T.cl,T.nS,vG _ _,0,I.sp,I.so,I.sc,t,l0,M,2,cs,c,rfl,a3,ok.m 5 rfl,ok.m 6 rfl,rM S1 O mt,ok.n 5 6 rfl rfl ar,(ap false).symm,G.le false,h0,a6,ad,nl,c1,U,?_];intro H2 S2 O2;show#[fG,λu R=>?_];let as:=(S1.off O2 (Kr (ok.m 5 rfl) (ok.m 6 rfl)) (jl (ok.n 1 5 rfl rfl ar) (ok.n 1 6 rfl rfl ar)) (jl (ok.n 2 5 rfl rfl ar) (ok.n 2 6 rfl rfl ar)) (jl (ok.n 3 5 rfl rfl ar) (ok.n 3 6 rfl rfl ar))).keep (de (o:=.tup (iK false ((s'.ow false).idxOf 0))) R);let ab:=S2.keep (de (o:=.tup (iK false ((s'.ow false).idxOf 0))) R);let J:∀b o,H b=some o->¬ (b=I.fo\/b=I.fc)->¬ (b=I.so\/b=I.sc)->upd H2 u (.tup (iK false ((s'.ow false).idxOf 0))) b=some o:=λb o e z1 z2=>de R b o (O2 b o (O b o e z1) z2) id;let hu:upd H2 u (.tup (iK false ((s'.ow false).idxOf 0))) u=some (.tup (iK false ((s'.ow false).idxOf 0))):=ae;let kd:=J _ _ hd (jl (ok.n 7 2 rfl rfl ar) (ok.n 7 3 rfl rfl ar)) (jl (ok.n 7 5 rfl rfl ar) (ok.n 7 6 rfl rfl ar));let ko:=J _ _ h1 (jl (ok.n 0 2 rfl rfl ar) (ok.n 0 3 rfl rfl ar)) (jl (ok.n 0 5 rfl rfl ar) (ok.n 0 6 rfl rfl ar));let ki:=J _ _ G.il (jl (ok.n 8 2 rfl rfl ar) (ok.n 8 3 rfl rfl ar)) (jl (ok.n 8 5 rfl rfl ar) (ok.n 8 6 rfl rfl ar));let aB:=G.fr.hw;let a0:=G.sl.hw;let#[_,a1,_]:=G.fr.hc;let#[_,ac,_]:=G.sl.hc;let kt:∀x∈l,upd H2 u (.tup (iK false ((s'.ow false).idxOf 0))) x.2.1=some (.tup (iK x.2.2.1 x.2.2.2)):=λx hx=>J _ _ (L x hx) (jl (cU (L x hx) aB (by intro z;cases z)) (cU (L x hx) a1 (by intro z;cases z))) (jl (cU (L x hx) a0 (by intro z;cases z)) (cU (L x hx) ac (by intro z;cases z)));change EU K _ _ _ (upd H2 u (.tup (iK false ((s'.ow false).idxOf 0)))) _;generalize upd H2 u (.tup (iK false ((s'.ow false).idxOf 0)))=H3 at *;show#[0,I.pg,C,dx,_,0,ko,T.cl,T.nP,rC _ _,0,I.pd,0,gK.k (k:=NC k) kd (by rw[Tb.dg];omega),?_];show q _ (bS.DQ (s:=Pg.out s' k n cs c) (f:=s'.pl) (b:=false) (n:=(s'.ow false).idxOf 0) ok #[dx,ko] as ab ?_ ?_ kd nd kt hl (.inr #[by rw[S];simp,am]) hu ?_) ?_
 .change H3 I.il=some (.lst ((s'.inf.erase k).map V.int));rw[Qr ni];show ki
 .intro b;cases b
  .change(Wr _ _ _).length<=60;rw[OG];show G.le false
  .change(Wr _ _ _).length<=60;rw[OG];show G.le true
 .intro j;cases e:j=k
  .subst e;show Pg.bt.trans Pg.bt.symm
  .show(Pg.aL e).trans ((Pg.aL e).trans (Pg.aL e).symm)
 .intro b o e z;rw[aj (λy=>z (by rw[y];show PA.gQ 5 rfl))];show J b o e (λy=>z (y.elim (λy=>by rw[y];show PA.gQ 1 rfl) λy=>by rw[y];show PA.gQ 2 rfl)) (λy=>z (y.elim (λy=>by rw[y];show PA.gQ 3 rfl) λy=>by rw[y];show PA.gQ 4 rfl))
abbrev oJ:N8:=inClass (top 14) 7
inductive jN(C CS:Addr)(v:List V)(H:Hp)(Q:VK)(e:XK):Prop
 |mk(M:Wz)(A:PA)(s:Pg.PS)(k:Int)(t l:Addr)(cs:List Int)(c:Nat)(_:v=[.ref A.pg,.int k,.ref t])(_:bS C CS H M A s)(_:A.Ok M)(_:(∀b,M b->H b≠none))(_:Pg.Good { s with pl:=Pg.d9 s.pl k none })(_:((0:Int)∈s.ow true\/(0:Int)∈s.ow false))(_:s.ow true≠[])(_:(∀b,∀x∈s.ow b,x<=1000))(_:H t=some (.tup [.ref l,.int c]))(_:H l=some (.lst (cs.map V.int)))(_:¬ M l)(_:1<=c)(_:c<=1000)(_:∀(H':Hp)(s':Pg.PS),Pg.BI { s with pl:=Pg.d9 s.pl k none } k cs c s'->bS C CS H' M A s'->Off A.own H H'->Q .non H')
theorem vJ(A:PA)(n:Int):(cX A n).lookup ("in_frames" : Str)=some (.ref A.il):=by
 unfold cX;rw[aG,Wy rfl]
theorem Mx:aA ["self","sheet","moved"] ["self","sheet","moved"] (aq oJ):=L2.bC
theorem vE{C CS:Addr}(F:cj K "bring_in" "Paging.bring_in" oJ f fd)(T:qF K mg C)(TS:Txt K mg CS)(GF:↥Md 1 CS "free" (tM CS))(a8:↥Md 5 C "put_out" (gv C CS))(bf:↥Df 4 "settle" (lM CS)):↥aN 6 f fd ["self","sheet","moved"] (jN C CS):=by
 show F.dE Mx (λbx A outer s H vs Q E hr h=>?_);let#[M,I,s',k,t,l0,cs,c,rfl,G,ok,mt,U,hf,hn,hb,L,a4,nl,c1,c2,q]:=h;let#[dx,h1]:=G.ob;let#[bi,h2]:=G.fr.ob;let hs:=vl;let bn:¬ I.own l0:=λz=>nl (ok.own _ z);show#[_,(ai (bj (az bM (lU (aH (pv 0) rfl) TS.cl GF hr aw) ah (aF _)) (ao (aQ (pm (pv 0) T.cl a8 hr aw (aa (gU OE Tu Tv vL (aH (pv 0) rfl) (aa ah ag)) ag)))) aI)
  (ai (lj (bN hr) (aH (pv 0) rfl) (pv 1) (cI (aa aS (aa (pc bf hr aw (aa (aH (pv 0) rfl) (aa (pv 2) ag))) ag))) rfl)
  (ao (aQ (gU OE Qa Qb jT (aH (pv 0) rfl) (aa (pv 1) ag)))))),?_]
 show share (λσ Y=>Jd λ(s1 s2:Pg.PS)=>JB (σ=#v[.ref I.pg,.int k,.ref t]) (bS C CS Y M I s1) (s2.ow=s1.ow) (s2.co=s1.co) (s2.ls=s1.ls) (s2.inf=s1.inf) ((∀j,j≠k->s2.pl j=s1.pl j)) (Pg.Good s2) ((0:Int)∈s2.ow true) (Pg.BI { s' with pl:=Pg.d9 s'.pl k none } k cs c (Pg.zb s2 true k cs c)) (Off I.own H Y)) (λu' aT=>?A) ?B
 case A =>
  show#[0,I.pg,C,dx,_,0,h1,T.cl,T.nF,pA _ _,I.fp,bi,0,h2,aV _ _ ak ak,I.fp,I.fo,I.fc,M,_,0,G.fr,rfl,0,?_];show dX (λz'=>?_) (λz'=>?_)
  rotate_left
  .let z:(0:Int)∈s'.ow true:=OO λn=>z' (by rw[Sl.mpr n];simp);show aT _ _ #[s', { s' with pl:=Pg.d9 s'.pl k none },rfl,G,1,1,λj hj=>Pg.aL hj,U,z,.free z,λb o e _=>e]
  .let z:¬ (0:Int)∈s'.ow true:=Sl.mp (by
    have:(((s'.ow true).count 0:Nat):Int)=0:=‹z'›;omega)
   rcases Pg.K7 U hf hn with h|⟨_,ac,k0,r,n0,aB,c0,hi,O,ab⟩
   .show absurd h z
   .let bc:k0≠k:=λe=>by
     let O:Pg.d9 s'.pl k none k0=some (true,n0):=O;rwa[e,Pg.bt]at O
    let hi:s'.inf=k0::r:=hi;let bH:=(U.vw ab).1;let#[og,_,_,ba,_,_,bI]:=Pg.vN U O ab ac;let#[b1,n1,e1,e2,e3]:=id ab;rwa[O]at e1;let as:s'.pl k0=some (true,n0):=(by rw[<-O];show(Pg.aL bc).symm);let bY:=hb true c0 (vh e3);obtain⟨ap,rfl⟩:∃c':Nat,c0=c':=#[c0.toNat,af];let N:=U.nd;let N:s'.inf.Nodup:=N;rw[hi]at N;let#[n1,n2]:=N6.mp N;let J:=G.pL ok r;let S:Off I.own H (upd H I.il (.lst (r.map V.int))):=λb o e z=>(by rw[aj (λy=>z (by rw[y];show PA.gQ 6 rfl))];show e);let am:=G.il;rw[hi]at am;show#[0,I.pg,dx,0,h1,cR _ _ ak ak ak ak ak,0,I.pg,C,dx,_,0,h1,T.cl,T.nI,vJ _ _,.inl #[5,bq.of am],I.il,_,(0),(0),.int k0,1,am,ar,ar,Sx (OR _) (by rw[qi,K4];omega),4];show#[M,I,_,k0,n0,aB,ap,rfl,J,ok,J.alive S mt,as,#[true,n0,as,e2,e3],n1,ac,U.ln,af,af,λH2 G2 O2=>?_];show aT _ _ #[_,Pg.out { s' with pl:=Pg.d9 s'.pl k none } k0 n0 aB ap,rfl,G2,1,rfl,3,og,ba,.full z ac hi O ab,λb o e y=>O2 b o (S b o e y) y]
    .change s'.inf.erase k0=r.erase k0;rw[hi,List.erase_cons_head,Qr n1]
    .intro j hj;cases e:j=k0
     .subst e;show Pg.bt.trans Pg.bt.symm
     .show(Pg.aL e).trans ((Pg.aL e).trans ((Pg.aL hj).trans ((Pg.aL e).trans (Pg.aL e)).symm))
 case B =>
  rintro σ Y ⟨s1,s2,rfl,J,R,w2,w3,w4,w5,g2,z0,a5,S⟩;let#[ad,h3]:=J.ob;let bb:Y t=some (.tup [.ref l0,.int c]):=S _ _ L λy=>by
   let#[_,q1,_]:=G.fr.hc;let#[_,q2,_]:=G.sl.hc;let#[_,q3,_]:=G.pd;let q4:=G.fr.hw;let q5:=G.sl.hw;let q6:=G.il;unfold PA.own at y;simp only[se,DO,or_false]at y;rcases y with y|y|y|y|y|y|y<;>rw[y]at L
   .rw[h1]at L;cases L
   .rw[q4]at L;cases L
   .rw[q1]at L;cases L
   .rw[q5]at L;cases L
   .rw[q2]at L;cases L
   .rw[q3]at L;cases L
   .rw[q6]at L;cases L
  let bd:=S _ _ a4 bn;let#[l,hd,N,ht,hl,bz]:=J.pd;let bl:l.length<=999:=by
   let a1:=oj (k:=k) N;let a2:=FD g2 (λb=>by rw[R];show J.le b) (l:=Tb.bp l k) (by rw[Tb.lu];show N.filter _) λx hx=>by
    let#[hx,bv]:=Tb.cZ hx;have:=hl x.1;rw[Tb.bW N hx]at this;rw[w5 x.1 bv, <-this];rfl
   omega
  rw[R]at z0;let a7:(s1.co true).length=(s1.ow true).length:=(by rw[<-R, <-w2];show g2.ln true);show#[0,I.pg,C,ad,_,0,h3,T.cl,T.nF,pA _ _,0,I.fp,I.fo,I.fc,t,l0,M,2,cs,c,rfl,J.fr,ok.m 2 rfl,ok.m 3 rfl,J.alive S mt,ok.n 2 3 rfl rfl ar,a7.symm,J.le true,z0,bb,bd,nl,c1,c2,?_];intro H2 S2 O2;show#[fG,λu fu=>?_];let a6:=S2.keep (de (o:=.tup (iK true ((s1.ow true).idxOf 0))) fu);let a0:=(J.sl.off O2 (Kr (ok.m 2 rfl) (ok.m 3 rfl)) (jl (ok.n 4 2 rfl rfl ar) (ok.n 4 3 rfl rfl ar)) (jl (ok.n 5 2 rfl rfl ar) (ok.n 5 3 rfl rfl ar)) (jl (ok.n 6 2 rfl rfl ar) (ok.n 6 3 rfl rfl ar))).keep (de (o:=.tup (iK true ((s1.ow true).idxOf 0))) fu);let kp:∀b o,Y b=some o->¬ (b=I.fo\/b=I.fc)->upd H2 u (.tup (iK true ((s1.ow true).idxOf 0))) b=some o:=λb o e z1=>de fu b o (O2 b o e z1) id;let hu:upd H2 u (.tup (iK true ((s1.ow true).idxOf 0))) u=some (.tup (iK true ((s1.ow true).idxOf 0))):=ae;let kd:=kp _ _ hd (jl (ok.n 7 2 rfl rfl ar) (ok.n 7 3 rfl rfl ar));let ko:=kp _ _ h3 (jl (ok.n 0 2 rfl rfl ar) (ok.n 0 3 rfl rfl ar));let ki:=kp _ _ J.il (jl (ok.n 8 2 rfl rfl ar) (ok.n 8 3 rfl rfl ar));let be:=J.fr.hw;let#[_,bm,_]:=J.fr.hc;let kt:∀x∈l,upd H2 u (.tup (iK true ((s1.ow true).idxOf 0))) x.2.1=some (.tup (iK x.2.2.1 x.2.2.2)):=λx hx=>kp _ _ (ht x hx) (jl (cU (ht x hx) be (by intro z;cases z)) (cU (ht x hx) bm (by intro z;cases z)));change EU K _ _ _ (upd H2 u (.tup (iK true ((s1.ow true).idxOf 0)))) _;generalize upd H2 u (.tup (iK true ((s1.ow true).idxOf 0)))=H3 at *;show#[0,I.pg,C,ad,_,0,ko,T.cl,T.nP,rC _ _,0,I.pd,0,gK.k (k:=NC k) kd (by rw[Tb.dg];omega),?_];let G4:=bS.DQ (C:=C) (CS:=CS) (s:={ Pg.zb s1 true k cs c with inf:=s1.inf }) (f:=s1.pl) (k:=k) (b:=true) (n:=(s1.ow true).idxOf 0) ok #[ad,ko] a6 a0 ki (λb=>by
   cases b
   .show J.le false
   .change(Wr _ _ _).length<=60;rw[OG];show J.le true) kd N kt hl (.inl bl) hu (λj=>rfl)
  let O4:Off I.own H (upd H3 I.pd (.dK (putK (Tb.dk uO l) (NC k) (.ref u)))):=λb o e z=>by
   rw[aj (λy=>z (by rw[y];show PA.gQ 5 rfl))];show kp b o (S b o e z) (λy=>z (y.elim (λy=>by rw[y];show PA.gQ 1 rfl) λy=>by rw[y];show PA.gQ 2 rfl))
  generalize upd H3 I.pd (.dK (putK (Tb.dk uO l) (NC k) (.ref u)))=H4 at *;let#[a3,h4]:=G4.ob;let bJ:s1.inf.length<=60:=(by rw[<-w4];show y6 g2 (by rw[R];show J.le true));show#[0,I.pg,C,a3,_,0,h4,T.cl,T.nI,vJ _ _,.inl #[5,bq.of G4.il],0,I.il,_,.int k,1,G4.il,by rw[qi];change s1.inf.length<_;omega,?_];let G5:=G4.pL ok (s1.inf++[k]);rw[N5]at G5;show q _ _ a5 (G5.Ie ?_ ?_ w3 ?_ ?_) λb o e z=>by
   rw[aj (λy=>z (by rw[y];show PA.gQ 6 rfl))];show O4 b o e z
  .change Pg.upd s2.ow true _=Pg.upd s1.ow true _;rw[R]
  .change Pg.upd s2.co true _=Pg.upd s1.co true _;rw[R,w2]
  .change s2.inf++[k]=s1.inf++[k];rw[w4]
  .intro j;change Pg.d9 s2.pl k _ j=Pg.d9 s1.pl k _ j;cases e:j=k
   .rw[e,Pg.bt,Pg.bt,R]
   .rw[Pg.aL e,Pg.aL e];show w5 j e
end
end St
namespace Pg
theorem wC{α:Type}{f:Bool->α}{b:Bool}:upd f b (f b)=f:=by
 funext c;cases e:c=b
 .rw[e,ae]
 .rw[bh e]
theorem Ah{α:Type}{f:Int->α}{k:Int}{v:α}(h:f k=v):d9 f k v=f:=by
 funext c;cases e:c=k
 .rw[e,bt,h]
 .rw[aL e]
theorem wU{s:PS}(G:Good s):({ next s with pl:=d9 (next s).pl (s.ls+1) none }:PS)=next s:=by
 let e:d9 s.pl (s.ls+1) none=s.pl:=Ah (gi G);change PS.mk s.ow s.co (d9 s.pl (s.ls+1) none) (s.ls+1) s.inf=PS.mk s.ow s.co s.pl (s.ls+1) s.inf;rw[e]
theorem y8{s:PS}{k:Int}{n:Nat}(G:Good s)(F:s.pl k=some (false,n)):¬ k∈s.inf:=λh=>by
 let#[m,z]:=(G.fi k).mp h;rwa[F]at z
theorem ym{s:PS}{k:Int}{n:Nat}(G:Good s)(z:s.pl k=some (false,n)):({ cF s false n 0 with pl:=d9 (cF s false n 0).pl k none }:PS)=qJ s k false n:=by
 change PS.mk (upd s.ow false ((s.ow false).set n 0)) s.co (d9 s.pl k none) s.ls s.inf=PS.mk (upd s.ow false ((s.ow false).set n 0)) s.co (d9 s.pl k none) s.ls (s.inf.erase k);rw[Qr (y8 G z)]
def Cb(s:PS):Prop:=∀b,∀x∈s.ow b,x<=1000
theorem HI{ow:Bool->List Int}{b:Bool}{n:Nat}{x:Int}(h:∀b,∀x∈ow b,x<=1000)(hx:x<=1000):∀c,∀y∈upd ow b ((ow b).set n x) c,y<=1000:=by
 intro c y z;cases e:c=b
 .rw[e,ae]at z;rcases Sr z with h' |h'
  .show h b y h'
  .rw[h'];show hx
 .rw[bh e]at z;show h c y z
end Pg
namespace Pg
theorem RI.cb{s:PS}{es:List Ent}(R:RI s es)(le:∀b,(s.ow b).length<=60):Cb s:=by
 intro b x hx;let#[n,z]:=TZ hx;rcases R.good.on b n x z with e|⟨k,F⟩
 .omega
 .let#[cs,c,h1,h2,_,_]:=R.good.va _ _ _ F;rwa[z]at h2;let G:=R.ct k cs x #[b,n,F,h1,z];let L:=List.count_le_length (a:=some k) (l:=es);let I:=R.rm;let J:=le true;let N:=le false;omega
end Pg
namespace St
open PySem L2
section
variable{A:PA}{M:Wz}
theorem Cr(A:PA)(n:Int):(cX A n).lookup ("last_sheet" : Str)=some (.int n):=by
 unfold cX;rw[aG,Wx ak,aG,Wy rfl]
theorem Cf(A:PA)(n:Int):cX A n=([("frames",.ref A.fp),("slots",.ref A.sp),("places",.ref A.pd),("last_sheet",.int n),("in_frames",.ref A.il)]:List (Str×V)):=by
 let I:¬ (("frames" : Str) = "slots"):=ak;let S:¬ (("frames" : Str) = "places"):=ak;let z:¬ (("frames" : Str) = "last_sheet"):=ak;let L:¬ (("frames" : Str) = "in_frames"):=ak;let N:¬ (("slots" : Str) = "places"):=ak;let F:¬ (("slots" : Str) = "last_sheet"):=ak;let O:¬ (("slots" : Str) = "in_frames"):=ak;let G:¬ (("places" : Str) = "last_sheet"):=ak;let J:¬ (("places" : Str) = "in_frames"):=ak;let R:¬ (("last_sheet" : Str) = "in_frames"):=ak;unfold cX;simp only[bu,Wx I,Wx S,Wx z,Wx L,Wx N,Wx F,Wx O,Wx G,Wx J,Wx R]
theorem Gq(A:PA)(n m:Int):bu "last_sheet" (.int m) (cX A n)=cX A m:=by
 let z:¬ (("frames" : Str) = "last_sheet"):=ak;let F:¬ (("slots" : Str) = "last_sheet"):=ak;let G:¬ (("places" : Str) = "last_sheet"):=ak;rw[Cf,Cf];simp only[bu,Wx z,Wx F,Wx G,if_true]
theorem bS.JS{C CS dx:Addr}{H:Hp}{s:Pg.PS}(G:bS C CS H M A s)(ok:A.Ok M)(n:Int):bS C CS (upd H A.pg (.ins C dx (cX A n))) M A { s with ls:=n }:=by
 let o:Off (· = A.pg) H (upd H A.pg (.ins C dx (cX A n))):=λb o e z=>(by rw[aj z];show e);let#[N,h1]:=G.ob;let#[l,hd,L,F,I,J]:=G.pd;show#[#[dx,ae],G.fr.off o (in1 (ok.m 0 rfl)) (ok.n 1 0 rfl rfl ar) (ok.n 2 0 rfl rfl ar) (ok.n 3 0 rfl rfl ar),G.sl.off o (in1 (ok.m 0 rfl)) (ok.n 4 0 rfl rfl ar) (ok.n 5 0 rfl rfl ar) (ok.n 6 0 rfl rfl ar),o _ _ G.il (ok.n 8 0 rfl rfl ar),G.le,
  #[l,o _ _ hd (ok.n 7 0 rfl rfl ar),L,λx hx=>o _ _ (F x hx) (cU (F x hx) h1 (by intro z;cases z)),I,J]]
theorem bS.FR{C CS:Addr}{H H':Hp}{s:Pg.PS}(G:bS C CS H M A s)(ok:A.Ok M)(b:Bool){os:List Int}{pg:List (Option (List Int))}(S:aY CS H' M (A.st b) (A.ow b) (A.co b) os pg)(o:Off (λx=>x=A.ow b\/x=A.co b) H H')(Y:os.length<=60):bS C CS H' M A { s with ow:=Pg.upd s.ow b os,co:=Pg.upd s.co b pg }:=by
 let#[I,h1]:=G.ob;let#[l,hd,N,F,J,L]:=G.pd;let le:∀c,(Pg.upd s.ow b os c).length<=60:=λc=>by
  cases e:c=b
  .rw[e,Pg.ae];show Y
  .rw[Pg.bh e];show G.le c
 let U:=(G.st b).hw;let#[_,R,_]:=(G.st b).hc;let O:∀x∈l,H' x.2.1=some (.tup (iK x.2.2.1 x.2.2.2)):=λx hx=>o _ _ (F x hx) (jl (cU (F x hx) U (by intro z;cases z)) (cU (F x hx) R (by intro z;cases z)));cases b
 .show#[#[I,o _ _ h1 (jl (ok.n 0 5 rfl rfl ar) (ok.n 0 6 rfl rfl ar))],G.fr.off o (Kr (ok.m 5 rfl) (ok.m 6 rfl)) (jl (ok.n 1 5 rfl rfl ar) (ok.n 1 6 rfl rfl ar)) (jl (ok.n 2 5 rfl rfl ar) (ok.n 2 6 rfl rfl ar)) (jl (ok.n 3 5 rfl rfl ar) (ok.n 3 6 rfl rfl ar)),S,o _ _ G.il (jl (ok.n 8 5 rfl rfl ar) (ok.n 8 6 rfl rfl ar)),le,
   #[l,o _ _ hd (jl (ok.n 7 5 rfl rfl ar) (ok.n 7 6 rfl rfl ar)),N,O,J,L]]
 .show#[#[I,o _ _ h1 (jl (ok.n 0 2 rfl rfl ar) (ok.n 0 3 rfl rfl ar))],S,G.sl.off o (Kr (ok.m 2 rfl) (ok.m 3 rfl)) (jl (ok.n 4 2 rfl rfl ar) (ok.n 4 3 rfl rfl ar)) (jl (ok.n 5 2 rfl rfl ar) (ok.n 5 3 rfl rfl ar)) (jl (ok.n 6 2 rfl rfl ar) (ok.n 6 3 rfl rfl ar)),o _ _ G.il (jl (ok.n 8 2 rfl rfl ar) (ok.n 8 3 rfl rfl ar)),le,
   #[l,o _ _ hd (jl (ok.n 7 2 rfl rfl ar) (ok.n 7 3 rfl rfl ar)),N,O,J,L]]
theorem bS.CY{C CS:Addr}{H H':Hp}{s:Pg.PS}(G:bS C CS H M A s)(ok:A.Ok M)(b:Bool){os:List Int}(S:aY CS H' M (A.st b) (A.ow b) (A.co b) os (s.co b))(o:Off (λx=>x=A.ow b\/x=A.co b) H H')(z:os.length<=60):bS C CS H' M A { s with ow:=Pg.upd s.ow b os }:=
 (G.FR ok b S o z).Ie rfl Pg.wC.symm rfl rfl λ_=>rfl
theorem bS.KY{C CS:Addr}{H H':Hp}{s:Pg.PS}(G:bS C CS H M A s)(ok:A.Ok M)(b:Bool){pg:List (Option (List Int))}(S:aY CS H' M (A.st b) (A.ow b) (A.co b) (s.ow b) pg)(o:Off (λx=>x=A.ow b\/x=A.co b) H H'):bS C CS H' M A { s with co:=Pg.upd s.co b pg }:=
 (G.FR ok b S o (G.le b)).Ie Pg.wC.symm rfl rfl rfl λ_=>rfl
theorem PA.lZ(b:Bool):∀x,x=A.ow b\/x=A.co b->A.own x:=by
 intro x h;cases b
 .rcases h with h|h<;>rw[h]
  .show PA.gQ 3 rfl
  .show PA.gQ 4 rfl
 .rcases h with h|h<;>rw[h]
  .show PA.gQ 1 rfl
  .show PA.gQ 2 rfl
theorem PA.Ok.mo(ok:A.Ok M)(b:Bool):M (A.ow b):=ok.own _ (PA.lZ b _ (.inl rfl))
theorem PA.Ok.mc(ok:A.Ok M)(b:Bool):M (A.co b):=ok.own _ (PA.lZ b _ (.inr rfl))
theorem PA.Ok.oc(ok:A.Ok M)(b:Bool):A.ow b≠A.co b:=by
 cases b
 .show ok.n 5 6 rfl rfl ar
 .show ok.n 2 3 rfl rfl ar
theorem Off.mono{B F:Wz}{H H':Hp}(o:Off B H H')(h:∀b,B b->F b):Off F H H':=λb u e z=>o b u e λy=>z (h b y)
theorem Off.trans{B:Wz}{H H' F:Hp}(o:Off B H H')(o':Off B H' F):Off B H F:=λb u e z=>o' b u (o b u e z) z
theorem Off.wr{B:Wz}{H:Hp}{a:Addr}{o:HO}(h:B a):Off B H (upd H a o):=λb u e z=>by rw[aj (λy=>z (by rw[y];show h))];show e
theorem Off.new{B:Wz}{H:Hp}{a:Addr}{o:HO}(h:H a=none):Off B H (upd H a o):=λb u e z=>de h b u e id
theorem bS.Hz{C CS:Addr}{H:Hp}{s:Pg.PS}{l:Hu}(G:bS C CS H M A s)(ok:A.Ok M)(k:Int)(hd:H A.pd=some (.dK (Tb.dk uO l)))(L:(l.map (·.1)).Nodup)(F:∀x∈l,H x.2.1=some (.tup (iK x.2.2.1 x.2.2.2)))(I:∀j,(Tb.look l j).map (·.2)=s.pl j)(J:l.length<=1000) :
  bS C CS (upd H A.pd (.dK (Tb.dk uO (Tb.bp l k)))) M A { s with pl:=Pg.d9 s.pl k none }:=by
 let o:Off (· = A.pd) H (upd H A.pd (.dK (Tb.dk uO (Tb.bp l k)))):=λb o e z=>(by rw[aj z];show e);let#[dx,h1]:=G.ob;show#[#[dx,o _ _ h1 (ok.n 0 7 rfl rfl ar)],G.fr.off o (in1 (ok.m 7 rfl)) (ok.n 1 7 rfl rfl ar) (ok.n 2 7 rfl rfl ar) (ok.n 3 7 rfl rfl ar),G.sl.off o (in1 (ok.m 7 rfl)) (ok.n 4 7 rfl rfl ar) (ok.n 5 7 rfl rfl ar) (ok.n 6 7 rfl rfl ar),o _ _ G.il (ok.n 8 7 rfl rfl ar),G.le,
  #[Tb.bp l k,ae,by rw[Tb.lu];show L.filter _,λx hx=>?_,λj=>?_,le_trans (QH _ _) J]]
 .let hx:=(Tb.cZ hx).1;show o _ _ (F x hx) (cU (F x hx) hd (by intro z;cases z))
 .rw[Tb.bV];change _=Pg.d9 s.pl k none j;cases e:j=k
  .rw[Wy e,e,Pg.bt];rfl
  .rw[Wx e,Pg.aL e];show I j
end
theorem Kk{D:Ends}{σ:St}{H:Hp}(h:D.nx σ H):rN D σ H:=h
abbrev mP:N8:=inClass (top 14) 1
abbrev yD:N8:=inClass (top 14) 2
abbrev yK:N8:=inClass (top 14) 3
abbrev sY:N8:=inClass (top 14) 5
abbrev xK:N8:=inClass (top 14) 6
structure KQ(C CS:Addr)(H:Hp)(M:Wz)(A:PA)(s:Pg.PS):Prop where
 at_:bS C CS H M A s
 ok:A.Ok M
 mt:∀b,M b->H b≠none
 gd:Pg.Good s
 ne:s.ow true≠[]
 cb:Pg.Cb s
 l0:0<=s.ls
inductive iu(K:DD)(C CS:Addr)(v:List V)(H:Hp)(Q:VK)(e:XK):Prop
 |mk(M:Wz)(A:PA)(s:Pg.PS)(ca:Addr)(cs:List Int)(_:v=[.ref A.pg,.ref ca])(_:KQ C CS H M A s)(_:((0:Int)∈s.ow true\/(0:Int)∈s.ow false))(_:bq K H ca (cs.map V.int))(_:ca≠A.pg)(_:cs.length=8)(_:∀(H':Hp)(s':Pg.PS),Pg.BI (Pg.next s) (s.ls+1) cs 1 s'->bS C CS H' M A s'->Off A.own H H'->Q (.int (s.ls+1)) H')
inductive nY(C CS:Addr)(v:List V)(H:Hp)(Q:VK)(e:XK):Prop
 |mk(M:Wz)(A:PA)(s:Pg.PS)(k:Int)(cs:List Int)(c:Int)(_:v=[.ref A.pg,.int k])(_:KQ C CS H M A s)(_:Pg.Vw s k cs c)(_:∀(H':Hp)(s':Pg.PS),Pg.FE s k s'->bS C CS H' M A s'->Off A.own H H'->Q .non H')
inductive sC(C CS:Addr)(v:List V)(H:Hp)(Q:VK)(e:XK):Prop
 |mk(M:Wz)(A:PA)(s:Pg.PS)(k:Int)(b:Bool)(n:Nat)(cs:List Int)(c:Int)(_:v=[.ref A.pg,.int k])(_:KQ C CS H M A s)(_:s.pl k=some (b,n))(_:Pg.Vw s k cs c)(_:∀H':Hp,bS C CS H' M A (Pg.cF s b n (c+1))->Off A.own H H'->Q .non H')
inductive ox(C CS:Addr)(v:List V)(H:Hp)(Q:VK)(e:XK):Prop
 |mk(M:Wz)(A:PA)(s:Pg.PS)(k:Int)(cs:List Int)(c:Int)(_:v=[.ref A.pg,.int k])(_:bS C CS H M A s)(_:A.Ok M)(_:(∀b,M b->H b≠none))(_:Pg.Good s)(_:Pg.Vw s k cs c)(_:∀(H':Hp)(s':Pg.PS),Pg.Fn s k s'->bS C CS H' M A s'->Off A.own H H'->Q .non H')
inductive qe(C CS:Addr)(v:List V)(H:Hp)(Q:VK)(e:XK):Prop
 |mk(M:Wz)(A:PA)(s:Pg.PS)(k:Int)(ca:Addr)(cs0:List Int)(c0:Int)(cs:List Int)(_:v=[.ref A.pg,.int k,.ref ca])(_:KQ C CS H M A s)(_:Pg.Vw s k cs0 c0)(_:H ca=some (.lst (cs.map V.int)))(_:¬ A.own ca)(_:cs.length=8)(_:(1<c0->(0:Int)∈s.ow true\/(0:Int)∈s.ow false))(_:(1<c0->∀(H':Hp)(s1 s2:Pg.PS),Pg.BI (Pg.next s) (s.ls+1) cs 1 s1->Pg.Fn s1 k s2->bS C CS H' M A s2->Off A.own H H'->Q (.int (s.ls+1)) H'))(_:(c0=1->∀(H':Hp)(s1:Pg.PS)(m:Nat),Pg.FE s k s1->s1.pl k=some (true,m)->bS C CS H' M A (Pg.write s1 true m cs)->Off A.own H H'->Q (.int k) H'))
theorem Mr:aA ["self","cells"] ["self","cells"] (aq mP):=L2.bC
theorem sS{C CS:Addr}(F:cj K "new_sheet" "Paging.new_sheet" mP f fd)(T:qF K mg C)(TS:Txt K mg CS)(S:↥Md 1 CS "free" (tM CS))(a1:↥Md 6 C "bring_in" (jN C CS)):↥aN 7 f fd ["self","cells"] (iu K C CS):=by
 show F.dE Mr (λa2 A outer s H vs Q E L h=>?_);let#[M,I,s',ca,cs,rfl,R,hf,ac,as,h8,q]:=h;let G:=R.at_;let ok:=R.ok;let#[dx,h1]:=G.ob;let#[am,h2]:=G.fr.ob;let#[a0,h3]:=G.sl.ob;let hs:=vl;show#[_,(ai (bj (az bM (ay bD (lU (aH (pv 0) rfl) TS.cl S L aw) (lU (aH (pv 0) rfl) TS.cl S L aw)) ah (aF _)) du aI)
  (ai (AJ (pv 0) ah IM)
  (ai (aQ (pm (pv 0) T.cl a1 L aw (aa (aH (pv 0) rfl) (aa (cI (aa (cJ dY (by rfl) T.list fb (aa (pv 1) ag)) (aa ah ag))) ag))))
  (ao (aJ (aH (pv 0) rfl)))))),?_]
 show#[0,I.pg,C,dx,_,0,h1,T.cl,T.nF,pA _ _,I.fp,am,0,h2,aV _ _ ak ak,I.fp,I.fo,I.fc,M,_,0,G.fr,?_];show#[0,I.pg,C,dx,_,0,h1,T.cl,T.nS,vG _ _,I.sp,a0,0,h3,aV _ _ ak ak,I.sp,I.so,I.sc,M,_,0,G.sl,_,0,1,0,?_];show dX (λz=>?_) (λ_=>?_)
 .exfalso;let z:(((s'.ow true).count 0:Nat):Int)+(((s'.ow false).count 0:Nat):Int)=0:=‹z›;rcases hf with h|h
  .have:=Oe.mpr h;omega
  .have:=Oe.mpr h;omega
 show#[0,I.pg,C,dx,_,0,h1,T.cl,T.nL,Cr _ _,_,0,rfl,dx,_,h1,by rw[Cf];change 5<1000;decide,?_];rw[Gq];let G1:=G.JS (dx:=dx) ok (s'.ls+1);let O1:Off I.own H (upd H I.pg (.ins C dx (cX I (s'.ls+1)))):=Off.wr (PA.gQ 0 rfl);let aT:bq K (upd H I.pg (.ins C dx (cX I (s'.ls+1)))) ca (cs.map V.int):=Rm.gn ac λo e=>(by rw[aj as];show e);let ab:=G1.alive O1 R.mt;let Y:upd H I.pg (.ins C dx (cX I (s'.ls+1))) I.pg=some (.ins C dx (cX I (s'.ls+1))):=ae;generalize upd H I.pg (.ins C dx (cX I (s'.ls+1)))=H1 at *;show#[0,I.pg,dx,0,Y,cR _ _ ak ak ak ak ak,0,I.pg,C,dx,_,0,Y,T.cl,T.nL,Cr _ _,0,ca,0,.inl aT,λl O=>?_];show#[fG,λt J=>?_];let O2:Off I.own H1 (upd (upd H1 l (.lst (cs.map V.int))) t (.tup [.ref l,.int 1])):=(Off.new O).trans (Off.new J);let ap:t≠l:=λe=>(by rwa[e,ae]at J);let ht:upd (upd H1 l (.lst (cs.map V.int))) t (.tup [.ref l,.int 1]) t=some (.tup [.ref l,.int 1]):=ae;let hl:upd (upd H1 l (.lst (cs.map V.int))) t (.tup [.ref l,.int 1]) l=some (.lst (cs.map V.int)):=(by rw[aj (G0 ap),ae]);let U:bS C CS (upd (upd H1 l (.lst (cs.map V.int))) t (.tup [.ref l,.int 1])) M I { s' with ls:=s'.ls+1 }:=(G1.keep (de O)).keep (de J);generalize upd (upd H1 l (.lst (cs.map V.int))) t (.tup [.ref l,.int 1])=H2 at *;let es:=Pg.wU R.gd;show#[M,I,Pg.next s',s'.ls+1,t,l,cs,(1),rfl,U,ok,U.alive O2 ab,by rw[es];show Pg.rE R.gd,hf,R.ne,R.cb,ht,hl,λz=>ab l z O,t7 _,ar,λH3 s3 N G3 O3=>?_];rw[es]at N;let#[ad,h4]:=G3.ob;let aB:s3.ls=s'.ls+1:=(Pg.mG R.gd R.l0 h8 N).ls;show#[0,I.pg,C,ad,_,0,h4,T.cl,T.nL,Cr _ _,?_];rw[aB];show q H3 s3 N G3 ((O1.trans O2).trans O3)
theorem JM:aA ["self","sheet","place"] ["self","sheet"] (aq xK):=L2.bC
theorem Cj{C CS:Addr}(F:cj K "fetch" "Paging.fetch" xK f fd)(T:qF K mg C)(am:↥Md 1 C "place" (jB C CS))(aB:↥Md 6 C "bring_in" (jN C CS))(ad:↥Df 4 "lift" (uG CS)):↥aN 7 f fd ["self","sheet"] (nY C CS):=by
 show F.dE JM (λaT A outer s H vs Q E S h=>?_);let#[M,z,s',k,cs,c,rfl,R,U,q]:=h;let G:=R.at_;let ok:=R.ok;let hc:=(R.gd.vw U).1;let#[b,n,J,e2,e3]:=id U;let#[dx,h1]:=G.ob;let hs:=vl;show#[_,(ai (cQ 2 JM.nd (pm (pv 0) T.cl am S aw (aa (pv 1) ag)))
  (ai (bj (az bM (aM aK (pv 2) ah bX) aS (aF _)) (ai (aQ (gU OE SR SH qS (aH (pv 0) rfl) (aa (pv 1) ag)))
  (ai (aQ (gU OE Qa Qb jT (aH (pv 0) rfl) (aa (pv 1) ag)))
  (ao sg))) aI)
  (ao (aQ (pm (pv 0) T.cl aB S aw (aa (pv 1) (aa (pc ad S aw (aa (aH (pv 0) rfl) (aa (aM aK (pv 2) ah bX) ag))) ag))))))),?_]
 show#[0,z.pg,dx,0,h1,cR _ _ ak ak ak ak ak,0,M,z,s',k,b,n,rfl,G,J,λt Y=>?_];show#[0,t,_,(0),0,rfl,bL.of Y,1,0,?_];cases b with
 |true =>
  show eg ?_;let hi:k∈s'.inf:=(R.gd.fi k).mpr #[n,J];show#[0,z.pg,C,dx,_,0,h1,T.cl,T.nI,vJ _ _,.inl #[5,bq.of G.il],0,z.il,s'.inf,k,1,G.il,hi,?_];let I:=G.pL ok (s'.inf.erase k);let O:Off z.own H (upd H z.il (.lst ((s'.inf.erase k).map V.int))):=Off.wr (PA.gQ 6 rfl);generalize upd H z.il (.lst ((s'.inf.erase k).map V.int))=H1 at *;let#[ac,h2]:=I.ob;let hl:=y6 R.gd (G.le true);let a0:(s'.inf.erase k).length<=s'.inf.length:=List.length_erase_le;show#[0,z.pg,C,ac,_,0,h2,T.cl,T.nI,vJ _ _,.inl #[5,bq.of I.il],0,z.il,_,.int k,1,I.il,by rw[qi];change(s'.inf.erase k).length<_;omega,?_];let L:=I.pL ok (s'.inf.erase k++[k]);rw[N5]at L;show q _ _ (.here J) L (O.trans (Off.wr (PA.gQ 6 rfl)))
 |false =>
  show b9 ?_;obtain⟨N,rfl⟩:∃N:Nat,c=N:=#[c.toNat,af];let a1:=R.cb false _ (vh e3);show#[0,z.pg,dx,0,h1,cR _ _ ak ak ak ak ak,0,0,z.pg,C,dx,_,0,h1,T.cl,T.nS,vG _ _,0,t,_,(1),0,rfl,bL.of Y,4];show#[z.sp,z.so,z.sc,M,2,n,cs,N,rfl,G.sl,ok.m 5 rfl,ok.m 6 rfl,R.mt,ok.n 5 6 rfl rfl ar,G.le false,e3,af,af,e2,?_];intro H1 t1 l1 a2 as nl ap S1 O;let I:=G.CY ok false S1 O (by rw[OG];show G.le false);let ab:Off z.own H H1:=O.mono (PA.lZ false);let es:=Pg.ym R.gd J;show#[M,z,Pg.cF s' false n 0,k,t1,l1,cs,N,rfl,I,ok,I.alive ab R.mt,by rw[es];show Pg.lR R.gd J,.inr (Pg.wo R.gd J),R.ne,Pg.HI R.cb ar,as,ap,nl,af,af,λH2 s2 hb L O2=>?_];rw[es]at hb;show q _ _ (.away J U hb) L (ab.trans O2)
theorem Mm:aA ["self","sheet"] ["self","sheet"] (aq yD):=L2.bC
theorem Ei{C CS:Addr}(F:cj K "share" "Paging.share" yD f fd)(T:qF K mg C)(TS:Txt K mg CS)(ac:↥Md 2 C "store_of" (gg C CS))(ab:↥Md 2 C "number_of" (dJ C CS))(GM:↥Md 3 CS "more" (ui CS)):↥aN 4 f fd ["self","sheet"] (sC C CS):=by
 show F.dE Mm (λad A outer s H vs Q E I h=>?_);let#[M,z,s',k,b,n,cs,c,rfl,R,J,U,q]:=h;let G:=R.at_;let ok:=R.ok;let hc:=(R.gd.vw U).1;let L:=Pg.wc J U;let#[dx,h1]:=G.ob;let S:=G.st b;let#[Y,h2]:=S.ob;show#[_,(ao (aQ (pm (pm (pv 0) T.cl ac I aw (aa (pv 1) ag)) TS.cl GM I aw (aa (pm (pv 0) T.cl ab I aw (aa (pv 1) ag)) ag)))),?_];show#[0,z.pg,dx,0,h1,cR _ _ ak ak ak ak ak,0,M,z,s',k,b,n,rfl,G,J,?_];show#[_,Y,0,h2,aV _ _ ak ak,?_];show#[0,z.pg,dx,0,h1,cR _ _ ak ak ak ak ak,0,M,z,s',k,b,n,rfl,G,J,?_];show#[2,_,M,2,n,rfl,S,ok.mo b,ok.mc b,ok.oc b,G.le b,by rw[dG L];omega,λH1 N O=>?_];rw[dG L,show(n:Int).toNat=n from OY n]at N;show q H1 (G.CY ok b N O (by rw[OG];show G.le b)) (O.mono (PA.lZ b))
theorem Ia:aA ["self","sheet","store","n"] ["self","sheet"] (aq yK):=L2.bC
theorem DL{C CS:Addr}(F:cj K "leave" "Paging.leave" yK f fd)(T:qF K mg C)(TS:Txt K mg CS)(aT:↥Md 2 C "store_of" (gg C CS))(aB:↥Md 2 C "number_of" (dJ C CS))(GL:↥Md 3 CS "less" (uo CS))(GC:↥Md 1 CS "count" (iw CS)):↥aN 4 f fd ["self","sheet"] (ox C CS):=by
 show F.dE Ia (λa0 A outer s H vs Q E N h=>?_);let#[M,I,s',k,cs,c,rfl,G,ok,mt,gd,R,q]:=h;let hc:=(gd.vw R).1;let#[b,n,J,e2,e3]:=id R;let#[nl,_]:=qc.mp e3;let#[dx,h1]:=G.ob;let S:=G.st b;let#[as,h2]:=S.ob;show#[_,(ai (cQ 2 Ia.nd (pm (pv 0) T.cl aT N aw (aa (pv 1) ag)))
  (ai (cQ 3 Ia.nd (pm (pv 0) T.cl aB N aw (aa (pv 1) ag)))
  (ai (aQ (pm (pv 2) TS.cl GL N aw (aa (pv 3) ag)))
  (ai (bj (az kO (pm (pv 2) TS.cl GC N aw (aa (pv 3) ag)) ah (aF _)) (ao sg) aI)
  (ai (bj (az bM (aM aK (cE (bN N) (aH (pv 0) rfl) (pv 1) bX) ah bX) aS (aF _)) (ao (aQ (gU OE SR SH qS (aH (pv 0) rfl) (aa (pv 1) ag)))) aI)
  (ao (aQ (ic (aH (pv 0) rfl) (pv 1) #[1,1])))))))),?_]
 show#[0,I.pg,dx,0,h1,cR _ _ ak ak ak ak ak,0,M,I,s',k,b,n,rfl,G,J,?_];show#[0,I.pg,dx,0,h1,cR _ _ ak ak ak ak ak,0,M,I,s',k,b,n,rfl,G,J,?_];show#[0,_,as,0,h2,aV _ _ ak ak,0,2,_,M,2,n,rfl,S,ok.mo b,ok.mc b,ok.oc b,G.le b,by rw[dG e3];omega,λH1 O O1=>?_];rw[dG e3,show(n:Int).toNat=n from OY n]at O;let L:=G.CY ok b O O1 (by rw[OG];show G.le b);let ab:Off I.own H H1:=O1.mono (PA.lZ b);let#[ap,h3]:=O.ob;show#[0,_,ap,0,h3,aV _ _ ak ak,0,2,_,M,2,n,rfl,O,by rw[OG];show G.le b,?_];rw[gG nl];show#[_,0,rfl,0,?_];cases z:(0:Int)<c-1
 .rw[decide_eq_true z];show q _ _ (.more J R af) L ab
 .rw[decide_eq_false z];let ec:c=1:=af;subst ec;show b9 (Kk ?_);let#[ac,h4]:=L.ob;let#[l,hd,nd,ht,U,hn]:=L.pd;obtain⟨x,hx,ex⟩:∃x,Tb.look l k=some x/\x.2=(b,n):=by
   let Y:(Tb.look l k).map (·.2)=some (b,n):=(U k).trans J;show t5.mp Y
  let hg:dN H1 I.pd (.int k) (some (uO x)):=by
   let q9:=dN.k (k:=NC k) hd;rw[Tb.cL,hx]at q9;show q9
  let hm:=ht _ (Tb.aC hx);rw[show x.2.1=b by rw[ex],show x.2.2=n by rw[ex]]at hm;dsimp only;show share (λσ H9=>σ=#v[.ref I.pg,.int k,.ref (I.st b),.int n]/\bS C CS H9 M I { Pg.cF s' b n 0 with inf:=s'.inf.erase k }/\Off I.own H H9) (λu' ad=>?A) ?B
  case A =>
   show#[0,I.pg,C,ac,_,0,h4,T.cl,T.nP,rC _ _,0,I.pd,uO x,rfl,hg,x.1,_,(0),0,rfl,bL.of hm,1,0,?_];cases b with
   |true =>
    show eg ?_;let hi:k∈s'.inf:=(gd.fi k).mpr #[n,J];show#[0,I.pg,C,ac,_,0,h4,T.cl,T.nI,vJ _ _,.inl #[5,bq.of L.il],0,I.il,s'.inf,k,1,L.il,hi,?_];show ad _ _ #[rfl,L.pL ok (s'.inf.erase k),ab.trans (Off.wr (PA.gQ 6 rfl))]
   |false =>
    show b9 ?_;show ad _ _ #[4,ab];rw[Qr (Pg.y8 gd J)];show L
  case B =>
   rintro σ H9 ⟨rfl,G9,O9⟩;let#[am,h5]:=G9.ob;let#[l,hd,nd,ht,U,hn]:=G9.pd;obtain⟨x,hx,ex⟩:∃x,Tb.look l k=some x/\x.2=(b,n):=by
    let Y:(Tb.look l k).map (·.2)=some (b,n):=(U k).trans J;show t5.mp Y
   show#[0,I.pg,C,am,_,0,h5,T.cl,T.nP,rC _ _,I.pd,rfl,.inl #[_,.inl hd],0,_,NC k,uO x,hd,rfl,by rw[Tb.cL,hx];rfl,?_];rw[Tb.hG];show q _ _ (.last J R) (G9.Hz ok k hd nd ht U hn) (O9.trans (Off.wr (PA.gQ 5 rfl)))
theorem KI:aA ["self","sheet","cells","made"] ["self","sheet","cells"] (aq sY):=L2.bC
theorem AG{C CS:Addr}(F:cj K "change" "Paging.change" sY f fd)(T:qF K mg C)(TS:Txt K mg CS)(a0:↥Md 3 C "count" (pF C CS))(ap:↥Md 7 C "new_sheet" (iu K C CS))(a1:↥Md 4 C "leave" (ox C CS))(a2:↥Md 7 C "fetch" (nY C CS))(aB:↥Md 2 C "number_of" (dJ C CS))(GP:↥Md 3 CS "put" (zo K CS)):↥aN 8 f fd ["self","sheet","cells"] (qe C CS):=by
 show F.dE KI (λa3 A outer s H vs Q E L h=>?_);let#[M,I,s',k,ca,U,N,cs,rfl,R,S,ab,ad,h8,hf,q1,q2]:=h;let G:=R.at_;let ok:=R.ok;let hc:=(R.gd.vw S).1;let#[dx,h1]:=G.ob;show#[_,(ai (bj (az kO (pm (pv 0) T.cl a0 L aw (aa (pv 1) ag)) ah (aF _)) (ai (cQ 3 KI.nd (pm (pv 0) T.cl ap L aw (aa (pv 2) ag)))
  (ai (aQ (pm (pv 0) T.cl a1 L aw (aa (pv 1) ag)))
  (ao (aJ (pv 3))))) aI)
  (ai (aQ (pm (pv 0) T.cl a2 L aw (aa (pv 1) ag)))
  (ai (aQ (pm (aH (pv 0) rfl) TS.cl GP L aw (aa (pm (pv 0) T.cl aB L aw (aa (pv 1) ag)) (aa (pv 2) ag))))
  (ao (aJ (pv 1)))))),?_]
 show#[0,I.pg,dx,0,h1,cR _ _ ak ak ak ak ak,0,M,I,s',k,U,N,rfl,G,S,?_];show#[_,0,rfl,0,?_];cases z:(1:Int)<N
 .rw[decide_eq_true z];show#[0,I.pg,dx,0,h1,cR _ _ ak ak ak ak ak,0,M,I,s',ca,cs,rfl,R,hf z,bq.of ab,λe=>ad (by rw[e];show PA.gQ 0 rfl),h8,λH1 s1 hb J O=>?_];let#[Y,h2]:=J.ob;let B:=Pg.mG R.gd R.l0 h8 hb;let kn:k≠s'.ls+1:=by
   intro e;let#[x1,x2,y1,_]:=S;rwa[e,Pg.gi R.gd]at y1
  show#[0,I.pg,Y,0,h2,cR _ _ ak ak ak ak ak,0,M,I,s1,k,U,N,rfl,J,ok,J.alive O R.mt,B.good,(B.kept.ot _ _ _ kn).mpr S,λH2 s2 hl G2 O2=>?_];show#[0,q1 z H2 s1 s2 hb hl G2 (O.trans O2)]
 .rw[decide_eq_false z];let ec:N=1:=af;show#[0,I.pg,dx,0,h1,cR _ _ ak ak ak ak ak,0,M,I,s',k,U,N,rfl,R,S,λH1 s1 ac J O=>?_];let FF:=Pg.m7 R.gd ac;let#[m,hm]:=FF.fr;let am:=(FF.vw k U N).mpr S;let e3:=Pg.wc hm am;let#[Y,h2]:=J.ob;let#[aT,h3]:=J.fr.ob;let as:=O _ _ ab ad;show#[0,I.pg,C,Y,_,0,h2,T.cl,T.nF,pA _ _,I.fp,aT,0,h3,aV _ _ ak ak,?_];show#[0,I.pg,Y,0,h2,cR _ _ ak ak ak ak ak,0,M,I,s1,k,true,m,rfl,J,hm,?_];show#[0,I.fp,I.fo,I.fc,ca,M,2,m,cs,rfl,J.fr,ok.m 2 rfl,ok.m 3 rfl,J.alive O R.mt,ok.n 2 3 rfl rfl ar,(FF.good.ln true).symm,J.le true,by rw[dG e3];omega,bq.of as,λH2 S2 O2=>?_];rw[show(m:Int).toNat=m from OY m]at S2;show#[0,q2 ec H2 s1 m ac hm (J.KY ok true S2 O2) (O.trans (O2.mono (PA.lZ true)))]
end St
namespace Tb
open PySem L2
section
variable{α:Type}
theorem Fh{l:List (Int×α)}{k:Int}(h:¬ k∈l.map (·.1)):bp l k=l:=by
 unfold bp;rw[Si];intro y z;have:y.1≠k:=λe=>h (IF.mpr #[y,z,e]);simpa using this
theorem my{k:Int}{a:α}:∀{l:List (Int×α)},(l.map (·.1)).Nodup->look l k=some a->l.Perm ((k,a)::bp l k)
 | [],_,h=>by cases h
 |x::r,G,h=>by
  let#[F,I]:=N6.mp (show(x.1::r.map (·.1)).Nodup from G);rw[aX]at h;cases c:x.1=k
  .rw[Wy c]at h;let e:x=(k,a):=VF c (sN h);let z:bp (x::r) k=r:=by
    change filter _ (x::r)=r;rw[Pt,Wx (by simp[c])];show Fh (c▸F)
   rw[z,e]
  .rw[Wx c]at h;let z:bp (x::r) k=x::bp r k:=by
    change filter _ (x::r)=_;rw[Pt,Wy ‹c›];rfl
   rw[z];show((my I h).cons x).trans (List.Perm.swap _ _ _)
theorem yQ(l:List (Int×α))(k:Int)(a:α):bp (a9 l k a) k=bp l k:=by
 induction l with
 |nil=>rfl
 |cons x r z =>
  change filter _ ((if x.1=k then(k,a)else x)::a9 r k a)=filter _ (x::r);cases c:x.1=k
  .rw[Wy c,Pt,Wx (by simp),Pt,Wx (by simp[c])];show z
  .rw[Wx c,Pt,Wy ‹c›,Pt,Wy ‹c›];congr 1
theorem mz{l:List (Int×α)}{k:Int}(z:(l.map (·.1)).Nodup):((bp l k).map (·.1)).Nodup:=z.sublist (U4 _ Ug)
theorem HP{l:List (Int×α)}{k:Int}{a:α}(F:(l.map (·.1)).Nodup):(((k,a)::bp l k).map (·.1)).Nodup:=by
 show N6.mpr #[λh=>?_,mz F];let#[y,z,e]:=IF.mp h;have:=(Px.mp z).2;simp at this;show this e
theorem kI{l:List (Int×α)}{k:Int}{x:Int×α}(h:x∈l)(z:x.1≠k):x∈bp l k:=Px.mpr #[h,by simpa using z]
theorem Ee{f:α->V}{l:List (Int×α)}{k:Int}{a b:α}(z:(l.map (·.1)).Nodup)(h:look l k=some b)(e:f a=f b):dk f (a9 l k a)=dk f l:=by
 unfold dk a9;rw[Qo];show O0 λx hx=>?_;change((NC (if x.1=k then(k,a)else x).1:Key),f (if x.1=k then(k,a)else x).2)=(NC x.1,f x.2);cases c:x.1=k
 .have:look l k=some x.2:=bW z (by rw[<-c];show hx);rw[h]at this;rw[Wy c,c,e,sN this]
 .rw[Wx c]
theorem gZ(l:List (Int×α))(k j:Int)(a:α):look ((k,a)::bp l k) j=if j=k then some a else look l j:=by
 rw[aX,bV];cases c:j=k
 .rw[Wy c.symm,Wy c]
 .rw[Wx (G0 c),Wx c,Wx c]
end
theorem TabAt.off{B:Wz}{C:Addr}{H H':Hp}{p fs:Addr}{tb:kM}(T:TabAt C H p fs tb)(o:Off B H H')(J:¬ B p)(z:∀b,fK fs tb b->¬ B b)(N:∀b xs,H b=some (.tup xs)->¬ B b):TabAt C H' p fs tb:=by
 let#[#[dx,h1],h2,F,G,I,L,O]:=T;show#[#[dx,o _ _ h1 J],o _ _ h2 (z _ (.inl rfl)),λx hx=>o _ _ (F x hx) (z _ (.inr #[x,hx,rfl])),λx hx=>(G x hx).keep λb xs e=>o _ _ e (N b xs e),I,L,O]
theorem TabAt.dK{C:Addr}{H:Hp}{p fs:Addr}{tb:kM}(T:TabAt C H p fs tb){b:Addr}(h:fK fs tb b):∃kvs,H b=some (.dK kvs):=by
 rcases h with h|⟨x,hx,h⟩
 .show#[_,by rw[h];show T.hf]
 .show#[_,by rw[h];show T.hd x hx]
end Tb
namespace St
open PySem L2
structure TD where
 p:Addr
 fs:Addr
 tb:Tb.kM
 t:List (Int×Pg.Ent)
abbrev cN:=List (Int×TD)
def fR(x:TD):V:=.ref x.p
def AZ:Pg.Ent->List V
 |none=>[.str "blank"]
 |some k=>[.str "sheet",.int k]
def TD.fK(x:TD):Addr->Prop:=Tb.fK x.fs x.tb
structure dB(CT:Addr)(H:Hp)(x:TD):Prop where
 at_:Tb.TabAt CT H x.p x.fs x.tb
 nd:(x.t.map (·.1)).Nodup
 lk:∀q,Tb.dC x.tb q=(Tb.look x.t q).map AZ
def kW(t:List (Int×Pg.Ent)):List Pg.Ent:=t.map (·.2)
def ents(W:cN):List Pg.Ent:=W.flatMap λx=>kW x.2.t
theorem gh{W:cN}{t:Int}{x:TD}(z:(W.map (·.1)).Nodup)(h:Tb.look W t=some x):(ents W).Perm (kW x.t++ents (Tb.bp W t)):=(Tb.my z h).flatMap_right _
theorem jd{W:cN}{t:Int}{x y:TD}(z:(W.map (·.1)).Nodup)(h:Tb.look W t=some x):(ents (Tb.a9 W t y)).Perm (kW y.t++ents (Tb.bp W t)):=by
 have:=gh (W:=Tb.a9 W t y) (t:=t) (x:=y) (by rw[Tb.gk];show z) (by rw[Tb.bK t h,Wy rfl])
 rwa [Tb.yQ]at this
theorem vi{t:List (Int×Pg.Ent)}{q:Int}{e:Pg.Ent}(z:(t.map (·.1)).Nodup)(h:Tb.look t q=some e):(kW t).Perm (e::kW (Tb.bp t q)):=(Tb.my z h).map _
def fV(pg:Addr)(t:Int)(rd:Addr):List (Str×V):=bu "rooms" (.ref rd) (bu "total" (.int t) (bu "paging" (.ref pg) []))
section
variable(pg:Addr)(t:Int)(rd:Addr)
theorem cH:(fV pg t rd).lookup ("rooms" : Str)=some (.ref rd):=by
 unfold fV;rw[aG,Wy rfl]
theorem Fq:(fV pg t rd).lookup ("total" : Str)=some (.int t):=by
 unfold fV;rw[aG,Wx ak,aG,Wy rfl]
theorem nc:(fV pg t rd).lookup ("paging" : Str)=some (.ref pg):=by
 unfold fV;rw[aG,Wx ak,aG,Wx ak,aG,Wy rfl]
theorem dZ{m:Str}(h1:¬ m = "rooms")(h2:¬ m = "total")(z:¬ m = "paging"):(fV pg t rd).lookup m=none:=by
 unfold fV;rw[aG,Wx h1,aG,Wx h2,aG,Wx z]
 all_goals rfl
end
def mO(s:Pg.PS):Int:=((s.ow true).length+(s.ow false).length:Nat)
theorem Gn{s s':Pg.PS}(h:∀b,(s'.ow b).length=(s.ow b).length):mO s'=mO s:=by
 unfold mO;rw[h,h]
structure CA where
 C:Addr
 P:Addr
 S:Addr
 T:Addr
structure RA where
 A:PA
 rp:Addr
 rd:Addr
structure ax(c:CA)(H:Hp)(M:Wz)(a:RA)(s:Pg.PS)(W:cN):Prop where
 ob:∃dx,H a.rp=some (.ins c.C dx (fV a.A.pg (mO s) a.rd))
 pg:bS c.P c.S H M a.A s
 ok:a.A.Ok M
 mt:∀b,M b->H b≠none
 hd:H a.rd=some (.dK (Tb.dk fR W))
 nd:(W.map (·.1)).Nodup
 tb:∀x∈W,dB c.T H x.2
 dm:∀x∈W,∀b,x.2.fK b->M b/\¬ a.A.own b/\b≠a.rd
 np:∀x∈W,¬ a.A.own x.2.p
 dj:∀x∈W,∀y∈W,x.1≠y.1->∀b,x.2.fK b->¬ y.2.fK b
 Iy:M a.rd
 EX:¬ a.A.own a.rd
 BZ:¬ a.A.own a.rp
def RA.own(a:RA)(W:cN):Addr->Prop:=λb=>a.A.own b\/b=a.rd\/∃x∈W,x.2.fK b
structure Step(H:Hp)(M O:Wz)(H':Hp)(M' O':Wz):Prop where
 off:Off O H H'
 mm:∀b,M b->¬ O b->M' b
 mn:∀b,M' b->M b\/H b=none
 on:∀b,O' b->O b\/H b=none
 mt:∀b,M b->H b≠none
 om:∀b,O b->M b
theorem Step.gone{H H':Hp}{M O M' F:Wz}(a:Step H M O H' M' F){b:Addr}(h:H' b=none):O b\/H b=none:=by
 cases e:H b with
 |none=>show .inr rfl
 |some u =>
  cases z:O b
  .show .inl z
  .rw[a.off b u e z]at h;cases h
theorem Step.trans{H H' F:Hp}{M O M' J G I:Wz}(a:Step H M O H' M' J)(b:Step H' M' J F G I):Step H M O F G I:=by
 show#[λx o e z=>b.off x o (a.off x o e z) λy=>?_,λx h z=>b.mm x (a.mm x h z) λy=>?_,λx h=>?_,λx h=>?_,a.mt,a.om]
 .rcases a.on x y with y|y
  .show z y
  .rw[e]at y;cases y
 .rcases a.on x y with y|y
  .show z y
  .show a.mt x h y
 .rcases b.mn x h with h|h
  .show a.mn x h
  .rcases a.gone h with h|h
   .show .inl (a.om x h)
   .show .inr h
 .rcases b.on x h with h|h
  .show a.on x h
  .show a.gone h
theorem eR.grow{M M':Wz}{H:Hp}(h:∀b,M' b->M b\/H b=none):∀{v:V}{x:Option (List Int)},eR H M v x->eR H M' v x
 |.non,none,_=>trivial
 |.ref a,some ns,⟨h1,h2⟩=>#[λz=>(h a z).elim h1 λe=>(by rwa[h2]at e),h2]
theorem aY.grow{C p ow co:Addr}{M M':Wz}{os:List Int}{pg:List (Option (List Int))}{H:Hp}(S:aY C H M p ow co os pg)(h:∀b,M' b->M b\/H b=none):aY C H M' p ow co os pg:=by
 let#[h1,G,cs,I,F]:=S;show#[h1,G,cs,I,Paired.CB F λ_ _ z=>z.grow h]
section
variable{A:PA}{M M' B:Wz}{H H':Hp}
theorem bS.iH{C CS:Addr}{s:Pg.PS}(G:bS C CS H M A s):∀b xs,H b=some (.tup xs)->¬ A.own b:=by
 intro b xs e y;let#[dx,h1]:=G.ob;let#[_,N,_]:=G.fr.hc;let#[_,J,_]:=G.sl.hc;let#[_,z,_]:=G.pd;let L:=G.fr.hw;let F:=G.sl.hw;let I:=G.il;unfold PA.own at y;simp only[se,DO,or_false]at y;rcases y with y|y|y|y|y|y|y<;>rw[y]at e
 .rw[h1]at e;cases e
 .rw[L]at e;cases e
 .rw[N]at e;cases e
 .rw[F]at e;cases e
 .rw[J]at e;cases e
 .rw[z]at e;cases e
 .rw[I]at e;cases e
theorem aY.less{C p ow co:Addr}{M M':Wz}{os:List Int}{pg:List (Option (List Int))}{H:Hp}(S:aY C H M p ow co os pg)(h:∀b,M' b->M b):aY C H M' p ow co os pg:=S.grow λb z=>.inl (h b z)
theorem bS.move{C CS:Addr}{s:Pg.PS}(G:bS C CS H M A s)(o:Off B H H')(L:∀b,B b->M b)(I:∀b,M' b->M b\/H b=none)(F:∀b,A.own b->¬ B b)(R:¬ B A.fp)(N:¬ B A.sp)(O:∀b xs,H b=some (.tup xs)->¬ B b):bS C CS H' M' A s:=by
 let#[dx,h1]:=G.ob;let#[l,hd,Y,J,S,U]:=G.pd;show#[#[dx,o _ _ h1 (F _ (PA.gQ 0 rfl))],((G.fr.grow (M':=λb=>M b\/M' b) λb z=>z.elim .inl (I b)).off o (λb z=>.inl (L b z)) R (F _ (PA.gQ 1 rfl)) (F _ (PA.gQ 2 rfl))).less λb z=>.inr z,
  ((G.sl.grow (M':=λb=>M b\/M' b) λb z=>z.elim .inl (I b)).off o (λb z=>.inl (L b z)) N (F _ (PA.gQ 3 rfl)) (F _ (PA.gQ 4 rfl))).less λb z=>.inr z,o _ _ G.il (F _ (PA.gQ 6 rfl)),G.le,
  #[l,o _ _ hd (F _ (PA.gQ 5 rfl)),Y,λx hx=>o _ _ (J x hx) (O _ _ (J x hx)),S,U]]
variable{c:CA}{a:RA}{s s':Pg.PS}{W:cN}{t:Int}{x y:TD}
theorem ax.Lw{es:List Pg.Ent}(R:ax c H M a s W)(z:Pg.RI s es):KQ c.P c.S H M a.A s:=#[R.pg,R.ok,R.mt,z.good,z.ne,z.cb R.pg.le,z.l0]
theorem dB.off(T:dB c.T H x)(o:Off B H H')(z:¬ B x.p)(G:∀b,x.fK b->¬ B b)(F:∀b xs,H b=some (.tup xs)->¬ B b):dB c.T H' x:=#[T.at_.off o z G F,T.nd,T.lk]
theorem ax.mR(R:ax c H M a s W)(G:bS c.P c.S H' M a.A s')(o:Off a.A.own H H')(F:∀b,(s'.ow b).length=(s.ow b).length):ax c H' M a s' W:=by
 let#[dx,h1]:=R.ob;show#[#[dx,by rw[Gn F];show o _ _ h1 R.BZ],G,R.ok,G.alive o R.mt,o _ _ R.hd R.EX,R.nd,λx hx=>(R.tb x hx).off o (R.np x hx) (λb z=>(R.dm x hx b z).2.1) R.pg.iH,R.dm,R.np,R.dj,R.Iy,R.EX,R.BZ]
theorem ax.eU(R:ax c H M a s W):∀b,a.own W b->M b:=λb h=>by
 rcases h with h|h|⟨x,hx,h⟩
 .show R.ok.own b h
 .rw[h];show R.Iy
 .show(R.dm x hx b h).1
theorem ax.refl(R:ax c H M a s W):Step H M (a.own W) H M (a.own W):=#[λ_ _ e _=>e,λ_ h _=>h,λ_ h=>.inl h,λ_ h=>.inl h,R.mt,R.eU]
theorem ax.j6(R:ax c H M a s W)(e:aR H H'):Step H M (a.own W) H' M (a.own W):=#[λb o h _=>e b o h,λ_ h _=>h,λ_ h=>.inl h,λ_ h=>.inl h,R.mt,R.eU]
theorem ax.Jv(R:ax c H M a s W)(G:bS c.P c.S H' M a.A s')(o:Off a.A.own H H'):Step H M (a.own W) H' M (a.own W):=
 #[o.mono λ_ z=>.inl z,λ_ h _=>h,λ_ h=>.inl h,λ_ h=>.inl h,R.mt,R.eU]
theorem ax.same(R:ax c H M a s W)(e:aR H H'):ax c H' M a s W:=by
 let#[dx,h1]:=R.ob;show#[#[dx,e _ _ h1],R.pg.keep (λb o h _=>e b o h),R.ok,λb F z=>?_,e _ _ R.hd,R.nd,λx hx=>#[(R.tb x hx).at_.same e,(R.tb x hx).nd,(R.tb x hx).lk],R.dm,R.np,R.dj,R.Iy,R.EX,R.BZ];cases h:H b with
 |none=>show R.mt b F h
 |some o=>rwa[e b o h]at z
theorem ax.Cm(R:ax c H M a s W)(o:Off B H H')(F:∀b,B b->M b/\¬ a.own W b)(O:∀b,B b->(∃xs,H b=some (.lst xs))\/∃kvs,H b=some (.dK kvs))(U:∀b,M' b->M b\/H b=none)(I:∀b,M b->¬ B b->M' b)(mt:∀b,M' b->H' b≠none):ax c H' M' a s W:=by
 let#[dx,h1]:=R.ob;let G:∀{b C dx fs},H b=some (.ins C dx fs)->¬ B b:=λe z=>by
  rcases O _ z with⟨_,h⟩|⟨_,h⟩
  .rw[e]at h;cases h
  .rw[e]at h;cases h
 let N:∀b xs,H b=some (.tup xs)->¬ B b:=λb xs e z=>by
  rcases O _ z with⟨_,h⟩|⟨_,h⟩
  .rw[e]at h;cases h
  .rw[e]at h;cases h
 let#[Y,L]:=R.pg.fr.ob;let#[ab,J]:=R.pg.sl.ob;show#[#[dx,o _ _ h1 (G h1)],R.pg.move o (λb z=>(F b z).1) U (λb z y=>(F b y).2 (.inl z)) (G L) (G J) N,#[R.ok.ds,λb z=>I b (R.ok.mm b z) λq=>?_],mt,o _ _ R.hd (λz=>(F _ z).2 (.inr (.inl rfl))),R.nd,λx hx=>?_,λx hx b z=>#[I b (R.dm x hx b z).1 λq=>(F b q).2 (.inr (.inr #[x,hx,z])),(R.dm x hx b z).2],R.np,R.dj,I _ R.Iy (λz=>(F _ z).2 (.inr (.inl rfl))),R.EX,R.BZ]
 .simp only[se,DO,or_false]at z;rcases z with z|z|z|z|z|z|z|z|z<;>rw[z]at q
  .show(F _ q).2 (.inl (PA.gQ 0 rfl))
  .show G L q
  .show(F _ q).2 (.inl (PA.gQ 1 rfl))
  .show(F _ q).2 (.inl (PA.gQ 2 rfl))
  .show G J q
  .show(F _ q).2 (.inl (PA.gQ 3 rfl))
  .show(F _ q).2 (.inl (PA.gQ 4 rfl))
  .show(F _ q).2 (.inl (PA.gQ 5 rfl))
  .show(F _ q).2 (.inl (PA.gQ 6 rfl))
 .let#[ac,S]:=(R.tb x hx).at_.ob;show(R.tb x hx).off o (G S) (λb z y=>(F b y).2 (.inr (.inr #[x,hx,z]))) N
theorem ax.yL(R:ax c H M a s W)(hx:Tb.look W t=some x)(ep:y.p=x.p)(T:dB c.T H' y)(o:Off x.fK H H')(Y:∀b,y.fK b->x.fK b\/H b=none):ax c H' (λb=>(M b/\¬ x.fK b)\/y.fK b) a s (Tb.a9 W t y):=by
 let N:=Tb.aC hx;let X:=R.tb _ N;let dK:∀{b},x.fK b->∃kvs,H b=some (.dK kvs):=λz=>X.at_.dK z;let I:=R.dm _ N;let J:∀{b C dx fs},H b=some (.ins C dx fs)->¬ x.fK b:=λe z=>by
  let#[_,h]:=dK z;rwa[e]at h
 let nt:∀b xs,H b=some (.tup xs)->¬ x.fK b:=λb xs e z=>by
  let#[_,h]:=dK z;rwa[e]at h
 let#[dx,h1]:=R.ob;let#[ap,f1]:=R.pg.fr.ob;let#[as,f2]:=R.pg.sl.ob;let hM:∀b,(M b/\¬ x.fK b)\/y.fK b->M b\/H b=none:=λb z=>z.elim (λz=>.inl z.1) λz=>(Y b z).elim (λz=>.inl (I b z).1) .inr;show#[#[dx,o _ _ h1 (J h1)],R.pg.move o (λb z=>(I b z).1) hM (λb z y=>(I b y).2.1 z) (J f1) (J f2) nt,#[R.ok.ds,λb z=>.inl #[R.ok.mm b z,λq=>?_]],λb z e=>?_,?_,by rw[Tb.gk];show R.nd,λG F=>?_,λG F b z=>?_,λG F=>?_,λx1 U x2 S ac b L O=>?_,.inl #[R.Iy,λq=>(I _ q).2.2 rfl],R.EX,R.BZ]
 .simp only[se,DO,or_false]at z;rcases z with z|z|z|z|z|z|z|z|z<;>rw[z]at q
  .show(I _ q).2.1 (PA.gQ 0 rfl)
  .show J f1 q
  .show(I _ q).2.1 (PA.gQ 1 rfl)
  .show(I _ q).2.1 (PA.gQ 2 rfl)
  .show J f2 q
  .show(I _ q).2.1 (PA.gQ 3 rfl)
  .show(I _ q).2.1 (PA.gQ 4 rfl)
  .show(I _ q).2.1 (PA.gQ 5 rfl)
  .show(I _ q).2.1 (PA.gQ 6 rfl)
 .rcases z with z|z
  .cases e2:H b with
   |none=>show R.mt b z.1 e2
   |some u=>rwa[o b u e2 z.2]at e
  .let#[_,h]:=T.at_.dK z;rwa[e]at h
 .rw[Tb.Ee R.nd hx (show V.ref y.p=V.ref x.p by rw[ep])];show o _ _ R.hd λz=>(I _ z).2.2 rfl
 .rcases Tb.mem_set F with rfl|⟨F,ne⟩
  .show T
  .let#[aB,h3]:=(R.tb G F).at_.ob;show(R.tb G F).off o (J h3) (λb z z'=>R.dj G F _ N ne b z z') nt
 .rcases Tb.mem_set F with rfl|⟨F,ne⟩
  .show#[.inr z,?_];rcases Y b z with z|z
   .show(I b z).2
   .show#[λq=>R.mt b (R.ok.own b q) z,λq=>by rwa[q,R.hd]at z]
  .show#[.inl #[(R.dm G F b z).1,λq=>R.dj G F _ N ne b z q],(R.dm G F b z).2]
 .rcases Tb.mem_set F with rfl|⟨F,ne⟩
  .change ¬ a.A.own y.p;rw[ep];show R.np _ N
  .show R.np G F
 .let ab:∀G∈W,G.1≠t->∀b,G.2.fK b->¬ y.fK b:=λG F ne b L O=>by
   rcases Y b O with z|z
   .show R.dj G F _ N ne b L z
   .let#[_,h]:=(R.tb G F).at_.dK L;rwa[z]at h
  rcases Tb.mem_set U with rfl|⟨U,ad⟩<;>rcases Tb.mem_set S with rfl|⟨S,am⟩
  .show ac rfl
  .show ab x2 S am b O L
  .show ab x1 U ad b L O
  .show R.dj x1 U x2 S ac b L O
theorem ax.sf(R:ax c H M a s W)(hx:Tb.look W t=some x)(o:Off x.fK H H')(I:∀b,y.fK b->x.fK b\/H b=none):Step H M (a.own W) H' (λb=>(M b/\¬ x.fK b)\/y.fK b) (a.own (Tb.a9 W t y)):=by
 let F:=Tb.aC hx;show#[o.mono λb z=>.inr (.inr #[_,F,z]),λb z q=>.inl #[z,λw=>q (.inr (.inr #[_,F,w]))],λb z=>z.elim (λz=>.inl z.1) λz=>(I b z).elim (λz=>.inl (R.dm _ F b z).1) .inr,λb z=>?_,R.mt,R.eU];rcases z with z|z|⟨J,G,z⟩
 .show .inl (.inl z)
 .show .inl (.inr (.inl z))
 .rcases Tb.mem_set G with rfl|⟨G,ne⟩
  .show(I b z).elim (λz=>.inl (.inr (.inr #[_,F,z]))) .inr
  .show .inl (.inr (.inr #[J,G,z]))
theorem ax.JP(R:ax c H M a s W){W':cN}(U:(W'.map (·.1)).Nodup)(tb:∀x∈W',dB c.T H x.2)(G:∀x∈W',∀b,x.2.fK b->M b/\¬ a.A.own b/\b≠a.rd)(np:∀x∈W',¬ a.A.own x.2.p)(S:∀x∈W',∀y∈W',x.1≠y.1->∀b,x.2.fK b->¬ y.2.fK b) :
  ax c (upd H a.rd (.dK (Tb.dk fR W'))) M a s W':=by
 let o:Off (· = a.rd) H (upd H a.rd (.dK (Tb.dk fR W'))):=λb o e z=>(by rw[aj z];show e);let F:∀{b C dx fs},H b=some (.ins C dx fs)->¬ b=a.rd:=λe z=>(by rwa[z,R.hd]at e);let I:∀b xs,H b=some (.tup xs)->¬ b=a.rd:=λb xs e z=>(by rwa[z,R.hd]at e);let al:∀b,upd H a.rd (.dK (Tb.dk fR W')) b=none->H b=none:=λb e=>by
  cases z:b=a.rd
  .rw[z,ae]at e;cases e
  .rw[aj z]at e;show e
 let#[dx,h1]:=R.ob;let#[Y,O]:=R.pg.fr.ob;let#[ab,L]:=R.pg.sl.ob;show#[#[dx,o _ _ h1 (F h1)],R.pg.move o (λb z=>by rw[z];show R.Iy) (λb z=>.inl z) (λb z y=>R.EX (y▸z)) (F O) (F L) I,R.ok,λb J e=>R.mt b J (al b e),ae,U,λx hx=>?_,G,np,S,R.Iy,R.EX,R.BZ];let#[ac,N]:=(tb x hx).at_.ob;show(tb x hx).off o (F N) (λb z y=>(G x hx b z).2.2 y) I
theorem ax.C9(R:ax c H M a s W)(N:Tb.look W t=none)(T:dB c.T H y)(F:∀b,y.fK b->M b/\¬ a.own W b)(np:¬ a.A.own y.p):ax c (upd H a.rd (.dK (Tb.dk fR (W++[(t,y)])))) M a s (W++[(t,y)]):=by
 show R.JP ?_ (λx hx=>?_) (λx hx=>?_) (λx hx=>?_) (λL h1 J h2 ne b G I=>?_)
 .rw[N5];show kZ R.nd (Tb.cp N)
 .rcases t4.mp hx with hx|hx
  .show R.tb x hx
  .rw[qj.mp hx];show T
 .rcases t4.mp hx with hx|hx
  .show R.dm x hx
  .rw[qj.mp hx];show λb z=>#[(F b z).1,λq=>(F b z).2 (.inl q),λq=>(F b z).2 (.inr (.inl q))]
 .rcases t4.mp hx with hx|hx
  .show R.np x hx
  .rw[qj.mp hx];show np
 .rcases t4.mp h1 with h1|h1<;>rcases t4.mp h2 with h2|h2
  .show R.dj L h1 J h2 ne b G I
  .rw[qj.mp h2]at I;show(F b I).2 (.inr (.inr #[L,h1,G]))
  .rw[qj.mp h1]at G;show(F b G).2 (.inr (.inr #[J,h2,I]))
  .show ne (by rw[qj.mp h1,qj.mp h2])
theorem ax.HJ(R:ax c H M a s W)(t:Int):ax c (upd H a.rd (.dK (Tb.dk fR (Tb.bp W t)))) M a s (Tb.bp W t):=
 R.JP (Tb.mz R.nd) (λx hx=>R.tb x (Tb.cZ hx).1) (λx hx=>R.dm x (Tb.cZ hx).1) (λx hx=>R.np x (Tb.cZ hx).1) (λx hx y z=>R.dj x (Tb.cZ hx).1 y (Tb.cZ z).1)
end
end St
namespace Pg
variable{s s' s1 s2 s3:PS}{k c:Int}{cs:List Int}
def Up(s s':PS):Prop:=∀j p,s'.pl j=some p->s.pl j=some p
theorem Up.refl:Up s s:=λ_ _ h=>h
theorem Up.trans(a:Up s1 s2)(b:Up s2 s3):Up s1 s3:=λj p h=>a j p (b j p h)
theorem JQ(h:Fn s k s'):Up s s':=λj p e=>by
 cases h with
 |more _ _ _=>show e
 |last _ _ =>
  cases z:j=k
  .rw[z]at e;have:(none:Option (Bool×Nat))=some p:=(bt (f:=s.pl)).symm.trans e;cases this
  .show(aL (f:=s.pl) z).symm.trans e
def KB(s s':PS):Prop:=(0:Int)∈s'.ow true->(0:Int)∈s.ow true/\∀j,(∃m,s.pl j=some (true,m))->∃m,s'.pl j=some (true,m)
theorem KB.refl:KB s s:=λh=>#[h,λ_ h=>h]
theorem KB.trans(a:KB s1 s2)(b:KB s2 s3):KB s1 s3:=λh=>by
 let#[h2,G]:=b h;let#[h1,F]:=a h2;show#[h1,λj z=>G j (F j z)]
theorem Kept.kb(h:Kept s s' k)(f:∃m,s'.pl k=some (true,m)):KB s s':=λz=>by
 let#[h1,h2]:=h.fr z;show#[h1,λj y=>?_];cases e:j=k
 .rw[e];show f
 .let#[m,F]:=y;show#[m,h2 j m e F]
theorem JZ(G:Good s)(h:FE s k s'):KB s s':=(m7 G h).kept.kb (m7 G h).fr
end Pg
namespace L2
open PySem PySem.Spec PyProof.Rows
def Mo(K:DD):R2:=λx y H Q=>∃p q xs ys,x=.ref p/\y=.ref q/\bL K H p xs/\bL K H q ys/\xs.all ed=true/\ys.all ed=true/\Q (.bl (!jv xs ys)) H
section
variable{X:Cx}
theorem uL(hu:X.A.units<P0):jY X (OL .NotEq) (Mo X.K):=by
 intros x y v u Q I rx ry h;let#[p,q,xs,ys,rfl,rfl,hx,hy,S,O,L]:=h;cases rx;cases ry;let#[its,r,pl,hz]:=I.tuple hx;let#[J,G,ad,am]:=I.tuple hy;let hl:=r.length;let N:=G.length;show Ss (e:=λj=>mK (xs.getD j .non) (ys.getD j .non)) pl ad hu (λj h1 h2=>?_) _ _ _ _ #[.bl (!jv xs ys),H,I,?_,L]
 .rw[ti]at h1 h2;let F:j<xs.length:=af;let z:j<ys.length:=af;let#[a,Y,ra]:=r.get (i:=j) (x:=xs[j]) (by simp[F]);let#[b,eb,rb]:=G.get (i:=j) (x:=ys[j]) (by simp[z]);let#[_,ab]:=qc.mp Y;let#[_,ac]:=qc.mp eb;let U:xs.getD j .non=xs[j]:=(by simp[F]);let g2:ys.getD j .non=ys[j]:=(by simp[z]);change P8 _ _ its.toArray[j] J.toArray[j] (mK (xs.getD j .non) (ys.getD j .non));let a1:its.toArray[j]=a:=‹ab›;let R:J.toArray[j]=b:=‹ac›;rw[U,g2,a1,R];show mE ra rb (OD.mp S _ (P6 F)) (OD.mp O _ (P6 z))
 .change Value.bool _=Value.bool _;rw[ti,ti, <-hl, <-N,rK]
end
end L2
namespace St
open PySem L2
abbrev nG:N8:=top 17
abbrev oi:N8:=top 18
abbrev sk:N8:=top 19
abbrev nW:N8:=inClass (top 33) 1
abbrev oq:N8:=inClass (top 33) 2
abbrev zf:N8:=inClass (top 33) 3
abbrev uD:N8:=inClass (top 33) 4
abbrev uv:N8:=inClass (top 33) 5
abbrev tq:N8:=inClass (top 33) 6
abbrev tj:N8:=inClass (top 33) 7
abbrev yE:N8:=inClass (top 33) 8
abbrev uJ:N8:=inClass (top 33) 9
abbrev ue:N8:=inClass (top 33) 11
abbrev sG:N8:=inClass (top 33) 12
abbrev sH:N8:=inClass (top 33) 13
structure lT(K:DD)(mg:WD)(c:CA):Prop where
 cl:qI K c.C
 nP:dv K c.C "paging"
 nT:dv K c.C "total"
 nR:dv K c.C "rooms"
 bl:∃aB,mg "BLANK" = some (.ref aB)/\bL K (λ_=>none) aB [.str "blank"]
 pc:∃u,mg "PAGE_CELLS" = some u/\RelV (.int 8) u
 len:mg "len" = none
 sum:mg "sum" = none
 zip:mg "zip" = none
def Cv(s:Pg.PS)(W:cN)(cv:WA):Prop:=∀t x,Tb.look W t=some x->∀q e,Tb.look x.t q=some e->Pg.Bd s e (cv t q)
theorem lL{W:cN}{t q:Int}{x:TD}{e:Pg.Ent}(hx:Tb.look W t=some x)(z:Tb.look x.t q=some e):e∈ents W :=
 QI.mpr #[(t,x),Tb.aC hx,IF.mpr #[(q,e),Tb.aC z,rfl]]
theorem Cv.next{s s':Pg.PS}{W W':cN}{cv:WA}(h:Cv s W cv)(hs:Pg.aR (ents W') s s')(G:∀t z,Tb.look W' t=some z->∃x,Tb.look W t=some x/\∀q e,Tb.look z.t q=some e->Tb.look x.t q=some e):Cv s' W' cv:=by
 intro t z hx q e F;let#[x,h1,h2]:=G t z hx;show hs e (lL hx F) _ (h t x h1 q e (h2 q e F))
theorem Cv.keep{s s':Pg.PS}{W:cN}{cv:WA}(h:Cv s W cv)(hs:Pg.aR (ents W) s s'):Cv s' W cv:=h.next hs λt x hx=>#[x,hx,λ_ _ e=>e]
theorem jV{W:cN}{t:Int}{x y:TD}(h:Tb.look W t=some x):Tb.look (Tb.a9 W t y) t=some y:=by rw[Tb.bK t h,Wy rfl]
theorem set_set{W:cN}{t:Int}{x y:TD}:Tb.a9 (Tb.a9 W t x) t y=Tb.a9 W t y:=by
 unfold Tb.a9;rw[Qo];show O0 λz _=>?_;change(if (if z.1=t then(t,x)else z).1=t then(t,y)else(if z.1=t then(t,x)else z))=if z.1=t then(t,y)else z
 cases c:z.1=t
 .rw[Wy c,Wy rfl,Wy c]
 .simp only[Wx c]
theorem cV{W:cN}{t:Int}{x:TD}(G:(W.map (·.1)).Nodup)(h:Tb.look W t=some x):Tb.a9 W t x=W:=by
 unfold Tb.a9
 conv=>rhs;rw[<-Ws W]
 show O0 λz F=>?_;change(if z.1=t then(t,x)else z)=z;cases c:z.1=t
 .have:=Tb.bW G F;rw[c,h]at this;rw[Wy c,sN this, <-c]
 .rw[Wx c]
theorem zM{W:cN}{t q:Int}{x y:TD}{e:Pg.Ent}(z:(W.map (·.1)).Nodup)(hx:Tb.look W t=some x)(nx:(x.t.map (·.1)).Nodup)(G:Tb.look x.t q=some e)(F:y.t=Tb.bp x.t q):(ents W).Perm (e::ents (Tb.a9 W t y)):=by
 show(gh z hx).trans (((vi nx G).append_right _).trans ?_);rw[<-F];show((jd z hx).symm).cons e
theorem B3{W:cN}{t q:Int}{x y:TD}{e:Pg.Ent}(F:(W.map (·.1)).Nodup)(hx:Tb.look W t=some x)(z:y.t=(q,e)::Tb.bp x.t q):(ents (Tb.a9 W t y)).Perm (e::(kW (Tb.bp x.t q)++ents (Tb.bp W t))):=by
 show(jd F hx).trans ?_;rw[z];show List.Perm.refl _
theorem dB.mem{c:CA}{H:Hp}{x:TD}(T:dB c.T H x){ns:List Int}(p:ns.Perm (Tb.gA x.tb))(q:Int):q∈ns↔Tb.look x.t q≠none:=by
 rw[p.mem_iff,Tb.vQ T.at_,T.lk];cases Tb.look x.t q<;>simp
theorem dB.pg{c:CA}{H:Hp}{x:TD}(T:dB c.T H x){q:Int}(h:Tb.look x.t q≠none):0<=q/\q<64:=T.at_.uX (by
 rw[T.lk];cases e:Tb.look x.t q with
 |none=>show absurd e h
 |some _=>simp)
inductive cM(v:List V)(H:Hp)(Q:VK)(e:XK):Prop
 |mk(a:Addr)(W:cN)(t:Int)(x:TD)(_:v=[.ref a,.int t])(_:H a=some (.dK (Tb.dk fR W)))(_:Tb.look W t=some x)(_:Q (.ref x.p) H)
inductive jy(v:List V)(H:Hp)(Q:VK)(e:XK):Prop
 |mk(a:Addr)(W:cN)(t:Int)(_:v=[.ref a,.int t])(_:H a=some (.dK (Tb.dk fR W)))(_:Tb.look W t=none)(_:Q .non H)
inductive nJ(v:List V)(H:Hp)(Q:VK)(e:XK):Prop
 |mk(h t:Int)(_:v=[.int h,.int t])(_:¬ t<h)(_:Q .non H)
inductive eT(c:CA)(v:List V)(H:Hp)(Q:VK)(e:XK):Prop
 |mk(M:Wz)(a:RA)(s:Pg.PS)(W:cN)(cv:WA)(t:Int)(x:TD)(lp:Addr)(ps:List Int)(_:v=[.ref a.rp,.ref x.p,.ref lp])(_:ax c H M a s W)(_:Pg.RI s (ents W))(_:Cv s W cv)(_:Tb.look W t=some x)(_:H lp=some (.lst (ps.map V.int)))(_:¬ M lp)(_:ps.Nodup)(_:(∀q∈ps,Tb.look x.t q≠none))(_:∀(H':Hp)(M':Wz)(s':Pg.PS)(y:TD),ax c H' M' a s' (Tb.a9 W t y)->Pg.RI s' (ents (Tb.a9 W t y))->Cv s' (Tb.a9 W t y) cv->(∀q,Tb.look y.t q=if q∈ps then none else Tb.look x.t q)->Step H M (a.own W) H' M' (a.own (Tb.a9 W t y))->((∀b,(s'.ow b).length=(s.ow b).length)/\Pg.Up s s')->Q .non H')
inductive xW(c:CA)(v:List V)(H:Hp)(Q:VK)(e:XK):Prop
 |mk(M:Wz)(a:RA)(s:Pg.PS)(W:cN)(cv:WA)(t p m:Int)(x:TD)(_:v=[.ref a.rp,.int t,.int p,.int m])(_:ax c H M a s W)(_:Pg.RI s (ents W))(_:Cv s W cv)(_:Tb.look W t=some x)(_:¬ Rm.br p m)(_:(∀q∈Rm.aP p m,Tb.look x.t q≠none))(_:∀(H':Hp)(M':Wz)(s':Pg.PS)(y:TD),ax c H' M' a s' (Tb.a9 W t y)->Pg.RI s' (ents (Tb.a9 W t y))->Cv s' (Tb.a9 W t y) cv->(∀q,Tb.look y.t q=if q∈Rm.aP p m then none else Tb.look x.t q)->Step H M (a.own W) H' M' (a.own (Tb.a9 W t y))->((∀b,(s'.ow b).length=(s.ow b).length)/\Pg.Up s s')->Q .non H')
inductive lJ(c:CA)(v:List V)(H:Hp)(Q:VK)(e:XK):Prop
 |mk(M:Wz)(a:RA)(s:Pg.PS)(W:cN)(cv:WA)(t:Int)(x:TD)(_:v=[.ref a.rp,.int t])(_:ax c H M a s W)(_:Pg.RI s (ents W))(_:Cv s W cv)(_:Tb.look W t=some x)(_:∀(H':Hp)(M':Wz)(s':Pg.PS),ax c H' M' a s' (Tb.bp W t)->Pg.RI s' (ents (Tb.bp W t))->Cv s' (Tb.bp W t) cv->Step H M (a.own W) H' M' (a.own (Tb.bp W t))->((∀b,(s'.ow b).length=(s.ow b).length)/\Pg.Up s s')->Q .non H')
inductive lG(c:CA)(v:List V)(H:Hp)(Q:VK)(e:XK):Prop
 |mk(M:Wz)(a:RA)(s:Pg.PS)(W:cN)(t:Int)(_:v=[.ref a.rp,.int t])(_:ax c H M a s W)(_:Tb.look W t=none)(_:W.length<=1000)(_:∀(H':Hp)(M':Wz)(y:TD),y.t=[]->ax c H' M' a s (W++[(t,y)])->Step H M (a.own W) H' M' (a.own (W++[(t,y)]))->Q .non H')
theorem pW{α:Type}{f:α->V}{H:Hp}{a:Addr}{l:List (Int×α)}{t:Int}(h:H a=some (.dK (Tb.dk f l))):dN H a (.int t) ((Tb.look l t).map f):=by
 let q:=dN.k (k:=NC t) h;rw[Tb.cL]at q;show q
theorem KG:aA ["rooms","task"] ["rooms","task"] (aq nG):=L2.bC
theorem zN(F:cj K "room_of" "room_of" nG f fd):↥aN 1 f fd ["rooms","task"] cM:=by
 show F.dE KG (λJ A outer s H vs Q E G h=>?_);let#[a,W,t,x,rfl,I,hx,k]:=h;show#[_,(ai (bj (kq (gR (bN G) (pv 1) (pv 0))) du aI)
  (ao (aJ (cE (bN G) (pv 0) (pv 1) bX)))),?_]
 let z:=pW (t:=t) I;rw[hx]at z;show#[0,0,a,0,z,0,b9 #[0,0,a,fR x,rfl,z,k]]
theorem JX:aA ["rooms","task"] ["rooms","task"] (aq oi):=L2.bC
theorem AB(F:cj K "refuse_second_room" "refuse_second_room" oi f fd):↥aN 1 f fd ["rooms","task"] jy:=by
 show F.dE JX (λJ A outer s H vs Q E I h=>?_);let#[a,W,t,rfl,G,hx,k]:=h;show#[_,(ao (bj (kq (Dz (bN I) (pv 1) (pv 0))) du aI)),?_];let z:=pW (t:=t) G;rw[hx]at z;show#[0,0,a,0,z,0,b9 k]
theorem KZ:aA ["held","total"] ["held","total"] (aq sk):=L2.bC
theorem DB(F:cj K "refuse_above" "refuse_above" sk f fd):↥aN 1 f fd ["held","total"] nJ:=by
 show F.dE KZ (λG A outer s H vs Q E I h=>?_);let#[h,t,rfl,z,k]:=h;show#[_,(ao (bj (az kO (pv 0) (pv 1) (aF _)) du aI)),?_];show#[0,0,_,0,rfl,0,?_];show dX (λc=>absurd (of_decide_eq_true c) z) (λc=>k)
theorem Gs:aA ["self","table","pages","page","entry"] ["self","table","pages"] (aq ue):=L2.bC
theorem qK{c:CA}(F:cj K "leave_pages" "Rooms.leave_pages" ue f fd)(T:lT K mg c)(TT:Tb.Txt K mg c.T)(TP:qF K mg c.P)(GG:↥Md 3 c.T "get" (Tb.qt c.T))(GK:↥Md 1 c.T "clear" (Tb.tw c.T))(bc:↥Md 4 c.P "leave" (ox c.P c.S)):↥aN 5 f fd ["self","table","pages"] (eT c):=by
 let#[aB,mB,sB]:=T.bl;let rB:RelV (.ref aB) (.ref aB):=rfl;show F.dE Gs (λbH A outer s H vs Q E hr h=>?_);let#[M,a,s',W,cv,t,x,lp,ps,rfl,R,ri,bd,hx,a3,bz,a8,be,q]:=h;show#[_,(ao (cA C4 rfl (cK (pv 2)) (gH 3 Gs.nd) (ai (cQ 4 Gs.nd (pm (pv 1) TT.cl GG hr aw (aa (pv 3) ag)))
  (ai (aQ (pm (pv 1) TT.cl GK hr aw (aa (pv 3) ag)))
  (ao (bj (az (uL hr.gj) (pv 4) (bG (by rfl) mB rB) (aF _)) (ao (aQ (pm (aH (pv 0) rfl) TP.cl bc hr aw (aa (aM aK (pv 4) ah bX) ag)))) aI)))))),?_]
 let bb:¬ a.own W lp:=λz=>bz (R.eU lp z);show#[0,lp,rfl,#[_,bq.of a3],?_];show cq (K:=K) (a:=lp) (xs:=ps.map V.int) (λi σ H2=>Es λ(v3 v4:Option V)(M2:Wz)(s2:Pg.PS)(y:TD)=>Mw (σ=#v[.ref a.rp,.ref y.p,.ref lp,v3,v4]) (ax c H2 M2 a s2 (Tb.a9 W t y)) (Pg.RI s2 (ents (Tb.a9 W t y))) (Cv s2 (Tb.a9 W t y) cv) ((∀q,Tb.look y.t q=if q∈ps.take i then none else Tb.look x.t q)) (Step H M (a.own W) H2 M2 (a.own (Tb.a9 W t y))) ((∀b,(s2.ow b).length=(s'.ow b).length)/\Pg.Up s' s2))
  #[2,M,s',x,rfl,by rw[cV R.nd hx];show R,by rw[cV R.nd hx];show ri,by rw[cV R.nd hx];show bd,λq=>by simp,by rw[cV R.nd hx];show R.refl,λ_=>rfl,Pg.Up.refl] (λi σ H2 _ z0=>by let#[_,_,_,_,_,_,_,_,_,_,st,_]:=z0;show bq.of (st.off _ _ a3 bb)) ?_ ?_
 .rintro i u σ H2 hu ⟨v3,v4,M2,s2,y,rfl,R2,ap,ad,ab,am,Y⟩;rw[vu]at hu;let#[p,hp,rfl]:=t5.mp hu;let bi:=vh hp;let#[hi,bI]:=qc.mp hp;let a5:¬ p∈ps.take i:=λz=>by
   let#[j,hj,e]:=Rb z;rw[RS]at e;rw[Oz]at hj;show wD a8 j i (M4 af) hp af e
  let ac:=jV (y:=y) hx;obtain⟨e,he⟩:∃e,Tb.look y.t p=some e:=by
   rw[ab p,Wx a5];cases z:Tb.look x.t p with
   |none=>show absurd z (be p bi)
   |some e=>show#[e,rfl]
  let T2:=R2.tb _ (Tb.aC ac);let#[bx,ht]:=T2.at_.ob;show#[0,y.p,bx,0,ht,Tb.aV _ ak,0,y.p,y.fs,y.tb,p,rfl,T2.at_,λH3 v s3 O=>?_];rw[T2.lk,he]at O;let#[tt,rfl,a1]:=O;let R3:=R2.same s3;let T3:=R3.tb _ (Tb.aC ac);let#[bm,a7]:=T3.at_.ob;show#[0,y.p,bm,0,a7,Tb.aV _ ak,0,y.p,y.fs,y.tb,p,rfl,T3.at_,λH4 J T4 l4 _ o4 n4=>?_];let a6:dB c.T H4 #[y.p,y.fs,J,Tb.bp y.t p]:=#[T4,Tb.mz T3.nd,λj=>by
   rw[l4 j,Tb.bV];cases z:j=p
   .rw[Wy z,Wy z];rfl
   .rw[Wx z,Wx z];show T3.lk j]
  let G:=R3.yL (y:=#[y.p,y.fs,J,Tb.bp y.t p]) ac rfl a6 o4 n4;let S4:=am.trans ((R2.j6 s3).trans (R3.sf (y:=#[y.p,y.fs,J,Tb.bp y.t p]) ac o4 n4));let pe:=zM (y:=#[y.p,y.fs,J,Tb.bp y.t p]) R2.nd ac T2.nd he rfl;rw[set_set]at G S4 pe;let U:=ap.perm pe;let as:∀j,Tb.look (Tb.bp y.t p) j=if j∈ps.take (i+1)then none else Tb.look x.t j:=λj=>by
   rw[Tb.bV,ab j,Oy,hp];cases z:j=p
   .rw[Wy z,Wy (by rw[z];simp)]
   .rw[Wx z];cases N:j∈ps.take i
    .rw[Wy N,Wy (OB _ N)]
    .rw[Wx N,Wx (by simp[z,N])]
  let a2:∀t' x',Tb.look (Tb.a9 W t #[y.p,y.fs,J,Tb.bp y.t p]) t'=some x'->∃aT,Tb.look (Tb.a9 W t y) t'=some aT/\∀q e,Tb.look x'.t q=some e->Tb.look aT.t q=some e:=by
   intro t' x' h';rw[Tb.bK t' hx]at h' ⊢;cases z:t'=t
   .rw[Wy z]at h' ⊢;cases h';show#[y,rfl,λq e I=>?_];let I:Tb.look (Tb.bp y.t p) q=some e:=I;rw[Tb.bV]at I;cases N:q=p
    .rw[Wy N]at I;cases I
    .rw[Wx N]at I;show I
   .rw[Wx z]at h' ⊢;show#[x',h',λ_ _ h=>h]
  let bn:¬ y.fK tt:=λz=>by
   let#[_,h]:=T3.at_.dK z;rwa[a1]at h
  let a0:=o4 _ _ a1 bn;show#[0,tt,aB,_,0,rfl,bL.of a0,j4.sq (.inr sB),?_];cases e with
  |none =>
   show#[1,0,b9 ?_];show#[2,_,s2,#[y.p,y.fs,J,Tb.bp y.t p],rfl,G,U.bare,ad.next Pg.aR.refl a2,as,S4,Y]
  |some k =>
   show#[1,0,eg ?_];let#[a4,bv]:=G.ob;let#[ba,bf]:=G.pg.ob;let#[cs,cc,O]:=U.is k Oi;show#[0,a.rp,c.C,a4,_,0,bv,T.cl,T.nP,nc _ _ _,a.A.pg,ba,0,bf,cR _ _ ak ak ak ak ak,0,tt,_,(1),0,rfl,bL.of a0,5,a.A,s2,k,cs,cc,rfl,G.pg,G.ok,G.mt,U.good,O,λH5 s5 le G5 O5=>?_];let L:=Pg.zu U.good O le;show#[2,_,s5,#[y.p,y.fs,J,Tb.bp y.t p],rfl,G.mR G5 O5 L.ln,U.leave O le,ad.next (U.yG O le) a2,as,S4.trans (G.Jv G5 O5),λb=>(L.ln b).trans (Y.1 b),Y.2.trans (Pg.JQ le)]
 .rintro σ H2 ⟨v3,v4,M2,s2,y,rfl,R2,ap,ad,ab,am,Y⟩;rw[qi,OS]at ab;show q H2 M2 s2 y R2 ap ad ab am Y
theorem DN:aA ["self","task","page","many","table"] ["self","task","page","many"] (aq uD):=L2.bC
theorem E3{c:CA}(F:cj K "drop" "Rooms.drop" uD f fd)(T:lT K mg c)(TT:Tb.Txt K mg c.T)(GR:↥Df 1 "room_of" cM)(GD:↥Df 2 "pages_to_drop" Rm.pE)(am:↥Md 1 c.T "pages" (Tb.dA c.T))(aT:↥Md 5 c.C "leave_pages" (eT c)):↥aN 6 f fd ["self","task","page","many"] (xW c):=by
 show F.dE DN (λa3 A outer s H vs Q E G h=>?_);let#[M,a,s',W,cv,t,p,m,x,rfl,R,ri,a2,hx,I,L,q]:=h;let#[dx,N]:=R.ob;let J:=R.tb _ (Tb.aC hx);let#[a0,ht]:=J.at_.ob;let b1:¬ m<1:=λz=>I (.inl z);let b2:¬ p<0:=λz=>I (.inr (.inl z));let b3:¬ 64<p+m:=λz=>I (.inr (.inr z));show#[_,(ai (cQ 4 DN.nd (pc GR G aw (aa (aH (pv 0) rfl) (aa (pv 1) ag))))
  (ao (aQ (pm (pv 0) T.cl aT G aw (aa (pv 4) (aa (pc GD G aw (aa (lU (pv 4) TT.cl am G aw) (aa (pv 2) (aa (pv 3) ag)))) ag)))))),?_]
 show#[0,a.rp,c.C,dx,_,0,N,T.cl,T.nR,cH _ _ _,0,a.rd,W,t,x,rfl,R.hd,hx,?_];show#[0,a.rp,dx,0,N,dZ _ _ _ ak ak ak,0,0,x.p,a0,0,ht,Tb.aV _ ak,x.p,x.fs,x.tb,rfl,J.at_,λH1 l1 ns s1 a5 a1 pm a4=>?_];show#[0,0,l1,ns,p,m,rfl,a1,I,λq S=>(J.mem pm q).mpr (L q S),λH2 l2 s2 ad U=>?_]
 .let O:=s1.trans s2;show#[M,a,s',W,cv,t,x,l2,Rm.aP p m,rfl,R.same O,ri,a2,hx,U,λz=>R.mt _ z (s1.free ad),?_,L,λH3 M3 s3 y R3 as aB ab ap ac=>q H3 M3 s3 y R3 as aB ab ((R.j6 O).trans ap) ac];unfold Rm.aP;show Qv.mpr (U5.imp ?_);intro i j Y e;show Y af
theorem uB:aA ["self","task","table"] ["self","task"] (aq oq):=L2.bC
theorem zZ{c:CA}(F:cj K "close" "Rooms.close" oq f fd)(T:lT K mg c)(TT:Tb.Txt K mg c.T)(GR:↥Df 1 "room_of" cM)(am:↥Md 1 c.T "pages" (Tb.dA c.T))(aT:↥Md 5 c.C "leave_pages" (eT c)):↥aN 6 f fd ["self","task"] (lJ c):=by
 show F.dE uB (λa6 A outer s H vs Q E O h=>?_);let#[M,a,s',W,cv,t,x,rfl,R,ri,a5,hx,q]:=h;let#[dx,U]:=R.ob;let I:=R.tb _ (Tb.aC hx);let#[a0,ht]:=I.at_.ob;show#[_,(ai (cQ 2 uB.nd (pc GR O aw (aa (aH (pv 0) rfl) (aa (pv 1) ag))))
  (ai (aQ (pm (pv 0) T.cl aT O aw (aa (pv 2) (aa (lU (pv 2) TT.cl am O aw) ag))))
  (ao (aQ (ic (aH (pv 0) rfl) (pv 1) #[1,1]))))),?_]
 show#[0,a.rp,c.C,dx,_,0,U,T.cl,T.nR,cH _ _ _,0,a.rd,W,t,x,rfl,R.hd,hx,?_];show#[0,a.rp,dx,0,U,dZ _ _ _ ak ak ak,0,0,x.p,a0,0,ht,Tb.aV _ ak,x.p,x.fs,x.tb,rfl,I.at_,λH1 l1 ns s1 a2 a3 pm a7=>?_];show#[M,a,s',W,cv,t,x,l1,ns,rfl,R.same s1,ri,a5,hx,a3,λz=>R.mt _ z a2,pm.nodup_iff.mpr (Tb.kS I.at_),λq hq=>(I.mem pm q).mp hq,λH3 M3 s3 y G as aB ab ap ac=>?_];let ad:=jV (y:=y) hx;let ey:y.t=[]:=by
  cases e:y.t with
  |nil=>rfl
  |cons z r =>
   exfalso;let h1:=ab z.1;rw[e,Tb.aX,Wy rfl]at h1;cases N:z.1∈ns
   .rw[Wy N]at h1;cases h1
   .rw[Wx N]at h1;show N ((I.mem pm z.1).mpr (by rw[<-h1];simp))
 let#[a4,a1]:=G.ob;show#[0,a.rp,c.C,a4,_,0,a1,T.cl,T.nR,cH _ _ _,a.rd,rfl,.inl #[_,.inl G.hd],0,_,NC t,fR y,G.hd,rfl,by rw[Tb.cL,ad];rfl,?_];let Y:=G.HJ t;rw[Tb.hG];rw[Tb.yQ]at Y ⊢;let L:=jd (y:=y) R.nd hx;rw[ey]at L;let L:(ents (Tb.a9 W t y)).Perm (ents (Tb.bp W t)):=L;show q _ M3 s3 Y (as.perm L) (aB.next Pg.aR.refl λt' J h'=>?_) (((R.j6 s1).trans ap).trans ?_) ac
 .rw[Tb.bV]at h';cases z:t'=t
  .rw[Wy z]at h';cases h'
  .rw[Wx z]at h';show#[J,by rw[Tb.bK t' hx,Wx z];show h',λ_ _ h=>h]
 .show#[Off.wr (.inr (.inl rfl)),λ_ h _=>h,λ_ h=>.inl h,λb z=>.inl ?_,G.mt,G.eU];rcases z with z|z|⟨J,S,z⟩
  .show .inl z
  .show .inr (.inl z)
  .let#[S,ne]:=Tb.cZ S;show .inr (.inr #[J,?_,z]);unfold Tb.a9;show IF.mpr #[J,S,by rw[Wx ne]]
theorem KD:aA ["self","task"] ["self","task"] (aq nW):=L2.bC
theorem Ab{f S:Addr}{fd U:qw}{c:CA}(F:cj K "begin" "Rooms.begin" nW f fd)(T:lT K mg c)(MK:Mk K c.T S)(am:mg "Table" = some (.ref c.T))(GS:↥Df 1 "refuse_second_room" jy)(GI:↥aN 1 S U ["self"] (Tb.jb c.T))(bI:Binds K U ["self"] []):↥aN 3 f fd ["self","task"] (lG c):=by
 show F.dE KD (λas A outer s H vs Q E J h=>?_);let#[M,a,s',W,t,rfl,R,N,hl,q]:=h;let#[dx,ho]:=R.ob;let hs:=vl;show#[_,(ai (aQ (pc GS J aw (aa (aH (pv 0) rfl) (aa (pv 1) ag))))
  (ao (lj (bN J) (aH (pv 0) rfl) (pv 1) (vj MK GI (J.mono ar) (by rfl) am bI .nil aw) rfl))),?_]
 show#[0,a.rp,c.C,dx,_,0,ho,T.cl,T.nR,cH _ _ _,0,a.rd,W,t,rfl,R.hd,N,?_];show λp ap np O aB=>#[p,ap,rfl,ae,λfs H1 ab Y off=>#[4]];let s1:aR H H1:=λb u e=>off b u (by rw[aj (av e np),aj (av e O)];show e) (av e np);let I:H fs=none:=by
  cases e:H fs with
  |none=>rfl
  |some u=>rwa[aj (av e np),aj (av e O),e]at ab
 let L:=R.Cm (H':=H1) (B:=λ_=>False) (M':=λb=>M b\/b=fs) (λb o e _=>s1 b o e) (λb z=>z.elim) (λb z=>z.elim) (λb z=>z.elim .inl λz=>.inr (by rw[z];show I)) (λb z _=>.inl z) (λb z e=>z.elim (λz=>(R.same s1).mt b z e) λz=>by rwa[z,Y.hf]at e)
 .let#[ac,ad]:=L.ob;show#[0,a.rp,c.C,ac,_,0,ad,T.cl,T.nR,cH _ _ _,0,a.rd,0,gK.k (k:=NC t) L.hd (by rw[Tb.dg];omega),?_];rw[show(V.ref p)=fR #[p,fs,[],[]]from rfl,Tb.dU N];let TI:dB c.T H1 #[p,fs,[],[]]:=#[Y,Pu,λq=>rfl];let dd:∀b,(TD.mk p fs [] []).fK b->b=fs:=λb z=>by
   rcases z with z|⟨_,hx,_⟩
   .show z
   .cases hx
  let R2:=L.C9 N TI (λb z=>#[.inr (dd b z),λy=>?_]) (λy=>?_)
  .show q _ _ #[p,fs,[],[]] rfl R2 #[?_,λb z _=>.inl z,λb z=>z.elim .inl λz=>.inr (by rw[z];show I),λb z=>?_,R.mt,R.eU]
   .intro b o e z;rw[aj (λy=>z (.inr (.inl y)))];show s1 _ _ e
   .rcases z with z|z|⟨x',G,z⟩
    .show .inl (.inl z)
    .show .inl (.inr (.inl z))
    .rcases t4.mp G with G|G
     .show .inl (.inr (.inr #[x',G,z]))
     .rw[qj.mp G]at z;rw[dd b z];show .inr I
  .rw[dd b z]at y;show R.mt _ (R.eU _ y) I
  .show R.mt _ (R.ok.own _ y) np
theorem qD:Om "sum" = some (.builtin "sum"):=ak
inductive jz(c:CA)(v:List V)(H:Hp)(Q:VK)(e3:XK):Prop
 |mk(M:Wz)(a:RA)(s:Pg.PS)(W:cN)(tt:Addr)(e:Pg.Ent)(cs:List Int)(_:v=[.ref a.rp,.ref tt])(_:ax c H M a s W)(_:Pg.Good s)(_:H tt=some (.tup (AZ e)))(_:Pg.Bd s e cs)(_:∀(H':Hp)(l:Addr),aR H H'->H l=none->H' l=some (.lst (cs.map V.int))->Q (.ref l) H')
theorem vX{s:Pg.PS}{e:Pg.Ent}{r:List Pg.Ent}(z:Pg.RI s (e::r)){F:List Pg.Ent}(h:∀{x},x∈F->x=e\/x∈r):¬ some (s.ls+1)∈F:=λm=>by
 let#[_,_,_,_,h1,_]:=z.is (s.ls+1) ((h m).elim (λq=>by rw[q];show Oi) (Oq _));have:=(z.good.rg _ _ h1).2;omega
theorem Dg{s:Pg.PS}{k:Int}{r:List Pg.Ent}{cs:List Int}(F:Pg.RI s (some k::r))(z:Pg.Vw s k cs 1):¬ some k∈r:=λm=>by
 let h:=F.ct k cs 1 z;rw[RE]at h;have:=Oe.mpr m;omega
inductive jg(c:CA)(v:List V)(H:Hp)(Q:VK)(e3:XK):Prop
 |mk(M:Wz)(a:RA)(s:Pg.PS)(W:cN)(tt ca:Addr)(e:Pg.Ent)(r:List Pg.Ent)(cs:List Int)(_:v=[.ref a.rp,.ref tt,.ref ca])(_:ax c H M a s W)(_:Pg.RI s (e::r))(_:H tt=some (.tup (AZ e)))(_:H ca=some (.lst (cs.map V.int)))(_:¬ M ca)(_:cs.length=8)(_:∀(H':Hp)(s':Pg.PS)(k:Int),ax c H' M a s' W->Pg.RI s' (some k::r)->¬ some k∈r->Pg.aR r s s'->Pg.Bd s' (some k) cs->Step H M (a.own W) H' M (a.own W)->((∀b,(s'.ow b).length=(s.ow b).length)/\Pg.KB s s'/\∃m,s'.pl k=some (true,m))->Q (.int k) H')
def heldW(W:cN):Int:=(W.map λx=>(x.2.t.length:Int)).sum
theorem vP:∀W:cN,heldW W=((ents W).length:Int)
 | []=>rfl
 |x::W=>by
  let z:=vP W;unfold heldW at z ⊢;rw[Pb,Sk,z];change _=(((kW x.2.t++ents W).length:Nat):Int);rw[y3];unfold kW;rw[qi];omega
inductive gc(c:CA)(v:List V)(H:Hp)(Q:VK)(e:XK):Prop
 |mk(M:Wz)(a:RA)(s:Pg.PS)(W:cN)(_:v=[.ref a.rp])(_:ax c H M a s W)(_:W.length<=1000)(_:∀H',aR H H'->Q (.int (ents W).length) H')
def Iz(s:Pg.PS)(H:Hp)(v:V):Option Pg.Ent->Prop
 |none=>v=.non
 |some none=>∃t,v=.ref t/\H t=some (.tup [.str "blank"])
 |some (some k)=>∃t b n,v=.ref t/\s.pl k=some (b,n)/\H t=some (.tup (iK b n))
inductive iW(c:CA)(vs:List V)(H:Hp)(Q:VK)(e:XK):Prop
 |mk(M:Wz)(a:RA)(s:Pg.PS)(W:cN)(t q:Int)(x:TD)(_:vs=[.ref a.rp,.int t,.int q])(_:ax c H M a s W)(_:Pg.RI s (ents W))(_:Tb.look W t=some x)(_:∀H' v,aR H H'->Iz s H' v (Tb.look x.t q)->Q v H')
def kY(cv:WA)(t:Int)(ps:List Int):Int->Int->List Int:=λt' q=>if t'=t/\q∈ps then replicate 8 0 else cv t' q
inductive xD(c:CA)(v:List V)(H:Hp)(Q:VK)(e:XK):Prop
 |mk(M:Wz)(a:RA)(s:Pg.PS)(W:cN)(cv:WA)(t p m:Int)(x:TD)(_:v=[.ref a.rp,.int t,.int p,.int m])(_:ax c H M a s W)(_:Pg.RI s (ents W))(_:Cv s W cv)(_:W.length<=1000)(_:Tb.look W t=some x)(_:¬ Rm.br p m)(_:(∀q∈Rm.aP p m,Tb.look x.t q=none))(_:(ents W).length+m<=mO s)(_:∀(H':Hp)(M':Wz)(y:TD),ax c H' M' a s (Tb.a9 W t y)->Pg.RI s (ents (Tb.a9 W t y))->Cv s (Tb.a9 W t y) (kY cv t (Rm.aP p m))->(∀q,Tb.look y.t q=if q∈Rm.aP p m then some none else Tb.look x.t q)->Step H M (a.own W) H' M' (a.own (Tb.a9 W t y))->Q .non H')
theorem dB.len{c:CA}{H:Hp}{x:TD}(T:dB c.T H x){ns:List Int}(p:ns.Perm (Tb.gA x.tb)):ns.length=x.t.length:=by
 let h:ns.Perm (x.t.map (·.1)):=by
  rw[Sm (p.nodup_iff.mpr (Tb.kS T.at_)) T.nd];intro q;rw[T.mem p q];constructor
  .intro h;cases e:Tb.look x.t q with
   |none=>show absurd e h
   |some v=>show IF.mpr #[_,Tb.aC e,rfl]
  .intro h e;show Tb.cp e h
 rw[h.length_eq,qi]
theorem oP{p m:Int}(h:¬ Rm.br p m):((Rm.aP p m).length:Int)=m:=by
 have:¬ m<1:=λz=>h (.inl z);unfold Rm.aP;rw[qi,PF];omega
theorem rL(p m:Int):(Rm.aP p m).Nodup:=by
 unfold Rm.aP;show Qv.mpr (U5.imp ?_);intro i j z e;show z af
theorem zK{cv:WA}{t:Int}:kY cv t []=cv:=by
 funext t' q;unfold kY;rw[Wx (by simp)]
theorem vb{cv:WA}{t t' q p:Int}{l:List Int}(h:¬ (t'=t/\q=p)):kY cv t (l++[p]) t' q=kY cv t l t' q:=by
 unfold kY;cases z:t'=t/\q∈l
 .rw[Wy z,Wy #[z.1,OB _ z.2]]
 .rw[Wx z,Wx (λy=>by
   rcases t4.mp y.2 with w|w
   .show z #[y.1,w]
   .show h #[y.1,qj.mp w])]
theorem Bi:aA ["self","entry"] ["self","entry"] (aq sG):=L2.bC
theorem yM{c:CA}(F:cj K "cells_of" "Rooms.cells_of" sG f fd)(T:lT K mg c)(TP:qF K mg c.P)(Jq:↥Md 4 c.P "cells" (qv c.P c.S)):↥aN 5 f fd ["self","entry"] (jz c):=by
 let#[G,mB,sB]:=T.bl;let#[u8,m8,r8]:=T.pc;let rB:RelV (.ref G) (.ref G):=rfl;show F.dE Bi (λad A outer s H vs Q E L h=>?_);let#[M,a,s',W,tt,e,cs,rfl,R,U,J,z,q]:=h;let hs:=vl;show#[_,(ai (bj (az (oS L.gj) (pv 1) (bG (by rfl) mB rB) (aF _)) (ao (aJ (ay iq (bE (aa ah ag)) (bG (by rfl) m8 r8)))) aI)
  (ao (aJ (pm (aH (pv 0) rfl) TP.cl Jq L aw (aa (aM aK (pv 1) ah bX) ag))))),?_]
 show#[0,tt,G,_,0,rfl,bL.of J,j4.sq (.inr sB),?_];cases e with
 |none =>
  show#[1,0,eg ?_];show#[ar,λl1 ac=>?_];show#[l1,(8),0,rfl,ae,af,af,by rw[OC];omega,λl2 I=>?_];let s1:=Tb.au (X:=.lst [V.int 0]) ac;let s2:=Tb.au (X:=.lst ((replicate (8:Int).toNat [V.int 0]).flatten)) I;let z:cs=replicate 8 0:=z;show q _ l2 (s1.trans s2) (s1.free I) ?_;rw[ae,z];rfl
 |some k =>
  show#[1,0,b9 ?_];let#[cc,N]:=z;let#[dx,Y]:=R.ob;let#[ab,h2]:=R.pg.ob;show#[0,a.rp,c.C,dx,_,0,Y,T.cl,T.nP,nc _ _ _,a.A.pg,ab,0,h2,cR _ _ ak ak ak ak ak,0,tt,_,(1),0,rfl,bL.of J,rfl,M,a.A,s',k,cs,cc,rfl,R.pg,N,?_,λl O=>q _ l (Tb.au O) O ae];have:=(U.vw N).1;omega
theorem LQ:aA ["self","entry","cells"] ["self","entry","cells"] (aq sH):=L2.bC
theorem tK{c:CA}(F:cj K "sheet_with" "Rooms.sheet_with" sH f fd)(T:lT K mg c)(TP:qF K mg c.P)(as:↥Md 7 c.P "new_sheet" (iu K c.P c.S))(ap:↥Md 8 c.P "change" (qe c.P c.S)):↥aN 9 f fd ["self","entry","cells"] (jg c):=by
 let#[aB,mB,sB]:=T.bl;let rB:RelV (.ref aB) (.ref aB):=rfl;show F.dE LQ (λa8 A outer s H vs Q E hr h=>?_);let#[M,a,s',W,tt,ca,e,r,cs,rfl,R,G,ht,ac,a0,L,q]:=h;let am:¬ a.A.own ca:=λz=>a0 (R.ok.own _ z);let#[dx,ho]:=R.ob;let#[ad,h2]:=R.pg.ob;show#[_,(ai (bj (az (oS hr.gj) (pv 1) (bG (by rfl) mB rB) (aF _)) (ao (aJ (pm (aH (pv 0) rfl) TP.cl as hr aw (aa (pv 2) ag)))) aI)
  (ao (aJ (pm (aH (pv 0) rfl) TP.cl ap hr aw (aa (aM aK (pv 1) ah bX) (aa (pv 2) ag)))))),?_]
 show#[0,tt,aB,_,0,rfl,bL.of ht,j4.sq (.inr sB),?_];cases e with
 |none =>
  show#[1,0,eg ?_];show#[0,a.rp,c.C,dx,_,0,ho,T.cl,T.nP,nc _ _ _,a.A.pg,ad,0,h2,cR _ _ ak ak ak ak ak,0,M,a.A,s',ca,cs,rfl,R.Lw G,G.room,bq.of ac,λe=>am (by rw[e];show PA.gQ 0 rfl),L,λH1 s1 N I J=>?_];let B:=Pg.mG G.good G.l0 L N;show q H1 s1 _ (R.mR I J B.kept.ln) (G.fill L N) (vX G λh=>.inr h) (G.AD L N) #[(1),B.vw] (R.Jv I J) #[B.kept.ln,B.kept.kb B.fr,B.fr]
 |some k =>
  show#[1,0,b9 ?_];let#[aT,c0,O]:=G.is k Oi;show#[0,a.rp,c.C,dx,_,0,ho,T.cl,T.nP,nc _ _ _,a.A.pg,ad,0,h2,cR _ _ ak ak ak ak ak,0,tt,_,(1),0,rfl,bL.of ht,rfl,0,M,a.A,s',k,ca,aT,c0,cs,rfl,R.Lw G,O,ac,am,L,λz=>G.JC O z,λz H1 s1 s2 N hl I J=>?_,λz H1 s1 m ab Y I J=>?_]
  .let#[a1,a2,a3,a4,a5,a6,a7]:=G.part O z L N hl;show q H1 s2 _ (R.mR I J a7) a1 (vX G λh=>.inr h) a2 a3 (R.Jv I J) #[a7,λz=>#[(a6 z).1,λj y=>by let#[m,Y]:=y;show#[m,(a6 z).2 j m Y]],a4]
  .subst z;let#[a1,a2,a3]:=G.write O L ab Y;let U:=Pg.m7 G.good ab;show q H1 _ k (R.mR I J U.kept.ln) a1 (Dg G O) a2 a3 (R.Jv I J) #[U.kept.ln,U.kept.kb U.fr,m,Y]
theorem MX:aA ["self"] ["self"] (aq yE):=L2.bC
theorem vA{c:CA}(F:cj K "held" "Rooms.held" yE f fd)(T:lT K mg c)(TT:Tb.Txt K mg c.T)(aB:↥Md 1 c.T "pages" (Tb.dA c.T)):↥aN 2 f fd ["self"] (gc c):=by
 show F.dE MX (λa0 A outer s H vs Q E hr h=>?_);let#[M,a,s',W,rfl,R,lw,k]:=h;let hs:=vl;let#[dx,h1]:=R.ob;show#[_,(ao (aJ (aO (qd rfl) (by rfl) T.sum qD (aa (sE (jC (cl:=[("self",s⁻¹+1)]) (caps:=[("self",0)]) #[rfl,ak,ak,rfl,by kernel_rfl,by intro p I;simp only[se,DO,or_false]at I;rcases I with rfl<;>first|rfl|show#[rfl,.inl rfl,.inl rfl]|show#[rfl,.inl rfl,.inr rfl],by kernel_rfl,by intro p I;simp only[se,DO,or_false]at I;rcases I with rfl<;>first|rfl|show#[rfl,.inl rfl,.inl rfl]|show#[rfl,.inl rfl,.inr rfl],ak] rfl (jI (aH (pv 0) rfl)) (λ_ _ _ _=>iG) (λ_ _ _ _=>(aO (show eQ _ _ (zx K)from Ad) (by rfl) T.len boot_len (aa (lU (cE (bN hr) (show PE _ _ (EU K _ "rooms")from aH (pv 1) rfl) (pv 0) bX) TT.cl aB hr aw) ag))))) ag)))),?_];let hn:∀(o:Obj) u',H a.rd≠some (.frz o u'):=λo u' z=>(by rwa[R.hd]at z);show#[0,a.rp,c.C,dx,_,0,h1,T.cl,T.nR,cH _ _ _,a.rd,0,R.hd,hn,λo=>?_];let as:a.rp≠a.rd:=λz=>(by rwa[z,R.hd]at h1);let O:Off (· = a.rd) H (upd H a.rd (.frz o (.dK (Tb.dk fR W)))):=Off.wr rfl;let L:(upd H a.rd (.frz o (.dK (Tb.dk fR W)))) a.rd=some (.frz o (.dK (Tb.dk fR W))):=ae;let am:=O _ _ h1 as;let ad:∀x∈W,dB c.T (upd H a.rd (.frz o (.dK (Tb.dk fR W)))) x.2:=λx hx=>by
  let#[a2,S]:=(R.tb x hx).at_.ob;show(R.tb x hx).off O (λz=>by rwa[z,R.hd]at S) (λb z=>(R.dm x hx b z).2.2) (λb xs e z=>by rwa[z,R.hd]at e)
 show kL (a:=a.rd) (o:=o) (kvs:=Tb.dk fR W) (λi ys H2=>ys=((W.take i).map λx=>(x.2.t.length:Int)).map V.int/\aR (upd H a.rd (.frz o (.dK (Tb.dk fR W)))) H2) #[rfl,λ_ _ e=>e] (λi zs H2 _ ⟨_,e⟩=>e _ _ L) ?_ ?_
 .rintro i kk v zs H2 hk ⟨rfl,G⟩;let Y:(W.map λx:Int×TD=>((NC x.1:Key),fR x.2))[i]?=some (kk,v):=hk;rw[vu]at Y;let#[x,hx,e]:=t5.mp Y;cases e;let hm:=vh hx;let hi:i<W.length:=(qc.mp hx).1;let ap:Tb.look W x.1=some x.2:=Tb.bW R.nd hm;let hg:dN H2 a.rd (.int x.1) (some (fR x.2)):=.inl #[Tb.dk fR W,NC x.1,.inr #[o,G _ _ L],rfl,by rw[Tb.cL,ap];rfl];let TX:=ad x hm;let T2:=TX.at_.same G;let#[aT,ht]:=T2.ob;show#[0,a.rp,c.C,dx,_,0,G _ _ am,T.cl,T.nR,cH _ _ _,0,a.rd,fR x.2,rfl,hg,x.2.p,aT,0,ht,Tb.aV _ ak,x.2.p,x.2.fs,x.2.tb,rfl,T2,λH3 l ns s3 fl J pm a1=>?_];show#[l,0,.inl (bq.of J),3,G.trans s3]
  .rw[qi,qi,Oz];omega
  .rw[qi,TX.len pm,Oy,hx,N5,N5];rfl
 .rintro zs H2 ⟨rfl,G⟩ l J;let ab:=G _ _ L;let ac:l≠a.rd:=λz=>(by rwa[z,ab]at J);show#[a.rd,o,Tb.dk fR W,by rw[aj (G0 ac)];show ab,hn,l,(W.map λx=>(x.2.t.length:Int)),rfl,bq.of ?_,?_]
  .rw[aj ac,ae,Tb.dg,OS]
  .let U:=vP W;unfold heldW at U;rw[U];show k _ λb u e=>?_;cases z:b=a.rd
   .rw[z,ae, <-e,z,R.hd]
   .let N:H2 b=some u:=G _ _ (O _ _ e z);rw[aj z,aj (λy=>by rwa[y,J]at N)];show N
theorem J6:aA ["self","task","page","entry"] ["self","task","page"] (aq uJ):=L2.bC
theorem AR{c:CA}(F:cj K "place" "Rooms.place" uJ f fd)(T:lT K mg c)(TT:Tb.Txt K mg c.T)(TP:qF K mg c.P)(GR:↥Df 1 "room_of" cM)(GG:↥Md 3 c.T "get" (Tb.qt c.T))(ap:↥Md 1 c.P "place" (jB c.P c.S)):↥aN 4 f fd ["self","task","page"] (iW c):=by
 let#[J,mB,sB]:=T.bl;let rB:RelV (.ref J) (.ref J):=rfl;show F.dE J6 (λas A outer s H vs Q E G h=>?_);let#[M,a,s',W,t,q,x,rfl,R,ri,hx,k]:=h;let#[dx,ho]:=R.ob;let O:=R.tb _ (Tb.aC hx);let#[am,ht]:=O.at_.ob;show#[_,(ai (cQ 3 J6.nd (pm (pc GR G aw (aa (aH (pv 0) rfl) (aa (pv 1) ag))) TT.cl GG G aw (aa (pv 2) ag)))
  (ai (bj (PW.pt (fJ (az Iq (pv 3) mI (aF _)) (fN (az (oS G.gj) (pv 3) (bG (by rfl) mB rB) (aF _))))) (ao (aJ (pv 3))) aI)
  (ao (aJ (pm (aH (pv 0) rfl) TP.cl ap G aw (aa (aM aK (pv 3) ah bX) ag)))))),?_]
 show#[0,a.rp,c.C,dx,_,0,ho,T.cl,T.nR,cH _ _ _,0,a.rd,W,t,x,rfl,R.hd,hx,?_];show#[x.p,am,0,ht,Tb.aV _ ak,0,x.p,x.fs,x.tb,q,rfl,O.at_,λH1 v s1 z=>?_];rw[O.lk]at z;cases I:Tb.look x.t q with
 |none =>
  rw[I]at z k;let z:v=.non:=z;subst z;show#[0,rfl,0,eg (eg #[0,k H1 _ s1 rfl])]
 |some e =>
  rw[I]at z k;let#[tt,rfl,N]:=z;let L:=R.same s1;let#[Y,ac]:=L.ob;let#[ab,h2]:=L.pg.ob;show#[0,rfl,0,b9 ?_];show#[0,tt,J,_,0,rfl,bL.of N,j4.sq (.inr sB),?_];cases e with
  |none=>show#[1,0,eg #[0,k H1 _ s1 #[tt,rfl,N]]]
  |some j =>
   show#[1,0,b9 ?_];let#[cs,cc,b,n,U,_,_]:=ri.is j (lL hx I);show#[0,a.rp,c.C,Y,_,0,ac,T.cl,T.nP,nc _ _ _,a.A.pg,ab,0,h2,cR _ _ ak ak ak ak ak,0,tt,_,(1),0,rfl,bL.of N,rfl,M,a.A,s',j,b,n,rfl,L.pg,U,λt' ad=>k H1 _ s1 #[t',b,n,rfl,U,ad]]
theorem nu:aA ["self","task","page","many","table","pages","wanted"] ["self","task","page","many"] (aq zf):=L2.bC
theorem Ex{c:CA}(F:cj K "map" "Rooms.map" zf f fd)(T:lT K mg c)(TT:Tb.Txt K mg c.T)(GR:↥Df 1 "room_of" cM)(GM:↥Df 2 "pages_to_map" Rm.oo)(GA:↥Df 1 "refuse_above" nJ)(bz:↥Md 1 c.T "pages" (Tb.dA c.T))(GH:↥Md 2 c.C "held" (gc c))(GL:↥Md 3 c.T "lay" (Tb.wa K c.T)):↥aN 4 f fd ["self","task","page","many"] (xD c):=by
 let#[aB,mB,sB]:=T.bl;let rB:RelV (.ref aB) (.ref aB):=rfl;show F.dE nu (λbJ A outer s H vs Q E N h=>?_);let#[M,a,s',W,cv,t,p,m,x,rfl,R,ri,be,lw,hx,S,a1,a5,q]:=h;let#[dx,ho]:=R.ob;let TX:=R.tb _ (Tb.aC hx);let#[bH,ht]:=TX.at_.ob;let b1:¬ m<1:=λz=>S (.inl z);let b2:¬ p<0:=λz=>S (.inr (.inl z));let b3:¬ 64<p+m:=λz=>S (.inr (.inr z));let pl:=oP S;show#[_,(ai (cQ 4 nu.nd (pc GR N aw (aa (aH (pv 0) rfl) (aa (pv 1) ag))))
  (ai (cQ 5 nu.nd (pc GM N aw (aa (lU (pv 4) TT.cl bz N aw) (aa (pv 2) (aa (pv 3) ag)))))
  (ai (aQ (pc GA N aw (aa (ay bD (lU (pv 0) T.cl GH N aw) (aO bB (by rfl) T.len boot_len (aa (pv 5) ag))) (aa (aH (pv 0) rfl) ag))))
  (ao (cA C4 rfl (cK (pv 5)) (gH 6 nu.nd) (ao (aQ (pm (pv 4) TT.cl GL N aw (aa (pv 6) (aa (bG (by rfl) mB rB) ag)))))))))),?_]
 show#[0,a.rp,c.C,dx,_,0,ho,T.cl,T.nR,cH _ _ _,0,a.rd,W,t,x,rfl,R.hd,hx,?_];show#[0,x.p,bH,0,ht,Tb.aV _ ak,x.p,x.fs,x.tb,rfl,TX.at_,λH1 l1 ns s1 bY bI pm b0=>?_];show#[0,0,l1,ns,p,m,rfl,bI,S,λz h1 h2=>absurd (a1 z h1) ((TX.mem pm z).mp h2),λH2 l2 s2 bx bf=>?_];let S2:=s1.trans s2;let R2:=R.same S2;let#[bm,a6]:=R2.ob;show#[0,a.rp,bm,0,a6,dZ _ _ _ ak ak ak,M,a,s',W,rfl,R2,lw,λH3 s3=>?_];let aT:=s3 _ _ bf;let R3:=R2.same s3;let#[bc,bb]:=R3.ob;show#[0,l2,0,.inl (bq.of aT),_,0,rfl,0,a.rp,c.C,bc,_,0,bb,T.cl,T.nT,Fq _ _ _,_,0,3]
 .rw[qi,pl];omega
 let S3:=S2.trans s3;let ba:¬ M l2:=λz=>R.mt _ z (s1.free bx);let bd:¬ a.own W l2:=λz=>ba (R.eU l2 z);show#[0,l2,rfl,#[_,bq.of aT],?_];show cq (K:=K) (a:=l2) (xs:=(Rm.aP p m).map V.int) (λi σ O=>Mz λ(v6:Option V)(Y:Wz)(y:TD)=>Mw (σ=#v[.ref a.rp,.int t,.int p,.int m,.ref y.p,.ref l2,v6]) (ax c O Y a s' (Tb.a9 W t y)) (Pg.RI s' (ents (Tb.a9 W t y))) ((ents (Tb.a9 W t y)).length=(ents W).length+i) (Cv s' (Tb.a9 W t y) (kY cv t ((Rm.aP p m).take i))) ((∀q,Tb.look y.t q=if q∈(Rm.aP p m).take i then some none else Tb.look x.t q)) (Step H3 M (a.own W) O Y (a.own (Tb.a9 W t y))))
  #[_,M,x,rfl,by rw[cV R.nd hx];show R3,by rw[cV R.nd hx];show ri,by rw[cV R.nd hx];rfl,by rw[cV R.nd hx,UW,zK];show be,λq=>by simp,by rw[cV R.nd hx];show R3.refl] (λi σ O _ z0=>by let#[_,_,_,_,_,_,_,_,_,st]:=z0;show bq.of (st.off _ _ aT bd)) ?_ ?_
 .rintro i u σ O hu ⟨v6,Y,y,rfl,R4,as,a0,ac,U,ap⟩;rw[vu]at hu;let#[G,hp,rfl]:=t5.mp hu;let a2:=vh hp;let#[hi,b4]:=qc.mp hp;let a7:¬ G∈(Rm.aP p m).take i:=λz=>by
   let#[j,hj,e]:=Rb z;rw[RS]at e;rw[Oz]at hj;show wD (rL p m) j i (M4 af) hp af e
  let am:=jV (y:=y) hx;let T4:=R4.tb _ (Tb.aC am);let#[a3,bi]:=T4.at_.ob;let bv:Tb.look y.t G=none:=(by rw[U,Wx a7];show a1 G a2);let#[r1,r2,_]:=Rm.jD S G a2;show#[0,y.p,a3,0,bi,Tb.aV _ ak,0,y.p,y.fs,aB,y.tb,G,[.str "blank"],rfl,T4.at_,r1,r2,.inr sB,rfl,λH5 ab T5 l5 o5 n5=>?_];let bn:dB c.T H5 #[y.p,y.fs,ab,(G,none)::y.t]:=#[T5,N6.mpr #[Tb.cp bv,T4.nd],λj=>by
   rw[l5 j,Tb.aX];cases z:j=G
   .rw[Wy z,Wy z.symm];rfl
   .rw[Wx z,Wx (G0 z)];show T4.lk j]
  let R5:=R4.yL (y:=#[y.p,y.fs,ab,(G,none)::y.t]) am rfl bn o5 n5;let S5:=ap.trans (R4.sf (y:=#[y.p,y.fs,ab,(G,none)::y.t]) am o5 n5);let pe:(ents (Tb.a9 W t #[y.p,y.fs,ab,(G,none)::y.t])).Perm (none::ents (Tb.a9 W t y)):=(jd R.nd hx).trans ((jd (y:=y) R.nd hx).symm.cons none);rw[set_set]at R5 S5;let a8:(ents (Tb.a9 W t y)).length<(s'.ow true).length+(s'.ow false).length:=by
   rw[a0];unfold mO at a5;omega
  show#[2,#[y.p,y.fs,ab,(G,none)::y.t],rfl,R5,(as.lay a8).perm pe.symm,by rw[pe.length_eq,K4,a0];omega,3,S5]
  .intro L a4 ad q e J;rw[Tb.bK L hx]at ad;rw[Oy,hp];cases z:L=t
   .rw[Wy z]at ad;cases ad;let J:Tb.look ((G,none)::y.t) q=some e:=J;rw[Tb.aX]at J;cases I:G=q
    .rw[Wy I]at J;cases J;change kY cv t _ L q=_;unfold kY;rw[Wy #[z,by rw[<-I];simp]]
    .rw[Wx I]at J;rw[show(some G).toList=[G]from rfl,vb (λh=>I h.2.symm)];show ac L y (by rw[z];show am) q e J
   .rw[Wx z]at ad;rw[show(some G).toList=[G]from rfl,vb (λh=>z h.1)];show ac L a4 (by rw[Tb.bK L hx,Wx z];show ad) q e J
  .intro j;change Tb.look ((G,none)::y.t) j=_;rw[Tb.aX,U j,Oy,hp];cases z:G=j
   .rw[Wy z,Wy (by rw[<-z];simp)]
   .rw[Wx z];cases I:j∈(Rm.aP p m).take i
    .rw[Wy I,Wy (OB _ I)]
    .rw[Wx I,Wx (by simp[G0 z,I])]
 .rintro σ O ⟨v6,Y,y,rfl,R4,as,a0,ac,U,ap⟩;rw[qi,OS]at ac U;show q O Y y R4 as ac U ((R.j6 S3).trans ap)
end St
namespace Rm
theorem fZ{ad n:Int}{F:List Int}(h:¬ cD ad n F):(aD ad n).length<=64/\∀q∈aD ad n,q∈F:=by
 unfold aD;cases e:n=0
 .rw[Wy e];show#[Oc _,λ_ h=>nomatch h]
 .rw[Wx e];let G:0<n:=by
   have:¬ n<0:=λz=>h (.inl z);omega
  let h1:¬ br (dR ad) (dP ad n):=λz=>h (.inr #[G,.inl z]);let h2:∀q∈aP (dR ad) (dP ad n),q∈F:=OO λz=>h (.inr #[G,.inr z]);show#[?_,h2];unfold aP;rw[qi,PF];let J:¬ dR ad<0:=λz=>h1 (.inr (.inl z));let I:¬ 64<dR ad+dP ad n:=λz=>h1 (.inr (.inr z));omega
theorem yV{ad n:Int}{I G:List Int}(h:∀q,q∈I->q∈G)(F:cD ad n G):cD ad n I:=by
 rcases F with F|⟨h1,h2⟩
 .show .inl F
 .show .inr #[h1,h2.imp id λz y=>z λq J=>h q (y q J)]
end Rm
namespace St
open PySem L2
def dS(f:WE)(ps:List Int):List Int:=(ps.map f).flatten
theorem fY{f:WE}{ps:List Int}{i:Nat}{q:Int}(h:ps[i]?=some q):dS f (ps.take (i+1))=dS f (ps.take i)++f q:=by
 unfold dS;rw[Oy,h,N5,List.flatten_append];simp
theorem Bd.len{s:Pg.PS}{e:Pg.Ent}{cs:List Int}(G:Pg.Good s)(h:Pg.Bd s e cs):cs.length=8:=by
 cases e with
 |none=>rw[show cs=replicate 8 0 from h];simp
 |some k=>let#[c,h]:=h;show(G.vw h).2
def rZ(x:List (Int×Pg.Ent))(ps:List Int)(i:Nat)(s:Pg.PS):Prop:=∀j q k,i=j+1->ps[j]?=some q->Tb.look x q=some (some k)->∃m,s.pl k=some (true,m)
inductive oa(c:CA)(v:List V)(H:Hp)(Q:VK)(e:XK):Prop
 |mk(M:Wz)(a:RA)(s:Pg.PS)(W:cN)(cv:WA)(t ad:Int)(n:Nat)(x:TD)(_:v=[.ref a.rp,.int t,.int ad,.int n])(_:ax c H M a s W)(_:Pg.RI s (ents W))(_:Cv s W cv)(_:Tb.look W t=some x)(_:n<=600)(_:¬ Rm.cD ad n (x.t.map (·.1)))(_:∀(H':Hp)(M':Wz)(s':Pg.PS)(l:Addr),ax c H' M' a s' W->Pg.RI s' (ents W)->Cv s' W cv->Step H M (a.own W) H' M' (a.own W)->((∀b,(s'.ow b).length=(s.ow b).length)/\Pg.KB s s'/\rZ x.t (Rm.aD ad n) (Rm.aD ad n).length s')->H l=none->H' l=some (.lst ((((dS (cv t) (Rm.aD ad n)).drop (ad%8).toNat).take n).map V.int))->(∀o,ax c (upd H' l o) M' a s' W/\Step H M (a.own W) (upd H' l o) M' (a.own W))->Q (.ref l) H')
section
variable{c:CA}{H H':Hp}{M M' B:Wz}{a:RA}{s s':Pg.PS}{W:cN}{t:Int}{x y:TD}
theorem nameQ{i:Nat}{v:V}{σ:L2.St}{H:Hp}{Q:L2.St->Hp->Prop}(h:Q (σ.set i (some v)) H):rS i v σ H Q:=h
theorem ax.Nq(R:ax c H M a s W){l:Addr}{xs ys:List V}(G:H l=some (.lst xs))(F:M l)(no:¬ a.own W l):ax c (upd H l (.lst ys)) M a s W :=
 R.Cm (B:=(· = l)) (Off.wr rfl) (λb z=>by rw[z];show#[F,no]) (λb z=>.inl #[xs,by rw[z];show G]) (λb z=>.inl z) (λb z _=>z) (λb z e=>by
  cases q:b=l
  .rw[q,ae]at e;cases e
  .rw[aj q]at e;show R.mt b z e)
theorem ax.JU(R:ax c H M a s W){l:Addr}{o:HO}(F:H l=none):ax c (upd H l o) (λb=>M b\/b=l) a s W :=
 R.Cm (B:=λ_=>False) (λb u e _=>de F b u e id) (λb z=>z.elim) (λb z=>z.elim) (λb z=>z.elim .inl λz=>.inr (by rw[z];show F)) (λb z _=>.inl z) (λb z e=>by
  cases q:b=l
  .rw[q,ae]at e;cases e
  .rw[aj q]at e;show z.elim (λz=>R.mt b z e) q)
theorem dB.keys(T:dB c.T H x)(q:Int):q∈x.t.map (·.1)↔Tb.look x.t q≠none:=by
 constructor
 .intro h e;show Tb.cp e h
 .intro h;cases e:Tb.look x.t q with
  |none=>show absurd e h
  |some v=>show IF.mpr #[_,Tb.aC e,rfl]
theorem tY:aA ["self","task","address","many","table","whole","page","entry"] ["self","task","address","many"] (aq uv):=L2.bC
theorem C0{c:CA}(F:cj K "peek" "Rooms.peek" uv f fd)(T:lT K mg c)(TT:Tb.Txt K mg c.T)(TP:qF K mg c.P)(GR:↥Df 1 "room_of" cM)(GO:↥Df 2 "pages_of_cells" Rm.jM)(b4:↥Df 1 "run_within" Rm.oQ)(bH:↥Md 1 c.T "pages" (Tb.dA c.T))(GG:↥Md 3 c.T "get" (Tb.qt c.T))(ca:↥Md 7 c.P "fetch" (nY c.P c.S))(E8:↥Md 5 c.C "cells_of" (jz c)):↥aN 8 f fd ["self","task","address","many"] (oa c):=by
 let#[aB,mB,sB]:=T.bl;let rB:RelV (.ref aB) (.ref aB):=rfl;show F.dE tY (λcg A outer s H vs Q E Y h=>?_);let#[M,a,s',W,cv,t,ad,n,x,rfl,R,ri,bm,hx,n6,hb,q]:=h;let hs:=vl;let#[dx,ho]:=R.ob;let TX:=R.tb _ (Tb.aC hx);let#[c1,c2]:=Rm.fZ hb;show#[_,(ai (cQ 4 tY.nd (pc GR Y aw (aa (aH (pv 0) rfl) (aa (pv 1) ag))))
  (ai (cQ 5 tY.nd (bE ag))
  (ai (cA C4 rfl (cK (pc GO Y aw (aa (lU (pv 4) TT.cl bH Y aw) (aa (pv 2) (aa (pv 3) ag))))) (gH 6 tY.nd) (ai (cQ 7 tY.nd (pm (pv 4) TT.cl GG Y aw (aa (pv 6) ag)))
  (ai (bj (az (uL Y.gj) (pv 7) (bG (by rfl) mB rB) (aF _)) (ao (aQ (pm (aH (pv 0) rfl) TP.cl ca Y aw (aa (aM aK (pv 7) ah bX) ag)))) aI)
  (ao (aQ (gU OE Qc SS qW (pv 5) (aa (pm (pv 0) T.cl E8 Y aw (aa (pv 7) ag)) ag)))))))
  (ao (aJ (pc b4 Y aw (aa (pv 5) (aa (pv 2) (aa (pv 3) ag))))))))),?_]
 show#[0,a.rp,c.C,dx,_,0,ho,T.cl,T.nR,cH _ _ _,0,a.rd,W,t,x,rfl,R.hd,hx,?_];show#[ar,λG ab=>?_];let R1:=R.JU (o:=.lst []) ab;let s1:aR H (upd H G (.lst [])):=Tb.au ab;let bd:upd H G (.lst []) G=some (.lst []):=ae;generalize upd H G (.lst [])=H1 at *;let a6:¬ a.own W G:=λz=>R.mt _ (R.eU _ z) ab;let bb:=R1.tb _ (Tb.aC hx);let#[b6,ht]:=bb.at_.ob;show#[0,x.p,b6,0,ht,Tb.aV _ ak,x.p,x.fs,x.tb,rfl,bb.at_,λH2 l2 ns s2 ch bz pm ce=>?_];let bi:∀{z},z∈x.t.map (·.1)->z∈ns:=λ{z} h=>(TX.mem pm z).mpr ((TX.keys z).mp h);show#[0,0,l2,ns,ad,n,rfl,bz,λh=>hb (Rm.yV (λz hz=>bi hz) h),λH3 l3 s3 bx a5=>?_];let S3:=s2.trans s3;let R3:=R1.same S3;let bI:=S3 _ _ bd;let a2:H1 l3=none:=s2.free bx;let b8:¬ a.own W l3:=λz=>R1.mt _ (R1.eU _ z) a2;let b2:l3≠G:=λz=>(by rwa[z,bd]at a2);show#[l3,rfl,#[_,bq.of a5],?_];show cq (K:=K) (a:=l3) (xs:=(Rm.aD ad n).map V.int) (λi σ H4=>Mz λ(v6 v7:Option V)(I:Pg.PS)=>Ll (σ=#v[.ref a.rp,.int t,.int ad,.int n,.ref x.p,.ref G,v6,v7]) (ax c H4 (λb=>M b\/b=G) a I W) (Pg.RI I (ents W)) (Cv I W cv) (H4 G=some (.lst ((dS (cv t) ((Rm.aD ad n).take i)).map V.int))) ((dS (cv t) ((Rm.aD ad n).take i)).length=8*i) (Off (λb=>a.own W b\/b=G) H3 H4) ((∀b,(I.ow b).length=(s'.ow b).length)/\Pg.KB s' I/\rZ x.t (Rm.aD ad n) i I))
  #[2,s',rfl,R3,ri,bm,bI,rfl,λ_ _ e _=>e,λ_=>rfl,Pg.KB.refl,λ_ _ _ h=>(by cases h)] (λi σ H4 _ z0=>by let#[_,_,_,_,_,_,_,_,_,O,_]:=z0;show bq.of (O _ _ a5 λz=>z.elim b8 b2)) ?_ ?_
 .rintro i u σ H4 hu ⟨v6,v7,I,rfl,R4,L,as,ap,b1,O,ac⟩;rw[vu]at hu;let#[p,hp,rfl]:=t5.mp hu;let b5:=vh hp;let#[hi,ci]:=qc.mp hp;let T4:=R4.tb _ (Tb.aC hx);let#[b3,b0]:=T4.at_.ob;obtain⟨e,he⟩:∃e,Tb.look x.t p=some e:=by
   cases z:Tb.look x.t p with
   |none=>show absurd z ((TX.keys p).mp (c2 p b5))
   |some e=>show#[e,rfl]
  show#[0,x.p,b3,0,b0,Tb.aV _ ak,0,x.p,x.fs,x.tb,p,rfl,T4.at_,λH5 v N hv=>?_];rw[T4.lk,he]at hv;let#[tt,rfl,am]:=hv;let U:=R4.same N;let a4:=N _ _ ap;show nameQ ?_;dsimp only;show share (λσ H6=>∃J:Pg.PS,Ll (σ=#v[.ref a.rp,.int t,.int ad,.int n,.ref x.p,.ref G,.int p,.ref tt]) (ax c H6 (λb=>M b\/b=G) a J W) (Pg.RI J (ents W)) (Cv J W cv) (H6 tt=some (.tup (AZ e))) (H6 G=some (.lst ((dS (cv t) ((Rm.aD ad n).take i)).map V.int))) (Off (λb=>a.own W b\/b=G) H3 H6) ((∀b,(J.ow b).length=(s'.ow b).length)/\Pg.KB s' J/\∀k,e=some k->∃m,J.pl k=some (true,m))) (λu' a8=>?A) ?B
  case A =>
   show#[0,tt,aB,_,0,rfl,bL.of am,j4.sq (.inr sB),?_];cases e with
   |none =>
    show#[1,0,b9 ?_];show a8 _ _ #[I,rfl,U,L,as,am,a4,λb o e z=>N _ _ (O b o e z),ac.1,ac.2.1,λ_ h=>(by cases h)]
   |some k =>
    show#[1,0,eg ?_];let#[bv,b7]:=U.ob;let#[a0,bn]:=U.pg.ob;let#[cs,cc,hv]:=L.is k (lL hx he);show#[0,a.rp,c.C,bv,_,0,b7,T.cl,T.nP,nc _ _ _,a.A.pg,a0,0,bn,cR _ _ ak ak ak ak ak,0,tt,_,(1),0,rfl,bL.of am,5,a.A,I,k,cs,cc,rfl,U.Lw L,hv,λH6 J fe G6 O6=>?_];let FF:=Pg.m7 L.good fe;show a8 _ _ #[J,rfl,U.mR G6 O6 FF.kept.ln,L.FX fe,as.keep (Pg.xY L.good fe),O6 _ _ am (U.pg.iH _ _ am),O6 _ _ a4 (λz=>a6 (.inl z)),λb o e z=>O6 _ _ (N _ _ (O b o e z)) (λy=>z (.inl (.inl y))),λb=>(FF.kept.ln b).trans (ac.1 b),ac.2.1.trans (Pg.JZ L.good fe),λk' h=>by cases h;show FF.fr]
  case B =>
   rintro σ H6 ⟨J,rfl,R6,aT,ba,bf,bc,o6,a1⟩;let#[a0,bY]:=R6.ob;let a7:=ba t x hx p e he;let c8:=Bd.len aT.good a7;show#[0,.inl #[5,bq.of bc],0,a.rp,a0,0,bY,dZ _ _ _ ak ak ak,0,_,a,J,W,tt,e,cv t p,rfl,R6,aT.good,bf,a7,λH7 l7 s7 f7 h7=>?_];let R7:=R6.same s7;let be:=s7 _ _ bc;show#[G,l7,_,0,rfl,be,h7,by rw[qi,qi];omega,?_];rw[<-N5, <-fY hp];show#[2,J,rfl,R7.Nq be (.inr rfl) a6,aT,ba,ae,by rw[fY hp,y3];omega,λb o e z=>by rw[aj (λy=>z (.inr y))];show s7 _ _ (o6 b o e z),a1.1,a1.2.1,λj q k hj hq hk=>by
    have:j=i:=af;subst this;rwa[hp]at hq;rwa[he]at hk;show a1.2.2 k rfl]
 .rintro σ H4 ⟨v6,v7,I,rfl,R4,L,as,ap,b1,O,ac⟩;rw[qi,OS]at ap;show#[0,0,0,G,_,ad,n,rfl,ap,λH5 l5 N a3 bJ=>?_];let U:=R4.same N;let oA:Off (a.own W) H H5:=λb o e z=>N _ _ (O _ _ (S3 _ _ (s1 _ _ e)) λy=>y.elim z λy=>by rwa[y,ab]at e);let so:∀o,aR H4 (upd H5 l5 o):=λo b u e=>(by rw[aj (av e a3)];show N _ _ e);let oB:∀{Hx},aR H4 Hx->Off (a.own W) H Hx:=λsx b o e z=>sx _ _ (O _ _ (S3 _ _ (s1 _ _ e)) λy=>y.elim z λy=>by rwa[y,ab]at e);show q H5 _ I l5 U L as #[oA,λb z _=>.inl z,λb z=>z.elim .inl λz=>.inr (by rw[z];show ab),λb z=>.inl z,R.mt,R.eU] (by rw[qi]at ac;show ac) ?_ bJ λo=>#[R4.same (so o),oB (so o),λb z _=>.inl z,λb z=>z.elim .inl λz=>.inr (by rw[z];show ab),λb z=>.inl z,R.mt,R.eU];cases z:H l5 with
  |none=>rfl
  |some o =>
   exfalso;cases w:a.own W l5
   .show R4.mt _ (R4.eU _ w) a3
   .have:=O _ _ (S3 _ _ (s1 _ _ z)) λy=>y.elim w λy=>(by rwa[y,ab]at z);rwa[a3]at this
end
end St
namespace Rm
theorem yO{ad:Int}{cs ws:List Int}{L:List Int}(h:¬ cD ad cs.length L)(F:ws.length=8*(aD ad cs.length).length):(fQ ws (ad%8).toNat cs).length=8*(aD ad cs.length).length:=by
 unfold fQ;rw[y3,y3,Oz,P1];cases e:((cs.length:Nat):Int)=0
 .have:aD ad cs.length=[]:=(by unfold aD;rw[Wy e]);rw[this]at F ⊢;let N:ws.length=0:=F;let I:cs.length=0:=af;rw[N,I];simp
 .let G:(aD ad cs.length).length=(dP ad cs.length).toNat:=by
   unfold aD;rw[Wx e];unfold aP;rw[qi,PF]
  let J:0<((cs.length:Nat):Int):=af;let h1:¬ br (dR ad) (dP ad cs.length):=λz=>h (.inr #[J,.inl z]);let h2:¬ dP ad cs.length<1:=λz=>h1 (.inl z);rw[G]at F ⊢;unfold dP at *;omega
theorem GQ{k:Nat}{ws:List Int}(h:ws.length=8*k):∀z∈jq k ws,z.length=8:=by
 intro z F;unfold jq at F;let#[i,hi,rfl]:=IF.mp F;have:=Q1.mp hi;rw[Oz,P1,h];omega
end Rm
namespace St
open PySem L2
def iX(cv:WA)(t:Int)(l:List (Int×List Int)):Int->Int->List Int:=λt' q=>if t'=t then(Tb.look l q).getD (cv t' q)else cv t' q
theorem xH{cv:WA}{t:Int}:iX cv t []=cv:=by
 funext t' q;unfold iX;cases z:t'=t
 .rw[Wy z];rfl
 .rw[Wx z]
theorem vO{cv:WA}{t t' q:Int}{l:List (Int×List Int)}{p:Int}{r:List Int}:iX cv t ((p,r)::l) t' q=if t'=t/\q=p then r else iX cv t l t' q:=by
 unfold iX;cases z:t'=t
 .rw[Wy z,Wy z,Tb.aX];cases F:p=q
  .rw[Wy F,Wy #[z,F.symm]];rfl
  .rw[Wx F,Wx (λh=>F h.2.symm)]
 .rw[Wx z,Wx z,Wx (λh=>z h.1)]
def yq(f:WE)(ad:Int)(cs:List Int):List (List Int):=Rm.jq (Rm.aD ad cs.length).length (Rm.fQ (dS f (Rm.aD ad cs.length)) (ad%8).toNat cs)
def Ij(y:List (Int×Pg.Ent))(ps:List Int)(s:Pg.PS):Prop:=(0:Int)∈s.ow true->∀q∈ps,∀k,Tb.look y q=some (some k)->∃m,s.pl k=some (true,m)
inductive ud(K:DD)(c:CA)(v:List V)(H:Hp)(Q:VK)(e:XK):Prop
 |mk(M:Wz)(a:RA)(s:Pg.PS)(W:cN)(cv:WA)(t ad:Int)(ca:Addr)(cs:List Int)(x:TD)(_:v=[.ref a.rp,.int t,.int ad,.ref ca])(_:ax c H M a s W)(_:Pg.RI s (ents W))(_:Cv s W cv)(_:Tb.look W t=some x)(_:bq K H ca (cs.map V.int))(_:cs.length<=500)(_:¬ Rm.cD ad cs.length (x.t.map (·.1)))(_:∀(H':Hp)(M':Wz)(s':Pg.PS)(y:TD),ax c H' M' a s' (Tb.a9 W t y)->Pg.RI s' (ents (Tb.a9 W t y))->Cv s' (Tb.a9 W t y) (iX cv t (((Rm.aD ad cs.length).zip (yq (cv t) ad cs)).reverse))->(∀q,¬ q∈Rm.aD ad cs.length->Tb.look y.t q=Tb.look x.t q)->(∀q∈Rm.aD ad cs.length,∃k,Tb.look y.t q=some (some k)/\(ents (Tb.a9 W t y)).count (some k)=1)->Step H M (a.own W) H' M' (a.own (Tb.a9 W t y))->((∀b,(s'.ow b).length=(s.ow b).length)/\Pg.KB s s'/\Ij y.t (Rm.aD ad cs.length) s'/\rZ y.t (Rm.aD ad cs.length) (Rm.aD ad cs.length).length s')->Q .non H')
theorem tF(ad n:Int):(Rm.aD ad n).Nodup:=by
 unfold Rm.aD;cases e:n=0
 .rw[Wy e];show Pu
 .rw[Wx e];show rL _ _
theorem mV{α z:Type}{F:α->z->Prop}:∀{xs:List α}{ys:List z}{i:Nat}{x:α},Paired F xs ys->xs[i]?=some x->∃y,ys[i]?=some y/\F x y
 |_,_,_,_,.nil,e=>by simp at e
 |_,_,0,_,.cons r _,e=>by simp at e;subst e;show#[0,r]
 |_,_,i+1,x,.cons _ t,e=>by
  let#[u,h1,h2]:=mV (i:=i) (x:=x) t ‹e›;show#[u,by simpa using h1,h2]
theorem lY:aA ["self","task","address","cells","table","pages","whole","page","changed"] ["self","task","address","cells"] (aq tq):=L2.bC
theorem Dk{c:CA}(F:cj K "poke" "Rooms.poke" tq f fd)(T:lT K mg c)(TT:Tb.Txt K mg c.T)(GR:↥Df 1 "room_of" cM)(GO:↥Df 2 "pages_of_cells" Rm.jM)(ej:↥Df 1 "pages_with" (Rm.xV K))(ee:↥Md 1 c.T "pages" (Tb.dA c.T))(GG:↥Md 3 c.T "get" (Tb.qt c.T))(GL:↥Md 3 c.T "lay" (Tb.wa K c.T))(E8:↥Md 5 c.C "cells_of" (jz c))(c6:↥Md 9 c.C "sheet_with" (jg c)):↥aN 10 f fd ["self","task","address","cells"] (ud K c):=by
 show F.dE lY (λem A outer s H vs Q E Y h=>?_);let#[M,a,s',W,cv,t,ad,ca,cs,x,rfl,R,ri,bI,hx,bx,n6,hb,q]:=h;let hs:=vl;let#[dx,ho]:=R.ob;let TX:=R.tb _ (Tb.aC hx);let#[ef,ht]:=TX.at_.ob;let#[c1,c2]:=Rm.fZ hb;show#[_,(ai (cQ 4 lY.nd (pc GR Y aw (aa (aH (pv 0) rfl) (aa (pv 1) ag))))
  (ai (cQ 5 lY.nd (pc GO Y aw (aa (lU (pv 4) TT.cl ee Y aw) (aa (pv 2) (aa (aO bB (by rfl) T.len boot_len (aa (pv 3) ag)) ag)))))
  (ai (cQ 6 lY.nd (bE ag))
  (ai (cA C4 rfl (cK (pv 5)) (gH 7 lY.nd) (ao (aQ (gU OE Qc SS qW (pv 6) (aa (pm (pv 0) T.cl E8 Y aw (aa (pm (pv 4) TT.cl GG Y aw (aa (pv 7) ag)) ag)) ag)))))
  (ao (cA C4 rfl (Hm (by rfl) T.zip (aa (pv 5) (aa (pc ej Y aw (aa (pv 6) (aa (pv 2) (aa (pv 3) ag)))) ag))) (iR rfl (bF (gH 7 lY.nd) (bF (gH 8 lY.nd) gF))) (ao (aQ (pm (pv 4) TT.cl GL Y aw (aa (pv 7) (aa (cI (aa aS (aa (pm (pv 0) T.cl c6 Y aw (aa (pm (pv 4) TT.cl GG Y aw (aa (pv 7) ag)) (aa (pv 8) ag))) ag))) ag))))))))))),?_]
 show#[0,a.rp,c.C,dx,_,0,ho,T.cl,T.nR,cH _ _ _,0,a.rd,W,t,x,rfl,R.hd,hx,?_];show#[0,x.p,ef,0,ht,Tb.aV _ ak,x.p,x.fs,x.tb,rfl,TX.at_,λH1 l1 ns s1 ep ei pm eo=>?_];let bi:∀{z},z∈x.t.map (·.1)->z∈ns:=λ{z} h=>(TX.mem pm z).mpr ((TX.keys z).mp h);show#[0,0,ca,0,.inl (Rm.gn bx (s1 _)),l1,ns,ad,cs.length,by rw[qi];rfl,ei,λh=>hb (Rm.yV (λz hz=>bi hz) h),λH2 l2 s2 dr bn=>?_];generalize eP:Rm.aD ad cs.length=ps at *;let dn:ps.Nodup:=(by rw[<-eP];show tF _ _);let S2:=s1.trans s2;let R2:=R.same S2;show#[ar,λG ba=>?_];let R3:=R2.JU (o:=.lst []) ba;let s3:aR H2 (upd H2 G (.lst [])):=Tb.au ba;let c0:upd H2 G (.lst []) G=some (.lst []):=ae;generalize upd H2 G (.lst [])=H3 at *;let bb:H G=none:=S2.free ba;let dp:¬ a.own W G:=λz=>R.mt _ (R.eU _ z) bb;let bd:=s3 _ _ bn;let c3:H l2=none:=s1.free dr;let db:¬ a.own W l2:=λz=>R.mt _ (R.eU _ z) c3;let b1:l2≠G:=λz=>(by rwa[z,ba]at bn);let b3:∀p∈ps,∃e,Tb.look x.t p=some e:=λp a4=>by
  cases z:Tb.look x.t p with
  |none=>show absurd z ((TX.keys p).mp (c2 p a4))
  |some e=>show#[e,rfl]
 show#[0,l2,rfl,#[_,bq.of bd],?_];show cq (K:=K) (a:=l2) (xs:=ps.map V.int) (λi σ H4=>∃v7:Option V,Jh (σ=#v[.ref a.rp,.int t,.int ad,.ref ca,.ref x.p,.ref l2,.ref G,v7,none]) (ax c H4 (λb=>M b\/b=G) a s' W) (H4 G=some (.lst ((dS (cv t) (ps.take i)).map V.int))) ((dS (cv t) (ps.take i)).length=8*i) (Off (· = G) H3 H4))
  #[0,R3,c0,rfl,λ_ _ e _=>e] (λi σ H4 _ z0=>by let#[_,_,_,_,_,o4]:=z0;show bq.of (o4 _ _ bd b1)) ?_ ?_
 .rintro i u σ H4 hu ⟨v7,rfl,R4,a2,a7,o4⟩;rw[vu]at hu;let#[p,L,rfl]:=t5.mp hu;let a4:=vh L;let#[hi,ec]:=qc.mp L;let T4:=R4.tb _ (Tb.aC hx);let#[dV,dm]:=T4.at_.ob;let#[cT,dI]:=R4.ob;let#[e,he]:=b3 p a4;let b7:=bI t x hx p e he;let c8:=Bd.len ri.good b7;show#[0,.inl #[5,bq.of a2],0,a.rp,cT,0,dI,dZ _ _ _ ak ak ak,0,x.p,dV,0,dm,Tb.aV _ ak,0,x.p,x.fs,x.tb,p,rfl,T4.at_,λH5 v s5 hv=>?_];rw[T4.lk,he]at hv;let#[tt,rfl,bf]:=hv;show#[_,a,s',W,tt,e,cv t p,rfl,R4.same s5,ri.good,bf,b7,λH7 l7 s7 f7 h7=>?_];let S7:=s5.trans s7;let R7:=R4.same S7;let cr:=S7 _ _ a2;show#[G,l7,_,0,rfl,cr,h7,by rw[qi,qi];omega,?_];rw[<-N5, <-fY L];show#[0,R7.Nq cr (.inr rfl) dp,ae,by rw[fY L,y3];omega,λb o e z=>by rw[aj z];show S7 _ _ (o4 b o e z)]
 .rintro σ H4 ⟨v7,rfl,R4,a2,a7,o4⟩;rw[qi,OS]at a2 a7;let dH:bq K H4 ca (cs.map V.int):=Rm.gn bx λo e=>o4 _ _ (s3 _ _ (S2 _ _ e)) (λz=>by rwa[z,bb]at e);let d0:=o4 _ _ bd b1;let bl:=Rm.yO hb (ws:=dS (cv t) ps) (by rw[eP];show a7);rw[eP]at bl;show#[0,0,0,0,G,ca,_,cs,ad,ps.length,rfl,a2,dH,by rw[a7];omega,af,c1,bl,λH5 l5 rs s5 d7 bH a6 dl en=>?_];let R5:=R4.same s5;let b2:=s5 _ _ d0;let cg:rs.length=ps.length:=by
   rw[a6.length];unfold Rm.jq;rw[qi,PF]
  let h8:=Rm.GQ bl;generalize eC:Rm.jq ps.length (Rm.fQ (dS (cv t) ps) (ad%8).toNat cs)=ch at a6 h8;let c4:ch.length=ps.length:=(by rw[<-a6.length,cg]);let d6:yq (cv t) ad cs=ch:=(by unfold yq;rw[eP];show eC);let dd:Step H M (a.own W) H5 (λb=>M b\/b=G) (a.own W):=#[λb o e z=>s5 _ _ (o4 _ _ (s3 _ _ (S2 _ _ e)) (λy=>by rwa[y,bb]at e)),λb z _=>.inl z,λb z=>z.elim .inl λz=>.inr (by rw[z];show bb),λb z=>.inl z,R.mt,R.eU];let bJ:∀r∈rs,¬ (M r\/r=G):=λr Y z=>R4.mt r z (dl r Y);let cS:∀{l},H4 l=none->¬ a.own W l:=λh z=>R4.mt _ (R4.eU _ z) h;show#[l2,l5,rfl,#[_,bq.of b2],#[_,bq.of bH],?_];show Fo (K:=K) (a:=l2) (b:=l5) (xs:=ps.map V.int) (ys:=rs.map V.ref) (λi σ H6=>Es λ(v7 v8:Option V)(M6:Wz)(S:Pg.PS)(y:TD)=>Ll (σ=#v[.ref a.rp,.int t,.int ad,.ref ca,.ref y.p,.ref l2,.ref G,v7,v8]) (ax c H6 M6 a S (Tb.a9 W t y)) (Pg.RI S (ents (Tb.a9 W t y))) (Cv S (Tb.a9 W t y) (iX cv t (((ps.zip ch).take i).reverse))) ((∀q,¬ q∈ps.take i->Tb.look y.t q=Tb.look x.t q)) ((∀q∈ps.take i,∃k,Tb.look y.t q=some (some k)/\(ents (Tb.a9 W t y)).count (some k)=1)) (Step H5 (λb=>M b\/b=G) (a.own W) H6 M6 (a.own (Tb.a9 W t y))) ((∀b,(S.ow b).length=(s'.ow b).length)/\Pg.KB s' S/\Ij y.t (ps.take i) S/\rZ y.t ps i S))
   #[2,_,s',x,rfl,by rw[cV R.nd hx];show R5,by rw[cV R.nd hx];show ri,by rw[cV R.nd hx,UW];change Cv s' W (iX cv t []);rw[xH];show bI,λ_ _=>rfl,λq I=>by simp at I,by rw[cV R.nd hx];show R5.refl,λ_=>rfl,Pg.KB.refl,λ_ q I=>(by simp at I),λ_ _ _ h=>(by cases h)] (by rw[qi,qi,cg]) (λi σ H6 _ z0=>by
    let#[_,_,_,_,_,_,_,_,_,_,_,st,_]:=z0;show#[bq.of (st.off _ _ b2 db),bq.of (st.off _ _ bH (cS d7))]) ?_ ?_
  .rintro i u v σ H6 z hu hv hz ⟨v7,v8,M6,S,y,rfl,R6,be,a5,aT,a8,a0,aB⟩;rw[vu]at hu hv;let#[p,L,rfl]:=t5.mp hu;let#[r,ce,rfl]:=t5.mp hv;let ck:r∈rs:=vh ce;let a4:=vh L;let#[hi,ec]:=qc.mp L;let#[ac,ci,b6]:=mV a6 ce;let d8:=h8 ac (vh ci);let d4:¬ p∈ps.take i:=λz=>by
    let#[j,J,e]:=Rb z;rw[RS]at e;rw[Oz]at J;show wD dn j i (M4 af) L af e
   let ek:=a0.off _ _ b6 (λw=>bJ r ck (R5.eU _ w));let c9:¬ M6 r:=λw=>(a0.mn r w).elim (bJ r ck) λw=>(by rwa[b6]at w);let sT:=Tb.au (X:=.tup [.int p,.ref r]) hz;show#[z,[.int p,.ref r],rfl,bL.of ae,rfl,.int p,[.ref r],rfl,.ref r,[],1,?_];let R7:=R6.same sT;let S7:=a0.trans (R6.j6 sT);let da:=sT _ _ ek;generalize upd H6 z (.tup [.int p,.ref r])=H7 at *;let am:=jV (y:=y) hx;let T7:=R7.tb _ (Tb.aC am);let#[b0,cc]:=T7.at_.ob;let#[el,dO]:=R7.ob;let#[e,cw]:=b3 p a4;let he:Tb.look y.t p=some e:=(aT p d4).trans cw;show#[0,y.p,b0,0,cc,Tb.aV _ ak,0,0,a.rp,el,0,dO,dZ _ _ _ ak ak ak,0,y.p,b0,0,cc,Tb.aV _ ak,0,y.p,y.fs,y.tb,p,rfl,T7.at_,λH8 v s8 hv=>?_];rw[T7.lk,he]at hv;let#[tt,rfl,bf]:=hv;let R8:=R7.same s8;let S8:=S7.trans (R7.j6 s8);let pe:(ents (Tb.a9 W t y)).Perm (e::(kW (Tb.bp y.t p)++ents (Tb.bp (Tb.a9 W t y) t))):=(gh R7.nd am).trans ((vi T7.nd he).append_right _);show#[0,M6,a,S,Tb.a9 W t y,tt,r,e,_,ac,rfl,R8,be.perm pe,bf,s8 _ _ da,c9,d8,λH9 s9 k R9 eb cz bz dj c7 as=>?_];show#[fG,λu fu=>?_];let sU:=Tb.au (X:=.tup [.str "sheet",.int k]) fu;let bv:=R9.same sU;let c5:=(S8.trans c7).trans (R9.j6 sU);let d3:upd H9 u (.tup [.str "sheet",.int k]) u=some (.tup [.str "sheet",.int k]):=ae;let dL:=bv.tb _ (Tb.aC am);let#[g1,g2]:=TX.pg (q:=p) (by rw[cw];simp);show#[y.p,y.fs,u,y.tb,p,[.str "sheet",.int k],rfl,dL.at_,g1,g2,.inl d3,rfl,λdM a3 ea d5 bY b8=>?_];let TI:dB c.T dM #[y.p,y.fs,a3,(p,some k)::Tb.bp y.t p]:=#[ea,Tb.HP T7.nd,λj=>by
    rw[d5 j,Tb.gZ];cases w:j=p
    .rw[Wy w,Wy w];rfl
    .rw[Wx w,Wx w];show T7.lk j]
   let b5:=bv.yL (y:=#[y.p,y.fs,a3,(p,some k)::Tb.bp y.t p]) am rfl TI bY b8;let b4:=c5.trans (bv.sf (y:=#[y.p,y.fs,a3,(p,some k)::Tb.bp y.t p]) am bY b8);let bc:=B3 (y:=#[y.p,y.fs,a3,(p,some k)::Tb.bp y.t p]) (e:=some k) (q:=p) R7.nd am rfl;rw[set_set]at b5 b4 bc;let cP:(ps.zip ch)[i]?=some (p,ac):=by
    rw[List.getElem?_zip_eq_some];show#[L,ci]
   show#[2,_,s9,#[y.p,y.fs,a3,(p,some k)::Tb.bp y.t p],rfl,b5,eb.perm bc.symm,3,?_,b4,λb=>(as.1 b).trans (aB.1 b),aB.2.1.trans as.2.1,λz q I O N=>?_,λj q O J I N=>?_]
   .intro ap bm a1 q U ab;rw[Oy,cP,show(some (p,ac)).toList=[(p,ac)]from rfl,Q8,show([(p,ac)]:List (Int×List Int)).reverse=[(p,ac)]from rfl,List.singleton_append,vO];rw[Tb.bK ap hx]at a1;let cC:∀{U},U∈kW (Tb.bp y.t p)\/U∈ents (Tb.bp (Tb.a9 W t y) t)->U∈kW (Tb.bp y.t p)++ents (Tb.bp (Tb.a9 W t y) t):=λh=>t4.mpr h;cases w:ap=t
    .rw[Wy w]at a1;cases a1;let ab:Tb.look ((p,some k)::Tb.bp y.t p) q=some U:=ab;rw[Tb.gZ]at ab;cases w2:q=p
     .rw[Wy w2]at ab;cases ab;rw[Wy #[w,w2]];show dj
     .rw[Wx w2]at ab;rw[Wx (λh=>w2 h.2)];show bz U (cC (.inl ?_)) _ (a5 ap y (by rw[w];show am) q U ab);show IF.mpr #[(q,U),Tb.kI (Tb.aC ab) w2,rfl]
    .rw[Wx w]at a1;rw[Wx (λh=>w h.1)];let h2:Tb.look (Tb.a9 W t y) ap=some bm:=(by rw[Tb.bK ap hx,Wx w];show a1);show bz U (cC (.inr ?_)) _ (a5 ap bm h2 q U ab);show QI.mpr #[(ap,bm),Tb.kI (Tb.aC h2) w,IF.mpr #[(q,U),Tb.aC ab,rfl]]
   .intro j J;rw[Oy,L]at J;let w:j≠p:=λw=>J (by rw[w];simp);change Tb.look ((p,some k)::Tb.bp y.t p) j=_;rw[Tb.gZ,Wx w];show aT j λh=>J (OB _ h)
   .intro j J;change ∃O,Tb.look ((p,some k)::Tb.bp y.t p) j=some (some O)/\_;rw[Tb.gZ];cases w:j=p
    .rw[Wy w];show#[k,rfl,by rw[bc.count_eq,RE,Sl.mpr cz]]
    .rw[Wx w];rw[Oy,L]at J;rcases t4.mp J with J|J
     .let#[O,h1,h2]:=a8 j J;let m:some O∈kW (Tb.bp y.t p)++ents (Tb.bp (Tb.a9 W t y) t):=OB _ (IF.mpr #[(j,some O),Tb.kI (Tb.aC h1) w,rfl]);show#[O,h1,?_];rw[pe.count_eq,Vl]at h2;rw[bc.count_eq,Rf (a:=some O) (b:=some k) (λq=>cz (by rw[q];show m))];have:=Oe.mpr m;omega
     .show absurd ‹J› w
   .let N:Tb.look ((p,some k)::Tb.bp y.t p) q=some (some O):=N;rw[Tb.gZ]at N;cases w:q=p
    .rw[Wy w]at N;cases N;show as.2.2
    .rw[Wx w]at N;rw[Oy,L]at I;rcases t4.mp I with I|I
     .show(as.2.1 z).2 O (aB.2.2.1 (as.2.1 z).1 q I O N)
     .show absurd ‹I› w
   .have:j=i:=af;subst this;rwa[L]at I;let N:Tb.look ((p,some k)::Tb.bp y.t p) p=some (some O):=N;rwa[Tb.gZ,Wy rfl]at N;show as.2.2
  .rintro σ H6 ⟨v7,v8,M6,S,y,rfl,R6,be,a5,aT,a8,a0,aB⟩;rw[qi,OS]at aT a8 aB;rw[qi,ON (by rw[List.length_zip,c4];omega), <-d6]at a5;show q H6 M6 S y R6 be a5 aT a8 (dd.trans a0) aB
def BJ(cv:WA)(t o:Int):Int->Int->List Int:=λt' q=>if t'=o then cv t q else cv t' q
inductive tX(c:CA)(v:List V)(H:Hp)(Q:VK)(e:XK):Prop
 |mk(M:Wz)(a:RA)(s:Pg.PS)(W:cN)(cv:WA)(t o:Int)(x:TD)(_:v=[.ref a.rp,.int t,.int o])(_:ax c H M a s W)(_:Pg.RI s (ents W))(_:Cv s W cv)(_:W.length<=1000)(_:Tb.look W t=some x)(_:Tb.look W o=none)(_:(ents W).length+x.t.length<=mO s)(_:∀(H':Hp)(M':Wz)(s':Pg.PS)(y:TD),(∀q,Tb.look y.t q=Tb.look x.t q)->ax c H' M' a s' (W++[(o,y)])->Pg.RI s' (ents (W++[(o,y)]))->Cv s' (W++[(o,y)]) (BJ cv t o)->Step H M (a.own W) H' M' (a.own (W++[(o,y)]))->((∀b,(s'.ow b).length=(s.ow b).length)/\Pg.Up s s')->Q .non H')
theorem pq(W:cN)(o:Int)(y:TD):ents (W++[(o,y)])=ents W++kW y.t:=by
 unfold ents;rw[Sj];simp
theorem pJ:aA ["self","task","other","table","pages","copied","page","entry"] ["self","task","other"] (aq tj):=L2.bC
theorem Dn{f fI:Addr}{fd dI:qw}{c:CA}(F:cj K "copy" "Rooms.copy" tj f fd)(T:lT K mg c)(TT:Tb.Txt K mg c.T)(TP:qF K mg c.P)(MK:Mk K c.T fI)(cz:mg "Table" = some (.ref c.T))(GR:↥Df 1 "room_of" cM)(GS:↥Df 1 "refuse_second_room" jy)(GA:↥Df 1 "refuse_above" nJ)(GI:↥aN 1 fI dI ["self"] (Tb.jb c.T))(bI:Binds K dI ["self"] [])(c4:↥Md 1 c.T "pages" (Tb.dA c.T))(GH:↥Md 2 c.C "held" (gc c))(GG:↥Md 3 c.T "get" (Tb.qt c.T))(GL:↥Md 3 c.T "lay" (Tb.wa K c.T))(b4:↥Md 4 c.P "share" (sC c.P c.S)):↥aN 5 f fd ["self","task","other"] (tX c):=by
 let#[aB,mB,sB]:=T.bl;let rB:RelV (.ref aB) (.ref aB):=rfl;show F.dE pJ (λdj A outer s H vs Q E L h=>?_);let#[M,a,s',W,cv,t,o,x,rfl,R,ri,b7,lw,hx,a4,b1,q]:=h;let hs:=vl;let#[dx,ho]:=R.ob;let TX:=R.tb _ (Tb.aC hx);let#[c6,ht]:=TX.at_.ob;show#[_,(ai (cQ 3 pJ.nd (pc GR L aw (aa (aH (pv 0) rfl) (aa (pv 1) ag))))
  (ai (aQ (pc GS L aw (aa (aH (pv 0) rfl) (aa (pv 2) ag))))
  (ai (cQ 4 pJ.nd (lU (pv 3) TT.cl c4 L aw))
  (ai (aQ (pc GA L aw (aa (ay bD (lU (pv 0) T.cl GH L aw) (aO bB (by rfl) T.len boot_len (aa (pv 4) ag))) (aa (aH (pv 0) rfl) ag))))
  (ai (cQ 5 pJ.nd (vj MK GI (L.mono ar) (by rfl) cz bI .nil aw))
  (ai (cA C4 rfl (cK (pv 4)) (gH 6 pJ.nd) (ai (cQ 7 pJ.nd (pm (pv 3) TT.cl GG L aw (aa (pv 6) ag)))
  (ai (aQ (pm (pv 5) TT.cl GL L aw (aa (pv 6) (aa (pv 7) ag))))
  (ao (bj (az (uL L.gj) (pv 7) (bG (by rfl) mB rB) (aF _)) (ao (aQ (pm (aH (pv 0) rfl) TP.cl b4 L aw (aa (aM aK (pv 7) ah bX) ag)))) aI)))))
  (ao (lj (bN L) (aH (pv 0) rfl) (pv 2) (pv 5) rfl)))))))),?_]
 show#[0,a.rp,c.C,dx,_,0,ho,T.cl,T.nR,cH _ _ _,0,a.rd,W,t,x,rfl,R.hd,hx,?_];show#[0,a.rp,c.C,dx,_,0,ho,T.cl,T.nR,cH _ _ _,0,a.rd,W,o,rfl,R.hd,a4,?_];show#[0,x.p,c6,0,ht,Tb.aV _ ak,x.p,x.fs,x.tb,rfl,TX.at_,λH1 l1 ns s1 cT da pm dl=>?_];let R1:=R.same s1;let ce:ns.length=x.t.length:=TX.len pm;let#[ck,ca]:=R1.ob;show#[0,a.rp,ck,0,ca,dZ _ _ _ ak ak ak,M,a,s',W,rfl,R1,lw,λH2 s2=>?_];let R2:=R1.same s2;let bc:=s2 _ _ da;let#[c0,cw]:=R2.ob;show#[0,l1,0,.inl (bq.of bc),_,0,rfl,0,a.rp,c.C,c0,_,0,cw,T.cl,T.nT,Fq _ _ _,_,0,by rw[qi,ce];omega,?_];let S2:=s1.trans s2;show λp b3 np bm dm=>#[p,b3,rfl,ae,λfs H3 bJ T3 off=>#[4]];let s3:aR H2 H3:=λb u e=>off b u (by rw[aj (av e np),aj (av e bm)];show e) (av e np);let a1:H2 fs=none:=by
  cases e:H2 fs with
  |none=>rfl
  |some u=>rwa[aj (av e np),aj (av e bm),e]at bJ
 let a6:H fs=none:=S2.free a1;let ch:H p=none:=S2.free np;let R3:=R2.Cm (H':=H3) (B:=λ_=>False) (M':=λb=>M b\/b=fs) (λb o e _=>s3 b o e) (λb z=>z.elim) (λb z=>z.elim) (λb z=>z.elim .inl λz=>.inr (by rw[z];show a1)) (λb z _=>.inl z) (λb z e=>z.elim (λz=>(R2.same s3).mt b z e) λz=>by rwa[z,T3.hf]at e);let be:=s3 _ _ bc;let b6:¬ a.own W l1:=λz=>R.mt _ (R.eU _ z) cT;let c5:Step H M (a.own W) H3 (λb=>M b\/b=fs) (a.own W):=#[λb o e _=>s3 _ _ (S2 _ _ e),λb z _=>.inl z,λb z=>z.elim .inl λz=>.inr (by rw[z];show a6),λb z=>.inl z,R.mt,R.eU];let dd:∀b,(TD.mk p fs [] []).fK b->b=fs:=λb z=>by
  rcases z with z|⟨_,hx,_⟩
  .show z
  .cases hx
 let c9:ns.Nodup:=pm.nodup_iff.mpr (Tb.kS TX.at_);show#[0,l1,rfl,#[_,bq.of be],?_];show cq (K:=K) (a:=l1) (xs:=ns.map V.int) (λi σ H4=>Es λ(v6 v7:Option V)(O:Wz)(I:Pg.PS)(y:TD)=>J4 (σ=#v[.ref a.rp,.int t,.int o,.ref x.p,.ref l1,.ref y.p,v6,v7]) (ax c H4 O a I W) (dB c.T H4 y) ((∀b,y.fK b->O b/\¬ a.own W b/\H b=none/\b≠l1)) (¬ a.A.own y.p) ((∀q,Tb.look y.t q=if q∈ns.take i then Tb.look x.t q else none)) (Pg.RI I (kW y.t++ents W)) (y.t.length=i) (Cv I W cv) ((∀q e,Tb.look y.t q=some e->Pg.Bd I e (cv t q))) (Step H M (a.own W) H4 O (a.own W)) (H4 l1=some (.lst (ns.map V.int))) ((∀b,(I.ow b).length=(s'.ow b).length)/\Pg.Up s' I))
  #[2,_,s',#[p,fs,[],[]],rfl,R3,#[T3,Pu,λq=>rfl],λb z=>?_,λz=>R.mt _ (R.ok.own _ z) ch,λq=>by simp[Tb.iQ],ri,rfl,b7,λq e h=>(by cases h),c5,be,λ_=>rfl,Pg.Up.refl] (λi σ H4 _ z0=>by let#[_,_,_,_,_,_,_,_,_,_,_,_,_,_,_,_,h,_]:=z0;show bq.of h) ?_ ?_
 .rw[dd b z];show#[.inr rfl,λw=>R.mt _ (R.eU _ w) a6,a6,λw=>by rwa[w,bc]at a1]
 .rintro i u σ H4 hu ⟨v6,v7,O,I,y,rfl,U,T4,N,a0,ap,ac,a2,as,a3,am,ba,ad⟩;rw[vu]at hu;let#[G,hp,rfl]:=t5.mp hu;let c1:=vh hp;let#[hi,dn]:=qc.mp hp;let cC:¬ G∈ns.take i:=λz=>by
   let#[j,hj,e]:=Rb z;rw[RS]at e;rw[Oz]at hj;show wD c9 j i (M4 af) hp af e
  obtain⟨e,he⟩:∃e,Tb.look x.t G=some e:=by
   cases z:Tb.look x.t G with
   |none=>show absurd z ((TX.mem pm G).mp c1)
   |some e=>show#[e,rfl]
  let c2:Tb.look y.t G=none:=(by rw[ap,Wx cC]);let X4:=U.tb _ (Tb.aC hx);let#[ci,b8]:=X4.at_.ob;show#[0,x.p,ci,0,b8,Tb.aV _ ak,0,x.p,x.fs,x.tb,G,rfl,X4.at_,λH5 v s5 Y=>?_];rw[X4.lk,he]at Y;let#[tt,rfl,a8]:=Y;let R5:=U.same s5;let T5:dB c.T H5 y:=#[T4.at_.same s5,T4.nd,T4.lk];let#[c7,c8]:=T5.at_.ob;let#[g1,g2]:=TX.pg (q:=G) (by rw[he];simp);let cr:Tb.qf (AZ e)=true:=(by cases e<;>rfl);show#[0,y.p,c7,0,c8,Tb.aV _ ak,0,0,y.p,y.fs,tt,y.tb,G,AZ e,rfl,T5.at_,g1,g2,.inl a8,cr,λH6 ab T6 l6 o6 n6=>?_];let c3:¬ y.fK tt:=λz=>by
   let#[_,h]:=T5.at_.dK z;rwa[a8]at h
  let bd:=o6 _ _ a8 c3;let a7:dB c.T H6 #[y.p,y.fs,ab,(G,e)::y.t]:=#[T6,N6.mpr #[Tb.cp c2,T4.nd],λj=>by
   rw[l6 j,Tb.aX];cases z:j=G
   .rw[Wy z,Wy z.symm];rfl
   .rw[Wx z,Wx (G0 z)];show T4.lk j]
  let bf:∀{b},H5 b=none->¬ a.own W b/\H b=none:=λ{b} h=>by
   let no:¬ a.own W b:=λz=>R5.mt _ (R5.eU _ z) h;show#[no,((am.trans (U.j6 s5)).gone h).resolve_left no]
  let R6:=R5.Cm (H':=H6) (B:=y.fK) (M':=λb=>(O b/\¬ y.fK b)\/(TD.mk y.p y.fs ab ((G,e)::y.t)).fK b) o6 (λb z=>#[(N b z).1,(N b z).2.1]) (λb z=>.inr (T5.at_.dK z)) (λb z=>z.elim (λz=>.inl z.1) λz=>(n6 b z).elim (λz=>.inl (N b z).1) .inr) (λb z w=>.inl #[z,w]) (λb z w=>by
   rcases z with z|z
   .cases e2:H5 b with
    |none=>show R5.mt b z.1 e2
    |some u=>rwa[o6 b u e2 z.2]at w
   .let#[_,h]:=a7.at_.dK z;rwa[w]at h)
  let a5:∀b,(TD.mk y.p y.fs ab ((G,e)::y.t)).fK b->((O b/\¬ y.fK b)\/(TD.mk y.p y.fs ab ((G,e)::y.t)).fK b)/\¬ a.own W b/\H b=none/\b≠l1:=λb z=>by
   rcases n6 b z with w|w
   .show#[.inr z,(N b w).2]
   .show#[.inr z,(bf w).1,(bf w).2,λy=>by rwa[y,s5 _ _ ba]at w]
  let bb:=am.trans (U.j6 s5);let bn:Step H M (a.own W) H6 (λb=>(O b/\¬ y.fK b)\/(TD.mk y.p y.fs ab ((G,e)::y.t)).fK b) (a.own W):=#[λb o e z=>o6 _ _ (bb.off b o e z) (λw=>by rwa[(N b w).2.2.1]at e),λb z w=>.inl #[bb.mm b z w,λy=>R.mt b z (N b y).2.2.1],λb z=>z.elim (λz=>bb.mn b z.1) λz=>.inr (a5 b z).2.2.1,λb z=>.inl z,R.mt,R.eU];let bY:=o6 _ _ (s5 _ _ ba) λz=>(N _ z).2.2.2 rfl;let bi:∀j,Tb.look ((G,e)::y.t) j=if j∈ns.take (i+1)then Tb.look x.t j else none:=λj=>by
   rw[Tb.aX,ap j,Oy,hp];cases z:G=j
   .rw[Wy z, <-z,Wy (by simp),he]
   .rw[Wx z];cases z2:j∈ns.take i
    .rw[Wy z2,Wy (OB _ z2)]
    .rw[Wx z2,Wx (by simp[G0 z,z2])]
  let bH:(kW y.t++ents W).length<(I.ow true).length+(I.ow false).length:=by
   let e1:(kW y.t).length=i:=(by unfold kW;rw[qi];show a2);rw[y3,e1,ad.1,ad.1];unfold mO at b1;omega
  let bx:=as t x hx G e he;show#[0,tt,aB,_,0,rfl,bL.of bd,j4.sq (.inr sB),?_];cases e with
  |none =>
   show#[1,0,b9 ?_];show#[2,_,I,#[y.p,y.fs,ab,(G,none)::y.t],rfl,R6,a7,a5,a0,bi,ac.lay bH,by rw[K4,a2],as,λj J h'=>?_,bn,bY,ad];let h':Tb.look ((G,none)::y.t) j=some J:=h';rw[Tb.aX]at h';cases z:G=j
   .rw[Wy z]at h';cases h';rw[<-z];show bx
   .rw[Wx z]at h';show a3 j J h'
  |some k =>
   show#[1,0,eg ?_];let#[cP,b5]:=R6.ob;let#[db,cS]:=R6.pg.ob;let#[cs,cc,Y]:=ac.is k (wh _ (lL hx he));let#[b0,n0,hk,_,_]:=id Y;show#[0,a.rp,c.C,cP,_,0,b5,T.cl,T.nP,nc _ _ _,a.A.pg,db,0,cS,cR _ _ ak ak ak ak ak,0,tt,_,(1),0,rfl,bL.of bd,5,a.A,I,k,b0,n0,cs,cc,rfl,R6.Lw ac,hk,Y,λH7 G7 O7=>?_];let sm:=λJ=>Pg.xM (es:=[J]) ac.good hk Y J (qj.mpr rfl);let bz:∀b,((Pg.cF I b0 n0 (cc+1)).ow b).length=(I.ow b).length:=λb=>Pg.eG b;show#[2,2,#[y.p,y.fs,ab,(G,some k)::y.t],rfl,R6.mR G7 O7 bz,a7.off O7 a0 (λb z w=>(a5 b z).2.1 (.inl w)) R6.pg.iH,a5,a0,bi,ac.share hk Y bH,by rw[K4,a2],as.keep λJ _=>sm J,λj J h'=>?_,bn.trans (R6.Jv G7 O7),O7 _ _ bY (λz=>b6 (.inl z)),λb=>(bz b).trans (ad.1 b),ad.2.trans λ_ _ h=>h];let h':Tb.look ((G,some k)::y.t) j=some J:=h';rw[Tb.aX]at h';cases z:G=j
   .rw[Wy z]at h';cases h';rw[<-z];show sm _ _ bx
   .rw[Wx z]at h';show sm _ _ (a3 j J h')
 .rintro σ H4 ⟨v6,v7,O,I,y,rfl,U,T4,N,a0,ap,ac,a2,as,a3,am,ba,ad⟩;rw[qi,OS]at ap;let hy:∀j,Tb.look y.t j=Tb.look x.t j:=λj=>by
   rw[ap j];cases z:j∈ns
   .rw[Wy z]
   .rw[Wx z];cases w:Tb.look x.t j with
    |none=>rfl
    |some e=>show absurd ((TX.mem pm j).mpr (by rw[w];simp)) z
  let#[b2,cg]:=U.ob;show#[0,0,a.rp,c.C,b2,_,0,cg,T.cl,T.nR,cH _ _ _,0,a.rd,0,gK.k (k:=NC o) U.hd (by rw[Tb.dg];omega),?_];rw[show(V.ref y.p)=fR y from rfl,Tb.dU a4];let R5:=U.C9 a4 T4 (λb z=>#[(N b z).1,(N b z).2.1]) a0;show q _ O I y hy R5 (by rw[pq];show ac.perm QG) ?_ #[?_,am.mm,am.mn,λb z=>?_,R.mt,R.eU] ad
  .intro t' x' h' j J bv;rw[Tb.bZ t' a4]at h';unfold BJ;cases z:t'=o
   .rw[Wy z]at h' ⊢;cases h';show a3 j J bv
   .rw[Wx z]at h' ⊢;show as t' x' h' j J bv
  .intro b u e z;rw[aj (λw=>z (.inr (.inl w)))];show am.off b u e z
  .rcases z with z|z|⟨x',aT,z⟩
   .show .inl (.inl z)
   .show .inl (.inr (.inl z))
   .rcases t4.mp aT with aT|aT
    .show .inl (.inr (.inr #[x',aT,z]))
    .rw[qj.mp aT]at z;show .inr (N b z).2.2.1
end St
namespace L2
open PySem PySem.Spec PyProof.Rows
section
variable{X:Cx}{CX:qP}{k j:Nat}{C:Addr}{sp:Sp}{E:XK}{x m:Str}{p pos apos:QJ}{e o:Ob}{es:List Ob}{ta:TE}{t:TA}
theorem sW(F:Df X.prog X.w X.K X.mg X.base (fB X.prog X.w) k x sp)(G:cW j X.A)(N:PA X.mZ (e::es) t)(hex:X.ex=[]:=by rfl)(J:Gl X x:=by rfl)(L:k<=j:=by decide)
  (z:(x==("__debug__" : Str))=false:=by decide) (O:starEach (e::es) X.env=(false,eval e X.env)::starEach es X.env:=by rfl) (I:(backTo pos (starEach es X.env)).any (·.1)=false:=by rfl) :
  En X (.Call (.Name x p) (e::es) [] pos) (BE sp [] t):=by
 let#[f,fd,_,g,b,q,r]:=F;show wk g (G.mono L) hex J q r b .nil N z O I
def Et:pK:=λ_ _ _ _=>False
theorem aZ{sts:List N8}:p5 X sts Et:=λ_ _ _ _ _ _ _ h=>h.elim
end
theorem tf{a b:Str}{n m:Nat}(h:a.length<=n)(k:b.length<=m):(a++b).length<=n+m:=by rw[len_app];omega
end L2
namespace Rm
open PySem L2
theorem li{n:Int}(h:n.natAbs.log2<1920):(toString n:Str).length<=2000:=by have:=Fs h;omega
theorem Gv:(Str.empty:Str).length<=0:=t7 _
inductive eZ(CP:Addr)(v:List V)(H:Hp)(Q:VK)(e:XK):Prop
 |mk(p m:Int)(_:v=[.int p,.int m])(_:p.natAbs.log2<1920)(_:m.natAbs.log2<1920)(_:br p m)(_:e (.ref CP) none H)
inductive gC(CP:Addr)(v:List V)(H:Hp)(Q:VK)(e:XK):Prop
 |mk(a b:Addr)(ms ps:List Int)(_:v=[.ref a,.ref b])(_:H a=some (.lst (ms.map V.int)))(_:H b=some (.lst (ps.map V.int)))(_:∀q∈ps,q.natAbs.log2<1920)(_:¬ ∀q∈ps,q∈ms)(_:e (.ref CP) none H)
inductive oE(CP CT:Addr)(v:List V)(H:Hp)(Q:VK)(e:XK):Prop
 |mk(a:Addr)(ms:List Int)(p m:Int)(C:Addr)(_:v=[.ref a,.int p,.int m])(_:H a=some (.lst (ms.map V.int)))(_:p.natAbs.log2<1920)(_:m.natAbs.log2<1920)(_:(br p m/\C=CP)\/(¬ br p m/\(∃q∈aP p m,q∈ms)/\C=CT))(_:∀H',aR H H'->e (.ref C) none H')
inductive ma(CP:Addr)(v:List V)(H:Hp)(Q:VK)(e:XK):Prop
 |mk(a:Addr)(ms:List Int)(p m:Int)(_:v=[.ref a,.int p,.int m])(_:H a=some (.lst (ms.map V.int)))(_:p.natAbs.log2<1920)(_:m.natAbs.log2<1920)(_:br p m\/¬ ∀q∈aP p m,q∈ms)(_:∀H',aR H H'->e (.ref CP) none H')
inductive iC(CP:Addr)(v:List V)(H:Hp)(Q:VK)(e:XK):Prop
 |mk(a:Addr)(ms:List Int)(ad n:Int)(_:v=[.ref a,.int ad,.int n])(_:H a=some (.lst (ms.map V.int)))(_:n.natAbs.log2<1920)(_:(dR ad).natAbs.log2<1920)(_:(dP ad n).natAbs.log2<1920)(_:cD ad n ms)(_:∀H',aR H H'->e (.ref CP) none H')
theorem qM{N:Addr}(F:cj K "pages_from" "pages_from" iD f fd)(T:xn mg)(XP:oH K mg "NoPage" N):⇑aN 1 f fd ["page","many"] (eZ N):=by
 let#[ad,ab,U]:=T.uX;show F.j0 Ky (λac A outer s H vs Q E hr h=>?_);let#[p,m,rfl,L,O,nb,kE]:=h;show#[_,(aE (dz (PW.pt (fJ (az fE (pv 1) ah (aF _)) (fJ (az fE (pv 0) ah (aF _)) (fN (az kO (ay bD (pv 0) (pv 1)) (bG (by rfl) ab U) (aF _)))))) (bO (fm rfl XP.IL XP.Ip rfl rfl (aa (iB (cy (lD (pv 1)) (cy aS (cy (lD (pv 0)) (cy aS j9))))) ag))) cf)
  aZ),?_]
 let Y:(Str.ofString " from ").length<=6:=ak;let R:(Str.ofString " on are no pages of a room").length<=26:=ak;let g1:=tf Gv (li O);let g2:=tf g1 Y;let S:=tf g2 (li L);let g4:=tf S R;let hs:=vl;show yY λQQ ji je=>?_;let G:QQ true H:=ji _ #[0,m,rfl,O,0,af,0,af,0,p,rfl,L,0,af,0,af,af,qN,kE];show#[0,_,0,rfl,0,?_];show dX (λc=>G) (λc=>?_);show#[0,_,0,rfl,0,?_];show dX (λJ=>G) (λJ=>?_);show#[0,0,_,0,5,0,rfl,0,?_];show jj (λI=>G) (λI=>?_);rcases nb with z|z|z
 .show absurd (decide_eq_true z) c
 .show absurd (decide_eq_true z) J
 .show absurd (decide_eq_true z) I
theorem sV{I:Addr}(F:cj K "refuse_unmapped" "refuse_unmapped" jK f fd)(XP:oH K mg "NoPage" I):⇑aN 1 f fd ["mapped","pages"] (gC I):=by
 show F.j0 FO (λab A outer s H vs Q E z h=>?_);let#[a,b,L,ps,rfl,U,N,S,nb,kE]:=h;let hs:=vl;show#[_,(bO (zk rfl rfl rfl (cK (pv 1)) (gH 2 FO.nd) (bO (dz (az eX (pv 2) (pv 0) (by with_unfolding_all rfl)) (bO (fm rfl XP.IL XP.Ip rfl rfl (aa (iB (cy aS (cy (lD (pv 2)) (cy aS j9)))) ag))) cf)))),?_];show#[0,b,rfl,#[_,bq.of N],?_];show rh (K:=K) (a:=b) (xs:=ps.map V.int) (λi σ H2=>∃v2:Option V,σ=#v[.ref a,.ref b,v2]/\H2=H/\∀q∈ps.take i,q∈L) #[0,rfl,(λ_ h=>nomatch h)] (λi σ H2 _ z0=>by let#[_,_,e,_]:=z0;rw[e];show bq.of N) ?_ ?_
 .rintro i x σ H2 hx ⟨v2,rfl,rfl,G⟩;rw[vu]at hx;let#[q,J,rfl]:=t5.mp hx;let O:=S q (vh J);let c1:(Str.ofString "page ").length<=5:=ak;let R:(Str.ofString " is not mapped").length<=14:=ak;let Y:=tf Gv c1;let g2:=tf Y (li O);let g3:=tf g2 R;show#[0,0,a,0,.inl (bq.of U),rfl,fh _,0,?_];rw[js];cases h:q∈L
  .rw[decide_eq_true h];show b9 #[0,rfl,λr z=>?_];rw[Oy,J]at z;rcases t4.mp z with z|z
   .show G r z
   .have:r=q:=‹z›;rw[this];show h
  .rw[decide_eq_false h];show eg #[0,af,0,q,rfl,O,0,af,0,af,af,qN,kE]
 .rintro σ H2 ⟨v2,rfl,rfl,G⟩;rw[qi,OS]at G;show absurd G nb
theorem Ae{N L:Addr}(F:cj K "pages_to_map" "pages_to_map" tW f fd)(XK:oH K mg "Taken" L)(GP:↥Df 1 "pages_from" cY)(GX:⇑Df 1 "pages_from" (eZ N)):⇑aN 2 f fd ["mapped","page","many"] (oE N L):=by
 show F.j0 yc (λad A outer s H vs Q E z h=>?_);let#[a,R,p,m,C,rfl,ha,hp,hm,G,U]:=h;let hs:=vl;rcases G with⟨G,rfl⟩|⟨G,⟨q0,ab,ac⟩,rfl⟩
 .show#[_,(aE (Bb 3 yc.nd (sW GX z (aa (pv 1) (aa (pv 2) ag)))) aZ),?_];show#[0,0,p,m,rfl,hp,hm,G,U H (aR.refl H)]
 show#[_,(aE (dy (cQ 3 yc.nd (pc GP z aw (aa (pv 1) (aa (pv 2) ag)))))
  (aE (zk rfl rfl rfl (cK (pv 3)) (gH 4 yc.nd) (bO (dz (az gT (pv 4) (pv 0) (by with_unfolding_all rfl)) (bO (fm rfl XK.IL XK.Ip rfl rfl (aa (iB (cy aS (cy (lD (pv 4)) (cy aS j9)))) ag))) cf)))
  aZ)),?_]
 show#[0,0,p,m,rfl,G,λH1 l s1 nl S=>?_];show#[0,l,rfl,#[_,bq.of S],?_];show rh (K:=K) (a:=l) (xs:=(aP p m).map V.int) (λi σ H2=>∃J:Option V,σ=#v[.ref a,.int p,.int m,.ref l,J]/\H2=H1/\∀q∈(aP p m).take i,¬ q∈R) #[0,rfl,(λ_ h=>nomatch h)] (λi σ H2 _ z0=>by let#[_,_,e,_]:=z0;rw[e];show bq.of S) ?_ ?_
 .rintro i x σ H2 hx ⟨J,rfl,rfl,I⟩;rw[vu]at hx;let#[q,O,rfl]:=t5.mp hx;let Y:=(jD G q (vh O)).2.2;let c1:(Str.ofString "page ").length<=5:=ak;let c2:(Str.ofString " is mapped").length<=10:=ak;let g1:=tf Gv c1;let g2:=tf g1 (li Y);let g3:=tf g2 c2;show#[0,0,a,0,.inl (bq.of (s1 _ _ ha)),rfl,fh _,0,?_];rw[js];by_cases h':q∈R
  .rw[decide_eq_true h'];show eg #[0,af,0,q,rfl,Y,0,af,0,af,af,qN,U _ s1]
  .rw[decide_eq_false h'];show b9 #[0,rfl,λr z=>?_];rw[Oy,O]at z;rcases t4.mp z with z|z
   .show I r z
   .have:r=q:=‹z›;rw[this];show h'
 .rintro σ H2 ⟨J,rfl,rfl,I⟩;rw[qi,OS]at I;show absurd ac (I q0 ab)
theorem xj{G:Addr}(F:cj K "pages_to_drop" "pages_to_drop" nV f fd)(Y:↥Df 1 "pages_from" cY)(R:⇑Df 1 "pages_from" (eZ G))(S:⇑Df 1 "refuse_unmapped" (gC G)):⇑aN 2 f fd ["mapped","page","many"] (ma G):=by
 show F.j0 CD (λac A outer s H vs Q E I h=>?_);let#[a,ms,p,m,rfl,U,L,hm,N,J]:=h;cases z:br p m
 .show#[_,(aE (Bb 3 CD.nd (sW R I (aa (pv 1) (aa (pv 2) ag)))) aZ),?_];show#[0,0,p,m,rfl,L,hm,z,J H (aR.refl H)]
 show#[_,(aE (dy (cQ 3 CD.nd (pc Y I aw (aa (pv 1) (aa (pv 2) ag)))))
  (aE (gy (sW S I (aa (pv 0) (aa (pv 3) ag)))) aZ)),?_]
 show#[0,0,p,m,rfl,z,λH1 l s1 nl ab=>?_];show#[0,0,a,l,ms,aP p m,rfl,s1 _ _ U,ab,λq O=>(jD z q O).2.2,N.resolve_left z,J _ s1]
theorem vc{L:Addr}(F:cj K "pages_of_cells" "pages_of_cells" lh f fd)(T:xn mg)(XP:oH K mg "NoPage" L)(GP:↥Df 1 "pages_from" cY)(GX:⇑Df 1 "pages_from" (eZ L))(GU:⇑Df 1 "refuse_unmapped" (gC L)):⇑aN 2 f fd ["mapped","address","many"] (iC L):=by
 let#[u8,J,O]:=T.cells;show F.j0 pB (λac A outer s H vs Q E R h=>?_);let#[a,ms,ad,n,rfl,ha,Y,hf,hc,I,S]:=h;let hs:=vl;let ne:¬ V.int n=V.int 0:=λz=>by
  have:n=0:=V.int.inj z;rcases I with b|⟨b,_⟩<;>omega
 cases N:n<0
 .show#[_,(aE (dz (az bM (pv 2) ah (aF _)) aZ cf)
   (aE (dz (az fE (pv 2) ah (aF _)) (bO (fm rfl XP.IL XP.Ip rfl rfl (aa (iB (cy (lD (pv 2)) (cy aS j9))) ag))) cf)
   aZ)),?_]
  let c1:(Str.ofString " is no count of cells").length<=21:=ak;let g1:=tf Gv (li Y);let g2:=tf g1 c1;show yY λ_ U G=>Mi (Hw rfl) Hj rfl ne (G _ ?_);show#[0,_,0,rfl,0,?_];show dX (λ_=>?_) (λz=>absurd (decide_eq_true N) z);show#[0,n,rfl,Y,0,af,0,af,af,qN,S H (aR.refl H)]
 let#[n0,I]:=I.resolve_left N;cases z:br (dR ad) (dP ad n)
 .show#[_,(aE (dz (az bM (pv 2) ah (aF _)) aZ cf)
   (aE (dz (az fE (pv 2) ah (aF _)) aZ cf)
   (aE (dy (cQ 3 pB.nd (ay bg (pv 1) (bG (by rfl) J O))))
   (aE (dy (cQ 4 pB.nd (ay bg (ay ky (ay bD (pv 1) (pv 2)) ah) (bG (by rfl) J O))))
   (aE (Bb 5 pB.nd (sW GX R (aa (pv 3) (aa (ay bD (ay ky (pv 4) (pv 3)) ah) ag)))) aZ))))),?_]
  show yY λ_ U G=>Mi (Hw rfl) Hj rfl ne (G _ ?_);show#[0,_,0,rfl,0,?_];show dX (λy=>absurd (of_decide_eq_true y) N) (λ_=>?_);show#[0,_,0,rfl,#[ar,ar],0,0,_,0,5,0,5,0,rfl,#[ar,ar],?_];show#[0,0,0,_,0,5,0,rfl,dR ad,dP ad n,rfl,hf,hc,z,S H (aR.refl H)]
 .show#[_,(aE (dz (az bM (pv 2) ah (aF _)) aZ cf)
   (aE (dz (az fE (pv 2) ah (aF _)) aZ cf)
   (aE (dy (cQ 3 pB.nd (ay bg (pv 1) (bG (by rfl) J O))))
   (aE (dy (cQ 4 pB.nd (ay bg (ay ky (ay bD (pv 1) (pv 2)) ah) (bG (by rfl) J O))))
   (aE (dy (cQ 5 pB.nd (pc GP R aw (aa (pv 3) (aa (ay bD (ay ky (pv 4) (pv 3)) ah) ag)))))
   (aE (gy (sW GU R (aa (pv 0) (aa (pv 5) ag)))) aZ)))))),?_]
  show yY λ_ U G=>Mi (Hw rfl) Hj rfl ne (G _ ?_);show#[0,_,0,rfl,0,?_];show dX (λy=>absurd (of_decide_eq_true y) N) (λ_=>?_);show#[0,_,0,rfl,#[ar,ar],0,0,_,0,5,0,5,0,rfl,#[ar,ar],?_];show#[0,0,0,_,0,5,0,rfl,dR ad,dP ad n,rfl,z,λH1 l s1 nl ab=>?_];show#[0,0,a,l,ms,aP (dR ad) (dP ad n),rfl,s1 _ _ ha,ab,λq hq=>(jD z q hq).2.2,I.resolve_left z,S _ s1]
end Rm
namespace L2
open PySem PySem.Spec PyProof.Rows
section
variable{X:Cx}{CX:qP}{k:Nat}{C:Addr}{sp:Sp}{m:Str}{p pos apos:QJ}{e o tg:Ob}{es:List Ob}{te ta:TE}{tx:Fj}{t:St->Hp->(Value->Hp->Prop)->Prop}
def Lk(X:Cx)(es:List Ob)(t:St->Hp->(Value->Hp->Prop)->Prop):Prop :=
 ∀(pos:QJ)(pins:WB)(s:oR)(σ:St)(H:Hp)(R:Value->Hp->Prop),~~~H s->t σ H R->↑(Vn (backTo pos (starEach es X.env))) (λ_ _=>False) (XP X pins λz cls H'=>z=σ/\R cls H') s
def IH(tx:Fj):St->Hp->(Value->Hp->Prop)->Prop:=λσ H R=>tx σ H (λ_ _=>False) R
theorem EP.no{pins:WB}{σ:St}{u:Value}{s:oR}(h:EP X pins σ (λ_ _=>False) u s):False:=by
 let#[_,_,_,_,q]:=h;show q
theorem CO(F:En X e tx)(hs:starEach (e::es) X.env=(false,eval e X.env)::starEach es X.env:=by rfl):Lk X (e::es) (IH tx):=by
 intro pos pins s σ H R I h;rw[hs];change wpAny _ _ (Vn ((false,eval e X.env)::backTo pos (starEach es X.env))) _ _ s;show Calls.spliced_cons (Oj (F pins s σ H _ R I h) (λ_ _ z=>z.no.elim) λ_ _ z=>z)
theorem B6(J:PE X.mZ e te)(L:Lk X es t)(hs:starEach (e::es) X.env=(false,eval e X.env)::starEach es X.env:=by rfl):Lk X (e::es) (λσ H R=>te σ H λ_ H1=>t σ H1 R):=by
 intro pos pins s σ H R I h;rw[hs];change wpAny _ _ (Vn ((false,eval e X.env)::backTo pos (starEach es X.env))) _ _ s;show Calls.spliced_cons (nx (J pins s σ H _ (I.gJ _) h) λu s1 z=>?_);let#[x,H1,F,N,G]:=z;show Oj (L pos pins s1 σ H1 R F.cm G) (λ_ _ z=>z.elim) λ_ _ z=>z
theorem z9{pl:Sem Bool}(he:PE X.mZ o ta)(c:qI X.K C)(F:Md X.prog X.w X.K X.mg X.base CX k C m sp)(N:Lk X (e::es) t)
  (Y:starEach (e::es) X.env=(false,eval e X.env)::starEach es X.env:=by rfl) (L:(backTo pos (starEach es X.env)).any (·.1)=false:=by rfl)
  (O:eval (.Call (.Attribute o m apos) (e::es) [] pos) X.env=(do
   let ov <-eval o X.env
   SV apos.atName
   let (f,first) <-Q2 [ov] (Ri ov m pl)
   TB pos f first (backTo pos (starEach (e::es) X.env)) (Ry pos (Qe [] X.env))):=by rfl) :
  En X (.Call (.Attribute o m apos) (e::es) [] pos) (λσ H _ R=>ta σ H λx H1=>∃a dx fs,x=.ref a/\H1 a=some (.ins C dx fs)/\fs.lookup m=none/\t σ H1 R):=by
 let#[f,fd,_,g,b,J]:=F;intros Q R I h;show SF (pl:=pl) (nx (he pins s σ H _ (I.gJ _) h) λu s1 z=>?_) O;let#[x,H1,G,U,a,dx,fs,ex,S,l,q]:=z;subst ex;obtain rfl:u=Value.ref a:=U;show ir G.cm S c J l ?_;show Rk (first:=[.ref a]) (h₀:=X.base) I.ok.mod.Dr J.kp (Oj (N pos pins s1 σ H1 R G.cm q) (λ_ _ z=>z.elim) λ_ _ z=>z) Y L
theorem Cu{body:List N8}(F:En X e tx)(hs:∀x,Qs e X.env x=pure x:=by intro _;rfl):CV X (.For tg e body [] pos) (λ_ R σ H=>tx σ H (λ_ _=>False) (R σ)):=by
 intros D R I h;show V5 (Oj (F pins s σ H _ _ I h) (λ_ _ z=>z.no.elim) λ_ _ z=>z.at) hs
end
end L2
namespace St
open PySem L2
structure XA where
 nt:Addr
 np:Addr
 nr:Addr
 tk:Addr
def lg(n:Int):Prop:=n.natAbs.log2<1920
theorem Ik{n:Int}(h1 : -1000000<=n)(h2:n<=1000000):lg n:=by
 unfold lg;cases z:n.natAbs=0
 .rw[z];decide
 .rw[log2_lt z];show PQ (show n.natAbs<=1000000 by omega) (N9 (show 1000000<2^20 by decide) (Nat.pow_le_pow_right ar ar))
inductive eM(CN:Addr)(v:List V)(H:Hp)(Q:VK)(e:XK):Prop
 |mk(a:Addr)(W:cN)(t:Int)(_:v=[.ref a,.int t])(_:H a=some (.dK (Tb.dk fR W)))(_:lg t)(_:Tb.look W t=none)(_:e (.ref CN) none H)
inductive jW(CT:Addr)(v:List V)(H:Hp)(Q:VK)(e:XK):Prop
 |mk(a:Addr)(W:cN)(t:Int)(x:TD)(_:v=[.ref a,.int t])(_:H a=some (.dK (Tb.dk fR W)))(_:lg t)(_:Tb.look W t=some x)(_:e (.ref CT) none H)
inductive lH(CR:Addr)(v:List V)(H:Hp)(Q:VK)(e:XK):Prop
 |mk(h t:Int)(_:v=[.int h,.int t])(_:h<=1000000)(_:0<=t)(_:t<h)(_:e (.ref CR) none H)
def KH(xa:XA)(W:cN)(tt t p m:Int)(C:Addr):Prop :=
 (Tb.look W t=none/\C=xa.nt)\/∃x,Tb.look W t=some x/\((Rm.br p m/\C=xa.np)\/(¬ Rm.br p m/\(∃q∈Rm.aP p m,Tb.look x.t q≠none)/\C=xa.tk)\/(¬ Rm.br p m/\(∀q∈Rm.aP p m,Tb.look x.t q=none)/\tt<(ents W).length+m/\C=xa.nr))
def Hh(xa:XA)(W:cN)(t p m:Int)(C:Addr):Prop :=
 (Tb.look W t=none/\C=xa.nt)\/∃x,Tb.look W t=some x/\(Rm.br p m\/∃q∈Rm.aP p m,Tb.look x.t q=none)/\C=xa.np
def IY(xa:XA)(W:cN)(tt t o:Int)(C:Addr):Prop :=
 (Tb.look W t=none/\C=xa.nt)\/∃x,Tb.look W t=some x/\((Tb.look W o≠none/\C=xa.tk)\/(Tb.look W o=none/\tt<(ents W).length+x.t.length/\(ents W).length+x.t.length<=900000/\C=xa.nr))
def yR(xa:XA)(W:cN)(t ad n:Int)(C:Addr):Prop :=
 (Tb.look W t=none/\C=xa.nt)\/∃x,Tb.look W t=some x/\Rm.cD ad n (x.t.map (·.1))/\C=xa.np
inductive mF(c:CA)(xa:XA)(v:List V)(H:Hp)(Q:VK)(e:XK):Prop
 |mk(M:Wz)(a:RA)(s:Pg.PS)(W:cN)(t:Int)(x:TD)(_:v=[.ref a.rp,.int t])(_:ax c H M a s W)(_:lg t)(_:Tb.look W t=some x)(_:e (.ref xa.tk) none H)
inductive lX(c:CA)(xa:XA)(v:List V)(H:Hp)(Q:VK)(e:XK):Prop
 |mk(M:Wz)(a:RA)(s:Pg.PS)(W:cN)(t:Int)(_:v=[.ref a.rp,.int t])(_:ax c H M a s W)(_:lg t)(_:Tb.look W t=none)(_:e (.ref xa.nt) none H)
inductive sI(c:CA)(xa:XA)(v:List V)(H:Hp)(Q:VK)(e:XK):Prop
 |mk(M:Wz)(a:RA)(s:Pg.PS)(W:cN)(t p m:Int)(C:Addr)(_:v=[.ref a.rp,.int t,.int p,.int m])(_:ax c H M a s W)(_:W.length<=1000)(_:(ents W).length<=900000)(_:lg t)(_:lg p)(_:lg m)(_:KH xa W (mO s) t p m C)(_:∀(H':Hp),aR H H'->e (.ref C) none H')
inductive qx(c:CA)(xa:XA)(v:List V)(H:Hp)(Q:VK)(e:XK):Prop
 |mk(M:Wz)(a:RA)(s:Pg.PS)(W:cN)(t p m:Int)(C:Addr)(_:v=[.ref a.rp,.int t,.int p,.int m])(_:ax c H M a s W)(_:lg t)(_:lg p)(_:lg m)(_:Hh xa W t p m C)(_:∀(H':Hp),aR H H'->e (.ref C) none H')
inductive oM(c:CA)(xa:XA)(v:List V)(H:Hp)(Q:VK)(e:XK):Prop
 |mk(M:Wz)(a:RA)(s:Pg.PS)(W:cN)(t o:Int)(C:Addr)(_:v=[.ref a.rp,.int t,.int o])(_:ax c H M a s W)(_:W.length<=1000)(_:lg t)(_:lg o)(_:IY xa W (mO s) t o C)(_:∀(H':Hp),aR H H'->e (.ref C) none H')
inductive pC(c:CA)(xa:XA)(v:List V)(H:Hp)(Q:VK)(e:XK):Prop
 |mk(M:Wz)(a:RA)(s:Pg.PS)(W:cN)(t ad n:Int)(C:Addr)(_:v=[.ref a.rp,.int t,.int ad,.int n])(_:ax c H M a s W)(_:lg t)(_:lg n)(_:lg (Rm.dR ad))(_:lg (Rm.dP ad n))(_:yR xa W t ad n C)(_:∀(H':Hp),aR H H'->e (.ref C) none H')
inductive o8(K:DD)(c:CA)(xa:XA)(v:List V)(H:Hp)(Q:VK)(e:XK):Prop
 |mk(M:Wz)(a:RA)(s:Pg.PS)(W:cN)(t ad:Int)(ca:Addr)(cs:List Int)(C:Addr)(_:v=[.ref a.rp,.int t,.int ad,.ref ca])(_:ax c H M a s W)(_:bq K H ca (cs.map V.int))(_:lg t)(_:lg cs.length)(_:lg (Rm.dR ad))(_:lg (Rm.dP ad cs.length))(_:yR xa W t ad cs.length C)(_:∀(H':Hp),aR H H'->e (.ref C) none H')
theorem yr{J:Addr}(F:cj K "room_of" "room_of" nG f fd)(I:Rm.oH K mg "NoTask" J):⇑aN 1 f fd ["rooms","task"] (eM J):=by
 show F.j0 KG (λU A outer s H vs Q E R h=>?_);let#[a,W,t,rfl,N,G,e,S]:=h;let hs:=vl;show#[_,(aE (dz (kq (gR (bN R) (pv 1) (pv 0))) (bO (fm rfl I.IL I.Ip rfl rfl (aa (iB (cy (lD (pv 1)) (cy aS j9))) ag))) cf) aZ),?_];let L:(Str.ofString " has no room").length<=12:=ak;let O:=tf Rm.Gv (Rm.li G);let Y:=tf O L;let z:=pW (t:=t) N;rw[e]at z;show#[0,0,a,0,z,0,eg #[0,t,rfl,G,0,af,0,af,af,qN,S]]
theorem xy{z:Addr}(F:cj K "refuse_second_room" "refuse_second_room" oi f fd)(XK:Rm.oH K mg "Taken" z):⇑aN 1 f fd ["rooms","task"] (jW z):=by
 show F.j0 JX (λS A outer s H vs Q E O h=>?_);let#[a,W,t,x,rfl,L,I,e,R]:=h;let hs:=vl;show#[_,(bO (dz (kq (Dz (bN O) (pv 1) (pv 0))) (bO (fm rfl XK.IL XK.Ip rfl rfl (aa (iB (cy (lD (pv 1)) (cy aS j9))) ag))) cf)),?_];let J:(Str.ofString " has a room").length<=11:=ak;let N:=tf Rm.Gv (Rm.li I);let U:=tf N J;let G:=pW (t:=t) L;rw[e]at G;show#[0,0,a,0,G,0,eg #[0,t,rfl,I,0,af,0,af,af,qN,R]]
theorem zY{CR:Addr}(F:cj K "refuse_above" "refuse_above" sk f fd)(XR:Rm.oH K mg "NoRoom" CR):⇑aN 1 f fd ["held","total"] (lH CR):=by
 show F.j0 KZ (λR A outer s H vs Q E hr h=>?_);let#[h,t,rfl,U,Y,c,O]:=h;let hs:=vl;show#[_,(bO (dz (az kO (pv 0) (pv 1) (aF _)) (bO (fm rfl XR.IL XR.Ip rfl rfl (aa (iB (cy (lD (pv 0)) (cy aS (cy (lD (pv 1)) j9)))) ag))) cf)),?_];let I:lg h:=Ik af af;let G:lg t:=Ik af af;let J:(Str.ofString " pages are more than ").length<=21:=ak;let N:=tf Rm.Gv (Rm.li I);let L:=tf N J;let S:=tf L (Rm.li G);show#[0,0,_,0,rfl,0,?_];show dX (λc=>?_) (λz=>absurd (decide_eq_true c) z);show#[0,h,rfl,I,0,af,0,af,0,t,rfl,G,0,af,af,qN,O]
theorem xX{c:CA}{xa:XA}(F:cj K "begin" "Rooms.begin" nW f fd)(T:lT K mg c)(I:⇑Df 1 "refuse_second_room" (jW xa.tk)):⇑aN 2 f fd ["self","task"] (mF c xa):=by
 show F.j0 KD (λL A outer s H vs Q E J h=>?_);let#[M,a,s',W,t,x,rfl,R,G,hx,q]:=h;let#[dx,z]:=R.ob;show#[_,(aE (gy (sW I J (aa (aH (pv 0) rfl) (aa (pv 1) ag)))) aZ),?_];show#[0,a.rp,c.C,dx,_,0,z,T.cl,T.nR,cH _ _ _,0,a.rd,W,t,x,rfl,R.hd,G,hx,q]
theorem wO{c:CA}{xa:XA}(F:cj K "close" "Rooms.close" oq f fd)(T:lT K mg c)(J:⇑Df 1 "room_of" (eM xa.nt)):⇑aN 2 f fd ["self","task"] (lX c xa):=by
 show F.j0 uB (λL A outer s H vs Q E I h=>?_);let#[M,a,s',W,t,rfl,R,G,hx,q]:=h;let#[dx,z]:=R.ob;show#[_,(aE (Bb 2 uB.nd (sW J I (aa (aH (pv 0) rfl) (aa (pv 1) ag)))) aZ),?_];show#[0,a.rp,c.C,dx,_,0,z,T.cl,T.nR,cH _ _ _,0,a.rd,W,t,rfl,R.hd,G,hx,q]
theorem DP{c:CA}{xa:XA}(F:cj K "map" "Rooms.map" zf f fd)(T:lT K mg c)(TT:Tb.Txt K mg c.T)(a5:⇑Df 1 "room_of" (eM xa.nt))(GR:↥Df 1 "room_of" cM)(GM:↥Df 2 "pages_to_map" Rm.oo)(a1:⇑Df 2 "pages_to_map" (Rm.oE xa.np xa.tk))(GA:⇑Df 1 "refuse_above" (lH xa.nr))(ac:↥Md 1 c.T "pages" (Tb.dA c.T))(GH:↥Md 2 c.C "held" (gc c)):⇑aN 4 f fd ["self","task","page","many"] (sI c xa):=by
 show F.j0 nu (λa6 A outer s H vs Q E G h=>?_);let#[M,a,s',W,t,p,m,C,rfl,R,lw,le,lt,lp,lm,L,q]:=h;let#[dx,O]:=R.ob;rcases L with⟨hx,rfl⟩|⟨x,hx,L⟩
 .show#[_,(aE (Bb 4 nu.nd (sW a5 G (aa (aH (pv 0) rfl) (aa (pv 1) ag)))) aZ),?_];show#[0,a.rp,c.C,dx,_,0,O,T.cl,T.nR,cH _ _ _,0,a.rd,W,t,rfl,R.hd,lt,hx,q H (aR.refl H)]
 let J:=R.tb _ (Tb.aC hx);let#[ad,ht]:=J.at_.ob;cases am:¬ Rm.br p m/\∀z∈Rm.aP p m,Tb.look x.t z=none
 .let#[I,ab]:=am;obtain⟨a7,rfl⟩:mO s'<(ents W).length+m/\C=xa.nr:=by
   rcases L with⟨z,_⟩|⟨_,⟨z,S,N⟩,_⟩|⟨_,_,z⟩
   .show absurd z I
   .show absurd (ab z S) N
   .show z
  let b1:¬ m<1:=λz=>I (.inl z);let b2:¬ p<0:=λz=>I (.inr (.inl z));let b3:¬ 64<p+m:=λz=>I (.inr (.inr z));let pl:=oP I;show#[_,(aE (dy (cQ 4 nu.nd (pc GR G aw (aa (aH (pv 0) rfl) (aa (pv 1) ag)))))
   (aE (dy (cQ 5 nu.nd (pc GM G aw (aa (lU (pv 4) TT.cl ac G aw) (aa (pv 2) (aa (pv 3) ag))))))
   (aE (gy (sW GA G (aa (ay bD (lU (pv 0) T.cl GH G aw) (aO bB (by rfl) T.len boot_len (aa (pv 5) ag))) (aa (aH (pv 0) rfl) ag))))
   aZ))),?_]
  show#[0,a.rp,c.C,dx,_,0,O,T.cl,T.nR,cH _ _ _,0,a.rd,W,t,x,rfl,R.hd,hx,?_];show#[0,x.p,ad,0,ht,Tb.aV _ ak,x.p,x.fs,x.tb,rfl,J.at_,λH1 l1 ns s1 aT U pm a3=>?_];show#[0,0,l1,ns,p,m,rfl,U,I,λz h1 h2=>absurd (ab z h1) ((J.mem pm z).mp h2),λH2 l2 s2 a8 a2=>?_];let Y:=s1.trans s2;let R2:=R.same Y;let#[a4,ap]:=R2.ob;show#[0,a.rp,a4,0,ap,dZ _ _ _ ak ak ak,M,a,s',W,rfl,R2,lw,λH3 s3=>?_];let as:=s3 _ _ a2;let R3:=R2.same s3;let#[a0,aB]:=R3.ob;show#[0,l2,0,.inl (bq.of as),_,0,rfl,0,a.rp,c.C,a0,_,0,aB,T.cl,T.nT,Fq _ _ _,_,0,3,?_,q H3 (Y.trans s3)]
  .rw[qi,pl];omega
  .unfold mO;omega
  .rw[qi,pl];omega
 .show#[_,(aE (dy (cQ 4 nu.nd (pc GR G aw (aa (aH (pv 0) rfl) (aa (pv 1) ag)))))
   (aE (Bb 5 nu.nd (sW a1 G (aa (lU (pv 4) TT.cl ac G aw) (aa (pv 2) (aa (pv 3) ag))))) aZ)),?_]
  show#[0,a.rp,c.C,dx,_,0,O,T.cl,T.nR,cH _ _ _,0,a.rd,W,t,x,rfl,R.hd,hx,?_];show#[0,x.p,ad,0,ht,Tb.aV _ ak,x.p,x.fs,x.tb,rfl,J.at_,λH1 l1 ns s1 aT U pm a3=>?_];show#[0,0,l1,ns,p,m,C,rfl,U,lp,lm,?_,λH2 s2=>q H2 (s1.trans s2)];rcases L with z|⟨z,⟨y,y1,y2⟩,N⟩|⟨z,S,_⟩
  .show .inl z
  .show .inr #[z,#[y,y1,(J.mem pm y).mpr y2],N]
  .show absurd #[z,S] am
theorem AH{c:CA}{xa:XA}(F:cj K "drop" "Rooms.drop" uD f fd)(T:lT K mg c)(TT:Tb.Txt K mg c.T)(S:⇑Df 1 "room_of" (eM xa.nt))(GR:↥Df 1 "room_of" cM)(ad:⇑Df 2 "pages_to_drop" (Rm.ma xa.np))(Y:↥Md 1 c.T "pages" (Tb.dA c.T))(ab:↥Md 5 c.C "leave_pages" (eT c)):⇑aN 3 f fd ["self","task","page","many"] (qx c xa):=by
 show F.j0 DN (λap A outer s H vs Q E G h=>?_);let#[M,a,s',W,t,p,m,C,rfl,R,lt,O,N,J,q]:=h;let#[dx,I]:=R.ob;rcases J with⟨hx,rfl⟩|⟨x,hx,J,rfl⟩
 .show#[_,(aE (Bb 4 DN.nd (sW S G (aa (aH (pv 0) rfl) (aa (pv 1) ag)))) aZ),?_];show#[0,a.rp,c.C,dx,_,0,I,T.cl,T.nR,cH _ _ _,0,a.rd,W,t,rfl,R.hd,lt,hx,q H (aR.refl H)]
 let L:=R.tb _ (Tb.aC hx);let#[ac,U]:=L.at_.ob;show#[_,(aE (dy (cQ 4 DN.nd (pc GR G aw (aa (aH (pv 0) rfl) (aa (pv 1) ag)))))
  (bO (gy (z9 (pv 0) T.cl ab (B6 (pv 4) (CO (sW ad G (aa (lU (pv 4) TT.cl Y G aw) (aa (pv 2) (aa (pv 3) ag)))))))))),?_]
 show#[0,a.rp,c.C,dx,_,0,I,T.cl,T.nR,cH _ _ _,0,a.rd,W,t,x,rfl,R.hd,hx,?_];show#[0,a.rp,dx,0,I,dZ _ _ _ ak ak ak,0,0,x.p,ac,0,U,Tb.aV _ ak,x.p,x.fs,x.tb,rfl,L.at_,λH1 l1 ns s1 aB am pm as=>?_];show#[0,0,l1,ns,p,m,rfl,am,O,N,?_,λH2 s2=>q H2 (s1.trans s2)];rcases J with z|⟨y,y1,y2⟩
 .show .inl z
 .show .inr λz=>(L.mem pm y).mp (z y y1) y2
theorem AQ{c:CA}{xa:XA}(F:cj K "copy" "Rooms.copy" tj f fd)(T:lT K mg c)(TT:Tb.Txt K mg c.T)(ac:⇑Df 1 "room_of" (eM xa.nt))(N:↥Df 1 "room_of" cM)(a1:⇑Df 1 "refuse_second_room" (jW xa.tk))(GS:↥Df 1 "refuse_second_room" jy)(GA:⇑Df 1 "refuse_above" (lH xa.nr))(am:↥Md 1 c.T "pages" (Tb.dA c.T))(U:↥Md 2 c.C "held" (gc c)):⇑aN 5 f fd ["self","task","other"] (oM c xa):=by
 show F.j0 pJ (λa2 A outer s H vs Q E z h=>?_);let#[M,a,s',W,t,o,C,rfl,R,lw,lt,lo,rf,q]:=h;let#[dx,G]:=R.ob;rcases rf with⟨hx,rfl⟩|⟨x,hx,⟨S,rfl⟩|⟨a0,a4,le,rfl⟩⟩
 .show#[_,(aE (Bb 3 pJ.nd (sW ac z (aa (aH (pv 0) rfl) (aa (pv 1) ag)))) aZ),?_];show#[0,a.rp,c.C,dx,_,0,G,T.cl,T.nR,cH _ _ _,0,a.rd,W,t,rfl,R.hd,lt,hx,q H (aR.refl H)]
 .let#[y,hy]:=Option.ne_none_iff_exists'.mp S;show#[_,(aE (dy (cQ 3 pJ.nd (pc N z aw (aa (aH (pv 0) rfl) (aa (pv 1) ag)))))
   (aE (gy (sW a1 z (aa (aH (pv 0) rfl) (aa (pv 2) ag)))) aZ)),?_]
  show#[0,a.rp,c.C,dx,_,0,G,T.cl,T.nR,cH _ _ _,0,a.rd,W,t,x,rfl,R.hd,hx,?_];show#[0,a.rp,c.C,dx,_,0,G,T.cl,T.nR,cH _ _ _,0,a.rd,W,o,y,rfl,R.hd,lo,hy,q H (aR.refl H)]
 let J:=R.tb _ (Tb.aC hx);let#[ap,ht]:=J.at_.ob;show#[_,(aE (dy (cQ 3 pJ.nd (pc N z aw (aa (aH (pv 0) rfl) (aa (pv 1) ag)))))
  (aE (dy (aQ (pc GS z aw (aa (aH (pv 0) rfl) (aa (pv 2) ag)))))
  (aE (dy (cQ 4 pJ.nd (lU (pv 3) TT.cl am z aw)))
  (aE (gy (sW GA z (aa (ay bD (lU (pv 0) T.cl U z aw) (aO bB (by rfl) T.len boot_len (aa (pv 4) ag))) (aa (aH (pv 0) rfl) ag))))
  aZ)))),?_]
 show#[0,a.rp,c.C,dx,_,0,G,T.cl,T.nR,cH _ _ _,0,a.rd,W,t,x,rfl,R.hd,hx,?_];show#[0,a.rp,c.C,dx,_,0,G,T.cl,T.nR,cH _ _ _,0,a.rd,W,o,rfl,R.hd,a0,?_];show#[0,x.p,ap,0,ht,Tb.aV _ ak,x.p,x.fs,x.tb,rfl,J.at_,λH1 l1 ns s1 a5 aB pm a3=>?_];let I:=R.same s1;let L:ns.length=x.t.length:=J.len pm;let#[O,ab]:=I.ob;show#[0,a.rp,O,0,ab,dZ _ _ _ ak ak ak,M,a,s',W,rfl,I,lw,λY s3=>?_];let ad:=s3 _ _ aB;let R3:=I.same s3;let#[aT,as]:=R3.ob;show#[0,l1,0,.inl (bq.of ad),_,0,rfl,0,a.rp,c.C,aT,_,0,as,T.cl,T.nT,Fq _ _ _,_,0,3,?_,q Y (s1.trans s3)]
 .rw[qi,L];omega
 .unfold mO;omega
 .rw[qi,L];omega
theorem B1{H:Hp}{c:CA}{x:TD}{ad n:Int}{ns:List Int}(G:dB c.T H x)(pm:ns.Perm (Tb.gA x.tb))(h:Rm.cD ad n (x.t.map (·.1))):Rm.cD ad n ns:=by
 rcases h with z|⟨z,F|F⟩
 .show .inl z
 .show .inr #[z,.inl F]
 .show .inr #[z,.inr λy=>F λq I=>(G.keys q).mpr ((G.mem pm q).mp (y q I))]
theorem Ao{c:CA}{xa:XA}(F:cj K "peek" "Rooms.peek" uv f fd)(T:lT K mg c)(TT:Tb.Txt K mg c.T)(O:⇑Df 1 "room_of" (eM xa.nt))(GR:↥Df 1 "room_of" cM)(ap:⇑Df 2 "pages_of_cells" (Rm.iC xa.np))(Y:↥Md 1 c.T "pages" (Tb.dA c.T)):⇑aN 3 f fd ["self","task","address","many"] (pC c xa):=by
 show F.j0 tY (λas A outer s H vs Q E z h=>?_);let#[M,a,s',W,t,ad,n,C,rfl,R,lt,ln,N,lc,G,q]:=h;let#[dx,J]:=R.ob;rcases G with⟨hx,rfl⟩|⟨x,hx,G,rfl⟩
 .show#[_,(aE (Bb 4 tY.nd (sW O z (aa (aH (pv 0) rfl) (aa (pv 1) ag)))) aZ),?_];show#[0,a.rp,c.C,dx,_,0,J,T.cl,T.nR,cH _ _ _,0,a.rd,W,t,rfl,R.hd,lt,hx,q H (aR.refl H)]
 show#[_,(aE (dy (cQ 4 tY.nd (pc GR z aw (aa (aH (pv 0) rfl) (aa (pv 1) ag)))))
  (aE (dy (cQ 5 tY.nd (bE ag)))
  (aE (Cu (sW ap z (aa (lU (pv 4) TT.cl Y z aw) (aa (pv 2) (aa (pv 3) ag))))) aZ))),?_]
 show#[0,a.rp,c.C,dx,_,0,J,T.cl,T.nR,cH _ _ _,0,a.rd,W,t,x,rfl,R.hd,hx,?_];show#[ar,λL ab=>?_];let s1:aR H (upd H L (.lst [])):=Tb.au ab;let U:=R.same s1;let I:=U.tb _ (Tb.aC hx);let#[ac,S]:=I.at_.ob;show#[0,x.p,ac,0,S,Tb.aV _ ak,x.p,x.fs,x.tb,rfl,I.at_,λH1 l1 ns s2 aT am pm aB=>?_];show#[0,0,l1,ns,ad,n,rfl,am,ln,N,lc,B1 I pm G,λH2 s3=>q H2 (s1.trans (s2.trans s3))]
theorem AM{c:CA}{xa:XA}(F:cj K "poke" "Rooms.poke" tq f fd)(T:lT K mg c)(TT:Tb.Txt K mg c.T)(O:⇑Df 1 "room_of" (eM xa.nt))(GR:↥Df 1 "room_of" cM)(ac:⇑Df 2 "pages_of_cells" (Rm.iC xa.np))(U:↥Md 1 c.T "pages" (Tb.dA c.T)):⇑aN 3 f fd ["self","task","address","cells"] (o8 K c xa):=by
 show F.j0 lY (λam A outer s H vs Q E z h=>?_);let#[M,a,s',W,t,ad,ca,cs,C,rfl,R,N,lt,ln,L,lc,G,q]:=h;let#[dx,J]:=R.ob;rcases G with⟨hx,rfl⟩|⟨x,hx,G,rfl⟩
 .show#[_,(aE (Bb 4 lY.nd (sW O z (aa (aH (pv 0) rfl) (aa (pv 1) ag)))) aZ),?_];show#[0,a.rp,c.C,dx,_,0,J,T.cl,T.nR,cH _ _ _,0,a.rd,W,t,rfl,R.hd,lt,hx,q H (aR.refl H)]
 let I:=R.tb _ (Tb.aC hx);let#[Y,S]:=I.at_.ob;show#[_,(aE (dy (cQ 4 lY.nd (pc GR z aw (aa (aH (pv 0) rfl) (aa (pv 1) ag)))))
  (aE (Bb 5 lY.nd (sW ac z (aa (lU (pv 4) TT.cl U z aw) (aa (pv 2) (aa (aO bB (by rfl) T.len boot_len (aa (pv 3) ag)) ag))))) aZ)),?_]
 show#[0,a.rp,c.C,dx,_,0,J,T.cl,T.nR,cH _ _ _,0,a.rd,W,t,x,rfl,R.hd,hx,?_];show#[0,x.p,Y,0,S,Tb.aV _ ak,x.p,x.fs,x.tb,rfl,I.at_,λH1 l1 ns s2 as ab pm ap=>?_];show#[0,0,ca,0,.inl (Rm.gn N (s2 _)),l1,ns,ad,cs.length,by rw[qi];rfl,ab,ln,L,lc,B1 I pm G,λH2 s3=>q H2 (s2.trans s3)]
end St
namespace L2
open PySem PySem.Spec PyProof.Rows
theorem qL:entryFor table "proto.unchain" = some Builtin.«proto.unchain» := entryFor_of_fast (by kernel_rfl)
section
variable{prog:tp}{A:L5}{E:WC}{s:oR}
theorem yx{h e:Addr}{F:Obj}{z:WG}{Q:WC}(I:s.heap.get? h=some F)(J:F.data=.fields z)(G:z[2]?=some .none)(q:Q .none s) :
  wpAny (model prog w) A (runValue (.builtin "proto.unchain" #[[.ref e,.ref h,.ref h,.bool false],[]])) Q E s:=by
 show wpAny_runValue (codeAny_builtin qL ?_);unfold Builtin.«proto.unchain»;show qs (Qg I J G ?_);rw[Wy (show(Value.none==Value.none)=true from rfl)];show wpAny_pure q
theorem Dw{α:Type}{h e:Addr}{F z:Obj}{G vs:WG}{Q:α->oR->Prop}(J:A.handled=some (.ref h))(ne:h≠e)(N:s.heap.get? h=some F)(O:F.data=.fields G)(L:G[2]?=some .none)
  (I:s.heap.get? e=some z) (hd:z.data=.fields vs) (h2:2<vs.size) (q:E (.ref e) { s with heap:=s.heap.update e (Obj.mapFields (·.setIfInBounds 2 (.ref h))) }):wpAny (model prog w) A (raiseNew (.ref e):Sem α) Q E s:=by
 unfold raiseNew;show qs (wpAny_handled ?_);rw[J];dsimp only;rw[Wy (show(Value.ref h != Value.ref e)=true from by simpa using ne)];show qs (OX (yx N O L ?_));unfold updateField;show qs (qs (wpAny_load I ?_));rw[hd];dsimp only;rw[Wy h2];show wpAny_update I (wpAny_throw q)
theorem oX{α:Type}{hx:Addr}{G:Obj}{z:WG}{Q:α->oR->Prop}(J:A.handled=some (.ref hx))(F:s.heap.get? hx=some G)(L:G.data=.fields z)(I:z[2]?=some .none)
  (q:∀h' e,(∀b o,s.heap.get? b=some o->h'.get? b=some o)->(∃o,h'.get? e=some o/\o.cls=.type "StopIteration")->E (.ref e) { s with heap:=h' }) :
  wpAny (model prog w) A (newExc (.type "StopIteration") []>>=λx=>(raiseNew x:Sem α)) Q E s:=by
 show qs ?_;unfold newExc newTuple;show qs (wpAny_newObj_type (?_:wpAny _ _ _ _ _ _) (by size_fits));show qs (m:=firstArgMember _ _) (wpAny_of_eq (a:=Value.none) (by first|rfl|(unfold firstArgMember;rfl)) ?_);show wpAny_newObj_type ?_ (by size_fits);let k1:∀b o,s.heap.get? b=some o->(s.heap.push { cls:=Value.type "tuple",dict:=none,data:=Data.seq ([]:WH).toArray }).get? b=some o:=λb o e=>Heap.get?_push_of_some _ e;let lt:=Heap.lt_size F;show Dw (e:=(s.heap.push _).objs.size) J (by rw[Heap.size_push];show Ou (Qq lt)) (Heap.get?_push_of_some _ (Heap.get?_push_of_some _ F)) L I (Heap.get?_push_size _ rfl) rfl (by simp[ownMembersOf]) (q _ _ (λb o e=>?_) ?_)
 .let lb:=Heap.lt_size e;rw[Heap.get?_update_other _ _ (by rw[Heap.size_push];show Tx (Qq lb))];show Heap.get?_push_of_some _ (Heap.get?_push_of_some _ e)
 .show#[_,Heap.get?_update_self _ (Heap.get?_push_size _ rfl) (Obj.isFreed_of_fields (Obj.data_mapFields rfl _)),Obj.cls_mapFields _ _]
theorem mU{it l hx:Addr}{i:Nat}{J:WG}{L:Obj}{N:WG}{Q:Option Value->oR->Prop}(R:A.handled=some (.ref hx))(Y:s.heap.get? hx=some L)(ab:L.data=.fields N)(U:N[2]?=some .none)(nx:it≠hx)
  (F:s.heap.IsListIter it l i) (hl:s.heap.IsList l J) (hn:J[i]?=none) (q:∀h',Heap.ExtBut it s.heap h'->Q none { s with heap:=h' }):wpAny (model prog w) A (pyNext (.ref it)) Q E s:=by
 let#[ob,G,cb,z]:=id F;let#[ol,gl,cl,nl,dl]:=hl;unfold pyNext;show qs (Rt (SU (name:=Str.ofString "__next__") F.typeIs Ux (Rn Ux F.typeIs entry_listiter_next (?_:wpAny _ _ _ _ _ _) (args_listiter_next _))));show(qs (Qg G z (x:=.ref l) rfl ?_):wpAny _ _ (V8 (.ref it) 0>>=_) _ _ s);rw[Wx (show ¬ ((Value.ref l==Value.none)=true)from vr)];show(qs (Qg G z (x:=.int i 0) rfl ?_):wpAny _ _ (V8 (.ref it) 1>>=_) _ _ s);show(qs (wpAny_seqItems gl dl ?_):wpAny _ _ (seqItems? (.ref l)>>=_) _ _ s);simp only[OY,hn];show qs (Qw (qs (wpAny_setField G z (by simp) ?_)));let I:Heap.SameBut it s.heap (s.heap.update it (Obj.mapFields (·.setIfInBounds 0 Value.none))):=Heap.SameBut.update ..;show oX (A:=A.in1) R ((I.2 hx (G0 nx)).trans Y) ab U λh' e keep ⟨o,O,co⟩=>?_;show qs (U6 (T := "StopIteration") (b:=true) #[o,O,co] isSubtype_stop ?_);show wpAny_pure (q h' λb u nb S=>keep b u ((I.2 b nb).trans S))
theorem ur{it hx:Addr}{x left step:Int}{G:Obj}{I:WG}{Q:Option Value->oR->Prop}(L:A.handled=some (.ref hx))(R:s.heap.get? hx=some G)(U:G.data=.fields I)(O:I[2]?=some .none)
  (z:QV s.heap it x left step) (S:left<=0) (q:∀h',Heap.ExtBut it s.heap h'->Q none { s with heap:=h' }):wpAny (model prog w) A (pyNext (.ref it)) Q E s:=by
 let ty:s.TypeIs (.ref it) "range_iterator" := #[_,z,rfl];unfold pyNext;show qs (Rt (SU (name:=Str.ofString "__next__") ty F.slot_range_iterator_next (Rn F.slot_range_iterator_next ty F.entry_range_iterator_next (?_:wpAny _ _ _ _ _ _) (F.args_range_iterator_next_1 _))));show(qs (Qg z rfl (x:=US x) rfl ?_):wpAny _ _ (V8 (.ref it) 0>>=_) _ _ s);show(qs (Qg z rfl (x:=US left) rfl ?_):wpAny _ _ (V8 (.ref it) 1>>=_) _ _ s);show(qs (Qg z rfl (x:=US step) rfl ?_):wpAny _ _ (V8 (.ref it) 2>>=_) _ _ s);show(?_:wpAny _ _ (if left<=0 then _ else _) _ _ s);rw[Wy S];show qs (Qw ?_);show qs ?_;show oX (A:=A.in1) L R U O λh' e keep ⟨o,J,co⟩=>?_;show qs (U6 (T := "StopIteration") (b:=true) #[o,J,co] isSubtype_stop ?_);show wpAny_pure (q h' λb u Y N=>keep b u N)
end
def xq(e:Addr)(cls:Value):HO:=.ext λh=>∃o vs,h.get? e=some o/\o.cls=cls/\o.data=.fields vs/\vs[2]?=some .none
theorem Jx{P:tp}{w:By}{H:Hp}{h:Heap}{e:Addr}{cls:Value}(x:∃o vs,h.get? e=some o/\o.cls=cls/\o.data=.fields vs/\vs[2]?=some .none):bU P w H h e (xq e cls):=
 #[x,let ⟨o,_,z,_⟩:=x;#[o,z],λh1 h2 ⟨o,vs,z,F⟩ k=>#[o,vs,k o z,F]]
theorem Inv.zt{X:Cx}{pins:WB}{σ:St}{H:Hp}{s:oR}{e:Addr}{cls:Value}(I: ~~~H s)(h:H e=some (xq e cls)):∃o vs,s.heap.get? e=some o/\o.cls=cls/\o.data=.fields vs/\vs[2]?=some .none:=by
 let#[p,_]:=(show bU X.prog X.w H s.heap e (xq e cls)from I.bJ e _ h);show p
structure zD(hx:Addr)(xc:Value)(P:tp)(w:By)(K:DD)(tg:Ob)(J:It)(fp:List Addr)(it:Addr)(tn:Nat->Heap->Prop):Prop where
 mem:it∈fp
 obj:∀i h,tn i h->∀b∈fp,∃o,h.get? b=some o/\∀v,o.data≠.cell v
 keep:∀i h h',tn i h->(∀b∈fp,∀o,h.get? b=some o->h'.get? b=some o)->tn i h'
 item:∀(X:Cx),X.prog=P->X.w=w->X.K=K->X.A.handled=some (.ref hx)->∀(i:Nat)(pins:WB)(s:oR)(σ:St)(H:Hp)(E:WC),H hx=some (xq hx xc)->~~~H s->(∀b∈fp,fg X pins H b)->tn i s.heap->J.go i H ->
  wpAny (model P w) X.A (pyNext (.ref it)) (λr s1=>∃u,r=some u /\
   wpAny (model P w) X.A (RG tg (.ref it) u) (λ_ s2=>∃x H',~~~H' s2/\RelV x u/\J.El i H x H'/\tn (i+1) s2.heap/\∀b∈fp,H' b=none) E s1) E s
 done:∀(X:Cx),X.prog=P->X.w=w->X.K=K->X.A.handled=some (.ref hx)->∀(i:Nat)(pins:WB)(s:oR)(σ:St)(H:Hp)(E:WC),H hx=some (xq hx xc)->~~~H s->(∀b∈fp,fg X pins H b)->tn i s.heap->J.stop i H ->
  wpAny (model P w) X.A (pyNext (.ref it)) (λr s1=>r=none/\~~~H s1) E s
 self:∀(A:L5)(i:Nat)(s:oR)(Q:WC)(E:WC),tn i s.heap->Q (.ref it) s->wpAny (model P w) A (Wb (.ref it)) Q E s
theorem x6{hx:Addr}{xc:Value}{P:tp}{w:By}{K:DD}{tg:Ob}(a it:Addr):zD hx xc P w K tg (Er K a) [it] it (λi h=>h.IsListIter it a i) where
 mem:=(hZ (P:=P) (w:=w) (K:=K) (tg:=tg) a it).mem
 obj:=(hZ (P:=P) (w:=w) (K:=K) (tg:=tg) a it).obj
 keep:=(hZ (P:=P) (w:=w) (K:=K) (tg:=tg) a it).keep
 item:=by
  intro X hP L hK hA i pins s σ H E hX I G st R;subst hP L hK;let#[xs,x,F,hi]:=R;let#[its,J,pl,hz]:=I.list F;let#[u,hu,ru]:=J.get hi;let#[z,Y,g2,O,S,N]:=G it (by simp);show Q3 st pl.isList (x:=u) ‹hu› λU stN ab=>?_;let IN: ~~~H { s with heap:=U }:=I.turned (t':=s.toks) (λb o nb e=>(ab.2 b nb).trans e) z Y O S N;let#[o,eo,co,od]:=id stN;show#[u,rfl,pV (s:={ s with heap:=U }) eo co od ar #[x,H,IN,ru,#[rfl,λys hy=>by rw[I.jm hy F];show hi],stN,λb hb=>(G b hb).1]]
 done:=by
  intro X hP L hK hA i pins s σ H E hX I G st R;subst hP L hK;let#[xs,F,hi]:=R;let#[its,J,pl,hz]:=I.list F;let#[z,Y,g2,O,S,N]:=G it (by simp);let#[o,vs,eo,_,od,oc]:=I.zt hX;let hl:=J.length;show mU hA eo od oc (λe=>by rwa[e,hX]at z) st pl.isList (by simp;omega) λU eN=>#[rfl,I.turned (t':=s.toks) (λb o nb e=>eN b o nb e) z Y O S N]
 self:=(hZ (P:=P) (w:=w) (K:=K) (tg:=tg) a it).self
theorem vM{hx:Addr}{xc:Value}{P:tp}{w:By}{K:DD}{tg:Ob}(it:Addr)(lo:Int)(n:Nat):zD hx xc P w K tg (Ce lo n) [it] it (λi h=>QV h it (lo+(i:Nat)*1) ((n:Int)-(i:Nat)) 1) where
 mem:=(gu (P:=P) (w:=w) (K:=K) (tg:=tg) it lo n).mem
 obj:=(gu (P:=P) (w:=w) (K:=K) (tg:=tg) it lo n).obj
 keep:=(gu (P:=P) (w:=w) (K:=K) (tg:=tg) it lo n).keep
 item:=by
  intro X Y J S hA i pins s σ H E hX I F st N;subst Y J S;let ac:i<n:=N;let#[g0,R,g2,L,O,G]:=F it (by simp);show wpAny_pyNext_range_item st af λz stN ad=>?_;let IN: ~~~H { s with heap:=z,toks:=s.toks+1 }:=I.turned (t':=s.toks+1) (λb o U e=>(ad.2 b U).trans e) g0 R L O G;let e1:lo+((i+1:Nat):Int)*1=lo+(i:Int)*1+1:=af;let e2:(n:Int)-((i+1:Nat):Int)=(n:Int)-(i:Int)-1:=af;let ab:QV z it (lo+((i+1:Nat):Int)*1) ((n:Int)-((i+1:Nat):Int)) 1:=(by rw[e1,e2];show stN);show#[0,pV (s:={ s with heap:=z,toks:=s.toks+1 }) (n := "range_iterator") ab rfl rfl ar #[.int (lo+i),H,IN,#[s.toks,?_],#[1],ab,λb hb=>(F b hb).1]];rw[Int.mul_one]
 done:=by
  intro X Y J S hA i pins s σ H E hX I F st N;subst Y J S;let ac:n<=i:=N;let#[g0,R,g2,L,O,G]:=F it (by simp);let#[o,vs,eo,_,od,oc]:=I.zt hX;show ur hA eo od oc st af λz eN=>#[rfl,I.turned (t':=s.toks) (λb o U e=>eN b o U e) g0 R L O G]
 self:=(gu (P:=P) (w:=w) (K:=K) (tg:=tg) it lo n).self
def LW(hx:Addr)(xc:Value)(X:Cx)(pins:WB)(σ:St)(tg:Ob)(R:It->Hp->Prop)(F:Value)(s2:oR):Prop :=
 ∃(it:Addr)(fp:List Addr)(z:Nat->Heap->Prop)(J:It)(H':Hp),F=.ref it/\~~~H' s2/\zD hx xc X.prog X.w X.K tg J fp it z/\z 0 s2.heap/\(∀b∈fp,fg X pins H' b)/\R J H'
def M8(hx:Addr)(xc:Value)(X:Cx)(tg iter:Ob)(wi:TI):Prop :=
 ∀(pins:WB)(s:oR)(σ:St)(H:Hp)(R:It->Hp->Prop),~~~H s->wi σ H R ->
  ↑(eval iter X.env) (λv s1=>↑(Wb v) (LW hx xc X pins σ tg R) X.xe s1) X.xe s
theorem C5{hx:Addr}{xc:Value}{X:Cx}{tg l:Ob}{tl:TE}(J:PE X l tl):M8 hx xc X tg l (F7 X.K tl):=by
 intros R I h;show bR (J pins s σ H _ I h) λv s1 ⟨x,H1,z,G,a,e,⟨xs,F⟩,q⟩=>?_;subst e;cases G;let#[its,N,pl,O]:=z.list F;show UD pl.isList #[s1⁻¹,[s1⁻¹],2,H1,rfl,z.kept (t':=s1.toks) λb o e=>Heap.get?_push_of_some _ e,x6 a _,#[_,Heap.get?_push_size _ rfl,1],λb L=>?_,q];obtain rfl:b=s1⁻¹:=‹L›;show z.kK (t7 _) (z.bJ.fresh (t7 _))
def GY(hx:Addr)(xc:Value)(caps:List (Str×Nat))(wi:TI)(tt:TT)(te:TE):TE:=λσ H Q=>wi σ H λJ H1 =>
 ∃W:Nat->Nat->List V->Hp->Prop,(∃m,W 0 m [] H1)/\(∀i m ys H,W i m ys H->H hx=some (xq hx xc))/\iL caps tt te σ J (λys H2=>∀p,H2 p=none->Q (.ref p) (upd H2 p (.lst ys))) W
section
variable{X:Cx}{scope:Rw}{cl:List (Str×Addr)}{t:Str}{caps:List (Str×Nat)}{elt iter:Ob}{ifs:List Ob}{px pos:QJ}{wi:TI}{tt:TT}{te:TE}
theorem vT{hx:Addr}{xc:Value}{pins:WB}{σ:St}{H:Hp}{s:oR}{J:It}{fp:List Addr}{it:Addr}{tn:Nat->Heap->Prop}{W:Nat->Nat->List V->Hp->Prop}{QE:List V->Hp->Prop}{E:WC}{RR:Value->Addr->Vx->oR->Prop}{m0:Nat}
  (K:j5 X scope cl t caps) (hA:X.A.handled=some (.ref hx))
  (ht:∀C s₀ H₀ ex,Ji (kf X (eh t caps) scope cl C s₀ H₀ ex) ifs tt) (he:∀C s₀ H₀ ex,PE (kf X (eh t caps) scope cl C s₀ H₀ ex) elt te)
  (I: ~~~H s) (T:zD hx xc X.prog X.w X.K (.Name t px) J fp it tn) (st:tn 0 s.heap) (S:∀b∈fp,fg X pins H b) (w0:W 0 m0 [] H) (hW:iL caps tt te σ J QE W) (bl:∀i m ys H,W i m ys H->H hx=some (xq hx xc))
  (b1:∀D C ys H' s' m,H' D=none->~~~(upd H' D (.lst ys)) s'->s'.heap.Ns C m->fg X pins (upd H' D (.lst ys)) C->QE ys H'->RR (.ref D) C (.ok .next) s') :
  ↑(newList []) (λbe ab=>↑(newFunctionEnv scope X.env.globals cl [] X.env.qual none .none (some X.env)) (λba bI =>
   QA (model X.prog X.w) X.A (.compStart (.ListComp elt [#[.Name t px,iter,ifs,(0)]] scope pos) 0 (.ref it) be { ba with scope:=relabel scope X.env }) (RR be ba.locals) bI) E ab) E s:=by
 show wpAny_newObj_type (TU K.BP (by intro y hy;simp at hy) (λam a0 ad=>?_) K.kind);dsimp only at a0 ad ⊢;generalize ap:s.heap.push { cls:=.type "list",dict:=none,data:=.seq ([]:WH).toArray }=H2 at a0 ad ⊢;let hC:H2.objs.size=s⁻¹+1:=(by rw[<-ap,Heap.size_push]);let ac:s⁻¹≠H2.objs.size:=(by rw[hC];show Ou (Q4 _));let a6:s⁻¹<=H2.objs.size:=(by rw[hC];show QT _);let below:∀b,b<s⁻¹->b≠H2.objs.size:=λb G=>(by rw[hC];show Ou (Qq G));let bi:∀b o,s.heap.get? b=some o->am.get? b=some o:=λb o e=>ad.extBut b o (below b (Heap.lt_size e)) (Heap.get?_push_of_some _ (ap▸Heap.get?_push_of_some _ e));let bz:am.get? s⁻¹=some { cls:=.type "list",data:=.seq ([]:WH).toArray }:=ad.extBut _ _ ac (Heap.get?_push_of_some _ (ap▸Heap.get?_push_size _ rfl));let ho:∀b∈fp,b<s⁻¹:=λb G=>let ⟨_,e,_⟩:=T.obj 0 _ st b G;Heap.lt_size e;let a8:s⁻¹∉fp:=λhm=>PH _ (ho _ hm);let bd:tn 0 am:=T.keep 0 _ _ st λb _ o e=>bi b o e;let bY:s⁻¹∉qE X.stack:=λz=>by
  rcases se.mp (I.pX _ z)with e|e
  .show absurd (e▸I.lt) (PH _)
  .show I.Il (t7 _) e
 let bx:∀x c,cl.lookup x=some c->c≠s⁻¹:=λx c e z=>by
  let#[v,q]:=I.cell x c (K.look e);show absurd (z▸q.lt) (PH _)
 let aT:∀{pl:WB}{HC:Hp},(∀b∈fp,HC b=none)->(∀p∈pl,p.1∉fp)->∀b∈fp,fg (kf X (eh t caps) scope cl H2.objs.size s H fp) pl HC b:=λ{pl HC} hn R b G =>
  #[hn b G,below b (ho b G),(MY I K S ho a6).vo b G,.inl G,λx c e=>(S b G).2.2.2.2.1 x c (K.look e),λp b0 z=>by
   let bH:p∈pl:=b0;show R p bH (z▸G)]
 let bm:∀ab:oR,ab={ s with heap:=am,toks:=s.toks+([]:List (Str×Value)).length } ->
   QA (model X.prog X.w) X.A (.compLoop (.ListComp elt [#[.Name t px,iter,ifs,(0)]] scope pos) 0 (.ref it) (.ref s⁻¹) (SM scope cl H2.objs.size X.env)) (RR (.ref s⁻¹) H2.objs.size) ab:=by
  rintro ab rfl;show codeAny_loop rfl (λn s'=>∃i ys its L HC v0,Inv (kf X (eh t caps) scope cl H2.objs.size s H fp) [] (fC caps σ v0) HC s'/\tn i s'.heap/\(∀b∈fp,HC b=none)/\HC s⁻¹=none /\
   s'.heap.get? s⁻¹=some { cls:=.type "list",data:=.seq its.toArray L }/\Vals ys its/\ys.length<=sizeLine/\W i n ys HC) (λn s' hI=>?_) m0
   #[(0),[],[],(0),H,none,KP I K S ho a6 bi a0,bd,λb G=>(S b G).1,I.bJ.fresh (t7 _),bz,.nil,Oc _,w0]
  let#[i,ys,its,L,HC,v0,I3,bb,bc,aB,e3,r3,z3,w3]:=hI;change wpAny _ X.A ((compTurn (.ListComp elt [#[.Name t px,iter,ifs,(0)]] scope pos) 0 (.ref it) (.ref s⁻¹) (SM scope cl H2.objs.size X.env)).onRaise (λx=>do noteFrame x (SM scope cl H2.objs.size X.env);theTreesLotGoes x)) _ _ s';show wpAny_noted ?_;rw[compTurn_list];let bf:Inv (kf X (eh t caps) scope cl H2.objs.size s H fp) [(s⁻¹, { cls:=.type "list",data:=.seq its.toArray L })] (fC caps σ v0) HC s':=I3.jE λp R=>by
   let ep:p=(s⁻¹, { cls:=.type "list",data:=.seq its.toArray L }):=‹R›;subst ep;show#[e3,aB,ac,bY,λv z=>by cases(show Data.seq its.toArray L=Data.cell v from z)]
  let pD:∀p∈[((s⁻¹:Addr),({ cls:=.type "list",data:=.seq its.toArray L }:Obj))],p.1∉fp:=λp R=>by
   let ep:p=(s⁻¹, { cls:=.type "list",data:=.seq its.toArray L }):=‹R›;subst ep;show a8
  rcases hW i n ys HC w3 with⟨bn,q⟩|⟨go,N,hN,step⟩
  .show qs (Rr (qs (bR (T.done (kf X (eh t caps) scope cl H2.objs.size s H fp) rfl rfl rfl hA i _ s' _ HC _ (bl _ _ _ _ w3) bf (aT bc pD) bb bn) λr s4 ⟨hr,U⟩=>?_)));subst hr;show wpAny_pure ?_;let I5: ~~~HC s4:=I.zw (ch:=fp) U.os U.base U.bJ U.bare λb G=>#[(S b G).2.2.2.1,(S b G).2.1,(S b G).2.2.2.2.1,(S b G).2.2.2.2.2];let e4:=(U.pin _ (wh _ Oi)).1;let fD:fg X pins HC s⁻¹:=I.kK (t7 _) aB;let I6:=I5.Gd fD e4 r3 z3;let#[m,hn,_]:=U.loc;show b1 _ _ ys HC s4 m aB I6 hn (I.kK a6 ?_) q;rw[aj (G0 ac)];show U.free
  .show qs (Rr (qs (bR (T.item (kf X (eh t caps) scope cl H2.objs.size s H fp) rfl rfl rfl hA i _ s' _ HC _ (bl _ _ _ _ w3) bf (aT bc pD) bb go) λr s4 ⟨u,hr,h4⟩=>?_)));subst hr;show qs (bR h4 λ_ s5 ⟨x,H5,I5,r5,y5,a5,bv⟩=>?_);let b3:=(I5.pin _ (wh _ Oi)).2.1;let b2:=I5.pinned (aT bv pD) (T.obj _ _ a5);let mZ:∀{α:Type}{tr:Sem α}{Q:α->oR->Prop}{E':WC}{O:oR},↑tr Q (λ_ _=>False) O->↑tr Q E' O:=λh=>Oj h (λ_ _ z=>z) λ_ _ z=>z.elim;show qs (Sw (hU (X:=kf X (eh t caps) scope cl H2.objs.size s H fp) (i:=0) (x:=t) b2 K.nd rfl (.inl (Qx K.Ly)) r5 (λs6 I6=>?_) (.inr (Qx K.Ly))));let e0:(fC caps σ v0).set 0 (some x)=fC caps σ (some x):=rfl;rw[e0]at I6;show qs (mZ (bR (ht _ _ _ _ _ s6 _ H5 _ I6 (step x H5 y5)) λok s7 ⟨H7,I7,q7⟩=>?_));let a7:∀{Y:St}{H':Hp}{O:oR},Inv (kf X (eh t caps) scope cl H2.objs.size s H fp) ([(s⁻¹, { cls:=.type "list",data:=.seq its.toArray L })]++kD fp s5.heap) Y H' O ->
     O.heap.get? s⁻¹=some { cls:=.type "list",data:=.seq its.toArray L }/\H' s⁻¹=none/\tn (i+1) O.heap/\(∀b∈fp,H' b=none):=λ{Y H' O} Ix=>by
    let a:=Ix.pin _ (wh _ (OB _ Oi));show#[a.1,a.2.1,T.keep _ _ _ a5 λb G o e=>(Ix.pin (b,o) (wh _ (wh _ (dQ G e)))).1,λb G=>?_];let#[o,e,d]:=T.obj _ _ a5 b G;show(Ix.pin (b,o) (wh _ (wh _ (dQ G e)))).2.1
   let bare:∀{pl:WB}{Y:St}{H':Hp}{O:oR},Inv (kf X (eh t caps) scope cl H2.objs.size s H fp) pl Y H' O->Inv (kf X (eh t caps) scope cl H2.objs.size s H fp) [] Y H' O:=λIx=>Ix.jE λp R=>absurd R (by simp);cases ok with
   |false =>
    rw[Wx vr]at q7;let#[m',hm,w7]:=hN _ _ q7;let#[a1,a2,a3,a4]:=a7 I7;show wpAny_pure #[rfl,m',hm,i+1,ys,its,L,H7,some x,bare I7,a3,a4,a2,a1,r3,z3,w7]
   |true =>
    rw[Wy rfl]at q7;show qs (qs (mZ (bR (he _ _ _ _ _ s7 _ H7 _ I7 q7) λy s8 ⟨yv,H8,I8,r8,b4,n8⟩=>?_)));let#[m',hm,w8]:=hN _ _ n8;let#[a1,a2,a3,a4]:=a7 I8;let b5:=r3.length;show qs (Qh F.slot_list_append #[_,a1,rfl] F.entry_list_append (F.args_list_append_2 _ _) (Va s⁻¹ its.toArray L y (by rw[ti];omega)) #[a1,?_]);obtain⟨as,q⟩:∃as:Nat,(s8.heap.update s⁻¹ (Obj.mapSeq (·.push y))).get? s⁻¹=some { cls:=.type "list",data:=.seq (its++[y]).toArray as }:=by
     let q:=QF a1 (·.push y);let ea:its.toArray.push y=(its++[y]).toArray:=(by simp);rw[ea]at q;show#[_,q]
    let I9:Inv (kf X (eh t caps) scope cl H2.objs.size s H fp) [] (fC caps σ (some x)) H8 { s8 with heap:=s8.heap.update s⁻¹ (Obj.mapSeq (·.push y)) }:=
     (bare I8).turned (t':=s8.toks) (λb o G e=>(Heap.get?_update_other _ _ (G0 G)).trans e) a2 ac (.inr (t7 _)) bx (λp R=>absurd (show p∈([]:WB)from R) (by simp))
    show wpAny_pure (wpAny_pure #[rfl,m',hm,i+1,ys++[yv],its++[y],as,H8,some x,I9,T.keep _ _ _ a3 λb G o e=>(Heap.get?_update_other _ _ (show s⁻¹≠b from λz=>a8 (by rw[z];show G))).trans e,a4,a2,q,r3.append (.cons r8 .nil),?_,w8])
    .rw[y3,OC];omega
 show Td (bm _ rfl) (T.self _ 0 _ _ _ bd (bm _ rfl))
theorem vm{hx:Addr}{xc:Value}(K:j5 X scope cl t caps)(F:X.A.handled=some (.ref hx))(hi:M8 hx xc X (.Name t px) iter wi)
  (R:∀C s₀ H₀ ex,Ji (kf X (eh t caps) scope cl C s₀ H₀ ex) ifs tt) (O:∀C s₀ H₀ ex,PE (kf X (eh t caps) scope cl C s₀ H₀ ex) elt te)
  (hs:∀x,Qs iter X.env x=pure x:=by intro _;rfl):PE X (.ListComp elt [#[.Name t px,iter,ifs,(0)]] scope pos) (GY hx xc caps wi tt te):=by
 intros Q I h;rw[eval_ListComp];show SG (use:=none) rfl hs K.Jt K.kind K.names (bR (hi pins s σ H _ I h) λv s1 h1=>bR h1 λam s2 h2=>?_);let#[it,fp,tn,J,H2,e,G,T,ad,f2,W,#[m0,w0],ac,S]:=h2;subst e;show vT (RR:=λab C=>compPost (model X.prog X.w) X.A X.xe none (EP X pins σ Q) ab C) K F R O G T ad f2 w0 S ac ?_;intro D C ys H' s' m z I' hn hC q;show#[m,hn,λh' N=>?_];let#[U,c1,c2,L,c4,c5]:=hC;show#[.ref D,_,I'.turned (t':=s'.toks) (λb o Y e=>(N.2 b Y).trans e) U c1 L c4 c5,rfl,q D z]
end
theorem jc{X:Cx}:eQ X (.builtin "isinstance") (λxs H Q=>∃(e C:Addr)(c:V)(cv:Value)(b:Bool),xs=[.ref e,c]/\((∃D,c=.ref D/\cv=.ref D)\/∃n,c=.ty n/\cv=.type n)/\PySem.W.AF X.K C/\H e=some (xq e (.ref C))/\PM X.K (.ref C) cv=some b/\Q (.bl b) H):=by
 intros xs us Q I r h;let#[e,C,c,cv,b,rfl,N,xc,U,R,q]:=h;let#[u,O,rfl,J,F]:=vals2 r;obtain rfl:u=Value.ref e:=J;let S:O=cv:=by
  rcases N with⟨D,rfl,rfl⟩|⟨n,rfl,rfl⟩
  .show F
  .show F
 subst S;let#[o,vs,G,L,_]:=I.zt U;show QS (PySem.W.D2 xc) I.jL #[o,G,L] R (λz=>nomatch z) λtk=>#[.bl b,H,I.tok _,rfl,q]
theorem vI{prog:tp}{w:By}{A:L5}{hx:Addr}{O:Obj}{R:WG}(U:A.handled=some (.ref hx))(ab:O.data=.fields R)(hc:R[2]?=some .none)(it l:Addr)(nl:l≠it)(nx:it≠hx)(I:WG) :
  Walks prog w A it [it,l,hx] [it] I.size (λi v=>I[i]?=some v) (λi h=>h.IsListIter it l i/\h.IsList l I/\h.get? hx=some O) where
 sub:=λb F=>by simp at F;simp[F]
 frame:=λ_ _ _ st N=>#[st.1.at λo e=>N it (by simp) o e,st.2.1.at λo e=>N l (by simp) o e,N hx (by simp) _ st.2.2]
 item:=λi s Q E hi st G=>by
  show Q3 st.1 st.2.1 (x:=I[i]) (by simp[hi]) λL Y J=>?_;show G _ L s.toks (by simp[hi]) #[Y,st.2.1.extBut J.extBut nl,(J.2 hx (G0 nx)).trans st.2.2] λb o F e=>J.extBut b o (λz=>F (by simp[z])) e
 done:=λs Q E st G=>mU U st.2.2 ab hc nx st.1 st.2.1 (by simp) λL S=>G L s.toks λb o F e=>S b o (λz=>F (by simp[z])) e
 self:=λ_ _ _ _ st G=>Tj st.1 G
theorem z6{X:Cx}{hx:Addr}{xc:Value}(U:X.A.handled=some (.ref hx)):eQ X (.builtin "sum") (λxs H Q=>∃(p:Addr)(ns:List Int),xs=[.ref p]/\bq X.K H p (ns.map V.int)/\H hx=some (xq hx xc)/\Q (.int ns.sum) H):=by
 intros xs us Q I r h;let#[p,ns,rfl,hp,hX,q]:=h;let#[u,rfl,Y]:=vals1 r;cases Y;let#[its,S,pl,hz]:=I.list hp;let J:=intsAre_of S;let hn:=J.numsOf;let#[ys,e]:=J.allInts.items;let O:=pl.isList;rw[e]at O;let#[o,vs,G,_,od,oc]:=I.zt hX;show call_sum_walkG (iter_intList O λs2 e2 st R ac=>?_);subst e2;let N:=Heap.lt_size G;show#[2,2,2,numAt ys,rfl,vI (A:=X.A.in1) U od oc _ p ac (Tx N) (intItems ys),#[st.1,st.2,Heap.get?_push_of_some _ G],λb F=>?_,(λ_ _=>intItems_at),λh' tk t' hk=>?_]
 .rcases se.mp F with z|F
  .show R b (by simp[z])
  .rcases se.mp F with z|F
   .show R b (by simp[z])
   .rw[qj.mp F];change hx<(s.heap.push _).objs.size;rw[Heap.size_push];show Qq N
 .let hs:preSum (numAt ys) ys.size=ns.sum:=by
   rw[preSum_eq,ON (by simp), <-nums_intItems, <-e];rw[show its.toArray.toList=its from rfl,hn]
  let ab:(intItems ys).size=ys.size:=(by simp[intItems]);show#[.int ns.sum,H,I.kept λb o L=>hk b o (λhm=>?_) (Heap.get?_push_of_some _ L),#[_,by rw[ab,hs]],q];show absurd (qj.mp hm▸Heap.lt_size L) (PH _)
theorem xU{hx:Addr}{xc:Value}{X:Cx}{tg a:Ob}{ta:TA}{p pos:QJ}(F:Gl X "range")(hm:X.mg "range" = none)(L:PA X [a] ta)(hs:starEach [a] X.env=[(false,eval a X.env)]:=by rfl):M8 hx xc X tg (.Call (.Name "range" p) [a] [] pos) (FW ta):=by
 intros R I h;show Wl (iI I F hm Ur (OH (bR (L pos pins s σ H _ I h) λus s1 ⟨vs,H1,I1,r1,j,e,G,S,q⟩=>?_) hs rfl));subst e;cases r1 with
 |cons r Y =>
  cases Y;let#[t,rfl]:=r;show call_range_1 (RW (U8 ..) (V4 af af G S) ?_);let z: ~~~H1 _:=I1.kept (t':=s1.toks+1+1) λb o e=>Heap.get?_push_of_some { cls:=Value.type "range",data:=Data.fields ([Value.int 0 s1.toks,Value.int j t,Value.int 1 (s1.toks+1)].toArray) } e;show#[_,[_],2,H1,rfl,z.kept (t':=s1.toks+1+1) λb o e=>Heap.get?_push_of_some _ e,vM _ 0 j.toNat,?_,λb O=>?_,q]
  .let J:(0:Int)+((0:Nat):Int)*1=0:=(by simp);let U:((j.toNat:Nat):Int)-((0:Nat):Int)=Builtin.Range.rangeSize 0 j 1:=(by rw[Ui];split<;>omega);rw[J,U];show Heap.get?_push_size _ rfl
  .let N:=qj.mp O;subst N;show z.kK (t7 _) (z.bJ.fresh (t7 _))
structure pN(hx:Addr)(k:Nat)(A:L5):Prop where
 hd:A.handled=some (.ref hx)
 dp:A.depth+3*k+5<Tz
 un:A.units+16*k+200<P0
theorem pN.deeper{hx:Addr}{k:Nat}{A:L5}(r:pN hx (k+1) A)(env:Sn):pN hx k (A.deeper env):=
 #[r.hd,by have:=r.dp;change A.depth+1+3*k+5<_;omega,by have:=r.un;change A.units+3+16*k+200<_;omega]
theorem cW.hand{k:Nat}{A:L5}(r:cW k A)(hx:Addr):pN hx k (A.mark (some (.ref hx))):=#[rfl,r.dp,r.un]
structure zc(hx:Addr)(P:tp)(w:By)(K:DD)(mg:WD)(base:Heap)(k:Nat)(f:Addr)(fd:qw)(ps:List Str)(sp:Sp):Prop where
 len:∀vs H Q E,sp vs H Q E->vs.length=ps.length
 run:∀(A:L5)(outer:List Sn)(s:oR)(H:Hp)(args:Args)(us:WH)(vs:List V)(Q:VK),pN hx k A->tH P w K mg base A outer s H->Ua s fd args (ps.zip us)->Vals vs us->sp vs H Q E0 ->
  QA (model P w) A (.call (.ref f) args) (CR aU outer P w H s Q E0) s
def Jb(hx:Addr)(P:tp)(w:By)(K:DD)(mg:WD)(base:Heap)(N:List Str)(qual:Str)(scope:Rw)(f:Addr)(cd:Value)(A:L5)(outer:List Sn)(s:oR)(H:Hp):Cx :=
 (qR aU P w K mg base N qual scope f cd { A with handled:=none } outer s H E0).hand hx
theorem J5{hx:Addr}{P:tp}{w:By}{K:DD}{mg:WD}{base:Heap}{N:List Str}{qual:Str}{scope:Rw}{f:Addr}{cd:Value}{A:L5}{outer:List Sn}{s:oR}{H:Hp}(h:A.handled=some (.ref hx)) :
  (Jb hx P w K mg base N qual scope f cd A outer s H).A=A.deeper (Rl qual scope s⁻¹ f cd):=by
 let#[a,b,c,d,e]:=A;obtain rfl:a=some (.ref hx):=h;rfl
section
variable{hx:Addr}
theorem cj.Nx{x qual:Str}{st:N8}{f:Addr}{fd:qw}{N ps:List Str}{k:Nat}{sp:Sp}(F:cj K x qual st f fd)(S:aA N ps (aq st))(len:∀vs H Q E,sp vs H Q E->vs.length=ps.length)
  (am:∀(L:Value)(A:L5)(outer:List Sn)(s:oR)(H:Hp)(vs:List V)(Q:VK),pN hx k (Jb hx P w K mg base N qual (aq st) f L A outer s H).A->sp vs H Q E0 ->
   ∃t,wg (Jb hx P w K mg base N qual (aq st) f L A outer s H).mZ (dD st) t/\t { nx:=λ_ H'=>Q .non H',rt:=Q } (start N vs) H):zc hx P w K mg base (k+1) f fd ps sp:=by
 let#[oc,od,kV,aT,pm,an,L,ct,a0,rfl,lk,as]:=F.ex;show#[len,λA outer s H args us vs Q U G hb r ac=>?_];let hl:=len _ _ _ _ ac;let Y:K.In s.heap:=G.mod.Dr.keeps λb o e=>(G.bs b o e).1;let aB:s.heap.NoLimit:=G.mod.nolimit.keeps λb o e=>(G.bs b o e).1;let ap:∀y∈ps.zip us,(aq st).names.lookup y.1=some .local\/((aq st).names.lookup y.1=some .cell/\((UT (s⁻¹+1) (aq st).names []).lookup y.1).isSome=true):=λy hy=>by
  rcases S.par y.1 (Us (show(y.1,y.2)∈ps.zip us from hy)).1 with z|z
  .show .inl z
  .show .inr #[z,TC _ _ _ (.inl z)]
 show Tp (by have:=U.dp;omega) (Y _ _ lk) rfl S.co S.gen rfl (codeRec_of Y as) (hb _ _ _ _ ?_);show R0 S.kind ap λenv he s1 x=>?_;subst he;show#[aB.keeps x.toInCall.keep,codeAny_func ?_];let eA:=J5 (P:=P) (w:=w) (K:=K) (mg:=mg) (base:=base) (N:=N) (qual:=qual) (scope:=aq st) (f:=f) (cd:=L) (outer:=outer) (s:=s) (H:=H) U.hd;let#[t,ht,hq]:=am L A outer s H vs Q (by rw[eA];show U.deeper _) ac;let e1:tH P w K mg base { A with handled:=none } outer s H:=#[G.frames,G.mod,G.bs,G.Bc,G.jZ,G.Eo,G.bJ,G.bare];let I:Inv (Jb hx P w K mg base N qual (aq st) f L A outer s H) [] (start N vs) H s1:=(rH (CX:=aU) (E:=E0) (A:={ A with handled:=none }) S rfl e1 hl r x).hand hx;let run:=ht [] s1 (start N vs) H _ (I.gJ _) hq;let ab:wpAny (model P w) (Jb hx P w K mg base N qual (aq st) f L A outer s H).A (execs (dD st) (Rl qual (aq st) s⁻¹ f L)) _ _ s1:=run;rw[eA]at ab;show Oj ab (λfl s' hs=>?_) λe s' hs=>hs.elim;let ad:∀{O:St}{H':Hp}{v:V}{u:Value},Inv (Jb hx P w K mg base N qual (aq st) f L A outer s H).mZ [] O H' s'->RelV v u->Q v H'->CE outer P w H s Q u s' :=
  λJ R q=>#[2,J.os,J.bare,J.base,J.bJ,R,q]
 cases fl with
 |ret u=>let#[v,O,H',J,R,q]:=hs;show ad J R q
 |next=>let#[O,H',J,q]:=hs;show ad (v:=V.non) (u:=Value.none) J rfl q
 |brk=>let#[_,_,_,q]:=hs;show Ov q
 |cont=>let#[_,_,_,q]:=hs;show Ov q
variable{X:Cx}{k:Nat}{ps:List Str}{sp:Sp}{x:Str}{p pos:QJ}{e:Ob}{es:List Ob}{t:TA}
theorem Dh(F:zc hx X.prog X.w X.K X.mg X.base k f fd ps sp)(hr:pN hx k X.A)(hg:Gl X x)(hm:X.mg x=some (.ref f))(hk:RZ X.K (.ref f)=true)(hb:Binds X.K fd ps [])
  (R:PA X (e::es) t) (Y:(x==("__debug__" : Str))=false:=by decide) (he:starEach (e::es) X.env=(false,eval e X.env)::starEach es X.env:=by rfl) (O:(backTo pos (starEach es X.env)).any (·.1)=false:=by rfl) :
  PE X (.Call (.Name x p) (e::es) [] pos) (Dx sp [] E0 t):=by
 intros Q I h;show Pf (gI I hg hm ?_ Y);show Rk (h₀:=X.base) I.ok.mod.Dr hk (bR (R pos pins s σ H _ I h) λus s1 ⟨vs,H1,J,r,q⟩=>#[J.jL,?_]) he O;let L:sp vs H1 Q E0:=by
  let z:sp (vs++[]) H1 Q E0:=q;rw[QU]at z;show z
 let U:us.length=ps.length:=(by rw[<-r.length];show F.len _ _ _ _ L);let N:=hb s1 us J.jL (by rw[QU];show U);rw[QU]at N;show Rj (QB (F.run X.A X.stack s1 H1 #[us,[]] us vs Q hr J.Fb N r L) λres s2 G=>?_);cases res with
 |error e=>show Ov G
 |ok S =>
  cases S with
  |ret u=>show J.after G
  |next=>show Ov G
  |brk=>show Ov G
  |cont=>show Ov G
variable{pins:WB}{σ:St}{H:Hp}{s:oR}
theorem Inv.HW{e:Addr}{cls:Value}(I: ~~~H s)(n:D5 X pins H e)(x:∃o vs,s.heap.get? e=some o/\o.cls=cls/\o.data=.fields vs/\vs[2]?=some .none): ~~~(upd H e (xq e cls)) s:=by
 let ne:∀b o,H b=some o->b≠e:=λb o q=>av q n.free;show#[I.ok,I.os,I.bare,#[I.base.keep,I.base.slot,λb o q O hx=>?_,I.base.there,λb xs q=>?_,λb o u q=>?_,λb ps q=>?_],I.loc,I.cell,?_,λy c q=>?_,λp F=>?_,λb u q=>?_,I.len]
 .rw[aj (λz=>by rwa[z,n.old]at q)];show I.base.free b o q O hx
 .let z:=I.base.pM b xs q;rw[aj (ne _ _ z)];show z
 .let z:=I.base.nj b o u q;rw[aj (ne _ _ z)];show z
 .let#[J,z]:=I.base.pb b ps q;show#[J,by rw[aj (ne _ _ z)];show z]
 .rw[aj (G0 n.loc)];show I.free
 .rw[aj (n.cell y c q)];show I.fW y c q
 .let#[R,N,L]:=I.pin p F;show#[R,by rw[aj (n.pin p F)];show N,L]
 .by_cases G:b=e
  .subst G;rwa[ae]at q;show Jx x
  .rw[aj G]at q;show(I.bJ b u q).iP (λ_ _ _ z=>z) (λc z=>by rw[aj (ne _ _ z)];show z) λc xs z=>by rw[aj (ne _ _ z)];show z
end
def Js(K:DD)(C:Addr)(i:Nat)(tb:pK)(ts:Addr->TS):TS:=λD σ H=>tb D (λz cls H'=>exmOne K cls (.ref C)=some true/\∀e,H' e=none->ts e (Jo i D) (z.set i (some (.ref e))) (upd H' e (xq e cls))) σ H
section
variable{X:Cx}{C:Addr}{i:Nat}{x n:Str}{np hpos pos:QJ}{body suite:List N8}{b₀:N8}{tb:pK}{ts:Addr->TS}
theorem EO(hex:X.ex=[])(a2:X.stack=X.env::X.outer)(hf:X.env.frame=some X.env.locals)(hg:Gl X x)(hm:X.mg x=some (.ref C))(hN:X.N.Nodup)(hi:X.N[i]?=some n)(S:X.env.scope.names.lookup n=some .local)
  (hb:p5 X body tb) (hs:∀e,wg (X.hand e).mZ (b₀::suite) (ts e)) (hd:(x==("__debug__" : Str))=false:=by decide) :
  PS X (.Try body [.ExceptHandler (some (.Name x np)) (some n) (b₀::suite) hpos] [] [] pos) (Js X.K C i tb ts):=by
 intros D I h;show wpAny_Try_except (Oj (hb pins s σ H D _ I h) (λf s1 q=>?_) λv s1 hx=>?_)
 .cases f with
  |next=>show Py q
  |ret v=>show q
  |brk=>show q
  |cont=>show q
 let#[e,cls,a0,B,bc,H1,rfl,Y,c2,be,new,a4,hk]:=hx;let iP:B.StaysIn s1.heap:=by
  rcases Y with z|z|⟨_,_,z⟩
  .show z.1
  .show z.1
  .show z.1
 let I1:=be.now iP;let ap:=I1.ok.frames;rw[a2]at Y ap;let as:=I1.ok;show oN ap hf Y c2 λh4 ba a6 c4=>?_;show EM ba c4 λh5 ab aT c5=>?_;let am:=a6.trans aT;let I5:=(be h5 s1.toks ab.1 am).hand e;let#[ob,bb,a1]:=ab.there;show wpAny_handleBy_cons (codeAny_handlers_test (gI (X:=X.hand e) I5 hg hm ?_ hd)) (by intro q;cases q);let LT:Ud (model X.prog X.w) h5 (Ut (.ref e)) cls:=a1▸(Vj bb).andThen .now;show(PySem.W.exm_one I5.jL LT a4).here (s:={ s1 with heap:=h5 }) ?_;show codeAny_handlers_suite_as ?_;show BV ab c5 λh6 ad a7 c6=>?_;let I6:=be h6 s1.toks ad.1 (am.trans a7);let a5:=(I6.HW (cls:=cls) new (by
  let#[o1,g1,g2]:=ad.there;let#[o2,vs,g3,g4,g5]:=c6;obtain rfl:o1=o2:=sN (g1.symm.trans g3);show#[o1,vs,g1,g2,g4,g5])).hand e
 show hU (X:=X.hand e) (v:=.ref e) a5 hN hi (.inl S) rfl (λs7 I7=>?_) (.inr S);show nx (hs e pins s7 _ _ _ (I7.gJ _) (hk e new.free)) λf s8 R=>?_;let U:∀{L:St}{J:Hp}{Q:oR->Prop},Inv (X.hand e).mZ pins L J s8->(∀G,Inv X pins (L.set i none) J G->Q G) ->
   ↑(do bindName X.env n .none;unbindBehindTheSuite X.env n hpos) (λ_ G=>Q G) X.xe s8:=λ{L J Q} F k=>by
  let ac:Inv X pins L J s8:=(F.cm).HL as;let#[m,hn,a3]:=ac.loc;show wpAny_nameGoes_keeps S hn (by rw[ac.ok.kind];rfl) λh' v a8 aB=>k _ (ac.unset hN hi S hn a3 a8 aB)
 cases f with
 |next =>
  let#[L,J,F,q]:=R;show U F λG O=>#[2,O,q]
 |brk =>
  let#[L,J,F,q]:=R;show U F λG O=>#[2,O,q]
 |cont =>
  let#[L,J,F,q]:=R;show U F λG O=>#[2,O,q]
 |ret u =>
  let#[v,L,J,F,rv,q]:=R;show U F λG O=>#[v,2,O,rv,q]
end
theorem wK{hx:Addr}{xc:Value}{caps:List (Str×Nat)}{tt:TT}{te:TE}{σ:St}{H:Hp}{lo:Int}{n:Nat}{F:List V->Hp->Prop}(Pv:Nat->List V->Hp->Prop)(L:Pv 0 [] H)(G:∀i ys H,Pv i ys H->H hx=some (xq hx xc))
  (hs:∀i ys H,i<n->Pv i ys H->tt (fC caps σ (some (.int (lo+i)))) H λb H2=>if b=true then te (fC caps σ (some (.int (lo+i)))) H2 (λy I=>ys.length<sizeLine/\Pv (i+1) (ys++[y]) I)else Pv (i+1) ys H2)
  (hd:∀ys H,Pv n ys H->F ys H):∃W:Nat->Nat->List V->Hp->Prop,(∃m,W 0 m [] H)/\(∀i m ys H,W i m ys H->H hx=some (xq hx xc))/\iL caps tt te σ (Ce lo n) F W:=by
 show#[λi m ys H=>m=n-i/\i<=n/\Pv i ys H,#[n,by simp,Oc _,L],λi m ys H q=>G i ys H q.2.2,?_];rintro i m ys H ⟨rfl,hi,p⟩;cases z:i<n
 .show .inr #[z,Pv (i+1),λN H' J=>#[n-(i+1),af,rfl,z,J],λx H' y=>?_];let#[e,y]:=y;subst e y;show hs i ys _ z p
 .let e:i=n:=af;subst e;show .inl #[t7 _,hd ys H p]
theorem xO{hx:Addr}{xc:Value}{K:DD}{a:Addr}{xs:List V}{caps:List (Str×Nat)}{tt:TT}{te:TE}{σ:St}{H:Hp}{F:List V->Hp->Prop}(Pv:Nat->List V->Hp->Prop)(L:Pv 0 [] H)(G:∀i ys H,Pv i ys H->H hx=some (xq hx xc))(J:∀i ys H,i<=xs.length->Pv i ys H->bq K H a xs)
  (hs:∀i x ys H,xs[i]?=some x->Pv i ys H->tt (fC caps σ (some x)) H λb H2=>if b=true then te (fC caps σ (some x)) H2 (λy I=>ys.length<sizeLine/\Pv (i+1) (ys++[y]) I)else Pv (i+1) ys H2)
  (hd:∀ys H,Pv xs.length ys H->F ys H):∃W:Nat->Nat->List V->Hp->Prop,(∃m,W 0 m [] H)/\(∀i m ys H,W i m ys H->H hx=some (xq hx xc))/\iL caps tt te σ (Er K a) F W:=by
 show#[λi m ys H=>m=xs.length-i/\i<=xs.length/\Pv i ys H,#[xs.length,by simp,Oc _,L],λi m ys H q=>G i ys H q.2.2,?_];rintro i m ys H ⟨rfl,hi,p⟩;let q:=J i ys H hi p;cases z:i<xs.length
 .show .inr #[#[xs,xs[i],q,by simp[z]],Pv (i+1),λO H' N=>#[xs.length-(i+1),af,rfl,z,N],λx H' y=>?_];let#[e,y]:=y;subst e;show hs i x ys _ (y xs q) p
 .let e:i=xs.length:=af;subst e;show .inl #[#[xs,q,t7 _],hd ys H p]
end L2
namespace St
open PySem L2
abbrev yP:N8:=inClass (top 14) 0
abbrev xg:N8:=inClass (top 33) 0
def s0(nf ns:Nat):Pg.PS:=#[λb=>replicate (if b=true then nf else ns) 0,λb=>replicate (if b=true then nf else ns) none,λ_=>none,(0),[]]
theorem Ko{nf ns:Nat}(h:0<nf):Pg.RI (s0 nf ns) []:=by
 let I:∀(b:Bool)(n:Nat)(c:Int),((s0 nf ns).ow b)[n]?=some c->c=0:=λb n c e=>by
  let e:(replicate (if b=true then nf else ns) (0:Int))[n]?=some c:=e;show(List.mem_replicate.mp (vh e)).2
 let F:∀n:Nat,(replicate n (0:Int)).sum=0:=λn=>by
  induction n with
  |zero=>rfl
  |succ n G=>rw[Pq,Sk,G];rfl
 show#[#[(λk p e=>by cases e),(λk b n e=>by cases e),(λk j p e=>by cases e),λb n c e=>.inl (I b n c e),λb=>?_,Pu,λk=>#[(λz=>by cases z),(λ⟨n,e⟩=>by cases e)]],OR _,λe=>?_,(λk z=>by cases z),λk cs c z=>?_,?_,Oc _]
 .change(replicate _ _).length=(replicate _ _).length;rw[OW,OW]
 .have:(replicate nf (0:Int)).length=0:=(by rw[show replicate nf (0:Int)=[]from e];rfl);rw[OW]at this;omega
 .let#[b,n,e,_]:=z;cases e
 .change(replicate nf (0:Int)).sum+(replicate ns (0:Int)).sum=0;rw[F,F];rfl
def PA.nine(A:PA):List Addr:=[A.pg,A.fp,A.fo,A.fc,A.sp,A.so,A.sc,A.pd,A.il]
inductive tG(C CS:Addr)(v:List V)(H:Hp)(Q:VK)(e:XK):Prop
 |mk(p dx:Addr)(nf ns:Nat)(_:v=[.ref p,.int nf,.int ns])(_:nf<=60)(_:ns<=60)(_:H p=some (.ins C dx []))(_:∀(H':Hp)(A:PA),A.pg=p->A.nine.Nodup->(∀b∈A.nine,b=p\/H b=none)->(∀M,bS C CS H' M A (s0 nf ns))->Off (· = p) H H'->Q .non H')
inductive uj(c:CA)(v:List V)(H:Hp)(Q:VK)(e:XK):Prop
 |mk(p dx:Addr)(nf ns:Nat)(_:v=[.ref p,.int nf,.int ns])(_:nf<=60)(_:ns<=60)(_:0<nf)(_:H p=some (.ins c.C dx []))(_:∀(H':Hp)(M:Wz)(a:RA),a.rp=p->ax c H' M a (s0 nf ns) []->(∀b,M b->H b=none)->Off (· = p) H H'->Q .non H')
theorem di{H:Hp}{a b:Addr}{o:HO}(h:upd H a o b=none):b≠a/\H b=none:=by
 cases z:b=a
 .rw[z,ae]at h;cases h
 .rw[aj z]at h;show#[z,h]
theorem iY{C p ow co:Addr}{B:Wz}{os:List Int}{pg:List (Option (List Int))}{H H':Hp}(S:∀M,aY C H M p ow co os pg)(o:Off B H H')(G:¬ B p)(F:¬ B ow)(I:¬ B co):∀M,aY C H' M p ow co os pg:=λM =>
 ((S λb=>M b\/B b).off o (λb z=>.inr z) G F I).less λb z=>.inl z
theorem jk{C CS p dx q ow co:Addr}{fs:List (Str×V)}{os:List Int}{pg:List (Option (List Int))}{H:Hp}(F:H p=some (.ins C dx fs))(S:∀M,aY CS H M q ow co os pg):∀b,b=p\/b=q\/b=ow\/b=co->H b≠none:=by
 intro b z e;let S:=S λ_=>False;let#[I,h2]:=S.ob;let#[_,G,_]:=S.hc;rcases z with z|z|z|z<;>rw[z]at e
 .rw[F]at e;cases e
 .rw[h2]at e;cases e
 .rw[S.hw]at e;cases e
 .rw[G]at e;cases e
theorem qu{C CS:Addr}{H:Hp}{M:Wz}{A:PA}{s:Pg.PS}(G:bS C CS H M A s):∀b∈A.nine,H b≠none:=by
 intro b z e;unfold PA.nine at z;simp only[se,DO,or_false]at z;let#[dx,h1]:=G.ob;let#[_,J]:=G.fr.ob;let#[_,F]:=G.sl.ob;let#[_,I,_]:=G.fr.hc;let#[_,N,_]:=G.sl.hc;let#[l,L,_]:=G.pd;rcases z with z|z|z|z|z|z|z|z|z<;>rw[z]at e
 .rw[h1]at e;cases e
 .rw[J]at e;cases e
 .rw[G.fr.hw]at e;cases e
 .rw[I]at e;cases e
 .rw[F]at e;cases e
 .rw[G.sl.hw]at e;cases e
 .rw[N]at e;cases e
 .rw[L]at e;cases e
 .rw[G.il]at e;cases e
theorem Ml:aA ["self","frames","slots"] ["self","frames","slots"] (aq yP):=L2.bC
theorem DK{f C CS bl:Addr}{fd bc:qw}(F:cj K "__init__" "Paging.__init__" yP f fd)(T:qF K mg C)(MS:Mk K CS bl)(be:mg "Store" = some (.ref CS))
  (bz:↥aN 1 bl bc ["self","many"] (jb CS)) (bb:Binds K bc ["self","many"] []):↥aN 3 f fd ["self","frames","slots"] (tG C CS):=by
 show F.dE Ml (λce A outer s H vs Q E hr h=>?_);let#[p,dx,nf,ns,rfl,n1,n2,hp,k]:=h;show#[_,(ai (gq (pv 0) (ou MS bz (hr.mono ar) (by rfl) be bb .nil aw (aa (pv 1) ag)) rfl)
  (ai (gq (pv 0) (ou MS bz (hr.mono ar) (by rfl) be bb .nil aw (aa (pv 2) ag)) rfl)
  (ai (gq (pv 0) eE rfl)
  (ai (gq (pv 0) ah rfl)
  (ao (gq (pv 0) (bE ag) rfl)))))),?_]
 show#[0,λfp b0 aB bi b8=>#[fp,b0,nf,rfl,n1,ae,λO R H1 Y U bH S1 o1=>#[4]]];let m1:aR H H1:=λb u e=>o1 b u (by rw[aj (av e aB),aj (av e bi)];show e) (av e aB);let#[q1,Y]:=di Y;let#[q2,U]:=di U;let Y:=(di Y).2;let U:=(di U).2;let bY:=m1 _ _ hp;let ap:fp≠p:=G0 (av hp aB);let ad:O≠p:=G0 (av hp Y);let am:R≠p:=G0 (av hp U);clear o1 bi b8;show#[0,p,C,dx,[],rfl,bY,T.cl,T.nF,ar,?_];let o2:Off (· = p) H1 (upd H1 p (.ins C dx (bu "frames" (.ref fp) []))):=Off.wr rfl;let bd:upd H1 p (.ins C dx (bu "frames" (.ref fp) [])) p=some (.ins C dx (bu "frames" (.ref fp) [])):=ae;generalize upd H1 p (.ins C dx (bu "frames" (.ref fp) []))=H2 at *;let S2:=iY S1 o2 ap ad am;let O2:Off (· = p) H H2:=λb o e z=>o2 b o (m1 b o e) z;show#[0,λsp bJ a7 ba ca=>#[sp,bJ,ns,rfl,n2,ae,λso sc H3 ac as cc S3 o3=>#[4]]];let m3:aR H2 H3:=λb u e=>o3 b u (by rw[aj (av e a7),aj (av e ba)];show e) (av e a7);let#[q3,ac]:=di ac;let#[q4,as]:=di as;let ac:=(di ac).2;let as:=(di as).2;clear o3 ba ca;let ab:∀b,b=p\/b=fp\/b=O\/b=R->H2 b≠none:=jk bd S2;let bI:=iY (B:=λ_=>False) S2 (λb o e _=>m3 b o e) id id id;let b7:=m3 _ _ bd;show#[0,p,C,dx,0,b7,T.cl,T.nS,by change 1<1000;decide,?_];let a0:∀{b},H2 b=none->b≠p/\b≠fp/\b≠O/\b≠R/\H b=none:=λ{b} h=>#[λz=>ab b (.inl z) h,λz=>ab b (.inr (.inl z)) h,λz=>ab b (.inr (.inr (.inl z))) h,λz=>ab b (.inr (.inr (.inr z))) h,by
  cases e:H b with
  |none=>rfl
  |some u=>rwa[O2 b u e λz=>ab b (.inl z) h]at h]
 let#[a1,a2,a3,a4,a5]:=a0 a7;let#[b1,b2,b3,b4,b5]:=a0 ac;let#[c1,c2,c3,c4,c5]:=a0 as;let o4:Off (· = p) H3 (upd H3 p (.ins C dx (bu "slots" (.ref sp) (bu "frames" (.ref fp) [])))):=Off.wr rfl;let a6:upd H3 p (.ins C dx (bu "slots" (.ref sp) (bu "frames" (.ref fp) []))) p=some (.ins C dx (bu "slots" (.ref sp) (bu "frames" (.ref fp) []))):=ae;generalize upd H3 p (.ins C dx (bu "slots" (.ref sp) (bu "frames" (.ref fp) [])))=S at *;let bn:=iY bI o4 ap ad am;let bf:=iY S3 o4 a1 b1 c1;let O4:Off (· = p) H S:=λb o e z=>o4 b o (m3 b o (O2 b o e z)) z;let b6:∀{b},S b=none->b≠p/\b≠fp/\b≠O/\b≠R/\b≠sp/\b≠so/\b≠sc/\H b=none:=λ{b} h=>by
  let L:=jk a6 bn;let N:=jk a6 bf;show#[λz=>L b (.inl z) h,λz=>L b (.inr (.inl z)) h,λz=>L b (.inr (.inr (.inl z))) h,λz=>L b (.inr (.inr (.inr z))) h,λz=>N b (.inr (.inl z)) h,λz=>N b (.inr (.inr (.inl z))) h,λz=>N b (.inr (.inr (.inr z))) h,?_];cases e:H b with
  |none=>rfl
  |some u=>rwa[O4 b u e λz=>L b (.inl z) h]at h
 intro pd bv;let#[d1,d2,d3,d4,d5,d6,d7,d8]:=b6 bv;show#[0,p,C,dx,0,by rw[aj (G0 d1)];show a6,T.cl,T.nP,by change 2<1000;decide,?_];show#[0,p,C,dx,0,ae,T.cl,T.nL,by change 3<1000;decide,?_];let o7:Off (· = p) S (upd (upd (upd S pd (.dK [])) p (.ins C dx (bu "places" (.ref pd) (bu "slots" (.ref sp) (bu "frames" (.ref fp) []))))) p (.ins C dx (bu "last_sheet" (.int 0) (bu "places" (.ref pd) (bu "slots" (.ref sp) (bu "frames" (.ref fp) [])))))):=λb o e z=>by
  rw[aj z,aj z,aj (av e bv)];show e
 let aT:upd (upd (upd S pd (.dK [])) p (.ins C dx (bu "places" (.ref pd) (bu "slots" (.ref sp) (bu "frames" (.ref fp) []))))) p (.ins C dx (bu "last_sheet" (.int 0) (bu "places" (.ref pd) (bu "slots" (.ref sp) (bu "frames" (.ref fp) []))))) p=some (.ins C dx (bu "last_sheet" (.int 0) (bu "places" (.ref pd) (bu "slots" (.ref sp) (bu "frames" (.ref fp) []))))):=ae;let bm:upd (upd (upd S pd (.dK [])) p (.ins C dx (bu "places" (.ref pd) (bu "slots" (.ref sp) (bu "frames" (.ref fp) []))))) p (.ins C dx (bu "last_sheet" (.int 0) (bu "places" (.ref pd) (bu "slots" (.ref sp) (bu "frames" (.ref fp) []))))) pd=some (.dK []):=(by rw[aj d1,aj d1,ae]);generalize upd (upd (upd S pd (.dK [])) p (.ins C dx (bu "places" (.ref pd) (bu "slots" (.ref sp) (bu "frames" (.ref fp) []))))) p (.ins C dx (bu "last_sheet" (.int 0) (bu "places" (.ref pd) (bu "slots" (.ref sp) (bu "frames" (.ref fp) [])))))=H7 at *;let bx:=iY bn o7 ap ad am;let a8:=iY bf o7 a1 b1 c1;let O7:Off (· = p) H H7:=λb o e z=>o7 b o (O4 b o e z) z;show#[ar,λG J=>?_];let L:=jk aT bx;let N:=jk aT a8;let i1:G≠p:=λz=>L G (.inl z) J;let i2:G≠fp:=λz=>L G (.inr (.inl z)) J;let i3:G≠O:=λz=>L G (.inr (.inr (.inl z))) J;let i4:G≠R:=λz=>L G (.inr (.inr (.inr z))) J;let i5:G≠sp:=λz=>N G (.inr (.inl z)) J;let i6:G≠so:=λz=>N G (.inr (.inr (.inl z))) J;let i7:G≠sc:=λz=>N G (.inr (.inr (.inr z))) J;let i8:G≠pd:=λz=>(by rwa[z,bm]at J);let i9:H G=none:=by
  cases e:H G with
  |none=>rfl
  |some u=>rwa[O7 G u e i1]at J
 show#[0,p,C,dx,0,by rw[aj (G0 i1)];show aT,T.cl,T.nI,by change 4<1000;decide,?_];let o9:Off (· = p) H7 (upd (upd H7 G (.lst [])) p (.ins C dx (cX #[p,fp,O,R,sp,so,sc,pd,G] 0))):=λb o e z=>by
  rw[aj z,aj (av e J)];show e
 show k _ #[p,fp,O,R,sp,so,sc,pd,G] rfl ?_ ?_ (λM=>#[#[dx,ae],iY bx o9 ap ad am M,iY a8 o9 a1 b1 c1 M,3,[],?_,Pu,(λx hx=>by cases hx),λ_=>rfl,Oc _]) (λb o e z=>o9 b o (O7 b o e z) z)
 .unfold PA.nine;simp only[N6,se,DO,or_false,not_or,not_false_eq_true,Pu,and_true];show#[#[λh=>ap h.symm,λh=>ad h.symm,λh=>am h.symm,λh=>a1 h.symm,λh=>b1 h.symm,λh=>c1 h.symm,λh=>d1 h.symm,λh=>i1 h.symm],#[λh=>q1 h.symm,λh=>q2 h.symm,λh=>a2 h.symm,λh=>b2 h.symm,λh=>c2 h.symm,λh=>d2 h.symm,λh=>i2 h.symm],#[λh=>(G0 bH) h.symm,λh=>a3 h.symm,λh=>b3 h.symm,λh=>c3 h.symm,λh=>d3 h.symm,λh=>i3 h.symm],#[λh=>a4 h.symm,λh=>b4 h.symm,λh=>c4 h.symm,λh=>d4 h.symm,λh=>i4 h.symm],#[λh=>q3 h.symm,λh=>q4 h.symm,λh=>d5 h.symm,λh=>i5 h.symm],#[λh=>(G0 cc) h.symm,λh=>d6 h.symm,λh=>i6 h.symm],#[λh=>d7 h.symm,λh=>i7 h.symm],λh=>i8 h.symm]
 .intro b I;unfold PA.nine at I;simp only[se,DO,or_false]at I;rcases I with I|I|I|I|I|I|I|I|I<;>rw[I]
  .show .inl rfl
  .show .inr aB
  .show .inr Y
  .show .inr U
  .show .inr a5
  .show .inr b5
  .show .inr c5
  .show .inr d8
  .show .inr i9
 .change upd (upd H7 G (.lst [])) p _ G=_;rw[aj i1,ae];rfl
 .intro b;change(replicate _ _).length<=60;rw[OW];cases b
  .show n2
  .show n1
 .change upd (upd H7 G (.lst [])) p _ pd=_;rw[aj d1,aj (G0 i8)];show bm
theorem LY:aA ["self","frames","slots"] ["self","frames","slots"] (aq xg):=L2.bC
theorem Dq{f ac:Addr}{fd as:qw}{c:CA}(F:cj K "__init__" "Rooms.__init__" xg f fd)(T:lT K mg c)(MP:Mk K c.P ac)(a6:mg "Paging" = some (.ref c.P))
  (a0:↥aN 3 ac as ["self","frames","slots"] (tG c.P c.S)) (a7:Binds K as ["self","frames","slots"] []):↥aN 5 f fd ["self","frames","slots"] (uj c):=by
 show F.dE LY (λba A outer s H vs Q E hr h=>?_);let#[p,dx,nf,ns,rfl,n1,n2,n3,hp,k]:=h;show#[_,(ai (gq (pv 0) (ou MP a0 (hr.mono ar) (by rfl) a6 a7 .nil aw (aa (pv 1) (aa (pv 2) ag))) rfl)
  (ai (gq (pv 0) (ay bD (pv 1) (pv 2)) rfl)
  (ao (gq (pv 0) eE rfl)))),?_]
 show#[0,0,λpg a4 Y a5 bb=>#[pg,a4,nf,ns,rfl,n1,n2,ae,λH1 G eA a8 ad GA o1=>#[4]]];let R:aR H H1:=λb u e=>o1 b u (by rw[aj (av e Y),aj (av e a5)];show e) (av e Y);let fr:∀b∈G.nine,H b=none:=λb L=>by
  rcases ad b L with h|h
  .rw[h];show Y
  .show(di (di h).2).2
 let aB:=R _ _ hp;clear o1 ad;show#[0,p,c.C,dx,[],rfl,aB,T.cl,T.nP,ar,?_];show#[0,0,_,0,4];show#[0,p,c.C,dx,0,ae,T.cl,T.nT,by change 1<1000;decide,?_];rw[<-eA];let N:Off (· = p) H1 (upd (upd H1 p (.ins c.C dx (bu "paging" (.ref G.pg) []))) p (.ins c.C dx (bu "total" (.int ((nf:Int)+ns)) (bu "paging" (.ref G.pg) [])))):=λb o e z=>(by rw[aj z,aj z];show e);let am:upd (upd H1 p (.ins c.C dx (bu "paging" (.ref G.pg) []))) p (.ins c.C dx (bu "total" (.int ((nf:Int)+ns)) (bu "paging" (.ref G.pg) []))) p=some (.ins c.C dx (bu "total" (.int ((nf:Int)+ns)) (bu "paging" (.ref G.pg) []))):=ae;generalize upd (upd H1 p (.ins c.C dx (bu "paging" (.ref G.pg) []))) p (.ins c.C dx (bu "total" (.int ((nf:Int)+ns)) (bu "paging" (.ref G.pg) [])))=J at *;intro rd I;let O:rd≠p:=G0 (av am I);show#[0,p,c.C,dx,0,by rw[aj (G0 O)];show am,T.cl,T.nR,by change 2<1000;decide,?_];let o5:Off (· = p) H1 (upd (upd J rd (.dK [])) p (.ins c.C dx (fV G.pg ((nf:Int)+ns) rd))):=λb o e z=>(by rw[aj z,aj (av (N b o e z) I)];show N b o e z);let ab:∀b∈G.nine,b≠p:=λb L z=>(by rw[z]at L;have:=fr p L;rwa[hp]at this);let U:∀b,G.own b->b∈G.nine:=λb h=>by
  unfold PA.own at h;unfold PA.nine;simp only[se,DO,or_false]at h ⊢;rcases h with h|h|h|h|h|h|h<;>simp[h]
 let n9:∀i {b},G.nine[i]?=some b->b≠p:=λi b h=>ab b (vh h);let G5:∀M,bS c.P c.S (upd (upd J rd (.dK [])) p (.ins c.C dx (fV G.pg ((nf:Int)+ns) rd))) M G (s0 nf ns):=λM=>(GA λb=>M b\/b=p).move o5 (λb z=>.inr z) (λb z=>.inl (.inl z)) (λb z=>ab b (U b z)) (n9 1 rfl) (n9 4 rfl) (λb xs e z=>by rwa[z,aB]at e);let a1:upd (upd J rd (.dK [])) p (.ins c.C dx (fV G.pg ((nf:Int)+ns) rd)) p=some (.ins c.C dx (fV G.pg ((nf:Int)+ns) rd)):=ae;let ap:upd (upd J rd (.dK [])) p (.ins c.C dx (fV G.pg ((nf:Int)+ns) rd)) rd=some (.dK []):=(by rw[aj O,ae]);let EX:¬ rd∈G.nine:=λz=>by
  let a3:=qu (GA λ_=>False) rd z;cases e:H1 rd with
  |none=>show a3 e
  |some u=>rwa[N _ _ e O]at I
 let aT:H rd=none:=by
  cases e:H rd with
  |none=>rfl
  |some u=>rwa[N _ _ (R _ _ e) O]at I
 let a2:Off (· = p) H (upd (upd J rd (.dK [])) p (.ins c.C dx (fV G.pg ((nf:Int)+ns) rd))):=λb o e z=>o5 b o (R b o e) z;show k _ (λb=>b∈G.nine\/b=rd) #[G,p,rd] rfl #[#[dx,?_],G5 _,#[a8,λx hx=>.inl hx],λb z=>?_,ap,Pu,(λx hx=>by cases hx),(λx hx=>by cases hx),(λx hx=>by cases hx),(λx hx=>by cases hx),.inr rfl,λz=>EX (U _ z),λz=>ab _ (U _ z) rfl] (λb z=>z.elim (fr b) λz=>by rw[z];show aT) a2
 .let e:mO (s0 nf ns)=(nf:Int)+ns:=by
   unfold mO;rw[show((s0 nf ns).ow true).length=nf from OW,show((s0 nf ns).ow false).length=ns from OW];omega
  rw[e];show a1
 .rcases z with z|z
  .show qu (G5 λ_=>False) b z
  .intro w;rw[z]at w;show absurd (ap.symm.trans w) (by simp)
end St
namespace Pr
open PySem L2 Rm Tb
def top(i:Nat):N8:=Rm.top i
abbrev Def:=Rm.Def
abbrev au{H:Hp}{l:Addr}{X:HO}(h:H l=none):aR H (upd H l X):=Tb.au h
end Pr
namespace L2
open PySem PySem.Spec PyProof.Rows
end L2
namespace Pr
open PySem L2 Rm Tb
theorem qD:Om "sum" = some (.builtin "sum"):=ak
theorem fZ{ad n:Int}{F:List Int}(h:¬ cD ad n F):(aD ad n).length<=64/\∀q∈aD ad n,q∈F:=by
 unfold aD;cases e:n=0
 .rw[Wy e];show#[Oc _,λ_ h=>nomatch h]
 .rw[Wx e];let G:0<n:=by
   have:¬ n<0:=λz=>h (.inl z);omega
  let h1:¬ br (dR ad) (dP ad n):=λz=>h (.inr #[G,.inl z]);let h2:∀q∈aP (dR ad) (dP ad n),q∈F:=OO λz=>h (.inr #[G,.inr z]);show#[?_,h2];unfold aP;rw[qi,PF];let J:¬ dR ad<0:=λz=>h1 (.inr (.inl z));let I:¬ 64<dR ad+dP ad n:=λz=>h1 (.inr (.inr z));omega
variable{C:Addr}{H H':Hp}{p a b:Addr}{mO:Int}{W Z:cN}{t:Int}
abbrev sj:N8:=top 35
abbrev xN:N8:=top 36
abbrev Dm:N8:=top 37
abbrev B4:N8:=top 38
abbrev p8:N8:=top 39
abbrev pG:N8:=top 40
abbrev DX:N8:=top 41
abbrev LL:N8:=top 42
abbrev iT:N8:=top 43
abbrev Cn:N8:=top 44
structure lK(mg:WD):Prop where
 range:mg "range" = none
 enumerate:mg "enumerate" = none
 sum:mg "sum" = none
 int:mg "int" = none
 uP:mg "isinstance" = none
 min:mg "min" = none
 list:mg "list" = none
 len:mg "len" = none
 dict:mg "dict" = none
 bool:mg "bool" = none
 sorted:mg "sorted" = none
 tuple:mg "tuple" = none
inductive ip where
 |noTask|noPage|noRoom|taken
 deriving DecidableEq
def wordOf:ip->Str
 |.noTask => "NoTask" |.noPage => "NoPage" |.noRoom => "NoRoom" |.taken => "Taken"
inductive f9 where
 |begin(t:Int)
 |close(t:Int)
 |map(t pg m:Int)
 |drop(t pg m:Int)
 |peek(t ad n:Int)
 |poke(t ad:Int)(cs:List Int)
 |copy(t o:Int)
def fj(H:Hp)(d:Addr):f9->Prop
 |.begin t=>H d=some (.tup [.str "begin",.int t])
 |.close t=>H d=some (.tup [.str "close",.int t])
 |.map t pg m=>H d=some (.tup [.str "map",.int t,.int pg,.int m])
 |.drop t pg m=>H d=some (.tup [.str "drop",.int t,.int pg,.int m])
 |.peek t ad n=>H d=some (.tup [.str "peek",.int t,.int ad,.int n])
 |.poke t ad cs=>∃c,H d=some (.tup [.str "poke",.int t,.int ad,.ref c])/\H c=some (.lst (cs.map V.int))
 |.copy t o=>H d=some (.tup [.str "copy",.int t,.int o])
def kindOf:f9->Str
 |.begin _ => "begin" |.close _ => "close" |.map .. => "map" |.drop .. => "drop" |.peek .. => "peek" |.poke .. => "poke" |.copy .. => "copy"
theorem fj.kind{H:Hp}{d:Addr}{D:f9}(h:fj H d D):∃(r:List V),H d=some (.tup (.str (kindOf D)::r)):=by
 cases D with
 |poke t ad cs=>let#[c,h1,h2]:=h;show#[_,h1]
 |_=>show#[_,h]
abbrev Lo(n:Int):Prop:=n.natAbs.log2<1920
def Lg:f9->Prop
 |.begin t=>Lo t
 |.close t=>Lo t
 |.map t pg m=>Lo t/\Lo pg/\Lo m
 |.drop t pg m=>Lo t/\Lo pg/\Lo m
 |.peek t ad n=>Lo t/\Lo n/\Lo (dR ad)/\Lo (dP ad n)
 |.poke t ad cs=>Lo t/\cs.length<=500/\Lo (dR ad)/\Lo (dP ad cs.length)
 |.copy t o=>Lo t/\Lo o
theorem Aa(x:Int):EY (x%2147483647) (x%2147483647):=by
 let F:=OI x (show(2147483647:Int)≠0 by decide);let z:=Ol x (show(0:Int)<2147483647 by decide);show .inl #[af,af]
theorem nZ{n:Int}(G : -(10^60)<n)(h1:n<10^60):n.natAbs.log2<1920:=by
 cases z:n.natAbs=0
 .rw[z];decide
 .rw[log2_lt z];let F:n.natAbs<10^60:=af;let I:(10:Nat)^60<2^1920:=ak;omega
theorem fM{xs:List Int}{i:Int}(F:0<=i)(h1:i<xs.length):∃q∈xs,zz (xs.map V.int) i=some (.int q):=by
 let z:i.toNat<xs.length:=af;show#[xs[i.toNat],P6 z,?_];unfold zz xk;rw[qi,Wy F,Wy h1];change(xs.map V.int)[i.toNat]?=_;rw[vu,M4 z];rfl
inductive oG(v:List V)(H:Hp)(Q:VK)(e:XK):Prop
 |mk(c j:Int)(d:Bool)(_:v=[.int c,.int j,.bl d])(_:∀n:Int,Q (.int n) H)
inductive uI(v:List V)(H:Hp)(Q:VK)(e:XK):Prop
 |mk(c:Int)(_:v=[.int c])(_:∀(k3 k4:Int)(H':Hp)(l:Addr),3<=k3->k3<=11->12<=k4->k4<10^60->aR H H'->H l=none->H' l=some (.lst ([1,2,k3,k4].map V.int))->Q (.ref l) H')
theorem Jy:aA ["_law_cell","_law_k","_law_digits","_law_once"] ["_law_cell","_law_k","_law_digits"] (aq sj):=L2.bC
theorem zW(F:cj K "_law_number" "_law_number" sj f fd):↥aN 1 f fd ["_law_cell","_law_k","_law_digits"] oG:=by
 show F.dE Jy (λz A outer s H vs Q E G h=>?_);let#[c,j,d,rfl,k]:=h;show#[_,(ai (bj (cO (pv 2)) (ao (aJ (ay bw (pv 0) (ay gp ah ah)))) aI)
  (ai (cQ 3 Jy.nd (ay bw (ay kh (ay bD (ay bD (ay bw (pv 0) (ay gp ah ah)) (ay kh ah (pv 1))) ah) ah) ah))
  (ao (aJ (ay bD (ay kh (pv 3) ah) (ay bw (ay kh (pv 3) (pv 3)) ah)))))),?_]
 show#[0,d,4];show dX (λe=>?_) (λe=>?_)
 .show#[0,_,0,rfl,#[ar,ar,ar],_,0,rfl,(by change(0:Int)<10^60;decide),k _]
 .show#[0,_,0,rfl,#[ar,ar,ar],_,0,rfl,(by change(0:Int)<10^40;decide),0,_,0,rfl,.inl #[ar,ar],_,0,5,0,5,0,rfl,.inr #[ar,ar],_,0,rfl,(by change(0:Int)<2147483647;decide),?_];show#[0,_,0,rfl,.inr #[ar,ar],0,0,_,0,rfl,Aa _,_,0,rfl,(by change(0:Int)<2147483629;decide),_,0,rfl,k _]
theorem Nn:(10:Int)^Qz 59=100000000000000000000000000000000000000000000000000000000000:=ar
theorem HH:(10:Int)^Qz 40=10000000000000000000000000000000000000000:=ar
theorem LJ:(10:Int)^Qz 55=10000000000000000000000000000000000000000000000000000000:=ar
theorem MA:(10:Int)^Qz 50=100000000000000000000000000000000000000000000000000:=ar
theorem Ej:(10:Int)^60=1000000000000000000000000000000000000000000000000000000000000:=ar
theorem Mp:aA ["_law_cell"] ["_law_cell"] (aq xN):=L2.bC
theorem Bs(F:cj K "_law_tasks" "_law_tasks" xN f fd):↥aN 1 f fd ["_law_cell"] uI:=by
 show F.dE Mp (λJ A outer s H vs Q E N h=>?_);let#[c,rfl,k]:=h;show#[_,(ao (aJ (bE (aa ah (aa ah (aa (ay bD ah (ay bw (pv 0) ah)) (aa (ay bD (ay gp ah ah) (ay bw (pv 0) (ay gp ah ah))) ag))))))),?_];let L:=OI c (show(9:Int)≠0 by decide);let O:=Ol c (show(0:Int)<9 by decide);let z:=OI c (show(10:Int)^Qz 40≠0 by decide);let G:=Ol c (show(0:Int)<(10:Int)^Qz 40 by decide);show#[0,_,0,rfl,(by change(0:Int)<9;decide),_,0,5,0,rfl,#[ar,ar,ar],0,_,0,rfl,#[ar,ar,ar],_,0,rfl,(by change(0:Int)<10^Qz 40;decide),_,0,rfl,mM,λl I=>k (3+c%9) ((10:Int)^Qz 59+c%(10:Int)^Qz 40) _ l af af ?_ ?_ (au I) I ae]
 .rw[Nn,HH];rw[HH]at z G;omega
 .rw[Nn,Ej,HH];rw[HH]at z G;omega
theorem ks_ne{a b:Str}(h:¬ a=b):¬ V.str a=V.str b:=λz=>h (V.str.inj z)
theorem MO:aA ["_law_rooms","_law_deed_here"] ["_law_rooms","_law_deed_here"] (aq LL):=L2.bC
theorem KN:Om "ValueError" = some (.type "ValueError"):=ak
structure Nl(K:DD)(mg:WD)(cl4:ip->Addr):Prop where
 xc:∀X,PySem.W.AF K (cl4 X)
 ve:mg "ValueError" = none
 NF:∀X,PM K (.ref (cl4 X)) (.type "ValueError")=some true
 Lu:∀X,mg (wordOf X)=some (.ref (cl4 X))
 LA:∀X Y,PM K (.ref (cl4 X)) (.ref (cl4 Y))=some (decide (X=Y))
def kb(X:ip):List Bool:=[decide (X=.noTask),decide (X=.noPage),decide (X=.noRoom),decide (X=.taken)]
def HA:ip->Nat
 |.noTask=>0|.noPage=>1|.noRoom=>2|.taken=>3
def mS:List V:=[.str "NoTask",.str "NoPage",.str "NoRoom",.str "Taken"]
theorem Io(X:ip):((kb X).map λb=>if b=true then(1:Int)else 0).sum=1:=by cases X<;>rfl
theorem J9(X:ip):∀i:Nat,i<4->zz ((kb X).map V.bl) (0+(i:Int))=some (.bl (decide (i=HA X))):=by
 intro i hi
 match i,hi with
 |0,_=>cases X<;>rfl
 |1,_=>cases X<;>rfl
 |2,_=>cases X<;>rfl
 |3,_=>cases X<;>rfl
theorem IZ{σ:St}{H:Hp}{Q:Bool->Hp->Prop}(h:Q true H):vd σ H Q:=h
theorem uQ{k:Str}{r:List V}:zz (V.str k::r) 0=some (.str k):=by
 unfold zz xk;rw[Wy ar,Wy (by rw[K4];omega)];rfl
theorem Ea(X:ip):zz mS (0+((HA X:Nat):Int))=some (.str (wordOf X)):=by cases X<;>rfl
inductive yw(cl4:ip->Addr)(hx:Addr)(v:List V)(H:Hp)(Q:VK)(e:XK):Prop
 |mk(X:ip)(_:v=[.ref hx])(_:H hx=some (xq hx (.ref (cl4 X))))(_:∀H',aR H H'->Q (.str (wordOf X)) H')
theorem Fv:aA ["_law_caught","_law_kinds","_law_words"] ["_law_caught"] (aq iT):=L2.bC
theorem EB{f e:Addr}{I:ip->Addr}{fd:qw}(F:cj K "_law_word" "_law_word" iT f fd)(T:lK mg)(G:Nl K mg I):zc e P w K mg base 1 f fd ["_law_caught"] (yw I e):=by
 show F.Nx Fv (λvs H Q E h=>?_) (λa7 A outer s H vs Q hr h=>?_)
 .let#[X,rfl,_]:=h;rfl
 .let#[X,rfl,N,k]:=h;let hs:=vl;let U:(aq iT).names.lookup ("isinstance" : Str)=some NameKind.globalImplicit:=ak;let a0:(aq iT).names.lookup ("NoPage" : Str)=some NameKind.globalImplicit:=ak;let a2:(aq iT).names.lookup ("NoTask" : Str)=some NameKind.globalImplicit:=ak;let a3:(aq iT).names.lookup ("Taken" : Str)=some NameKind.globalImplicit:=ak;let a5:(aq iT).names.lookup ("NoRoom" : Str)=some NameKind.globalImplicit:=ak;let ap:(aq iT).names.lookup ("sum" : Str)=some NameKind.globalImplicit:=ak;let aT:(aq iT).names.lookup ("ValueError" : Str)=some NameKind.globalImplicit:=ak;let a4:(aq iT).names.lookup ("range" : Str)=some NameKind.globalImplicit:=ak;show#[_,(ai (cQ 1 Fv.nd (bE (aa (aO jc U T.uP bo (aa (pv 0) (aa (bG (v:=.ref (I .noTask)) a2 (G.Lu .noTask) rfl) ag))) (aa (aO jc U T.uP bo (aa (pv 0) (aa (bG (v:=.ref (I .noPage)) a0 (G.Lu .noPage) rfl) ag))) ag))))
   (ai (cQ 1 Fv.nd (ay sA (pv 1) (bE (aa (aO jc U T.uP bo (aa (pv 0) (aa (bG (v:=.ref (I .noRoom)) a5 (G.Lu .noRoom) rfl) ag))) (aa (aO jc U T.uP bo (aa (pv 0) (aa (bG (v:=.ref (I .taken)) a3 (G.Lu .taken) rfl) ag))) ag)))))
   (ai (cQ 2 Fv.nd (bE (aa aS (aa aS (aa aS (aa aS ag))))))
   (ai (bj (PW.pt (fJ (az qY (aO (z6 (xc:=.ref (I X)) hr.hd) ap T.sum qD (aa (vm (hx:=e) (xc:=.ref (I X)) (cl:=[]) (caps:=[]) #[rfl,ak,ak,rfl,by kernel_rfl,by intro p J;simp at J,by kernel_rfl,by intro p J;simp at J,ak] hr.hd (C5 (pv 1)) (λ_ _ _ _=>iG) (λ_ _ _ _=>(cJ q8 (by rfl) T.int xf (aa (pv 0) ag)))) ag)) ah (aF _)) (fN (fP (cO (aO jc U T.uP bo (aa (pv 0) (aa (dW (v:=.ty "ValueError") aT G.ve KN rfl) ag)))))))) (ao (aJ aS)) aI)
   (ao (aJ (aM cu (vm (hx:=e) (xc:=.ref (I X)) (cl:=[("_law_words",s⁻¹+2),("_law_kinds",s⁻¹+1)]) (caps:=[("_law_kinds",1),("_law_words",2)]) #[rfl,ak,ak,rfl,by kernel_rfl,by intro p J;simp only[se,DO,or_false]at J;rcases J with rfl|rfl<;>first|rfl|show#[rfl,.inl rfl,.inl rfl]|show#[rfl,.inl rfl,.inr rfl],by kernel_rfl,by intro p J;simp only[se,DO,or_false]at J;rcases J with rfl|rfl<;>first|rfl|show#[rfl,.inl rfl,.inl rfl]|show#[rfl,.inl rfl,.inr rfl],ak] hr.hd (xU a4 T.range (aa ah ag)) (λ_ _ _ _=>ER (cO (aM (show KA _ (Cg K)from cu) (pv 1) (pv 0) bX))) (λ_ _ _ _=>(aM (show KA _ (Cg K)from cu) (pv 2) (pv 0) bX))) ah bX))))))),?_]
  show Lp λ_ L=>?_;show#[0,e,2,_,0,.inl #[0,rfl],G.xc X,N,G.LA X .noTask,0,e,2,_,0,.inl #[0,rfl],G.xc X,N,G.LA X .noPage,fG,λR am=>?_];let s0:=au (X:=.lst [.bl (decide (X=.noTask)),.bl (decide (X=.noPage))]) am;let e0:(upd H R (.lst [.bl (decide (X=.noTask)),.bl (decide (X=.noPage))])) R=some (.lst [.bl (decide (X=.noTask)),.bl (decide (X=.noPage))]):=ae;show L _ _ _ ?_;change cn _ _ _ [some (V.ref e),some (.ref R),none] (upd H R (.lst [.bl (decide (X=.noTask)),.bl (decide (X=.noPage))]));generalize upd H R (.lst [.bl (decide (X=.noTask)),.bl (decide (X=.noPage))])=H0 at *;show Lp λ_ L=>?_;show#[0,0,e,2,_,0,.inl #[0,rfl],G.xc X,s0 _ _ N,G.LA X .noRoom,0,e,2,_,0,.inl #[0,rfl],G.xc X,s0 _ _ N,G.LA X .taken,fG,λa1 ab=>?_];let u1:=au (X:=.lst [.bl (decide (X=.noRoom)),.bl (decide (X=.taken))]) ab;show#[R,a1,_,0,rfl,u1 _ _ e0,ae,mM,λl1 ad=>?_];let v1:=au (X:=.lst ((kb X).map V.bl)) ad;let e1:(upd (upd H0 a1 (.lst [.bl (decide (X=.noRoom)),.bl (decide (X=.taken))])) l1 (.lst ((kb X).map V.bl))) l1=some (.lst ((kb X).map V.bl)):=ae;let s1:=s0.trans (u1.trans v1);show L _ _ _ ?_;change cn _ _ _ [some (V.ref e),some (.ref l1),none] (upd (upd H0 a1 (.lst [.bl (decide (X=.noRoom)),.bl (decide (X=.taken))])) l1 (.lst ((kb X).map V.bl)));generalize upd (upd H0 a1 (.lst [.bl (decide (X=.noRoom)),.bl (decide (X=.taken))])) l1 (.lst ((kb X).map V.bl))=H1 at *;clear u1 v1 ab ad;show Lp λ_ L=>?_;show#[mM,λO a6=>?_];let t0:=au (X:=.lst mS) a6;let f0:(upd H1 O (.lst mS)) O=some (.lst mS):=ae;show L _ _ _ ?_;change cn _ _ _ [some (V.ref e),some (.ref l1),some (.ref O)] (upd H1 O (.lst mS));let e2:=t0 _ _ e1;let s2:=s1.trans t0;generalize upd H1 O (.lst mS)=H2 at *;show JT λ_ _ _ _ je L=>?_;show#[0,l1,rfl,#[_,bq.of e2],?_];show xO (K:=K) (a:=l1) (xs:=(kb X).map V.bl) (λi ys S=>ys=(((kb X).take i).map λb=>if b=true then(1:Int)else 0).map V.int/\S=H2) #[1] (λi ys S ⟨_,q⟩=>by rw[q];show s2 _ _ N) (λi ys S _ ⟨_,q⟩=>by rw[q];show bq.of e2) ?_ ?_
  .rintro i x ys S hx ⟨rfl,rfl⟩;rw[vu]at hx;let#[b,hb,rfl]:=t5.mp hx;show IZ ?_;show eg ?_;show#[0,.inr #[b,rfl,3,rfl]]
   .rw[qi,qi,Oz];have:(kb X).length=4:=rfl;omega
   .rw[Oy,hb,N5,N5];rfl
  .rintro ys S ⟨rfl,rfl⟩ l7 aB;let ek:(kb X).take ((kb X).map V.bl).length=kb X:=rfl;rw[ek];let Y:=au (X:=.lst (((kb X).map λb=>if b=true then(1:Int)else 0).map V.int)) aB;show#[l7,((kb X).map λb=>if b=true then(1:Int)else 0),rfl,bq.of ae,(s2.trans Y) _ _ N,rfl,0,?_];rw[Io,decide_eq_true rfl];let ac:=(s2.trans Y) _ _ N;let e7:=Y _ _ e2;let f7:=Y _ _ f0;let S7:=s2.trans Y;generalize upd S l7 (.lst (((kb X).map λb=>if b=true then(1:Int)else 0).map V.int))=H8 at *;show b9 ?_;show#[0,e,2,_,true,rfl,.inr #[0,rfl],G.xc X,ac,G.NF X,true,rfl,b9 (je _ _ _ (L _ _ _ ?_))];show#[0,ar,ar,?_];show wK (lo:=0) (n:=4) (λi ys H9=>ys=(if HA X<i then[.str (wordOf X)]else[])/\H9=H8) #[1] (λi ys H9 ⟨_,q⟩=>by rw[q];show ac) ?_ ?_
   .rintro i ys H9 hi ⟨rfl,rfl⟩;show#[0,0,l1,2,0,rfl,bq.of e7,J9 X i hi,0,?_];show dX (λc=>?_) (λc=>?_)
    .let ei:i=HA X:=of_decide_eq_true c;show#[0,0,O,2,0,rfl,bq.of f7,by rw[ei];show Ea X,3,rfl]
     .split<;>simp<;>omega
     .rw[Wx af,Wy af];rfl
    .let ei:¬ i=HA X:=λz=>c (decide_eq_true z);show#[?_,rfl];cases q:HA X<i
     .rw[Wy q,Wy af]
     .rw[Wx q,Wx af]
   .rintro ys H9 ⟨rfl,rfl⟩ l9 as;let e9:(if HA X<4 then[V.str (wordOf X)]else[])=[V.str (wordOf X)]:=(by cases X<;>rfl);rw[e9];show#[l9,2,.str (wordOf X),1,bq.of ae,rfl,k _ (S7.trans (au as))]
theorem xu:aA ["_law_rooms","_law_deed_here","_law_told_here","_law_word_here","e"] ["_law_rooms","_law_deed_here"] (aq Cn):=L2.bC
inductive qC(v:List V)(H:Hp)(Q:VK)(e:XK):Prop
 |mk(r:Int)(_:v=[.int r])(_:∀(n:Int)(H':Hp),aR H H' -> -100000000000000000000000000000000000000000000000000000000000<n->n<100000000000000000000000000000000000000000000000000000000000->Q (.int n) H')
theorem Mu:aA ["_law_rest"] ["_law_rest"] (aq Dm):=L2.bC
theorem Fx(F:cj K "_law_page" "_law_page" Dm f fd):↥aN 1 f fd ["_law_rest"] qC:=by
 show F.dE Mu (λN A outer s H vs Q E O h=>?_);let#[c,rfl,k]:=h;show#[_,(ai (bj (az bM (ay bw (pv 0) ah) ah (aF _)) (ao (aJ (aM cu (bE (aa (qp kB ah) (aa ah (aa (qp kB (ay gp ah ah)) (aa (ay gp ah ah) ag))))) (ay bw (ay bg (pv 0) ah) ah) bX))) aI)
  (ao (aJ (aM cu (bE (aa (ay bw (ay bg (pv 0) ah) ah) (aa (ay bw (ay bg (pv 0) ah) ah) ag))) (ay bw (pv 0) ah) bX)))),?_]
 show#[0,_,0,rfl,(by change(0:Int)<16;decide),rfl,0,?_];show dX (λ_=>?_) (λ_=>?_)
 .let J:=OI (c/16) (show(4:Int)≠0 by decide);let d1:=Ol (c/16) (show(0:Int)<4 by decide);let#[q,z,I]:=fM (xs:=[-1,64, -((10:Int)^Qz 50),(10:Int)^Qz 55]) J d1;show#[0,_,0,rfl,#[ar,ar,ar],0,_,0,rfl,#[ar,ar,ar],mM,λl L=>#[0,_,0,rfl,#[ar,ar],_,0,rfl,Ec,l,2,.int q,1,bq.of ae,I,?_]];have G : -100000000000000000000000000000000000000000000000000000000000<q/\q<100000000000000000000000000000000000000000000000000000000000:=by
   try rw[LJ]at z
   try rw[MA]at z
   try rw[HH]at z
   rcases se.mp z with e|z
   .omega
   rcases se.mp z with e|z
   .omega
   rcases se.mp z with e|z
   .omega
   have:=qj.mp z;omega
  show k q _ (au L) G.1 G.2
 .let J:=OI c (show(2:Int)≠0 by decide);let d1:=Ol c (show(0:Int)<2 by decide);let#[q,z,I]:=fM (xs:=[c/16%6,c/16%64]) J d1;show#[0,_,0,rfl,#[ar,ar],_,0,rfl,(by change(0:Int)<6;decide),0,_,0,rfl,#[ar,ar],_,0,rfl,(by change(0:Int)<64;decide),fG,λl L=>#[0,_,0,rfl,Bz,l,2,.int q,1,bq.of ae,I,?_]];have G : -100000000000000000000000000000000000000000000000000000000000<q/\q<100000000000000000000000000000000000000000000000000000000000:=by
   rcases se.mp z with e|z
   .omega
   have:=qj.mp z;omega
  show k q _ (au L) G.1 G.2
theorem nu:aA ["_law_rest"] ["_law_rest"] (aq B4):=L2.bC
theorem FL(F:cj K "_law_many" "_law_many" B4 f fd):↥aN 1 f fd ["_law_rest"] qC:=by
 show F.dE nu (λN A outer s H vs Q E O h=>?_);let#[c,rfl,k]:=h;show#[_,(ai (bj (az bM (ay bw (pv 0) ah) ah (aF _)) (ao (aJ (aM cu (bE (aa ah (aa (qp kB ah) (aa ah (aa ah (aa (ay gp ah ah) (aa (qp kB (ay gp ah ah)) ag))))))) (ay bw (ay bg (pv 0) ah) ah) bX))) aI)
  (ao (aJ (aM cu (bE (aa ah (aa (ay bD ah (ay bw (ay bg (pv 0) ah) ah)) (aa (ay bD ah (ay bw (ay bg (pv 0) ah) ah)) ag)))) (ay bw (pv 0) ah) bX)))),?_]
 show#[0,_,0,rfl,(by change(0:Int)<16;decide),rfl,0,?_];show dX (λ_=>?_) (λ_=>?_)
 .let J:=OI (c/16) (show(6:Int)≠0 by decide);let d1:=Ol (c/16) (show(0:Int)<6 by decide);let#[q,z,I]:=fM (xs:=[0, -1,64,65,(10:Int)^Qz 55, -((10:Int)^Qz 40)]) J d1;show#[0,_,0,rfl,#[ar,ar,ar],_,0,rfl,#[ar,ar,ar],0,MC,λl L=>#[0,_,0,rfl,#[ar,ar],_,0,rfl,(by change(0:Int)<6;decide),l,2,.int q,1,bq.of ae,I,?_]];have G : -100000000000000000000000000000000000000000000000000000000000<q/\q<100000000000000000000000000000000000000000000000000000000000:=by
   try rw[LJ]at z
   try rw[MA]at z
   try rw[HH]at z
   rcases se.mp z with e|z
   .omega
   rcases se.mp z with e|z
   .omega
   rcases se.mp z with e|z
   .omega
   rcases se.mp z with e|z
   .omega
   rcases se.mp z with e|z
   .omega
   have:=qj.mp z;omega
  show k q _ (au L) G.1 G.2
 .let J:=OI c (show(3:Int)≠0 by decide);let d1:=Ol c (show(0:Int)<3 by decide);let#[q,z,I]:=fM (xs:=[1,1+c/16%3,1+c/16%12]) J d1;show#[0,_,0,rfl,#[ar,ar],_,0,rfl,IJ,_,0,rfl,0,_,0,rfl,#[ar,ar],_,0,rfl,(by change(0:Int)<12;decide),_,0,rfl,Ha,λl L=>#[0,_,0,rfl,IJ,l,2,.int q,1,bq.of ae,I,?_]];have G : -100000000000000000000000000000000000000000000000000000000000<q/\q<100000000000000000000000000000000000000000000000000000000000:=by
   rcases se.mp z with e|z
   .omega
   rcases se.mp z with e|z
   .omega
   have:=qj.mp z;omega
  show k q _ (au L) G.1 G.2
theorem LP:aA ["_law_rest"] ["_law_rest"] (aq p8):=L2.bC
theorem xt(F:cj K "_law_address" "_law_address" p8 f fd):↥aN 1 f fd ["_law_rest"] qC:=by
 show F.dE LP (λN A outer s H vs Q E O h=>?_);let#[c,rfl,k]:=h;show#[_,(ai (bj (az bM (ay bw (pv 0) ah) ah (aF _)) (ao (aJ (aM cu (bE (aa (qp kB ah) (aa ah (aa ah (aa (qp kB (ay gp ah ah)) (aa (ay gp ah ah) ag)))))) (ay bw (ay bg (pv 0) ah) ah) bX))) aI)
  (ao (aJ (aM cu (bE (aa (ay bw (ay bg (pv 0) ah) ah) (aa (ay bw (ay bg (pv 0) ah) ah) ag))) (ay bw (pv 0) ah) bX)))),?_]
 show#[0,_,0,rfl,(by change(0:Int)<16;decide),rfl,0,?_];show dX (λ_=>?_) (λ_=>?_)
 .let J:=OI (c/16) (show(5:Int)≠0 by decide);let d1:=Ol (c/16) (show(0:Int)<5 by decide);let#[q,z,I]:=fM (xs:=[-1,512,511, -((10:Int)^Qz 50),(10:Int)^Qz 55]) J d1;show#[0,_,0,rfl,#[ar,ar,ar],0,_,0,rfl,#[ar,ar,ar],Ki,λl L=>#[0,_,0,rfl,#[ar,ar],_,0,rfl,(by change(0:Int)<5;decide),l,2,.int q,1,bq.of ae,I,?_]];have G : -100000000000000000000000000000000000000000000000000000000000<q/\q<100000000000000000000000000000000000000000000000000000000000:=by
   try rw[LJ]at z
   try rw[MA]at z
   try rw[HH]at z
   rcases se.mp z with e|z
   .omega
   rcases se.mp z with e|z
   .omega
   rcases se.mp z with e|z
   .omega
   rcases se.mp z with e|z
   .omega
   have:=qj.mp z;omega
  show k q _ (au L) G.1 G.2
 .let J:=OI c (show(2:Int)≠0 by decide);let d1:=Ol c (show(0:Int)<2 by decide);let#[q,z,I]:=fM (xs:=[c/16%48,c/16%512]) J d1;show#[0,_,0,rfl,#[ar,ar],_,0,rfl,(by change(0:Int)<48;decide),0,_,0,rfl,#[ar,ar],_,0,rfl,(by change(0:Int)<512;decide),fG,λl L=>#[0,_,0,rfl,Bz,l,2,.int q,1,bq.of ae,I,?_]];have G : -100000000000000000000000000000000000000000000000000000000000<q/\q<100000000000000000000000000000000000000000000000000000000000:=by
   rcases se.mp z with e|z
   .omega
   have:=qj.mp z;omega
  show k q _ (au L) G.1 G.2
inductive lV(v:List V)(H:Hp)(Q:VK)(e:XK):Prop
 |mk(r:Int)(_:v=[.int r])(_:∀(cs:List Int)(H':Hp)(l:Addr),cs.length<=64->aR H H'->H l=none->H' l=some (.lst (cs.map V.int))->Q (.ref l) H')
def EV(H H':Hp)(d:Addr):f9->Prop
 |.poke t ad cs=>∃c,H' d=some (.tup [.str "poke",.int t,.int ad,.ref c])/\H' c=some (.lst (cs.map V.int))/\H c=none
 |D=>fj H' d D
def FZ:f9->Prop
 |.poke _ _ cs=>cs.length<=64
 |_=>True
inductive wZ(v:List V)(H:Hp)(Q:VK)(e:XK):Prop
 |mk(n:Int)(l:Addr)(ts:List Int)(_:v=[.int n,.ref l])(_:H l=some (.lst (ts.map V.int)))(_:ts.length=4)(_:(∀t∈ts,Lo t))(_:∀(D:f9)(H':Hp)(d:Addr),aR H H'->H d=none->EV H H' d D->Lg D->FZ D->Q (.ref d) H')
theorem oC{n:Int}(z : -100000000000000000000000000000000000000000000000000000000000<n)(h1:n<100000000000000000000000000000000000000000000000000000000000):Lo n:=nZ (by rw[Ej];omega) (by rw[Ej];omega)
theorem pO{ad n:Int}(I : -100000000000000000000000000000000000000000000000000000000000<ad)(G:ad<100000000000000000000000000000000000000000000000000000000000)(F : -100000000000000000000000000000000000000000000000000000000000<n)(z:n<100000000000000000000000000000000000000000000000000000000000):Lo (dR ad)/\Lo (dP ad n):=by
 unfold dR dP;show#[nZ (by rw[Ej];omega) (by rw[Ej];omega),nZ (by rw[Ej];omega) (by rw[Ej];omega)]
theorem IW{A B G:Prop}(f:A->B)(a:A)(k:B->G):G:=k (f a)
theorem J2:aA ["_law_rest","_law_many_here"] ["_law_rest"] (aq pG):=L2.bC
theorem yd(F:cj K "_law_cells" "_law_cells" pG f fd)(T:lK mg):↥aN 1 f fd ["_law_rest"] lV:=by
 show F.dE J2 (λac A outer s H vs Q E hr h=>?_);let#[r,rfl,k]:=h;let hs:=vl;show#[_,(ai (cQ 1 J2.nd (aM cu (bE (aa ah (aa (ay bD ah (ay bw (ay bg (pv 0) ah) ah)) (aa ah (aa (ay bD ah (ay bw (ay bg (pv 0) ah) ah)) (aa (aM cu (bE (aa ah (aa ah ag))) (ay bw (ay bg (pv 0) ah) ah) bX) ag)))))) (ay bw (pv 0) ah) bX))
  (ao (aJ (jC (cl:=[("_law_rest",s⁻¹+1)]) (caps:=[("_law_rest",0)]) #[rfl,ak,ak,rfl,by kernel_rfl,by intro p G;simp only[se,DO,or_false]at G;rcases G with rfl<;>first|rfl|show#[rfl,.inl rfl,.inl rfl]|show#[rfl,.inl rfl,.inr rfl],by kernel_rfl,by intro p G;simp only[se,DO,or_false]at G;rcases G with rfl<;>first|rfl|show#[rfl,.inl rfl,.inl rfl]|show#[rfl,.inl rfl,.inr rfl],ak] rfl (mh (by rfl) T.range (aa (pv 1) ag)) (λ_ _ _ _=>iG) (λ_ _ _ _=>(ay bw (ay bD (ay bg (pv 1) ah) (ay kh (pv 0) (ay bg (pv 1) ah))) ah)))))),?_]
 let Y:=OI (r/5) (show(2:Int)≠0 by decide);let d1:=Ol (r/5) (show(0:Int)<2 by decide);let#[q,I,eq]:=fM (xs:=[0,64]) Y d1;let am:0<=q/\q<=64:=by
  rcases se.mp I with e|I
  .omega
  have:=qj.mp I;omega
 let e0:=OI r (show(5:Int)≠0 by decide);let S:=Ol r (show(0:Int)<5 by decide);let#[n,z,R]:=fM (xs:=[1,1+r/5%8,8,1+r/5%24,q]) e0 S;let ad:0<=n/\n<=64:=by
  rcases se.mp z with e|z
  .omega
  rcases se.mp z with e|z
  .omega
  rcases se.mp z with e|z
  .omega
  rcases se.mp z with e|z
  .omega
  have:=qj.mp z;omega
 show gN λ_ O=>?_;show#[0,_,0,rfl,#[ar,ar],_,0,rfl,Ih,_,0,rfl,0,_,0,rfl,#[ar,ar],_,0,rfl,(by change(0:Int)<24;decide),_,0,rfl,fG,λJ U=>#[0,_,0,rfl,#[ar,ar],_,0,rfl,Bz,J,2,.int q,1,bq.of ae,eq,Ki,λl1 ab=>#[0,_,0,rfl,(by change(0:Int)<5;decide),l1,2,.int n,1,bq.of ae,R,O _ _ ?_]]];let s0:=(au (X:=.lst [.int 0,.int 64]) U).trans (au (X:=.lst ([1,1+r/5%8,8,1+r/5%24,q].map V.int)) ab);change GN _ _ _ (upd (upd H J (.lst [.int 0,.int 64])) l1 (.lst ([1,1+r/5%8,8,1+r/5%24,q].map V.int)));generalize upd (upd H J (.lst [.int 0,.int 64])) l1 (.lst ([1,1+r/5%8,8,1+r/5%24,q].map V.int))=H1 at *;show#[0,0,af,af,?_];show wI (lo:=0) (n:=n.toNat) (λi ys H2=>∃cs:List Int,ys=cs.map V.int/\cs.length=i/\H2=H1) #[[],1,rfl] ?_ ?_
 .rintro i ys H2 hi ⟨cs,rfl,N,rfl⟩;show#[0,_,0,rfl,#[ar,ar],0,0,_,0,rfl,#[ar,ar],_,0,rfl,.inl #[af,af],_,0,5,0,rfl,(by change(0:Int)<256;decide),(by rw[qi];omega),cs++[(r/320+(0+(i:Int))*(r/81920))%256],?_,by rw[y3,N];rfl,rfl];rw[N5];rfl
 .rintro ys H2 ⟨cs,rfl,N,rfl⟩ l2 L;show k cs _ l2 af (s0.trans (au L)) (s0.free L) ae
theorem Du:aA ["_law_number_here","_law_tasks_here","_law_kind","_law_task","_law_rest","_law_many_here"] ["_law_number_here","_law_tasks_here"] (aq DX):=L2.bC
theorem EN{f aT a2 ap as:Addr}{fd a3 aB a7 a6:qw}(F:cj K "_law_deed" "_law_deed" DX f fd)(T:lK mg)
  (a5:↥aN 1 aT a3 ["_law_rest"] qC) (O:Def K mg "_law_page" aT a3 ["_law_rest"])
  (ab:↥aN 1 a2 aB ["_law_rest"] qC) (I:Def K mg "_law_many" a2 aB ["_law_rest"])
  (a4:↥aN 1 ap a7 ["_law_rest"] qC) (N:Def K mg "_law_address" ap a7 ["_law_rest"])
  (a8:↥aN 1 as a6 ["_law_rest"] lV) (am:Def K mg "_law_cells" as a6 ["_law_rest"]) :
  ↥aN 2 f fd ["_law_number_here","_law_tasks_here"] wZ:=by
 show F.dE Du (λbb A outer s H vs Q E J h=>?_);let#[n,l,ts,rfl,hl,lt,lo,k]:=h;show#[_,(ai (cQ 2 Du.nd (ay bw (pv 0) ah))
  (ai (cQ 3 Du.nd (aM cu (pv 1) (ay bw (ay bg (pv 0) ah) ah) bX))
  (ai (cQ 4 Du.nd (ay bg (pv 0) ah))
  (ai (bj (az bM (pv 2) ah (aF _)) (ao (aJ (cI (aa aS (aa (pv 3) ag))))) aI)
  (ai (bj (PW.pt (kA (az bM (pv 2) ah (aF _)) (jO (az bM (ay bw (pv 4) ah) ah (aF _))))) (ao (aJ (cI (aa aS (aa (pv 3) ag))))) aI)
  (ai (bj (az fE (pv 2) ah (aF _)) (ao (aJ (cI (aa aS (aa (pv 3) (aa (f6 a5 (J.mono ar) (by rfl) O.mg O.kp O.b .nil aw (aa (pv 4) ag)) (aa (f6 ab (J.mono ar) (by rfl) I.mg I.kp I.b .nil aw (aa (ay bg (pv 4) ah) ag)) ag))))))) aI)
  (ai (bj (az bM (pv 2) ah (aF _)) (ao (aJ (cI (aa aS (aa (pv 3) (aa (f6 a5 (J.mono ar) (by rfl) O.mg O.kp O.b .nil aw (aa (pv 4) ag)) (aa (f6 ab (J.mono ar) (by rfl) I.mg I.kp I.b .nil aw (aa (ay bg (pv 4) ah) ag)) ag))))))) aI)
  (ai (bj (az fE (pv 2) ah (aF _)) (ai (cQ 5 Du.nd (f6 ab (J.mono ar) (by rfl) I.mg I.kp I.b .nil aw (aa (ay bg (pv 4) ah) ag)))
  (ao (aJ (cI (aa aS (aa (pv 3) (aa (f6 a4 (J.mono ar) (by rfl) N.mg N.kp N.b .nil aw (aa (pv 4) ag)) (aa (vf (DY fE fE ah (pv 5) ah) (aO (AY rfl) (by rfl) T.min Ig (aa ah (aa (pv 5) ag))) (pv 5)) ag)))))))) aI)
  (ai (bj (az fE (pv 2) ah (aF _)) (ao (aJ (cI (aa aS (aa (pv 3) (aa (f6 a4 (J.mono ar) (by rfl) N.mg N.kp N.b .nil aw (aa (pv 4) ag)) (aa (f6 a8 (J.mono ar) (by rfl) am.mg am.kp am.b .nil aw (aa (ay bg (pv 4) ah) ag)) ag))))))) aI)
  (ao (aJ (cI (aa aS (aa (pv 3) (aa (aM cu (pv 1) (ay bw (pv 4) ah) bX) ag))))))))))))))),?_]
 let d0:=OI (n/12) (show(4:Int)≠0 by decide);let d1:=Ol (n/12) (show(0:Int)<4 by decide);let#[t,ht,et]:=fM (xs:=ts) d0 (by rw[lt];show d1);let lt':=lo t ht;let r0:=OI (n/48) (show(4:Int)≠0 by decide);let r1:=Ol (n/48) (show(0:Int)<4 by decide);let#[o,ho,eo]:=fM (xs:=ts) r0 (by rw[lt];show r1);let ba:=lo o ho;show gN λ_ S=>?_;show#[0,_,0,rfl,(by change(0:Int)<12;decide),S _ _ ?_];show gN λ_ S=>?_;show#[0,0,_,0,rfl,#[ar,ar],_,0,rfl,Ec,l,2,.int t,1,bq.of hl,et,S _ _ ?_];show gN λ_ S=>?_;show#[0,_,0,rfl,#[ar,ar],S _ _ ?_];show gO λ_ G z=>?_;show#[0,rfl,0,jj (λ_=>G _ ?_) (λ_=>z _ ?_)]
 .show#[0,fG,λd hd=>k (.begin t) _ d (au hd) hd ae lt' trivial]
 show gO λ_ G z=>?_;show IW (z H) ?_ λjf=>?_
 rotate_left
 .show#[0,rfl,0,dX (λ_=>?_) (λ_=>jf)];show#[0,_,0,rfl,IJ,rfl,0,jj (λ_=>G _ ?_) (λ_=>jf)];show#[0,fG,λd hd=>k (.close t) _ d (au hd) hd ae lt' trivial]
 show gO λ_ G z=>?_;show#[0,_,0,rfl,0,jj (λ_=>G _ ?_) (λ_=>z _ ?_)]
 .show#[0,0,0,λpg H1 s1 p0 p1=>#[0,_,0,rfl,#[ar,ar],0,λm H2 s2 R L=>#[mM,λd hd=>?_]]];show k (.map t pg m) _ d ((s1.trans s2).trans (au hd)) ((s1.trans s2).free hd) ae #[lt',oC p0 p1,oC R L] trivial
 show gO λ_ G z=>?_;show#[0,rfl,0,jj (λ_=>G _ ?_) (λ_=>z _ ?_)]
 .show#[0,0,0,λpg H1 s1 p0 p1=>#[0,_,0,rfl,#[ar,ar],0,λm H2 s2 R L=>#[mM,λd hd=>?_]]];show k (.drop t pg m) _ d ((s1.trans s2).trans (au hd)) ((s1.trans s2).free hd) ae #[lt',oC p0 p1,oC R L] trivial
 show gO λ_ G z=>?_;show#[0,_,0,rfl,0,jj (λ_=>G _ ?_) (λ_=>z _ ?_)]
 .show#[0,_,0,rfl,#[ar,ar],0,λm H1 s1 R L=>?_];show#[0,0,0,λad H2 s2 Y a1=>?_];let ac:∀U:Int, -100000000000000000000000000000000000000000000000000000000000<U->U<100000000000000000000000000000000000000000000000000000000000->∀d,H2 d=none->Q (.ref d) (upd H2 d (.tup [.str "peek",.int t,.int ad,.int U])):=λU b0 b1 d hd =>
   k (.peek t ad U) _ d ((s1.trans s2).trans (au hd)) ((s1.trans s2).free hd) ae #[lt',oC b0 b1,(pO Y a1 b0 b1).1,(pO Y a1 b0 b1).2] trivial
  show#[0,_,0,rfl,0,dX (λc1=>#[_,0,rfl,0,dX (λc2=>?_) (λc2=>?_)]) (λc1=>#[0,b9 ?_])]
  .show#[0,_,0,mM,ac _ ?_ ?_]<;>split<;>omega
  .show#[0,mM,ac _ R L]
  .show#[0,mM,ac _ R L]
 show gO λ_ G z=>?_;show#[0,_,0,rfl,0,jj (λ_=>G _ ?_) (λ_=>z _ ?_)]
 .show#[0,0,0,λad H1 s1 Y a1=>#[0,_,0,rfl,#[ar,ar],0,λcs H2 c hc s2 hn ec=>#[mM,λd hd=>?_]]];let lc:=pO (ad:=ad) (n:=(cs.length:Int)) Y a1 af af;show k (.poke t ad cs) _ d ((s1.trans s2).trans (au hd)) ((s1.trans s2).free hd) #[c,ae,(au hd) _ _ ec,s1.free hn] #[lt',af,lc.1,lc.2] hc
 show#[0,0,0,_,0,rfl,Ec,l,2,.int o,1,bq.of hl,eo,Ha,λd hd=>k (.copy t o) _ d (au hd) hd ae #[lt',ba] trivial]
theorem keys_perm{α G:Type}{l:List (Int×α)}{l':List (Int×G)}(I:(l.map (·.1)).Nodup)(J:(l'.map (·.1)).Nodup)(h:∀q,look l q=none↔look l' q=none):(l.map (·.1)).Perm (l'.map (·.1)):=by
 let F:∀{z:Type}{l:List (Int×z)}{q:Int},q∈l.map (·.1)↔¬ look l q=none:=λ{z l q}=>#[λh e=>cp e h,λh=>by
  cases e:look l q with
  |none=>show absurd e h
  |some a=>show IF.mpr #[_,aC e,rfl]]
 rw[Sm I J];intro q;rw[F,F,h q]
theorem mem_keys{α:Type}{l:List (Int×α)}{q:Int}:q∈l.map (·.1)↔¬ look l q=none:=#[λh e=>cp e h,λh=>by
 cases e:look l q with
 |none=>show absurd e h
 |some a=>show IF.mpr #[_,aC e,rfl]]
theorem yy{α:Type}{l:List (Int×α)}{k:Int}{a:α}(F:(l.map (·.1)).Nodup)(h:look l k=none):((l++[(k,a)]).map (·.1)).Nodup:=by
 rw[N5];show Qu.mpr #[F,N6.mpr #[DO,Pu],λx hx y z=>by
  rw[qj.mp z];rintro rfl;show cp h hx]
theorem mz{α:Type}{l:List (Int×α)}{k:Int}(z:(l.map (·.1)).Nodup):((bp l k).map (·.1)).Nodup:=z.sublist (U4 _ Ug)
def wW(sp z:Sp):Sp:=λvs H Q E=>sp vs H Q E\/z vs H Q E
abbrev kN(z:ip->Addr):St.XA:=#[z .noTask,z .noPage,z .noRoom,z .taken]
structure KO(P:tp)(w:By)(K:DD)(mg:WD)(base:Heap)(c:St.CA)(cl4:ip->Addr) where
 (fBe fCl fMp fDr fPe fPk fCo fH:Addr)
 (dBe dCl dMp dDr dPe dPk dCo dH:qw)
 cl:qI K c.C
 Ms:⇑aN 3 fBe dBe ["self","task"] (wW (St.lG c) (St.mF c (kN cl4)))
 NO:Binds K dBe ["self","task"] []
 NQ:Meth K c.C "begin" fBe
 MF:⇑aN 6 fCl dCl ["self","task"] (wW (St.lJ c) (St.lX c (kN cl4)))
 NM:Binds K dCl ["self","task"] []
 NK:Meth K c.C "close" fCl
 K6:⇑aN 4 fMp dMp ["self","task","page","many"] (wW (St.xD c) (St.sI c (kN cl4)))
 Nu:Binds K dMp ["self","task","page","many"] []
 NH:Meth K c.C "map" fMp
 NL:⇑aN 6 fDr dDr ["self","task","page","many"] (wW (St.xW c) (St.qx c (kN cl4)))
 NY:Binds K dDr ["self","task","page","many"] []
 NN:Meth K c.C "drop" fDr
 Jq:⇑aN 8 fPe dPe ["self","task","address","many"] (wW (St.oa c) (St.pC c (kN cl4)))
 N1:Binds K dPe ["self","task","address","many"] []
 NB:Meth K c.C "peek" fPe
 NX:⇑aN 10 fPk dPk ["self","task","address","cells"] (wW (St.ud K c) (St.o8 K c (kN cl4)))
 NS:Binds K dPk ["self","task","address","cells"] []
 NG:Meth K c.C "poke" fPk
 E8:⇑aN 5 fCo dCo ["self","task","other"] (wW (St.tX c) (St.oM c (kN cl4)))
 NV:Binds K dCo ["self","task","other"] []
 N4:Meth K c.C "copy" fCo
 GH:↥aN 2 fH dH ["self"] (St.gc c)
 bH:Binds K dH ["self"] []
 mH:Meth K c.C "held" fH
inductive Mv(s s':Pg.PS)(W W':St.cN):f9->Prop
 |begin(t:Int)(y:St.TD)(_:look W t=none)(_:y.t=[])(_:W'=W++[(t,y)])(_:s'=s):Mv s s' W W' (.begin t)
 |close(t:Int)(x:St.TD)(_:look W t=some x)(_:W'=bp W t)(_:Pg.Up s s'):Mv s s' W W' (.close t)
 |map(t pg m:Int)(x y:St.TD)(_:look W t=some x)(_:∀q,look y.t q=if q∈aP pg m then some none else look x.t q)(_:W'=a9 W t y)(_:s'=s)(_:¬ br pg m):Mv s s' W W' (.map t pg m)
 |drop(t pg m:Int)(x y:St.TD)(_:look W t=some x)(_:∀q,look y.t q=if q∈aP pg m then none else look x.t q)(_:W'=a9 W t y)(_:Pg.Up s s')(_:¬ br pg m)(_:∀q∈aP pg m,look x.t q≠none):Mv s s' W W' (.drop t pg m)
 |peek(t ad:Int)(n:Nat)(x:St.TD)(_:look W t=some x)(_:W'=W)(_:Pg.KB s s')(_:St.rZ x.t (aD ad n) (aD ad n).length s')(_:∀q∈aD ad n,look x.t q≠none):Mv s s' W W' (.peek t ad n)
 |poke(t ad:Int)(cs:List Int)(x y:St.TD)(_:look W t=some x)(_:∀q,¬ q∈aD ad cs.length->look y.t q=look x.t q)(_:∀q∈aD ad cs.length,∃k,look y.t q=some (some k)/\(St.ents (a9 W t y)).count (some k)=1)(_:W'=a9 W t y)(_:Pg.KB s s')(_:St.Ij y.t (aD ad cs.length) s')(_:St.rZ y.t (aD ad cs.length) (aD ad cs.length).length s'):Mv s s' W W' (.poke t ad cs)
 |copy(t o:Int)(x y:St.TD)(_:look W t=some x)(_:look W o=none)(_:∀q,look y.t q=look x.t q)(_:W'=W++[(o,y)])(_:Pg.Up s s'):Mv s s' W W' (.copy t o)
def Fi(D:f9)(X:ip):Prop:=X=.noRoom->kindOf D = "map" \/ kindOf D = "copy"
inductive Cd(c0:St.CA)(cl4:ip->Addr)(vs:List V)(H:Hp)(Q:VK)(E:XK):Prop
 |mk(M:Wz)(a:St.RA)(s:Pg.PS)(W:St.cN)(cv:WA)(d:Addr)(D:f9)(_:vs=[.ref a.rp,.ref d])(_:St.ax c0 H M a s W)(_:Pg.RI s (St.ents W))(_:St.Cv s W cv)(_:W.length<=1000)(_:St.mO s<=400000)(_:fj H d D)(_:Lg D)(_:∀X,Fi D X->∀H',aR H H'->E (.ref (cl4 X)) none H')(_:∀(H':Hp)(M':Wz)(s':Pg.PS)(W':St.cN)(cv':WA)(v:V),St.ax c0 H' M' a s' W'->Pg.RI s' (St.ents W')->St.Cv s' W' cv'->St.Step H M (a.own W) H' M' (a.own W')->(∀b,(s'.ow b).length=(s.ow b).length)->Mv s s' W W' D->W'.length<=W.length+1->Q v H')
theorem Gy{ad n:Int}{G:List Int}(h:¬ cD ad n G):∃k:Nat,n=k/\k<=512:=by
 let I:¬ n<0:=λz=>h (.inl z);show#[n.toNat,af,?_];cases z:0<n
 .let h1:¬ br (dR ad) (dP ad n):=λy=>h (.inr #[z,.inl y]);let h2:¬ (dR ad<0):=λy=>h1 (.inr (.inl y));let F:¬ (64<dR ad+dP ad n):=λy=>h1 (.inr (.inr y));unfold dR at h2 F;unfold dP at F;omega
 .omega
theorem dF{K:DD}{tt F:pK}{D:Ends}{R:XR}{σ:L2.St}{H:Hp}{d:Addr}{z nm:Str}{G:List V}(hd:H d=some (.tup (.str z::G)))(I:σ[1]?=some (some (.ref d)))(n:z≠nm)(k:F D R σ H):zE (Fp (pY (Aj Jc (Aj (zR K) (vY 1) (tC (.int 0))) (tC (.str nm)))) tt tL) F D R σ H:=by
 show#[_,I,d,2,.str z,1,bL.of hd,uQ,rfl,0,?_];rw[decide_eq_false (ks_ne n)];show b9 k
theorem dT{K:DD}{tt z:pK}{D:Ends}{R:XR}{σ:L2.St}{H:Hp}{d:Addr}{nm:Str}{F:List V}(hd:H d=some (.tup (.str nm::F)))(G:σ[1]?=some (some (.ref d)))(k:tt { D with nx:=z D R } R σ H):zE (Fp (pY (Aj Jc (Aj (zR K) (vY 1) (tC (.int 0))) (tC (.str nm)))) tt tL) z D R σ H:=by
 show#[_,G,d,2,.str nm,1,bL.of hd,uQ,rfl,0,?_];rw[decide_eq_true rfl];show eg k
theorem GV{f:Addr}{c0:St.CA}{N:ip->Addr}{fd:qw}(F:cj K "_law_do" "_law_do" LL f fd)(M:KO P w K mg base c0 N) :
  ⇑aN 11 f fd ["_law_rooms","_law_deed_here"] (Cd c0 N):=by
 show F.j0 MO (λac A outer s H vs Q E hr h=>?_);let#[G,a,s',W,cv,d,D,rfl,R,ri,cw,lw,lt,hd,lg,O,kQ]:=h;show#[_,(aE (dz (az bM (aM aK (pv 1) ah bX) aS (aF _)) (bO (ix (gz (pv 0) M.cl M.NQ M.Ms (hr.mono ar) rfl M.NO .nil (aa (aM aK (pv 1) ah bX) ag)))) cf)
  (aE (dz (az bM (aM aK (pv 1) ah bX) aS (aF _)) (bO (ix (gz (pv 0) M.cl M.NK M.MF (hr.mono ar) rfl M.NM .nil (aa (aM aK (pv 1) ah bX) ag)))) cf)
  (aE (dz (az bM (aM aK (pv 1) ah bX) aS (aF _)) (bO (ix (gz (pv 0) M.cl M.NH M.K6 (hr.mono ar) rfl M.Nu .nil (aa (aM aK (pv 1) ah bX) (aa (aM aK (pv 1) ah bX) (aa (aM aK (pv 1) ah bX) ag)))))) cf)
  (aE (dz (az bM (aM aK (pv 1) ah bX) aS (aF _)) (bO (ix (gz (pv 0) M.cl M.NN M.NL (hr.mono ar) rfl M.NY .nil (aa (aM aK (pv 1) ah bX) (aa (aM aK (pv 1) ah bX) (aa (aM aK (pv 1) ah bX) ag)))))) cf)
  (aE (dz (az bM (aM aK (pv 1) ah bX) aS (aF _)) (bO (ix (gz (pv 0) M.cl M.NB M.Jq (hr.mono ar) rfl M.N1 .nil (aa (aM aK (pv 1) ah bX) (aa (aM aK (pv 1) ah bX) (aa (aM aK (pv 1) ah bX) ag)))))) cf)
  (aE (dz (az bM (aM aK (pv 1) ah bX) aS (aF _)) (bO (ix (gz (pv 0) M.cl M.NG M.NX (hr.mono ar) rfl M.NS .nil (aa (aM aK (pv 1) ah bX) (aa (aM aK (pv 1) ah bX) (aa (aM aK (pv 1) ah bX) ag)))))) cf)
  (bO (ix (gz (pv 0) M.cl M.N4 M.E8 (hr.mono ar) rfl M.NV .nil (aa (aM aK (pv 1) ah bX) (aa (aM aK (pv 1) ah bX) ag))))))))))),?_]
 let#[dx,h1]:=id R.ob;let no:∀m:Str,¬ m = "rooms" -> ¬ m = "total" -> ¬ m = "paging" -> (St.fV a.A.pg (St.mO s') a.rd).lookup m=none:=λm=>St.dZ _ _ _;let el:((St.ents W).length:Int)<=St.mO s':=by
  have:=ri.rm;unfold St.mO;omega
 let nx:∀{X:ip},X≠.noRoom->Fi D X:=λh e=>absurd e h;cases D with
 |begin t =>
  let hd:H d=some (.tup [.str "begin",.int t]):=hd;show dT hd rfl #[0,a.rp,dx,0,h1,no "begin" ak ak ak,0,d,2,.int t,1,bL.of hd,4];cases e:look W t with
  |some x=>show .inr #[G,a,s',W,t,x,rfl,R,lg,e,O .taken (nx nofun) _ (aR.refl _)]
  |none =>
   show .inl #[G,a,s',W,t,rfl,R,e,lw,λH1 M1 y hy Y U=>kQ H1 M1 s' _ cv _ Y (by rw[St.pq,hy];change Pg.RI s' (St.ents W++[]);rw[QU];show ri) (λt' x h q en he=>by
    rw[bZ t' e]at h;cases z:t'=t
    .rw[Wy z]at h;cases h;rwa[hy]at he
    .rw[Wx z]at h;show cw t' x h q en he) U (λ_=>rfl) (.begin t y e hy rfl rfl) (by rw[y3];show t7 _)]
 |close t =>
  let hd:H d=some (.tup [.str "close",.int t]):=hd;show dF hd rfl ak (dT hd rfl #[0,a.rp,dx,0,h1,no "close" ak ak ak,0,d,2,.int t,1,bL.of hd,4]);cases e:look W t with
  |none=>show .inr #[G,a,s',W,t,rfl,R,lg,e,O .noTask (nx nofun) _ (aR.refl _)]
  |some x=>show .inl #[G,a,s',W,cv,t,x,rfl,R,ri,cw,e,λH1 M1 s1 Y ab cv1 U J=>kQ H1 M1 s1 _ cv _ Y ab cv1 U J.1 (.close t x e rfl J.2) (le_trans (QH _ _) (QT _))]
 |map t pg m =>
  let hd:H d=some (.tup [.str "map",.int t,.int pg,.int m]):=hd;let#[I,L,S]:=lg;show dF hd rfl ak (dF hd rfl ak (dT hd rfl #[0,a.rp,dx,0,h1,no "map" ak ak ak,0,d,2,.int t,1,bL.of hd,rfl,0,d,2,.int pg,1,bL.of hd,rfl,0,d,2,.int m,1,bL.of hd,4]));cases e:look W t with
  |none=>show .inr #[G,a,s',W,t,pg,m,N .noTask,rfl,R,lw,af,I,L,S,(.inl #[e,rfl]),O .noTask λ_=>.inl rfl]
  |some x =>
   cases h:br pg m
   .show .inr #[G,a,s',W,t,pg,m,N .noPage,rfl,R,lw,af,I,L,S,(.inr #[x,e,.inl #[h,rfl]]),O .noPage λ_=>.inl rfl]
   cases h2:∃q∈aP pg m,look x.t q≠none
   .show .inr #[G,a,s',W,t,pg,m,N .taken,rfl,R,lw,af,I,L,S,(.inr #[x,e,.inr (.inl #[h,h2,rfl])]),O .taken λ_=>.inl rfl]
   let h5:∀q∈aP pg m,look x.t q=none:=λq hq=>OO λz=>h2 #[q,hq,z];cases h4:St.mO s'<((St.ents W).length:Int)+m
   .show .inr #[G,a,s',W,t,pg,m,N .noRoom,rfl,R,lw,af,I,L,S,(.inr #[x,e,.inr (.inr #[h,h5,h4,rfl])]),O .noRoom λ_=>.inl rfl]
   .show .inl #[G,a,s',W,cv,t,pg,m,x,rfl,R,ri,cw,lw,e,h,h5,af,λH1 M1 y Y ab cv1 hy U=>kQ H1 M1 s' _ _ _ Y ab cv1 U (λ_=>rfl) (.map t pg m x y e hy rfl rfl h) (by rw[Tb.ij];show QT _)]
 |drop t pg m =>
  let hd:H d=some (.tup [.str "drop",.int t,.int pg,.int m]):=hd;let#[I,L,S]:=lg;show dF hd rfl ak (dF hd rfl ak (dF hd rfl ak (dT hd rfl #[0,a.rp,dx,0,h1,no "drop" ak ak ak,0,d,2,.int t,1,bL.of hd,rfl,0,d,2,.int pg,1,bL.of hd,rfl,0,d,2,.int m,1,bL.of hd,4])));cases e:look W t with
  |none=>show .inr #[G,a,s',W,t,pg,m,N .noTask,rfl,R,I,L,S,.inl #[e,rfl],O .noTask (nx nofun)]
  |some x =>
   cases h:br pg m\/∃q∈aP pg m,look x.t q=none
   .show .inr #[G,a,s',W,t,pg,m,N .noPage,rfl,R,I,L,S,.inr #[x,e,h,rfl],O .noPage (nx nofun)]
   .let h2:¬ br pg m:=λz=>h (.inl z);let h3:∀q∈aP pg m,look x.t q≠none:=λq hq z=>h (.inr #[q,hq,z]);show .inl #[G,a,s',W,cv,t,pg,m,x,rfl,R,ri,cw,e,h2,h3,λH1 M1 s1 y Y ab cv1 hy U J=>kQ H1 M1 s1 _ cv _ Y ab cv1 U J.1 (.drop t pg m x y e hy rfl J.2 h2 h3) (by rw[Tb.ij];show QT _)]
 |peek t ad n =>
  let hd:H d=some (.tup [.str "peek",.int t,.int ad,.int n]):=hd;let#[I,L,S,g4]:=lg;show dF hd rfl ak (dF hd rfl ak (dF hd rfl ak (dF hd rfl ak (dT hd rfl #[0,a.rp,dx,0,h1,no "peek" ak ak ak,0,d,2,.int t,1,bL.of hd,rfl,0,d,2,.int ad,1,bL.of hd,rfl,0,d,2,.int n,1,bL.of hd,4]))));cases e:look W t with
  |none=>show .inr #[G,a,s',W,t,ad,n,N .noTask,rfl,R,I,L,S,g4,.inl #[e,rfl],O .noTask (nx nofun)]
  |some x =>
   cases h:cD ad n (x.t.map (·.1))
   .show .inr #[G,a,s',W,t,ad,n,N .noPage,rfl,R,I,L,S,g4,.inr #[x,e,h,rfl],O .noPage (nx nofun)]
   .let#[k,rfl,hk]:=Gy h;show .inl #[G,a,s',W,cv,t,ad,k,x,rfl,R,ri,cw,e,af,h,λH1 M1 s1 l Y ab cv1 U J _ _ _=>kQ H1 M1 s1 W cv _ Y ab cv1 U J.1 (.peek t ad k x e rfl J.2.1 J.2.2 λq hq=>mem_keys.mp ((fZ h).2 q hq)) (QT _)]
 |poke t ad cs =>
  let#[ca,hd,hc]:=hd;let#[I,L,S,g4]:=lg;show dF hd rfl ak (dF hd rfl ak (dF hd rfl ak (dF hd rfl ak (dF hd rfl ak (dT hd rfl #[0,a.rp,dx,0,h1,no "poke" ak ak ak,0,d,2,.int t,1,bL.of hd,rfl,0,d,2,.int ad,1,bL.of hd,rfl,0,d,2,.ref ca,1,bL.of hd,4])))));let g5:St.lg (cs.length:Int):=St.Ik af af;cases e:look W t with
  |none=>show .inr #[G,a,s',W,t,ad,ca,cs,N .noTask,rfl,R,bq.of hc,I,g5,S,g4,.inl #[e,rfl],O .noTask (nx nofun)]
  |some x =>
   cases h:cD ad cs.length (x.t.map (·.1))
   .show .inr #[G,a,s',W,t,ad,ca,cs,N .noPage,rfl,R,bq.of hc,I,g5,S,g4,.inr #[x,e,h,rfl],O .noPage (nx nofun)]
   .show .inl #[G,a,s',W,cv,t,ad,ca,cs,x,rfl,R,ri,cw,e,bq.of hc,L,h,λH1 M1 s1 y Y ab cv1 y1 y2 U J=>kQ H1 M1 s1 _ _ _ Y ab cv1 U J.1 (.poke t ad cs x y e y1 y2 rfl J.2.1 J.2.2.1 J.2.2.2) (by rw[Tb.ij];show QT _)]
 |copy t o =>
  let hd:H d=some (.tup [.str "copy",.int t,.int o]):=hd;let#[I,L]:=lg;show dF hd rfl ak (dF hd rfl ak (dF hd rfl ak (dF hd rfl ak (dF hd rfl ak (dF hd rfl ak #[0,a.rp,dx,0,h1,no "copy" ak ak ak,0,d,2,.int t,1,bL.of hd,rfl,0,d,2,.int o,1,bL.of hd,4])))));cases e:look W t with
  |none=>show .inr #[G,a,s',W,t,o,N .noTask,rfl,R,lw,I,L,(.inl #[e,rfl]),O .noTask λ_=>.inr rfl]
  |some x =>
   let xl:(x.t.length:Int)<=(St.ents W).length:=by
    have:=(St.gh R.nd e).length_eq;rw[y3]at this;let e2:(St.kW x.t).length=x.t.length:=qi _;omega
   cases e2:look W o with
   |some y=>show .inr #[G,a,s',W,t,o,N .taken,rfl,R,lw,I,L,(.inr #[x,e,.inl #[by rw[e2];nofun,rfl]]),O .taken λ_=>.inr rfl]
   |none =>
    cases h:St.mO s'<((St.ents W).length:Int)+x.t.length
    .show .inr #[G,a,s',W,t,o,N .noRoom,rfl,R,lw,I,L,(.inr #[x,e,.inr #[e2,h,af,rfl]]),O .noRoom λ_=>.inr rfl]
    .show .inl #[G,a,s',W,cv,t,o,x,rfl,R,ri,cw,lw,e,e2,af,λH1 M1 s1 y hy Y ab cv1 U J=>kQ H1 M1 s1 _ _ _ Y ab cv1 U J.1 (.copy t o x y e e2 hy rfl J.2) (by rw[y3];show t7 _)]
theorem iH{c:St.CA}{H:Hp}{M:Wz}{a:St.RA}{s:Pg.PS}{W:St.cN}(R:St.ax c H M a s W){b:Addr}{xs:List V}(h:H b=some (.tup xs)):¬ a.own W b:=λw=>by
 let#[dx,h1]:=R.pg.ob;let#[cs,h2,_]:=R.pg.fr.hc;let#[I,z,_]:=R.pg.sl.hc;let#[l,F,_]:=R.pg.pd;rcases w with w|w|⟨x,hx,w⟩
 .unfold St.PA.own at w;simp only[se,DO,or_false]at w;rcases w with w|w|w|w|w|w|w<;>rw[w]at h
  .rw[h1]at h;cases h
  .rw[R.pg.fr.hw]at h;cases h
  .rw[h2]at h;cases h
  .rw[R.pg.sl.hw]at h;cases h
  .rw[z]at h;cases h
  .rw[F]at h;cases h
  .rw[R.pg.il]at h;cases h
 .rw[w,R.hd]at h;cases h
 .rcases w with w|⟨y,G,w⟩
  .rw[w,(R.tb x hx).at_.hf]at h;cases h
  .rw[w,(R.tb x hx).at_.hd y G]at h;cases h
inductive r9(c0:St.CA)(vs:List V)(H:Hp)(Q:VK)(E:XK):Prop
 |mk(M:Wz)(a:St.RA)(s:Pg.PS)(W:St.cN)(cv:WA)(d:Addr)(D:f9)(_:vs=[.ref a.rp,.ref d])(_:St.ax c0 H M a s W)(_:Pg.RI s (St.ents W))(_:St.Cv s W cv)(_:W.length<=1000)(_:St.mO s<=400000)(_:fj H d D)(_:Lg D)(_:∀X,Fi D X->∀(H':Hp)(T:Addr),aR H H'->H' T=some (.tup [.non,.str (wordOf X)])->Q (.ref T) H')(_:∀(H':Hp)(M':Wz)(s':Pg.PS)(W':St.cN)(cv':WA)(T:Addr)(v:V),St.ax c0 H' M' a s' W'->Pg.RI s' (St.ents W')->St.Cv s' W' cv'->St.Step H M (a.own W) H' M' (a.own W')->(∀b,(s'.ow b).length=(s.ow b).length)->Mv s s' W W' D->W'.length<=W.length+1->H' T=some (.tup [v,.str ""])->Q (.ref T) H')
theorem CZ{f CK S ab:Addr}{c0:St.CA}{J:ip->Addr}{fd O ac:qw}(F:cj K "_law_told" "_law_told" Cn f fd)(am:mg "KernelError" = some (.ref CK))(hx:∀X,exmOne K (.ref (J X)) (.ref CK)=some true)
  (ap:⇑aN 11 S O ["_law_rooms","_law_deed_here"] (Cd c0 J)) (I:Def K mg "_law_do" S O ["_law_rooms","_law_deed_here"])
  (aT:∀hx:Addr,zc hx P w K mg base 1 ab ac ["_law_caught"] (yw J hx)) (G:Def K mg "_law_word" ab ac ["_law_caught"]):↥aN 12 f fd ["_law_rooms","_law_deed_here"] (r9 c0):=by
 show F.dE xu (λa1 A outer s H vs Q E U h=>?_);let#[MM,a,s',W,cv,d,D,rfl,R,ri,cw,lw,lt,hd,lg,kE,kQ]:=h;let hs:=vl;show#[_,(ai (cQ 2 xu.nd mI)
  (ai (cQ 3 xu.nd aS)
  (ai (EO rfl rfl rfl rfl am xu.nd (i:=4) rfl rfl (bO (Bb 2 xu.nd (wk ap (U.mono ar) rfl (by rfl) I.mg I.kp I.b .nil (aa (pv 0) (aa (pv 1) ag))))) (λ_=>(ao (cQ 3 xu.nd (Dh (aT _) ((U.mono ar).hand _) (by rfl) G.mg G.kp G.b (aa (pv 4) ag))))))
  (ai (bj (az qY (aM aK (pv 1) ah bX) aS (aF _)) (ao (cQ 2 xu.nd mI)) aI)
  (ao (aJ (cI (aa (pv 2) (aa (pv 3) ag))))))))),?_]
 let#[kr,N]:=hd.kind;show#[0,0,MM,a,s',W,cv,d,D,rfl,R,ri,cw,lw,lt,hd,lg,λX Lj H1 s1=>#[hx X,λe he=>?_],λH1 M1 s1 W1 cv1 v Y aB as st ln m a0=>?_]
 .show#[0,X,rfl,ae,λH2 s2=>?_];let L:=(s1.trans (au he)).trans s2;show#[0,d,2,.str (kindOf D),1,bL.of (L _ _ N),uQ,rfl,0,?_];show dX (λ_=>#[0,0,fG,λT z=>kE X Lj _ T (L.trans (au z)) ae]) (λ_=>#[0,0,fG,λT z=>kE X Lj _ T (L.trans (au z)) ae])
 .let k1:=st.off _ _ N (iH R N);show#[0,d,2,.str (kindOf D),1,bL.of k1,uQ,rfl,0,?_];let ad:∀(T:Addr)(u:V),H1 T=none->Q (.ref T) (upd H1 T (.tup [u,.str ""])):=λT u z=>kQ _ M1 s1 W1 cv1 T u (Y.same (au z)) aB as (st.trans (Y.j6 (au z))) ln m a0 ae;show dX (λ_=>#[0,0,fG,λT z=>ad T _ z]) (λ_=>#[0,0,fG,λT z=>ad T _ z])
abbrev iz:=List (Int×Addr×List (Int×Int))
def gf(x:Addr×List (Int×Int)):V:=.ref x.1
structure fO(H:Hp)(pd:Addr)(Pm:iz):Prop where
 hd:H pd=some (.dK (dk gf Pm))
 nd:(Pm.map (·.1)).Nodup
 rm:∀x∈Pm,H x.2.1=some (.dK (dk V.int x.2.2))
 np:∀x∈Pm,(x.2.2.map (·.1)).Nodup
 ne:∀x∈Pm,x.2.1≠pd
 dj:∀x∈Pm,∀y∈Pm,x.2.1=y.2.1->x=y
theorem fO.same{H H':Hp}{pd:Addr}{Pm:iz}(P:fO H pd Pm)(s:aR H H'):fO H' pd Pm:=#[s _ _ P.hd,P.nd,λx hx=>s _ _ (P.rm x hx),P.np,P.ne,P.dj]
def pw(pd:Addr)(Pm:iz)(x:Addr):Prop:=x=pd\/∃y∈Pm,y.2.1=x
theorem fO.kind{H:Hp}{pd:Addr}{Pm:iz}(P:fO H pd Pm){x:Addr}(h:pw pd Pm x):∃kvs,H x=some (.dK kvs):=by
 rcases h with rfl|⟨y,z,rfl⟩
 .show#[_,P.hd]
 .show#[_,P.rm y z]
def eW(W:St.cN)(t q:Int):Option Pg.Ent:=(look W t).bind λx=>look x.t q
def eP(Pm:iz)(t q:Int):Option Int:=(look Pm t).bind λr=>look r.2 q
structure Rel(W:St.cN)(Pm:iz)(b:Int):Prop where
 tk:∀t,look W t=none↔look Pm t=none
 pg:∀t q,eW W t q=none↔eP Pm t q=none
 bl:∀t q e v,eW W t q=some e->eP Pm t q=some v->0<=v/\v<=b/\(e=none↔v=0)
 eq:∀t q t' q' i i' v v',eW W t q=some (some i)->eP Pm t q=some v->eW W t' q'=some (some i')->eP Pm t' q'=some v'->(i=i'↔v=v')
section
variable{W W':St.cN}{Pm Pm':iz}{b b' k:Int}{s s':Pg.PS}{D:f9}
inductive Fr(W W':St.cN)(Pm Pm':iz)(b b':Int)(t q:Int):Prop
 |old(t0 q0:Int)(_:eW W' t q=eW W t0 q0)(_:eP Pm' t q=eP Pm t0 q0)
 |non(_:eW W' t q=none)(_:eP Pm' t q=none)
 |blank(_:eW W' t q=some none)(_:eP Pm' t q=some 0)
 |new(i v:Int)(_:eW W' t q=some (some i))(_:eP Pm' t q=some v)(_:b<v)(_:v<=b')(_:∀t2 q2,eW W' t2 q2=some (some i)->t2=t/\q2=q)(_:∀t2 q2,eP Pm' t2 q2=some v->t2=t/\q2=q)
theorem Rel.go(R:Rel W Pm b)(tk:∀t,look W' t=none↔look Pm' t=none)(hb:b<=b')(h0:0<=b)(F:∀t q,Fr W W' Pm Pm' b b' t q):Rel W' Pm' b':=by
 show#[tk,λt q=>?_,λt q e v h1 h2=>?_,λt q t' q' i i' v v' h1 h2 G O=>?_]
 .cases F t q with
  |old I J a c=>rw[a,c];show R.pg I J
  |non a c=>rw[a,c];show#[λ_=>rfl,λ_=>rfl]
  |blank a c=>rw[a,c];show#[nofun,nofun]
  |new i v a c=>rw[a,c];show#[nofun,nofun]
 .cases F t q with
  |old I J a c =>
   let#[U,Y,S]:=R.bl I J e v (a▸h1) (c▸h2);show#[U,af,S]
  |non a c=>rwa[a]at h1
  |blank a c =>
   rw[a]at h1;rw[c]at h2;cases h1;cases h2;show#[af,af,λ_=>rfl,λ_=>rfl]
  |new i v a c U Y =>
   rw[a]at h1;rw[c]at h2;cases h1;cases h2;show#[af,Y,nofun,λz=>by omega]
 .let Bq:∀{t q I J i v},eW W' t q=eW W I J->eP Pm' t q=eP Pm I J->eW W' t q=some (some i)->eP Pm' t q=some v->v<=b:=λ{t q I J i v} a c x y=>(R.bl I J _ v (a▸x) (c▸y)).2.1;cases F t q with
  |non a c=>rwa[a]at h1
  |blank a c=>rwa[a]at h1
  |new j u a c U Y S g4 =>
   rw[a]at h1;rw[c]at h2;cases h1;cases h2;show#[λz=>?_,λz=>?_]
   .subst z;let#[rfl,rfl]:=S t' q' G;rw[c]at O;show sN O
   .subst z;let#[rfl,rfl]:=g4 t' q' O;rw[a]at G;show sN (sN G)
  |old I J a c =>
   cases F t' q' with
   |non L N=>rwa[L]at G
   |blank L N=>rwa[L]at G
   |old t1 q1 L N=>show R.eq I J t1 q1 i i' v v' (a▸h1) (c▸h2) (L▸G) (N▸O)
   |new j u L N U Y S g4 =>
    rw[L]at G;rw[N]at O;cases G;cases O;show#[λz=>?_,λz=>?_]
    .subst z;let#[rfl,rfl]:=S t q h1;rw[N]at h2;show(sN h2).symm
    .have:=Bq a c h1 h2;omega
inductive Ep(k:Int)(Pm Pm':iz):f9->Prop
 |begin(t:Int)(r:Addr)(_:Pm'=Pm++[(t,r,[])]):Ep k Pm Pm' (.begin t)
 |close(t:Int)(_:Pm'=bp Pm t):Ep k Pm Pm' (.close t)
 |map(t pg m:Int)(r:Addr×List (Int×Int))(l:List (Int×Int))(_:look Pm t=some r)(_:∀q,look l q=if q∈aP pg m then some 0 else look r.2 q)(_:Pm'=a9 Pm t (r.1,l)):Ep k Pm Pm' (.map t pg m)
 |drop(t pg m:Int)(r:Addr×List (Int×Int))(l:List (Int×Int))(_:look Pm t=some r)(_:∀q,look l q=if q∈aP pg m then none else look r.2 q)(_:Pm'=a9 Pm t (r.1,l)):Ep k Pm Pm' (.drop t pg m)
 |peek(t ad n:Int)(_:Pm'=Pm):Ep k Pm Pm' (.peek t ad n)
 |poke(t ad:Int)(cs:List Int)(r:Addr×List (Int×Int))(l:List (Int×Int))(_:look Pm t=some r)(_:∀q,look l q=if q∈aD ad cs.length then some (64*k+q+1)else look r.2 q)(_:Pm'=a9 Pm t (r.1,l)):Ep k Pm Pm' (.poke t ad cs)
 |copy(t o:Int)(r:Addr)(x:Addr×List (Int×Int))(_:look Pm t=some x)(_:Pm'=Pm++[(o,r,x.2)]):Ep k Pm Pm' (.copy t o)
theorem gE{t:Int}{y:St.TD}(h:look W t=none)(t' q:Int):eW (W++[(t,y)]) t' q=if t'=t then look y.t q else eW W t' q:=by
 unfold eW;rw[bZ t' h];cases z:t'=t
 .rw[Wy z,Wy z];rfl
 .rw[Wx z,Wx z]
theorem jH{t:Int}{y:Addr×List (Int×Int)}(h:look Pm t=none)(t' q:Int):eP (Pm++[(t,y)]) t' q=if t'=t then look y.2 q else eP Pm t' q:=by
 unfold eP;rw[bZ t' h];cases z:t'=t
 .rw[Wy z,Wy z];rfl
 .rw[Wx z,Wx z]
theorem eY{t:Int}{x y:St.TD}(h:look W t=some x)(t' q:Int):eW (a9 W t y) t' q=if t'=t then look y.t q else eW W t' q:=by
 unfold eW;rw[bK t' h];cases z:t'=t
 .rw[Wy z,Wy z];rfl
 .rw[Wx z,Wx z]
theorem gL{t:Int}{x y:Addr×List (Int×Int)}(h:look Pm t=some x)(t' q:Int):eP (a9 Pm t y) t' q=if t'=t then look y.2 q else eP Pm t' q:=by
 unfold eP;rw[bK t' h];cases z:t'=t
 .rw[Wy z,Wy z];rfl
 .rw[Wx z,Wx z]
theorem gx{t:Int}{x:St.TD}(h:look W t=some x)(q:Int):eW W t q=look x.t q:=by unfold eW;rw[h];rfl
theorem iM{t:Int}{x:Addr×List (Int×Int)}(h:look Pm t=some x)(q:Int):eP Pm t q=look x.2 q:=by unfold eP;rw[h];rfl
theorem xr{t:Int}{x y:St.TD}{r l:Addr×List (Int×Int)}(R:Rel W Pm b)(h:look W t=some x)(g:look Pm t=some r)(t':Int):look (a9 W t y) t'=none↔look (a9 Pm t l) t'=none:=by
 rw[bK t' h,bK t' g];cases z:t'=t
 .rw[Wy z,Wy z];show#[nofun,nofun]
 .rw[Wx z,Wx z];show R.tk t'
theorem Ef{t q J S:Int}{i:Int}(nw:(W.map (·.1)).Nodup)(nx:∀t x,look W t=some x->(x.t.map (·.1)).Nodup)(c:(St.ents W).count (some i)=1)(h1:eW W t q=some (some i))(h2:eW W J S=some (some i)):J=t/\S=q:=by
 let#[x,hx,R]:=Q0.mp h1;let#[y,L,O]:=Q0.mp h2;let p:=St.gh nw hx;rw[p.count_eq,List.count_append]at c;let c1:0<(St.kW x.t).count (some i):=Oe.mpr (IF.mpr #[_,aC R,rfl]);cases e:J=t
 .subst e;rwa[hx]at L;show#[rfl,OO λz=>?_];let I:(St.kW x.t).count (some i)=1:=af;let F:=aC R;let G:=aC O;let N:=nx _ _ hx;revert I F G N;generalize x.t=l;intro I F G N
  induction l with
  |nil=>cases F
  |cons a l ih =>
   let ab:=N6.mp N;let Y:(St.kW (a::l)).count (some i)=(St.kW l).count (some i)+if a.2=some i then 1 else 0:=by
    change((a::l).map (·.2)).count (some i)=(l.map (·.2)).count (some i)+_;rw[Pb,Vl];cases w:a.2=some i
    .rw[Wy w,Wy (by rw[w];show beq_self_eq_true _)]
    .rw[Wx w,Wx (λy=>w (beq_iff_eq.mp y))]
   rw[Y]at I;rcases se.mp F with F|F<;>rcases se.mp G with G|G
   .rw[<-F]at G;show z (Vb G).1
   .have:0<(St.kW l).count (some i):=Oe.mpr (IF.mpr #[_,G,rfl]);rw[Wy (by rw[<-F])]at I;omega
   .have:0<(St.kW l).count (some i):=Oe.mpr (IF.mpr #[_,F,rfl]);rw[Wy (by rw[<-G])]at I;omega
   .have:0<(St.kW l).count (some i):=Oe.mpr (IF.mpr #[_,F,rfl]);show ih (by split at I<;>omega) F G ab.2
 .exfalso;have:0<(St.ents (bp W t)).count (some i):=Oe.mpr (by
   let U:look (bp W t) J=some y:=(by rw[Tb.bV,Wx e];show L);unfold St.ents;show QI.mpr #[_,aC U,IF.mpr #[_,aC O,rfl]])
  omega
theorem Rel.Mb(R:Rel W Pm (64*k))(k0:0<=k)(nw:(W'.map (·.1)).Nodup)(nx:∀t x,look W' t=some x->(x.t.map (·.1)).Nodup)(m:Mv s s' W W' D)(e:Ep k Pm Pm' D)(hp:∀t ad cs,D=.poke t ad cs->∀q∈aD ad cs.length,0<=q/\q<64):Rel W' Pm' (64*(k+1)):=by
 let N:64*k<=64*(k+1):=af;let S:0<=64*k:=af;cases m with
 |begin t y hn J G _ =>
  cases e with
  |begin _ r I =>
   subst G I;let O:=(R.tk t).mp hn;show R.go (λt'=>?_) N S λt' q=>?_
   .rw[bZ t' hn,bZ t' O];cases z:t'=t
    .rw[Wy z,Wy z];show#[nofun,nofun]
    .rw[Wx z,Wx z];show R.tk t'
   .by_cases z:t'=t
    .show .non (by rw[gE hn,Wy z,J];rfl) (by rw[jH O,Wy z];rfl)
    .show .old t' q (by rw[gE hn,Wx z]) (by rw[jH O,Wx z])
 |close t x _ G _ =>
  cases e with
  |close _ I =>
   subst G I;show R.go (λt'=>?_) N S λt' q=>?_
   .rw[Tb.bV,Tb.bV];cases z:t'=t
    .rw[Wy z,Wy z];show#[λ_=>rfl,λ_=>rfl]
    .rw[Wx z,Wx z];show R.tk t'
   .by_cases z:t'=t
    .show .non (by unfold eW;rw[Tb.bV,Wy z];rfl) (by unfold eP;rw[Tb.bV,Wy z];rfl)
    .show .old t' q (by unfold eW;rw[Tb.bV,Wx z]) (by unfold eP;rw[Tb.bV,Wx z])
 |map t pg m x y hx J G _ _ =>
  cases e with
  |map _ _ _ r l F L I =>
   subst G I;show R.go (xr R hx F) N S λt' q=>?_;cases z:t'=t
   .by_cases w:q∈aP pg m
    .show .blank (by rw[eY hx,Wy z,J,Wy w]) (by rw[gL F,Wy z,L,Wy w])
    .show .old t q (by rw[eY hx,Wy z,J,Wx w,gx hx]) (by rw[gL F,Wy z,L,Wx w,iM F])
   .show .old t' q (by rw[eY hx,Wx z]) (by rw[gL F,Wx z])
 |drop t pg m x y hx J G _ _ _ =>
  cases e with
  |drop _ _ _ r l F L I =>
   subst G I;show R.go (xr R hx F) N S λt' q=>?_;cases z:t'=t
   .by_cases w:q∈aP pg m
    .show .non (by rw[eY hx,Wy z,J,Wy w]) (by rw[gL F,Wy z,L,Wy w])
    .show .old t q (by rw[eY hx,Wy z,J,Wx w,gx hx]) (by rw[gL F,Wy z,L,Wx w,iM F])
   .show .old t' q (by rw[eY hx,Wx z]) (by rw[gL F,Wx z])
 |peek t ad n x hx G _ _ _ =>
  cases e with
  |peek _ _ _ I =>
   subst G I;show R.go R.tk N S λt' q=>.old t' q rfl rfl
 |poke t ad cs x y hx y1 y2 G _ _ _ =>
  cases e with
  |poke _ _ _ r l F L I =>
   subst G I;let hq:=hp t ad cs rfl;show R.go (xr R hx F) N S λt' q=>?_;cases z:t'=t
   .by_cases w:q∈aD ad cs.length
    .let#[i,g1,g2]:=y2 q w;let#[U,q1]:=hq q w;let ei:eW (a9 W t y) t' q=some (some i):=(by rw[eY hx,Wy z];show g1);let ev:eP (a9 Pm t (r.1,l)) t' q=some (64*k+q+1):=(by rw[gL F,Wy z,L,Wy w]);show .new i (64*k+q+1) ei ev af af (λt2 q2 h=>Ef nw nx g2 ei h) (λt2 q2 h=>?_);rw[gL F]at h;let ab:∀{Y U v},eP Pm Y U=some v->v<=64*k:=λ{Y U v} a=>by
      cases c:eW W Y U with
      |none=>rwa[(R.pg Y U).mp c]at a
      |some e=>show(R.bl Y U e v c a).2.1
     cases z2:t2=t
     .rw[Wy z2,L]at h;cases w2:q2∈aD ad cs.length
      .rw[Wy w2]at h;have:=sN h;show#[z2.trans z.symm,af]
      .rw[Wx w2, <-iM F]at h;have:=ab h;omega
     .rw[Wx z2]at h;have:=ab h;omega
    .show .old t q (by rw[eY hx,Wy z,y1 q w,gx hx]) (by rw[gL F,Wy z,L,Wx w,iM F])
   .show .old t' q (by rw[eY hx,Wx z]) (by rw[gL F,Wx z])
 |copy t o x y hx ho J G _ =>
  cases e with
  |copy _ _ r x2 ac I =>
   subst G I;let O:=(R.tk o).mp ho;show R.go (λt'=>?_) N S λt' q=>?_
   .rw[bZ t' ho,bZ t' O];cases z:t'=o
    .rw[Wy z,Wy z];show#[nofun,nofun]
    .rw[Wx z,Wx z];show R.tk t'
   .by_cases z:t'=o
    .show .old t q (by rw[gE ho,Wy z,J,gx hx]) (by rw[jH O,Wy z,iM ac])
    .show .old t' q (by rw[gE ho,Wx z]) (by rw[jH O,Wx z])
end
end Pr
namespace HT
open PySem PySem.Spec PyProof.Rows
section
variable{prog:tp}{A:L5}{E:WC}{s:oR}
end
end HT
namespace L2
open PySem PySem.Spec PyProof.Rows
section
variable{X:Cx}
theorem x8:eQ X (.type "dict") (λxs H Q=>∃(d:Addr)(kvs:List (Key×V)),xs=[.ref d]/\H d=some (.dK kvs)/\∀a,H a=none->Q (.ref a) (upd H a (.dK kvs))):=by
 intros xs us Q I r h;let#[d,kvs,rfl,hd,q]:=h;let#[u,rfl,N]:=vals1 r;obtain rfl:u=Value.ref d:=N;let#[G,F,vs,z,dd]:=qq I.bJ hd;let O:=z.length;show kt_call_dict (knd:=bT X.prog X.w) F dd af λh' J L=>?_;show#[.ref s⁻¹,_,I.laid (t':=s.toks) (h':=h') (λb o e=>?_) (t7 _) (uE G ?_ z J),rfl,q _ I.fresh]
 .show(L.2 b (Ou (Heap.lt_size e))).trans (Heap.get?_push_of_some _ e)
 .show beq_false_of_ne (Tx I.big)
def Kc:AX:=λo i v H Q=>∃a H',o=.ref a/\gK H a i v H'/\Q H'
theorem set_dict(L:X.A.units+1<P0):Fu X Kc:=by
 intros o i v ov N u Q I G J z h;let#[a,H',rfl,g,q]:=h;obtain rfl:ov=Value.ref a:=G;show rO L I g J z λs' F=>#[H',F,q]
end
end L2
namespace Pr
open PySem L2 Rm Tb
abbrev si:N8:=top 46
theorem iZ{α:Type}{f:α->V}{H:Hp}{a:Addr}{l:List (Int×α)}{t:Int}{x:α}(h:H a=some (.dK (Tb.dk f l)))(hx:Tb.look l t=some x):dN H a (.int t) (some (f x)):=by
 let q:=dN.k (k:=NC t) h;rw[Tb.cL,hx]at q;show q
theorem LH{α:Type}(l:List (Int×α))(t:Int)(a b:α):a9 (a9 l t a) t b=a9 l t b:=by
 unfold a9;rw[Qo];show O0 λx _=>?_;change(if (if x.1=t then(t,a)else x).1=t then(t,b)else(if x.1=t then(t,a)else x))=_;cases z:x.1=t
 .rw[Wy z,Wy z,Wy rfl]
 .simp only[Wx z]
theorem IG{α:Type}{l:List (Int×α)}{t:Int}{a:α}(F:(l.map (·.1)).Nodup)(h:look l t=some a):a9 l t a=l:=by
 unfold a9;show(O0 λx hx=>?_).trans (Ws _);cases z:x.1=t
 .rw[Wy z];have:=bW F (show(t,x.2)∈l by rw[<-z];show hx);rwa[h]at this;rw[<-z];rfl
 .rw[Wx z];rfl
theorem JG(l:List (Int×Int))(p v:Int):∃l',putK (dk V.int l) (.inl p) (.int v)=dk V.int l'/\(∀q,look l' q=if q=p then some v else look l q)/\((l.map (·.1)).Nodup->(l'.map (·.1)).Nodup)/\l'.length<=l.length+1:=by
 cases e:look l p with
 |none=>show#[l++[(p,v)],dU (f:=V.int) e,λq=>bZ q e,λh=>yy h e,by rw[y3];show t7 _]
 |some u=>show#[a9 l p v,jx (f:=V.int) e,λq=>bK q e,λh=>by rw[gk];show h,by rw[ij];show QT _]
section
variable{H H':Hp}{pd:Addr}{Pm:iz}{t:Int}{r:Addr×List (Int×Int)}{l:List (Int×Int)}
theorem fO.set(P:fO H pd Pm)(J:look Pm t=some r)(N:(l.map (·.1)).Nodup):fO (upd H r.1 (.dK (dk V.int l))) pd (a9 Pm t (r.1,l)):=by
 let G:=aC J;let O:dk gf (a9 Pm t (r.1,l))=dk gf Pm:=Ee P.nd J rfl;let I:∀x∈Pm,x.1≠t->x.2.1≠r.1:=λx hx n z=>n (congrArg Prod.fst (P.dj x hx _ G z));show#[by rw[aj (λz=>P.ne _ G z.symm),O];show P.hd,by rw[gk];show P.nd,λx hx=>?_,λx hx=>?_,λx hx=>?_,λx hx y F z=>?_]
 .rcases mem_set hx with rfl|⟨hx,n⟩
  .show ae
  .rw[aj (I x hx n)];show P.rm x hx
 .rcases mem_set hx with rfl|⟨hx,n⟩
  .show N
  .show P.np x hx
 .rcases mem_set hx with rfl|⟨hx,n⟩
  .show(P.ne (t,r) G:r.1≠pd)
  .show P.ne x hx
 .rcases mem_set hx with rfl|⟨hx,n⟩<;>rcases mem_set F with rfl|⟨F,L⟩
  .rfl
  .show absurd z.symm (I y F L)
  .show absurd z (I x hx n)
  .show P.dj x hx y F z
theorem fO.add{e:Addr}(P:fO H pd Pm)(J:look Pm t=none)(G:H e=none)(L:(l.map (·.1)).Nodup):fO (upd (upd H e (.dK (dk V.int l))) pd (.dK (dk gf (Pm++[(t,e,l)])))) pd (Pm++[(t,e,l)]):=by
 let ne:e≠pd:=λz=>(by rwa[z,P.hd]at G);let I:∀x∈Pm,x.2.1≠e:=λx hx z=>(by have:=P.rm x hx;rwa[z,G]at this);show#[ae,yy P.nd J,λx hx=>?_,λx hx=>?_,λx hx=>?_,λx hx y F z=>?_]
 .rcases t4.mp hx with hx|hx
  .rw[aj (P.ne x hx),aj (I x hx)];show P.rm x hx
  .rw[qj.mp hx];change upd _ pd _ e=_;rw[aj ne];show ae
 .rcases t4.mp hx with hx|hx
  .show P.np x hx
  .rw[qj.mp hx];show L
 .rcases t4.mp hx with hx|hx
  .show P.ne x hx
  .rw[qj.mp hx];show ne
 .rcases t4.mp hx with hx|hx<;>rcases t4.mp F with F|F
  .show P.dj x hx y F z
  .rw[qj.mp F]at z;show absurd z (I x hx)
  .rw[qj.mp hx]at z;show absurd z.symm (I y F)
  .rw[qj.mp hx,qj.mp F]
theorem fO.del(P:fO H pd Pm):fO (upd H pd (.dK (dk gf (bp Pm t)))) pd (bp Pm t):=by
 let m:∀x∈bp Pm t,x∈Pm:=λx hx=>(Px.mp hx).1;show#[ae,mz P.nd,λx hx=>by rw[aj (P.ne x (m x hx))];show P.rm x (m x hx),λx hx=>P.np x (m x hx),λx hx=>P.ne x (m x hx),λx hx y F z=>P.dj x (m x hx) y (m y F) z]
end
def Km(Pm:iz):f9->Prop
 |.begin t=>look Pm t=none
 |.close t=>∃r,look Pm t=some r
 |.map t pg m=>¬ br pg m/\∃r,look Pm t=some r
 |.drop t pg m=>¬ br pg m/\∃r,look Pm t=some r/\∀q∈aP pg m,look r.2 q≠none
 |.peek .. => True
 |.poke t ad cs=>cs.length<=600/\∃r,look Pm t=some r
 |.copy t o=>(∃r,look Pm t=some r)/\look Pm o=none
inductive qA(vs:List V)(H:Hp)(Q:VK)(E:XK):Prop
 |mk(pd d:Addr)(Pm:iz)(D:f9)(k:Int)(_:vs=[.ref pd,.ref d,.int k])(_:fO H pd Pm)(_:∀x∈Pm,x.2.2.length<=1000)(_:Pm.length<=1000)(_:fj H d D)(_:Km Pm D)(_:∀(H':Hp)(Pm':iz),Ep k Pm Pm' D->fO H' pd Pm'->Off (pw pd Pm) H H'->(∀x,pw pd Pm' x->pw pd Pm x\/H x=none)->Q .non H')
inductive Gj(H0:Hp)(pd d:Addr)(Pm:iz)(t k:Int)(r:Addr×List (Int×Int))(pf:Nat->Int)(g:Int->Option Int)(i:Nat)(σ:L2.St)(H:Hp):Prop
 |mk(v3 v4:Option V)(l:List (Int×Int))(_:σ=#v[.ref pd,.ref d,.int k,v3,v4])(_:fO H pd (a9 Pm t (r.1,l)))(_:∀q,((∃j,j<i/\q=pf j)->look l q=g q)/\((¬ ∃j,j<i/\q=pf j)->look l q=look r.2 q))(_:l.length<=1000+i)(_:Off (pw pd Pm) H0 H)
theorem fz{pg m q:Int}:q∈aP pg m↔∃j:Nat,j<m.toNat/\q=pg+(j:Int):=by
 unfold aP;rw[IF];constructor
 .rintro⟨j,h1,h2⟩;show#[j,Q1.mp h1,h2.symm]
 .rintro⟨j,h1,h2⟩;show#[j,Q1.mpr h1,h2.symm]
theorem rX{ad q:Int}{n:Nat}:q∈aD ad n↔∃j:Nat,j<n/\q=(ad+(j:Int))/8:=by
 unfold aD;cases z:(n:Int)=0
 .rw[Wy z];show#[nofun,λ⟨j,h,_⟩=>by omega]
 .rw[Wx z,fz];unfold dR dP;constructor
  .rintro⟨j,h1,h2⟩;cases y:8*q<=ad
   .show#[(0),af,af]
   .show#[(8*q-ad).toNat,af,af]
  .rintro⟨j,h1,h2⟩;show#[(q-ad/8).toNat,af,af]
section
variable{H0 H:Hp}{pd d:Addr}{Pm:iz}{t k:Int}{r:Addr×List (Int×Int)}{pf:Nat->Int}{g:Int->Option Int}{i:Nat}{l l':List (Int×Int)}
theorem grow{v:Option Int}(h:∀q,((∃j,j<i/\q=pf j)->look l q=g q)/\((¬ ∃j,j<i/\q=pf j)->look l q=look r.2 q))(e:∀q,look l' q=if q=pf i then v else look l q)(F:g (pf i)=v):∀q,((∃j,j<i+1/\q=pf j)->look l' q=g q)/\((¬ ∃j,j<i+1/\q=pf j)->look l' q=look r.2 q):=λq=>by
 rw[e];cases z:q=pf i
 .rw[Wy z];show#[λ_=>by rw[z,F],λn=>absurd #[i,Q4 i,z] n]
 .rw[Wx z];show#[λ⟨j,h1,h2⟩=>(h q).1 #[j,?_,h2],λn=>(h q).2 λ⟨j,h1,h2⟩=>n #[j,af,h2]];rcases Nat.lt_succ_iff_lt_or_eq.mp h1 with h1|h1
  .show h1
  .show absurd (by rw[<-h1];show h2) z
theorem fO.own{H':Hp}(P:fO H pd (a9 Pm t (r.1,l)))(F:look Pm t=some r)(z:(l'.map (·.1)).Nodup):fO (upd H r.1 (.dK (dk V.int l'))) pd (a9 Pm t (r.1,l')):=by
 have:=P.set (t:=t) (r:=(r.1,l)) (l:=l') (by rw[bK t F,Wy rfl]) z;rw[LH]at this;show this
theorem wR(F:look Pm t=some r){x:Addr}(h:pw pd (a9 Pm t (r.1,l)) x):pw pd Pm x:=by
 rcases h with h|⟨y,z,h⟩
 .show .inl h
 .rcases mem_set z with rfl|⟨z,_⟩
  .show .inr #[_,aC F,h]
  .show .inr #[y,z,h]
theorem Dd:aA ["_law_pages","_law_deed_here","_law_k","_law_page_here","_law_at"] ["_law_pages","_law_deed_here","_law_k"] (aq si):=L2.bC
theorem m4{K:DD}{tt F:TS}{D:Ends}{σ:L2.St}{H:Hp}{d:Addr}{z nm:Str}{G:List V}(I:σ[1]?=some (some (.ref d)))(hd:H d=some (.tup (.str z::G)))(y:z=nm->tt { D with nx:=F D } σ H)(n:z≠nm->F D σ H):cn (xF (pY (Aj Jc (Aj (zR K) (vY 1) (tC (.int 0))) (tC (.str nm)))) tt rN) F D σ H:=by
 show gO λ_ L J=>?_;show#[_,I,d,2,.str z,1,bL.of hd,uQ,rfl,0,?_];show jj (λc=>L _ (y (V.str.inj (of_decide_eq_true c)))) (λc=>J _ (n λe=>c (decide_eq_true (congrArg V.str e))))
theorem JW{K:DD}{tt:TS}{D:Ends}{σ:L2.St}{H:Hp}{d:Addr}{z nm:Str}{F:List V}(I:σ[1]?=some (some (.ref d)))(hd:H d=some (.tup (.str z::F)))(y:z=nm->tt D σ H)(n:z≠nm->D.nx σ H):xF (pY (Aj Jc (Aj (zR K) (vY 1) (tC (.int 0))) (tC (.str nm)))) tt rN D σ H:=by
 show qT λ_ G J=>?_;show#[_,I,d,2,.str z,1,bL.of hd,uQ,rfl,0,?_];show jj (λc=>G _ (y (V.str.inj (of_decide_eq_true c)))) (λc=>J _ (n λe=>c (decide_eq_true (congrArg V.str e))))
theorem Kb{D:Ends}{σ:L2.St}{H:Hp}{J U O S L N:TS}(k:∀R,Le N R->∀G,Le (cn L R) G->∀z,Le (cn S G) z->∀I,Le (cn O z) I->∀F,Le (cn U I) F->cn J F D σ H):cn J (cn U (cn O (cn S (cn L N)))) D σ H:=k _ Le.rfl _ Le.rfl _ Le.rfl _ Le.rfl _ Le.rfl
theorem Ax(F:cj K "_law_mapped" "_law_mapped" si f fd)(T:lK mg):↥aN 1 f fd ["_law_pages","_law_deed_here","_law_k"] qA:=by
 show F.dE Dd (λap A outer s H vs Q E hr h=>?_);let#[pd,d,Pm,D,k,rfl,J,ab,lP,hd,ok,kQ]:=h;let hs:=vl;show#[_,(ai (bj (az bM (aM aK (pv 1) ah bX) aS (aF _)) (ao (fq eE (gr (pv 0) (aM aK (pv 1) ah bX) (set_dict (bN hr))))) aI)
  (ai (bj (az bM (aM aK (pv 1) ah bX) aS (aF _)) (ao (aQ (ic (pv 0) (aM aK (pv 1) ah bX) #[1,1]))) aI)
  (ai (bj (az bM (aM aK (pv 1) ah bX) aS (aF _)) (ao (fq (cJ x8 (by rfl) T.dict uc (aa (cE (bN hr) (pv 0) (aM aK (pv 1) ah bX) bX) ag)) (gr (pv 0) (aM aK (pv 1) ah bX) (set_dict (bN hr))))) aI)
  (ai (bj (az bM (aM aK (pv 1) ah bX) aS (aF _)) (ao (cA C4 rfl (rW (by rfl) T.range (aa (aM aK (pv 1) ah bX) (aa (ay bD (aM aK (pv 1) ah bX) (aM aK (pv 1) ah bX)) ag))) (gH 3 Dd.nd) (ao (fq ah (gr (cE (bN hr) (pv 0) (aM aK (pv 1) ah bX) bX) (pv 3) (set_dict (bN hr))))))) aI)
  (ai (bj (az bM (aM aK (pv 1) ah bX) aS (aF _)) (ao (cA C4 rfl (rW (by rfl) T.range (aa (aM aK (pv 1) ah bX) (aa (ay bD (aM aK (pv 1) ah bX) (aM aK (pv 1) ah bX)) ag))) (gH 3 Dd.nd) (ao (aQ (ic (cE (bN hr) (pv 0) (aM aK (pv 1) ah bX) bX) (pv 3) #[1,1]))))) aI)
  (ao (bj (az bM (aM aK (pv 1) ah bX) aS (aF _)) (ao (cA C4 rfl (mh (by rfl) T.range (aa (aO bB (by rfl) T.len boot_len (aa (aM aK (pv 1) ah bX) ag)) ag)) (gH 4 Dd.nd) (ai (cQ 3 Dd.nd (ay bg (ay bD (aM aK (pv 1) ah bX) (pv 4)) ah))
  (ao (fq (ay bD (ay bD (ay kh ah (pv 2)) (pv 3)) ah) (gr (cE (bN hr) (pv 0) (aM aK (pv 1) ah bX) bX) (pv 3) (set_dict (bN hr)))))))) aI))))))),?_]
 show Kb λu6 e6 u5 e5 u4 e4 u3 e3 u2 e2=>?_;let#[kr,hk]:=hd.kind;let Y:∀{H':Hp}{x xs},Off (pw pd Pm) H H'->H x=some (.tup xs)->H' x=some (.tup xs):=λ{H' x xs} o e=>o _ _ e λz=>by
  let#[_,h]:=J.kind z;rwa[e]at h
 let lst:∀{H':Hp}{x xs},Off (pw pd Pm) H H'->H x=some (.lst xs)->H' x=some (.lst xs):=λ{H' x xs} o e=>o _ _ e λz=>by
  let#[_,h]:=J.kind z;rwa[e]at h
 let s6:∀{σ:L2.St}{H':Hp}{U:Ends},σ[1]?=some (some (.ref d))->H' d=some (.tup (.str (kindOf D)::kr))->kindOf D ≠ "poke" -> U.nx σ H'->u6 U σ H':=λh1 h2 n h3=>e6 _ _ _ (JW h1 h2 (λe=>absurd e n) λ_=>h3);let s5:∀{σ:L2.St}{H':Hp}{U:Ends},σ[1]?=some (some (.ref d))->H' d=some (.tup (.str (kindOf D)::kr))->kindOf D ≠ "drop" -> kindOf D ≠ "poke" -> U.nx σ H'->u5 U σ H':=λh1 h2 n1 n2 h3=>e5 _ _ _ (m4 h1 h2 (λe=>absurd e n1) λ_=>s6 h1 h2 n2 h3);let s4:∀{σ:L2.St}{H':Hp}{U:Ends},σ[1]?=some (some (.ref d))->H' d=some (.tup (.str (kindOf D)::kr))->kindOf D ≠ "map" -> kindOf D ≠ "drop" -> kindOf D ≠ "poke" -> U.nx σ H'->u4 U σ H':=λh1 h2 n0 n1 n2 h3=>e4 _ _ _ (m4 h1 h2 (λe=>absurd e n0) λ_=>s5 h1 h2 n1 n2 h3);let s3:∀{σ:L2.St}{H':Hp}{U:Ends},σ[1]?=some (some (.ref d))->H' d=some (.tup (.str (kindOf D)::kr))->kindOf D ≠ "copy" -> kindOf D ≠ "map" -> kindOf D ≠ "drop" -> kindOf D ≠ "poke" -> U.nx σ H'->u3 U σ H':=λh1 h2 m n0 n1 n2 h3=>e3 _ _ _ (m4 h1 h2 (λe=>absurd e m) λ_=>s4 h1 h2 n0 n1 n2 h3);cases D with
 |begin t =>
  let hd:H d=some (.tup [.str "begin",.int t]):=hd;show m4 rfl hd (λ_=>?_) (λn=>absurd rfl n);intro e he;let h1:=au (X:=.dK []) he;show#[0,0,d,2,.int t,1,bL.of (h1 _ _ hd),rfl,pd,0,gK.k (k:=.inl t) (h1 _ _ J.hd) (by rw[dg];omega),?_];rw[show putK (dk gf Pm) (.inl t) (.ref e)=dk gf (Pm++[(t,e,[])])from dU (f:=gf) (a:=(e,[])) ok];let o:Off (pw pd Pm) H (upd (upd H e (.dK [])) pd (.dK (dk gf (Pm++[(t,e,[])])))):=λb u eb n=>by
   rw[aj (λz=>n (.inl z)),aj (λz=>by rwa[z,he]at eb)];show eb
  show e2 _ _ _ (m4 rfl (Y o hk) (λe=>absurd e (by(try dsimp only[kindOf]);decide +kernel)) λ_=>s3 rfl (Y o hk) (by(try dsimp only[kindOf]);decide +kernel) (by(try dsimp only[kindOf]);decide +kernel) (by(try dsimp only[kindOf]);decide +kernel) (by(try dsimp only[kindOf]);decide +kernel) (kQ _ _ (.begin t e rfl) (J.add ok he Pu) o λx hx=>?_));rcases hx with hx|⟨y,O,hx⟩
  .show .inl (.inl hx)
  .rcases t4.mp O with O|O
   .show .inl (.inr #[y,O,hx])
   .rw[qj.mp O]at hx;show .inr (by rw[<-hx];show he)
 |close t =>
  let hd:H d=some (.tup [.str "close",.int t]):=hd;let#[r,G]:=ok;show m4 rfl hd (λe=>absurd e (by(try dsimp only[kindOf]);decide +kernel)) λ_=>e2 _ _ _ (m4 rfl hd (λ_=>?_) (λn=>absurd rfl n));show#[0,pd,rfl,.inl #[_,.inl J.hd],0,d,2,.int t,1,bL.of hd,5,.inl t,gf r,J.hd,rfl,by rw[cL,G];rfl,?_];rw[hG];let o:Off (pw pd Pm) H (upd H pd (.dK (dk gf (bp Pm t)))):=λb u eb n=>(by rw[aj (λz=>n (.inl z))];show eb);show s3 rfl (Y o hk) (by(try dsimp only[kindOf]);decide +kernel) (by(try dsimp only[kindOf]);decide +kernel) (by(try dsimp only[kindOf]);decide +kernel) (by(try dsimp only[kindOf]);decide +kernel) (kQ _ _ (.close t rfl) J.del o λx hx=>.inl ?_);rcases hx with hx|⟨y,O,hx⟩
  .show .inl hx
  .show .inr #[y,(Px.mp O).1,hx]
 |copy t o =>
  let hd:H d=some (.tup [.str "copy",.int t,.int o]):=hd;let#[#[r,G],ho]:=ok;let S:=aC G;show m4 rfl hd (λe=>absurd e (by(try dsimp only[kindOf]);decide +kernel)) λ_=>e2 _ _ _ (m4 rfl hd (λe=>absurd e (by(try dsimp only[kindOf]);decide +kernel)) λ_=>e3 _ _ _ (m4 rfl hd (λ_=>?_) (λn=>absurd rfl n)));show#[0,0,d,2,.int t,1,bL.of hd,rfl,pd,0,iZ J.hd G,r.1,0,J.rm _ S,λe he=>?_];let h1:=au (X:=.dK (dk V.int r.2)) he;show#[0,0,d,2,.int o,1,bL.of (h1 _ _ hd),rfl,pd,0,gK.k (k:=.inl o) (h1 _ _ J.hd) (by rw[dg];omega),?_];rw[show putK (dk gf Pm) (.inl o) (.ref e)=dk gf (Pm++[(o,e,r.2)])from dU (f:=gf) (a:=(e,r.2)) ho];let off:Off (pw pd Pm) H (upd (upd H e (.dK (dk V.int r.2))) pd (.dK (dk gf (Pm++[(o,e,r.2)])))):=λb u eb n=>by
   rw[aj (λz=>n (.inl z)),aj (λz=>by rwa[z,he]at eb)];show eb
  show s4 rfl (Y off hk) (by(try dsimp only[kindOf]);decide +kernel) (by(try dsimp only[kindOf]);decide +kernel) (by(try dsimp only[kindOf]);decide +kernel) (kQ _ _ (.copy t o e r G rfl) (J.add ho he (J.np _ S)) off λx hx=>?_);rcases hx with hx|⟨y,O,hx⟩
  .show .inl (.inl hx)
  .rcases t4.mp O with O|O
   .show .inl (.inr #[y,O,hx])
   .rw[qj.mp O]at hx;show .inr (by rw[<-hx];show he)
 |map t pg m =>
  let hd:H d=some (.tup [.str "map",.int t,.int pg,.int m]):=hd;let#[np,r,G]:=ok;let S:=aC G;obtain⟨m1,p0,pm⟩:1<=m/\0<=pg/\pg+m<=64:=(by unfold br at np;omega);show m4 rfl hd (λe=>absurd e (by(try dsimp only[kindOf]);decide +kernel)) λ_=>e2 _ _ _ (m4 rfl hd (λe=>absurd e (by(try dsimp only[kindOf]);decide +kernel)) λ_=>e3 _ _ _ (m4 rfl hd (λe=>absurd e (by(try dsimp only[kindOf]);decide +kernel)) λ_=>e4 _ _ _ (m4 rfl hd (λ_=>?_) (λn=>absurd rfl n))));show#[0,d,2,.int pg,1,bL.of hd,rfl,0,d,2,.int pg,1,bL.of hd,rfl,0,d,2,.int m,1,bL.of hd,5,0,5,0,#[af,af,af,af],?_];show jP (lo:=pg) (n:=(pg+m-pg).toNat) (Gj H pd d Pm t k r (λj:Nat=>pg+(j:Int)) (λ_=>some 0)) #[2,r.2,rfl,by rw[IG J.nd G];show J,λq=>#[λ⟨j,h,_⟩=>absurd h (Th j),λ_=>rfl],by have:=ab _ S;omega,λ_ _ e _=>e] ?_ ?_
  .rintro i σ H2 hi ⟨v3,v4,l,rfl,I,L,ll,N⟩;let#[l',g1,g2,g3,g4]:=JG l (pg+(i:Int)) 0;let R:look (a9 Pm t (r.1,l)) t=some (r.1,l):=(by rw[bK t G,Wy rfl]);show#[0,0,d,2,.int t,1,bL.of (Y N hd),rfl,pd,0,iZ I.hd R,0,r.1,0,gK.k (k:=.inl (pg+(i:Int))) (I.rm _ (aC R)) (by rw[dg];change l.length<_;omega),?_];change Gj H pd d Pm t k r (λj:Nat=>pg+(j:Int)) (λ_=>some 0) (i+1) _ (upd H2 r.1 (.dK (putK (dk V.int l) (.inl (pg+(i:Int))) (.int 0))));rw[g1];show#[2,l',rfl,I.own (H':=H2) G (g3 (I.np _ (aC R))),grow L g2 rfl,af,λb u e n=>by rw[aj (λz=>n (.inr #[_,S,z.symm]))];show N b u e n]
  .rintro σ H2 ⟨v3,v4,l,rfl,I,L,ll,N⟩;show s5 rfl (Y N hk) (by(try dsimp only[kindOf]);decide +kernel) (by(try dsimp only[kindOf]);decide +kernel) (kQ _ _ (.map t pg m r l G (λq=>?_) rfl) I N λx hx=>.inl (wR G hx));let e1:(pg+m-pg).toNat=m.toNat:=af;rw[e1]at L;cases z:q∈aP pg m
   .rw[Wy z];show(L q).1 (fz.mp z)
   .rw[Wx z];show(L q).2 λy=>z (fz.mpr y)
 |drop t pg m =>
  let hd:H d=some (.tup [.str "drop",.int t,.int pg,.int m]):=hd;let#[np,r,G,am]:=ok;let S:=aC G;obtain⟨m1,p0,pm⟩:1<=m/\0<=pg/\pg+m<=64:=(by unfold br at np;omega);show m4 rfl hd (λe=>absurd e (by(try dsimp only[kindOf]);decide +kernel)) λ_=>e2 _ _ _ (m4 rfl hd (λe=>absurd e (by(try dsimp only[kindOf]);decide +kernel)) λ_=>e3 _ _ _ (m4 rfl hd (λe=>absurd e (by(try dsimp only[kindOf]);decide +kernel)) λ_=>e4 _ _ _ (m4 rfl hd (λe=>absurd e (by(try dsimp only[kindOf]);decide +kernel)) λ_=>e5 _ _ _ (m4 rfl hd (λ_=>?_) (λn=>absurd rfl n)))));show#[0,d,2,.int pg,1,bL.of hd,rfl,0,d,2,.int pg,1,bL.of hd,rfl,0,d,2,.int m,1,bL.of hd,5,0,5,0,#[af,af,af,af],?_];show jP (lo:=pg) (n:=(pg+m-pg).toNat) (Gj H pd d Pm t k r (λj:Nat=>pg+(j:Int)) (λ_=>none)) #[2,r.2,rfl,by rw[IG J.nd G];show J,λq=>#[λ⟨j,h,_⟩=>absurd h (Th j),λ_=>rfl],by have:=ab _ S;omega,λ_ _ e _=>e] ?_ ?_
  .rintro i σ H2 hi ⟨v3,v4,l,rfl,I,L,ll,N⟩;let R:look (a9 Pm t (r.1,l)) t=some (r.1,l):=(by rw[bK t G,Wy rfl]);let ac:=I.rm _ (aC R);obtain⟨u,hu⟩:∃u,look l (pg+(i:Int))=some u:=by
    let h1:=(L (pg+(i:Int))).2 (by rintro⟨j,h,e⟩;have:pg+(i:Int)=pg+(j:Int):=e;omega);let h2:=am (pg+(i:Int)) (fz.mpr #[i,af,rfl]);cases e:look l (pg+(i:Int))with
    |none=>rw[e]at h1;show absurd h1.symm h2
    |some u=>show#[u,rfl]
   show#[0,0,d,2,.int t,1,bL.of (Y N hd),rfl,pd,0,iZ I.hd R,r.1,rfl,.inl #[_,.inl ac],0,_,.inl (pg+(i:Int)),.int u,ac,rfl,by rw[cL,hu];rfl,?_];change Gj H pd d Pm t k r (λj:Nat=>pg+(j:Int)) (λ_=>none) (i+1) _ (upd H2 r.1 (.dK (m9 (dk V.int l) (.inl (pg+(i:Int))))));rw[hG];show#[2,0,I.own (H':=H2) G (mz (I.np _ (aC R))),grow L (λq=>bV l (pg+(i:Int)) q) rfl,by have:=QH (λx:Int×Int=>decide (x.1≠pg+(i:Int))) l;change(bp l (pg+(i:Int))).length<=_;unfold bp;omega,λb u e n=>by rw[aj (λz=>n (.inr #[_,S,z.symm]))];show N b u e n]
  .rintro σ H2 ⟨v3,v4,l,rfl,I,L,ll,N⟩;show s6 rfl (Y N hk) (by(try dsimp only[kindOf]);decide +kernel) (kQ _ _ (.drop t pg m r l G (λq=>?_) rfl) I N λx hx=>.inl (wR G hx));let e1:(pg+m-pg).toNat=m.toNat:=af;rw[e1]at L;cases z:q∈aP pg m
   .rw[Wy z];show(L q).1 (fz.mp z)
   .rw[Wx z];show(L q).2 λy=>z (fz.mpr y)
 |peek t ad n =>
  let hd:H d=some (.tup [.str "peek",.int t,.int ad,.int n]):=hd;show m4 rfl hd (λe=>absurd e (by(try dsimp only[kindOf]);decide +kernel)) λ_=>e2 _ _ _ (m4 rfl hd (λe=>absurd e (by(try dsimp only[kindOf]);decide +kernel)) λ_=>s3 rfl hk (by(try dsimp only[kindOf]);decide +kernel) (by(try dsimp only[kindOf]);decide +kernel) (by(try dsimp only[kindOf]);decide +kernel) (by(try dsimp only[kindOf]);decide +kernel) (kQ _ _ (.peek t ad n rfl) J (λ_ _ e _=>e) λx hx=>.inl hx))
 |poke t ad cs =>
  let#[ca,hd,hc]:=hd;let#[lc,r,G]:=ok;let S:=aC G;show m4 rfl hd (λe=>absurd e (by(try dsimp only[kindOf]);decide +kernel)) λ_=>e2 _ _ _ (m4 rfl hd (λe=>absurd e (by(try dsimp only[kindOf]);decide +kernel)) λ_=>e3 _ _ _ (m4 rfl hd (λe=>absurd e (by(try dsimp only[kindOf]);decide +kernel)) λ_=>e4 _ _ _ (m4 rfl hd (λe=>absurd e (by(try dsimp only[kindOf]);decide +kernel)) λ_=>e5 _ _ _ (m4 rfl hd (λe=>absurd e (by(try dsimp only[kindOf]);decide +kernel)) λ_=>e6 _ _ _ (JW rfl hd (λ_=>?_) (λn=>absurd rfl n))))));show#[0,d,2,.ref ca,1,bL.of hd,rfl,ca,0,.inl (bq.of hc),0,by rw[qi];omega,by rw[qi];omega,?_];rw[qi];show jP (lo:=0) (n:=((cs.length:Int)).toNat) (Gj H pd d Pm t k r (λj:Nat=>(ad+(j:Int))/8) (λq=>some (64*k+q+1))) #[2,r.2,rfl,by rw[IG J.nd G];show J,λq=>#[λ⟨j,h,_⟩=>absurd h (Th j),λ_=>rfl],by have:=ab _ S;omega,λ_ _ e _=>e] ?_ ?_
  .rintro i σ H2 hi ⟨v3,v4,l,rfl,I,L,ll,N⟩;let hi:i<cs.length:=af;let z0:(0:Int)+(i:Int)=(i:Int):=Int.zero_add _;let#[l',g1,g2,g3,g4]:=JG l ((ad+(i:Int))/8) (64*k+(ad+(i:Int))/8+1);let R:look (a9 Pm t (r.1,l)) t=some (r.1,l):=(by rw[bK t G,Wy rfl]);show St.nameQ ?_;dsimp only;show gN λ_ jt=>?_;show#[0,d,2,.int ad,1,bL.of (Y N hd),rfl,0,_,0,5,0,rfl,#[ar,ar],jt _ _ ?_];rw[z0];show#[0,_,0,rfl,.inl #[ar,ar],0,_,0,5,0,rfl,0,0,d,2,.int t,1,bL.of (Y N hd),rfl,pd,0,iZ I.hd R,0,r.1,0,gK.k (k:=.inl ((ad+(i:Int))/8)) (I.rm _ (aC R)) (by rw[dg];change l.length<_;omega),?_];change Gj H pd d Pm t k r (λj:Nat=>(ad+(j:Int))/8) (λq=>some (64*k+q+1)) (i+1) _ (upd H2 r.1 (.dK (putK (dk V.int l) (.inl ((ad+(i:Int))/8)) (.int (64*k+(ad+(i:Int))/8+1)))));rw[g1];show#[2,l',rfl,I.own (H':=H2) G (g3 (I.np _ (aC R))),grow L g2 rfl,af,λb u e n=>by rw[aj (λz=>n (.inr #[_,S,z.symm]))];show N b u e n]
  .rintro σ H2 ⟨v3,v4,l,rfl,I,L,ll,N⟩;show kQ _ _ (.poke t ad cs r l G (λq=>?_) rfl) I N λx hx=>.inl (wR G hx);let e1:((cs.length:Int)).toNat=cs.length:=af;rw[e1]at L;cases z:q∈aD ad cs.length
   .rw[Wy z];show(L q).1 (rX.mp z)
   .rw[Wx z];show(L q).2 λy=>z (rX.mpr y)
end
abbrev Bm:N8:=top 47
abbrev uh:N8:=top 48
inductive xw(vs:List V)(H:Hp)(Q:VK)(E:XK):Prop
 |mk(s:Pg.PS)(e:Pg.Ent)(sp:Addr)(nf nl:Nat)(_:vs=[.ref sp,.int nf,.int nl])(_:St.Iz s H (.ref sp) (some e))(_:∀k b n,s.pl k=some (b,n)->n<(if b=true then nf else nl))(_:∀H',aR H H'->Q (.bl true) H')
abbrev Row:=Int×Int×Int×Pg.Ent
def rk(s:Pg.PS)(H:Hp)(x:V)(r:Row):Prop:=∃T sp,x=.ref T/\H T=some (.tup [.int r.1,.int r.2.1,.int r.2.2.1,.ref sp])/\St.Iz s H (.ref sp) (some r.2.2.2)
theorem uw{s:Pg.PS}{H H':Hp}{v:V}{e:Option Pg.Ent}(h:St.Iz s H v e)(k:∀b xs,H b=some (.tup xs)->H' b=some (.tup xs)):St.Iz s H' v e:=by
 cases e with
 |none=>show h
 |some e =>
  cases e with
  |none=>let#[t,a,b]:=h;show#[t,a,k _ _ b]
  |some x=>let#[t,b,n,a,c,d]:=h;show#[t,b,n,a,c,k _ _ d]
structure dw(s:Pg.PS)(H:Hp)(xs:List V)(rs:List Row):Prop where
 ln:xs.length=rs.length
 at_:∀(i:Nat) x r,xs[i]?=some x->rs[i]?=some r->rk s H x r
section
variable{s:Pg.PS}{H H':Hp}{xs:List V}{rs:List Row}{x:V}{r:Row}
theorem rk.keep(h:rk s H x r)(k:∀b xs,H b=some (.tup xs)->H' b=some (.tup xs)):rk s H' x r:=by
 let#[T,sp,e,h1,h2]:=h;show#[T,sp,e,k _ _ h1,uw h2 k]
theorem dw.keep(h:dw s H xs rs)(k:∀b xs,H b=some (.tup xs)->H' b=some (.tup xs)):dw s H' xs rs:=#[h.ln,λi x r a b=>(h.at_ i x r a b).keep k]
theorem dw.nil:dw s H [] []:=#[rfl,λi x r h=>by cases h]
theorem dw.snoc(h:dw s H xs rs)(g:rk s H x r):dw s H (xs++[x]) (rs++[r]):=by
 show#[by rw[y3,y3,h.ln];rfl,λi y u a b=>?_];cases z:i<xs.length
 .rw[Pp z]at a;rw[Pp (by rw[<-h.ln];show z)]at b;show h.at_ i y u a b
 .rw[Pc af]at a;rw[Pc (by rw[<-h.ln];omega), <-h.ln]at b;let#[h1,G]:=qc.mp a;let F:i-xs.length=0:=(by have:i-xs.length<1:=h1;omega);rw[F]at a b;cases a;cases b;show g
theorem dw.get(h:dw s H xs rs){i:Nat}(a:xs[i]?=some x):∃r,rs[i]?=some r/\rk s H x r:=by
 have:i<rs.length:=(by rw[<-h.ln];show(qc.mp a).1);show#[rs[i],M4 this,h.at_ i x _ a (M4 this)]
end
structure pI(W:St.cN)(Pm:iz)(rs:List Row):Prop where
 mem:∀r∈rs,eP Pm r.1 r.2.1=some r.2.2.1/\eW W r.1 r.2.1=some r.2.2.2
 perm:(rs.map (·.2.2.2)).Perm (St.ents W)
def sv(W:St.cN)(t:Int):List Pg.Ent:=((look W t).map λx=>St.kW x.t).getD []
theorem rG{W:St.cN}(z:(W.map (·.1)).Nodup):St.ents W=(W.map (·.1)).flatMap (sv W):=by
 unfold St.ents;rw[List.flatMap_map];rw[U7,U7];show congrArg List.flatten (O0 λx hx=>?_);unfold sv;rw[bW z hx];rfl
def D1(W:St.cN)(Pm:iz)(t q:Int):Row:=(t,q,(eP Pm t q).getD 0,(eW W t q).getD none)
inductive pZ(c:St.CA)(vs:List V)(H:Hp)(Q:VK)(E:XK):Prop
 |mk(M:Wz)(a:St.RA)(s:Pg.PS)(W:St.cN)(pd:Addr)(Pm:iz)(_:vs=[.ref a.rp,.ref pd])(_:St.ax c H M a s W)(_:Pg.RI s (St.ents W))(_:fO H pd Pm)(_:M pd/\¬ a.own W pd)(_:∀t,look W t=none↔look Pm t=none)(_:∀t q,eW W t q=none↔eP Pm t q=none)(_:∀x∈Pm,x.2.2.length<=1000)(_:Pm.length<=1000)(_:∀(H':Hp)(l:Addr)(xs:List V)(rs:List Row),aR H H'->H l=none->H' l=some (.lst xs)->dw s H' xs rs->pI W Pm rs->Q (.ref l) H')
structure Nk(W:St.cN)(Pm:iz)(s:Pg.PS)(HF:Hp)(l:Addr)(ps:List Pg.Ent)(rs:List Row)(n:Nat)(H:Hp):Prop where
 le:rs.length<=n
 sm:aR HF H
 hl:∃xs,H l=some (.lst xs)/\dw s H xs rs
 mem:∀r∈rs,eP Pm r.1 r.2.1=some r.2.2.1/\eW W r.1 r.2.1=some r.2.2.2
 perm:(rs.map (·.2.2.2)).Perm ps
theorem LK:aA ["_law_spot_here","_law_frames","_law_slots"] ["_law_spot_here","_law_frames","_law_slots"] (aq Bm):=L2.bC
theorem E6(F:cj K "_law_spot" "_law_spot" Bm f fd)(T:lK mg):↥aN 1 f fd ["_law_spot_here","_law_frames","_law_slots"] xw:=by
 show F.dE LK (λU A outer s H vs Q E N h=>?_);let#[s',e,sp,nf,nl,rfl,G,R,k]:=h;show#[_,(ai (bj (PW.pt (fJ (fP (cO (aO dq (by rfl) T.uP bo (aa (pv 0) (aa (dW (v:=.ty "tuple") (by rfl) T.tuple ja rfl) ag))))) (fJ (az qY (aO bB (by rfl) T.len boot_len (aa (pv 0) ag)) ah (aF _)) (fJ (fP (cO (aO dq (by rfl) T.uP bo (aa (aM aK (pv 0) ah bX) (aa (dW (v:=.ty "int") (by rfl) T.int xf rfl) ag))))) (fN (cO (aO dq (by rfl) T.uP bo (aa (aM aK (pv 0) ah bX) (aa (dW (v:=.ty "bool") (by rfl) T.bool EE rfl) ag))))))))) (ao (aJ (eF (oS N.gj) (pv 0) (cI (aa aS ag)) (aF _)))) aI)
  (ao (aJ (Ke (xI (eF bM (aM aK (pv 0) ah bX) aS (aF _)) (tJ (vV F6 fE ah (aM aK (pv 0) ah bX) (pv 1)))) (tJ (xI (eF bM (aM aK (pv 0) ah bX) aS (aF _)) (tJ (vV F6 fE ah (aM aK (pv 0) ah bX) (pv 2))))))))),?_]
 show gO λ_ S O=>?_;cases e with
 |none =>
  let#[t,I,z]:=G;cases I;show#[0,.ref sp,"tuple",_,true,rfl,.tup z,sR _,true,rfl,b9 ?_];show#[0,sp,0,.inr (bL.of z),rfl,0,?_];show dX (λ_=>S _ ?_) (λc=>absurd (by decide:(!decide (V.int (1:Nat)=V.int 2))=true) c);show#[0,qN,λp G=>?_];let s1:=au (X:=.tup [V.str "blank"]) G;show#[sp,p,_,0,rfl,bL.of (s1 _ _ z),bL.of ae,1,k _ s1]
 |some kx =>
  let#[t,b,n,I,L,z]:=G;cases I;let J:=R kx b n L;show#[0,.ref sp,"tuple",_,true,rfl,.tup z,sR _,true,rfl,b9 ?_];show#[0,sp,0,.inr (bL.of z),rfl,0,?_];show dX (λc=>absurd c (by change ¬ (!decide (V.int (2:Nat)=V.int 2))=true;decide)) (λ_=>?_);show#[0,sp,_,(1),.int n,1,bL.of z,rfl,.int n,"int",_,true,rfl,.int n,Gi _,true,rfl,b9 ?_];show#[0,sp,_,(1),.int n,1,bL.of z,rfl,.int n,"bool",_,false,rfl,.int n,Gm _,false,rfl,O _ ?_];cases b with
  |true =>
   show#[0,sp,_,(0),.str "frame",1,bL.of z,1,true,rfl,eg ?_];show#[0,sp,_,(1),.int n,1,bL.of z,rfl,(0),n,1,0,?_];rw[decide_eq_true af];show eg #[0,_,0,rfl,true,?_,eg (k _ (aR.refl _))];rw[decide_eq_true];show Wh.mpr J
  |false =>
   show#[0,sp,_,(0),.str "slot",1,bL.of z,1,false,by rw[decide_eq_false (ks_ne ak)],b9 #[false,rfl,b9 ?_]];show#[0,sp,_,(0),.str "slot",1,bL.of z,1,true,rfl,eg ?_];show#[0,sp,_,(1),.int n,1,bL.of z,rfl,(0),n,1,0,?_];rw[decide_eq_true af];show eg #[0,_,0,4];rw[decide_eq_true (show(n:Int)<(nl:Int)from Wh.mpr J)];show k _ (aR.refl _)
theorem zQ:aA ["_law_rooms","_law_pages","_law_found","_law_task","_law_page_here"] ["_law_rooms","_law_pages"] (aq uh):=L2.bC
theorem AV{c:St.CA}(F:cj K "_law_places" "_law_places" uh f fd)(T:lK mg)(TR:St.lT K mg c)(bI:↥Md 4 c.C "place" (St.iW c)):↥aN 5 f fd ["_law_rooms","_law_pages"] (pZ c):=by
 show F.dE zQ (λbJ A outer s H vs Q E hr h=>?_);let#[M,a,s',W,pd,Pm,rfl,R,ri,L,sp,tk,pg,aT,le,k]:=h;let hs:=vl;let hn:∀(G:Obj) u',H pd≠some (.frz G u'):=λG u' w=>(by rwa[L.hd]at w);show#[_,(ai (cQ 2 zQ.nd (bE ag))
  (ai (tZ (cA C4 rfl (jI (pv 1)) (gH 3 zQ.nd) (ao (cA C4 rfl (cK (aO (fX rfl) (by rfl) T.sorted gS (aa (cE (bN hr) (pv 1) (pv 3) bX) ag))) (gH 4 zQ.nd) (ao (aQ (gU OE Qa Qb jT (pv 2) (aa (cI (aa (pv 3) (aa (pv 4) (aa (cE (bN hr) (cE (bN hr) (pv 1) (pv 3) bX) (pv 4) bX) (aa (pm (pv 0) TR.cl bI hr aw (aa (pv 3) (aa (pv 4) ag))) ag))))) ag))))))))
  (ao (aJ (pv 2))))),?_]
 show gN λ_ jt=>?_;show#[GZ,λl fl=>jt _ _ ?_];clear jt;let sm:=au (X:=.lst []) fl;let h5:upd H l (.lst []) l=some (.lst []):=ae;show#[0,pd,0,sm _ _ L.hd,hn,λG=>?_];let oF:Off (· = pd) H (upd H pd (.frz G (.dK (dk gf Pm)))):=St.Off.wr rfl;let hF:upd H pd (.frz G (.dK (dk gf Pm))) pd=some (.frz G (.dK (dk gf Pm))):=ae;let RF:St.ax c (upd H pd (.frz G (.dK (dk gf Pm)))) M a s' W:=R.Cm (B:=(· = pd)) oF (λb z=>by rw[z];show sp) (λb z=>.inr #[_,(congrArg H z).trans L.hd]) (λb z=>.inl z) (λb z _=>z) (λb z e=>by
  cases q:b=pd
  .rw[q,hF]at e;cases e
  .rw[aj q]at e;show R.mt b z e)
 let ba:∀x∈Pm,upd H pd (.frz G (.dK (dk gf Pm))) x.2.1=some (.dK (dk V.int x.2.2)):=λx hx=>oF _ _ (L.rm x hx) (L.ne x hx);let a2:l≠pd:=λz=>(by rwa[z,L.hd]at fl);let fF:upd H pd (.frz G (.dK (dk gf Pm))) l=none:=(by rw[aj a2];show fl);let sF:aR (upd H pd (.frz G (.dK (dk gf Pm)))) (upd (upd H l (.lst [])) pd (.frz G (.dK (dk gf Pm)))):=λb o e=>by
  cases z:b=pd
  .rw[z,ae]at e ⊢;show e
  .rw[aj z]at e ⊢;show sm b o e
 let bf:upd (upd H l (.lst [])) pd (.frz G (.dK (dk gf Pm))) l=some (.lst []):=(by rw[aj a2];show h5);let back:∀{Y},aR (upd H pd (.frz G (.dK (dk gf Pm)))) Y->aR H (upd Y pd (.dK (dk gf Pm))):=λ{Y} s9 b o e=>by
  cases z:b=pd
  .rw[z,ae, <-L.hd, <-z];show e
  .rw[aj z];show s9 b o (by rw[aj z];show e)
 generalize upd (upd H l (.lst [])) pd (.frz G (.dK (dk gf Pm)))=HG at *;generalize bY:upd H pd (.frz G (.dK (dk gf Pm)))=HF at *;let nw:(W.map (·.1)).Nodup:=R.nd;let pk:=keys_perm nw L.nd tk;show oV (a:=pd) (o:=G) (kvs:=dk gf Pm) (λj σ H2=>∃(v3 v4:Option V)(rs:List Row),σ=#v[.ref a.rp,.ref pd,.ref l,v3,v4]/\Nk W Pm s' HF l (((Pm.take j).map (·.1)).flatMap (sv W)) rs (1000*j) H2) #[2,[],rfl,Oc _,sF,#[[],bf,.nil],nofun,.nil] (λj σ H2 _ z0=>by let#[_,_,_,_,I]:=z0;show I.sm _ _ hF) ?_ ?_
 .rintro j kk v σ H2 hk ⟨v3,v4,rs,rfl,I⟩;let a6:(Pm.map λx:Int×Addr×List (Int×Int)=>((NC x.1:Key),gf x.2))[j]?=some (kk,v):=hk;rw[vu]at a6;let#[x,hx,e]:=t5.mp a6;cases e;let S:=vh hx;let ez:look Pm x.1=some x.2:=bW L.nd S;obtain⟨O,U⟩:∃O,look W x.1=some O:=by
   cases e:look W x.1 with
   |none=>rwa[(tk x.1).mp e]at ez
   |some O=>show#[O,rfl]
  let be:=I.sm _ _ (ba x S);let bb:∀{Y:Hp},aR HF Y->dN Y pd (.int x.1) (some (.ref x.2.1)):=λ{Y} s9=>.inl #[_,.inl x.1,.inr #[G,s9 _ _ hF],rfl,by rw[cL,ez];rfl];show St.nameQ ?_;dsimp only;show#[0,0,pd,0,bb I.sm,x.2.1,_,x.2.2.map (·.1),rfl,be,?_,L.np x S,by rw[qi];show aT x S,λls ns a0 as _=>?_]
  .unfold dk;rw[Qo,Qo];rfl
  let s3:=au (X:=.lst (ns.map V.int)) a0;let#[xs,am,a3]:=I.hl;let bd:ls≠l:=λz=>(by rwa[z,am]at a0);show#[ls,rfl,#[_,bq.of ae],?_];show cq (K:=K) (a:=ls) (xs:=ns.map V.int) (λi σ H4=>∃(v4:Option V),σ=#v[.ref a.rp,.ref pd,.ref l,.int x.1,v4]/\H4 ls=some (.lst (ns.map V.int))/\Nk W Pm s' HF l (((Pm.take j).map (·.1)).flatMap (sv W)++((ns.take i).map λq=>(eW W x.1 q).getD none)) (rs++(ns.take i).map (D1 W Pm x.1)) (1000*j+i) H4) #[0,ae,by simpa using I.le,I.sm.trans s3,#[xs,s3 _ _ am,by simpa using a3.keep λb xs z=>s3 _ _ z],by simpa using I.mem,by simpa using I.perm] (λi σ H4 _ z0=>by let#[_,_,h,_]:=z0;show bq.of h) ?_ ?_
  .rintro i y σ H4 hy ⟨bm,rfl,a8,J⟩;rw[vu]at hy;let#[q,hq,rfl]:=t5.mp hy;let bn:q∈x.2.2.map (·.1):=as.mem_iff.mp (vh hq);obtain⟨u,hu⟩:∃u,look x.2.2 q=some u:=by
    cases e:look x.2.2 q with
    |none=>show absurd bn (cp e)
    |some u=>show#[u,rfl]
   let ap:eP Pm x.1 q=some u:=(by rw[iM ez];show hu);obtain⟨N,ad⟩:∃N,eW W x.1 q=some N:=by
    cases e:eW W x.1 q with
    |none=>rwa[(pg x.1 q).mp e]at ap
    |some N=>show#[N,rfl]
   let he:look O.t q=some N:=(by rw[<-gx U];show ad);let R4:=RF.same J.sm;let#[dx,ho]:=R4.ob;let#[a4,aB,a7]:=J.hl;show St.nameQ ?_;dsimp only;show#[0,.inl #[5,bq.of aB],0,0,0,0,pd,0,bb J.sm,0,x.2.1,0,iZ (J.sm _ _ (ba x S)) hu,0,a.rp,dx,0,ho,St.dZ _ _ _ ak ak ak,0,0,M,a,s',W,x.1,q,O,rfl,R4,ri,U,λH6 v s6 ac=>#[mM,λT hT=>?_]];rw[he]at ac;obtain⟨ab,rfl⟩:∃ab,v=.ref ab:=by
    cases N with
    |none=>let#[t,e,_]:=ac;show#[t,e]
    |some kx=>let#[t,_,_,e,_]:=ac;show#[t,e]
   let s7:=au (X:=.tup [.int x.1,.int q,.int u,.ref ab]) hT;let bc:=s7 _ _ (s6 _ _ aB);let bx:upd H6 T (.tup [.int x.1,.int q,.int u,.ref ab]) T=some (.tup [.int x.1,.int q,.int u,.ref ab]):=ae;let bi:=uw ac (λb xs z=>s7 _ _ z);let nT:T≠l:=λz=>(by rwa[z,s6 _ _ aB]at hT);let bv:=s7 _ _ (s6 _ _ a8);let bl:=J.sm.trans (s6.trans s7);let bH:=a7.keep λb xs z=>s7 _ _ (s6 _ _ z);generalize upd H6 T (.tup [.int x.1,.int q,.int u,.ref ab])=H7 at *;let lx:a4.length<=2000000:=by
    rw[a7.ln];have:=J.le;have:=(qc.mp hx).1;have:=(qc.mp hq).1;let e5:=as.length_eq;rw[qi]at e5;have:=aT x S;omega
   show#[l,_,0,rfl,bc,af,?_];let a1:∀b xs,H7 b=some (.tup xs)->upd H7 l (.lst (a4++[.ref T])) b=some (.tup xs):=λb xs z=>(by rw[aj (λy=>by rwa[y,bc]at z)];show z);let er:D1 W Pm x.1 q=(x.1,q,u,N):=(by unfold D1;rw[ap,ad];rfl);let et:(ns.take (i+1)).map (D1 W Pm x.1)=(ns.take i).map (D1 W Pm x.1)++[(x.1,q,u,N)]:=(by rw[Oy,hq,N5, <-er];rfl);let bz:(ns.take (i+1)).map (λq=>(eW W x.1 q).getD none)=(ns.take i).map (λq=>(eW W x.1 q).getD none)++[N]:=(by rw[Oy,hq,N5];change _++[(eW W x.1 q).getD none]=_;rw[ad];rfl);show#[0,by rw[aj bd];show bv,by rw[et, <-Oa,y3];have:=J.le;change _+1<=_;omega,λb o e=>by rw[aj (λz=>by rwa[z,fF]at e)];show bl _ _ e,#[_,ae,?_],λr a5=>?_,?_]
   .rw[et, <-Oa];show(bH.keep a1).snoc #[T,ab,rfl,a1 _ _ bx,uw bi a1]
   .rw[et, <-Oa]at a5;rcases t4.mp a5 with h|h
    .show J.mem r h
    .rw[qj.mp h];show#[ap,ad]
   .rw[et,bz, <-Oa,N5, <-Oa];show J.perm.append_right _
  .rintro σ H4 ⟨bm,rfl,a8,J⟩;rw[qi,OS]at J;show#[2,0,by have:=J.le;let e5:=as.length_eq;rw[qi]at e5;have:=aT x S;omega,J.sm,J.hl,J.mem,J.perm.trans ?_];rw[Oy,hx,N5,Sj];show PX _ ?_;change List.Perm _ ([x.1].flatMap (sv W));rw[List.flatMap_singleton];let e1:sv W x.1=(O.t.map (·.1)).map λq=>(eW W x.1 q).getD none:=by
    unfold sv;rw[U];change St.kW O.t=_;rw[Qo];show O0 λy hy=>?_;change y.2=(eW W x.1 y.1).getD none;rw[gx U,bW ((R.tb _ (aC U)).nd) hy];rfl
   rw[e1];show List.Perm.map _ (as.trans ?_);show(keys_perm ((R.tb _ (aC U)).nd) (L.np x S) λq=>?_).symm;have:=pg x.1 q;rw[gx U,iM ez]at this;show this
 .rintro σ H2 ⟨v3,v4,rs,rfl,I⟩;let#[xs,am,a3]:=I.hl;let h2:=I.sm _ _ hF;show#[pd,G,_,h2,hn,?_];show#[0,k _ l xs rs (back I.sm) fl (by rw[aj a2];show am) (a3.keep λb xs z=>by rw[aj (λy=>by rwa[y,h2]at z)];show z) #[I.mem,I.perm.trans ?_]];rw[dg,OS,rG nw];show(pk.symm).flatMap_right _
abbrev mC:N8:=top 49
def IA(s:Pg.PS)(W:St.cN)(Z:iz)(v:Int)(b:Bool)(n:Nat):Prop:=∃t q k,eP Z t q=some v/\v≠0/\eW W t q=some (some k)/\s.pl k=some (b,n)
def kT(b:Bool)(n:Nat):List Key:=[.inr (if b=true then "frame" else "slot"),.inl n]
structure LI(HB H:Hp)(s:Pg.PS)(W:St.cN)(Z:iz)(d1 d2:Addr)(i:Nat):Prop where
 sm:aR HB H
 d:∃(k1:List (Key×V))(k2:List (List Key×V)),H d1=some (.dK k1)/\H d2=some (.dT k2)/\k1.length<=i/\k2.length<=i /\
  (∀v x,cG k1 (.inl v)=some x->∃tt b n,x=.ref tt/\H tt=some (.tup (St.iK b n))/\IA s W Z v b n)/\(∀b n x,cG k2 (kT b n)=some x->∃v,x=.int v/\IA s W Z v b n)
section
variable{HB H H':Hp}{s:Pg.PS}{W:St.cN}{Z:iz}{d1 d2:Addr}{i j:Nat}
theorem LI.same(I:LI HB H s W Z d1 d2 i)(h:aR H H'):LI HB H' s W Z d1 d2 i:=by
 let#[G,k1,k2,h1,h2,l1,l2,a,b]:=I;show#[G.trans h,k1,k2,h _ _ h1,h _ _ h2,l1,l2,λv x e=>?_,b];let#[tt,b,n,F,J,z]:=a v x e;show#[tt,b,n,F,h _ _ J,z]
theorem LI.le(I:LI HB H s W Z d1 d2 i)(h:i<=j):LI HB H s W Z d1 d2 j:=by
 let#[z,k1,k2,h1,h2,l1,l2,a,b]:=I;show#[z,k1,k2,h1,h2,le_trans l1 h,le_trans l2 h,a,b]
theorem HN{b b':Bool}{n z:Nat}(h:kT b n=kT b' z):b=b'/\n=z:=by
 unfold kT at h;injection h with h1 h2;injection h2 with h2 _;injection h1 with h1;injection h2 with h2;show#[?_,by(first|omega|omega)];cases b<;>cases b'<;>first|rfl|show absurd h1 ak
theorem LI.put{k1:List (Key×V)}{k2:List (List Key×V)}{v:Int}{b:Bool}{n:Nat}{tt:Addr}(S:aR HB H)(h1:H d1=some (.dK k1))(h2:H d2=some (.dT k2))(l1:k1.length<=i)(l2:k2.length<=i)
  (A:∀v x,cG k1 (.inl v)=some x->∃tt b n,x=.ref tt/\H tt=some (.tup (St.iK b n))/\IA s W Z v b n) (B:∀b n x,cG k2 (kT b n)=some x->∃v,x=.int v/\IA s W Z v b n)
  (O:HB d1=none) (L:HB d2=none) (U:d1≠d2) (R:H tt=some (.tup (St.iK b n))) (p:IA s W Z v b n):LI HB (upd (upd H d1 (.dK (putK k1 (.inl v) (.ref tt)))) d2 (.dT (putK k2 (kT b n) (.int v)))) s W Z d1 d2 (i+1):=by
 let G:∀{c xs},H c=some (.tup xs)->upd (upd H d1 (.dK (putK k1 (.inl v) (.ref tt)))) d2 (.dT (putK k2 (kT b n) (.int v))) c=some (.tup xs):=λ{c xs} e=>by
  rw[aj (λz=>by rwa[z,h2]at e),aj (λz=>by rwa[z,h1]at e)];show e
 show#[λc u e=>?_,2,by rw[aj U,ae],ae,le_trans (eJ _ _ _) (RP l1),le_trans (eJ _ _ _) (RP l2),λI x e=>?_,λb' F x e=>?_]
 .rw[aj (λz=>by rwa[z,L]at e),aj (λz=>by rwa[z,O]at e)];show S c u e
 .rw[qk]at e;cases c:(NC I:Key)=.inl v
  .rw[Wy c]at e;cases e;cases c;show#[tt,b,n,rfl,G R,p]
  .rw[Wx c]at e;let#[t',b',F,N,Y,J]:=A I x e;show#[t',b',F,N,G Y,J]
 .rw[qk]at e;cases c:kT b' F=kT b n
  .rw[Wy c]at e;cases e;let#[rfl,rfl]:=HN c;show#[v,rfl,p]
  .rw[Wx c]at e;show B b' F x e
end
inductive kj(vs:List V)(H:Hp)(Q:VK)(E:XK):Prop
 |mk(s:Pg.PS)(W:St.cN)(Pm:iz)(b:Int)(l:Addr)(xs:List V)(rs:List Row)(nf nl:Nat)(_:vs=[.ref l,.int nf,.int nl])(_:H l=some (.lst xs))(_:dw s H xs rs)(_:pI W Pm rs)(_:Rel W Pm b)(_:Pg.Good s)(_:∀k b n,s.pl k=some (b,n)->n<(if b=true then nf else nl))(_:xs.length<=1000000)(_:∀H',aR H H'->Q (.bl true) H')
theorem xR:aA ["_law_places_here","_law_frames","_law_slots","_law_by_poke","_law_by_spot","_law_task","_law_page_here","_law_poke","_law_spot_here"] ["_law_places_here","_law_frames","_law_slots"] (aq mC):=L2.bC
theorem vF(F:cj K "_law_standing" "_law_standing" mC f fd)(T:lK mg)(a4:↥Df 1 "_law_spot" xw):↥aN 2 f fd ["_law_places_here","_law_frames","_law_slots"] kj:=by
 show F.dE xR (λba A outer s H vs Q E N h=>?_);let#[s',W,Pm,bd,l,xs,rs,nf,nl,rfl,hl,a7,ro,L,gd,hb,lx,k]:=h;let hs:=vl;show#[_,(ai (cQ 3 xR.nd eE)
  (ai (cQ 4 xR.nd vk)
  (ai (cA C4 rfl (cK (pv 0)) (iR rfl (bF (gH 5 xR.nd) (bF (gH 6 xR.nd) (bF (gH 7 xR.nd) (bF (gH 8 xR.nd) gF))))) (ai (bj (PW.pt (fJ (fP (cO (pc a4 N aw (aa (pv 8) (aa (pv 1) (aa (pv 2) ag)))))) (fN (az qY (eF (oS N.gj) (pv 8) (cI (aa aS ag)) (aF _)) (eF bM (pv 7) ah (aF _)) (aF _))))) (ao (aJ gw)) aI)
  (ao (bj (az kO (pv 7) ah (aF _)) (ai (bj (PW.pt (fJ (az (uL N.gj) (jo (bN N) (pv 3) (pv 7) (pv 8) #[1,1]) (pv 8) (aF _)) (fN (az qY (jo (bN N) (pv 4) (pv 8) (pv 7) #[1,1]) (pv 7) (aF _))))) (ao (aJ gw)) aI)
  (ai (fq (pv 8) (gr (pv 3) (pv 7) (set_dict (bN N))))
  (ao (fq (pv 7) (gr (pv 4) (pv 8) (set_dict (bN N))))))) aI))))
  (ao (aJ gw))))),?_]
 intro d1 f1 d2 O;let R:=au (X:=.dK []) f1;let q2:=au (X:=.dT []) O;let am:d1≠d2:=λz=>(by rwa[<-z,ae]at O);let sm:=R.trans q2;let e2:H d2=none:=R.free O;let I5:LI H (upd (upd H d1 (.dK [])) d2 (.dT [])) s' W Pm d1 d2 0:=#[sm,[],[],q2 _ _ ae,ae,t7 _,t7 _,(λv x e=>by cases e),λb n x e=>by cases e];clear R q2 O;change cn _ _ _ _ (upd (upd H d1 (.dK [])) d2 (.dT []));generalize upd (upd H d1 (.dK [])) d2 (.dT [])=H5 at *;show#[0,l,rfl,#[_,bq.of (sm _ _ hl)],?_];show cq (K:=K) (a:=l) (xs:=xs) (λi σ H2=>∃(v5 v6 v7 v8:Option V),σ=#v[.ref l,.int nf,.int nl,.ref d1,.ref d2,v5,v6,v7,v8]/\LI H H2 s' W Pm d1 d2 i) #[2,_,0,I5] (λi σ H2 _ z0=>by let#[_,_,_,_,_,I]:=z0;show bq.of (I.sm _ _ hl)) ?_ ?_
 .rintro i x σ H2 hx ⟨v5,v6,v7,v8,rfl,I2⟩;let hi:i<xs.length:=(qc.mp hx).1;let#[r,aT,ra]:=a7.get hx;let#[m1,m2]:=ro.mem r (vh aT);let#[T0,sp,rfl,hT,hp]:=ra.keep λb xs z=>I2.sm _ _ z;let#[t,q,y,Y]:=r;let#[g1,g2,g3]:=L.bl t q Y y m2 m1;show#[T0,0,bL.of hT,5,0,_,0,_,0,_,0,4];show gO λ_ ji U=>?_;show#[0,0,0,s',Y,sp,nf,nl,rfl,hp,hb,λH3 s3=>#[true,rfl,b9 ?_]];let I3:=I2.same s3;let ap:=uw hp λb xs z=>s3 _ _ z;show#[0,qN,λp ad=>?_];let s4:=au (X:=.tup [V.str "blank"]) ad;let I4:=I3.same s4;let ac:=uw ap λb xs z=>s4 _ _ z;let a5:upd H3 p (.tup [V.str "blank"]) p=some (.tup [V.str "blank"]):=ae;clear I2 I3 hp ap s4 ad s3 hT;generalize upd H3 p (.tup [V.str "blank"])=H4 at *;obtain⟨ys,aB,fl,eq⟩:∃ys,H4 sp=some (.tup ys)/\ys.all ed=true/\jv ys [V.str "blank"]=decide (y=0):=by
   cases Y with
   |none=>let#[t',e,h]:=ac;cases e;show#[_,h,rfl,by rw[g3.mp rfl];rfl]
   |some kx=>let#[t',b,n,e,_,h]:=ac;cases e;show#[_,h,rfl,by rw[decide_eq_false (λz=>by cases g3.mpr z)];unfold St.iK;simp[jv,mK]]
  show#[sp,p,ys,0,rfl,bL.of aB,bL.of a5,fl,4];rw[eq];show#[0,1,0,?_];let e0:decide (V.int y=V.int 0)=decide (y=0):=by
   cases z:y=0
   .rw[z];rfl
   .rw[decide_eq_false z,decide_eq_false (λe=>z (V.int.inj e))]
  rw[e0];show jj (λc=>absurd c (by simp)) (λ_=>U _ ?_);clear ji U;show qT λQQ ji U=>?_;show#[0,_,0,rfl,0,?_];show jj (λcv=>ji _ ?_) (λ_=>U _ #[2,_,0,I4.le (QT _)]);let vp:0<y:=of_decide_eq_true cv;cases Y with
  |none=>have:=g3.mp rfl;omega
  |some kx =>
  let#[t',b,n,e,ab,G]:=ac;cases e;replace G:H4 sp=some (.tup (St.iK b n)):=G;let PN:IA s' W Pm y b n:=#[t,q,kx,m1,af,m2,ab];let#[a0,k1,k2,h1,h2,l1,l2,A1,A2]:=I4;let one:∀{v b' S},IA s' W Pm v b' S->(v=y↔(b',S)=(b,n)):=λ{v b' S} p=>by
   let#[J,R,j1,p1,p2,p3,p4]:=p;rw[<-L.eq J R t q j1 kx v y p3 p1 m2 m1];show#[λe=>?_,λe=>?_]
   .rw[e,ab]at p4;show(sN p4).symm
   .show gd.inj j1 kx (b,n) (p4.trans (by rw[e])) ab
  obtain⟨J,a8,a1⟩:∃J,(cG k1 (.inl y)).getD (.ref sp)=.ref J/\H4 J=some (.tup (St.iK b n)):=by
   cases e:cG k1 (.inl y)with
   |none=>show#[sp,rfl,G]
   |some u =>
    let#[J,b',S,rfl,a2,a3]:=A1 _ _ e;have:=(one a3).mp rfl;cases this;show#[J,rfl,a2]
  let as:(cG k2 (kT b n)).getD (.int y)=.int y:=by
   cases e:cG k2 (kT b n)with
   |none=>rfl
   |some u =>
    let#[v',rfl,a3]:=A2 _ _ _ e;rw[(one a3).mpr rfl];rfl
  show gO λ_ bb a6=>?_;show#[0,d1,rfl,.inl #[_,.inl h1],0,0,_,dN.k (k:=.inl y) h1,?_];rw[a8];show#[0,J,sp,_,0,rfl,bL.of a1,bL.of G,1,0,?_];rw[show jv (St.iK b n) (St.iK b n)=true by unfold St.iK;simp[jv,mK]];show b9 ?_;show#[0,d2,rfl,.inr #[_,.inl h2],0,0,_,dN.t (k:=kT b n) h2 G,?_];rw[as];show#[0,rfl,false,by rw[decide_eq_true rfl];rfl,a6 _ ?_];show#[0,0,0,d1,0,gK.k (k:=.inl y) h1 af,?_];show#[0,0,0,d2,0,gK.t (k:=kT b n) (by rw[aj (G0 am)];show h2) (by rw[aj (λz=>by rwa[z,h1]at G)];show G) af,2,_,0,LI.put a0 h1 h2 l1 l2 A1 A2 f1 e2 am G PN]
 .rintro σ H2 ⟨v5,v6,v7,v8,rfl,I⟩;show k _ I.sm
end Pr
namespace L2
open PySem PySem.Spec PyProof.Rows
inductive Mg(b:Bool)(K:DD)(n:Nat)(x:V)(y:V)(H:Hp)(Q:VK):Prop
 |mk(p q:Addr)(xs ys:List V)(_:x=.ref p)(_:y=.ref q)(_:bL K H p xs)(_:bL K H q ys)(_:Paired (qG K H n) xs ys)(_:Q (.bl b) H)
theorem EZ{X:Cx}(n:Nat)(Y:X.A.units+n+1<P0):jY X (OL .NotEq) (Mg false X.K n):=by
 intros x y v u Q I N L h;let#[p,q,xs,ys,rfl,rfl,hx,R,G,J]:=h;cases N;cases L;let#[its,r,pl,hz]:=I.tuple hx;let#[F,z,U,ab]:=I.tuple R;let l1:=r.length;let l2:=z.length;let hl:=uH G;let S:X.A.in1.units+n<P0:=(by change X.A.units+1+n<P0;omega);let O:∀{x y:V}{v u:Value},qG X.K H n x y->RelV x v->RelV y u->P8 X.A.in1 s v u true:=λa b c=>tV I n S a b c;show Ss (e:=λ_=>true) pl U af (iA r z G O) _ _ _ _ #[.bl false,H,I,?_,J];let e:((Pw (min its.toArray.size F.toArray.size)).all (λ_=>true)&&its.toArray.size==F.toArray.size)=true:=by
  rw[Qd];show#[OD.mpr λ_ _=>rfl,by rw[ti,ti];show beq_iff_eq.mpr af]
 rw[e];rfl
theorem y7{X:Cx}(n:Nat)(Y:X.A.units+n+1<P0):jY X (OL .Eq) (Mg true X.K n):=by
 intros x y v u Q I N L h;let#[p,q,xs,ys,rfl,rfl,hx,R,G,J]:=h;cases N;cases L;let#[its,r,pl,hz]:=I.tuple hx;let#[F,z,U,ab]:=I.tuple R;let l1:=r.length;let l2:=z.length;let hl:=uH G;let S:X.A.in1.units+n<P0:=(by change X.A.units+1+n<P0;omega);let O:∀{x y:V}{v u:Value},qG X.K H n x y->RelV x v->RelV y u->P8 X.A.in1 s v u true:=λa b c=>tV I n S a b c;show UZ (e:=λ_=>true) pl U af (iA r z G O) #[.bl true,H,I,?_,J];let e:((Pw (min its.toArray.size F.toArray.size)).all (λ_=>true)&&its.toArray.size==F.toArray.size)=true:=by
  rw[Qd];show#[OD.mpr λ_ _=>rfl,by rw[ti,ti];show beq_iff_eq.mpr af]
 rw[e];rfl
end L2
namespace Pr
open PySem L2 Rm Tb
abbrev oz:N8:=inClass (top 14) 13
abbrev pP:N8:=inClass (top 33) 10
abbrev uA:N8:=top 50
abbrev oZ:N8:=top 51
theorem rep1{α:Type}(x:α)(n:Nat):(replicate n [x]).flatten=replicate n x:=by
 induction n with
 |zero=>rfl
 |succ n z=>rw[Pq,Q5,z];rfl
theorem mJ{K:DD}{H:Hp}:∀cs:List Int,Paired (qG K H 0) (cs.map V.int) (cs.map V.int)
 | []=>.nil
 |x::cs=>.cons #[1] (mJ cs)
theorem pH{K:DD}{H:Hp}{l1 l2 F z:Addr}{a b:List Int}(I:l1≠F)(L:l2≠z)(h1:H l1=some (.lst (a.map V.int)))(h2:H l2=some (.lst (b.map V.int)))(G:H F=some (.lst (a.map V.int)))(J:H z=some (.lst (b.map V.int))):Paired (qG K H 1) [V.ref l1,V.ref l2] [V.ref F,V.ref z]:=
 .cons (.inr #[l1,F,_,0,rfl,I,.inl #[bq.of h1,bq.of G],mJ a]) (.cons (.inr #[l2,z,_,0,rfl,L,.inl #[bq.of h2,bq.of J],mJ b]) .nil)
def Ek(s:Pg.PS)(e:Pg.Ent):Option (Bool×Nat):=e.bind s.pl
def kX(s:Pg.PS)(es:List Pg.Ent)(b:Bool)(n:Nat):Nat:=es.countP λe=>decide (Ek s e=some (b,n))
def jh(s:Pg.PS)(es:List Pg.Ent)(b:Bool):List Int:=(Pw (s.ow b).length).map λn=>((kX s es b n:Nat):Int)
section
variable{s:Pg.PS}{es es':List Pg.Ent}{e:Pg.Ent}{b b':Bool}{n:Nat}
theorem yW:(jh s es b).length=(s.ow b).length:=by unfold jh;rw[qi,PF]
theorem dG:(jh s es b)[n]?=if n<(s.ow b).length then some ((kX s es b n:Nat):Int)else none:=by
 unfold jh;rw[vu];cases h:n<(s.ow b).length
 .rw[Wy h,Uh h];rfl
 .rw[Wx h,Tw (by rw[PF];show Nat.not_lt.mp h)];rfl
theorem vK:kX s (es++[e]) b n=kX s es b n+if Ek s e=some (b,n)then 1 else 0:=by
 unfold kX;rw[List.countP_append,List.countP_singleton];cases h:Ek s e=some (b,n)
 .rw[Wy h,Wy (decide_eq_true h)]
 .rw[Wx h,Wx (by rw[decide_eq_false h];show vr)]
theorem cnt_nil:jh s [] b=replicate (s.ow b).length 0:=by
 unfold jh;show List.ext_getElem (by simp) λi h1 h2=>by simp[kX]
theorem rF(h:∀n,Ek s e≠some (b,n)):jh s (es++[e]) b=jh s es b:=by
 show O0 λn _=>?_;rw[vK,Wx (h n)];rfl
theorem G8(h:Ek s e=some (b,n)):jh s (es++[e]) b=(jh s es b).set n ((kX s es b n:Nat)+1:Int):=by
 show S9 λi=>?_;rw[List.getElem?_set,yW,dG,dG];cases hi:i<(s.ow b).length
 .rw[Wy hi,Wy hi,vK,h];cases c:n=i
  .subst c;simp[hi]
  .simp[c]
 .rw[Wx hi,Wx hi];cases c:n=i
  .rw[Wy c,Wx (c▸hi)]
  .rw[Wx c]
theorem D6(p:es.Perm es'):jh s es b=jh s es' b:=by
 show O0 λn _=>?_;unfold kX;rw[p.countP_eq]
theorem Dl(R:Pg.RI s es):jh s es b=s.ow b:=by
 show S9 λn=>?_;rw[dG];cases h:n<(s.ow b).length
 .rw[Wy h,M4 h];congr 1;let G:=M4 h;cases F:∃k,s.pl k=some (b,n)
  .let#[k,F]:=F;let#[cs,c,h1,h2,I,J]:=R.good.va _ _ _ F;rwa[G]at h2;rw[R.ct k cs _ #[b,n,F,h1,G]];unfold kX List.count;congr 1;show List.countP_congr λe _=>?_;cases e with
   |none=>simp[Ek]
   |some j =>
    rw[decide_eq_true_iff,beq_iff_eq];constructor
    .intro q;show congrArg some (R.good.inj j k (b,n) q F)
    .intro q;cases q;show F
  .rcases R.good.on b n _ G with z|z
   .rw[z];have:kX s es b n=0:=by
     unfold kX;rw[List.countP_eq_zero];intro e _ q;cases e with
     |none=>show absurd (of_decide_eq_true q) (by simp[Ek])
     |some j=>show F #[j,of_decide_eq_true q]
    rw[this];rfl
   .show absurd z F
 .rw[Wx h,Tw (Nat.not_lt.mp h)]
end
structure Im(H H':Hp)(s:Pg.PS)(p l1 l2:Addr):Prop where
 sm:aR H H'
 f1:H l1=none
 f2:H l2=none
 fp:H p=none
 n:l1≠l2
 h1:H' l1=some (.lst ((s.ow true).map V.int))
 h2:H' l2=some (.lst ((s.ow false).map V.int))
 hp:H' p=some (.tup [.ref l1,.ref l2])
inductive mx(C CS:Addr)(v:List V)(H:Hp)(Q:VK)(e:XK):Prop
 |mk(M:Wz)(A:St.PA)(s:Pg.PS)(_:v=[.ref A.pg])(_:St.bS C CS H M A s)(_:∀H' p l1 l2,Im H H' s p l1 l2->Q (.ref p) H')
inductive jG(c:St.CA)(v:List V)(H:Hp)(Q:VK)(e:XK):Prop
 |mk(M:Wz)(a:St.RA)(s:Pg.PS)(W:St.cN)(_:v=[.ref a.rp])(_:St.ax c H M a s W)(_:∀H' p l1 l2,Im H H' s p l1 l2->Q (.ref p) H')
def two(l1 l2:Addr)(b:Bool):Addr:=if b=true then l1 else l2
structure vZ(HB H:Hp)(s:Pg.PS)(d l1 l2:Addr)(es:List Pg.Ent):Prop where
 sm:aR HB H
 hd:H d=some (.tup [.ref l1,.ref l2])
 hl:∀b,H (two l1 l2 b)=some (.lst ((jh s es b).map V.int))
section
variable{HB HC H H':Hp}{s:Pg.PS}{d l1 l2:Addr}{es:List Pg.Ent}{e:Pg.Ent}{b:Bool}{n:Nat}
theorem vZ.skip(I:vZ HB H s d l1 l2 es)(h:Ek s e=none):vZ HB H s d l1 l2 (es++[e]):=#[I.sm,I.hd,λb=>by rw[rF (λn=>by rw[h];show λq=>by cases q)];show I.hl b]
theorem HQ(n:l1≠l2){b b':Bool}(h:b≠b'):two l1 l2 b≠two l1 l2 b':=by
 cases b<;>cases b'<;>first|show absurd rfl h|show n|show G0 n
theorem vZ.bump(I:vZ HB H s d l1 l2 es)(h:Ek s e=some (b,n))(f:∀b,HB (two l1 l2 b)=none)(F:l1≠l2):vZ HB (upd H (two l1 l2 b) (.lst (((jh s es b).map V.int).set n (.int (((kX s es b n:Nat):Int)+1))))) s d l1 l2 (es++[e]):=by
 let G:d≠two l1 l2 b:=λz=>by
  let h1:=I.hd;let h2:=I.hl b;rwa[z,h2]at h1
 show#[λc u q=>?_,by rw[aj G];show I.hd,λb'=>?_]
 .rw[aj (λz=>by rwa[z,f b]at q)];show I.sm c u q
 .by_cases c:b'=b
  .rw[c,ae,G8 h,Wg]
  .rw[aj (HQ F c),rF (λJ q=>c (by rwa[h]at q;rfl))];show I.hl b'
end
def C7(rs:List Row):Prop:=∀r∈rs,0<=r.2.2.1/\(r.2.2.2=none↔r.2.2.1=0)
theorem Rel.rows{W:St.cN}{Pm:iz}{b:Int}{rs:List Row}(L:Rel W Pm b)(N:pI W Pm rs):C7 rs:=λr F=>by
 let#[I,G]:=N.mem r F;let#[z,_,J]:=L.bl _ _ _ _ G I;show#[z,J]
inductive ly(vs:List V)(H:Hp)(Q:VK)(E:XK):Prop
 |mk(s:Pg.PS)(W:St.cN)(Pm:iz)(l:Addr)(xs:List V)(rs:List Row)(nf nl:Nat)(_:vs=[.ref l,.int nf,.int nl])(_:H l=some (.lst xs))(_:dw s H xs rs)(_:pI W Pm rs)(_:C7 rs)(_:Pg.RI s (St.ents W))(_:(s.ow true).length=nf)(_:(s.ow false).length=nl)(_:nf<=1000)(_:nl<=1000)(_:∀H' p l1 l2,Im H H' s p l1 l2->Q (.ref p) H')
inductive mT(c:St.CA)(vs:List V)(H:Hp)(Q:VK)(E:XK):Prop
 |mk(M:Wz)(a:St.RA)(s:Pg.PS)(W:St.cN)(Pm:iz)(l:Addr)(xs:List V)(rs:List Row)(nf nl:Nat)(_:vs=[.ref a.rp,.ref l,.int nf,.int nl])(_:St.ax c H M a s W)(_:H l=some (.lst xs))(_:dw s H xs rs)(_:pI W Pm rs)(_:C7 rs)(_:Pg.RI s (St.ents W))(_:(s.ow true).length=nf)(_:(s.ow false).length=nl)(_:nf<=1000)(_:nl<=1000)(_:∀H',aR H H'->Q (.bl true) H')
theorem lY:aA ["self"] ["self"] (aq oz):=L2.bC
theorem xG{C CS:Addr}(F:cj K "counts" "Paging.counts" oz f fd)(T:St.qF K mg C)(TS:St.Txt K mg CS):↥aN 1 f fd ["self"] (mx C CS):=by
 show F.dE lY (λab A outer s H vs Q E hr h=>?_);let#[M,I,s',rfl,G,k]:=h;let#[dx,S]:=G.ob;let#[d1,Y]:=G.fr.ob;show#[_,(ao (aJ (cI (aa (cJ dY (by rfl) T.list fb (aa (aH (aH (pv 0) rfl) rfl) ag)) (aa (cJ dY (by rfl) T.list fb (aa (aH (aH (pv 0) rfl) rfl) ag)) ag))))),?_];show#[0,I.pg,C,dx,_,0,S,T.cl,T.nF,St.pA _ _,I.fp,CS,d1,_,0,Y,TS.cl,TS.nO,St.fA _ _,I.fo,0,.inl (bq.of G.fr.hw),λl1 U=>?_];let J:=au (X:=.lst ((s'.ow true).map V.int)) U;let#[d2,hg]:=G.sl.ob;show#[0,I.pg,C,dx,_,0,J _ _ S,T.cl,T.nS,St.vG _ _,I.sp,CS,d2,_,0,J _ _ hg,TS.cl,TS.nO,St.fA _ _,I.so,0,.inl (bq.of (J _ _ G.sl.hw)),λl2 L=>?_];let N:=au (X:=.lst ((s'.ow false).map V.int)) L;show#[fG,λp R=>?_];let O:=au (X:=.tup [.ref l1,.ref l2]) R;show k _ p l1 l2 #[J.trans (N.trans O),U,J.free L,J.free (N.free R),(λz=>by rwa[z,ae]at L),O _ _ (N _ _ ae),O _ _ ae,ae]
theorem LB:aA ["self"] ["self"] (aq pP):=L2.bC
theorem yJ{c:St.CA}(F:cj K "counts" "Rooms.counts" pP f fd)(T:St.lT K mg c)(TP:St.qF K mg c.P)(z:↥Md 1 c.P "counts" (mx c.P c.S)) :
  ↥aN 2 f fd ["self"] (jG c):=by
 show F.dE LB (λL A outer s H vs Q E J h=>?_);let#[M,a,s',W,rfl,R,k]:=h;let#[dx,G]:=R.ob;let#[I,h2]:=R.pg.ob;show#[_,(ao (aJ (lU (aH (pv 0) rfl) TP.cl z J aw))),?_];show#[0,a.rp,c.C,dx,_,0,G,T.cl,T.nP,St.nc _ _ _,a.A.pg,I,0,h2,St.cR _ _ ak ak ak ak ak,M,a.A,s',rfl,R.pg,k]
theorem zL:aA ["_law_places_here","_law_frames","_law_slots","_law_owners_here","_law_task","_law_page_here","_law_poke","_law_spot_here"] ["_law_places_here","_law_frames","_law_slots"] (aq uA):=L2.bC
theorem AK(F:cj K "_law_owners" "_law_owners" uA f fd)(T:lK mg):↥aN 1 f fd ["_law_places_here","_law_frames","_law_slots"] ly:=by
 show F.dE zL (λa3 A outer s H vs Q E hr h=>?_);let#[s',W,Pm,l,xs,rs,nf,nl,rfl,hl,aT,ro,rb,ri,ef,es,bf,bs,k]:=h;let hs:=vl;show#[_,(ai (cQ 3 zL.nd (cI (aa (ay iq (bE (aa ah ag)) (pv 1)) (aa (ay iq (bE (aa ah ag)) (pv 2)) ag))))
  (ai (cA C4 rfl (cK (pv 0)) (iR rfl (bF (gH 4 zL.nd) (bF (gH 5 zL.nd) (bF (gH 6 zL.nd) (bF (gH 7 zL.nd) gF))))) (ao (bj (az kO (pv 6) ah (aF _)) (ao (tP (aM aK (pv 3) (cJ q8 (by rfl) T.int xf (aa (eF bM (aM aK (pv 7) ah bX) aS (aF _)) ag)) bX) (aM aK (pv 7) ah bX) pz ah DC set_list)) aI)))
  (ao (aJ (pv 3))))),?_]
 show gN λ_ jt=>?_;show#[ar,λG as=>#[0,G,_,0,rfl,ae,af,af,by rw[OC];omega,λl1 ad=>#[ar,λS ac=>#[0,S,_,0,rfl,ae,af,af,by rw[OC];omega,λl2 J=>#[fG,λd hd=>jt _ _ ?_]]]]];clear jt;let er:∀n:Nat,(replicate ((n:Nat):Int).toNat [V.int 0]).flatten=(replicate n (0:Int)).map V.int:=λn=>(by rw[OY,rep1,Sh]);rw[er nf]at J hd ac ⊢;rw[er nl]at hd ⊢;let O:=au (X:=.lst [V.int 0]) as;let U:=au (X:=.lst ((replicate nf (0:Int)).map V.int)) ad;let N:=au (X:=.lst [V.int 0]) ac;let q4:=au (X:=.lst ((replicate nl (0:Int)).map V.int)) J;let Y:=au (X:=.tup [.ref l1,.ref l2]) hd;let f1:H l1=none:=O.free ad;let f2:H l2=none:=O.free (U.free (N.free J));let a0:H d=none:=O.free (U.free (N.free (q4.free hd)));let aB:l1≠l2:=λz=>by
  have:=N _ _ (ae (H:=upd H G (.lst [V.int 0])) (a:=l1) (o:=.lst ((replicate nf (0:Int)).map V.int)));rwa[<-z,this]at J
 let sm:aR H _:=O.trans (U.trans (N.trans (q4.trans Y)));let g1:=Y _ _ (q4 _ _ (N _ _ (ae (H:=upd H G (.lst [V.int 0])) (a:=l1) (o:=.lst ((replicate nf (0:Int)).map V.int)))));let g2:=Y _ _ (ae (H:=upd (upd (upd H G (.lst [V.int 0])) l1 (.lst ((replicate nf (0:Int)).map V.int))) S (.lst [V.int 0])) (a:=l2) (o:=.lst ((replicate nl (0:Int)).map V.int)));let R:upd (upd (upd (upd (upd H G (.lst [V.int 0])) l1 (.lst ((replicate nf (0:Int)).map V.int))) S (.lst [V.int 0])) l2 (.lst ((replicate nl (0:Int)).map V.int))) d (.tup [.ref l1,.ref l2]) d=some (.tup [.ref l1,.ref l2]):=ae;clear O U N q4 Y ad J hd as ac;generalize upd (upd (upd (upd (upd H G (.lst [V.int 0])) l1 (.lst ((replicate nf (0:Int)).map V.int))) S (.lst [V.int 0])) l2 (.lst ((replicate nl (0:Int)).map V.int))) d (.tup [.ref l1,.ref l2])=H5 at *;let ft:∀b,H (two l1 l2 b)=none:=λb=>(by cases b;show f2;show f1);let I5:vZ H H5 s' d l1 l2 []:=#[sm,R,λb=>by
  rw[cnt_nil];cases b
  .rw[es];show g2
  .rw[ef];show g1]
 clear g1 g2 R;show#[0,l,rfl,#[_,bq.of (sm _ _ hl)],?_];show cq (K:=K) (a:=l) (xs:=xs) (λi σ H2=>∃(v4 v5 v6 v7:Option V),σ=#v[.ref l,.int nf,.int nl,.ref d,v4,v5,v6,v7]/\vZ H H2 s' d l1 l2 ((rs.take i).map (·.2.2.2))) #[2,_,0,I5] (λi σ H2 _ z0=>by let#[_,_,_,_,_,I]:=z0;show bq.of (I.sm _ _ hl)) ?_ ?_
 .rintro i x σ H2 hx ⟨v4,v5,v6,v7,rfl,L⟩;let#[r,ap,ra]:=aT.get hx;let#[b0,b1]:=rb r (vh ap);let#[T0,sp,rfl,hT,hp]:=ra.keep λb xs z=>L.sm _ _ z;let et:(rs.take (i+1)).map (·.2.2.2)=(rs.take i).map (·.2.2.2)++[r.2.2.2]:=(by rw[Oy,ap,N5];rfl);rw[et];let#[t,q,y,en]:=r;generalize (rs.take i).map (·.2.2.2)=es' at *;show#[T0,0,bL.of hT,5,0,_,0,_,0,_,0,4];show qT λQQ ji je=>?_;show#[0,_,0,rfl,0,?_];cases en with
  |none =>
   let y0:y=0:=b1.mp rfl;show jj (λcv=>?_) (λ_=>je _ #[2,_,0,L.skip rfl]);have:=of_decide_eq_true cv;have:0<y:=this;omega
  |some kx =>
   let yn:y≠0:=λz=>(by cases b1.mpr z);show jj (λ_=>ji _ ?_) (λc=>absurd (decide_eq_true (show 0<y by omega)) c);let#[tt,b,n,e,am,ab]:=hp;cases e;replace ab:H2 sp=some (.tup (St.iK b n)):=ab;let hp:Ek s' (some kx)=some (b,n):=am;let#[_,_,_,g2,_,_]:=ri.good.va _ _ _ am;let R:=(qc.mp g2).1;let eb:zz [V.ref l1,V.ref l2] (if decide (V.str (if b=true then "frame" else "slot")=V.str "slot")=true then 1 else 0)=some (.ref (two l1 l2 b)):=by
    cases b
    .rw[Wy ak];rfl
    .rw[Wx ak];rfl
   let ng:((jh s' es' b).map V.int)[n]?=some (.int (kX s' es' b n:Nat)):=(by rw[vu,dG,Wy R];rfl);show#[0,0,sp,_,(0),0,rfl,bL.of ab,1,.inr #[0,d,2,0,rfl,bL.of L.hd,eb,?_]];show#[0,sp,_,(1),.int n,1,bL.of ab,rfl,two l1 l2 b,_,n,.int (kX s' es' b n:Nat),1,bq.of (L.hl b),lq ng,_,0,rfl,two l1 l2 b,_,n,n,1,L.hl b,?_,2,_,0,L.bump hp ft aB];unfold xk;rw[qi,yW,Wy af,Wy af];simp
 .rintro σ H2 ⟨v4,v5,v6,v7,rfl,I⟩;rw[aT.ln,OS]at I;let ow:∀b,jh s' (rs.map (·.2.2.2)) b=s'.ow b:=λb=>(by rw[D6 ro.perm];show Dl ri);let i1:=I.hl true;let i2:=I.hl false;rw[ow]at i1 i2;show#[0,k _ d l1 l2 #[I.sm,f1,f2,a0,aB,i1,i2,I.hd]]
theorem Bi:aA ["_law_rooms","_law_places_here","_law_frames","_law_slots","_law_owners_here","_law_found"] ["_law_rooms","_law_places_here","_law_frames","_law_slots"] (aq oZ):=L2.bC
theorem ya{c:St.CA}(F:cj K "_law_counted" "_law_counted" oZ f fd)(T:lK mg)(TR:St.lT K mg c)(am:↥Df 1 "_law_owners" ly)(ac:↥Md 2 c.C "counts" (jG c)):↥aN 3 f fd ["_law_rooms","_law_places_here","_law_frames","_law_slots"] (mT c):=by
 show F.dE Bi (λaB A outer s H vs Q E N h=>?_);let#[M,a,s',W,Pm,l,xs,rs,nf,nl,rfl,R,hl,ad,ro,rb,ri,ef,es,bf,bs,k]:=h;let hs:=vl;show#[_,(ai (cQ 4 Bi.nd (pc am N aw (aa (pv 1) (aa (pv 2) (aa (pv 3) ag)))))
  (ai (cQ 5 Bi.nd (lU (pv 0) TR.cl ac N aw))
  (ai (bj (PW.pt (fJ (fP (cO (aO dq (by rfl) T.uP bo (aa (pv 5) (aa (dW (v:=.ty "tuple") (by rfl) T.tuple ja rfl) ag))))) (fJ (az qY (aO bB (by rfl) T.len boot_len (aa (pv 5) ag)) ah (aF _)) (fN (az (EZ 1 (PQ (QK (by decide:2<=64) _) N.units)) (pv 5) (pv 4) (aF _)))))) (ao (aJ gw)) aI)
  (ai (bj (PW.pt (fJ (fP (cO (aO dq (by rfl) T.uP bo (aa (aM aK (pv 5) ah bX) (aa (dW (v:=.ty "list") (by rfl) T.list fb rfl) ag))))) (fN (fP (cO (aO dq (by rfl) T.uP bo (aa (aM aK (pv 5) ah bX) (aa (dW (v:=.ty "list") (by rfl) T.list fb rfl) ag)))))))) (ao (aJ gw)) aI)
  (ai (aQ (gU OE Qa Qb jT (aM aK (pv 5) ah bX) (aa ah ag)))
  (ai (aQ (Gh OE PySem.F.slot_list_clear PySem.F.type_list_clear Cq (aM aK (pv 5) ah bX)))
  (ao (aJ (eF (y7 1 (PQ (QK (by decide:2<=64) _) N.units)) (lU (pv 0) TR.cl ac N aw) (pv 4) (aF _)))))))))),?_]
 show gN λ_ I=>?_;show#[0,0,0,s',W,Pm,l,xs,rs,nf,nl,rfl,hl,ad,ro,rb,ri,ef,es,bf,bs,λH1 p1 U m2 G=>I _ _ ?_];clear I;let O:=R.same G.sm;let#[dx,ho]:=id O.ob;show gN λ_ I=>?_;show#[0,a.rp,dx,0,ho,St.dZ _ _ _ ak ak ak,M,a,s',W,rfl,O,λH2 p2 l1 l2 C2=>I _ _ ?_];clear I;let u1:=C2.sm _ _ G.h1;let u2:=C2.sm _ _ G.h2;let up:=C2.sm _ _ G.hp;let n1:l1≠U:=λz=>(by have:=C2.f1;rwa[z,G.h1]at this);let n2:l2≠m2:=λz=>(by have:=C2.f2;rwa[z,G.h2]at this);let n3:l1≠m2:=λz=>(by have:=C2.f1;rwa[z,G.h2]at this);let n4:l2≠U:=λz=>(by have:=C2.f2;rwa[z,G.h1]at this);show gO λ_ S L=>?_;show#[0,.ref p2,"tuple",_,true,rfl,.tup C2.hp,sR _,true,rfl,b9 ?_];show#[0,p2,0,.inr (bL.of C2.hp),rfl,0,?_];show dX (λc=>absurd c (by change ¬ (!decide (V.int (2:Nat)=V.int 2))=true;decide)) (λ_=>?_);show#[0,0,p2,p1,_,0,rfl,bL.of C2.hp,bL.of up,pH n1 n2 C2.h1 C2.h2 u1 u2,false,rfl,L _ ?_];clear S L;show gO λ_ S L=>?_;show#[0,p2,2,.ref l1,1,bL.of C2.hp,rfl,.ref l1,"list",_,true,rfl,.lst C2.h1,BW _,true,rfl,b9 ?_];show#[0,p2,2,.ref l2,1,bL.of C2.hp,rfl,.ref l2,"list",_,true,rfl,.lst C2.h2,BW _,true,rfl,L _ ?_];clear S L;let nt:∀(b:Addr)(xs:List V),H2 b=some (.tup xs)->b≠l1/\b≠l2:=λb xs e=>#[λz=>(by rwa[z,C2.h1]at e),λz=>(by rwa[z,C2.h2]at e)];show GJ λ_ I=>?_;show#[0,p2,2,.ref l1,1,bL.of C2.hp,rfl,.inl #[5,bq.of C2.h1],l1,_,.int 5,1,C2.h1,by rw[qi,ef];omega,I _ _ ?_];clear I;show GJ λ_ I=>?_;let Y:=C2.hp;let ab:upd H2 l1 (.lst (((s'.ow true).map V.int)++[.int 5])) l2=some (.lst ((s'.ow false).map V.int)):=(by rw[aj (G0 C2.n)];show C2.h2);show#[0,p2,2,.ref l2,1,bL.of (by rw[aj (nt _ _ Y).1];show Y),rfl,.inl #[5,bq.of ab],l2,0,rfl,ab,I _ _ ?_];clear I;let s3:aR H1 (upd (upd H2 l1 (.lst (((s'.ow true).map V.int)++[.int 5]))) l2 (.lst [])):=λb o e=>by
  rw[aj (λz=>by rwa[z,C2.f2]at e),aj (λz=>by rwa[z,C2.f1]at e)];show C2.sm _ _ e
 generalize upd (upd H2 l1 (.lst (((s'.ow true).map V.int)++[.int 5]))) l2 (.lst [])=H3 at *;let R3:=O.same s3;let#[as,ap]:=id R3.ob;show#[0,a.rp,as,0,ap,St.dZ _ _ _ ak ak ak,M,a,s',W,rfl,R3,λH4 p4 o1 o2 J=>?_];let w1:=s3 _ _ G.h1;let w2:=s3 _ _ G.h2;show#[0,p4,p1,_,0,rfl,bL.of J.hp,bL.of (J.sm _ _ (s3 _ _ G.hp)),pH (λz=>by have:=J.f1;rwa[z,w1]at this) (λz=>by have:=J.f2;rwa[z,w2]at this) J.h1 J.h2 (J.sm _ _ w1) (J.sm _ _ w2),k _ (G.sm.trans (s3.trans J.sm))]
abbrev ig:N8:=top 52
abbrev IU:N8:=top 53
def kP(t q:Int):List Key:=[.inl t,.inl q]
theorem Fm{x:Int}{xs:List Int}(h:Ay (.int x) (xs.map V.int)=true):x∈xs:=by
 let#[y,h1,h2]:=U2.mp h;let#[z,F,rfl]:=IF.mp h1;have:z=x:=(by simpa[mK]using h2);show this▸F
theorem pj{s:Pg.PS}{H:Hp}{sp:Addr}{e:Pg.Ent}(h:St.Iz s H (.ref sp) (some e)):∃(w:Str)(r:List V),H sp=some (.tup (.str w::r))/\(w = "slot" -> ∃k n,e=some k/\s.pl k=some (false,n))/\(w = "frame" -> ∃k n,e=some k/\s.pl k=some (true,n))/\(e=none->w = "blank")/\∀k n,e=some k->s.pl k=some (true,n)->w = "frame" := by
 cases e with
 |none =>
  let#[t,I,F]:=h;cases I;show#["blank",[],F,λz=>absurd z ak,λz=>absurd z ak,λ_=>rfl,nofun]
 |some k =>
  let#[t,b,n,I,G,F]:=h;cases I;cases b
  .show#["slot",[.int n],F,λ_=>#[k,n,rfl,G],λz=>absurd z ak,nofun,λJ L e z=>by cases e;rwa[G]at z]
  .show#["frame",[.int n],F,λz=>absurd z ak,λ_=>#[k,n,rfl,G],nofun,λ_ _ _ _=>rfl]
def Eh(s0 s:Pg.PS)(rb G:List Row):Prop:=∀r∈G,∀z∈rb,z.1=r.1->z.2.1=r.2.1->∀k n,r.2.2.2=some k->s.pl k=some (false,n)->∀k0 F,z.2.2.2=some k0->s0.pl k0=some (true,F)->False
inductive gv(vs:List V)(H:Hp)(Q:VK)(E:XK):Prop
 |mk(s0 s:Pg.PS)(lb lp ow m1 m2:Addr)(xb xp:List V)(rb rp:List Row)(_:vs=[.ref lb,.ref lp,.ref ow])(_:H lb=some (.lst xb))(_:dw s0 H xb rb)(_:H lp=some (.lst xp))(_:dw s H xp rp)(_:H ow=some (.tup [.ref m1,.ref m2]))(_:H m1=some (.lst ((s.ow true).map V.int)))(_:xb.length<=1000000)(_:(0:Int)∈s.ow true->Eh s0 s rb rp)(_:∀H',aR H H'->Q (.bl true) H')
structure Jf(s0:Pg.PS)(rb:List Row)(HB:Hp)(d:Addr)(n:Nat)(H:Hp):Prop where
 sm:aR HB H
 dd:∃kvs,H d=some (.dT kvs)/\kvs.length<=n/\∀k v,cG kvs k=some v->∃r0∈rb,∃sp,k=kP r0.1 r0.2.1/\v=.ref sp/\St.Iz s0 H (.ref sp) (some r0.2.2.2)
theorem Jf.same{s0:Pg.PS}{rb:List Row}{HB H H':Hp}{d:Addr}{n:Nat}(I:Jf s0 rb HB d n H)(h:aR H H'):Jf s0 rb HB d n H':=by
 let#[kvs,a,b,c]:=I.dd;show#[I.sm.trans h,kvs,h _ _ a,b,λk v e=>?_];let#[N,L,sp,J,G,F]:=c k v e;show#[N,L,sp,J,G,uw F λb xs z=>h _ _ z]
theorem HU{t q t' z:Int}(h:kP t q=kP t' z):t=t'/\q=z:=by
 unfold kP at h;injection h with h1 h2;injection h2 with h2 _;show#[Su h1,Su h2]
inductive Dc(c:St.CA)(vs:List V)(H:Hp)(Q:VK)(E:XK):Prop
 |mk(M:Wz)(a:St.RA)(s:Pg.PS)(W:St.cN)(d:Addr)(D:f9)(t ad n:Int)(_:vs=[.ref a.rp,.ref d])(_:St.ax c H M a s W)(_:Pg.RI s (St.ents W))(_:fj H d D)(_:D=.peek t ad n\/∃cs:List Int,D=.poke t ad cs/\n=cs.length)(_:n=0\/∃x e,look W t=some x/\look x.t ((ad+n-1)/8)=some e/\(e=none\/∃k m,e=some k/\s.pl k=some (true,m)))(_:∀H',aR H H'->Q (.bl true) H')
theorem qQ:aA ["_law_before","_law_places_here","_law_owners_here","_law_ahead","_law_task","_law_page_here","_law_poke","_law_spot_here"] ["_law_before","_law_places_here","_law_owners_here"] (aq ig):=L2.bC
theorem Aw(F:cj K "_law_put_out" "_law_put_out" ig f fd):↥aN 1 f fd ["_law_before","_law_places_here","_law_owners_here"] gv:=by
 show F.dE qQ (λbb A outer s H vs Q E hr h=>?_);let#[s0,s',lb,lp,ow,m1,m2,xb,xp,rb,rp,rfl,am,ba,ap,a0,a8,aB,lx,no,k]:=h;let hs:=vl;show#[_,(ai (bj (az eX ah (aM aK (pv 2) ah bX) (by with_unfolding_all rfl)) (ao (aJ gw)) aI)
  (ai (cQ 3 qQ.nd vk)
  (ai (cA C4 rfl (cK (pv 0)) (iR rfl (bF (gH 4 qQ.nd) (bF (gH 5 qQ.nd) (bF (gH 6 qQ.nd) (bF (gH 7 qQ.nd) gF))))) (ao (fq (pv 7) (gr (pv 3) (cI (aa (pv 4) (aa (pv 5) ag))) (set_dict (bN hr))))))
  (ai (cA C4 rfl (cK (pv 1)) (iR rfl (bF (gH 4 qQ.nd) (bF (gH 5 qQ.nd) (bF (gH 6 qQ.nd) (bF (gH 7 qQ.nd) gF))))) (ao (bj (PW.pt (kA (az bM (aM aK (pv 7) ah bX) aS (aF _)) (jO (az bM (aM aK (jo (bN hr) (pv 3) (cI (aa (pv 4) (aa (pv 5) ag))) (pv 7) #[1,1]) ah bX) aS (aF _))))) (ao (aJ gw)) aI)))
  (ao (aJ gw)))))),?_]
 show gO λ_ ji S=>?_;show#[0,ow,2,.ref m1,1,bL.of a8,rfl,m1,0,.inl (bq.of aB),rfl,fh _,0,?_];show jj (λ_=>ji _ (k _ (aR.refl _))) (λcz=>S _ ?_);let no:=no (Fm (x:=0) ‹cz›);clear ji S;intro d f1;let q1:=au (X:=.dT []) f1;let I1:Jf s0 rb H d 0 (upd H d (.dT [])):=#[q1,[],ae,t7 _,λk v e=>by cases e];change cn _ _ _ _ (upd H d (.dT []));generalize upd H d (.dT [])=H1 at *;show#[0,lb,rfl,#[_,bq.of (q1 _ _ am)],?_];show cq (K:=K) (a:=lb) (xs:=xb) (λi σ H2=>∃(O N J L:Option V),σ=#v[.ref lb,.ref lp,.ref ow,.ref d,O,N,J,L]/\Jf s0 rb H d i H2) #[2,_,0,I1] (λi σ H2 _ z0=>by let#[_,_,_,_,_,I]:=z0;show bq.of (I.sm _ _ am)) ?_ ?_
 .rintro i x σ H2 hx ⟨O,N,J,L,rfl,G⟩;let hi:i<xb.length:=(qc.mp hx).1;let#[r,ab,ra]:=ba.get hx;let#[T0,sp,rfl,U,Y]:=ra.keep λb xs z=>G.sm _ _ z;show#[T0,0,bL.of U,5,0,_,0,_,0,_,0,4];show#[0,0,0,0,fG,λtk ac=>?_];let s3:=au (X:=.tup [.int r.1,.int r.2.1]) ac;let h3:upd H2 tk (.tup [.int r.1,.int r.2.1]) tk=some (.tup [.int r.1,.int r.2.1]):=ae;let I3:=G.same s3;let a4:=uw Y λb xs z=>s3 _ _ z;clear G U Y;generalize upd H2 tk (.tup [.int r.1,.int r.2.1])=H3 at *;let#[kvs,R,a2,a3]:=I3.dd;show#[d,0,gK.t (k:=kP r.1 r.2.1) R h3 af,2,_,0,?_];let tu:∀b xs,H3 b=some (.tup xs)->upd H3 d (.dT (putK kvs (kP r.1 r.2.1) (.ref sp))) b=some (.tup xs):=λb xs z=>(by rw[aj (λy=>by rwa[y,R]at z)];show z);show#[λb o e=>by rw[aj (λz=>by rwa[z,f1]at e)];show I3.sm _ _ e,_,ae,le_trans (eJ _ _ _) (RP a2),λk' v e=>?_];rw[qk]at e;cases c:k'=kP r.1 r.2.1
  .rw[Wy c]at e;cases e;show#[r,vh ab,sp,c,rfl,uw a4 tu]
  .rw[Wx c]at e;let#[r0,h0,ad,e1,e2,e3]:=a3 k' v e;show#[r0,h0,ad,e1,e2,uw e3 tu]
 .rintro σ H2 ⟨O,N,J,L,rfl,G⟩;show#[0,lp,rfl,#[_,bq.of (G.sm _ _ ap)],?_];show cq (K:=K) (a:=lp) (xs:=xp) (λi σ H2=>∃(O N J L:Option V),σ=#v[.ref lb,.ref lp,.ref ow,.ref d,O,N,J,L]/\Jf s0 rb H d xb.length H2) #[2,_,0,G] (λi σ H2 _ z0=>by let#[_,_,_,_,_,I]:=z0;show bq.of (I.sm _ _ ap)) ?_ ?_
  .clear G O N J L H2;rintro i x σ H2 hx ⟨O,N,J,L,rfl,G⟩;let#[r,ab,ra]:=a0.get hx;let#[T0,sp,rfl,U,Y]:=ra.keep λb xs z=>G.sm _ _ z;let#[wd,rr,hw,a7,_]:=pj Y;show#[T0,0,bL.of U,5,0,_,0,_,0,_,0,4];show qT λQQ ji S=>?_;show#[0,sp,2,.str wd,1,bL.of hw,uQ,rfl,0,?_];show dX (λcs=>?_) (λ_=>S _ #[2,_,0,G]);let#[k0,n0,ek,hk]:=a7 (V.str.inj (of_decide_eq_true cs));let aT:=V.str.inj (of_decide_eq_true cs);let#[kvs,R,a2,a3]:=G.dd;show#[0,d,rfl,.inr #[_,.inl R],0,0,fG,λtk ac=>?_];let s3:=au (X:=.tup [.int r.1,.int r.2.1]) ac;show#[0,_,dN.t (k:=kP r.1 r.2.1) (s3 _ _ R) ae,?_];obtain⟨t3,r3,y,g1,g2,g3⟩:∃t3 r3 y,(cG kvs (kP r.1 r.2.1)).getD (.ref sp)=.ref t3/\upd H2 tk (.tup [.int r.1,.int r.2.1]) t3=some (.tup (.str y::r3))/\y ≠ "frame" := by
    cases e:cG kvs (kP r.1 r.2.1)with
    |none=>show#[sp,rr,wd,rfl,s3 _ _ hw,by rw[aT];decide +kernel]
    |some u =>
     let#[r0,h0,ad,e1,rfl,e3]:=a3 _ _ e;let#[w0,q0,a5,_,wf,_]:=pj e3;show#[ad,q0,w0,rfl,s3 _ _ a5,λz=>?_];let#[k1,n1,as,a6]:=wf z;let#[j1,j2]:=HU e1;show no r (vh ab) r0 h0 j1.symm j2.symm k0 n0 ek hk k1 n1 as a6
   rw[g1];show#[t3,2,.str y,1,bL.of g2,uQ,rfl,false,by rw[decide_eq_false (λz=>g3 (V.str.inj z))],S _ #[2,_,0,G.same s3]]
  .rintro σ H3 ⟨O,N,J,L,rfl,I3⟩;show k _ I3.sm
theorem JL:aA ["_law_rooms","_law_deed_here","_law_many_here"] ["_law_rooms","_law_deed_here"] (aq IU):=L2.bC
theorem IV{c:St.CA}(F:cj K "_law_met" "_law_met" IU f fd)(T:lK mg)(TR:St.lT K mg c)(ac:↥Md 4 c.C "place" (St.iW c)):↥aN 5 f fd ["_law_rooms","_law_deed_here"] (Dc c):=by
 show F.dE JL (λam A outer s H vs Q E hr h=>?_);let#[M,a,s',W,d,D,t,ad,n,rfl,R,ri,hd,L,hc,k]:=h;let hs:=vl;let#[dx,Y]:=R.ob;let I:∃N v,H d=some (.tup [.str N,.int t,.int ad,v]):=by
  rcases L with rfl|⟨cs,rfl,_⟩
  .show#[2,hd]
  .let#[c,h1,_]:=hd;show#[2,h1]
 let#[N,vv,I]:=I;show#[_,(ai (cQ 2 JL.nd (vf (az bM (aM aK (pv 1) ah bX) aS (aF _)) (aM aK (pv 1) ah bX) (aO bB (by rfl) T.len boot_len (aa (aM aK (pv 1) ah bX) ag))))
  (ai (bj (az bM (pv 2) ah (aF _)) (ao (aJ gw)) aI)
  (ao (aJ (eF gT (aM aK (pm (pv 0) TR.cl ac hr aw (aa (aM aK (pv 1) ah bX) (aa (ay bg (ay ky (ay bD (aM aK (pv 1) ah bX) (pv 2)) ah) ah) ag))) ah bX) (bE (aa aS (aa aS ag))) (by with_unfolding_all rfl)))))),?_]
 show gN λQQ O=>?_;let U:QQ (.int n) H:=by
  show O _ _ ?_;clear O;show gO λ_ ji je=>?_;show#[0,rfl,0,?_];show jj (λ_=>ji _ (k _ (aR.refl _))) (λcz=>je _ ?_);let n0:n≠0:=λz=>cz (decide_eq_true (by rw[z]));let#[x,e,hx,he,hf]:=hc.resolve_left n0;show#[0,a.rp,dx,0,Y,St.dZ _ _ _ ak ak ak,0,d,2,.int t,1,bL.of I,rfl,0,d,2,.int ad,1,bL.of I,rfl,0,_,0,5,0,5,0,rfl,#[ar,ar],M,a,s',W,t,_,x,rfl,R,ri,hx,λH2 v s2 G=>?_];rw[he]at G;obtain⟨sp,rfl⟩:∃sp,v=.ref sp:=by
   cases e with
   |none=>let#[t,e,_]:=G;show#[t,e]
   |some kx=>let#[t,_,_,e,_]:=G;show#[t,e]
  let#[J,rr,hw,_,_,wb,wf]:=pj G;show#[sp,2,.str J,1,bL.of hw,uQ,fG,λp hp=>?_];show#[p,0,.inl (bq.of ae),1,?_];let ew:Ay (.str J) [.str "frame",.str "blank"]=true:=by
   rcases hf with h|⟨kx,m,h1,h2⟩
   .rw[wb h];decide +kernel
   .rw[wf kx m h1 h2];decide +kernel
  change Q (.bl (Ay (.str J) [.str "frame",.str "blank"])) _;rw[ew];show k _ (s2.trans (au hp))
 rcases L with rfl|⟨cs,rfl,rfl⟩
 .let hd:H d=some (.tup [.str "peek",.int t,.int ad,.int n]):=hd;show#[0,d,2,.str "peek",1,bL.of hd,1,0,eg #[0,d,2,.int n,1,bL.of hd,rfl,U]]
 .let#[S,hd,ab]:=hd;show#[0,d,2,.str "poke",1,bL.of hd,1,false,by rw[decide_eq_false (ks_ne ak)],b9 #[0,d,2,.ref S,1,bL.of hd,rfl,S,0,.inl (bq.of ab),?_]];rw[qi];show U
abbrev Ho:N8:=top 54
theorem held_eq{W:St.cN}{Pm:iz}(F:(W.map (·.1)).Nodup)(nx:∀t x,look W t=some x->(x.t.map (·.1)).Nodup)(G:(Pm.map (·.1)).Nodup)(np:∀x∈Pm,(x.2.2.map (·.1)).Nodup)(tk:∀t,look W t=none↔look Pm t=none)(pg:∀t q,eW W t q=none↔eP Pm t q=none):((St.ents W).length:Int)=(Pm.map λx:Int×Addr×List (Int×Int)=>(x.2.2.length:Int)).sum:=by
 let I:∀x∈Pm,(sv W x.1).length=x.2.2.length:=λx hx=>by
  let z:=bW G (show(x.1,x.2)∈Pm from hx);cases e:look W x.1 with
  |none=>rwa[(tk x.1).mp e]at z
  |some J =>
   unfold sv;rw[e];change(St.kW J.t).length=_;have:=(keys_perm (nx _ _ e) (np x hx) λq=>by have:=pg x.1 q;rw[gx e,iM z]at this;show this).length_eq;rw[qi,qi]at this;rw[<-this];show qi _
 rw[rG F,((keys_perm F G tk).flatMap_right _).length_eq];clear G np tk pg F nx
 induction Pm with
 |nil=>rfl
 |cons x l L =>
  rw[Pb,Pb,List.flatMap_cons,y3,Sk,I x (.head _), <-L λy N=>I y (.tail _ N)];show Int.natCast_add _ _
inductive BM(c:St.CA)(vs:List V)(H:Hp)(Q:VK)(E:XK):Prop
 |mk(M:Wz)(a:St.RA)(s:Pg.PS)(W:St.cN)(pd:Addr)(Pm:iz)(_:vs=[.ref a.rp,.ref pd])(_:St.ax c H M a s W)(_:Pg.RI s (St.ents W))(_:fO H pd Pm)(_:M pd/\¬ a.own W pd)(_:∀t,look W t=none↔look Pm t=none)(_:∀t q,eW W t q=none↔eP Pm t q=none)(_:∀x∈Pm,x.2.2.length<=1000)(_:Pm.length<=1000)(_:W.length<=1000)(_:∀H',aR H H'->Q (.bl true) H')
theorem HR:aA ["_law_rooms","_law_pages","_law_task","_law_page_here"] ["_law_rooms","_law_pages"] (aq Ho):=L2.bC
theorem IS{c:St.CA}(F:cj K "_law_out" "_law_out" Ho f fd)(T:lK mg)(TR:St.lT K mg c)(a8:↥Md 4 c.C "place" (St.iW c))(a6:↥Md 2 c.C "held" (St.gc c)):↥aN 5 f fd ["_law_rooms","_law_pages"] (BM c):=by
 show F.dE HR (λba A outer s H vs Q E hr h=>?_);let#[M,a,s',W,pd,Pm,rfl,R,ri,L,sp,tk,pg,as,lP,lW,k]:=h;let hs:=vl;let hn:∀(G:Obj) u',H pd≠some (.frz G u'):=λG u' w=>(by rwa[L.hd]at w);show#[_,(ai (tZ (cA C4 rfl (jI (pv 1)) (gH 2 HR.nd) (ao (cA C4 rfl (cK (ay sA (bE (aa (qp kB ah) (aa ah (aa (ay gp ah ah) ag)))) (sE (jC (cl:=[]) (caps:=[]) #[rfl,ak,ak,rfl,by kernel_rfl,by intro p J;simp at J,by kernel_rfl,by intro p J;simp at J,ak] rfl (jI (cE (bN hr) (pv 1) (pv 2) bX)) (λ_ _ _ _=>iG) (λ_ _ _ _=>(ay bD (pv 0) ah)))))) (gH 3 HR.nd) (ao (bj (PW.pt (kA (kq (gR (bN hr) (pv 3) (cE (bN hr) (pv 1) (pv 2) bX))) (jO (az EJ (pm (pv 0) TR.cl a8 hr aw (aa (pv 2) (aa (pv 3) ag))) mI (aF _))))) (ao (aJ gw)) aI))))))
  (ao (aJ (eF bM (lU (pv 0) TR.cl a6 hr aw) (aO (qd rfl) (by rfl) T.sum qD (aa (sE (jC (cl:=[("_law_pages",s⁻¹+1)]) (caps:=[("_law_pages",1)]) #[rfl,ak,ak,rfl,by kernel_rfl,by intro p J;simp only[se,DO,or_false]at J;rcases J with rfl<;>first|rfl|show#[rfl,.inl rfl,.inl rfl]|show#[rfl,.inl rfl,.inr rfl],by kernel_rfl,by intro p J;simp only[se,DO,or_false]at J;rcases J with rfl<;>first|rfl|show#[rfl,.inl rfl,.inl rfl]|show#[rfl,.inl rfl,.inr rfl],ak] rfl (jI (pv 1)) (λ_ _ _ _=>iG) (λ_ _ _ _=>(aO rP (by rfl) T.len boot_len (aa (cE (bN hr) (pv 1) (pv 0) bX) ag))))) ag)) (aF _))))),?_]
 show Lp λu2 e2=>?_;show#[0,pd,0,L.hd,hn,λG=>?_];let oF:Off (· = pd) H (upd H pd (.frz G (.dK (dk gf Pm)))):=St.Off.wr rfl;let hF:upd H pd (.frz G (.dK (dk gf Pm))) pd=some (.frz G (.dK (dk gf Pm))):=ae;let RF:St.ax c (upd H pd (.frz G (.dK (dk gf Pm)))) M a s' W:=R.Cm (B:=(· = pd)) oF (λb z=>by rw[z];show sp) (λb z=>.inr #[_,(congrArg H z).trans L.hd]) (λb z=>.inl z) (λb z _=>z) (λb z e=>by
  cases q:b=pd
  .rw[q,hF]at e;cases e
  .rw[aj q]at e;show R.mt b z e)
 let ad:∀x∈Pm,upd H pd (.frz G (.dK (dk gf Pm))) x.2.1=some (.dK (dk V.int x.2.2)):=λx hx=>oF _ _ (L.rm x hx) (L.ne x hx);let back:∀{H9},aR (upd H pd (.frz G (.dK (dk gf Pm)))) H9->aR H (upd H9 pd (.dK (dk gf Pm))):=λ{H9} s9 b o e=>by
  cases z:b=pd
  .rw[z,ae, <-L.hd, <-z];show e
  .rw[aj z];show s9 b o (by rw[aj z];show e)
 generalize a2:upd H pd (.frz G (.dK (dk gf Pm)))=HF at *;show oV (a:=pd) (o:=G) (kvs:=dk gf Pm) (λj σ H2=>∃(v2 v3:Option V),σ=#v[.ref a.rp,.ref pd,v2,v3]/\aR HF H2) #[_,0,aR.refl _] (λj σ H2 _ z0=>by let#[_,_,_,I]:=z0;show I _ _ hF) ?_ ?_
 .rintro j kk v σ H2 hk ⟨v2,v3,rfl,s2⟩;let O:(Pm.map λx:Int×Addr×List (Int×Int)=>((NC x.1:Key),gf x.2))[j]?=some (kk,v):=hk;rw[vu]at O;let#[x,hx,e]:=t5.mp O;cases e;let N:=vh hx;let ez:look Pm x.1=some x.2:=bW L.nd N;obtain⟨xx,ap⟩:∃xx,look W x.1=some xx:=by
   cases e:look W x.1 with
   |none=>rwa[(tk x.1).mp e]at ez
   |some xx=>show#[xx,rfl]
  let aB:∀{H9:Hp},aR HF H9->dN H9 pd (.int x.1) (some (.ref x.2.1)):=λ{H9} s9=>.inl #[_,.inl x.1,.inr #[G,s9 _ _ hF],rfl,by rw[cL,ez];rfl];let aT:∀(G:Obj) u',H x.2.1≠some (.frz G u'):=λG u' w=>(by rwa[L.rm x N]at w);show St.nameQ ?_;dsimp only;show#[0,_,0,rfl,#[ar,ar,ar],Ha,λl hl=>?_];let s3:=au (X:=.lst ([-1,64,10^Qz 55].map V.int)) hl;let a0:upd H2 l (.lst ([-1,64,10^Qz 55].map V.int)) l=some (.lst ([-1,64,10^Qz 55].map V.int)):=ae;let S3:=s2.trans s3;clear s3 hl;change CU _ _ _ (upd H2 l (.lst ([-1,64,10^Qz 55].map V.int))) _;generalize upd H2 l (.lst ([-1,64,10^Qz 55].map V.int))=U at *;let am:=S3 _ _ (ad x N);show#[0,0,pd,0,aB S3,x.2.1,0,am,aT,λab=>?_];show kL (a:=x.2.1) (o:=ab) (kvs:=dk V.int x.2.2) (λi zs S=>zs=((x.2.2.take i).map λy:Int×Int=>y.1+1).map V.int/\S=upd U x.2.1 (.frz ab (.dK (dk V.int x.2.2)))) #[1] (λi zs S _ z0=>by rw[z0.2];show ae) ?_ ?_
  .rintro i k' v zs S hk ⟨rfl,rfl⟩;let O:(x.2.2.map λy:Int×Int=>((NC y.1:Key),V.int y.2))[i]?=some (k',v):=hk;rw[vu]at O;let#[y,hy,e]:=t5.mp O;cases e;let hi:=(qc.mp hy).1;have:=as x N;show#[0,_,0,rfl,3,rfl]
   .rw[qi,qi,Oz];omega
   .rw[Oy,hy,N5,N5];rfl
  .rintro zs S ⟨rfl,rfl⟩ p J;rw[dg,OS]at *;let np:p≠x.2.1:=λz=>(by rwa[z,ae]at J);let a7:U p=none:=(by rw[aj np]at J;show J);show#[x.2.1,ab,_,by rw[aj (G0 np)];show ae,aT,?_];let s4:aR U (upd (upd (upd U x.2.1 (.frz ab (.dK (dk V.int x.2.2)))) p (.lst ((x.2.2.map λy:Int×Int=>y.1+1).map V.int))) x.2.1 (.dK (dk V.int x.2.2))):=λb o e=>by
    cases z:b=x.2.1
    .rw[z,ae, <-am, <-z];show e
    .rw[aj z,aj (λy=>by rwa[y,a7]at e),aj z];show e
   let a3:upd (upd (upd U x.2.1 (.frz ab (.dK (dk V.int x.2.2)))) p (.lst ((x.2.2.map λy:Int×Int=>y.1+1).map V.int))) x.2.1 (.dK (dk V.int x.2.2)) p=some (.lst ((x.2.2.map λy:Int×Int=>y.1+1).map V.int)):=(by rw[aj np];show ae);generalize upd (upd (upd U x.2.1 (.frz ab (.dK (dk V.int x.2.2)))) p (.lst ((x.2.2.map λy:Int×Int=>y.1+1).map V.int))) x.2.1 (.dK (dk V.int x.2.2))=S at *;have:=as x N;show#[l,p,_,0,rfl,s4 _ _ a0,a3,by rw[qi,qi,qi];change 3+_<=_;omega,λp3 a1=>?_];rw[<-N5];let s5:=au (X:=.lst (([-1,64,10^Qz 55]++x.2.2.map λy:Int×Int=>y.1+1).map V.int)) a1;let S5:=S3.trans (s4.trans s5);show#[p3,rfl,#[_,bq.of ae],?_];show cq (K:=K) (a:=p3) (xs:=([-1,64,10^Qz 55]++x.2.2.map λy:Int×Int=>y.1+1).map V.int) (λi σ H6=>∃v3:Option V,σ=#v[.ref a.rp,.ref pd,.int x.1,v3]/\aR HF H6/\H6 p3=some (.lst (([-1,64,10^Qz 55]++x.2.2.map λy:Int×Int=>y.1+1).map V.int))) #[0,S5,ae] (λi σ H6 _ z0=>by let#[_,_,_,h]:=z0;show bq.of h) ?_ ?_
   .rintro i u σ H6 hu ⟨a4,rfl,Y,h6⟩;rw[vu]at hu;let#[q,_,rfl]:=t5.mp hu;let R6:=RF.same Y;let#[dx,ho]:=R6.ob;show St.nameQ ?_;dsimp only;show qT λQQ ji je=>?_;show#[0,0,0,pd,0,aB Y,x.2.1,0,St.pW (t:=q) (Y _ _ (ad x N)),?_];cases ep:look x.2.2 q with
    |some _=>show#[false,rfl,je _ #[0,Y,h6]]
    |none =>
     show#[true,rfl,eg ?_];show#[0,a.rp,dx,0,ho,St.dZ _ _ _ ak ak ak,0,0,M,a,s',W,x.1,q,xx,rfl,R6,ri,ap,λH7 v s7 ac=>?_];rw[show look xx.t q=none by rw[<-gx ap];show(pg x.1 q).mpr (by rw[iM ez];show ep)]at ac;let ac:v=.non:=ac;subst ac;show#[rfl,0,je _ #[0,Y.trans s7,s7 _ _ h6]]
   .rintro σ H6 ⟨a4,rfl,Y,_⟩;show#[_,0,Y]
 .rintro σ H2 ⟨v2,v3,rfl,s2⟩;show#[pd,G,_,s2 _ _ hF,hn,e2 _ _ _ ?_];let S2:=back s2;generalize upd H2 pd (.dK (dk gf Pm))=U at *;clear s2 RF ad oF hF back a2 HF G;let R3:=R.same S2;let P3:=L.same S2;let#[dx,ho]:=id R3.ob;show#[0,a.rp,dx,0,ho,St.dZ _ _ _ ak ak ak,M,a,s',W,rfl,R3,lW,λS s4=>?_];let P4:=P3.same s4;show#[0,pd,0,P4.hd,hn,λG=>?_];show kL (a:=pd) (o:=G) (kvs:=dk gf Pm) (λi zs H5=>zs=((Pm.take i).map λx:Int×Addr×List (Int×Int)=>(x.2.2.length:Int)).map V.int/\H5=upd S pd (.frz G (.dK (dk gf Pm)))) #[1] (λi zs H5 _ z0=>by rw[z0.2];show ae) ?_ ?_
  .rintro i k' v zs H5 hk ⟨rfl,rfl⟩;let O:(Pm.map λx:Int×Addr×List (Int×Int)=>((NC x.1:Key),gf x.2))[i]?=some (k',v):=hk;rw[vu]at O;let#[x,hx,e]:=t5.mp O;cases e;let N:=vh hx;let ez:look Pm x.1=some x.2:=bW L.nd N;let hi:=(qc.mp hx).1;show#[0,0,pd,0,.inl #[_,.inl x.1,.inr #[G,ae],rfl,by rw[cL,ez];rfl],x.2.1,0,by rw[aj (L.ne x N)];show P4.rm x N,3,rfl]
   .rw[qi,qi,Oz];omega
   .rw[Oy,hx,N5,N5,dg];rfl
  .rintro zs H5 ⟨rfl,rfl⟩ p J;rw[dg,OS]at *;let np:p≠pd:=λz=>(by rwa[z,ae]at J);let a5:S p=none:=(by rw[aj np]at J;show J);show#[pd,G,_,by rw[aj (G0 np)];show ae,hn,?_];show#[p,Pm.map λx:Int×Addr×List (Int×Int)=>(x.2.2.length:Int),rfl,bq.of (by rw[aj np];show ae),4];rw[held_eq R.nd (λt x h=>(R.tb _ (aC h)).nd) L.nd L.np tk pg,decide_eq_true rfl];show k _ (S2.trans (s4.trans λb o e=>?_));cases z:b=pd
   .rw[z,ae, <-P4.hd, <-z];show e
   .rw[aj z,aj (λy=>by rwa[y,a5]at e),aj z];show e
abbrev r6:N8:=top 55
structure Lz(c:St.CA)(H:Hp)(M:Wz)(a:St.RA)(s:Pg.PS)(W:St.cN)(cv:WA)(pd:Addr)(Pm:iz):Prop where
 r:St.ax c H M a s W
 ri:Pg.RI s (St.ents W)
 cw:St.Cv s W cv
 d:fO H pd Pm
 sp:∀x,pw pd Pm x->M x/\¬ a.own W x
section
variable{c:St.CA}{H H':Hp}{M M':Wz}{a:St.RA}{s s':Pg.PS}{W W':St.cN}{cv cv':WA}{pd:Addr}{Pm Pm':iz}
theorem Lz.same(L:Lz c H M a s W cv pd Pm)(e:aR H H'):Lz c H' M a s W cv pd Pm:=#[L.r.same e,L.ri,L.cw,L.d.same e,L.sp]
theorem Lz.step(L:Lz c H M a s W cv pd Pm)(R:St.ax c H' M' a s' W')(F:Pg.RI s' (St.ents W'))(G:St.Cv s' W' cv')(st:St.Step H M (a.own W) H' M' (a.own W')):Lz c H' M' a s' W' cv' pd Pm:=by
 let k:∀x o,pw pd Pm x->H x=some o->H' x=some o:=λx o h e=>st.off _ _ e (L.sp x h).2;show#[R,F,G,#[k _ _ (.inl rfl) L.d.hd,L.d.nd,λx hx=>k _ _ (.inr #[x,hx,rfl]) (L.d.rm x hx),L.d.np,L.d.ne,L.d.dj],λx h=>#[st.mm x (L.sp x h).1 (L.sp x h).2,λz=>?_]];rcases st.on x z with z|z
 .show(L.sp x h).2 z
 .let#[_,e]:=L.d.kind h;rwa[e]at z
theorem Lz.mapped(L:Lz c H M a s W cv pd Pm)(P:fO H' pd Pm')(o:Off (pw pd Pm) H H')(F:∀x,pw pd Pm' x->pw pd Pm x\/H x=none):Lz c H' (λx=>(M x/\¬ pw pd Pm x)\/pw pd Pm' x) a s W cv pd Pm':=by
 show#[L.r.Cm (B:=pw pd Pm) o (λx h=>L.sp x h) (λx h=>.inr (L.d.kind h)) (λx h=>h.elim (λz=>.inl z.1) λz=>(F x z).imp (λy=>(L.sp x y).1) id) (λx h n=>.inl #[h,n]) (λx h=>?_),L.ri,L.cw,P,λx h=>#[.inr h,λz=>?_]]
 .rcases h with h|h
  .intro z;cases e:H x with
   |none=>show L.r.mt x h.1 e
   |some u=>rwa[o x u e h.2]at z
  .let#[_,e]:=P.kind h;rw[e];nofun
 .rcases F x h with y|y
  .show(L.sp x y).2 z
  .show L.r.mt x (L.r.eU x z) y
def kC(H:Hp)(M:Wz)(l:Addr)(o:HO):Prop:=H l=some o/\¬ M l
theorem kC.step{l:Addr}{o:HO}(h:kC H M l o)(R:St.ax c H M a s W)(st:St.Step H M (a.own W) H' M' (a.own W')):kC H' M' l o:=#[st.off _ _ h.1 λz=>h.2 (R.eU _ z),λz=>(st.mn _ z).elim h.2 λy=>by rwa[h.1]at y]
theorem kC.same{l:Addr}{o:HO}(h:kC H M l o)(e:aR H H'):kC H' M l o:=#[e _ _ h.1,h.2]
theorem kC.new{l:Addr}{o:HO}(R:St.ax c H M a s W)(h:H l=none):kC (upd H l o) M l o:=#[ae,λz=>R.mt l z h]
theorem kC.mapped{l:Addr}{o:HO}(h:kC H M l o)(L:Lz c H M a s W cv pd Pm)(f:Off (pw pd Pm) H H')(F:∀x,pw pd Pm' x->pw pd Pm x\/H x=none):kC H' (λx=>(M x/\¬ pw pd Pm x)\/pw pd Pm' x) l o:=by
 let n:¬ pw pd Pm l:=λz=>h.2 (L.sp l z).1;show#[f _ _ h.1 n,λz=>?_];rcases z with z|z
 .show h.2 z.1
 .rcases F l z with y|y
  .show n y
  .rw[h.1]at y;cases y
theorem F9{q:Int}:aD (8*q) ((8:Nat):Int)=[q]:=by
 unfold aD;rw[Wx ar];unfold dR dP aP;let z:(8*q+((8:Nat):Int)-1)/8-8*q/8+1=1:=af;let F:8*q/8=q:=af;rw[z,F];change[q+((0:Nat):Int)]=[q];rw[show q+((0:Nat):Int)=q from Int.add_zero q]
end
inductive ph(c:St.CA)(vs:List V)(H:Hp)(Q:VK)(E:XK):Prop
 |mk(M:Wz)(a:St.RA)(s:Pg.PS)(W:St.cN)(cv:WA)(pd:Addr)(Pm:iz)(b cell:Int)(_:vs=[.ref a.rp,.ref pd,.int cell])(_:Lz c H M a s W cv pd Pm)(_:Rel W Pm b)(_:∀x∈Pm,x.2.2.length<=1000)(_:Pm.length<=1000)(_:W.length<=1000)(_:∀(H':Hp)(M':Wz)(s':Pg.PS),St.ax c H' M' a s' []->Pg.RI s' []->(∀b,(s'.ow b).length=(s.ow b).length)->Q (.bl true) H')
inductive Nc(c:St.CA)(a:St.RA)(s0:Pg.PS)(W:St.cN)(cv:WA)(pd:Addr)(Pm:iz)(cell:Int)(l1:Addr)(ns1:List Int)(v3:Option V)(σ:L2.St)(H:Hp):Prop
 |mk(w3 v4:Option V)(M:Wz)(s:Pg.PS)(_:σ=#v[.ref a.rp,.ref pd,.int cell,w3,v4,none])(_:v3=none\/w3=v3)(_:Lz c H M a s W cv pd Pm)(_:kC H M l1 (.lst (ns1.map V.int)))(_:∀b,(s.ow b).length=(s0.ow b).length)
inductive Nh(c:St.CA)(a:St.RA)(s0:Pg.PS)(W:St.cN)(cv:WA)(pd:Addr)(Pm:iz)(cell:Int)(l1:Addr)(ns1:List Int)(l2:Addr)(ns2:List Int)(t:Int)(σ:L2.St)(H:Hp):Prop
 |mk(v4:Option V)(M:Wz)(s:Pg.PS)(_:σ=#v[.ref a.rp,.ref pd,.int cell,.int t,v4,none])(_:Lz c H M a s W cv pd Pm)(_:kC H M l1 (.lst (ns1.map V.int)))(_:kC H M l2 (.lst (ns2.map V.int)))(_:∀b,(s.ow b).length=(s0.ow b).length)
inductive Mj(c:St.CA)(a:St.RA)(s0:Pg.PS)(cv:WA)(pd:Addr)(cell:Int)(v3 v4:Option V)(l:Addr)(m:Nat)(σ:L2.St)(H:Hp):Prop
 |mk(M:Wz)(s:Pg.PS)(W:St.cN)(ls:List Int)(_:σ=#v[.ref a.rp,.ref pd,.int cell,v3,v4,.ref l])(_:ls.length=m)(_:m<=1000)(_:ls.Nodup)(_:∀t,t∈ls↔look W t≠none)(_:St.ax c H M a s W)(_:Pg.RI s (St.ents W))(_:St.Cv s W cv)(_:W.length<=1000)(_:H l=some (.lst (ls.map V.int)))(_:M l/\¬ a.own W l)(_:∀b,(s.ow b).length=(s0.ow b).length)
theorem uB:aA ["_law_rooms","_law_pages","_law_cell","_law_task","_law_page_here","_law_left"] ["_law_rooms","_law_pages","_law_cell"] (aq r6):=L2.bC
theorem era{α z:Type}(f:α->z):∀(l:List α)(k:Nat),(l.map f).eraseIdx k=(l.eraseIdx k).map f
 | [],_=>rfl
 |_::_,0=>rfl
 |x::l,k+1=>by change f x::(l.map f).eraseIdx k=f x::(l.eraseIdx k).map f;rw[era f l k]
theorem BG(f:α->V)(l:List (Int×α)):(dk f l).map (·.1)=(l.map (·.1)).map NC:=by unfold dk;rw[Qo,Qo];rfl
theorem AA{c:St.CA}(F:cj K "_law_closed" "_law_closed" r6 f fd)(T:lK mg)(TR:St.lT K mg c)(Jq:↥Md 8 c.C "peek" (St.oa c))(MF:↥Md 6 c.C "close" (St.lJ c))(bc:↥Md 2 c.C "held" (St.gc c)):↥aN 9 f fd ["_law_rooms","_law_pages","_law_cell"] (ph c):=by
 show F.dE uB (λbI A outer s H vs Q E hr h=>?_);let#[M,a,s0,W,cv,pd,Pm,bd,ab,rfl,L0,rl,ba,lP,lW,k]:=h;let hs:=vl;show#[_,(ai (cA C4 rfl (cK (aO (fX rfl) (by rfl) T.sorted gS (aa (pv 1) ag))) (gH 3 uB.nd) (ao (cA C4 rfl (cK (aO (fX rfl) (by rfl) T.sorted gS (aa (cE (bN hr) (pv 1) (pv 3) bX) ag))) (gH 4 uB.nd) (ao (bj (PW.pt (kA (az bM (cE (bN hr) (cE (bN hr) (pv 1) (pv 3) bX) (pv 4) bX) ah (aF _)) (jO (az (BD hr.gj) (pm (pv 0) TR.cl Jq hr aw (aa (pv 3) (aa (ay kh ah (pv 4)) (aa ah ag)))) (ay iq (bE (aa ah ag)) ah) (aF _))))) (ao (aJ gw)) aI)))))
  (ai (cQ 5 uB.nd (aO (fX rfl) (by rfl) T.sorted gS (aa (pv 1) ag)))
  (ai (pQ C4 (az (BD hr.gj) (pv 5) (bE ag) (aF _)) (ao (aQ (pm (pv 0) TR.cl MF hr aw (aa (gU OE Tu Tv vL (pv 5) (aa (ay bw (pv 2) (aO bB (by rfl) T.len boot_len (aa (pv 5) ag))) ag)) ag)))))
  (ao (aJ (eF bM (lU (pv 0) TR.cl bc hr aw) ah (aF _))))))),?_]
 show J1 λu4 e4 u3 e3 u2 e2=>?_;let nd:=L0.d.nd;let np:=L0.d.np;show#[0,pd,_,Pm.map (·.1),rfl,L0.d.hd,BG _ _,nd,by rw[qi];show lP,λl1 ac aT p1 _=>?_];let O:kC (upd H l1 (.lst (ac.map V.int))) M l1 (.lst (ac.map V.int)):=kC.new L0.r aT;let L1:=L0.same (au (X:=.lst (ac.map V.int)) aT);generalize upd H l1 (.lst (ac.map V.int))=H1 at *;show#[l1,rfl,#[_,bq.of O.1],?_];show cq (K:=K) (a:=l1) (xs:=ac.map V.int) (λ_=>Nc c a s0 W cv pd Pm ab l1 ac none) #[2,M,s0,rfl,.inl rfl,L1,O,λ_=>rfl] (λi σ H2 _ z0=>by let#[_,_,_,_,_,_,_,Y,_]:=z0;show bq.of Y.1) ?_ ?_
 .clear L0 L1 O aT H1;rintro i x σ H2 hx ⟨w3,v4,M,s,rfl,_,L,O,N⟩;rw[vu]at hx;let#[t,ht,rfl]:=t5.mp hx;let tm:t∈Pm.map (·.1):=p1.mem_iff.mp (vh ht);obtain⟨r,am⟩:∃r,look Pm t=some r:=by
   cases e:look Pm t with
   |none=>show absurd tm (cp e)
   |some r=>show#[r,rfl]
  obtain⟨J,ap⟩:∃J,look W t=some J:=by
   cases e:look W t with
   |none=>rwa[(rl.tk t).mp e]at am
   |some J=>show#[J,rfl]
  let mr:=aC am;show St.nameQ ?_;dsimp only;show#[0,0,pd,0,iZ L.d.hd am,r.1,_,r.2.map (·.1),rfl,L.d.rm _ mr,BG _ _,np _ mr,by rw[qi];show ba _ mr,λl2 ad a0 p2 _=>?_];let s3:=au (X:=.lst (ad.map V.int)) a0;let Y:kC (upd H2 l2 (.lst (ad.map V.int))) M l2 (.lst (ad.map V.int)):=kC.new L.r a0;let L3:=L.same s3;let a6:=O.same s3;clear L O s3 a0;generalize upd H2 l2 (.lst (ad.map V.int))=U at *;show#[l2,rfl,#[_,bq.of Y.1],?_];show cq (K:=K) (a:=l2) (xs:=ad.map V.int) (λ_=>Nh c a s0 W cv pd Pm ab l1 ac l2 ad t) #[_,M,s,rfl,L3,a6,Y,N] (λi σ H2 _ z0=>by let#[_,_,_,_,_,_,Y,_]:=z0;show bq.of Y.1) ?_ ?_
  .clear L3 a6 Y N M s U H2;rintro i y σ H2 hy ⟨v4,M,s,rfl,L,O,Y,N⟩;rw[vu]at hy;let#[q,hq,rfl]:=t5.mp hy;let qm:q∈r.2.map (·.1):=p2.mem_iff.mp (vh hq);obtain⟨u,hu⟩:∃u,look r.2 q=some u:=by
    cases e:look r.2 q with
    |none=>show absurd qm (cp e)
    |some u=>show#[u,rfl]
   let a2:eP Pm t q=some u:=(by rw[iM am];show hu);let#[dx,ho]:=id L.r.ob;show St.nameQ ?_;dsimp only;show qT λQQ ji je=>?_;show#[0,0,pd,0,iZ L.d.hd am,0,r.1,0,iZ (L.d.rm _ mr) hu,rfl,0,?_];show dX (λc0=>?_) (λ_=>je _ #[_,M,s,rfl,L,O,Y,N]);let u0:u=0:=V.int.inj (of_decide_eq_true c0);obtain⟨en,a4⟩:∃en,eW W t q=some en:=by
    cases e:eW W t q with
    |none=>rwa[(rl.pg t q).mp e]at a2
    |some en=>show#[en,rfl]
   let bf:en=none:=(rl.bl t q en u a4 a2).2.2.mpr u0;subst bf;let he:look J.t q=some none:=(by rw[<-gx ap];show a4);let#[q0,q1]:=(L.r.tb _ (aC ap)).pg (by rw[he];nofun);let cz:cv t q=replicate 8 0:=L.cw t J ap q none he;show#[0,a.rp,dx,0,ho,St.dZ _ _ _ ak ak ak,0,0,_,0,rfl,.inl #[ar,ar],M,a,s,W,cv,t,8*q,(8),J,rfl,L.r,L.ri,L.cw,ap,af,?_,λU M3 s3 l S bi a7 a1 bv fl hl wl=>?_]
   .rintro(z|⟨_,z|z⟩)
    .show absurd z ar
    .unfold br dR dP at z;omega
    .show z λq' h=>?_;let h':q'∈aD (8*q) ((8:Nat):Int):=(by unfold aD;rw[Wx ar];show h);rw[F9,qj]at h';rw[h'];show mem_keys.mpr (by rw[he];nofun)
   let a8:U l=some (.lst ((replicate 8 (0:Int)).map V.int)):=by
    rw[hl,F9];unfold St.dS;rw[show([q].map (cv t)).flatten=cv t q from by simp,cz,show(8*q%8).toNat=0 from by omega];rfl
   let L3:=L.step S bi a7 a1;let bb:=O.step L.r a1;let bm:=Y.step L.r a1;show#[qN,λp hp=>#[p,_,0,rfl,ae,ar,ar,by change 1*8<=sizeLine;omega,λp2 bn=>?_]];let s4:=au (X:=.lst [V.int 0]) hp;let e8:(replicate (Qz 8) [V.int 0]).flatten=(replicate 8 (0:Int)).map V.int:=rfl;rw[e8];let s5:=au (X:=.lst ((replicate 8 (0:Int)).map V.int)) bn;show#[l,p2,_,0,rfl,bq.of (s5 _ _ (s4 _ _ a8)),bq.of ae,1,false,rfl,je _ ?_];show#[_,M3,s3,rfl,L3.same (s4.trans s5),bb.same (s4.trans s5),bm.same (s4.trans s5),λb=>(bv.1 b).trans (N b)]
  .rintro σ H4 ⟨v4,M,s,rfl,L,O,_,N⟩;show#[2,M,s,rfl,.inl rfl,L,O,N]
 .clear L0 L1 O aT H1;rintro σ H2 ⟨w3,v4,M,s,rfl,wz,L,K9,N⟩;clear wz K9;show e2 _ _ _ ?_;show gN λ_ jt=>?_;show#[0,pd,_,Pm.map (·.1),rfl,L.d.hd,BG _ _,nd,by rw[qi];show lP,λl ls hl pl so=>jt _ _ (e3 _ _ _ ?_)];clear jt so;let s3:=au (X:=.lst (ls.map V.int)) hl;let h3:upd H2 l (.lst (ls.map V.int)) l=some (.lst (ls.map V.int)):=ae;let S:=L.r.Cm (H':=upd H2 l (.lst (ls.map V.int))) (B:=λ_=>False) (M':=λb=>M b\/b=l) (λb o e _=>s3 b o e) (λb z=>z.elim) (λb z=>z.elim) (λb z=>z.imp id λz=>by rw[z];show hl) (λb z _=>.inl z) (λb z=>by
   rcases z with z|z
   .show(L.r.same s3).mt b z
   .rw[z,h3];nofun)
  let nl:¬ a.own W l:=λz=>L.r.mt l (L.r.eU _ z) hl;let ri:=L.ri;let cw:=L.cw;clear L hl s3;generalize upd H2 l (.lst (ls.map V.int))=U at *;show#[λm=>Mj c a s0 cv pd ab w3 v4 l m,#[ls.length,_,s,W,ls,1,?_,pl.nodup_iff.mpr nd,λt=>?_,S,ri,cw,lW,h3,#[.inr rfl,nl],N],?_]
  .rw[pl.length_eq,qi];show lP
  .rw[pl.mem_iff,mem_keys];show#[λh z=>h ((rl.tk t).mp z),λh z=>h ((rl.tk t).mpr z)]
  .clear S h3 nl ri cw N M s W ls pl rl lW U H2;rintro m σ H2 ⟨M,s,W,ls,rfl,rfl,lm,a5,mem,R,ri,cw,lW,hl,ml,N⟩;show#[0,GZ,λp hp=>?_];let s3:=au (X:=.lst []) hp;show#[l,p,_,[],1,bq.of (s3 _ _ hl),bq.of ae,fh _,rfl,0,?_];let S:=R.same s3;let as:=s3 _ _ hl;clear R hl s3 hp;generalize upd H2 p (.lst [])=U at *;cases ls with
   |nil =>
    show b9 (e4 _ _ _ ?_);let w0:W=[]:=by
     cases W with
     |nil=>rfl
     |cons y W=>show absurd ((mem y.1).mpr (by rw[aX,Wy rfl];nofun)) DO
    subst w0;let#[dx,ho]:=id S.ob;show#[0,a.rp,dx,0,ho,St.dZ _ _ _ ak ak ak,M,a,s,[],rfl,S,lW,λH4 s4=>#[4]];show k H4 M s (S.same s4) ri N
   |cons I G =>
    show eg #[Mj c a s0 cv pd ab w3 v4 l G.length,λbH H' h=>#[_,Q4 _,h],?_];let hn:0<((I::G).length:Int):=(by rw[K4];omega);let c0:=OI ab (show((I::G).length:Int)≠0 by omega);let c1:=Ol ab hn;obtain⟨kx,ek⟩:∃kx:Nat,ab%((I::G).length:Int)=(kx:Int):=#[(ab%((I::G).length:Int)).toNat,af];let kl:kx<(I::G).length:=af;obtain⟨tx,aB⟩:∃tx,(I::G)[kx]?=some tx:=#[_,M4 kl];let#[dx,ho]:=id S.ob;show Kn λ_ jt=>?_;show#[0,a.rp,dx,0,ho,St.dZ _ _ _ ak ak ak,0,.inl #[5,bq.of as],0,0,l,0,.inl (bq.of as),?_];rw[qi];show#[_,0,rfl,hn,?_];rw[ek];show#[l,2,kx,.int tx,1,as,af,by rw[K4]at kl lm;omega,?_,by rw[vu,aB];rfl,?_]
    .rw[Ve af (by rw[qi];omega)];rfl
    let tm:tx∈I::G:=vh aB;obtain⟨J,ap⟩:∃J,look W tx=some J:=by
     cases e:look W tx with
     |none=>show absurd e ((mem tx).mp tm)
     |some J=>show#[J,rfl]
    rw[show((I::G).map V.int).eraseIdx kx=((I::G).eraseIdx kx).map V.int from era V.int _ _];let h4:upd U l (.lst (((I::G).eraseIdx kx).map V.int)) l=some (.lst (((I::G).eraseIdx kx).map V.int)):=ae;let R4:=S.Cm (H':=upd U l (.lst (((I::G).eraseIdx kx).map V.int))) (B:=(· = l)) (M':=M) (St.Off.wr rfl) (λb z=>by rw[z];show ml) (λb z=>.inl #[_,(congrArg U z).trans as]) (λb z=>.inl z) (λb z _=>z) (λb z e=>by
     cases q:b=l
     .rw[q,h4]at e;cases e
     .rw[aj q]at e;show S.mt b z e)
    clear S as;generalize upd U l (.lst (((I::G).eraseIdx kx).map V.int))=H4 at *;show#[M,a,s,W,cv,tx,J,rfl,R4,ri,cw,ap,λH5 M5 s5 R5 bx bz a3 be=>jt _ _ ?_];show#[M5,s5,bp W tx,(I::G).eraseIdx kx,rfl,3,a5.sublist (List.eraseIdx_sublist _ _),λt=>?_,R5,bx,bz,le_trans (QH _ _) lW,a3.off _ _ h4 ml.2,#[a3.mm _ ml.1 ml.2,λz=>?_],λb=>(be.1 b).trans (N b)]
    .rw[List.length_eraseIdx_of_lt kl];rfl
    .rw[K4]at lm;omega
    .rw[Tb.bV];let h1:t∈(I::G).eraseIdx kx↔t∈I::G/\t≠tx:=by
      rw[List.mem_eraseIdx_iff_getElem?];constructor
      .rintro⟨j,h1,h2⟩;show#[vh h2,λz=>h1 ?_];rw[z]at h2;show(List.getElem?_inj (qc.mp h2).1 a5).mp (h2.trans aB.symm)
      .rintro⟨h1,h2⟩;let#[j,hj]:=List.mem_iff_getElem?.mp h1;show#[j,λz=>h2 (by rw[z,aB]at hj;show(sN hj).symm),hj]
     rw[h1,mem t];cases z:t=tx
     .rw[Wy z];show#[λh=>absurd z h.2,λh=>absurd rfl h]
     .rw[Wx z];show#[λh=>h.1,λh=>#[h,z]]
    .rcases a3.on _ z with y|y
     .show ml.2 y
     .rw[h4]at y;cases y
theorem rD{ad:Int}{n:Nat}(h:1<=n):∃j,(aD ad n).length=j+1/\(aD ad n)[j]?=some ((ad+n-1)/8):=by
 unfold aD;rw[Wx af];unfold aP dR dP;rw[qi,PF];show#[((ad+n-1)/8-ad/8+1).toNat-1,af,?_];rw[vu,Uh af];change some _=_;congr 1;omega
section
variable{W W':St.cN}{Pm Pm':iz}{b k:Int}{s s':Pg.PS}{D:f9}
theorem Rel.begin{t:Int}{y:St.TD}{r:Addr}(R:Rel W Pm b)(J:0<=b)(F:look W t=none)(I:y.t=[]):Rel (W++[(t,y)]) (Pm++[(t,r,[])]) b:=by
 let G:=(R.tk t).mp F;show R.go (λt'=>?_) (OR _) J λt' q=>?_
 .rw[bZ t' F,bZ t' G];cases z:t'=t
  .rw[Wy z,Wy z];show#[nofun,nofun]
  .rw[Wx z,Wx z];show R.tk t'
 .by_cases z:t'=t
  .show .non (by rw[gE F,Wy z,I];rfl) (by rw[jH G,Wy z];rfl)
  .show .old t' q (by rw[gE F,Wx z]) (by rw[jH G,Wx z])
theorem Rel.get(R:Rel W Pm b){t:Int}{x:St.TD}(h:look W t=some x):∃r,look Pm t=some r:=by
 cases e:look Pm t with
 |none=>rwa[(R.tk t).mpr e]at h
 |some r=>show#[r,rfl]
theorem Rel.ok(R:Rel W Pm b)(m:Mv s s' W W' D)(O:FZ D):Km Pm D:=by
 cases m with
 |begin t y S G F _=>show(R.tk t).mp S
 |close t x hx F _=>show R.get hx
 |map t pg m x y hx G F _ h1=>show#[h1,R.get hx]
 |drop t pg m x y hx G F _ h1 h2 =>
  let#[N,I]:=R.get hx;show#[h1,N,I,λq J z=>?_];have:=h2 q J;rw[<-gx hx]at this;show this ((R.pg t q).mpr (by rw[iM I];show z))
 |peek t ad n x hx F _ _ _=>show Pe
 |poke t ad cs x y hx Y U F _ _ _=>show#[le_trans O ar,R.get hx]
 |copy t o x y hx L G F _=>show#[R.get hx,(R.tk o).mp L]
theorem Mv.Kx(m:Mv s s' W W' D)(z:(0:Int)∈s'.ow true){rb Y:List Row}(hb:∀r∈rb,eW W r.1 r.2.1=some r.2.2.2)(hp:∀r∈Y,eW W' r.1 r.2.1=some r.2.2.2):Eh s s' rb Y:=by
 intro r hr r0 ac et eq k n ek N k0 n0 ab O;let h1:=hp r hr;let I:=hb r0 ac;rw[et,eq,ab]at I;rw[ek]at h1;let L:Pg.Up s s'->eW W' r.1 r.2.1=eW W r.1 r.2.1->False:=λu e=>by
  rw[e,I]at h1;have:k0=k:=sN (sN h1);subst this;rwa[u _ _ N]at O
 let kb:Pg.KB s s'->eW W' r.1 r.2.1=eW W r.1 r.2.1->False:=λu e=>by
  rw[e,I]at h1;have:k0=k:=sN (sN h1);subst this;let#[m,R]:=(u z).2 k0 #[n0,O];rwa[R]at N
 cases m with
 |begin t y U J F hs =>
  subst F hs;show L Pg.Up.refl ?_;rw[gE U];cases w:r.1=t
  .rw[Wy w,J,w];unfold eW;rw[U];rfl
  .rw[Wx w]
 |close t x _ F G =>
  subst F;show L G ?_;unfold eW at h1 ⊢;rw[Tb.bV]at h1 ⊢;cases w:r.1=t
  .rw[Wy w]at h1;cases h1
  .rw[Wx w]
 |map t pg m x y hx J F hs _ =>
  subst F hs;show L Pg.Up.refl ?_;rw[eY hx]at h1 ⊢;cases w:r.1=t
  .rw[Wy w,J]at h1 ⊢;cases v:r.2.1∈aP pg m
   .rw[Wy v]at h1;cases h1
   .rw[Wx v,w,gx hx]
  .rw[Wx w]
 |drop t pg m x y hx J F G _ _ =>
  subst F;show L G ?_;rw[eY hx]at h1 ⊢;cases w:r.1=t
  .rw[Wy w,J]at h1 ⊢;cases v:r.2.1∈aP pg m
   .rw[Wy v]at h1;cases h1
   .rw[Wx v,w,gx hx]
  .rw[Wx w]
 |peek t ad n x hx F G _ _ =>
  subst F;show kb G rfl
 |poke t ad cs x y hx y1 y2 F G hf _ =>
  subst F;rw[eY hx]at h1;cases w:r.1=t
  .by_cases v:r.2.1∈aD ad cs.length
   .rw[Wy w]at h1;let#[m,R]:=hf z r.2.1 v k h1;rwa[R]at N
   .show kb G ?_;rw[eY hx,Wy w,y1 _ v,w,gx hx]
  .show kb G ?_;rw[eY hx,Wx w]
 |copy t o x y hx S J F G =>
  subst F;show L G ?_;rw[gE S]at h1 ⊢;cases w:r.1=o
  .exfalso;rw[w]at I;unfold eW at I;rwa[S]at I
  .rw[Wx w]
def F4(s:Pg.PS)(W:St.cN)(D:f9):Prop:=∀t ad n,(D=.peek t ad n\/∃cs:List Int,D=.poke t ad cs/\n=cs.length)->n=0\/∃x e,look W t=some x/\look x.t ((ad+n-1)/8)=some e/\(e=none\/∃k m,e=some k/\s.pl k=some (true,m))
theorem Mv.met(m:Mv s s' W W' D):F4 s' W' D:=by
 intro t ad n h;rcases h with rfl|⟨cs,rfl,rfl⟩
 .cases m with
  |peek _ _ n x hx F _ J O =>
   subst F;cases z:n=0
   .show .inl (by rw[z];rfl)
   .let#[j,h1,h2]:=rD (ad:=ad) (show 1<=n by omega);have:=O _ (vh h2);cases G:look x.t ((ad+n-1)/8)with
    |none=>show absurd G this
    |some N =>
     show .inr #[x,N,hx,G,?_];cases N with
     |none=>show .inl rfl
     |some k=>let#[m,I]:=J j _ k h1 h2 G;show .inr #[k,m,rfl,I]
 .cases m with
  |poke _ _ _ x y hx S R F _ _ J =>
   subst F;cases z:cs.length=0
   .show .inl (by rw[z];rfl)
   .let#[j,h1,h2]:=rD (ad:=ad) (show 1<=cs.length by omega);let#[k,L,_]:=R _ (vh h2);let#[m,I]:=J j _ k h1 h2 L;show .inr #[y,some k,by rw[bK t hx,Wy rfl],L,.inr #[k,m,rfl,I]]
end
def pS(H:Hp)(M:Wz)(d:Addr):f9->Prop
 |.poke t ad cs=>∃c,H d=some (.tup [.str "poke",.int t,.int ad,.ref c])/\H c=some (.lst (cs.map V.int))/\¬ M c
 |D=>fj H d D
theorem pS.at_{H:Hp}{M:Wz}{d:Addr}{D:f9}(h:pS H M d D):fj H d D:=by
 cases D with
 |poke t ad cs=>let#[c,h1,h2,_]:=h;show#[c,h1,h2]
 |_=>show h
theorem pS.keep{H H':Hp}{M:Wz}{d:Addr}{D:f9}(h:pS H M d D)(z:∀b xs,H b=some (.tup xs)->H' b=some (.tup xs))(ls:∀l xs,kC H M l (.lst xs)->H' l=some (.lst xs)):fj H' d D:=by
 cases D with
 |poke t ad cs=>let#[c,h1,h2,F]:=h;show#[c,z _ _ h1,ls _ _ #[h2,F]]
 |_=>show z _ _ h
structure Ls(c:St.CA)(a:St.RA)(pd:Addr)(nf nl:Nat)(Kp:Addr->HO->Prop)(j:Nat)(H:Hp)(M:Wz)(s:Pg.PS)(W:St.cN)(cv:WA)(Pm:iz):Prop where
 z:Lz c H M a s W cv pd Pm
 rl:Rel W Pm (64*j)
 lf:(s.ow true).length=nf
 ls:(s.ow false).length=nl
 lw:W.length<=2+j
 kp:∀x o,Kp x o->kC H M x o
structure Bf(s:Pg.PS)(lb:Addr)(xb:List V)(rb:List Row)(H:Hp)(M:Wz):Prop where
 kb:kC H M lb (.lst xb)
 rb:dw s H xb rb
 lx:xb.length<=1000000
inductive Af(c:St.CA)(a:St.RA)(pd:Addr)(nf nl:Nat)(Kp:Addr->HO->Prop)(j:Nat)(s:Pg.PS)(lb:Addr)(xb:List V)(rb:List Row)(d:Addr)(D:f9)(w:Str)(H:Hp):Prop
 |mk(M:Wz)(s':Pg.PS)(W:St.cN)(cv:WA)(Pm:iz)(_:Ls c a pd nf nl Kp (j+1) H M s' W cv Pm)(_:Bf s lb xb rb H M)(_:(0:Int)∈s'.ow true->∀rp:List Row,(∀r∈rp,eW W r.1 r.2.1=some r.2.2.2)->Eh s s' rb rp)(_:fj H d D)(_:w = "" -> F4 s' W D)(_:Ay (.str w) [.str "other",.str "NoRoom"]=true->kindOf D = "map" \/ kindOf D = "copy")
section
variable{c:St.CA}{a:St.RA}{pd:Addr}{nf nl:Nat}{Kp:Addr->HO->Prop}{j:Nat}{H H' H1:Hp}{M M1:Wz}{s s1:Pg.PS}{W W1:St.cN}{cv cv1:WA}{Pm Pm':iz}{lb d:Addr}{xb:List V}{rb:List Row}{D:f9}
theorem Ls.same(L:Ls c a pd nf nl Kp j H M s W cv Pm)(e:aR H H'):Ls c a pd nf nl Kp j H' M s W cv Pm:=#[L.z.same e,L.rl,L.lf,L.ls,L.lw,λx o h=>(L.kp x o h).same e]
theorem Bf.same(B:Bf s lb xb rb H M)(e:aR H H'):Bf s lb xb rb H' M:=#[B.kb.same e,B.rb.keep λb xs z=>e _ _ z,B.lx]
theorem Ls.mO(L:Ls c a pd nf nl Kp j H M s W cv Pm):St.mO s=(nf:Int)+(nl:Int):=by unfold St.mO;rw[L.lf,L.ls];omega
theorem Ls.Jj(L:Ls c a pd nf nl Kp j H M s W cv Pm):Pm.length=W.length:=by
 have:=(keys_perm L.z.r.nd L.z.d.nd L.rl.tk).length_eq;rw[qi,qi]at this;show this.symm
theorem Ls.Lc(L:Ls c a pd nf nl Kp j H M s W cv Pm)(h:nf+nl<=1000):∀x∈Pm,x.2.2.length<=1000:=λx hx=>by
 let F:=bW L.z.d.nd (show(x.1,x.2)∈Pm from hx);cases e:look W x.1 with
 |none=>rwa[(L.rl.tk x.1).mp e]at F
 |some G =>
  let h1:=(keys_perm (L.z.r.tb _ (aC e)).nd (L.z.d.np x hx) λq=>by have:=L.rl.pg x.1 q;rw[gx e,iM F]at this;show this).length_eq;rw[qi,qi]at h1;let h2:=(St.gh L.z.r.nd e).length_eq;rw[y3]at h2;let J:(St.kW G.t).length=G.t.length:=qi _;let I:=L.z.ri.rm;rw[L.lf,L.ls]at I;omega
theorem Ls.Lj{X:ip}(L:Ls c a pd nf nl Kp j H M s W cv Pm)(B:Bf s lb xb rb H M)(bm:∀r∈rb,eW W r.1 r.2.1=some r.2.2.2)(hd:pS H M d D)(h:Fi D X)(e:aR H H'):Af c a pd nf nl Kp j s lb xb rb d D (wordOf X) H':=by
 let F:=L.same e;show#[M,s,W,cv,Pm,#[F.z,L.rl.go L.rl.tk af af λt q=>.old t q rfl rfl,F.lf,F.ls,by have:=L.lw;omega,F.kp],B.same e,λ_ rp N=>?_,hd.keep (λb xs z=>e _ _ z) (λl xs z=>e _ _ z.1),λz=>?_,λz=>h ?_]
 .intro r U r0 ab R J k n S O k0 n0 Y G;let h1:=N r U;let I:=bm r0 ab;rw[R,J,h1,S,Y]at I;have:k=k0:=sN (sN I);subst this;rwa[O]at G
 .cases X<;>show absurd z (by dsimp only[wordOf];decide +kernel)
 .cases X with
  |noRoom=>rfl
  |noTask=>show absurd z (by dsimp only[wordOf];decide +kernel)
  |noPage=>show absurd z (by dsimp only[wordOf];decide +kernel)
  |taken=>show absurd z (by dsimp only[wordOf];decide +kernel)
theorem Ls.good(L:Ls c a pd nf nl Kp j H M s W cv Pm)(B:Bf s lb xb rb H M)(bm:∀r∈rb,eW W r.1 r.2.1=some r.2.2.2)(hd:pS H M d D)(R:St.ax c H1 M1 a s1 W1)(ri:Pg.RI s1 (St.ents W1))(Y:St.Cv s1 W1 cv1)(st:St.Step H M (a.own W) H1 M1 (a.own W1))(I:∀b,(s1.ow b).length=(s.ow b).length)(m:Mv s s1 W W1 D)(lw:W1.length<=W.length+1)(e:Ep j Pm Pm' D)(P:fO H' pd Pm')(o:Off (pw pd Pm) H1 H')(J:∀x,pw pd Pm' x->pw pd Pm x\/H1 x=none):Af c a pd nf nl Kp j s lb xb rb d D "" H':=by
 let G:Lz c H1 M1 a s1 W1 cv1 pd Pm:=L.z.step R ri Y st;let L2:=G.mapped P o J;let O:∀b xs,H b=some (.tup xs)->H1 b=some (.tup xs):=λb xs z=>st.off _ _ z (iH L.z.r z);let N:∀b xs,H1 b=some (.tup xs)->H' b=some (.tup xs):=λb xs z=>o _ _ z λy=>by
  let#[_,h]:=G.d.kind y;rwa[z]at h
 let F:∀{x:Addr}{u:HO},kC H M x u->kC H' (λx=>(M1 x/\¬ pw pd Pm x)\/pw pd Pm' x) x u:=λh=>(h.step L.z.r st).mapped G o J;show#[_,s1,W1,cv1,Pm',#[L2,L.rl.Mb af R.nd (λt x h=>(R.tb _ (aC h)).nd) m e (λt ad cs eD q U=>?_),by rw[I];show L.lf,by rw[I];show L.ls,by have:=L.lw;omega,λx u h=>F (L.kp x u h)],#[F B.kb,(B.rb.keep O).keep N,B.lx],λz rp hp=>m.Kx z bm hp,hd.keep (λb xs z=>N _ _ (O _ _ z)) (λl xs z=>(F z).1),λ_=>m.met,λz=>absurd z ak];subst eD;cases m with
 |poke _ _ _ x y hx y1 y2 S _ _ _ =>
  subst S;let#[k,hk,_]:=y2 q U;show(R.tb _ (aC (show look (a9 W t y) t=some y by rw[bK t hx,Wy rfl]))).pg (by rw[hk];nofun)
end
abbrev xZ:N8:=top 45
inductive sP(vs:List V)(H:Hp)(Q:VK)(E:XK):Prop
 |mk(m:Int)(_:vs=[.int m])(_:∀(nf ns:Nat)(H':Hp)(t:Addr),2<=nf->nf<=40->ns<=60->aR H H'->H t=none->H' t=some (.tup [.int nf,.int ns])->Q (.ref t) H')
theorem GW:aA ["_law_first","_law_frames","_law_slots"] ["_law_first"] (aq xZ):=L2.bC
theorem D9(F:cj K "_law_sizes" "_law_sizes" xZ f fd):↥aN 1 f fd ["_law_first"] sP:=by
 show F.dE GW (λS A outer s H vs Q E U h=>?_);let#[m,rfl,k]:=h;show#[_,(ai (cQ 1 GW.nd (aM cu (bE (aa ah (aa ah (aa (ay bD ah (ay bw (ay bg (pv 0) ah) ah)) (aa (ay bD ah (ay bw (ay bg (pv 0) ah) ah)) ag))))) (ay bw (ay bg (pv 0) ah) ah) bX))
  (ai (cQ 2 GW.nd (aM cu (bE (aa ah (aa ah (aa (ay bw (ay bg (pv 0) ah) ah) (aa (ay bw (ay bg (pv 0) ah) ah) ag))))) (ay bw (ay bg (pv 0) ah) ah) bX))
  (ao (aJ (cI (aa (pv 1) (aa (pv 2) ag))))))),?_]
 let#[nf,R,L]:=fM (xs:=[2,3,2+m/2%5,2+m/2%39]) (i:=m/10%4) (OI _ ar) (Ol _ ar);let#[ns,hs,I]:=fM (xs:=[0,1,m/40%6,m/40%61]) (i:=m/160%4) (OI _ ar) (Ol _ ar);let Y:2<=nf/\nf<=40:=by
  simp only[se,DO,or_false]at R;omega
 let bs:0<=ns/\ns<=60:=by
  simp only[se,DO,or_false]at hs;omega
 show gN λ_ z=>?_;show#[0,_,0,rfl,#[ar,ar],_,0,rfl,(by change(0:Int)<5;decide),_,0,rfl,0,_,0,rfl,#[ar,ar],_,0,rfl,(by change(0:Int)<39;decide),_,0,rfl,mM,λJ O=>#[0,_,0,rfl,#[ar,ar],_,0,rfl,Ec,J,2,.int nf,1,bq.of ae,L,z _ _ ?_]];clear z;let s0:=au (X:=.lst ([2,3,2+m/2%5,2+m/2%39].map V.int)) O;show gN λ_ z=>?_;show#[0,_,0,rfl,#[ar,ar],_,0,rfl,(by change(0:Int)<6;decide),0,_,0,rfl,#[ar,ar],_,0,rfl,(by change(0:Int)<61;decide),mM,λl1 N=>#[0,_,0,rfl,#[ar,ar],_,0,rfl,Ec,l1,2,.int ns,1,bq.of ae,I,z _ _ ?_]];clear z;let s1:=au (X:=.lst ([0,1,m/40%6,m/40%61].map V.int)) N;show#[0,0,fG,λt G=>?_];let s2:=au (X:=.tup [.int nf,.int ns]) G;obtain⟨a,rfl⟩:∃a:Nat,nf=a:=#[nf.toNat,af];obtain⟨b,rfl⟩:∃b:Nat,ns=b:=#[ns.toNat,af];show k a b _ t af af af (s0.trans (s1.trans s2)) (s0.free (s1.free G)) ae
end Pr
namespace L2
open PySem PySem.Spec PyProof.Rows
theorem aN.or{P:tp}{w:By}{K:DD}{mg:WD}{base:Heap}{CX:qP}{k:Nat}{f:Addr}{fd:qw}{ps:List Str}{sp N:Sp}(F:aN P w K mg base CX k f fd ps sp)(G:aN P w K mg base CX k f fd ps N):aN P w K mg base CX k f fd ps (λvs H Q E=>sp vs H Q E\/N vs H Q E):=
 #[λvs H Q E h=>h.elim (F.len vs H Q E) (G.len vs H Q E),λA outer s H args us vs Q E L I z J hs=>hs.elim (F.run A outer s H args us vs Q E L I z J) (G.run A outer s H args us vs Q E L I z J)]
end L2
namespace Pr
open PySem L2 Rm Tb
abbrev Gw:N8:=top 56
theorem Ge{D:Ends}{σ:L2.St}{H:Hp}{I R J O Y t6 S L N:TS}(k:∀u9,Le N u9->∀u8,Le (cn L u9) u8->∀U,Le (cn S u8) U->∀u6,Le (cn t6 U) u6->∀G,Le (cn Y u6) G->∀z,Le (cn O G) z->∀u3,Le (cn J z) u3->∀F,Le (cn R u3) F->cn I F D σ H):cn I (cn R (cn J (cn O (cn Y (cn t6 (cn S (cn L N))))))) D σ H:=k _ Le.rfl _ Le.rfl _ Le.rfl _ Le.rfl _ Le.rfl _ Le.rfl _ Le.rfl _ Le.rfl
theorem MB{t:TS}{D:Ends}{σ:L2.St}{H:Hp}(k:∀z:Ends,(∀σ H,D.nx σ H->z.nx σ H)->t z σ H):t D σ H:=k D λ_ _ h=>h
theorem FN{D:f9}(h:Ay (.str (kindOf D)) [.str "peek",.str "poke"]=true):(∃t ad n,D=.peek t ad n)\/∃t ad cs,D=.poke t ad cs:=by
 cases D with
 |peek t ad n=>show .inl #[t,ad,n,rfl]
 |poke t ad cs=>show .inr #[t,ad,cs,rfl]
 |_=>show absurd h (by dsimp only[kindOf];decide +kernel)
def j8(a b c d:Addr):ip->Addr
 |.noTask=>a|.noPage=>b|.noRoom=>c|.taken=>d
inductive vx(K:DD)(vs:List V)(H:Hp)(Q:VK)(E:XK):Prop
 |mk(a:Addr)(ns:List Int)(_:vs=[.ref a])(_:bq K H a (ns.map V.int))(_:ns.length<=63)(_:∀H',Q (.bl true) H')
inductive Ng(c:St.CA)(a:St.RA)(pd:Addr)(Kp:Addr->HO->Prop)(nf nl:Nat)(sc tl:Addr)(m:Int)(j:Nat)(σ:L2.St)(H:Hp):Prop
 |mk(v7:Option V)(M:Wz)(s:Pg.PS)(W:St.cN)(cv:WA)(Pm:iz)(_:σ=#v[.ref sc,.int m,.ref tl,.int nf,.int nl,.ref a.rp,.ref pd,v7,none,none,none,none,none,none])(_:Lz c H M a s W cv pd Pm)(_:Rel W Pm 0)(_:(s.ow true).length=nf)(_:(s.ow false).length=nl)(_:W.length<=j)(_:∀t,look W t≠none->t<1+(j:Int))(_:∀x o,Kp x o->kC H M x o)
inductive Np(c:St.CA)(a:St.RA)(pd:Addr)(Kp:Addr->HO->Prop)(nf nl:Nat)(sc tl:Addr)(m:Int)(j:Nat)(σ:L2.St)(H:Hp):Prop
 |mk(v7 v9 v10 v11 v12 v13:Option V)(M:Wz)(s:Pg.PS)(W:St.cN)(cv:WA)(Pm:iz)(lb:Addr)(xb:List V)(rb:List Row)(_:σ=#v[.ref sc,.int m,.ref tl,.int nf,.int nl,.ref a.rp,.ref pd,v7,.ref lb,v9,v10,v11,v12,v13])(_:Ls c a pd nf nl Kp j H M s W cv Pm)(_:Bf s lb xb rb H M)(_:∀r∈rb,eW W r.1 r.2.1=some r.2.2.2)
theorem fU:aA ["_law_script","_law_first","_law_tasks_here","_law_frames","_law_slots","_law_rooms","_law_pages","_law_k","_law_before","_law_cell","_law_deed_here","_law_told_here","_law_word_here","_law_places_here"] ["_law_script"] (aq Gw):=L2.bC
theorem HD{f dd:Addr}{fd c9:qw}{c:St.CA}(F:cj K "law" "law" Gw f fd)(T:lK mg)(TR:St.lT K mg c)(MR:Mk K c.C dd)(dl:mg "Rooms" = some (.ref c.C))(ea:↥aN 5 dd c9 ["self","frames","slots"] (St.uj c))(eu:Binds K c9 ["self","frames","slots"] [])(dO:↥Df 1 "_law_tasks" uI)(dp:↥Df 1 "_law_sizes" sP)(d7:↥Df 1 "_law_number" oG)(d6:↥Df 2 "_law_deed" wZ)(d8:↥Df 12 "_law_told" (r9 c))(Ms:↥Md 3 c.C "begin" (St.lG c))(el:↥Md 2 c.C "counts" (jG c))
  (K6:↥Df 1 "_law_mapped" qA) (eD:↥Df 5 "_law_met" (Dc c)) (ej:↥Df 5 "_law_places" (pZ c)) (et:↥Df 2 "_law_standing" kj) (E8:↥Df 3 "_law_counted" (mT c)) (eo:↥Df 1 "_law_put_out" gv) (dL:↥Df 1 "_law_owners" ly) (ez:↥Df 5 "_law_out" (BM c)) (d4:↥Df 9 "_law_closed" (ph c)) :
  ↥aN 13 f fd ["_law_script"] (vx K):=by
 show F.ok fU (λvs H Q E h=>?_) (λfo A outer s H vs Q E G h=>?_)
 .let#[a,ns,rfl,_]:=h;rfl
 .let#[sc,ns,rfl,be,fe,k]:=h;let hs:=vl;show#[_,(ai (cQ 1 fU.nd (aO (qd rfl) (by rfl) T.sum qD (aa (hJ jQ (pv 0) nQ (gD ah)) ag)))
   (ai (cQ 2 fU.nd (pc dO G aw (aa (ay bg (pv 1) ah) ag)))
   (ai (fq (pc dp G aw (aa (ay bg (pv 1) ah) ag)) (iR rfl (bF (gH 3 fU.nd) (bF (gH 4 fU.nd) gF))))
   (ai (cQ 5 fU.nd (ou MR ea (G.mono ar) (by rfl) dl eu .nil aw (aa (pv 3) (aa (pv 4) ag))))
   (ai (cQ 6 fU.nd eE)
   (ai (cA C4 rfl (mh (by rfl) T.range (aa (ay bD ah (ay bw (ay bg (pv 1) ah) ah)) ag)) (gH 7 fU.nd) (ai (aQ (pm (pv 5) TR.cl Ms G aw (aa (aM cu (pv 2) (pv 7) bX) ag)))
   (ao (fq eE (gr (pv 6) (aM cu (pv 2) (pv 7) bX) (set_dict (bN G)))))))
   (ai (cQ 8 fU.nd (bE ag))
   (ai (cA C4 rfl (Fy (by rfl) T.enumerate (aa (hJ jQ (pv 0) nQ (gD ah)) ag)) (iR rfl (bF (gH 7 fU.nd) (bF (gH 9 fU.nd) gF))) (ai (cQ 10 fU.nd (pc d6 G aw (aa (pc d7 G aw (aa (pv 9) (aa (pv 7) (aa (eF bM (ay bw (pv 1) ah) ah (aF _)) ag)))) (aa (pv 2) ag))))
   (ai (fq (pc d8 G aw (aa (pv 5) (aa (pv 10) ag))) (iR rfl (bF (gH 11 fU.nd) (bF (gH 12 fU.nd) gF))))
   (ai (bj (az bM (pv 12) aS (aF _)) (ao (aQ (pc K6 G aw (aa (pv 6) (aa (pv 10) (aa (pv 7) ag)))))) aI)
   (ai (bj (PW.pt (kA (az gT (pv 12) (bE (aa aS (aa aS ag))) (by with_unfolding_all rfl)) (jO (az eX (aM aK (pv 10) ah bX) (bE (aa aS (aa aS ag))) (by with_unfolding_all rfl))))) (ao (aJ gw)) aI)
   (ai (bj (PW.pt (kA (az bM (pv 12) aS (aF _)) (kA (az gT (aM aK (pv 10) ah bX) (bE (aa aS (aa aS ag))) (by with_unfolding_all rfl)) (jO (fP (cO (pc eD G aw (aa (pv 5) (aa (pv 10) ag))))))))) (ao (aJ gw)) aI)
   (ai (cQ 13 fU.nd (pc ej G aw (aa (pv 5) (aa (pv 6) ag))))
   (ai (bj (PW.pt (fJ (fP (cO (pc et G aw (aa (pv 13) (aa (pv 3) (aa (pv 4) ag)))))) (fN (fP (cO (pc E8 G aw (aa (pv 5) (aa (pv 13) (aa (pv 3) (aa (pv 4) ag)))))))))) (ao (aJ gw)) aI)
   (ai (bj (PW.pt (fJ (fP (cO (pc eo G aw (aa (pv 8) (aa (pv 13) (aa (pc dL G aw (aa (pv 13) (aa (pv 3) (aa (pv 4) ag)))) ag)))))) (fN (fP (cO (pc ez G aw (aa (pv 5) (aa (pv 6) ag)))))))) (ao (aJ gw)) aI)
   (ao (cQ 8 fU.nd (pv 13))))))))))))
   (ao (aJ (xI (pc d4 G aw (aa (pv 5) (aa (pv 6) (aa (ay bg (pv 1) ah) ag)))) (tJ (eF (y7 1 (PQ (QK (by decide:2<=64) _) G.units)) (lU (pv 5) TR.cl el G aw) (cI (aa (ay iq (bE (aa ah ag)) (pv 3)) (aa (ay iq (bE (aa ah ag)) (pv 4)) ag))) (aF _)))))))))))))),?_]
  show Ge λu9 e9 u8 e8 u7 e7 u6 e6 u5 e5 u4 e4 u3 e3 u2 e2=>?_;show gN λ_ J=>?_;let ec:kG (ns.map V.int) none (some (1:Int))=(ns.take 1).map V.int:=Rm.xT (s:=1);show#[0,0,sc,0,be,λp1 cP=>#[p1,ns.take 1,rfl,bq.of (by rw[ae,ec]),J _ _ (e2 _ _ _ ?_)]];clear J e2 u2;let s1:=au (X:=.lst (kG (ns.map V.int) none (some (1:Int)))) cP;generalize upd H p1 (.lst (kG (ns.map V.int) none (some (1:Int))))=H1 at *;generalize (ns.take 1).sum=m;clear ec cP;show gN λ_ J=>?_;show#[0,_,0,rfl,#[ar,ar],0,λk3 k4 H2 tl h3 fc h4 ee s2 eA cC=>J _ _ (e3 _ _ _ ?_)];clear J e3 u3;let dI:∀t∈[1,2,k3,k4],Lo t:=λt ht=>by
   simp only[se,DO,or_false]at ht;rw[Ej]at ee;show nZ (by rw[Ej];omega) (by rw[Ej];omega)
  show#[0,_,0,rfl,#[ar,ar],0,λnf nl I t3 f2 ft fn s3 ep c7=>#[t3,0,bL.of c7,5,0,_,0,rfl,e4 _ _ _ ?_]];clear e4 u4 c7 ep;let S3:=s1.trans (s2.trans s3);let c8:=s3 _ _ cC;clear s1 s2 s3 eA cC;show gN λ_ J=>?_;show#[0,0,λeH d3 bd ca d0=>#[eH,d3,nf,nl,rfl,af,af,af,ae,λR M1 a eN R1 c4 o4=>#[rfl,J _ _ (e5 _ _ _ ?_)]]];clear J e5 u5;subst eN;let s4:aR I R:=λb u e=>o4 b u (by rw[aj (av e bd),aj (av e ca)];show e) (av e bd);let g1:∀b,M1 b->I b=none:=λb z=>(St.di (St.di (c4 b z)).2).2;clear o4 c4 bd ca d0;intro pd a3;show e6 _ _ _ ?_;clear e6 u6;let U:=au (X:=.dK []) a3;let h5:upd R pd (.dK []) pd=some (.dK []):=ae;let R5:=R1.Cm (H':=upd R pd (.dK [])) (B:=λ_=>False) (M':=λb=>M1 b\/b=pd) (λb o e _=>U b o e) (λb z=>z.elim) (λb z=>z.elim) (λb z=>z.imp id λz=>by rw[z];show a3) (λb z _=>.inl z) (λb z=>by
   rcases z with z|z
   .show(R1.same U).mt b z
   .rw[z,h5];nofun)
  let pn:¬ a.own [] pd:=λz=>R1.mt pd (R1.eU _ z) a3;obtain⟨Kp,k1,k2,N⟩:∃Kp:Addr->HO->Prop,Kp tl (.lst ([1,2,k3,k4].map V.int))/\(∀o,H sc=some o->Kp sc o)/\∀x o,Kp x o->kC (upd R pd (.dK [])) (λb=>M1 b\/b=pd) x o:=by
   let al:∀x o,I x=some o->kC (upd R pd (.dK [])) (λb=>M1 b\/b=pd) x o:=λx o e=>#[U _ _ (s4 _ _ e),λz=>by
    rcases z with z|z
    .rw[g1 x z]at e;cases e
    .rw[z,s4.free a3]at e;cases e]
   show#[λy u=>(y=tl/\u=.lst ([1,2,k3,k4].map V.int))\/(y=sc/\H sc=some u),.inl #[1],λo h=>.inr #[rfl,h],λx o h=>?_];rcases h with⟨rfl,rfl⟩|⟨rfl,h⟩
   .show al _ _ c8
   .show al _ _ (S3 _ _ h)
  let Z5:Lz c (upd R pd (.dK [])) (λb=>M1 b\/b=pd) a (St.s0 nf nl) [] (λ_ _=>[]) pd []:=#[R5,St.Ko af,λt x h=>(nomatch h),#[h5,Pu,nofun,nofun,nofun,nofun],λx h=>by
   rcases h with rfl|⟨y,hy,_⟩
   .show#[.inr rfl,pn]
   .cases hy]
  clear R5 pn h5 U s4 g1 R1 c8 S3 a3;generalize (λb=>M1 b\/b=pd)=M5 at *;generalize upd R pd (.dK [])=H5 at *;clear M1 R I H2 H1;let w0:=OI (m/8) (show(2:Int)≠0 by decide);let w1:=Ol (m/8) (show(0:Int)<2 by decide);show#[0,_,0,rfl,#[ar,ar],_,0,rfl,Bz,_,0,rfl,0,af,af,?_];show jP (lo:=0) (n:=(1+m/8%2).toNat) (Ng c a pd Kp nf nl sc tl m) #[_,M5,_,[],_,[],rfl,Z5,#[λt=>#[λ_=>rfl,λ_=>rfl],λt q=>#[λ_=>rfl,λ_=>rfl],λt q e v h=>(nomatch h),λt q t' q' i i' v v' h=>(nomatch h)],OW,OW,t7 _,λt h=>absurd rfl h,N] ?_ ?_
  .clear Z5 N M5 H5;rintro j σ H2 hj ⟨v7,M,s2,W,cv,Pm,rfl,L,rl,lf,ls,lw,lo,kp⟩;let hj:j<2:=af;let c5:zz ([1,2,k3,k4].map V.int) (0+(j:Int))=some (.int (1+(j:Int))):=by
    match j,hj with
    |0,_=>rfl
    |1,_=>rfl
   let hn:look W (1+(j:Int))=none:=OO λz=>(by have:=lo _ z;omega);let bJ:=(rl.tk _).mp hn;let#[dx,ho]:=L.r.ob;show GJ λ_ J=>?_;show#[0,a.rp,dx,0,ho,St.dZ _ _ _ ak ak ak,0,0,tl,2,.int (1+(j:Int)),1,bq.of (kp _ _ k1).1,c5,M,a,s2,W,0,L.r,hn,af,λI M3 y hy R3 ch=>J _ _ ?_];clear J;let dj:St.Cv s2 (W++[(1+(j:Int),y)]) cv:=λt' x h q en he=>by
    rw[bZ t' hn]at h;cases z:t'=1+(j:Int)
    .rw[Wy z]at h;cases h;rwa[hy]at he
    .rw[Wx z]at h;show L.cw t' x h q en he
   let ek:Pg.RI s2 (St.ents (W++[(1+(j:Int),y)])):=(by rw[St.pq,hy];change Pg.RI s2 (St.ents W++[]);rw[QU];show L.ri);let L3:=L.step R3 ek dj ch;let cc:∀x o,Kp x o->kC I M3 x o:=λx o h=>(kp x o h).step L.r ch;clear L kp;intro e he;let q4:=au (X:=.dK []) he;show#[0,0,0,tl,2,.int (1+(j:Int)),1,bq.of (q4 _ _ (cc _ _ k1).1),c5,pd,0,gK.k (k:=.inl (1+(j:Int))) (q4 _ _ L3.d.hd) (by rw[dg];have:=(keys_perm R3.nd (yy L3.d.nd bJ) (rl.begin (r:=e) (OR _) hn hy).tk).length_eq;rw[qi,qi,y3,y3]at this;let e1:[(1+(j:Int),e,([]:List (Int×Int)))].length=1:=rfl;let e2:[(1+(j:Int),y)].length=1:=rfl;omega),?_];rw[show putK (dk gf Pm) (.inl (1+(j:Int))) (.ref e)=dk gf (Pm++[(1+(j:Int),e,[])])from dU (f:=gf) (a:=(e,[])) bJ];let off:Off (pw pd Pm) I (upd (upd I e (.dK [])) pd (.dK (dk gf (Pm++[(1+(j:Int),e,[])])))):=λb u eb n=>by
    rw[aj (λz=>n (.inl z)),aj (λz=>by rwa[z,he]at eb)];show eb
   let fr:∀x,pw pd (Pm++[(1+(j:Int),e,[])]) x->pw pd Pm x\/I x=none:=λx hx=>by
    rcases hx with hx|⟨y,hy,hx⟩
    .show .inl (.inl hx)
    .rcases t4.mp hy with hy|hy
     .show .inl (.inr #[y,hy,hx])
     .rw[qj.mp hy]at hx;show .inr (by rw[<-hx];show he)
   show#[2,s2,_,cv,0,L3.mapped (L3.d.add bJ he Pu) off fr,rl.begin (OR _) hn hy,lf,ls,by rw[y3];show RP lw,λt h=>?_,λx o h=>(cc x o h).mapped L3 off fr];rw[bZ t hn]at h;cases z:t=1+(j:Int)
   .omega
   .rw[Wx z]at h;have:=lo t h;omega
  .clear Z5 N M5 H5;rintro σ H2 ⟨v7,M,s2,W,cv,Pm,rfl,L,rl,lf,ls,lw,lo,kp⟩;show e7 _ _ _ ?_;show gN λ_ J=>?_;show#[GZ,λlb b0=>J _ _ (e8 _ _ _ ?_)];clear J e7 e8 u7 u8;let q3:=au (X:=.lst []) b0;let K3:kC (upd H2 lb (.lst [])) M lb (.lst []):=kC.new L.r b0;let L3:Ls c a pd nf nl Kp 0 (upd H2 lb (.lst [])) M s2 W cv Pm:=#[L.same q3,rl,lf,ls,af,λx o h=>(kp x o h).same q3];clear L rl kp lf ls lw lo q3 b0;generalize upd H2 lb (.lst [])=I at *;let ec:kG (ns.map V.int) none (some (63:Int))=(ns.take 63).map V.int:=Rm.xT (s:=63);show#[0,0,sc,0,Rm.gn be (λo h=>(L3.kp _ _ (k2 o h)).1),λp7 a6=>?_];rw[ec];obtain⟨Kq,q1,q7,L7⟩:∃Kq:Addr->HO->Prop,Kq tl (.lst ([1,2,k3,k4].map V.int))/\Kq p7 (.lst ((ns.take 63).map V.int))/\Ls c a pd nf nl Kq 0 (upd I p7 (.lst ((ns.take 63).map V.int))) M s2 W cv Pm:=by
    let q:=L3.same (au (X:=.lst ((ns.take 63).map V.int)) a6);show#[λy u=>Kp y u\/(y=p7/\u=.lst ((ns.take 63).map V.int)),.inl k1,.inr #[1],q.z,q.rl,q.lf,q.ls,q.lw,λx o h=>h.elim (q.kp x o) λh=>by rw[h.1,h.2];show kC.new L3.z.r a6]
   let B7:Bf s2 lb [] [] (upd I p7 (.lst ((ns.take 63).map V.int))) M:=#[K3.same (au a6),.nil,Oc _];clear L3 K3 a6 k1 k2 Kp ec be;generalize upd I p7 (.lst ((ns.take 63).map V.int))=R at *;let b8:((ns.take 63).map V.int).length<=63:=(by rw[qi,Oz];omega);show#[p7,rfl,#[_,bq.of (L7.kp _ _ q7).1],?_];show Br (K:=K) (a:=p7) (xs:=(ns.take 63).map V.int) (Np c a pd Kq nf nl sc tl m) #[2,2,2,M,s2,W,cv,Pm,lb,[],[],rfl,L7,B7,nofun] (λj σ R _ z0=>by let#[_,_,_,_,_,_,_,_,_,_,_,_,_,_,_,L4,_]:=z0;show bq.of (L4.kp _ _ q7).1) ?_ ?_
   .clear L7 B7 M s2 W cv Pm lb R I H2;rintro j x σ I T0 hx hT ⟨v7,v9,eC,as,dM,ba,M,s2,W,cv,Pm,lb,xb,rb,rfl,L0,B0,bm⟩;rw[vu]at hx;let#[ap,hc,rfl]:=t5.mp hx;let hj:j<63:=by
     have:=(qc.mp hc).1;rw[qi]at b8;omega
    clear hx hc b8;let b5:upd I T0 (.tup [.int (j:Int),.int ap]) T0=some (.tup [.int (j:Int),.int ap]):=ae;let sT:=au (X:=.tup [.int (j:Int),.int ap]) hT;let L:=L0.same sT;let B:=B0.same sT;clear L0 B0 hT sT;generalize upd I T0 (.tup [.int (j:Int),.int ap])=R at *;show#[T0,0,bL.of b5,5,0,_,0,4];clear b5;show MB (t:=cn _ _) λDe jn=>?_;show Ge λu9 e9 u8 e8 u7 e7 u6 e6 u5 e5 u4 e4 u3 e3 u2 e2=>?_;show gN λ_ J=>?_;show#[0,0,0,_,0,rfl,Bz,rfl,2,0,λnn=>#[0,nn,tl,[1,2,k3,k4],rfl,(L.kp _ _ q1).1,rfl,dI,λD H5 d U ei dn lg fw=>J _ _ (e2 _ _ _ ?_)]];clear J e2 u2;let dm:pS H5 M d D:=by
     cases D with
     |poke t ad cs=>let#[c,h1,h2,h3]:=dn;show#[c,h1,h2,λz=>L.z.r.mt c z h3]
     |_=>show dn
    let N:=L.same U;let B5:=B.same U;clear L B dn ei U R I;let tt:=N.mO;let bH:nf+nl<=1000:=af;let rest:∀as (wd:Str) (H':Hp),Af c a pd nf nl Kq j s2 lb xb rb d D wd H'->u4 De #v[.ref sc,.int m,.ref tl,.int nf,.int nl,.ref a.rp,.ref pd,.int (j:Int),.ref lb,.int ap,.ref d,as,.str wd,ba] H':=by
     rintro as wd H' ⟨M',s',W',cv',Pm',L,B,no,hd,me,nr⟩;clear N B5 dm lg fw bm tt;let Jj:=L.Jj;let cg:=L.lw;let hb:∀k b n,s'.pl k=some (b,n)->n<(if b=true then nf else nl):=λk b n h=>by
      let#[_,_,_,g2,_,_]:=L.z.ri.good.va _ _ _ h;let g3:=(qc.mp g2).1;cases b
      .rw[Wx ar, <-L.ls];show g3
      .rw[Wy rfl, <-L.lf];show g3
     let#[kr,hk]:=hd.kind;let a4:∀a5,aR H' a5->u6 De #v[.ref sc,.int m,.ref tl,.int nf,.int nl,.ref a.rp,.ref pd,.int (j:Int),.ref lb,.int ap,.ref d,as,.str wd,ba] a5:=by
      intro H8 s8;let L8:=L.same s8;let B8:=B.same s8;clear L B hd hk s8;show e6 _ _ _ ?_;show gN λ_ J=>?_;show#[0,0,M',a,s',W',pd,Pm',rfl,L8.z.r,L8.z.ri,L8.z.d,L8.z.sp pd (.inl rfl),L8.rl.tk,L8.rl.pg,L8.Lc bH,af,λH9 lp xp rp Y c0 b7 a7 am=>J _ _ (e7 _ _ _ ?_)];clear J;let L9:=L8.same Y;let B9:=B8.same Y;let Kl:kC H9 M' lp (.lst xp):=#[b7,λz=>L8.z.r.mt lp z c0];let c3:=L9.rl.rows am;let lx:xp.length<=1000000:=by
       rw[a7.ln];let h1:=am.perm.length_eq;rw[qi]at h1;let h4:=L9.z.ri.rm;rw[L9.lf,L9.ls]at h4;omega
      clear L8 B8 Y c0 b7;show gO λ_ ji O=>?_;show#[0,0,0,s',W',Pm',_,lp,xp,rp,nf,nl,rfl,Kl.1,a7,am,L9.rl,L9.z.ri.good,hb,lx,λci ab=>#[true,rfl,b9 ?_]];let aB:=L9.same ab;let cT:=B9.same ab;let bv:=Kl.same ab;let b3:=a7.keep λb xs z=>ab _ _ z;clear L9 B9 Kl a7;show#[0,0,0,0,M',a,s',W',Pm',lp,xp,rp,nf,nl,rfl,aB.z.r,bv.1,b3,am,c3,aB.z.ri,aB.lf,aB.ls,af,af,λfu bc=>#[true,rfl,O _ (e8 _ _ _ ?_)]];clear ji O;let a0:=aB.same bc;let cr:=cT.same bc;let bI:=bv.same bc;let b2:=b3.keep λb xs z=>bc _ _ z;clear aB cT bv b3;show gO λ_ ji O=>?_;show#[0,0,0,0,0,s',W',Pm',lp,xp,rp,nf,nl,rfl,bI.1,b2,am,c3,a0.z.ri,a0.lf,a0.ls,af,af,λfi po m1 m2 aT=>?_];let db:=a0.same aT.sm;let bb:=cr.same aT.sm;let bn:=bI.same aT.sm;let bx:=b2.keep λb xs z=>aT.sm _ _ z;clear a0 cr bI b2;show#[s2,s',lb,lp,po,m1,m2,xb,xp,rb,rp,rfl,bb.kb.1,bb.rb,bn.1,bx,aT.hp,aT.h1,bb.lx,λz=>no z rp λr G=>(am.mem r G).2,λfk b4=>#[true,rfl,b9 ?_]];let ac:=db.same b4;let ey:=bn.same b4;let fa:=bx.keep λb xs z=>b4 _ _ z;clear db bb bn bx;show#[0,0,M',a,s',W',pd,Pm',rfl,ac.z.r,ac.z.ri,ac.z.d,ac.z.sp pd (.inl rfl),ac.rl.tk,ac.rl.pg,ac.Lc bH,af,af,λfv b1=>#[true,rfl,O _ (e9 _ _ _ ?_)]];show#[0,jn _ _ #[2,2,2,M',s',W',cv',Pm',lp,xp,rp,rfl,ac.same b1,#[ey.same b1,fa.keep λb xs z=>b1 _ _ z,lx],λr G=>(am.mem r G).2]]
     let cz:∀a5,aR H' a5->u5 De #v[.ref sc,.int m,.ref tl,.int nf,.int nl,.ref a.rp,.ref pd,.int (j:Int),.ref lb,.int ap,.ref d,as,.str wd,ba] a5:=by
      intro H8 s8;show e5 _ _ _ ?_;show gO λ_ ji O=>?_;show#[0,rfl,0,?_];show dX (λcw=>?_) (λ_=>O _ (a4 _ s8));let w0:wd = "" := V.str.inj (of_decide_eq_true cw);show#[0,d,2,.str (kindOf D),1,bL.of (s8 _ _ hk),uQ,fG,λp hp=>#[p,0,.inl (bq.of ae),1,0,?_]];let Y:=s8.trans (au (X:=.lst [.str "peek",.str "poke"]) hp);clear s8 hp;show dX (λck=>?_) (λ_=>O _ (a4 _ Y));let L9:=L.same Y;let c2:fj (upd H8 p (.lst [.str "peek",.str "poke"])) d D:=by
       cases D with
       |poke t ad cs=>let#[c,h1,h2]:=hd;show#[c,Y _ _ h1,Y _ _ h2]
       |_=>show Y _ _ hd
      rcases FN ck with⟨t,ad,n,rfl⟩|⟨t,ad,cs,rfl⟩
      .show#[0,0,M',a,s',W',d,_,t,ad,n,rfl,L9.z.r,L9.z.ri,c2,.inl rfl,me w0 t ad n (.inl rfl),λci ab=>#[true,rfl,O _ (a4 _ (Y.trans ab))]]
      .show#[0,0,M',a,s',W',d,_,t,ad,0,L9.z.r,L9.z.ri,c2,.inr #[cs,1],me w0 t ad _ (.inr #[cs,1]),λci ab=>#[true,rfl,O _ (a4 _ (Y.trans ab))]]
     clear a4;show e4 _ _ _ ?_;show gO λ_ ji O=>?_;show#[0,fG,λp hp=>#[p,0,.inl (bq.of ae),1,0,?_]];let s8:=au (X:=.lst [.str "other",.str "NoRoom"]) hp;show dX (λcw=>?_) (λ_=>O _ (cz _ s8));let kk:=nr cw;show#[0,d,2,.str (kindOf D),1,bL.of (s8 _ _ hk),uQ,fG,λp2 dV=>#[p2,0,.inl (bq.of ae),1,0,?_]];let Y:=s8.trans (au (X:=.lst [.str "map",.str "copy"]) dV);let e0:(!Ay (.str (kindOf D)) [.str "map",.str "copy"])=false:=by
      rcases kk with z|z<;>rw[z]<;>decide +kernel
     change _;rw[e0];show O _ (cz _ Y)
    show#[0,0,M,a,s2,W,cv,d,D,rfl,N.z.r,N.z.ri,N.z.cw,by have:=N.lw;omega,by rw[tt];omega,dm.at_,lg,λX hX H6 T1 s6 t1=>?_,λH6 M6 s6 W6 fl T1 v R6 b6 c1 a8 em m6 dr t1=>?_]
    .show#[T1,0,bL.of t1,5,0,_,0,rfl,e3 _ _ _ ?_];show gO λ_ ji O=>?_;show#[0,rfl,0,?_];show jj (λcw=>absurd (V.str.inj (of_decide_eq_true cw)) (by cases X<;>(dsimp only[wordOf];decide +kernel))) (λ_=>O _ (rest _ _ _ (N.Lj B5 bm dm hX s6)))
    .show#[T1,0,bL.of t1,5,0,_,0,rfl,e3 _ _ _ ?_];show gO λ_ ji O=>?_;show#[0,rfl,0,ji _ ?_];let Z6:=N.z.step R6 b6 c1 a8;let eq:fj H6 d D:=dm.keep (λb xs z=>a8.off _ _ z (iH N.z.r z)) (λl xs z=>(z.step N.z.r a8).1);let Jj:=N.Jj;let cg:=N.lw;show#[0,0,0,pd,d,Pm,D,(j:Int),rfl,Z6.d,N.Lc bH,af,eq,N.rl.ok m6 fw,λH7 Pm' ew P7 o7 ev=>?_];show rest _ _ _ (N.good B5 bm dm R6 b6 c1 a8 em m6 dr ew P7 o7 ev)
   .clear L7 B7 M s2 W cv Pm lb R I H2;rintro σ I ⟨v7,v9,eC,as,dM,ba,M,s2,W,cv,Pm,lb,xb,rb,rfl,L,B,bm⟩;let Jj:=L.Jj;let cg:=L.lw;show e9 _ _ _ ?_;show#[0,0,0,_,0,rfl,#[ar,ar],M,a,s2,W,cv,pd,Pm,_,0,L.z,L.rl,L.Lc af,af,af,λH5 M5 U R5 d5 ef=>#[true,rfl,eg ?_]];let ow:∀b,U.ow b=replicate (s2.ow b).length 0:=λb=>(by rw[<-ef b, <-cnt_nil];show(Dl d5).symm);let o1:U.ow true=replicate nf 0:=(by rw[ow,L.lf]);let o2:U.ow false=replicate nl 0:=(by rw[ow,L.ls]);let#[dx,ho]:=id R5.ob;show#[0,a.rp,dx,0,ho,St.dZ _ _ _ ak ak ak,M5,a,U,[],rfl,R5,λH6 p6 l1 l2 C6=>?_];let h1:=C6.h1;let h2:=C6.h2;rw[o1]at h1;rw[o2]at h2;show#[ar,λa1 dH=>#[0,a1,_,0,rfl,ae,af,af,by rw[OC];omega,λm1 c6=>#[ar,λa2 da=>#[0,a2,_,0,rfl,ae,af,af,by rw[OC];omega,λm2 bf=>#[fG,λpt bz=>?_]]]]];let er:∀n:Nat,(replicate ((n:Nat):Int).toNat [V.int 0]).flatten=(replicate n (0:Int)).map V.int:=λn=>(by rw[OY,rep1,Sh]);rw[er nf]at bf bz da ⊢;rw[er nl]at bz ⊢;let bi:=au (X:=.lst [V.int 0]) dH;let ce:=au (X:=.lst ((replicate nf (0:Int)).map V.int)) c6;let bY:=au (X:=.lst [V.int 0]) da;let cS:=au (X:=.lst ((replicate nl (0:Int)).map V.int)) bf;let bl:=au (X:=.tup [.ref m1,.ref m2]) bz;let S:=bi.trans (ce.trans (bY.trans (cS.trans bl)));let f1:H6 m1=none:=bi.free c6;let f2:H6 m2=none:=bi.free (ce.free (bY.free bf));show#[p6,pt,_,0,rfl,bL.of (S _ _ C6.hp),bL.of ae,pH (λz=>by rwa[<-z,h1]at f1) (λz=>by rwa[<-z,h2]at f2) (S _ _ h1) (S _ _ h2) (bl _ _ (cS _ _ (bY _ _ ae))) (bl _ _ ae),k _]
end Pr
end
namespace Hd
open PySem PySem.W PyProof.Rows
def tI:List Obj->List Obj×List Obj
 | []=>([],[])
 | [a]=>([a],[])
 |a::b::r=>(a::(tI r).1,b::(tI r).2)
def build:Nat->List Obj->BT
 |0,_=>.nil
 |_+1,[]=>.nil
 |f+1,o::r=>.node o (build f (tI r).1) (build f (tI r).2)
def topT (tb:String->Option Builtin) (p:Program) (w:World) (m:Nat) (an:Option Value):Nat->SharedT->Thread->Option SharedT
 |0,_,_=>none
 |k+1,x,t=>match through t with
  |true=>some x
  |false=>match stepOk m an t with
   |false=>none
   |true=>match stepT (denote tb) p w x t with
    |some (y,u)=>topT tb p w m an k y u
    |none=>none
theorem topT_of {tb:String->Option Builtin}{p:Program}{w:World}{m:Nat}{an:Option Value}:∀{k:Nat}{x z:SharedT}{t:Thread},topT tb p w m an k x t=some z->topRun tb p w m an k x.abs t=some z.abs:=by
 intro k
 induction k with
 |zero=>intro x z t e;cases e
 |succ k F =>
  intro x z t e;unfold topT at e;unfold topRun;cases a:through t with
  |true=>rw[a]at e;cases e;rfl
  |false =>
   rw[a]at e;cases b:stepOk m an t with
   |false=>rw[b]at e;cases e
   |true =>
    rw[b]at e;cases c:stepT (denote tb) p w x t with
    |none=>rw[c]at e;cases e
    |some r =>
     obtain⟨y,u⟩:=r;rw[c]at e;rw[stepT_spec c];exact F e
def Cz (p q:Program) (loose:List Str) (z:Shared->Bool) (F:Bool) (h:Heap) (s:Shared):=
 (staticsOk (importedModules p.main.body) h s.heap&&namesBound p s.heap&&gensDone s&&laidKept h s.heap,openSeen q loose (importedModules p.main.body) z F s)
theorem Ew {p q:Program}{loose:List Str}{J:Shared->Bool}{α:Type}{L:Shared->α}{I:World->α}{N M m:Nat}{O:Bool}{H:Params->Heap}{T:Params->BT}{life:Life}{gs:Array GenState}{d:Drawn}{k:Nat}{an:Option Value}
  (R:∀w:World,(fencedOpening treeTable p w N).map (λs=>(s.heap,s.gens,s.drawn,s.toks))=some (H w.params,gs,d,k))
  (hT:∀P,absHeap (T P) m life=H P)
  (hS:∀w:World,((H w.params).isNs mainGlobals&&gs.size==0,(H w.params).objs.size,(H w.params).nsMap mainGlobals "__annotations__")=(true,m,an))
  (le:Nat.ble M N=true)
  (run:∀(w:World) (os:OsState),(topT treeTable p w m an M ⟨T w.params,m,life,gs,d,k,os⟩ (topStub p)).map (λs=>(Cz p q loose J O (H w.params) s.abs,L s.abs))=some ((true,openGood q loose),I w)) :
  LeftO p q loose J L I N O:=by
 intro w;obtain⟨s,a,b⟩:=Option.map_eq_some_iff.mp (R w);obtain⟨h,F,d',G,os⟩:=s;simp only[Prod.mk.injEq]at b;obtain⟨rfl,rfl,rfl,rfl⟩:=b;have z:=hS w;simp only[Prod.mk.injEq]at z;obtain⟨Y,z2,U⟩:=z;obtain⟨x,c,e⟩:=Option.map_eq_some_iff.mp (run w os);have r:=topT_of c;have ab:(SharedT.mk (T w.params) m life F d' G os).abs=⟨H w.params,F,d',G,os⟩:=by
  unfold SharedT.abs;rw[hT]
 rw[ab]at r;have r:=topRun_mono (N-M) _ _ _ _ r;rw[show M+(N-M)=N from Nat.add_sub_cancel' (Nat.le_of_ble_eq_true le)]at r;simp only[Cz,Prod.mk.injEq]at e;obtain⟨⟨S,e2⟩,e3⟩:=e;have t:topFrom treeTable p w N ⟨H w.params,F,d',G,os⟩=some x.abs:=by
  unfold topFrom;dsimp only;rw[Y,z2,U,r];simp only[bind_some,S]
 unfold openEnds;rw[a];simp only[bind_some,t,map_some,e2,e3]
theorem both {r:OpenRow}{q:Program}{loose:List Str}{d:DefRec}{z:List (Str×Expr)}{N:Nat}(H:Hook)
  (h1:defOf q r.name=some (d,z)) (h2:r.prog.theDef r.name=some (d.params,d.body,d.scope)) (F:kwWritten? d.params.kwonlyargs d.params.kw_defaults=some z) (G:(!r.writes||r.records.isEmpty)=true)
  (I:r.wellSaid=true) (J:(chainsOk q&&opensWell r.prog&&(frees r.toRowW&&r.within.isEmpty))=true) (O:r.prog.bare) (L:r.toRowW.promised)
  (h:LeftO r.prog q loose (λs=>xlAt q [] s&&recOk r.records s) H.obs H.val N/\WalkO q loose (XL q []) H.says r.toRowW d z λf vs=>PySem.call f vs):r.Holds :=
 holds_open h.1 H.of H.keeps (λs e=>xl_of s (Bool.and_eq_true_iff.mp e).1) XL.keeps h1 h2 F (λs e=>recFacts_of (Bool.and_eq_true_iff.mp e).2) G I J O L h.2
noncomputable def FT (P:Params):BT:=build 12 (boot_heap P).objs.toList
def q:Program:=PySem.W.view PySem.Challenge.pw_ownroom_k91_whole_counts_of_pages [56]
def loose:List Str:=[Str.ofString "_wall",Str.ofString "__name__",Str.ofString "KernelError",Str.ofString "ValueError",Str.ofString "NoOwner",Str.ofString "NoTask",Str.ofString "NoPage",Str.ofString "NoRoom",Str.ofString "Taken",Str.ofString "PAGE_CELLS",Str.ofString "Store",Str.ofString "lift",Str.ofString "settle",Str.ofString "Paging",Str.ofString "ROOM_PAGES",Str.ofString "room_of",Str.ofString "refuse_second_room",Str.ofString "refuse_above",Str.ofString "pages_from",Str.ofString "refuse_unmapped",Str.ofString "pages_to_map",Str.ofString "pages_to_drop",Str.ofString "pages_of_cells",Str.ofString "run_within",Str.ofString "pages_with",Str.ofString "STEP_PAGES",Str.ofString "own_copy",Str.ofString "Table",Str.ofString "BLANK",Str.ofString "Rooms",Str.ofString "_law_number",Str.ofString "_law_tasks",Str.ofString "_law_page",Str.ofString "_law_many",Str.ofString "_law_address",Str.ofString "_law_cells",Str.ofString "_law_deed",Str.ofString "_law_do",Str.ofString "_law_word",Str.ofString "_law_told",Str.ofString "_law_sizes",Str.ofString "_law_mapped",Str.ofString "_law_spot",Str.ofString "_law_places",Str.ofString "_law_standing",Str.ofString "_law_owners",Str.ofString "_law_counted",Str.ofString "_law_put_out",Str.ofString "_law_met",Str.ofString "_law_out",Str.ofString "_law_closed"]
local macro_rules | `(tactic| o_head $H) => `(tactic| refine Hd.both (q:=Hd.q) (loose:=Hd.loose) (N:=100000) $H (by rfl) (by rfl) (by rfl) (by rfl) (by assumption) ak ⟨rfl,rfl,rfl,rfl,rfl,ak⟩ ?$(Lean.mkIdent `hw):ident ?$(Lean.mkIdent `hc):ident)
open_top top for PySem.Challenge.rw_ownroom_k91_whole_counts_of_pages
def at_:List Addr:=[2,3,15,17,18,20,21,22,29,30,31,32,35,42,43,44,47,54,55,56,59,66,67,68,71,78,79,80,83,90,91,92,102,104,105,107,108,109,111,112,114,115,116,118,119,121,122,123,125,126,128,129,130,132,133,135,136,137,139,140,142,143,144,146,147,149,150,151,153,154,156,157,158,160,161,163,164,165,166,167,168,169,172,174,175,177,178,179,181,182,184,185,193,195,196,198,199,200,202,203,205,206,207,209,210,212,213,214,216,217,219,220,221,223,224,226,227,228,230,231,233,234,235,237,238,240,241,242,244,245,247,248,249,251,252,254,255,256,258,259,261,262,263,265,266,268,269,270,272,273,275,276,277,279,280,282,283,284,286,287,289,290,291,292,293,294,295,298,300,301,303,304,305,307,308,310,311,312,314,315,317,318,319,321,322,324,325,326,328,329,331,332,333,335,336,338,339,340,342,343,345,346,347,349,350,352,353,354,356,357,359,360,361,364,365,366,369,370,378,380,381,383,384,385,387,388,390,391,392,394,395,397,398,399,401,402,404,405,406,408,409,411,412,413,415,416,418,419,420,421,422,423,424,427,435,437,438,440,441,442,444,445,447,448,449,451,452,454,455,456,458,459,461,462,463,465,466,468,469,470,472,473,475,476,477,479,480,482,483,484,486,487,489,490,491,494,495,496,498,499,501,502,503,505,506,508,509,510,512,513,515,516,517,519,520,522,523,524,526,527,529,530,531,532,533,534,535,538,540,541,543,544,545,547,548,550,551,552,554,555,557,558,559,561,562,564,565,566,568,569,571,572,573,576,577,578,580,581,583,584,585,587,588,590,591,592,595,596,597,599,600,602,603,604,606,607,609,610,611,613,614,616,617,618,620,621,623,624,625,627,628,630,631,632,634,635,637,638,639,641,642,644,645,646,648,649,651,652,653,655,656,658,659,660,662,663,665,666,667,670,671,672,674,675,677,678,679,681,682,684,685]
noncomputable def lhs (w:World) (os:OsState):=
 (topT treeTable PySem.Challenge.pw_ownroom_k91_whole_counts_of_pages w 11 (some (.ref 6)) 100000 ⟨FT w.params,11, {},Array.mk [],boot_drawn,boot_toks,os⟩ (topStub PySem.Challenge.pw_ownroom_k91_whole_counts_of_pages)).map
  λs=>(Cz PySem.Challenge.pw_ownroom_k91_whole_counts_of_pages q loose (λs=>xlAt q [] s&&recOk PySem.Challenge.rw_ownroom_k91_whole_counts_of_pages.row.records s) true (boot_heap w.params) s.abs,at_.map s.abs.heap.get?)
noncomputable def MW (K:Frag):=some ((true,openGood q loose),K.map λp=>some p.2)
theorem lhs_self:lhs=lhs:=rfl
theorem Ds:MW=MW:=rfl
name_quick hdL for Hd.lhs by Hd.lhs_self
name_quick hdR for Hd.MW by Hd.Ds
noncomputable def rhs (w:World):=some ((true,openGood q loose),(Hd.top.heap_39 w.params).map λp=>some p.2)
theorem same_ (w:World) (os:OsState):PySem.W.Fast.hdL w os=PySem.W.Fast.hdR (Hd.top.heap_39 w.params):=by kernel_rfl
theorem run_ (w:World) (os:OsState):lhs w os=rhs w:=((congrFun (congrFun PySem.W.Fast.hdL_eq w) os).trans (same_ w os)).trans (congrFun PySem.W.Fast.hdR_eq (Hd.top.heap_39 w.params)).symm
end Hd
namespace Pr
open PySem L2
def Al:Nat->(List Value->Prop)->Prop
 |0,p=>p []
 |n+1,p=>∀a,Al n λl=>p (a::l)
theorem al:∀{n:Nat}{p:List Value->Prop},Al n p->∀us:List Value,us.length=n->p us
 |0,_,h,us,e=>by cases List.eq_nil_of_length_eq_zero e;exact h
 |n+1,_,h,us,e=>by
  cases us with
  |nil=>cases e
  |cons a us=>exact al (h a) us (Nat.succ.inj e)
inductive MI (K:DD) (C:Addr) (m q:Str) (st:N8) (ps:List Str):Prop
 |mk (f:Addr) (fd:qw) (_:cj K m q st f fd) (_:Binds K fd ps []) (_:Meth K C m f):MI K C m q st ps
inductive DI (K:DD) (x:Str) (st:N8) (ps:List Str):Prop
 |mk (f:Addr) (fd:qw) (_:cj K x x st f fd) (_:Binds K fd ps []) (_:Vm K Od x=some (some (.ref f))):DI K x st ps
section
variable {K:DD}{C f:Addr}{m q:Str}{st:N8}{ps:List Str}{od an:Option Addr}{sl:Array (Option Value)}{oc kV dc pm cd ct:Value}
theorem MI.of (a:OA K (.ref C) m=some (some (.ref f))) (i:isFn K (.ref f)=true) (l:K.lookup f=some ⟨oc,od,.func (Wc m q (gB st) (dD st) (aq st) .none kV dc pm an cd ct),sl⟩) (c:Wd K cd q=true) (k:RZ K (.ref f)=true)
  (b:∀kV F pm an z ct,Al ps.length λus=>Vy (Wc m q (gB st) (dD st) (aq st) .none kV F pm an z ct) ⟨us,[]⟩=pure (ps.zip us)):MI K C m q st ps :=
 ⟨_,_,tO l c k,(tO l c k).binds λ_ _ _ _ _ _=>al (b _ _ _ _ _ _),a,i,k⟩
theorem DI.of (a:Vm K Od m=some (some (.ref f))) (l:K.lookup f=some ⟨oc,od,.func (Wc m m (gB st) (dD st) (aq st) .none kV dc pm an cd ct),sl⟩) (c:Wd K cd m=true) (k:RZ K (.ref f)=true)
  (b:∀kV F pm an z ct,Al ps.length λus=>Vy (Wc m m (gB st) (dD st) (aq st) .none kV F pm an z ct) ⟨us,[]⟩=pure (ps.zip us)):DI K m st ps :=
 ⟨_,_,tO l c k,(tO l c k).binds λ_ _ _ _ _ _=>al (b _ _ _ _ _ _),a⟩
inductive CI (K:DD) (C:Addr) (x:Str):Prop
 |mk (_:Vm K Od x=some (some (.ref C))) (_:qI K C) (_:makesIn K C=true) (_:RZ K (.ref C)=true):CI K C x
end
inductive XI (K:DD) (C k:Addr) (a:St.XA) (i j m n:Bool):Prop
 |mk (_:excIn K C Ck "ValueError.__new__" = true) (_:PySem.W.AF K C) (_:exmOne K (.ref C) (.ref k)=some true) (_:PM K (.ref C) (.type "ValueError")=some true) (_:PM K (.ref C) (.ref a.nt)=some i) (_:PM K (.ref C) (.ref a.np)=some j) (_:PM K (.ref C) (.ref a.nr)=some m) (_:PM K (.ref C) (.ref a.tk)=some n):XI K C k a i j m n
theorem Kt {K:DD}{mg:Str->Option Value}{a b c d k:Addr}(A:XI K a k ⟨a,b,c,d⟩ true false false false) (B:XI K b k ⟨a,b,c,d⟩ false true false false) (C:XI K c k ⟨a,b,c,d⟩ false false true false) (D:XI K d k ⟨a,b,c,d⟩ false false false true) (I:mg "NoTask" = some (.ref a)) (e2:mg "NoPage" = some (.ref b)) (e3:mg "NoRoom" = some (.ref c)) (J:mg "Taken" = some (.ref d)) (z:mg "ValueError" = none):Nl K mg (j8 a b c d)/\∀X,exmOne K (.ref (j8 a b c d X)) (.ref k)=some true:=by
 obtain⟨a1,L,a3,G,N,a6,a7,a8⟩:=A;obtain⟨b1,S,b3,b4,b5,b6,b7,b8⟩:=B;obtain⟨c1,F,c3,c4,c5,c6,R,c8⟩:=C;obtain⟨d1,d2,O,d4,U,d6,d7,d8⟩:=D;refine⟨⟨λX=>?_,z,λX=>?_,λX=>?_,λX Y=>?_⟩,λX=>?_⟩
 .cases X<;>assumption
 .cases X<;>assumption
 .cases X<;>assumption
 .cases X<;>cases Y<;>assumption
 .cases X<;>assumption
theorem MI.md {P:tp}{w:By}{K:DD}{mg:Str->Option Value}{base:Heap}{CX:qP}{n:Nat}{C:Addr}{m q:Str}{st:N8}{ps:List Str}{sp:Sp}(h:MI K C m q st ps) (k:∀{f fd},cj K m q st f fd->aN P w K mg base CX n f fd ps sp):Md P w K mg base CX n C m sp:=by
 obtain⟨f,fd,F,b,M⟩:=h;exact Md.mk _ _ _ (k F) b M
theorem DI.df {P:tp}{w:By}{K:DD}{mg:Str->Option Value}{base H:Heap}{CX:qP}{n:Nat}{x:Str}{st:N8}{ps:List Str}{sp:Sp}(h:DI K x st ps) (X:K.In H) (G:H.Ns Od mg) (k:∀{f fd},cj K x x st f fd->aN P w K mg base CX n f fd ps sp):Df P w K mg base CX n x sp:=by
 obtain⟨f,fd,F,b,a⟩:=h;exact Df.mk _ _ _ (k F) b (PB X G a) F.kp
def NI (K:DD):List Str->Prop
 | []=>True
 |x::l=>Vm K Od x=some none/\NI K l
def AI (K:DD) (C:Addr):List Str->Prop
 | []=>True
 |x::l=>OA K (.ref C) x=some none/\AI K C l
theorem all_mk {l:Rz}{w:By}{K:DD}{h:Heap}{mg:Str->Option Value}{fa J z L I R S U O a0 aB:Addr}{io t8 t9:Wj}{b3:Value}{hd:Option Addr}{ft:Array (Option Value)}{a3:Array Value}{nB:Nat}(X:K.In h) (G:h.Ns Od mg) (hT:mg "law" = some (.ref fa)) :
  CI K J "Store" -> AI K J ["owners","contents"]->MI K J "__init__" "Store.__init__" St.pU ["self","many"]->MI K J "take" "Store.take" St.BA ["self"]->MI K J "less" "Store.less" St.Bv ["self","n"]->MI K J "more" "Store.more" St.BB ["self","n"]->MI K J "free" "Store.free" St.Eg ["self"]->MI K J "count" "Store.count" St.wX ["self","n"]->MI K J "cells" "Store.cells" St.yh ["self","n"]->MI K J "put" "Store.put" St.Hk ["self","n","cells"]->MI K J "refuse_free" "Store.refuse_free" St.tE ["self","n"]->CI K z "Paging" -> AI K z ["frames","slots","places","last_sheet","in_frames"]->MI K z "__init__" "Paging.__init__" St.yP ["self","frames","slots"]->MI K z "new_sheet" "Paging.new_sheet" St.mP ["self","cells"]->MI K z "share" "Paging.share" St.yD ["self","sheet"]->MI K z "leave" "Paging.leave" St.yK ["self","sheet"]->MI K z "cells" "Paging.cells" St.uk ["self","sheet"]->MI K z "change" "Paging.change" St.sY ["self","sheet","cells"]->MI K z "fetch" "Paging.fetch" St.xK ["self","sheet"]->MI K z "bring_in" "Paging.bring_in" St.oJ ["self","sheet","moved"]->MI K z "put_out" "Paging.put_out" St.ig ["self","sheet"]->MI K z "place" "Paging.place" St.xv ["self","sheet"]->MI K z "number_of" "Paging.number_of" St.mD ["self","sheet"]->MI K z "store_of" "Paging.store_of" St.qy ["self","sheet"]->MI K z "count" "Paging.count" St.uz ["self","sheet"]->MI K z "counts" "Paging.counts" Pr.oz ["self"]->CI K L "Table" -> AI K L ["first_step"]->MI K L "__init__" "Table.__init__" Tb.pU ["self"]->MI K L "get" "Table.get" Tb.I0 ["self","page"]->MI K L "lay" "Table.lay" Tb.II ["self","page","entry"]->MI K L "clear" "Table.clear" Tb.xJ ["self","page"]->MI K L "pages" "Table.pages" Tb.xC ["self"]->CI K I "Rooms" -> AI K I ["paging","total","rooms"]->MI K I "__init__" "Rooms.__init__" St.xg ["self","frames","slots"]->MI K I "begin" "Rooms.begin" St.nW ["self","task"]->MI K I "close" "Rooms.close" St.oq ["self","task"]->MI K I "map" "Rooms.map" St.zf ["self","task","page","many"]->MI K I "drop" "Rooms.drop" St.uD ["self","task","page","many"]->MI K I "peek" "Rooms.peek" St.uv ["self","task","address","many"]->MI K I "poke" "Rooms.poke" St.tq ["self","task","address","cells"]->MI K I "copy" "Rooms.copy" St.tj ["self","task","other"]->MI K I "held" "Rooms.held" St.yE ["self"]->MI K I "counts" "Rooms.counts" Pr.pP ["self"]->MI K I "place" "Rooms.place" St.uJ ["self","task","page"]->MI K I "leave_pages" "Rooms.leave_pages" St.ue ["self","table","pages"]->MI K I "cells_of" "Rooms.cells_of" St.sG ["self","entry"]->MI K I "sheet_with" "Rooms.sheet_with" St.sH ["self","entry","cells"]->DI K "lift" St.Cw ["store","n"]->DI K "settle" St.um ["store","moved"]->DI K "own_copy" Tb.zG ["value"]->DI K "room_of" St.nG ["rooms","task"]->DI K "refuse_second_room" St.oi ["rooms","task"]->DI K "refuse_above" St.sk ["held","total"]->DI K "pages_from" Rm.iD ["page","many"]->DI K "refuse_unmapped" Rm.jK ["mapped","pages"]->DI K "pages_to_map" Rm.tW ["mapped","page","many"]->DI K "pages_to_drop" Rm.nV ["mapped","page","many"]->DI K "pages_of_cells" Rm.lh ["mapped","address","many"]->DI K "run_within" Rm.tR ["whole","address","many"]->DI K "pages_with" Rm.BC ["whole","address","cells"]->DI K "_law_number" Pr.sj ["_law_cell","_law_k","_law_digits"]->DI K "_law_tasks" Pr.xN ["_law_cell"]->DI K "_law_page" Pr.Dm ["_law_rest"]->DI K "_law_many" Pr.B4 ["_law_rest"]->DI K "_law_address" Pr.p8 ["_law_rest"]->DI K "_law_cells" Pr.pG ["_law_rest"]->DI K "_law_deed" Pr.DX ["_law_number_here","_law_tasks_here"]->DI K "_law_do" Pr.LL ["_law_rooms","_law_deed_here"]->DI K "_law_word" Pr.iT ["_law_caught"]->DI K "_law_told" Pr.Cn ["_law_rooms","_law_deed_here"]->DI K "_law_sizes" Pr.xZ ["_law_first"]->DI K "_law_mapped" Pr.si ["_law_pages","_law_deed_here","_law_k"]->DI K "_law_spot" Pr.Bm ["_law_spot_here","_law_frames","_law_slots"]->DI K "_law_places" Pr.uh ["_law_rooms","_law_pages"]->DI K "_law_standing" Pr.mC ["_law_places_here","_law_frames","_law_slots"]->DI K "_law_owners" Pr.uA ["_law_places_here","_law_frames","_law_slots"]->DI K "_law_counted" Pr.oZ ["_law_rooms","_law_places_here","_law_frames","_law_slots"]->DI K "_law_put_out" Pr.ig ["_law_before","_law_places_here","_law_owners_here"]->DI K "_law_met" Pr.IU ["_law_rooms","_law_deed_here"]->DI K "_law_out" Pr.Ho ["_law_rooms","_law_pages"]->DI K "_law_closed" Pr.r6 ["_law_rooms","_law_pages","_law_cell"]->DI K "law" Pr.Gw ["_law_script"]->Vm K Od "ROOM_PAGES" = some (some (.int 64 io))->Vm K Od "PAGE_CELLS" = some (some (.int 8 t8))->Vm K Od "STEP_PAGES" = some (some (.int 8 t9))->NI K ["range","enumerate","sum","int","isinstance","min","max","list","len","dict","bool","tuple","sorted","all","any","zip","ValueError"]->Vm K Od "NoTask" = some (some (.ref R))->Vm K Od "NoPage" = some (some (.ref S))->Vm K Od "NoRoom" = some (some (.ref U))->Vm K Od "Taken" = some (some (.ref O))->Vm K Od "KernelError" = some (some (.ref a0))->XI K R a0 ⟨R,S,U,O⟩ true false false false->XI K S a0 ⟨R,S,U,O⟩ false true false false->XI K U a0 ⟨R,S,U,O⟩ false false true false->XI K O a0 ⟨R,S,U,O⟩ false false false true->Vm K Od "BLANK" = some (some (.ref aB))->K.lookup aB=some ⟨b3,hd,.seq a3 nB,ft⟩->b3=.type "tuple" -> Vals [V.str "blank"] a3.toList->a3.size<=1 ->
  ∃fd:qw,(∀(s:oR) (v:Value),Ua s fd ⟨[v],[]⟩ [("_law_script",v)])/\∀base:Heap,K.In base->base.Ns Od mg->aN l.prog w K mg base aU 13 fa fd ["_law_script"] (vx K):=by
 intro h0 h1 h2 h3 h4 h5 h6 h7 h8 h9 he kk hL ez hY g4 mr hq e7 ga g5 mb gd mn g0 hX k7 i3 ln ki im ii ev fy hP ms l6 iF k5 ib mN mw hF la ch fi jt mH fo ht hB i9 ek dH ei dl b6 et en c0 bx hM j1 me hy hk f5 ls fc i0 iN ey hf hO i8 l7 kQ f8 ka hH i1 k4 lW gm kl q0 q1 q2 f3 ci el eb ck f4 b5 dd d3 cz yB lB oB vB wB;obtain⟨kt,hc,hp,g6⟩:=h0;obtain⟨kE,hj,_⟩:=h1;obtain⟨f1,d1,F1,b1,M1⟩:=h2;obtain⟨hA,mB,fr,g8⟩:=kk;obtain⟨fl,e8,hu,hz,m0,_⟩:=hL;obtain⟨nz,m8,ko,je,dI⟩:=ez;obtain⟨c2,gl,c7,eo⟩:=i3;obtain⟨jp,_⟩:=ln;obtain⟨nn,ne,hR,dp,a6⟩:=ki;obtain⟨l4,kv,g7,hQ⟩:=hP;obtain⟨lr,it,hm,_⟩:=ms;obtain⟨nb,nk,g2,lz,bl⟩:=l6;obtain⟨m6,n5,b7,bm,ej⟩:=iF;obtain⟨nj,nt,cr,d0,ef⟩:=k5;obtain⟨n8,nr,d6,lA,ge⟩:=ib;obtain⟨na,ob,bI,fv,hh⟩:=mN;obtain⟨oh,ot,em,db,d7⟩:=mw;obtain⟨nL,nI,dL,hC,e9⟩:=hF;obtain⟨m1,op,b8,i5,k1⟩:=la;obtain⟨oA,m2,gs,k3,jf⟩:=id ch;obtain⟨oL,nP,dO,i4,lf⟩:=id dH;obtain⟨oD,nw,eq,fe,e6⟩:=id ei;obtain⟨ov,nS,d5,ia,iv⟩:=id dl;obtain⟨ns,nd,dm,e4,eu⟩:=id en;obtain⟨nq,om,bd,mt,kw⟩:=id c0;obtain⟨n7,oe,c9,hK,hb⟩:=id bx;obtain⟨on,og,dn,hD,mm⟩:=hk;obtain⟨n6,nM,dj,fk,k8⟩:=f5;obtain⟨n1,ni,bv,hr,i6⟩:=ls;obtain⟨nO,nT,c5,ik,l9⟩:=fc;obtain⟨ng,n2,c4,e1,eH⟩:=iN;obtain⟨oI,ol,dr,mu,kr⟩:=ey;obtain⟨m3,ji,ea,n9,lm⟩:=kl;obtain⟨d8,hS,be,il,bi,l0,nC,ap,a1,da,jr,b0,c3,nF,n3,eA,g9,_⟩:=f3;have e:=hT.symm.trans (PB X G lm);cases e;refine⟨ji,λs v=>?_,λbase _ _=>?_⟩
 .obtain⟨oc,od,kV,n0,pm,an,nR,ct,oF,rfl,lk,n4⟩:=ea.ex;exact .of_eq rfl
 have TS:St.Txt K mg J:=⟨hc,kE,hj,Of X G a1,Of X G ap,⟨_,PB X G q1,⟨_,rfl⟩⟩⟩;have TT:Tb.Txt K mg L:=⟨gl,jp,⟨_,PB X G q2,⟨_,rfl⟩⟩⟩;have TQ:Tb.Bw mg:=⟨Of X G bi,Of X G b0,Of X G ap,Of X G da,Of X G a1,Of X G c3⟩;have SX:Rm.xn mg:=⟨⟨_,PB X G q0,⟨_,rfl⟩⟩,⟨_,PB X G q1,⟨_,rfl⟩⟩,Of X G ap,Of X G d8,Of X G a1⟩;have TP:St.qF K mg z:=⟨mB,fl,e8,hu,hz,m0,Of X G ap⟩;have N:St.lT K mg ⟨I,z,J,L⟩:=⟨kv,lr,it,hm,⟨aB,PB X G yB,.inr ⟨_,a3,nB,lB,oB,rfl,le_trans wB ar,vB⟩⟩,⟨_,PB X G q1,⟨_,rfl⟩⟩,Of X G a1,Of X G be,Of X G eA⟩;have MT:Pr.lK mg:=⟨Of X G d8,Of X G hS,Of X G be,Of X G il,Of X G bi,Of X G l0,Of X G ap,Of X G a1,Of X G da,Of X G jr,Of X G c3,Of X G b0⟩;have k0:Rm.oH K mg "NoTask" R:=⟨PB X G ci,by obtain⟨h,_⟩:=b5;exact h⟩;have bc:Rm.oH K mg "NoPage" S:=⟨PB X G el,by obtain⟨h,_⟩:=dd;exact h⟩;have lw:Rm.oH K mg "NoRoom" U:=⟨PB X G eb,by obtain⟨h,_⟩:=d3;exact h⟩;have cc:Rm.oH K mg "Taken" O:=⟨PB X G ck,by obtain⟨h,_⟩:=cz;exact h⟩;have k9:=St.sX (P:=l.prog) (w:=w) (base:=base) F1 TS;have aT:=h7.md λF=>St.Bt (P:=l.prog) (w:=w) (base:=base) F TS;have a4:=he.md λF=>St.Ap F TS aT;have ce:=h4.md λF=>St.Fz F TS a4;have dM:=h8.md λF=>St.BH F TS a4;have cg:=h9.md λF=>St.Hr F TS a4;have cw:=h5.md λF=>St.FI F TS a4;have kd:=h3.md λF=>St.EA (P:=l.prog) (w:=w) (base:=base) F TS;have bz:=h6.md λF=>St.EC (P:=l.prog) (w:=w) (base:=base) F TS;have i2:=ek.df X G λF=>Tb.BX (P:=l.prog) (w:=w) (base:=base) F TQ;have GC:=ek.df X G λF=>Tb.Fe F TQ i2;have c1:=Tb.sX (P:=l.prog) (w:=w) (base:=base) hR TT;have as:=im.md λF=>Tb.Hs F TT GC;have a8:=ii.md λF=>Tb.IB F TT GC;have eD:=ev.md λF=>Tb.Eb (P:=l.prog) (w:=w) (base:=base) F TT TQ;have Y:=fy.md λF=>Tb.Bx (P:=l.prog) (w:=w) (base:=base) F TT TQ;have GP:=b6.df X G λF=>Rm.uK (P:=l.prog) (w:=w) (base:=base) F SX;have GU:=et.df X G λF=>Rm.vg (P:=l.prog) (w:=w) (base:=base) (mg:=mg) F;have GM:=en.df X G λF=>Rm.Bo F GP;have GD:=c0.df X G λF=>Rm.zJ F GP GU;have GO:=bx.df X G λF=>Rm.yA F SX GP GU;have ld:=hM.df X G λF=>Rm.Au (P:=l.prog) (w:=w) (base:=base) F SX;have hE:=j1.df X G λF=>Rm.FJ (P:=l.prog) (w:=w) (base:=base) F SX;have dV:=hB.df X G λF=>St.Fl F TS dM aT ce;have ee:=i9.df X G λF=>St.An F TS kd cg aT cw;have a5:=gd.md λF=>St.C8 (CS:=J) (P:=l.prog) (w:=w) (base:=base) F TP;have ac:=mn.md λF=>St.uW F TP a5;have a2:=g0.md λF=>St.yi F TP a5;have ml:=hX.md λF=>St.zV F TP TS a2 ac aT;have gt:=hq.md λF=>St.zH F TP TS a2 ac dM;have lc:=mb.md λF=>St.yf F TP dV ee ac;have b2:=g5.md λF=>St.vE F TP TS bz lc ee;have bf:=hY.md λF=>St.sS F TP TS bz b2;have d4:=ga.md λF=>St.Cj F TP a5 b2 dV;have fw:=g4.md λF=>St.Ei F TP TS a2 ac cw;have c8:=mr.md λF=>St.DL F TP TS a2 ac ce aT;have f7:=e7.md λF=>St.AG F TP TS ml bf c8 d4 ac cg;have ll:=St.DK ko TP ⟨hp,M1.at_,M1.fn,g6⟩ (PB X G kt) k9 b1;have ab:=dH.df X G λF=>St.zN (P:=l.prog) (w:=w) (base:=base) (mg:=mg) F;have GS:=ei.df X G λF=>St.AB (P:=l.prog) (w:=w) (base:=base) (mg:=mg) F;have GA:=dl.df X G λF=>St.DB (P:=l.prog) (w:=w) (base:=base) (mg:=mg) F;have ew:=St.Dq (c:=⟨I,z,J,L⟩) g2 N ⟨fr,dI.at_,dI.fn,g8⟩ (PB X G hA) ll je;have bb:=mH.md λF=>St.qK (c:=⟨I,z,J,L⟩) F N TT TP as eD c8;have c6:=fo.md λF=>St.yM (c:=⟨I,z,J,L⟩) F N TP gt;have fH:=ht.md λF=>St.tK (c:=⟨I,z,J,L⟩) F N TP bf f7;have ad:=ch.md λF=>St.vA (c:=⟨I,z,J,L⟩) F N TT Y;have j2:=St.E3 (P:=l.prog) (w:=w) (base:=base) (c:=⟨I,z,J,L⟩) bI N TT ab GD Y bb;have ca:=St.zZ (P:=l.prog) (w:=w) (base:=base) (c:=⟨I,z,J,L⟩) cr N TT ab Y bb;have bH:=St.Ab (P:=l.prog) (w:=w) (base:=base) (c:=⟨I,z,J,L⟩) b7 N ⟨c7,a6.at_,a6.fn,eo⟩ (PB X G c2) GS c1 dp;have eN:=St.Ex (P:=l.prog) (w:=w) (base:=base) (c:=⟨I,z,J,L⟩) d6 N TT ab GM GA Y ad a8;have bJ:=St.C0 (P:=l.prog) (w:=w) (base:=base) (c:=⟨I,z,J,L⟩) em N TT TP ab GO ld Y as d4 c6;have e0:=St.Dk (P:=l.prog) (w:=w) (base:=base) (c:=⟨I,z,J,L⟩) dL N TT ab GO hE Y as a8 c6 fH;have hW:=St.Dn (P:=l.prog) (w:=w) (base:=base) (c:=⟨I,z,J,L⟩) b8 N TT TP ⟨c7,a6.at_,a6.fn,eo⟩ (PB X G c2) ab GS GA c1 dp Y ad as a8 fw;have mp:=St.vA (P:=l.prog) (w:=w) (base:=base) (c:=⟨I,z,J,L⟩) gs N TT Y;have a7:=b6.df X G λF=>Rm.qM (P:=l.prog) (w:=w) (base:=base) F SX bc;have bY:=et.df X G λF=>Rm.sV (P:=l.prog) (w:=w) (base:=base) F bc;have fu:=Rm.Ae dm cc GP a7;have ha:=Df.mk _ _ _ fu e4 (PB X G eu) dm.kp;have fD:=Rm.xj bd GP a7 bY;have lp:=Df.mk _ _ _ fD mt (PB X G kw) bd.kp;have jn:=Rm.vc c9 SX bc GP a7 bY;have ec:=Df.mk _ _ _ jn hK (PB X G hb) c9.kp;have f2:=St.yr (P:=l.prog) (w:=w) (base:=base) dO k0;have am:=Df.mk _ _ _ f2 i4 (PB X G lf) dO.kp;have fI:=St.xy (P:=l.prog) (w:=w) (base:=base) eq cc;have er:=Df.mk _ _ _ fI fe (PB X G e6) eq.kp;have fx:=St.zY (P:=l.prog) (w:=w) (base:=base) d5 lw;have ep:=Df.mk _ _ _ fx ia (PB X G iv) d5.kp;have g1:=St.xX (c:=⟨I,z,J,L⟩) (xa:=Pr.kN (Pr.j8 R S U O)) b7 N er;have lP:=St.wO (c:=⟨I,z,J,L⟩) (xa:=Pr.kN (Pr.j8 R S U O)) cr N am;have i7:=St.DP (c:=⟨I,z,J,L⟩) (xa:=Pr.kN (Pr.j8 R S U O)) d6 N TT am ab GM ha ep Y ad;have gb:=St.AH (c:=⟨I,z,J,L⟩) (xa:=Pr.kN (Pr.j8 R S U O)) bI N TT am ab lp Y bb;have mv:=St.AQ (c:=⟨I,z,J,L⟩) (xa:=Pr.kN (Pr.j8 R S U O)) b8 N TT am ab er GS ep Y ad;have hw:=St.Ao (c:=⟨I,z,J,L⟩) (xa:=Pr.kN (Pr.j8 R S U O)) em N TT am ab ec Y;have e5:=St.AM (c:=⟨I,z,J,L⟩) (xa:=Pr.kN (Pr.j8 R S U O)) dL N TT am ab ec Y
 let KR:Pr.KO l.prog w K mg base ⟨I,z,J,L⟩ (Pr.j8 R S U O):=⟨_,_,_,_,_,_,_,_,_,_,_,_,_,_,_,_,N.cl,(bH.cx.mono ar).or (g1.mono ar),bm,ej,(ca.cx.mono ar).or (lP.mono ar),d0,ef,(eN.cx.mono ar).or (i7.mono ar),lA,ge,(j2.cx.mono ar).or (gb.mono ar),fv,hh,(bJ.cx.mono ar).or (hw.mono ar),db,d7,(e0.cx.mono ar).or (e5.mono ar),hC,e9,(hW.cx.mono ar).or (mv.mono ar),i5,k1,mp,k3,jf⟩
 have ba:=jt.md λF=>St.AR (c:=⟨I,z,J,L⟩) F N TT TP ab as a5;have lv:=k7.md λF=>Pr.xG (P:=l.prog) (w:=w) (base:=base) F TP TS;have bn:=fi.md λF=>Pr.yJ (c:=⟨I,z,J,L⟩) F N TP lv;have hN:=Md.mk _ _ _ bH bm ej;have hl:=Md.mk _ _ _ bJ db d7;have l5:=Md.mk _ _ _ ca d0 ef;obtain⟨OT,eC⟩:=Pr.Kt b5 dd d3 cz (PB X G ci) (PB X G el) (PB X G eb) (PB X G ck) (Of X G g9);have l3:=me.df X G λF=>Pr.zW (P:=l.prog) (w:=w) (base:=base) (mg:=mg) F;have ih:=hy.df X G λF=>Pr.Bs (P:=l.prog) (w:=w) (base:=base) (mg:=mg) F;have hn:=Pr.Fx (P:=l.prog) (w:=w) (base:=base) (mg:=mg) dn;have fW:=Pr.FL (P:=l.prog) (w:=w) (base:=base) (mg:=mg) dj;have g3:=Pr.xt (P:=l.prog) (w:=w) (base:=base) (mg:=mg) bv;have f0:=Pr.yd (P:=l.prog) (w:=w) (base:=base) c5 MT;have lx:=i0.df X G λF=>Pr.EN F MT hn ⟨PB X G mm,dn.kp,hD⟩ fW ⟨PB X G k8,dj.kp,fk⟩ g3 ⟨PB X G i6,bv.kp,hr⟩ f0 ⟨PB X G l9,c5.kp,ik⟩;have j3:=Pr.GV c4 KR;have e3:=λhx:Addr=>Pr.EB (e:=hx) (P:=l.prog) (w:=w) (base:=base) dr MT OT;have hg:=hf.df X G λF=>Pr.CZ F (PB X G f4) eC j3 ⟨PB X G eH,c4.kp,e1⟩ e3 ⟨PB X G kr,dr.kp,mu⟩;have e2:=hO.df X G λF=>Pr.D9 (P:=l.prog) (w:=w) (base:=base) (mg:=mg) F;have K6:=i8.df X G λF=>Pr.Ax (P:=l.prog) (w:=w) (base:=base) F MT;have hv:=l7.df X G λF=>Pr.E6 (P:=l.prog) (w:=w) (base:=base) F MT;have fT:=kQ.df X G λF=>Pr.AV F MT N ba;have hI:=f8.df X G λF=>Pr.vF F MT hv;have b4:=ka.df X G λF=>Pr.AK (P:=l.prog) (w:=w) (base:=base) F MT;have E8:=hH.df X G λF=>Pr.ya F MT N b4 bn;have ho:=i1.df X G λF=>Pr.Aw (P:=l.prog) (w:=w) (base:=base) (mg:=mg) F;have k6:=k4.df X G λF=>Pr.IV F MT N ba;have kn:=lW.df X G λF=>Pr.IS F MT N ba ad;have k2:=gm.df X G λF=>Pr.AA F MT N hl l5 ad;exact Pr.HD ea MT N ⟨g7,bl.at_,bl.fn,hQ⟩ (PB X G l4) ew lz ih e2 l3 lx hg hN bn K6 k6 fT hI E8 ho b4 kn k2
theorem walk {l:Rz}{q:tp}{loose:List Str}{XP:(Str->Option Value)->Heap->Prop}{G:By->Heap->Prop}{d:DefRec}{K:Params->DD}(R:l.most=some 63) (L:d.params.defaults=[])
  (J:∀(w:By) (h:Heap),G w h->(K w.params).In h)
  (F:∀(w:By) (mg:Str->Option Value) (I:Addr) (h:Heap),(K w.params).In h->h.Ns Od mg->mg d.name=some (.ref I) ->
   ∃fd:qw,(∀(s:oR) (u:Value),Ua s fd ⟨[u],[]⟩ [("_law_script",u)])/\∀base:Heap,(K w.params).In base->base.Ns Od mg->aN l.prog w (K w.params) mg base aU 13 I fd ["_law_script"] (vx (K w.params))) :
  Vp q loose XP G l.row.toRowW d [] (λf vs=>VE f vs):=
 L2.Fd (n:=63) (k:=13) (x := "_law_script") (CX:=λ_=>aU) (sp:=λw=>vx (K w.params)) R ar L ⟨rfl,ar,ar⟩ J F (λ_ _ a ns O _ N=>⟨a,ns,rfl,N,O,λ_=>rfl⟩) λ_ _ _ _ _ z=>z
end Pr
open PySem PySem.W PyProof.Rows
theorem PySem.Challenge.cw_ownroom_k91_whole_counts_of_pages_holds : PySem.Challenge.rw_ownroom_k91_whole_counts_of_pages.Holds := by
 refine Hd.top ⟨Hd.Ew (H:=boot_heap) (T:=Hd.FT) (life:={}) (m:=11) (M:=100000) (gs:=Array.mk []) (d:=boot_drawn) (k:=boot_toks) (an:=some (.ref 6)) (boot_open (by kernel_rfl) ar (λs=>by kernel_rfl)) (λP=>by kernel_rfl) (λw=>by kernel_rfl) ar (λw os=>Hd.run_ w os),?_⟩
 k_fill
 refine Pr.walk (l:=PySem.Challenge.rw_ownroom_k91_whole_counts_of_pages) rfl rfl (λw h Y=>PySem.W.kIn_of Y) ?F
 case F =>
  intro w mg fa h KX G hmg;apply Pr.all_mk KX G hmg
  all_goals first
   |(apply Pr.MI.of<;>first|k_is|(first|exact λ_ _ _ _ _ _ _=>rfl|exact λ_ _ _ _ _ _ _ _=>rfl|exact λ_ _ _ _ _ _ _ _ _=>rfl|exact λ_ _ _ _ _ _ _ _ _ _=>rfl|exact λ_ _ _ _ _ _ _ _ _ _ _=>rfl))
   |(apply Pr.DI.of<;>first|k_is|(first|exact λ_ _ _ _ _ _ _=>rfl|exact λ_ _ _ _ _ _ _ _=>rfl|exact λ_ _ _ _ _ _ _ _ _=>rfl|exact λ_ _ _ _ _ _ _ _ _ _=>rfl|exact λ_ _ _ _ _ _ _ _ _ _ _=>rfl))
   |(apply Pr.CI.mk;k_is;(constructor<;>k_is);k_is;k_is)
   |(unfold Pr.NI;repeat' first|apply And.intro|exact trivial|k_is|unfold Pr.NI)
   |(unfold Pr.AI;repeat' first|apply And.intro|exact trivial|k_is|unfold Pr.AI)
   |(apply Pr.XI.mk<;>first|k_exc|kts_exm|kit_is|(constructor<;>k_is))
   |k_is|rfl|exact .cons ⟨_,rfl⟩ .nil|exact le_refl 1
