import PyProof.Rows.All
import Wide.All
import OpenK.AllK
import Wide.FinOn
import Lean
import PyProof.EqAt
import PyProof.EqKinds
import PyProof.TupleCall
import PySem.Challenge.RW_ownroom_k90_whole_paged_as_plain
inductive JB {α β:Type}(p:α->β->Prop):Prop
 |mk (x0:α) (x1:β) (_:p x0 x1):JB p
inductive Nf {α β γ:Type}(p:α->β->γ->Prop):Prop
 |mk (x0:α) (x1:β) (x2:γ) (_:p x0 x1 x2):Nf p
inductive LH {α β γ δ:Type}(p:α->β->γ->δ->Prop):Prop
 |mk (x0:α) (x1:β) (x2:γ) (x3:δ) (_:p x0 x1 x2 x3):LH p
inductive FT {α β γ δ ε:Type}(p:α->β->γ->δ->ε->Prop):Prop
 |mk (x0:α) (x1:β) (x2:γ) (x3:δ) (x4:ε) (_:p x0 x1 x2 x3 x4):FT p
inductive Lc {α β γ δ ε ζ:Type}(p:α->β->γ->δ->ε->ζ->Prop):Prop
 |mk (x0:α) (x1:β) (x2:γ) (x3:δ) (x4:ε) (x5:ζ) (_:p x0 x1 x2 x3 x4 x5):Lc p
inductive vy (A0 A1 A2:Prop):Prop
 |mk (_:A0) (_:A1) (_:A2):vy A0 A1 A2
inductive MQ (A0 A1 A2 A3:Prop):Prop
 |mk (_:A0) (_:A1) (_:A2) (_:A3):MQ A0 A1 A2 A3
inductive Jw (A0 A1 A2 A3 A4:Prop):Prop
 |mk (_:A0) (_:A1) (_:A2) (_:A3) (_:A4):Jw A0 A1 A2 A3 A4
inductive EI (A0 A1 A2 A3 A4 A5:Prop):Prop
 |mk (_:A0) (_:A1) (_:A2) (_:A3) (_:A4) (_:A5):EI A0 A1 A2 A3 A4 A5
inductive Ng (A0 A1 A2 A3 A4 A5 A6:Prop):Prop
 |mk (_:A0) (_:A1) (_:A2) (_:A3) (_:A4) (_:A5) (_:A6):Ng A0 A1 A2 A3 A4 A5 A6
inductive Lw (A0 A1 A2 A3 A4 A5 A6 A7:Prop):Prop
 |mk (_:A0) (_:A1) (_:A2) (_:A3) (_:A4) (_:A5) (_:A6) (_:A7):Lw A0 A1 A2 A3 A4 A5 A6 A7
inductive JW (A0 A1 A2 A3 A4 A5 A6 A7 A8 A9 A10:Prop):Prop
 |mk (_:A0) (_:A1) (_:A2) (_:A3) (_:A4) (_:A5) (_:A6) (_:A7) (_:A8) (_:A9) (_:A10):JW A0 A1 A2 A3 A4 A5 A6 A7 A8 A9 A10
inductive JK (A0 A1 A2 A3 A4 A5 A6 A7 A8 A9 A10 A11 A12:Prop):Prop
 |mk (_:A0) (_:A1) (_:A2) (_:A3) (_:A4) (_:A5) (_:A6) (_:A7) (_:A8) (_:A9) (_:A10) (_:A11) (_:A12):JK A0 A1 A2 A3 A4 A5 A6 A7 A8 A9 A10 A11 A12
theorem cB {α z F:Sort _}{f:α->z->F}(a:α) (b:z):f a b=f a b:=rfl
theorem yq:1<=PySem.sizeLine:=by(decide)
theorem gF:2<=PySem.sizeLine:=by(decide)
theorem Lb:3<=PySem.sizeLine:=by(decide)
theorem mV:4<=PySem.sizeLine:=by(decide)
theorem KS:5<=PySem.sizeLine:=by(decide)
theorem MC:6<=PySem.sizeLine:=by(decide)
theorem EC:(0:Int)<2:=by(decide)
theorem Iv:(0:Int)<3:=by(decide)
theorem Dk:(0:Int)<4:=by(decide)
theorem IH:(0:Int)<8:=by(decide)
set_option compiler.extract_closed false
set_option Elab.async false
set_option linter.all false
set_option genSizeOf false
set_option genInjectivity false
set_option tactic.hygienic false
set_option maxRecDepth 100000
open PySem.W (Frag)
set_option maxHeartbeats 0
local macro_rules | `(tactic| omega) => `(tactic| lia)
theorem ak {p:Prop}(h:p:=by decide +kernel):p:=h
theorem aq {p:Prop}(h:p:=by decide):p:=h
theorem af {p:Prop}(h:p:=by omega):p:=h
open PySem.W (instObj hideAll_get lookIn handedIn isFn plainOver takerIn makesIn emptyDict kitx_list kitx_tuple kitx_dict callWith_K0 codeRec_of excIn kdl_dict)
open List (replicate map_nil all_cons foldl map_set filter)
open Nat (le_refl)
open Option (getD_none bind_some map_some)
open Array (toList)
open PySem
open _root_.PySem renaming Shared->se,wpAny_bind->tp,FuncData->t7,Program->vu,sizeLine_eq->HC,World->Oe,Around->Ov,Stmt->OB,Expr->OE,mainGlobals->OG,wpAny_mono->OL,bootBuiltins->OO,wpAny_passesOwn->Pm,Spec->Pw,compareOp->Px,mem_of_lookup->PU,wpAny_Call_Name_kw->PZ,wpAny_holding->P5,wpAny_execs_nil->Qa,tupleKind_room_in1->Qn,wpAny_truthy_bool->Qr,sysModules->Qu,Builtin->Qw,keywordEach->Qy,wpAny_field->QB,wpAny_rule->QC,call_meets->QD,foldedSetIterable->QO,lookup_relabel_local->QT,codeAny->QV,codeAny_mono->QW,Pos->Q5,wpAny_standAt->Q6,attributeBase->Q7,IsRangeIter->Rk,sliceBounds->Rn,holding->Rp,wpAny_pyNext_list_item->Rq,cLine->Rr,call_meetsIn->Ry,wpAny_Call_method->Rz,wpAny_execs_cons->RF,swapsWith->RG,getMethod->RH,wpAny_call->RK,behindInMarks->RS,wpAny_attempt->RV,Scope->RY,binaryOp->RZ,backToKw->Sa,codeAny_call_builtin->Sf,letOwnedTupleGo->Sg,tupleKind->Sq,assignEach->Ss,wpAny_pyIter_range->Sv,wpAny_newFunctionEnv_cells->SA,Env->SN,Model->SS,wpAny_assign_Name->SU,seqIndex_of->SV,wpAny_comprehension_free->Tf,wpAny_call_entry->Tq,compEnvC->Tr,wpAny_callSpecial?_slot->Tz,standAt->TB,wpAny_pyNext_range_end->TC,wpAny_pyIter_rangeiter->TF,wpAny_getItem_list_neg->TL,codeAny_compStart_list->TV,wpAny_noteFrame_againW->TY,valueAt->TZ,wpAny_isTrue_Compare1->Ua,wpAny_pyIter_listiter->Ub,codeAny_call_function->Ue,recursionLimit->Um,callWith->Uo,subscripted->Ur,wpAny_newFunctionEnv->Uw,underTheClaimsCaller->Ux,getItem->UB,BindsTo->UC,Keyword->UD,callerA->UE,codeAny_forLoop_any->UH,assignInOrder->UJ,rangeSize_one->UK,frameOf->UN,typeOf->UQ,slot_listiter_next->UW,Within->UY,GenState->UZ,wpAny_Return_some->U0,Operator->U1,wpAny_Assign_Name->U3,bindName->U4,wpAny_pyIter_list->U6,slot_list_getitem->Va,entryPlaceOf->Vg,wpAny_pyIter_enum->Vh,PassesOwn->Vk,rawInt->Vl,cellsFrom->Vm,checkBuiltinCall->Vp,wpAny_pyIter_zip->Vq,wpAny_isInstance->Vt,list_append->Vy,atKey->VA,spliced->VH,builtinsNs->VN,wpAny_Name->VP,Result->VS,bindArgs->VT,bindL->VU,bindC->VV,typeLookup->VW,typeIs_int->VY,call->V0,small_one->Wq,wpAny_For->Wr,seqIndex?->Wt,field->Wu,setItem->Ww,pyIter->Wx,CmpOp->WG,Tok->WQ
open _root_.List renaming getElem?_eq_some_iff->sN,length_map->ti,mem_singleton->t6,mem_cons->vr,mem_append->By,size_toArray->BY,mem_of_getElem?->NC,getElem?_map->Od,mem_append_right->Of,not_mem_nil->Oh,length_append->Oj,mem_map->Ol,nodup_cons->Oo,length_cons->Oq,map_append->Ou,length_take->Oz,mem_cons_self->OF,mem_cons_of_mem->OH,getElem?_set_ne->OI,pairwise_append->OM,getElem?_eq_getElem->ON,append_assoc->OP,getElem?_set_self->OR,map_congr_left->OV,take_add_one->OY,take_of_length_le->O8,length_set->Pa,mem_append_left->Pc,length_eq_zero_iff->Pd,nodup_append->Pf,take_length->Ph,nodup_nil->Pk,map_map->Pt,length_singleton->Pu,idxOf_lt_length_iff->Pz,mem_filter->PB,length_replicate->PF,mem_reverse->PK,all_eq_true->PL,map_cons->PN,replicate_succ->PQ,filter_cons->PV,pairwise_iff_getElem->PX,take_append_drop->P1,count_pos_iff->P2,length_drop->P7,mem_iff_getElem->P8,drop_eq_getElem_cons->P9,length_range->Qg,getElem?_append_right->Qk,getElem?_append_left->Qp,extract_eq_take_drop->Qq,getElem_mem->Qt,sum_cons->Qx,length->Qz,drop_eq_nil_of_le->QL,erase_of_not_mem->QN,pairwise_map->QR,append_nil->QS,take_sublist->QX,flatten_cons->QY,perm_append_comm->Q0,getElem_take->Q3,range->Rj,lookup->Rl,drop_sublist->Rw,reverse_append->Rx,getElem_of_mem->RB,filter_sublist->RC,eraseIdxIfInBounds_toArray->RD,length_filter_le->RE,find?_cons->RN,mem_flatMap->RP,mem_of_mem_take->Sd,mem_of_mem_drop->Se,filterMap_cons->Sk,flatMap_append->Sl,mem_range->Sr,mem_filterMap->Sw,getElem_idxOf->SH,filter_eq_self->SK,perm_ext_iff_of_nodup->SM,mem_or_eq_of_mem_set->SR,nodup_range->Tw,getElem_map->Tx,of_mem_zip->TH,count_cons_of_ne->Uk,getElem_inj->Ul,any_cons->Us,reverse_reverse->Uv,getElem?_of_mem->Uz,flatten_append->UI,map_replicate->UT,count_eq_zero->UU,mem_replicate->UX,getElem_drop->Vc,ext_getElem?->Vf,set_set->Vi,foldl_append->Vj,take_zero->Vo,getElem_set->Vs,foldl_cons->VB,length_nil->VC,nil_append->VZ,drop_drop->V3,drop_zero->V4,filter_map->Wa,take_succ->Wb,map_take->Wd,map_drop->Wn,all_map->WB,set->WN,map_id->WO
open _root_.PyProof.Rows renaming wpS_bind->vh,wpS_pure->vl,arrOf->Og,Keyed->Oi,pendingOf->OA,SortSt->OU,wpS_forRange->OX,callWith_type1->Pq,wpS_mono->PY,numOf->QA,wpS_modify->QF,oneType'->Q9,failedOf->Ra,wpS_get->Ru,envOfC->RM,IntsAre->RU,AllBare->Sm,assignInOrder_cons->Su,wpS_lift->To,subscriptTail_builtinR->TK,pairsOf->TN,pairsOf_size->TU,subscriptTail->UL,listUpdate_at->UM,assignInOrder_nil->U2,seqEpoch_at->Vz,iadd_int->VI,K_congr->VL,boot_range->VQ,Subscript_->VX,mirror->V2,isInt_at->V8,wpS->WE,stC->WK,isInt->WM
open _root_.Option renaming map_eq_some_iff->wh,isSome_iff_exists->Qv,bind_some->RO,map_eq_none_iff->T8,isSome_map->V9,none->WJ
open _root_.Option.some renaming inj->DD
open _root_.Ne renaming symm->D0
open _root_.Nat renaming le_refl->G0,le_trans->Oy,lt_of_lt_of_le->OD,zero_le->OJ,le_of_not_lt->O0,ne_of_lt->Pb,lt_of_le_of_ne->Pn,lt_irrefl->Qh,sub_succ_lt_self->Qi,lt_of_lt_of_eq->Qm,add_lt_of_lt_sub'->Qo,pred_eq_succ_iff->Qs,le_sub_iff_add_le'->QI,le_of_add_right_le->QJ,one_le_iff_ne_zero->QK,eq_of_lt_succ_of_not_lt->QP,lt_succ_of_lt->Rb,add_le_add_iff_left->Ro,lt_of_le_of_lt->Rt,le_of_lt_succ->Rv,lt_succ_self->RJ,le_succ->RT,add_sub_of_le->RX,min_eq_right->So,sub_lt_left_of_lt_add->SO,lt_of_succ_lt->S0,le_of_succ_le->S6,min_eq_left->Ta,le_succ_of_le->Td,succ_le_succ->Tn,eq_zero_of_not_pos->T9,add_sub_self_left->Ug,le_sub_of_add_le'->Uh,sub_one_lt_of_le->Uu,sub_add_cancel->UR,ne_of_gt->U5,le_of_eq->U7,lt_trans->Vb,succ_le_of_lt->Vd,zero_lt_of_lt->Ve,sub_lt_of_lt->Vn,le_add_right->Vr,le_of_lt->VO,zero_add->V5,add_le_add->V6,sub_le->WA,log2_lt->WC
open _root_.Bool renaming false_ne_true->IF,false_eq_true->P0,eq_iff_iff->Rg,and_eq_true->Tj,and_false->Ut,and_eq_true_iff->Uy
open _root_.PySem.W renaming Frag->Om,mg_none_of->OC,findIn->OZ,mg_of->Pe,kitOne->Qj,kia_one->Rh,callWith_K->RL,OpenLaw->Sb,specialIn->Sn,looks_findIn->Sx,keepIn->Sy,methodCall_KW->Te,takesIn->Uc,mroIn->Ud,cellsFrom_some->Uq,Looks->UG,plainGet_of->Vx,nsIn->VG,WalkO->VJ,of_hideAll->VM,plainGet->VR,methodObj->Wo,hasDictIn->Ws,hideAll->Wv,fnOf->Wy,codeIn->Wz,exmOne->WD
open _root_.Sum renaming inl->Ot,inr->UA
open _root_.PySem.PassesOwn renaming never->Ow
open _root_.Classical renaming byContradiction->Ox
open _root_.Int renaming le_of_lt->OQ,emod_lt_of_pos->OW,emod_nonneg->Pj,le_refl->Pp,toNat_natCast->P6,le_trans->Qe,toNat_of_nonneg->Ri,lt_of_lt_of_le->SD,lt_of_le_of_lt->SE,toNat->Tc
open _root_.False renaming elim->OS
open _root_.PySem.F renaming plainAttrs_list->Po,slot_list_extend->Qf,slot_dict_get->Rc,type_list_extend->RQ,plainAttrs_dict->Si,slot_dict_setdefault->Sj,entry_dict_get->SJ,plain_extend_loop->SQ,slot_list_append->Tg,type_list_append->Th,type_list_remove->Ti,slot_list_index->Ts,args_dict_get_2->Tt,args_dict_get_3->Tu,slot_list_remove->Tv,slot_dict_pop->Ui,type_dict_get->Uj
open _root_.Array renaming toList_append->Py,length_toList->P4,getElem?_toList->Qc,perm_iff_toList_perm->Ql,getElem?_eq_some_iff->QU,toList_extract->SF,toList_reverse->SG,toList_push->SY,size_push->Tp,size_map->V7
open _root_.True renaming intro->Qb
open _root_.Iff renaming mpr->QG,mp->WV
open _root_.List.Perm renaming append_right->QH,append_left->QM,trans->Sh
open _root_.PySem.IsL renaming update->QZ
open _root_.List.Sublist renaming map->Q4
open _root_.List.Nodup renaming mem_erase_iff->Rf
open _root_.Eq renaming symm->RW
open _root_.List.Pairwise renaming nil->SW,map->WW
open _root_.PySem.SeqAt renaming EqAt->TM
open _root_.PySem.SeqAt.EqAt renaming int_str->UO,str_int->UP
open _root_.PyProof.Rows.SortSt renaming mk'->US
open _root_.PySem.Around renaming under->U8
open _root_.PySem.Code renaming isFrame->U9,frames->WI
open _root_.Sum.inl renaming inj->Vu
open _root_.PySem.IsRange renaming new->Vv
open _root_.Array.Perm renaming refl->VD
open _root_.ForInStep renaming yield->VE
open _root_.PySem.W.Looks renaming ld->VF,here->WR
open _root_.Prod renaming ext->V1
open _root_.PySem.EqMixed renaming eq_bool_str->We,eq_str_bool->Wf,ne_bool_str->Wg,ne_str_bool->Wh,eq_int_str->Wj,eq_str_int->Wk,ne_int_str->Wl,ne_str_int->Wm
open _root_.PySem.SeqAt.RcNeAt renaming tuples->Wi
open _root_.PySem.Walks renaming range->WH
open _root_.Prod.mk renaming inj->WL
open _root_.PySem.W.WShape renaming has->WT
open _root_.Or renaming inr->WU
theorem WX {c:Prop}{h:Decidable c}(n:¬c){α:Sort u}{t e:α}:ite c t e=e:=if_neg n
theorem WY {c:Prop}{h:Decidable c}(n:c){α:Sort u}{t e:α}:ite c t e=t:=if_pos n
abbrev WZ:=Addr->Prop
abbrev W6:=Int->Int->List Int
abbrev W7:=List (Addr×Obj)
abbrev W8:=Value->se->Prop
abbrev W9:=Str->Option Value
abbrev Xa:=Int->List Int
abbrev Xb:=Array Value
abbrev Xc:=List Value
abbrev Xd:=Option Value
abbrev Xe:=Option Addr
section
local macro_rules|`(tactic|show $t)=>`(tactic|refine $t)
open Lean in
local macro_rules|`(tactic|let $d:letDecl)=>`(tactic|have $d:letDecl)
local macro_rules|`(tactic|rwa $s:rwRuleSeq at $h:ident)=>`(tactic|(rw $s:rwRuleSeq at $h:ident;cases $h:ident))
local macro_rules|`(‹$t›)=>`(by simpa using $t)
local macro_rules|`(tactic|cases $h:ident : $t)=>`(tactic|by_cases $h:ident : $t)
local macro_rules|`($s⁻¹)=>`(Array.size (PySem.Heap.objs (PySem.Shared.heap $s)))
open Lean in
local macro_rules|`(tactic|intros $x*)=>`(tactic|intro $(mkIdent `pins):ident $(mkIdent `s):ident $(mkIdent `σ):ident $(mkIdent `H):ident $(x.map fun y=>⟨y⟩)*)
open Lean in
local macro_rules|`(~~~$h $x*)=>`($(mkIdent `Inv) $(mkIdent `X) $(mkIdent `pins) $(mkIdent `σ) $h $x*)
open Lean in
local macro_rules|`(↑$f)=>`(wpAny (model $(mkIdent `X.prog) $(mkIdent `X.w)) $(mkIdent `X.A) $f)
open Lean in
local macro_rules|`(#v[$xs,*])=>do
 let y<-xs.getElems.mapM λ(x:Term)=>match x with|`(.$_:ident $_*)=>`(some $x)|_=>pure x
 `([$y,*])
open Lean in
local macro_rules|`(⇑$f)=>`($f $(mkIdent `P) $(mkIdent `w) $(mkIdent `K) $(mkIdent `mg) $(mkIdent `base) ($(mkIdent `cI) $(mkIdent `P) $(mkIdent `w)))
open Lean in
local macro_rules|`(↥$f)=>`($f $(mkIdent `P) $(mkIdent `w) $(mkIdent `K) $(mkIdent `mg) $(mkIdent `base) $(mkIdent `aY))
open Lean in
local macro_rules|`(#[$xs,*])=>do
 let T:=([← `(⟨_,rfl⟩),← `(⟨rfl,rfl⟩),← `(⟨_,_⟩),← `(⟨?_,?_⟩),← `(⟨rfl,?_⟩),← `(⟨rfl,_⟩)]:List (TSyntax `term))
 let mut r:Array (TSyntax `term):=Array.mk []
 for x in xs.getElems do
  match x.raw.isNatLit? with
  |some k=>
   match T[k]! with
   |`(⟨$ys,*⟩)=>r:=r++ys.getElems
   |_=>r:=r
  |_=>r:=r.push x
 `(⟨$r,*⟩)
open Lean in
local macro_rules|`(tactic|let $p:term:=$e)=>do
 let rec go (n:Nat)(t:Syntax):MacroM (TSyntax `rcasesPat):=do
  match n with
  |0=>Macro.throwUnsupported
  |n+1=>match t with
   |`($i:ident)=>`(rcasesPat|$i:ident)
   |`(_)=>`(rcasesPat|_)
   |`(#[$xs,*])=>do `(rcasesPat|⟨$(←xs.getElems.mapM fun x=>do `(Parser.Tactic.rcasesPatLo|$(←go n x):rcasesPat)),*⟩)
   |_=>Macro.throwUnsupported
 match p with
 |`(#[$_,*])=>do `(tactic|obtain $(←go 99 p):rcasesPat := $e)
 |_=>Macro.throwUnsupported
namespace L2
open PySem PySem.Spec PyProof.Rows
abbrev Key:=Sum Int Str
def qE:Key->Value->Bool
 |.inl k,v=>Value.isInt k v
 |.inr x,v=>Value.isStrOf x v
def Nb(w:Oe):Key->Int
 |.inl k=>hashInt k
 |.inr x=>hashStr w x
theorem cH:∀{k:Key}{v:Value},qE k v=true->(∃i t,k=Ot i/\v=Value.int i t)\/(∃x t,k=UA x/\v=Value.str x t)
 |.inl i,v,h=>by
  let#[t,e]:=Value.isInt_shape (k:=i) (v:=v) h;show .inl #[i,t,rfl,e]
 |.inr x,v,h=>by
  let#[t,e]:=Value.isStrOf_shape (x:=x) (v:=v) h;show .inr #[x,t,rfl,e]
theorem Af(i:Int)(t:WQ):qE (.inl i) (.int i t)=true:=by simp[qE,Value.isInt]
theorem As(x:Str)(t:WQ):qE (.inr x) (.str x t)=true:=by simp[qE,Value.isStrOf]
theorem GZ(a b:Int):decide ((Ot a:Key)=Ot b)=(a==b):=by
 cases e:a=b
 .subst e;simp
 .let h:¬ (Ot a:Key)=Ot b:=λq=>e (Vu q);rw[decide_eq_false h];show(beq_eq_false_iff_ne.mpr e).symm
theorem HN(a b:Str):decide ((UA a:Key)=UA b)=decide (a=b):=by
 cases e:a=b
 .subst e;simp
 .let h:¬ (UA a:Key)=UA b:=λq=>e (Sum.inr.inj q);rw[decide_eq_false h,decide_eq_false e]
theorem Jn(a:Int)(b:Str):decide ((Ot a:Key)=UA b)=false:=decide_eq_false (λq=>nomatch q)
theorem HA(a:Str)(b:Int):decide ((UA a:Key)=Ot b)=false:=decide_eq_false (λq=>nomatch q)
def cf(prog:vu)(w:Oe):PySem.KeyKind prog w Key where
 is:=qE
 hash:=Nb w
 inj:=λv a b J G=>by
  rcases cH J with⟨i,t,rfl,rfl⟩|⟨x,t,rfl,rfl⟩
  .rcases cH G with⟨j,u,rfl,e⟩|⟨y,u,rfl,e⟩
   .injection e with z _;rw[z]
   .show nomatch e
  .rcases cH G with⟨j,u,rfl,e⟩|⟨y,u,rfl,e⟩
   .show nomatch e
   .injection e with z _;rw[z]
 byValue:=λk v h=>by
  rcases cH h with⟨i,t,rfl,rfl⟩|⟨x,t,rfl,rfl⟩<;>rfl
 pyHash:=λF h=>by
  rcases cH F with⟨i,t,rfl,rfl⟩|⟨x,t,rfl,rfl⟩
  .show wpAny_pyHash_int h
  .show wpAny_pyHash_str h
 eqBool:=λI F h=>by
  rcases cH I with⟨i,t,rfl,rfl⟩|⟨x,t,rfl,rfl⟩
  .rcases cH F with⟨j,u,rfl,rfl⟩|⟨y,u,rfl,rfl⟩
   .rw[GZ]at h;show wpAny_eqBool_int h
   .rw[Jn]at h;show UO i t y u _ _ _ _ h
  .rcases cH F with⟨j,u,rfl,rfl⟩|⟨y,u,rfl,rfl⟩
   .rw[HA]at h;show UP x t j u _ _ _ _ h
   .rw[HN]at h;show wpAny_eqBool_str h
 «strs» := λk x t v h=>by
  rcases cH h with⟨i,u,rfl,e⟩|⟨y,u,rfl,e⟩
  .show nomatch e
  .injection e with z _;subst z;cases v<;>rfl
theorem vo(prog:vu)(w:Oe)(i:Int)(t:WQ):(cf prog w).is (.inl i) (.int i t)=true:=Af i t
theorem vK(prog:vu)(w:Oe)(x:Str)(t:WQ):(cf prog w).is (.inr x) (.str x t)=true:=As x t
set_option genInjectivity true in
inductive V where
 |bB|bl (b:Bool)|int (i:Int)|str (x:Str)|byt (b:Array UInt8)|flt (b:UInt64)|ref (a:Addr)|ty (n:String)
 deriving DecidableEq
def RelV:V->Value->Prop
 |.bB,u=>u=Value.none
 |.bl b,u=>u=Value.bool b
 |.int i,u=>∃t,u=Value.int i t
 |.str x,u=>∃t,u=Value.str x t
 |.byt b,u=>∃t,u=Value.bytes b t
 |.flt b,u=>∃t,u=Value.float b t
 |.ref a,u=>u=Value.ref a
 |.ty n,u=>u=Value.type n
abbrev Vals:List V->List Value->Prop:=Paired RelV
theorem Vals.length{xs:List V}{us:Xc}(r:Vals xs us):xs.length=us.length:=Paired.length r
theorem Vals.get:∀{xs:List V}{us:Xc}{i:Nat}{x:V},Vals xs us->xs[i]?=some x->∃u,us[i]?=some u/\RelV x u
 |_,_,_,_,.nil,e=>by simp at e
 |_,_,0,_,.cons r _,e=>by simp at e;subst e;show#[0,r]
 |_,_,i+1,x,.cons _ t,e=>by
  let#[u,h1,h2]:=Vals.get (i:=i) (x:=x) t ‹e›;show#[u,by simpa using h1,h2]
theorem Vals.set{x:V}{u:Value}(r:RelV x u):∀{xs:List V}{us:Xc}(i:Nat),Vals xs us->Vals (xs.set i x) (us.set i u)
 |_,_,_,.nil=>.nil
 |_,_,0,.cons _ t=>.cons r t
 |_,_,i+1,.cons q t=>.cons q (Vals.set r i t)
theorem Vals.append:∀{xs ys:List V}{us ws:Xc},Vals xs us->Vals ys ws->Vals (xs++ys) (us++ws)
 |_,_,_,_,.nil,s=>s
 |_,_,_,_,.cons r t,s=>.cons r (Vals.append t s)
theorem Vals.take:∀{xs:List V}{us:Xc}(n:Nat),Vals xs us->Vals (xs.take n) (us.take n)
 |_,_,0,_=>.nil
 |_,_,_+1,.nil=>.nil
 |_,_,n+1,.cons r t=>.cons r (Vals.take n t)
theorem Vals.drop:∀{xs:List V}{us:Xc}(n:Nat),Vals xs us->Vals (xs.drop n) (us.drop n)
 |_,_,0,r=>r
 |_,_,_+1,.nil=>.nil
 |_,_,n+1,.cons _ t=>Vals.drop n t
def ic:Option V->Option Value->Prop
 |some v,some u=>RelV v u
 |none,none=>True
 |_,_=>False
def KV{κ:Type}:List (κ×V)->List (κ×Value)->Prop:=Paired λ(p:κ×V)(q:κ×Value)=>p.1=q.1/\RelV p.2 q.2
def kV:Key->V
 |.inl i=>.int i
 |.inr x=>.str x
set_option genInjectivity true in
inductive HO where
  |lst(xs:List V)
  |tup(xs:List V)
  |dK(kvs:List (Key×V))|dT (kvs:List (List Key×V))
  |set(S:Int->Bool)(n:Nat)
  |ins(C dx:Addr)(fs:List (Str×V))
  |own(x:Addr)
  |xd(fs:List (Str×V))
  |met(f x:Addr)
  |rng(lo hi:Int)
  |frz(o:Obj)(u:HO)
  |tbl(ps:Xb)
  |ext(φ:Heap->Prop)
abbrev Hp:=Addr->Option HO
def upd(H:Hp)(a:Addr)(o:HO):Hp:=λb=>if b=a then some o else H b
theorem ae{H:Hp}{a:Addr}{o:HO}:upd H a o a=some o:=by unfold upd;rw[WY rfl]
theorem ai{H:Hp}{a b:Addr}{o:HO}(h:b≠a):upd H a o b=H b:=by unfold upd;rw[WX h]
theorem cM{H:Hp}{a b:Addr}{o u:HO}(h:H a=some o)(h':H b=some u)(d:o≠u):a≠b:=by
 intro e;subst e;rw[h]at h';show d (DD h')
theorem av{H:Hp}{a b:Addr}{o:HO}(h:H a=some o)(h':H b=none):a≠b:=by
 intro e;subst e;rwa[h]at h'
section
variable(P:vu)(w:Oe)
def ck(H:Hp)(h:Heap)(a:Addr):HO->Prop
 |.lst xs=>xs.length<=sizeLine/\∃(its:Xc)(n:Nat),Vals xs its/\h.get? a=some { cls:=.type "list",data:=.seq its.toArray n }
 |.tup xs=>xs.length<=sizeLine/\∃its:List Value,Vals xs its/\IsTup h a its.toArray
 |.dK kvs=>kvs.length<=sizeLine/\(a==Qu)=false/\∃vs,KV kvs vs/\h.DictOf (cf P w) a vs
 |.dT kvs=>kvs.length<=sizeLine/\(a==Qu)=false/\∃xs:List (List Key×Addr×Value),
   Paired (λ(p:List Key×V)(q:List Key×Addr×Value)=>p.1=q.1/\H q.2.1=some (.tup (p.1.map kV))/\RelV p.2 q.2.2) kvs xs /\
   ∃o es ep,h.get? a=some o/\o.ExactDict/\o.data=.dict es ep/\es.toList=xs.map (entryOfKey (Sq (cf P w)))/\(xs.map (·.1)).Nodup
 |.set S n=>h.SetOf (intKind P w) a S n
 |.ins C dx fs=>H dx=some (.own a)/\fs.length<=1000/\dx≠a/\h.get? a=some (instObj C dx) /\
   ∃mA,h.Ns1 dx mA/\(∀f,ic (fs.lookup f) (mA f))/\UY mA (fs.map (·.1))
 |.own _=>∃o,h.get? a=some o
 |.xd fs=>∃mA,h.Ns1 a mA/\∀f,ic (fs.lookup f) (mA f)
 |.rng lo hi=>∃t u v,h.get? a=some { cls:=.type "range",data:=.fields ([.int lo t,.int hi u,.int 1 v].toArray) }
 |.frz o u=>h.get? a=some o/\ck H h a u
 |.tbl ps=>h.get? a=some { cls:=.none,data:=.fields ps }
 |.met f x=>h.get? a=some (Wo (.ref f) (.ref x))
 |.ext z=>z h/\(∃o,h.get? a=some o)/\∀h1 h2:Heap, z h1->(∀o,h1.get? a=some o->h2.get? a=some o)->z h2
def kq(H:Hp)(h:Heap):Prop:=∀a o,H a=some o->ck P w H h a o
variable{P:vu}{w:Oe}{H H':Hp}{h h':Heap}{a:Addr}{o:HO}
theorem ck.lt(x:ck P w H h a o):a<h.objs.size:=by
 cases o with
 |lst xs=>let#[_,_,_,_,e]:=x;show Heap.lt_size e
 |tup xs=>let#[_,_,_,p]:=x;show p.lt
 |dK kvs=>let#[_,_,_,_,o,_,_,e,_]:=x;show Heap.lt_size e
 |dT kvs=>let#[_,_,_,_,o,_,_,e,_]:=x;show Heap.lt_size e
 |set S n=>let#[o,_,_,_,e,_]:=x;show Heap.lt_size e
 |ins C dx fs=>let#[_,_,_,e,_]:=x;show Heap.lt_size e
 |own y=>let#[_,e]:=x;show Heap.lt_size e
 |xd fs=>let#[_,#[_,_,_,e,_],_]:=x;show Heap.lt_size e
 |rng lo hi=>let#[_,_,_,e]:=x;show Heap.lt_size e
 |frz F u=>let#[e,_]:=x;show Heap.lt_size e
 |tbl ps=>show Heap.lt_size (show h.get? a=some _ from x)
 |met f y=>show Heap.lt_size (show h.get? a=some _ from x)
 |ext z=>let#[_,#[_,e],_]:=x;show Heap.lt_size e
theorem Paired.Cr{α z:Type}{F G:α->z->Prop}:∀{l₁:List α}{l₂:List z},Paired F l₁ l₂->(∀a b,F a b->G a b)->Paired G l₁ l₂
 |_,_,.nil,_=>.nil
 |_,_,.cons r t,f=>.cons (f _ _ r) (Paired.Cr t f)
theorem ck.jl(x:ck P w H h a o)(k:∀b u,(b=a\/H b=some (.own a))->h.get? b=some u->h'.get? b=some u)
  (L:∀b,H b=some (.own a)->H' b=some (.own a)) (J:∀b xs,H b=some (.tup xs)->H' b=some (.tup xs)):ck P w H' h' a o:=by
 induction o with
 |lst xs=>let#[z,its,n,r,e]:=x;show#[z,its,n,r,k _ _ (.inl rfl) e]
 |tup xs=>let#[z,its,r,F,e,c]:=x;show#[z,its,r,F,k _ _ (.inl rfl) e,c]
 |dK kvs=>let#[z,y,vs,r,F,es,ep,e,c]:=x;show#[z,y,vs,r,F,es,ep,k _ _ (.inl rfl) e,c]
 |dT kvs =>
  let#[z,y,xs,r,F,es,ep,e,c]:=x;show#[z,y,xs,Paired.Cr r λp q z=>#[z.1,J _ _ z.2.1,z.2.2],F,es,ep,k _ _ (.inl rfl) e,c]
 |set S n=>let#[F,es,ep,t,e,c]:=x;show#[F,es,ep,t,k _ _ (.inl rfl) e,c]
 |ins C dx fs =>
  let#[d,z,ne,e,mA,#[od,es,ep,I,c],r]:=x;show#[L _ d,z,ne,k _ _ (.inl rfl) e,mA,#[od,es,ep,k _ _ (.inr d) I,c],r]
 |own y=>let#[F,e]:=x;show#[F,k _ _ (.inl rfl) e]
 |xd fs=>let#[mA,#[od,es,ep,e,c],r]:=x;show#[mA,#[od,es,ep,k _ _ (.inl rfl) e,c],r]
 |rng lo hi=>let#[t,u,v,e]:=x;show#[t,u,v,k _ _ (.inl rfl) e]
 |frz F u G=>let#[e,q]:=x;show#[k _ _ (.inl rfl) e,G q]
 |tbl ps =>
  let e:h.get? a=some { cls:=.none,data:=.fields ps }:=x;change h'.get? a=some { cls:=.none,data:=.fields ps };show k a _ (.inl rfl) e
 |met f y =>
  let e:h.get? a=some (Wo (.ref f) (.ref y)):=x;change h'.get? a=some (Wo (.ref f) (.ref y));show k a _ (.inl rfl) e
 |ext O=>let#[p,#[o,e],st]:=x;show#[st _ _ p λo q=>k _ _ (.inl rfl) q,#[o,k _ _ (.inl rfl) e],st]
theorem kq.lt(x:kq P w H h)(e:H a=some o):a<h.objs.size:=(x a o e).lt
theorem kq.fresh(x:kq P w H h)(e:h.objs.size<=a):H a=none:=by
 cases q:H a with
 |none=>rfl
 |some u=>show absurd (OD (x.lt q) e) (Qh _)
theorem kq.kept(x:kq P w H h)(k:∀b u,h.get? b=some u->h'.get? b=some u):kq P w H h':=λa o e =>
 (x a o e).jl (λb u _ q=>k b u q) (λ_ q=>q) λ_ _ q=>q
theorem kq.laid(x:kq P w H h)(k:∀b u,h.get? b=some u->h'.get? b=some u)(G:h.objs.size<=a)(new:ck P w (upd H a o) h' a o):kq P w (upd H a o) h':=λb u e=>by
 let z:=x.fresh G;cases F:b=a
 .subst F;rwa[ae]at e;show new
 .rw[ai F]at e;show(x b u e).jl (λc v _ q=>k c v q) (λc q=>by rw[ai (av q z)];show q) λc xs q=>by rw[ai (av q z)];show q
end
def Rd(H:Hp)(a:Addr)(u:HO):Prop:=H a=some u\/∃o,H a=some (.frz o u)
theorem Rd.ok{P:vu}{w:Oe}{H:Hp}{h:Heap}{a:Addr}{u:HO}(r:Rd H a u)(x:kq P w H h):ck P w H h a u:=by
 rcases r with r|⟨o,r⟩
 .show x a u r
 .let#[_,q]:=x a _ r;show q
def JS:Option HO->Prop
 |some (.lst _)=>True
 |some (.dK _)=>True
 |some (.dT _)=>True
 |some (.set _ _)=>True
 |some (.ins _ _ _)=>True
 |some (.ext _)=>True
 |_=>False
section
variable{P:vu}{w:Oe}{H:Hp}{h h':Heap}{x e:Addr}{o':HO}
theorem kq.write(ok:kq P w H h)(I:JS (H x))(L:e=x\/H e=some (.own x))(k:∀b u,b≠e->h.get? b=some u->h'.get? b=some u)(ab:∃u,h'.get? e=some u)
  (new:ck P w (upd H x o') h' x o'):kq P w (upd H x o') h':=λb u q=>by
 let O:∀c y,H c=some (.own y)->c≠x:=λc y r z=>(by subst z;rw[r]at I;show I);let S:∀c xs,H c=some (.tup xs)->c≠x:=λc xs r z=>(by subst z;rw[r]at I;show I);cases J:b=x
 .subst J;rwa[ae]at q;show new
 .rw[ai J]at q;cases G:b=e
  .let R:H b=some (.own x):=by
    rcases L with z|z
    .show absurd (G.trans z) J
    .rw[G];show z
   rwa[q]at R;let#[v,U]:=ab;show#[v,by rw[G];show U]
  .show(ok b u q).jl (λc v F r=>k c v ?_ r) (λc r=>by rw[ai (O c b r)];show r) λc xs r=>(by rw[ai (S c xs r)];show r);rcases F with rfl|F
   .show G
   .rintro rfl;rcases L with z|z
    .show O c b F z
    .rw[F]at z;cases z;show J rfl
end
structure Un(fs ex:List Addr)(H H':Hp)(h h':Heap):Prop where
 keep:∀b o,h.get? b=some o->H b=none->b∉fs->b∉ex->h'.get? b=some o
 slot:∀b o,h.get? b=some o->H b=none->b∈fs->b∉ex->∃sl,h'.get? b=some { o with slots:=sl }
 free:∀b o,h.get? b=some o->H b=none->b∉ex->H' b=none
 there:∀b o,h.get? b=some o->b∉ex->∃o',h'.get? b=some o'
 pH:∀b xs,H b=some (.tup xs)->H' b=some (.tup xs)
 oz:∀b o u,H b=some (.frz o u)->H' b=some (.frz o u)
 qk:∀b ps,H b=some (.tbl ps)->∃more,H' b=some (.tbl (ps++more))
section
variable{fs fs' ex ex':List Addr}{H H1 H2:Hp}{h h1 h2 h':Heap}{a x e:Addr}{o:HO}
theorem Un.any(u:Un fs ex H H1 h h1){b:Addr}{z:Obj}(q:h.get? b=some z)(n:H b=none)(hx:b∉ex):∃sl,h1.get? b=some { z with slots:=sl }:=by
 cases F:b∈fs
 .show u.slot b z q n F hx
 .show#[z.slots,u.keep b z q n F hx]
theorem Un.kept(k:∀b u,h.get? b=some u->h'.get? b=some u):Un fs ex H H h h' :=
 #[λb z q _ _ _=>k b z q,λb z q _ _ _=>#[z.slots,k b z q],λ_ _ _ n _=>n,λb z q _=>#[z,k b z q],λ_ _ q=>q,λ_ _ _ q=>q,λ_ ps q=>#[([].toArray),by rw[q];simp]]
theorem Un.refl:Un fs ex H H h h:=Un.kept λ_ _ q=>q
theorem Un.laid(k:∀b u,h.get? b=some u->h'.get? b=some u)(F:h.objs.size<=a)(z:H a=none):Un fs ex H (upd H a o) h h' where
 keep:=λb u q _ _ _=>k b u q
 slot:=λb u q _ _ _=>#[u.slots,k b u q]
 free:=λb u q n _=>by rw[ai (Pb (OD (Heap.lt_size q) F))];show n
 there:=λb u q _=>#[u,k b u q]
 pH:=λb xs q=>by rw[ai (av q z)];show q
 oz:=λb u xs q=>by rw[ai (av q z)];show q
 qk:=λb ps q=>#[([].toArray),by rw[ai (av q z),q];simp]
theorem Un.write(F:JS (H x))(L:e=x\/H e=some (.own x))(k:∀b u,b≠e->h.get? b=some u->h'.get? b=some u)(O:∃u,h'.get? e=some u):Un fs ex H (upd H x o) h h':=by
 let hx:∀b,H b=none->b≠x:=λb n z=>(by subst z;rw[n]at F;show F);let I:∀b,H b=none->b≠e:=λb n z=>by
  subst z;rcases L with r|r
  .show hx b n r
  .rw[n]at r;cases r
 let G:∀b u,H b=some u->¬ JS (some u)->b≠x:=λb u q nm z=>(by subst z;rw[q]at F;show nm F);show#[λb u q n _ _=>k b u (I b n) q,λb u q n _ _=>#[u.slots,k b u (I b n) q],λb u q n _=>by rw[ai (hx b n)];show n,λb u q _=>?_,
  λb xs q=>by rw[ai (G b _ q λz=>z)];show q,λb u xs q=>by rw[ai (G b _ q λz=>z)];show q,λb ps q=>#[([].toArray),by rw[ai (G b _ q λz=>z),q];simp]]
 cases J:b=e
 .subst J;show O
 .show#[u,k b u J q]
end
def LC(h:Heap)(H:Hp):List Addr:=(Rj h.objs.size).filter λa=>(H a).isSome
def ug(h:Heap)(H:Hp):Heap:=Wv h (LC h H)
theorem AW(h:Heap)(H:Hp):(ug h H).objs.size=h.objs.size:=PySem.W.hideAll_size _ _
theorem Ez{h:Heap}{H:Hp}{b:Addr}{o:Obj}(e:h.get? b=some o)(n:H b=none):(ug h H).get? b=some o :=
 hideAll_get _ e λz=>by
  let q:(H b).isSome=true:=(PB.mp z).2;rw[n]at q;simp at q
theorem E3{h:Heap}{H:Hp}{b:Addr}{o:Obj}(e:(ug h H).get? b=some o):h.get? b=some o/\H b=none:=by
 let F:h.get? b=some o:=VM (LC h H) e;show#[F,?_];cases q:H b with
 |none=>rfl
 |some x =>
  let G:b∈LC h H:=PB.mpr #[Sr.mpr (Heap.lt_size F),by simp[q]];let z:(ug h H).get? b=none:=PySem.W.hideAll_none (LC h H) G;rwa[z]at e
structure Mod(K:Om)(mg:W9)(base:Heap):Prop where
 CH:K.In base
 glob:base.Ns OG mg
 blt:∃mb,base.Ns VN mb/\∀x:Str,x ≠ "__name__" -> mb x=OO x
 nolimit:base.NoLimit
structure Cx where
 prog:vu
 w:Oe
 K:Om
 mg:Str->Option Value
 base:Heap
 A:Ov
 N:List Str
 s₀:se
 H₀:Hp
 env:SN
 outer:List SN
 stack:List SN
 ex:List Addr
 fn:Str->Bool
 calm:Bool
 pn:List (Addr×Obj)
 xe:Value->se->Prop
def q8(l:List SN):List Addr:=l.filterMap (·.frame)
abbrev Cx.fs(X:Cx):List Addr:=q8 X.outer
def J7(z:RY)(x:Str):Prop:=z.names.lookup x=some .local\/z.names.lookup x=some .cell\/z.names.lookup x=some .free
def Loc(z:RY)(x:Str):Prop:=z.names.lookup x=some .local\/z.names.lookup x=some .cell
def Look(env:SN)(h:Heap)(m:W9)(x:Str)(u:Value):Prop :=
 (env.kindOf x=some .local/\m x=some u)\/((env.kindOf x=some .cell\/env.kindOf x=some .free)/\∃c,env.cells.lookup x=some c/\h.IsCell c (some u))
structure Cx.Ok(X:Cx):Prop where
 mod:Mod X.K X.mg X.base
 kind:X.env.scope.kind=.function
 glob:X.env.globals=OG
 blt:X.env.builtins=VN
 above:X.s₀.heap.objs.size<=X.env.locals
 inj:∀x y c,X.env.cells.lookup x=some c->X.env.cells.lookup y=some c->x=y
 has:∀x,(X.env.kindOf x=some .cell\/X.env.kindOf x=some .free)->∃c,X.env.cells.lookup x=some c
 Hk:∀x c,X.fn x=true->X.env.cells.lookup x=some c->X.s₀.heap.objs.size<=c
 hd:X.calm=true->X.A.handled=none
 frames:X.A.frames=some X.stack
 Jz:X.stack=X.outer\/(X.stack=X.env::X.outer/\X.env.frame=some X.env.locals)
 LM:∀b∈X.ex,b≠X.env.locals/\∀x c,X.env.cells.lookup x=some c->c≠b
 bs:∀b o,X.base.get? b=some o->X.s₀.heap.get? b=some o/\X.H₀ b=none
 Be:X.base.objs.size<=X.s₀.heap.objs.size
 ya:∀b o,X.base.get? b=some o->b∉X.ex
 wD:∀b∈X.ex,b∉X.fs
 km:X.s₀.heap.FunFrames X.base X.outer
 EJ:∀b∈X.fs,X.H₀ b=none
structure Inv(X:Cx)(pins:W7)(σ:List (Option V))(H:Hp)(s:se):Prop where
 ok:X.Ok
 os:s.os=X.s₀.os
 bare:Sm s.gens
 base:Un X.fs X.ex X.H₀ H X.s₀.heap s.heap
 loc:∃m,s.heap.Ns X.env.locals m/\∀(i:Nat)(x:Str)(v:V),X.N[i]?=some x->σ[i]?=some (some v)->J7 X.env.scope x->∃u,RelV v u/\Look X.env s.heap m x u
 cell:∀x c,X.env.cells.lookup x=some c->∃v,s.heap.IsCell c v
 free:H X.env.locals=none
 gw:∀x c,X.env.cells.lookup x=some c->H c=none
 pin:∀p∈X.pn++pins,s.heap.get? p.1=some p.2/\H p.1=none/\p.1≠X.env.locals/\p.1∉X.fs/\∀v,p.2.data≠.cell v
 bV:kq X.prog X.w H s.heap
 len:σ.length=X.N.length
section
variable{X:Cx}{pins:W7}{σ:List (Option V)}{H H':Hp}{s:se}{h':Heap}
theorem Cx.Ok.ML(ok:X.Ok){b:Addr}{o:Obj}(e:X.base.get? b=some o):b∉X.fs:=λz=>by
 have:=(ok.km.mem z).1;rwa[e]at this
theorem Inv.bs(I: ~~~H s):∀b o,X.base.get? b=some o->s.heap.get? b=some o/\H b=none:=λb o e =>
 #[I.base.keep b o (I.ok.bs b o e).1 (I.ok.bs b o e).2 (I.ok.ML e) (I.ok.ya b o e),I.base.free b o (I.ok.bs b o e).1 (I.ok.bs b o e).2 (I.ok.ya b o e)]
theorem Inv.bk(I: ~~~H s):∀b o,X.base.get? b=some o->s.heap.get? b=some o:=λb o e=>(I.bs b o e).1
theorem Inv.mod(I: ~~~H s):Mod X.K X.mg X.base:=I.ok.mod
theorem Inv.kh(I: ~~~H s):X.K.In s.heap:=I.ok.mod.CH.keeps I.bk
theorem Inv.lt(I: ~~~H s):X.env.locals<s⁻¹:=let ⟨_,z,_⟩:=I.loc;z.lt
theorem Inv.sz(I: ~~~H s):X.s₀.heap.objs.size<=s⁻¹:=Oy I.ok.above (VO I.lt)
theorem Inv.HM(I: ~~~H s){a:Addr}(h:s⁻¹<=a):a∉X.fs:=λF=>by
 let#[_,o,z,_]:=I.ok.km.mem F;show absurd (OD (Heap.lt_size z) (Oy I.sz h)) (Qh _)
theorem Inv.Dz(I: ~~~H s):∀x c,X.env.cells.lookup x=some c->c≠X.env.locals:=λx c e z=>by
 let#[v,o,F,hd]:=I.cell x c e;let#[m,#[o',es,ep,G,J,_],_]:=I.loc;rwa[z,G]at F;rwa[J]at hd
theorem Inv.km(I: ~~~H s):s.heap.FunFrames X.base X.outer:=by
 let all:∀(l:List SN),(∀b∈q8 l,b∈X.fs)->X.s₀.heap.FunFrames X.base l->s.heap.FunFrames X.base l:=by
  intro l
  induction l with
  |nil=>intro _ _;trivial
  |cons env r ih =>
   intro hs hl;let#[R,#[L,o,F,U,O,hd],S]:=hl;let G:L∈X.fs:=hs L (by unfold q8;rw[Sk,F];show OF);let#[sl,e]:=I.base.slot L o O (I.ok.EJ L G) G λz=>I.ok.wD L z G;show#[R,#[L,_,F,U,e,hd],ih (λb J=>hs b (by unfold q8;rw[Sk,F];show OH _ J)) S]
 show all X.outer (λ_ J=>J) I.ok.km
theorem Inv.stack(I: ~~~H s):s.heap.FunFrames X.base X.stack:=by
 rcases I.ok.Jz with e|⟨e,z⟩
 .rw[e];show I.km
 .rw[e];let#[m,F,_]:=I.loc;show .cons (by rw[I.ok.kind];decide) z F ?_ I.km;show Heap.get?_none_of_le (Oy I.ok.Be I.ok.above)
theorem Inv.qY(I: ~~~H s):∀b∈q8 X.stack,b∈X.env.locals::X.fs:=λb z=>by
 rcases I.ok.Jz with e|⟨e,F⟩
 .rw[e]at z;show OH _ z
 .rw[e]at z;unfold q8 at z;rw[Sk,F]at z;show z
theorem Inv.uG(I: ~~~H s):∀b∈q8 X.stack,H b=none:=λb F=>by
 rcases vr.mp (I.qY b F)with e|F
 .rw[e];show I.free
 .let#[_,o,G,_]:=I.ok.km.mem F;show I.base.free b o G (I.ok.EJ b F) λz=>I.ok.wD b z F
theorem Inv.step{g':Array UZ}{t':Nat}{d':Drawn}{ch:List Addr}(I: ~~~H s)
  (O:∀b∈ch,(b∈X.ex\/X.s₀.heap.objs.size<=b)/\b≠X.env.locals/\(∀x c,X.env.cells.lookup x=some c->c≠b)/\∀p∈X.pn++pins,p.1≠b)
  (keep:∀b o,b≠X.env.locals->b∉X.fs->b∉ch->s.heap.get? b=some o->H b=none->h'.get? b=some o)
  (slot:∀b o,b≠X.env.locals->b∈X.fs->b∉ch->s.heap.get? b=some o->H b=none->∃sl,h'.get? b=some { o with slots:=sl }) (free:∀b o,b∉ch->s.heap.get? b=some o->H b=none->H' b=none)
  (there:∀b o,b∉ch->s.heap.get? b=some o->∃o',h'.get? b=some o')
  (pH:∀b xs,H b=some (.tup xs)->H' b=some (.tup xs)) (oz:∀b o u,H b=some (.frz o u)->H' b=some (.frz o u)) (qk:∀b ps,H b=some (.tbl ps)->∃ao,H' b=some (.tbl (ps++ao)))
  (ns:∀m,s.heap.Ns X.env.locals m->h'.Ns X.env.locals m) (bV:kq X.prog X.w H' h') (hg:Sm g') :
  ~~~H' { s with heap:=h',gens:=g',drawn:=d',toks:=t' }:=by
 let ac:∀b o,X.s₀.heap.get? b=some o->b≠X.env.locals:=λb o e=>Pb (OD (Heap.lt_size e) I.ok.above);let S:∀b o,X.s₀.heap.get? b=some o->b∉X.ex->b∉ch:=λb o e hx G=>by
  rcases(O b G).1 with z|z
  .show hx z
  .show absurd (OD (Heap.lt_size e) z) (Qh _)
 let ab:∀x c,X.env.cells.lookup x=some c->∀v,s.heap.IsCell c v->h'.IsCell c v:=λx c e v am=>by
  let#[o,J,hd]:=am;let L:c∉ch:=λz=>(O c z).2.2.1 x c e rfl;cases hc:c∈X.fs
  .let#[sl,q]:=slot c o (I.Dz x c e) hc L J (I.gw x c e);show#[_,q,hd]
  .show#[o,keep c o (I.Dz x c e) hc L J (I.gw x c e),hd]
 show#[I.ok,I.os,hg,#[λb o e n G hx=>?_,λb o e n G hx=>?_,λb o e n hx=>?_,λb o e hx=>?_,λb xs e=>pH b xs (I.base.pH b xs e),λb o xs e=>oz b o xs (I.base.oz b o xs e),λb ps e=>?_],?_,λx c e=>?_,?_,λx c e=>?_,λp hp=>?_,bV,I.len]
 .show keep b o (ac b o e) G (S b o e hx) (I.base.keep b o e n G hx) (I.base.free b o e n hx)
 .let#[sl,F]:=I.base.slot b o e n G hx;let#[ap,R]:=slot b _ (ac b o e) G (S b o e hx) F (I.base.free b o e n hx);show#[ap,R]
 .let#[o',F]:=I.base.there b o e hx;show free b o' (S b o e hx) F (I.base.free b o e n hx)
 .let#[o',F]:=I.base.there b o e hx;show there b o' (S b o e hx) F
 .let#[m1,F]:=I.base.qk b ps e;let#[m2,R]:=qk b _ F;show#[m1++m2,by rw[R,Array.append_assoc]]
 .let#[m,hn,hl]:=I.loc;show#[m,ns m hn,λi x v F R e3=>?_];let#[u,r,l]:=hl i x v F R e3;show#[u,r,?_];rcases l with l|⟨k,c,e,z⟩
  .show .inl l
  .show .inr #[k,c,e,ab x c e _ z]
 .let#[v,z]:=I.cell x c e;show#[v,ab x c e v z]
 .let#[m,#[o,_,_,J,_],_]:=I.loc;show free _ o (λz=>(O _ z).2.1 rfl) J I.free
 .let#[v,o,J,hd]:=I.cell x c e;show free c o (λz=>(O c z).2.2.1 x c e rfl) J (I.gw x c e)
 .let#[e,n,ne,U,d]:=I.pin p hp;let L:p.1∉ch:=λz=>(O p.1 z).2.2.2 p hp rfl;show#[keep p.1 p.2 ne U L e n,free p.1 p.2 L e n,ne,U,d]
theorem Inv.un{t':Nat}(I: ~~~H s)(u:Un X.fs [] H H' s.heap h')(S:kq X.prog X.w H' h'): ~~~H' { s with heap:=h',toks:=t' }:=by
 let#[m,#[o,es,ep,G,r],_]:=id I.loc;let#[sl,U]:=u.any G I.free (by simp);show I.step (g':=s.gens) (d':=s.drawn) (ch:=[]) (λ_ z=>nomatch z) (λb o _ F _ e n=>u.keep b o e n F (by simp)) (λb o _ F _ e n=>u.slot b o e n F (by simp)) (λb o _ e n=>u.free b o e n (by simp)) (λb o _ e=>u.there b o e (by simp)) u.pH u.oz u.qk (λm' L=>by
  let#[o',R,ab,J,O]:=L;rwa[G]at J;show#[_,R,ab,U,O]) S I.bare
theorem Inv.call{g':Array UZ}{t':Nat}{d':Drawn}{ch:List Addr}(I: ~~~H s)(u:Un (q8 X.stack) ch H H' s.heap h')(S:kq X.prog X.w H' h')(hg:Sm g')
  (L:∀b∈ch,(b∈X.ex\/X.s₀.heap.objs.size<=b)/\b≠X.env.locals/\(∀x c,X.env.cells.lookup x=some c->c≠b)/\∀p∈X.pn++pins,p.1≠b) :
  ~~~H' { s with heap:=h',gens:=g',drawn:=d',toks:=t' }:=by
 let#[m,#[o,es,ep,O,r],_]:=id I.loc;let#[sl,G]:=u.any O I.free λz=>(L _ z).2.1 rfl;show I.step (ch:=ch) L (λb o G hb F e n=>u.keep b o e n (λz=>(vr.mp (I.qY b z)).elim G hb) F) (λb o _ _ F e n=>u.any e n F) (λb o F e n=>u.free b o e n F) (λb o F e=>u.there b o e F) u.pH u.oz u.qk (λm' hm=>by
  let#[o',ab,U,J,R]:=hm;rwa[O]at J;show#[_,ab,U,G,R]) S hg
theorem Inv.turned{t':Nat}{it:Addr}(I: ~~~H s)(k:∀b o,b≠it->s.heap.get? b=some o->h'.get? b=some o)(R:H it=none)(J:it≠X.env.locals)
  (h1:it∈X.ex\/X.s₀.heap.objs.size<=it) (h2:∀x c,X.env.cells.lookup x=some c->c≠it) (S:∀p∈X.pn++pins,p.1≠it): ~~~H { s with heap:=h',toks:=t' }:=by
 let G:∀b u,H b=some u->b≠it:=λb u e z=>(by rwa[z,R]at e);show I.step (g':=s.gens) (d':=s.drawn) (ch:=[it]) (λb U=>?_) (λb o _ _ F e _=>k b o (λz=>F (by simp[z])) e) (λb o _ _ F e _=>#[o.slots,k b o (λz=>F (by simp[z])) e]) (λ_ _ _ _ n=>n)
  (λb o F e=>#[o,k b o (λz=>F (by simp[z])) e]) (λ_ _ e=>e) (λ_ _ _ e=>e) (λb ps e=>#[([].toArray),by rw[e];simp]) (λm L=>?_) (λb u e=>?_) I.bare
 .let e:b=it:=‹U›;subst e;show#[h1,J,h2,S]
 .let#[o,es,ep,O,r]:=L;show#[o,es,ep,k _ o (D0 J) O,r]
 .show(I.bV b u e).jl (λc v F q=>k c v ?_ q) (λ_ q=>q) λ_ _ q=>q;rcases F with z|z
  .rw[z];show G b u e
  .show G c _ z
theorem Inv.tok(I: ~~~H s)(t:Nat): ~~~H { s with toks:=t }:=I.un (h':=s.heap) (t':=t) Un.refl I.bV
theorem Inv.kept{t':Nat}(I: ~~~H s)(k:∀b u,s.heap.get? b=some u->h'.get? b=some u): ~~~H { s with heap:=h',toks:=t' }:=I.un (Un.kept k) (I.bV.kept k)
theorem Inv.laid{a:Addr}{o:HO}{t':Nat}(I: ~~~H s)(k:∀b u,s.heap.get? b=some u->h'.get? b=some u)(z:s⁻¹<=a)(new:ck X.prog X.w (upd H a o) h' a o) :
  ~~~(upd H a o) { s with heap:=h',toks:=t' }:=I.un (Un.laid k z (I.bV.fresh z)) (I.bV.laid k z new)
theorem Inv.write{x e:Addr}{o:HO}{t':Nat}(I: ~~~H s)(G:JS (H x))(z:e=x\/H e=some (.own x))(k:∀b u,b≠e->s.heap.get? b=some u->h'.get? b=some u)(F:∃u,h'.get? e=some u)
  (new:ck X.prog X.w (upd H x o) h' x o): ~~~(upd H x o) { s with heap:=h',toks:=t' }:=I.un (Un.write G z k F) (I.bV.write G z k F new)
theorem Inv.j5{F:W7}(I: ~~~H s)(h:∀p∈F,s.heap.get? p.1=some p.2/\H p.1=none/\p.1≠X.env.locals/\p.1∉X.fs/\∀v,p.2.data≠.cell v):Inv X F σ H s :=
 #[I.ok,I.os,I.bare,I.base,I.loc,I.cell,I.free,I.gw,λp G=>(By.mp G).elim (λz=>I.pin p (Pc _ z)) (h p),I.bV,I.len]
theorem pI{N:List Str}(F:N.Nodup){i j:Nat}{x:Str}(a:N[i]?=some x)(b:N[j]?=some x):i=j:=by
 let#[h1,G]:=sN.mp a;let#[h2,z]:=sN.mp b;show(Ul F).mp (G.trans z.symm)
theorem AM{M:SS}{A:Ov}{E:W8}{i:Nat}{x:Str}{v:V}{u:Value}{Q:Unit->se->Prop}(I: ~~~H s)(hN:X.N.Nodup)(hi:X.N[i]?=some x)(hx:Loc X.env.scope x)(r:RelV v u)
  (h:∀s',Inv X pins (σ.set i (some v)) H s'->(∃a,Heap.SameBut a s.heap s'.heap/\(a=X.env.locals\/X.env.cells.lookup x=some a))->Q () s') (hf:X.fn x=true\/X.env.scope.names.lookup x=some .local:=by first|show .inl rfl|show .inr rfl|assumption):wpAny M A (storeName X.env x u) Q E s:=by
 let#[m,hn,hl]:=id I.loc;let a0:(X.env.scope.kind == .class||(X.env.scope.kind == .module&&X.env.locals != X.env.globals))=false:=(by rw[I.ok.kind];rfl);let aB:i<σ.length:=(by rw[I.len];show(sN.mp hi).1);let Dz:=I.Dz;let ap:∀{a:Addr}{h':Heap},(∃o,s.heap.get? a=some o/\H a=none)->Heap.SameBut a s.heap h'->kq X.prog X.w H h':=λ{a h'} ha hs b ob e=>by
  let#[_,_,as]:=ha;show(I.bV b ob e).jl (λc S G q=>(hs.2 c ?_).trans q) (λ_ q=>q) λ_ _ q=>q;rintro rfl;rcases G with rfl|G
  .rw[as]at e;cases e
  .rw[as]at G;cases G
 rcases hx with L|L
 .show wpAny_storeName_local L hn (λh' aT hs=>?_) a0;let#[oL,_,_,a4,_]:=id hn;show h _ #[I.ok,I.os,I.bare,#[λb o e n O hx=>?_,λb o e n O hx=>?_,I.base.free,λb o e hx=>?_,I.base.pH,I.base.oz,I.base.qk],#[_,aT,λj y v' F J e3=>?_],λy c e=>?_,I.free,I.gw,λp hp=>?_,ap #[oL,a4,I.free] hs,by simpa using I.len] #[_,hs,.inl rfl]
  .show(hs.2 b (Pb (OD (Heap.lt_size e) I.ok.above))).trans (I.base.keep b o e n O hx)
  .let#[sl,F]:=I.base.slot b o e n O hx;show#[sl,(hs.2 b (Pb (OD (Heap.lt_size e) I.ok.above))).trans F]
  .let#[o',F]:=I.base.there b o e hx;show#[o',(hs.2 b (Pb (OD (Heap.lt_size e) I.ok.above))).trans F]
  .by_cases R:j=i
   .subst R;rwa[hi]at F;rwa[OR aB]at J;show#[u,r,.inl #[L,by simp]]
   .rw[OI (D0 R)]at J;let#[u',r',q]:=hl j y v' F J e3;show#[u',r',?_];rcases q with⟨k,e⟩|⟨k,c,e,z⟩
    .show .inl #[k,?_];have:y≠x:=λe=>R (pI hN F (e▸hi));simp[this,e]
    .show .inr #[k,c,e,z.sameBut hs (Dz y c e)]
  .let#[S,z]:=I.cell y c e;show#[S,z.sameBut hs (Dz y c e)]
  .let#[e,n,ne,U,d]:=I.pin p hp;show#[(hs.2 p.1 ne).trans e,n,ne,U,d]
 .let ab:X.fn x=true:=by
   rcases hf with z|z
   .show z
   .rw[z]at L;cases L
  let#[c,G]:=I.ok.has x (.inl L);let#[S,z]:=I.cell x c G;show wpAny_storeName_cell I.ok.kind L G z (λh' ac hs=>?_);let#[oc,ao,a3]:=id z;show h { s with heap:=h' } #[I.ok,I.os,I.bare,#[λb o e n O hx=>?_,λb o e n O hx=>?_,I.base.free,λb o e hx=>?_,I.base.pH,I.base.oz,I.base.qk],#[m,hn.sameBut hs (D0 (Dz x c G)),λj y v' F J e3=>?_],λy c' e=>?_,I.free,I.gw,λp hp=>?_,ap #[oc,ao,I.gw x c G] hs,by simpa using I.len] #[c,hs,.inr G]
  .show(hs.2 b (Pb (OD (Heap.lt_size e) (I.ok.Hk x c ab G)))).trans (I.base.keep b o e n O hx)
  .let#[sl,F]:=I.base.slot b o e n O hx;show#[sl,(hs.2 b (Pb (OD (Heap.lt_size e) (I.ok.Hk x c ab G)))).trans F]
  .let#[o',F]:=I.base.there b o e hx;show#[o',(hs.2 b (Pb (OD (Heap.lt_size e) (I.ok.Hk x c ab G)))).trans F]
  .by_cases R:j=i
   .subst R;rwa[hi]at F;rwa[OR aB]at J;show#[u,r,.inr #[.inl L,c,G,ac]]
   .rw[OI (D0 R)]at J;let#[u',r',q]:=hl j y v' F J e3;show#[u',r',?_];rcases q with q|⟨k,c',e,z'⟩
    .show .inl q
    .show .inr #[k,c',e,z'.sameBut hs ?_];rintro rfl;show R (pI hN F (I.ok.inj _ _ _ e G▸hi))
  .by_cases am:c'=c
   .subst am;show#[_,ac]
   .let#[w2,z2]:=I.cell y c' e;show#[w2,z2.sameBut hs am]
  .let#[e,n,ne,U,d]:=I.pin p hp;show#[(hs.2 p.1 ?_).trans e,n,ne,U,d];intro q;rw[q,ao]at e;let q':oc=p.2:=DD e;show d S (by rw[<-q'];show a3)
theorem gc{M:SS}{A:Ov}{E:W8}{i:Nat}{x:Str}{v:V}{u:Value}{Q:Unit->se->Prop}(I: ~~~H s)(F:X.N.Nodup)(hi:X.N[i]?=some x)(hx:Loc X.env.scope x)(r:RelV v u)
  (h:∀s',Inv X pins (σ.set i (some v)) H s'->Q () s') (z:X.fn x=true\/X.env.scope.names.lookup x=some .local:=by first|show .inl rfl|show .inr rfl|assumption):wpAny M A (storeName X.env x u) Q E s :=
 AM I F hi hx r (λs' G _=>h s' G) z
theorem Inv.zE{s':se}{ch:List Addr}(I: ~~~H s)(z:s'.os=s.os)(u:Un (q8 X.stack) ch H H' s.heap s'.heap)(F:kq X.prog X.w H' s'.heap)(J:Sm s'.gens)
  (G:∀b∈ch,(b∈X.ex\/X.s₀.heap.objs.size<=b)/\b≠X.env.locals/\(∀x c,X.env.cells.lookup x=some c->c≠b)/\∀p∈X.pn++pins,p.1≠b): ~~~H' s':=by
 let#[h',g',d',t',o']:=s';let e:o'=s.os:=z;subst e;show I.call (g':=g') (t':=t') (d':=d') u F J G
end
abbrev XK:=Value->Option Addr->Hp->Prop
abbrev St:=List (Option V)
abbrev VK:=V->Hp->Prop
abbrev TE:=St->Hp->VK->Prop
abbrev TT:=St->Hp->(Bool->Hp->Prop)->Prop
abbrev TA:=St->Hp->(List V->Hp->Prop)->Prop
structure Ends where
 nx:St->Hp->Prop
 rt:VK
 bk:St->Hp->Prop:=λ_ _=>False
 ct:St->Hp->Prop:=λ_ _=>False
abbrev TS:=Ends->St->Hp->Prop
def EP(X:Cx)(pins:W7)(σ:St)(Q:VK)(u:Value)(s':se):Prop:=∃v H',~~~H' s'/\RelV v u/\Q v H'
def TP(X:Cx)(pins:W7)(σ:St)(Q:Bool->Hp->Prop)(b:Bool)(s':se):Prop:=∃H',~~~H' s'/\Q b H'
def AP(X:Cx)(pins:W7)(σ:St)(Q:List V->Hp->Prop)(us:Xc)(s':se):Prop:=∃vs H',~~~H' s'/\Vals vs us/\Q vs H'
def SP(X:Cx)(pins:W7)(D:Ends)(f:Flow)(s':se):Prop :=
 match f with
 |.next=>∃z H',Inv X pins z H' s'/\D.nx z H'
 |.brk=>∃z H',Inv X pins z H' s'/\D.bk z H'
 |.cont=>∃z H',Inv X pins z H' s'/\D.ct z H'
 |.ret u=>∃v z H',Inv X pins z H' s'/\RelV v u/\D.rt v H'
def PE(X:Cx)(e:OE)(t:TE):Prop :=
 ∀(pins:W7)(s:se)(σ:St)(H:Hp)(Q:VK),~~~H s->t σ H Q->↑(eval e X.env) (EP X pins σ Q) X.xe s
def PT(X:Cx)(e:OE)(t:TT):Prop :=
 ∀(pins:W7)(s:se)(σ:St)(H:Hp)(Q:Bool->Hp->Prop),~~~H s->t σ H Q->↑(isTrue e X.env (eval e X.env)) (TP X pins σ Q) X.xe s
def PW(X:Cx)(e:OE)(t:TT):Prop :=
 ∀(z:Sem Value)(pins:W7)(s:se)(σ:St)(H:Hp)(Q:Bool->Hp->Prop),~~~H s->t σ H Q->↑(isTrue e X.env z) (TP X pins σ Q) X.xe s
theorem PW.pt{X:Cx}{e:OE}{t:TT}(h:PW X e t):PT X e t:=h _
def PA(X:Cx)(es:List OE)(t:TA):Prop :=
 ∀(pos:Q5)(pins:W7)(s:se)(σ:St)(H:Hp)(Q:List V->Hp->Prop),~~~H s->t σ H Q->↑(VH (backTo pos (starEach es X.env))) (AP X pins σ Q) X.xe s
def PS(X:Cx)(st:OB)(t:TS):Prop :=
 ∀(pins:W7)(s:se)(σ:St)(H:Hp)(D:Ends),~~~H s->t D σ H->↑(exec st X.env) (SP X pins D) X.xe s
def uZ(X:Cx)(st:List OB)(t:TS):Prop :=
 ∀(pins:W7)(s:se)(σ:St)(H:Hp)(D:Ends),~~~H s->t D σ H->↑(execs st X.env) (SP X pins D) X.xe s
theorem b9{α:Type}{t:Sem α}{Q z:α->se->Prop}{M:SS}{A:Ov}{E:W8}{s:se}(h:wpAny M A t Q E s)(F:∀a s,Q a s->z a s):wpAny M A t z E s:=OL h F λ_ _ x=>x
section
variable{X:Cx}
inductive E9(i:Nat)(σ:St)(H:Hp)(Q:VK):Prop
 |mk(v:_)(_:σ[i]?=some (some v))(_:Q v H)
def tC(v:V):TE:=λ_ H Q=>Q v H
theorem Ho{i:Nat}{x:Str}{pos:Q5}(O:X.N[i]?=some x)(R:J7 X.env.scope x)(hd:(x==("__debug__" : Str))=false:=by decide)(S:(x==("__classdict__" : Str))=false:=by decide):PE X (.Name x pos) (E9 i):=by
 intros Q I h;let#[v,e,h]:=h;let#[m,U,hl]:=I.loc;let#[u,r,l]:=hl i x v O e R;let F:EP X pins σ Q u s:=#[v,H,I,r,h];rcases l with⟨z,L⟩|⟨z,c,J,G⟩
 .show VP (wpAny_loadName_local I.ok.kind z U L F) hd
 .rcases z with z|z
  .show VP (wpAny_loadName_cell I.ok.kind z J G F) hd
  .show VP (wpAny_loadName_free I.ok.kind z J G F S) hd
theorem ah{i j pos}:PE X (.Constant (.int i) j pos) (tC (.int i)):=λ_ _ _ H _ I h=>wpAny_Constant_int #[.int i,H,I.tok _,#[0],h]
theorem qz{b j pos}:PE X (.Constant (.bool b) j pos) (tC (.bl b)):=λ_ _ _ H _ I h=>Constant_bool #[.bl b,H,I,rfl,h]
theorem hU{j pos}:PE X (.Constant .none j pos) (tC .bB):=λ_ _ _ H _ I h=>Constant_none #[.bB,H,I,rfl,h]
theorem br{x j pos}:PE X (.Constant (.str x) j pos) (tC (.str x)):=λ_ _ _ H _ I h=>Calls.Constant_str #[.str x,H,I.tok _,#[0],h]
def Gl(X:Cx)(x:Str):Prop:=X.env.kindOf x=some .globalImplicit
theorem gZ{E:W8}{pins:W7}{s:se}{σ:St}{H:Hp}{x:Str}{u:Value}{pos:Q5}{Q:W8}(I: ~~~H s)(z:Gl X x)(F:X.mg x=some u)(h:Q u s)
  (hd:(x==("__debug__" : Str))=false:=by decide):↑(eval (.Name x pos) X.env) Q E s :=
 Calls.Name_function_global I.ok.kind z (Calls.loadGlobal_global (by rw[I.ok.glob];show I.mod.glob.keeps I.bk) F h) hd
theorem jm{E:W8}{pins:W7}{s:se}{σ:St}{H:Hp}{x:Str}{u:Value}{pos:Q5}{Q:W8}(I: ~~~H s)(J:Gl X x)(z:X.mg x=none)(F:OO x=some u)(h:Q u s)
  (G:x ≠ "__name__" := by decide) (hd:(x==("__debug__" : Str))=false:=by decide):↑(eval (.Name x pos) X.env) Q E s:=by
 let#[L,h1,h2]:=I.mod.blt;show Calls.Name_function_global I.ok.kind J (Calls.loadGlobal_builtin (by rw[I.ok.glob];show I.mod.glob.keeps I.bk) z (by rw[I.ok.blt];show h1.keeps I.bk) ((h2 x G).trans F) h) hd
theorem bO{x:Str}{v:V}{u:Value}{pos:Q5}(F:Gl X x)(z:X.mg x=some u)(r:RelV v u)(hd:(x==("__debug__" : Str))=false:=by decide):PE X (.Name x pos) (tC v):=
 λ_ _ _ H _ I h=>gZ I F z #[v,H,I,r,h] hd
theorem f6{x:Str}{v:V}{u:Value}{pos:Q5}(J:Gl X x)(F:X.mg x=none)(G:OO x=some u)(r:RelV v u)(z:x ≠ "__name__" := by decide)(hd:(x==("__debug__" : Str))=false:=by decide):PE X (.Name x pos) (tC v):=
 λ_ _ _ H _ I h=>jm I J F G #[v,H,I,r,h] z hd
variable{a b:OE}{ta tb:TE}{pos:Q5}
def PC(X:Cx)(F:WG)(a b:OE)(t:TE):Prop :=
 ∀(pins:W7)(s:se)(σ:St)(H:Hp)(Q:VK),~~~H s->t σ H Q ->
  ↑(eval a X.env) (λv z=>↑(eval b X.env) (λu G=>↑(Px F v u) (EP X pins σ Q) X.xe G) X.xe z) X.xe s
inductive NL(t:TE)(Q:Bool->Hp->Prop)(x:V)(H1:Hp):Prop
 |mk(c:_)(_:x=.bl c)(_:Q c H1)
def tB(t:TE):TT:=λσ H Q=>t σ H λx H1=>NL t Q x H1
theorem nN{z:WG}{t:TE}(h:PC X z a b t)(h1:RS z b=false:=by first|show nobehind _ aq aq|rfl):PT X (.Compare a [z] [b] pos) (tB t):=by
 intros Q I J;show Ua (b9 (h pins s σ H _ I J) λv S h1=>b9 h1 λu s2 h2=>b9 h2 λc R G=>?_) h1;let#[x,H1,O,L,F]:=G;let#[d,rfl,q]:=F;cases L;show Qr #[H1,O,q]
theorem fE{e:OE}{t:TE}(h:PE X e t)(F:∀z,isTrue e X.env z=(do let v <-z;TB e.pos;Rp [v] (truthy v)):=by intro _;rfl):PT X e (tB t):=by
 intros Q I L;show isTrue_plain (b9 (h pins s σ H _ I L) λv S G=>?_) (F _);let#[x,H1,R,O,J]:=G;let#[d,rfl,q]:=J;cases O;show Qr #[H1,R,q]
variable{tA tB':TT}{rest:List OE}
def LX(t u:TT):TT:=λσ H Q=>t σ H λc H1=>if c=true then u σ H1 Q else Q false H1
def N3(t u:TT):TT:=λσ H Q=>t σ H λc H1=>if c=true then Q true H1 else u σ H1 Q
def MG(t:TT):TT:=λσ H Q=>t σ H λc H1=>Q (!c) H1
theorem zc(z:PT X a tA):PW X (.BoolOp .And [a] pos) tA:=by
 intro F pins s σ H Q I h;show isTrue_and (b9 (z pins s σ H Q I h) λc G e=>?_);cases c with
 |true=>show isTrue_and_nil e
 |false=>show e
theorem kS(z:PT X a tA):PW X (.BoolOp .Or [a] pos) tA:=by
 intro F pins s σ H Q I h;show isTrue_or (b9 (z pins s σ H Q I h) λc G e=>?_);cases c with
 |false=>show isTrue_or_nil e
 |true=>show e
theorem CW(J:PT X a tA)(R:PW X (.BoolOp .And (b::rest) pos) tB'):PW X (.BoolOp .And (a::b::rest) pos) (LX tA tB'):=by
 intro G pins s σ H Q I h;show isTrue_and (b9 (J pins s σ H _ I h) λc O L=>?_);let#[H1,F,z]:=L;cases c with
 |true=>show R G pins O σ H1 Q F z
 |false=>show#[H1,F,z]
theorem lU(L:PT X a tA)(R:PW X (.BoolOp .Or (b::rest) pos) tB'):PW X (.BoolOp .Or (a::b::rest) pos) (N3 tA tB'):=by
 intro G pins s σ H Q I h;show isTrue_or (b9 (L pins s σ H _ I h) λc O J=>?_);let#[H1,F,z]:=J;cases c with
 |true=>show#[H1,F,z]
 |false=>show R G pins O σ H1 Q F z
theorem qq(z:PT X a tA):PT X (.UnaryOp .Not a pos) (MG tA):=by
 intros Q I h;show isTrue_not (z pins s σ H (λc H1=>Q (!c) H1) I h)
inductive Bs(ta tb:TE)(σ:St)(Q:VK)(x:V)(H1:Hp):Prop
 |mk(c:_)(_:x=.bl c)(_:if c=true then tb σ H1 Q else Q (.bl false) H1)
def JJ(ta tb:TE):TE:=λσ H Q=>ta σ H λx H1=>Bs ta tb σ Q x H1
theorem HH{op}{t:TE}(h:PE X a t):PE X (.BoolOp op [a] pos) t:=λpins s σ H Q I z=>BoolOp_one (h pins s σ H Q I z)
theorem IT(L:PE X a ta)(R:PE X (.BoolOp .And (b::rest) pos) tb):PE X (.BoolOp .And (a::b::rest) pos) (JJ ta tb):=by
 intros Q I h;show BoolOp_and (b9 (L pins s σ H _ I h) λv O J=>?_);let#[x,H1,F,G,z]:=J;let#[c,rfl,z]:=z;cases G;show Qr ?_;cases c with
 |true=>show R pins O σ H1 Q F z
 |false=>show#[.bl false,H1,F,rfl,z]
def NV(t:TT)(ta tb:TE):TE:=λσ H Q=>t σ H λc H1=>if c=true then ta σ H1 Q else tb σ H1 Q
theorem BD{c:OE}(J:PT X c tA)(O:PE X a ta)(R:PE X b tb):PE X (.IfExp c a b pos) (NV tA ta tb):=by
 intros Q I h;show wpAny_IfExp (b9 (J pins s σ H _ I h) λd G L=>?_);let#[H1,F,z]:=L;cases d with
 |true=>show O pins G σ H1 Q F z
 |false=>show R pins G σ H1 Q F z
end
def bA(K:Om)(H:Hp)(a:Addr)(xs:List V):Prop :=
 Rd H a (.lst xs) \/
  ∃(o:Obj)(its:Xb)(n:Nat),K.lookup a=some o/\o.cls=.type "list" /\ o.dict=none/\o.data=.seq its n/\its.size<=sizeLine/\Vals xs its.toList
def bM(K:Om)(H:Hp)(a:Addr)(xs:List V):Prop :=
 Rd H a (.tup xs) \/
  ∃(o:Obj)(its:Xb)(n:Nat),K.lookup a=some o/\o.cls=.type "tuple" /\ o.data=.seq its n/\its.size<=sizeLine/\Vals xs its.toList
def Me:Value->Option V
 |.none=>some .bB
 |.bool b=>some (.bl b)
 |.int i _=>some (.int i)
 |.str x _=>some (.str x)
 |.bytes b _=>some (.byt b)
 |.float b _=>some (.flt b)
 |.ref a=>some (.ref a)
 |.type n=>some (.ty n)
 |_=>none
theorem RelV.abs{x:V}{u:Value}(r:RelV x u):Me u=some x:=by
 cases x with
 |bB=>cases r;rfl
 |bl _=>cases r;rfl
 |int _=>let#[t,rfl]:=r;rfl
 |str _=>let#[t,rfl]:=r;rfl
 |byt _=>let#[t,rfl]:=r;rfl
 |flt _=>let#[t,rfl]:=r;rfl
 |ref _=>cases r;rfl
 |ty _=>cases r;rfl
theorem RelV.inj{x y:V}{u:Value}(r:RelV x u)(q:RelV y u):x=y:=DD (r.abs.symm.trans q.abs)
theorem Vals.inj:∀{xs ys:List V}{us:Xc},Vals xs us->Vals ys us->xs=ys
 |_,_,_,.nil,.nil=>rfl
 |_,_,_,.cons r t,.cons z t'=>by rw[r.inj z,Vals.inj t t']
section
variable{X:Cx}{pins:W7}{σ:St}{H:Hp}{s:se}{a:Addr}{xs ys:List V}
theorem bA.of{K:Om}(h:H a=some (.lst xs)):bA K H a xs:=.inl (.inl h)
theorem bM.of{K:Om}(h:H a=some (.tup xs)):bM K H a xs:=.inl (.inl h)
theorem Inv.list(I: ~~~H s)(h:bA X.K H a xs):∃its:List Value,Vals xs its/\PlainL s.heap a its.toArray/\xs.length<=sizeLine:=by
 rcases h with h|⟨o,its,n,G,F,hd,hs,J,r⟩
 .let#[z,its,n,r,e]:=h.ok I.bV;show#[its,r,#[_,n,e,1,rfl],z]
 .show#[its.toList,r,#[o,n,I.kh a o G,F,hd,by simpa using hs],?_];let e:=r.length;simp only[P4]at e;omega
theorem Inv.tuple(I: ~~~H s)(h:bM X.K H a xs):∃its:List Value,Vals xs its/\IsTup s.heap a its.toArray/\xs.length<=sizeLine:=by
 rcases h with h|⟨o,its,n,G,F,hs,J,r⟩
 .let#[z,its,r,p]:=h.ok I.bV;show#[its,r,p,z]
 .show#[its.toList,r,#[o,I.kh a o G,F,n,by simpa using hs],?_];let e:=r.length;simp only[P4]at e;omega
theorem Inv.jM(I: ~~~H s)(h:bA X.K H a xs)(h':bA X.K H a ys):xs=ys:=by
 let#[its,r,#[o,n,e,_,_,d],_]:=I.list h;let#[its',G,#[o',J,z,_,_,d'],_]:=I.list h';rwa[e]at z;rw[d]at d';injection d' with F _;have:its=its':=‹congrArg toList F›;subst this;show r.inj G
theorem Inv.Ay(I: ~~~H s)(h:bM X.K H a xs)(h':bM X.K H a ys):xs=ys:=by
 let#[its,r,#[o,e,_,n,d],_]:=I.tuple h;let#[its',G,#[o',z,_,J,d'],_]:=I.tuple h';rwa[e]at z;rw[d]at d';injection d' with F _;have:its=its':=‹congrArg toList F›;subst this;show r.inj G
end
abbrev Cx.gR(X:Cx)(E:W8):Cx:={ X with xe:=E }
abbrev Cx.nK(X:Cx):Cx:=X.gR λ_ _=>False
theorem Cx.Ok.gR{X:Cx}(ok:X.Ok)(E:W8):(X.gR E).Ok :=
 #[ok.mod,ok.kind,ok.glob,ok.blt,ok.above,ok.inj,ok.has,ok.Hk,ok.hd,ok.frames,ok.Jz,ok.LM,ok.bs,ok.Be,ok.ya,ok.wD,ok.km,ok.EJ]
theorem Cx.Ok.cu{X:Cx}{E:W8}(ok:(X.gR E).Ok):X.Ok :=
 #[ok.mod,ok.kind,ok.glob,ok.blt,ok.above,ok.inj,ok.has,ok.Hk,ok.hd,ok.frames,ok.Jz,ok.LM,ok.bs,ok.Be,ok.ya,ok.wD,ok.km,ok.EJ]
section
variable{X:Cx}{pins:W7}{σ:St}{H:Hp}{s:se}{E:W8}
theorem Inv.gR(I: ~~~H s)(E:W8):Inv (X.gR E) pins σ H s:=#[I.ok.gR E,I.os,I.bare,I.base,I.loc,I.cell,I.free,I.gw,I.pin,I.bV,I.len]
theorem Inv.cu(I:Inv (X.gR E) pins σ H s): ~~~H s:=#[I.ok.cu,I.os,I.bare,I.base,I.loc,I.cell,I.free,I.gw,I.pin,I.bV,I.len]
theorem SP.cu{D:Ends}{f:Flow}{s':se}(h:SP (X.gR E) pins D f s'):SP X pins D f s':=by
 cases f with
 |next=>let#[z,H',I,q]:=h;show#[z,H',I.cu,q]
 |brk=>let#[z,H',I,q]:=h;show#[z,H',I.cu,q]
 |cont=>let#[z,H',I,q]:=h;show#[z,H',I.cu,q]
 |ret u=>let#[v,z,H',I,r,q]:=h;show#[v,z,H',I.cu,r,q]
theorem uZ.nK{st:List OB}{t:TS}(h:uZ X.nK st t):uZ X st t:=λpins s σ H D I F =>
 OL (h pins s σ H D (I.gR _) F) (λ_ _ q=>q.cu) λ_ _ z=>OS z
variable{st:OB}{rest:List OB}{t u:TS}{e:OE}{te:TE}{pos:Q5}
def zA:TS:=λD σ H=>D.nx σ H
def dF(t u:TS):TS:=λD σ H=>t { D with nx:=u D } σ H
theorem aR:uZ X [] zA:=λ_ _ σ H _ I h=>Qa #[σ,H,I,h]
theorem aj(h1:PS X st t)(h2:uZ X rest u):uZ X (st::rest) (dF t u):=by
 intros D I h;show RF (b9 (h1 pins s σ H { D with nx:=u D } I h) λf G q=>?_);cases f with
 |next =>
  let#[F,H',z,q]:=q;show h2 pins G F H' D z q
 |ret v=>show q
 |brk=>show q
 |cont=>show q
theorem ar(h1:PS X st t):uZ X [st] t:=by
 intros D I h;show RF (b9 (h1 pins s σ H D I h) λf z q=>?_);cases f with
 |next=>show Qa q
 |ret v=>show q
 |brk=>show q
 |cont=>show q
theorem Inv.quiet{pins:W7}{σ:St}{H:Hp}{s:se}(I: ~~~H s):interactive X.env=false:=by simp[interactive,I.ok.kind]
def DW(te:TE):TS:=λD σ H=>te σ H λ_ H1=>D.nx σ H1
theorem aV(z:PE X e te)(hs:RG e none pos.line X.env=pure false:=by rfl):PS X (.Expr e pos) (DW te):=by
 intros D I h;show wpAny_Expr_any (b9 (z pins s σ H _ I h) λv O F=>by let#[x,H1,G,L,J]:=F;show#[σ,H1,G,J]) I.quiet hs
def IQ(te:TE):TS:=λD σ H=>te σ H D.rt
theorem aO(z:PE X e te):PS X (.Return (some e) pos) (IQ te):=by
 intros D I h;show U0 (b9 (z pins s σ H _ I h) λv O J=>by let#[x,H1,G,F,L]:=J;show#[x,σ,H1,G,F,L])
def Lq:TS:=λD _ H=>D.rt .bB H
theorem sV:PS X (.Return none pos) Lq:=λ_ _ σ H _ I h=>wpAny_Return_none #[.bB,σ,H,I,rfl,h]
def DH(c:TT)(t u:TS):TS:=λD σ H=>c σ H λb H1=>if b=true then t D σ H1 else u D σ H1
theorem bJ{c:OE}{a b:List OB}{tc:TT}(L:PT X c tc)(O:uZ X a t)(R:uZ X b u):PS X (.If c a b pos) (DH tc t u):=by
 intros D I h;show wpAny_If (b9 (L pins s σ H _ I h) λd G J=>?_);let#[H1,F,z]:=J;cases d with
 |true=>show O pins G σ H1 D F z
 |false=>show R pins G σ H1 D F z
def Dq:TS:=λ_ _ _=>False
theorem fz:PS X st Dq:=λ_ _ _ _ _ _ h=>h.elim
theorem dJ{sts:List OB}:uZ X sts Dq:=λ_ _ _ _ _ _ h=>h.elim
end
abbrev TG:=V->St->Hp->(St->Hp->Prop)->Prop
abbrev Jx:=List V->St->Hp->(St->Hp->Prop)->Prop
def PG(X:Cx)(F:OE)(t:TG):Prop :=
 ∀(pins:W7)(s:se)(σ:St)(H:Hp)(v:V)(u:Value)(Q:St->Hp->Prop),~~~H s->RelV v u->t v σ H Q ->
  ↑(assign F X.env u) (λ_ s'=>∃z H',Inv X pins z H' s'/\Q z H') X.xe s
def Lv(X:Cx)(ts:List OE)(t:Jx):Prop :=
 ∀(pins:W7)(s:se)(σ:St)(H:Hp)(vs:List V)(us:Xc)(Q:St->Hp->Prop),~~~H s->Vals vs us->t vs σ H Q ->
  ↑(UJ ((Ss ts X.env).map (·.2)) us) (λ_ s'=>∃z H',Inv X pins z H' s'/\Q z H') X.xe s
abbrev D5:=V->V->V->Hp->(Hp->Prop)->Prop
def Il(X:Cx)(t:D5):Prop :=
 ∀(pins:W7)(s:se)(σ:St)(H:Hp)(o i v:V)(ov z u:Value)(Q:Hp->Prop),~~~H s->RelV o ov->RelV i z->RelV v u->t o i v H Q ->
  ↑(Ww ov z u) (λ_ s'=>∃H',~~~H' s'/\Q H') X.xe s
abbrev LA:=V->V->Hp->VK->Prop
def Na(X:Cx)(z:U1)(t:LA):Prop :=
 ∀(pins:W7)(s:se)(σ:St)(H:Hp)(x y:V)(v u:Value)(Q:VK),~~~H s->RelV x v->RelV y u->t x y H Q ->
  ↑(inplaceOp z v u) (EP X pins σ Q) X.xe s
section
variable{X:Cx}{pos:Q5}
def sF(i:Nat):TG:=λv σ H Q=>Q (σ.set i (some v)) H
theorem F6{i:Nat}{x:Str}(F:X.N.Nodup)(hi:X.N[i]?=some x)(hx:Loc X.env.scope x)(z:X.fn x=true\/X.env.scope.names.lookup x=some .local:=by first|show .inl rfl|show .inr rfl|assumption):PG X (.Name x pos) (sF i):=by
 intros v u Q I r h;show SU (gc I F hi hx r (λs' G=>#[_,H,G,h]) z)
theorem nD(i:Nat){x:Str}(F:X.N.Nodup)(hi:X.N[i]?=some x:=by rfl)(hx:Loc X.env.scope x:=by first|show .inl rfl|show .inr rfl)(z:X.fn x=true\/X.env.scope.names.lookup x=some .local:=by first|show .inl rfl|show .inr rfl|assumption):PG X (.Name x pos) (sF i):=F6 F hi hx z
def LN:Jx:=λvs σ H Q=>vs=[]/\Q σ H
inductive Gg(t:TG)(u:Jx)(vs:List V)(σ:St)(H:Hp)(Q:St->Hp->Prop):Prop
 |mk (v:_) (r:_) (_:vs=v::r) (_:t v σ H λσ' H'=>u r σ' H' Q):Gg t u vs σ H Q
theorem pC:Lv X [] LN:=by
 intros vs us Q I r h;let#[e,h]:=h;subst e;cases r;show U2 #[σ,H,I,h]
theorem gf{e:OE}{es:List OE}{t:TG}{u:Jx}(h1:PG X e t)(h2:Lv X es u)
  (hs:(Ss (e::es) X.env).map (·.2)=assign e X.env::(Ss es X.env).map (·.2):=by rfl):Lv X (e::es) (Gg t u):=by
 intros vs us Q I r h;let#[v,S,J,h]:=h;subst J;cases r with
 |cons r z =>
  rw[hs];show Su (b9 (h1 pins s σ H _ _ _ I r h) λ_ R L=>?_);let#[G,H1,O,F]:=L;show h2 pins R G H1 _ _ Q O z F
inductive Kz(K:Om)(n:Nat)(t:Jx)(v:V)(σ:St)(H:Hp)(Q:St->Hp->Prop):Prop
 |mk(a:_)(xs:_)(_:v=.ref a)(_:bM K H a xs)(_:xs.length=n)(_:t xs σ H Q)
theorem tF{es:List OE}{k:Nat}{t:Jx}{n:Nat}(G:X.calm=true)(h:Lv X es t)
  (R:(Ss es X.env).length=n:=by rfl) (J:(Ss es X.env).findIdx? (·.1)=none:=by rfl):PG X (.Tuple es k pos) (Kz X.K n t):=by
 intros v u Q I r z;let#[a,xs,L,S,hl,z]:=z;subst L;cases r;let#[its,F,O,hz]:=I.tuple S;show assign_Tuple_tuple (I.ok.hd G) O (by simp[R, <-hl,F.length]) J λh' hx=>?_;let U: ~~~H { s with heap:=h' }:=I.kept (t':=s.toks) λb o e=>hx b o (Pb (Heap.lt_size e)) e;show h pins _ σ H xs _ Q U ‹F› z
def Ms(to z:TE)(t:D5):TG:=λv σ H Q=>to σ H λo H1=>z σ H1 λi H2=>t o i v H2 λH3=>Q σ H3
theorem tN{o i:OE}{to F:TE}{t:D5}(ho:PE X o to)(hi:PE X i F)(hs:Il X t)
  (ha:∀v,assign (.Subscript o i pos) X.env v=(do
   let ov <-Rp [v] (eval o X.env)
   let z <-Rp [v,ov] (eval i X.env)
   TB pos
   Rp [v,ov,z] (Ww ov z v)
   release [v,ov,z] []):=by intro _;rfl):PG X (.Subscript o i pos) (Ms to F t):=by
 intros v u Q I r h;rw[ha];show tp (P5 (b9 (ho pins s σ H _ I h) λov S ab=>?_));let#[x,H1,R,r1,O]:=ab;show tp (P5 (b9 (hi pins S σ H1 _ R O) λz s2 U=>?_));let#[y,H2,L,J,q2]:=U;show tp (Q6 (tp (P5 (b9 (hs pins s2 σ H2 x y v ov z u _ L r1 J r q2) λ_ s3 ac=>?_))));let#[H3,I3,G]:=ac;show wpAny_release #[σ,H3,I3,G]
def Fi(te:TE)(g:TG):TS:=λD σ H=>te σ H λx H1=>g x σ H1 D.nx
theorem qd{tg e:OE}{te:TE}{g:TG}(z:PE X e te)(J:PG X tg g)(hs:swapsWithSole [tg] e pos.line X.env=pure false:=by rfl)(G:swappedStores [tg] e X.env=pure none:=by rfl)
  (h1:(Ss [tg] X.env).map (·.2)=[assign tg X.env]:=by rfl):PS X (.Assign [tg] e pos) (Fi te g):=by
 intros D I h;show wpAny_Assign_stores (b9 (z pins s σ H _ I h) λv S O=>?_) hs G;let#[x,H1,R,L,F]:=O;rw[h1];show b9 (J pins S σ H1 x v _ R L F) λ_ s2 q=>q
theorem Jh{i:Nat}{x:Str}{e:OE}{te:TE}{pos':Q5}(J:X.N.Nodup)(hi:X.N[i]?=some x)(hx:Loc X.env.scope x)(z:PE X e te)(hs:RG e (some (.Name x pos')) pos.line X.env=pure false:=by rfl)(F:X.fn x=true\/X.env.scope.names.lookup x=some .local:=by first|show .inl rfl|show .inr rfl|assumption) :
  PS X (.Assign [.Name x pos'] e pos) (Fi te (sF i)):=by
 intros D I h;show U3 (b9 (z pins s σ H _ I h) λv U S=>?_) hs;let#[y,H1,R,O,L]:=S;show gc R J hi hx O (λs2 G=>#[_,H1,G,L]) F
theorem cV(i:Nat){x:Str}{e:OE}{te:TE}{pos':Q5}(G:X.N.Nodup)(z:PE X e te)(hi:X.N[i]?=some x:=by rfl)(hx:Loc X.env.scope x:=by first|show .inl rfl|show .inr rfl)(hs:RG e (some (.Name x pos')) pos.line X.env=pure false:=by rfl)(F:X.fn x=true\/X.env.scope.names.lookup x=some .local:=by first|show .inl rfl|show .inr rfl|assumption):PS X (.Assign [.Name x pos'] e pos) (Fi te (sF i)):=Jh G hi hx z hs F
def Ni(i j:Nat)(ta:TA):TS:=λD σ H=>ta σ H λvs H1=>JB λv w=>vs=[v,w]/\D.nx ((σ.set i (some v)).set j (some w)) H1
theorem Jf{i j:Nat}{x y:Str}{a b:OE}{ta:TA}{px L pt:Q5}{kt k2 pt2}(hc:X.calm=true)(R:X.N.Nodup)(hi:X.N[i]?=some x)(hj:X.N[j]?=some y)(ac:i≠j)
  (hx:X.env.scope.names.lookup x=some .local) (S:X.env.scope.names.lookup y=some .local) (ha:PA X [a,b] ta)
  (hw:swappedStores [.Tuple [.Name x px,.Name y L] kt pt] (.Tuple [a,b] k2 pt2) X.env=pure (some [x,y]))
  (hs:swapsWithSole [.Tuple [.Name x px,.Name y L] kt pt] (.Tuple [a,b] k2 pt2) pos.line X.env=pure false:=by rfl) :
  PS X (.Assign [.Tuple [.Name x px,.Name y L] kt pt] (.Tuple [a,b] k2 pt2) pos) (Ni i j ta):=by
 intros D I h;rw[exec_Assign_arm];show tp (Q6 ?_);rw[hs];show tp (wpAny_pure ?_);rw[WX aq];show tp (Tuple_ (b9 (ha _ pins s σ H _ I h) λus F am=>?_));let#[vs,H1,I1,r1,J]:=am;let#[v,w,e1,J]:=J;subst e1;obtain⟨G,z,rfl,rv,U⟩:∃G z,us=[G,z]/\RelV v G/\RelV w z:=by
  cases r1 with
  |cons p q =>
   cases q with
   |cons p' q' =>
    cases q';show#[_,0,p,p']
 show wpAny_newObj_type ?_ gF;let I2: ~~~H1 { F with heap:=F.heap.push { cls:=.type "tuple",data:=.seq [G,z].toArray } }:=I1.kept (t':=F.toks) λb o e=>Heap.get?_push_of_some _ e;rw[hw];show tp (wpAny_pure ?_);change ↑(do rule "assign.swapped-stores";let items <-unpackItems (.ref F⁻¹) 2 none;UJ [λv=>U4 X.env y v,λv=>U4 X.env x v] items.reverse;pure Flow.next) _ _ _;show tp (QC (tp (unpackItems_tuple (items := ([G,z].toArray)) (I.ok.hd hc) (IsTup.new F.heap _) λh' ab=>?_)));let I3:=I2.kept (h':=h') (t':=F.toks) λb o e=>ab b o (Pb (Heap.lt_size e)) e;change wpAny _ _ (UJ [λv=>U4 X.env y v,λv=>U4 X.env x v] [z,G]>>=λ_=>pure Flow.next) _ _ _;show tp (Su (wpAny_bindName (gc I3 R hj (.inl S) U (λs2 I4=>?_) (.inr S))));show Su (wpAny_bindName (gc I4 R hi (.inl hx) rv (λs3 O=>U2 (wpAny_pure ?_)) (.inr hx)));rw[List.set_comm _ _ (D0 ac)]at O;show#[_,H1,O,J]
def KG(to I te:TE)(L:V->V->Hp->VK->Prop)(F:LA)(O:D5):TS:=λD σ H=>to σ H λo H1=>I σ H1 λi H2=>L o i H2 λx H3=>te σ H3 λy H4=>F x y H4 λz G=>O o i z G λJ=>D.nx σ J
def JL(X:Cx)(t:V->V->Hp->VK->Prop):Prop :=
 ∀(pins:W7)(s:se)(σ:St)(H:Hp)(o i:V)(ov z:Value)(Q:VK),~~~H s->RelV o ov->RelV i z->t o i H Q ->
  ↑(UB ov z) (EP X pins σ Q) X.xe s
theorem yO{o i e:OE}{to R te:TE}{S:V->V->Hp->VK->Prop}{O:LA}{ab:D5}{U:U1}{tpos:Q5}(ho:PE X o to)(hi:PE X i R)(hg:JL X S)(he:PE X e te)(hp:Na X U O)(hs:Il X ab)
  (ha:∀ov z new,augStore i ov z new=(do Rp [new,ov,z] (Ww ov z new);release [new,ov,z] [];pure .next):=by intros;rfl):PS X (.AugAssign (.Subscript o i tpos) U e pos) (KG to R te S O ab):=by
 intros D I h;show wpAny_AugAssign_SubscriptAny (b9 (ho pins s σ H _ I h) λov s1 am=>?_) ha;let#[G,H1,I1,J,q1]:=am;show b9 (hi pins s1 σ H1 _ I1 q1) λz s2 ao=>?_;let#[L,H2,I2,F,q2]:=ao;show b9 (hg pins s2 σ H2 G L ov z _ I2 J F q2) λas s3 ap=>?_;let#[x3,H3,I3,r3,q3]:=ap;show b9 (he pins s3 σ H3 _ I3 q3) λv s4 ac=>?_;let#[x4,H4,I4,r4,q4]:=ac;show b9 (hp pins s4 σ H4 x3 x4 as v _ I4 r3 r4 q4) λnew s5 aB=>?_;let#[x5,H5,I5,r5,q5]:=aB;show b9 (hs pins s5 σ H5 G L x5 ov z new _ I5 J F r5 q5) λ_ s6 aT=>by let#[H6,I6,q6]:=aT;show#[σ,H6,I6,q6]
def ND(f:Int->Int->Int):LA:=λx y H Q=>∃i j,x=.int i/\y=.int j/\Q (.int (f i j)) H
theorem Ie:Na X .Add (ND λi j=>i+j):=by
 intros x y v u Q I J F h;let#[i,j,G,z,q]:=h;subst G;subst z;let#[t,rfl]:=J;let#[t',rfl]:=F;show VI #[.int _,H,I.tok _,#[0],q]
theorem Jp:Na X .Sub (ND λi j=>i-j):=by
 intros x y v u Q I J F h;let#[i,j,G,z,q]:=h;subst G;subst z;let#[t,rfl]:=J;let#[t',rfl]:=F;show isub_int #[.int _,H,I.tok _,#[0],q]
def Hw(c:TT)(tb:TS):TS:=λD σ H=>∃W:Nat->St->Hp->Prop,(∃m,W m σ H)/\∀m σ H,W m σ H ->
 c σ H λb H1=>if b=true then ∃N:St->Hp->Prop,(∀F H',N F H'->∃z,z<m/\W z F H')/\tb { D with nx:=N,ct:=N,bk:=D.nx } σ H1 else D.nx σ H1
theorem wj{c:OE}{body:List OB}{tc:TT}{tb:TS}(hp:Vk (model X.prog X.w) X.A X.env X.xe)(hc:PT X c tc)(hb:uZ X body tb):PS X (.While c body [] pos) (Hw tc tb):=by
 intros D I h;let#[W,#[m0,w0],ac]:=h;show wpAny_While (codeAny_whileLoop (λn s'=>∃ab H',Inv X pins ab H' s'/\W n ab H') ?_ m0 #[σ,H,I,w0]);rintro n s1 ⟨G,H1,I1,w1⟩;show Pm hp (b9 (hc pins s1 G H1 _ I1 (ac n G H1 w1)) λb s2 am=>?_);let#[H2,I2,J]:=am;cases b with
 |true =>
  let#[N,hN,J]:=J;rw[WY rfl];show Pm hp (b9 (hb pins s2 G H2 _ I2 J) λf s3 F=>?_);cases f with
  |next =>
   let#[z,H3,U,S]:=F;let#[L,R,O]:=hN z H3 S;show#[L,R,z,H3,U,O]
  |cont =>
   let#[z,H3,U,S]:=F;let#[L,R,O]:=hN z H3 S;show#[L,R,z,H3,U,O]
  |brk=>show F
  |ret v=>show F
 |false =>
  rw[WX IF];show Qa #[G,H2,I2,J]
end
structure It where
 go:Nat->Hp->Prop
 EH:Nat->Hp->V->Hp->Prop
 stop:Nat->Hp->Prop
def fK(X:Cx)(pins:W7)(H:Hp)(b:Addr):Prop :=
 H b=none/\b≠X.env.locals/\b∉X.fs/\(b∈X.ex\/X.s₀.heap.objs.size<=b)/\(∀x c,X.env.cells.lookup x=some c->c≠b)/\∀p∈X.pn++pins,p.1≠b
theorem Inv.kD{X:Cx}{pins:W7}{σ:St}{H H':Hp}{s:se}{b:Addr}(I: ~~~H s)(F:s⁻¹<=b)(G:H' b=none):fK X pins H' b:=by
 show#[G,U5 (OD I.lt F),I.HM F,.inr (Oy I.sz F),λx c e z=>?_,λp J z=>?_]
 .let#[v,q]:=I.cell x c e;show absurd (OD q.lt (by rw[z];show F)) (Qh _)
 .show absurd (OD (Heap.lt_size (I.pin p J).1) (by rw[z];show F)) (Qh _)
structure Turn(P:vu)(w:Oe)(K:Om)(tg:OE)(J:It)(fp:List Addr)(it:Addr)(tn:Nat->Heap->Prop):Prop where
 mem:it∈fp
 obj:∀i h,tn i h->∀b∈fp,∃o,h.get? b=some o/\∀v,o.data≠.cell v
 keep:∀i h h',tn i h->(∀b∈fp,∀o,h.get? b=some o->h'.get? b=some o)->tn i h'
 item:∀(X:Cx),X.prog=P->X.w=w->X.K=K->X.calm=true->∀(i:Nat)(pins:W7)(s:se)(σ:St)(H:Hp)(E:W8),~~~H s->(∀b∈fp,fK X pins H b)->tn i s.heap->J.go i H ->
  wpAny (model P w) X.A (pyNext (.ref it)) (λr s1=>∃u,r=some u /\
   wpAny (model P w) X.A (Sg tg (.ref it) u) (λ_ s2=>∃x H',~~~H' s2/\RelV x u/\J.EH i H x H'/\tn (i+1) s2.heap/\∀b∈fp,H' b=none) E s1) E s
 done:∀(X:Cx),X.prog=P->X.w=w->X.K=K->X.calm=true->∀(i:Nat)(pins:W7)(s:se)(σ:St)(H:Hp)(E:W8),~~~H s->(∀b∈fp,fK X pins H b)->tn i s.heap->J.stop i H ->
  wpAny (model P w) X.A (pyNext (.ref it)) (λr s1=>r=none/\~~~H s1) E s
 self:∀(A:Ov)(i:Nat)(s:se)(Q:W8)(E:W8),tn i s.heap->Q (.ref it) s->wpAny (model P w) A (Wx (.ref it)) Q E s
abbrev TI:=St->Hp->(It->Hp->Prop)->Prop
def NT(X:Cx)(pins:W7)(σ:St)(tg:OE)(R:It->Hp->Prop)(F:Value)(s2:se):Prop :=
 ∃(it:Addr)(fp:List Addr)(z:Nat->Heap->Prop)(J:It)(H':Hp),F=.ref it/\~~~H' s2/\Turn X.prog X.w X.K tg J fp it z/\z 0 s2.heap/\(∀b∈fp,fK X pins H' b)/\R J H'
def PI(X:Cx)(tg iter:OE)(wi:TI):Prop :=
 ∀(pins:W7)(s:se)(σ:St)(H:Hp)(R:It->Hp->Prop),~~~H s->wi σ H R ->
  ↑(eval iter X.env) (λv z=>↑(Wx v) (NT X pins σ tg R) X.xe z) X.xe s
theorem qM{M:SS}{A:Ov}{E:W8}{s:se}{tg:OE}{it:Addr}{u:Value}{o:Obj}{n:String}{vs:Xb}{Q:Unit->se->Prop}(I:s.heap.get? it=some o)(G:o.cls=.type n)(hd:o.data=.fields vs)
  (F:["enumerate","zip","dict_itemiterator","dict_reverseitemiterator","odict_iterator","itertools.zip_longest","itertools.pairwise"].contains n=false) (z:Q () s):wpAny M A (Sg tg (.ref it) u) Q E s:=by
 unfold Sg;cases tg<;>first
  |show wpAny_pure z
  |(cases u<;>first
    |show wpAny_pure z
    |(show tp (wpAny_load I ?_)
      rw[G,hd];change wpAny M A (if (["enumerate","zip","dict_itemiterator","dict_reverseitemiterator","odict_iterator","itertools.zip_longest","itertools.pairwise"].contains n&&vs[0]?==some (Vl _))=true then _ else _) Q E s;rw[WX (by intro h;rwa[F,Bool.false_and]at h)];show wpAny_pure z))
def EK(K:Om)(a:Addr):It :=
 #[λi H=>∃xs x,bA K H a xs/\xs[i]?=some x,λi H x H'=>H'=H/\∀xs,bA K H a xs->xs[i]?=some x,λi H=>∃xs,bA K H a xs/\xs.length<=i]
def LF(K:Om)(a:Addr):It :=
 #[λi H=>∃xs x,bM K H a xs/\xs[i]?=some x,λi H x H'=>H'=H/\∀xs,bM K H a xs->xs[i]?=some x,λi H=>∃xs,bM K H a xs/\xs.length<=i]
def EF(lo:Int)(n:Nat):It:=#[λi _=>i<n,λi H x H'=>H'=H/\x=.int (lo+i),λi _=>n<=i]
theorem iC{P:vu}{w:Oe}{K:Om}{tg:OE}(a it:Addr):Turn P w K tg (EK K a) [it] it (λi h=>h.IsListIter it a i) where
 mem:=by simp
 obj:=λi h st b F=>by
  let e:b=it:=‹F›;subst e;let#[o,e,c,d]:=st;show#[o,e,λv z=>by rwa[d]at z]
 keep:=λi h h' st k=>st.at λo e=>k it (by simp) o e
 item:=by
  intro X hP S R hc i pins s σ H E I G st U;subst hP S R;let#[xs,x,J,hx]:=U;let#[its,rv,p,hz]:=I.list J;let#[u,hu,ru]:=rv.get hx;let#[L,f1,f2,O,f4,f5]:=G it (by simp);show Rq st p.isList (x:=u) ‹hu› λh' ab sb=>?_;let I1: ~~~H { s with heap:=h' }:=I.turned (t':=s.toks) (λb o F e=>(sb.2 b F).trans e) L f1 O f4 f5;let#[o,e,c,d]:=id ab;show#[u,rfl,qM (s:={ s with heap:=h' }) e c d aq #[x,H,I1,ru,#[rfl,λys hy=>by rw[I.jM hy J];show hx],ab,λb F=>(G b F).1]]
 done:=by
  intro X hP S R hc i pins s σ H E I G st U;subst hP S R;let#[xs,J,hx]:=U;let#[its,rv,p,hz]:=I.list J;let#[L,f1,f2,O,f4,f5]:=G it (by simp);let hl:=rv.length;show wpAny_pyNext_list_end (I.ok.hd hc) st p.isList (by simp;omega) λh' eb=>#[rfl,I.turned (t':=s.toks) (λb o F e=>eb b o F e) L f1 O f4 f5]
 self:=λ_ _ _ _ _ st h=>Ub st h
theorem xS{P:vu}{w:Oe}{K:Om}{tg:OE}(a it:Addr):Turn P w K tg (LF K a) [it] it (λi h=>h.IsTupleIter it a i) where
 mem:=by simp
 obj:=λi h st b F=>by
  let e:b=it:=‹F›;subst e;let#[o,e,c,d]:=st;show#[o,e,λv z=>by rwa[d]at z]
 keep:=λi h h' st k=>st.at λo e=>k it (by simp) o e
 item:=by
  intro X hP S R hc i pins s σ H E I G st U;subst hP S R;let#[xs,x,J,hx]:=U;let#[its,rv,p,hz]:=I.tuple J;let#[u,hu,ru]:=rv.get hx;let#[L,f1,f2,O,f4,f5]:=G it (by simp);show wpAny_pyNext_tuple_item st (show s.heap.IsTuple a its.toArray from p) (x:=u) ‹hu› λh' ab sb=>?_;let I1: ~~~H { s with heap:=h' }:=I.turned (t':=s.toks) (λb o F e=>(sb.2 b F).trans e) L f1 O f4 f5;let#[o,e,c,d]:=id ab;show#[u,rfl,qM (s:={ s with heap:=h' }) e c d aq #[x,H,I1,ru,#[rfl,λys hy=>by rw[I.Ay hy J];show hx],ab,λb F=>(G b F).1]]
 done:=by
  intro X hP S R hc i pins s σ H E I G st U;subst hP S R;let#[xs,J,hx]:=U;let#[its,rv,p,hz]:=I.tuple J;let#[L,f1,f2,O,f4,f5]:=G it (by simp);let hl:=rv.length;show wpAny_pyNext_tuple_end (I.ok.hd hc) st (show s.heap.IsTuple a its.toArray from p) (by simp;omega) λh' eb=>#[rfl,I.turned (t':=s.toks) (λb o F e=>eb b o F e) L f1 O f4 f5]
 self:=λ_ _ _ _ _ st h=>wpAny_pyIter_tupleiter st h
theorem gN{P:vu}{w:Oe}{K:Om}{tg:OE}(it:Addr)(lo:Int)(n:Nat):Turn P w K tg (EF lo n) [it] it (λi h=>Rk h it (lo+(i:Nat)*1) ((n:Int)-(i:Nat)) 1) where
 mem:=by simp
 obj:=λi h st b F=>by
  let e:b=it:=‹F›;subst e;show#[_,st,λv z=>by
   let z':Data.fields _=Data.cell v:=z;cases z']
 keep:=λi h h' st k=>k it (by simp) _ st
 item:=by
  intro X hP R O U i pins s σ H E I G st S;subst hP R O;let#[J,f1,f2,L,f4,f5]:=G it (by simp);let W:=WH (prog:=X.prog) (w:=X.w) (I.ok.hd U) it lo 1 n;show W.item i s _ _ S st λv h' tk hv ab kk=>?_;let#[t,rfl]:=hv;let I1: ~~~H { s with heap:=h',toks:=tk }:=I.turned (λb o F e=>kk b o ‹F› e) J f1 L f4 f5;show#[0,qM (s:={ s with heap:=h',toks:=tk }) (n := "range_iterator") ab rfl rfl aq #[.int (lo+i),H,I1,#[t,?_],#[1],ab,λb F=>(G b F).1]];rw[Int.mul_one]
 done:=by
  intro X hP R O U i pins s σ H E I G st S;subst hP R O;let#[J,f1,f2,L,f4,f5]:=G it (by simp);show TC (I.ok.hd U) st (by have:n<=i:=S;omega) λh' eb=>#[rfl,I.turned (t':=s.toks) (λb o F e=>eb b o F e) J f1 L f4 f5]
 self:=λ_ _ _ _ _ st h=>TF st h
section
variable{X:Cx}{tg:OE}
def Gq(K:Om)(tl:TE):TI:=λσ H R=>tl σ H λx H1=>∃a,x=.ref a/\(∃xs,bA K H1 a xs)/\R (EK K a) H1
def Nw(K:Om)(tl:TE):TI:=λσ H R=>tl σ H λx H1=>∃a,x=.ref a/\(∃xs,bM K H1 a xs)/\R (LF K a) H1
theorem dQ{l:OE}{tl:TE}(S:PE X l tl):PI X tg l (Gq X.K tl):=by
 intros R I h;show b9 (S pins s σ H _ I h) λv F G=>?_;let#[x,H1,z,L,J]:=G;let#[a,e,#[xs,O],q]:=J;subst e;cases L;let#[its,rv,p,hz]:=z.list O;show U6 p.isList ?_;show#[F⁻¹,[F⁻¹],2,H1,rfl,z.kept (t':=F.toks) λb o e=>Heap.get?_push_of_some _ e,iC a _,#[_,Heap.get?_push_size _ rfl,1],λb U=>?_,q];let e:b=F⁻¹:=‹U›;subst e;show z.kD (G0 _) (z.bV.fresh (G0 _))
theorem Io{l:OE}{tl:TE}(S:PE X l tl):PI X tg l (Nw X.K tl):=by
 intros R I h;show b9 (S pins s σ H _ I h) λv z J=>?_;let#[x,H1,F,L,G]:=J;let#[a,e,#[xs,O],q]:=G;subst e;cases L;let#[its,rv,p,hz]:=F.tuple O;show wpAny_pyIter_tuple (show z.heap.IsTuple a its.toArray from p) ?_;show#[z⁻¹,[z⁻¹],2,H1,rfl,F.kept (t':=z.toks) λb o e=>Heap.get?_push_of_some _ e,xS a _,#[_,Heap.get?_push_size _ rfl,1],λb U=>?_,q];let e:b=z⁻¹:=‹U›;subst e;show F.kD (G0 _) (F.bV.fresh (G0 _))
theorem Ea{pins:W7}{σ:St}{H:Hp}{s:se}{R:It->Hp->Prop}{E:W8}{lo hi:Int}{t u v:WQ}{tk:Nat}(I: ~~~H s)(h1 : -(2^62)<=lo)(h2:lo<2^62)(L : -(2^62)<=hi)(F:hi<2^62)
  (q:R (EF lo (hi-lo).toNat) H):↑(Wx (.ref s⁻¹)) (NT X pins σ tg R) E { s with heap:=s.heap.push { cls:=.type "range",data:=.fields ([.int lo t,.int hi u,.int 1 v].toArray) },toks:=tk }:=by
 show Sv (Vv ..) (Wq h1 h2 L F) ?_;let z: ~~~H { s with heap:=s.heap.push { cls:=.type "range",data:=.fields ([.int lo t,.int hi u,.int 1 v].toArray) },toks:=tk }:=I.kept λb o e=>Heap.get?_push_of_some _ e;show#[(s.heap.push { cls:=.type "range",data:=.fields ([.int lo t,.int hi u,.int 1 v].toArray) }).objs.size,[(s.heap.push { cls:=.type "range",data:=.fields ([.int lo t,.int hi u,.int 1 v].toArray) }).objs.size],2,H,rfl,
  z.kept (t':=tk) λb o e=>Heap.get?_push_of_some _ e,gN _ lo (hi-lo).toNat,?_,λb O=>?_,q]
 .let J:lo+((0:Nat):Int)*1=lo:=(by simp);let G:(((hi-lo).toNat:Nat):Int)-((0:Nat):Int)=Builtin.Range.rangeSize lo hi 1:=(by rw[UK];split<;>omega);change Rk _ _ (lo+((0:Nat):Int)*1) ((((hi-lo).toNat:Nat):Int)-((0:Nat):Int)) 1;rw[J,G];show Heap.get?_push_size _ rfl
 .let e:b=(s.heap.push { cls:=.type "range",data:=.fields ([.int lo t,.int hi u,.int 1 v].toArray) }).objs.size:=‹O›;subst e;show z.kD (G0 _) (z.bV.fresh (G0 _))
def Gy(ta:TA):TI:=λσ H R=>ta σ H λvs H1=>∃j:Int,vs=[.int j] /\ -(2^62)<=j/\j<2^62/\R (EF 0 j.toNat) H1
theorem jU{a:OE}{ta:TA}{p pos:Q5}(O:Gl X "range")(F:X.mg "range" = none)(S:PA X [a] ta)(hs:starEach [a] X.env=[(false,eval a X.env)]:=by rfl):PI X tg (.Call (.Name "range" p) [a] [] pos) (Gy ta):=by
 intros R I h;show Call_ (jm I O F VQ (Pq (b9 (S pos pins s σ H _ I h) λus s1 J=>?_) hs rfl));let#[vs,H1,U,L,z]:=J;let#[j,e,z,q2,q]:=z;subst e;cases L with
 |cons r G =>
  cases G;let#[t,rfl]:=r;show call_range_1 (Ea U af af z q2 ‹q›)
def E8(wi:TI)(g:TG)(tb:TS):TS:=λD σ H=>wi σ H λJ H1=>∃W:Nat->Nat->St->Hp->Prop,(∃m,W 0 m σ H1)/\∀i m σ H,W i m σ H ->
 (J.stop i H/\D.nx σ H)\/(J.go i H/\∃N:St->Hp->Prop,(∀F H',N F H'->∃z,z<m/\W (i+1) z F H')/\∀x H',J.EH i H x H'->g x σ H' λG H2=>tb { D with nx:=N,ct:=N,bk:=D.nx } G H2)
def kC(fp:List Addr)(h:Heap):List (Addr×Obj):=fp.filterMap λb=>(h.get? b).map λo=>(b,o)
theorem eD{fp:List Addr}{h:Heap}{b:Addr}{o:Obj}(z:b∈fp)(e:h.get? b=some o):(b,o)∈kC fp h:=Sw.mpr #[b,z,by rw[e];rfl]
theorem Ah{fp:List Addr}{h:Heap}{p:Addr×Obj}(F:p∈kC fp h):p.1∈fp/\h.get? p.1=some p.2:=by
 let#[b,G,e]:=Sw.mp F;cases q:h.get? b with
 |none=>rwa[q]at e
 |some o =>
  rw[q]at e;let z:(b,o)=p:=DD e;subst z;show#[G,q]
theorem Inv.pinned{pins:W7}{σ:St}{H:Hp}{s:se}{fp:List Addr}(I: ~~~H s)(J:∀b∈fp,fK X pins H b)(O:∀b∈fp,∃o,s.heap.get? b=some o/\∀v,o.data≠.cell v):Inv X (pins++kC fp s.heap) σ H s :=
 I.j5 λp S=>(By.mp S).elim (λz=>I.pin p (Of _ z)) λz=>by
  let#[G,e]:=Ah z;let#[L,R,U,_]:=J p.1 G;let#[o,F,d]:=O p.1 G;rwa[e]at F;show#[e,L,R,U,d]
theorem Inv.fh{pins pl:W7}{σ:St}{H:Hp}{s:se}(I:Inv X (pins++pl) σ H s): ~~~H s:=I.j5 λp z=>I.pin p (Of _ (Pc _ z))
theorem dh{iter:OE}{body:List OB}{wi:TI}{g:TG}{tb:TS}{pos:Q5}(S:Vk (model X.prog X.w) X.A X.env X.xe)(hc:X.calm=true)(hi:PI X tg iter wi)(hg:PG X tg g)(L:uZ X body tb)
  (hs:∀x,QO iter X.env x=pure x:=by intro _;rfl):PS X (.For tg iter body [] pos) (E8 wi g tb):=by
 intros D I h;show Wr (b9 (hi pins s σ H _ I h) λv s1 h1=>b9 h1 λa8 s2 h2=>?_) hs;let#[it,fp,tn,J,H2,e,I2,T,a0,f2,W,#[m0,w0],a4]:=h2;subst e;let ab:∀{H':Hp},(∀b∈fp,H' b=none)->∀b∈fp,fK X pins H' b:=λhn b L=>#[hn b L,(f2 b L).2];show UH (λn s'=>∃i U H',Inv X pins U H' s'/\tn i s'.heap/\(∀b∈fp,H' b=none)/\W i n U H') ?_ m0 #[(0),σ,H2,I2,a0,λb L=>(f2 b L).1,w0];rintro n s3 ⟨i,R,H3,I3,ao,am,w3⟩;rcases a4 i n R H3 w3 with⟨a5,qn⟩|⟨go,N,hN,step⟩
 .show Pm S (b9 (T.done X rfl rfl rfl hc i pins s3 R H3 X.xe I3 (ab am) ao a5) λr s4 ap=>?_);let#[hr,I4]:=ap;subst hr;show Qa #[R,H3,I4,qn]
 .show Pm S (b9 (T.item X rfl rfl rfl hc i pins s3 R H3 X.xe I3 (ab am) ao go) λr s4 as=>?_);let#[u,hr,h4]:=as;subst hr;show Pm S (b9 h4 λ_ s5 aT=>?_);let#[x,H5,I5,r5,y5,ac,a6]:=aT;let a3:=I5.pinned (ab a6) (T.obj _ _ ac);show Pm S (b9 (hg _ s5 R H5 x u _ a3 r5 (step x H5 y5)) λ_ s6 aB=>?_);let#[a7,H6,I6,q6]:=aB;show Pm S (b9 (L _ s6 a7 H6 _ I6 q6) λf s7 O=>?_);let again:∀{z:St}{G:Hp},Inv X (pins++kC fp s5.heap) z G s7->N z G->∃m,m<n/\∃i U H',Inv X pins U H' s7/\tn i s7.heap/\(∀b∈fp,H' b=none)/\W i m U H':=λ{z G} F n7=>by
   let#[m',hm,w7]:=hN z G n7;show#[m',hm,i+1,z,G,F.fh,T.keep _ _ _ ac λb L o e=>(F.pin (b,o) (Of _ (Of _ (eD L e)))).1,λb L=>?_,w7];let#[o,e,d]:=T.obj _ _ ac b L;show(F.pin (b,o) (Of _ (Of _ (eD L e)))).2.1
  cases f with
  |next=>let#[z,G,F,n7]:=O;show again F n7
  |cont=>let#[z,G,F,n7]:=O;show again F n7
  |brk=>let#[z,G,F,O]:=O;show#[z,G,F.fh,O]
  |ret v=>let#[x7,z,G,F,r7,O]:=O;show#[x7,z,G,F.fh,r7,O]
end
theorem dg{K:Om}{a:Addr}{xs:List V}{g:TG}{tb:TS}{D:Ends}{σ:St}{H:Hp}(Pv:Nat->St->Hp->Prop)(J:Pv 0 σ H)(L:∀i σ H,i<=xs.length->Pv i σ H->bA K H a xs)
  (hs:∀i x σ H,xs[i]?=some x->Pv i σ H->g x σ H λz H2=>tb { D with nx:=Pv (i+1),ct:=Pv (i+1),bk:=D.nx } z H2) (hd:∀σ H,Pv xs.length σ H->D.nx σ H) :
  ∃W:Nat->Nat->St->Hp->Prop,(∃m,W 0 m σ H)/\∀i m σ H,W i m σ H ->
   ((EK K a).stop i H/\D.nx σ H)\/((EK K a).go i H/\∃N:St->Hp->Prop,(∀F H',N F H'->∃I,I<m/\W (i+1) I F H')/\∀x H',(EK K a).EH i H x H'->g x σ H' λz H2=>tb { D with nx:=N,ct:=N,bk:=D.nx } z H2):=by
 show#[λi m σ H=>m=xs.length-i/\i<=xs.length/\Pv i σ H,#[xs.length,by simp,OJ _,J],?_];rintro i m σ H ⟨rfl,hi,p⟩;let q:=L i σ H hi p;cases G:i<xs.length
 .show .inr #[#[xs,xs[i],q,by simp[G]],Pv (i+1),λF H' O=>#[xs.length-(i+1),af,rfl,G,O],λx H' y=>?_];let#[e,y]:=y;subst e;show hs i x σ _ (y xs q) p
 .let e:i=xs.length:=af;subst e;show .inl #[#[xs,q,G0 _],hd σ H p]
theorem mO{lo:Int}{n:Nat}{g:TG}{tb:TS}{D:Ends}{σ:St}{H:Hp}(Pv:Nat->St->Hp->Prop)(J:Pv 0 σ H)
  (hs:∀i σ H,i<n->Pv i σ H->g (.int (lo+i)) σ H λF H2=>tb { D with nx:=Pv (i+1),ct:=Pv (i+1),bk:=D.nx } F H2) (hd:∀σ H,Pv n σ H->D.nx σ H) :
  ∃W:Nat->Nat->St->Hp->Prop,(∃m,W 0 m σ H)/\∀i m σ H,W i m σ H ->
   ((EF lo n).stop i H/\D.nx σ H)\/((EF lo n).go i H/\∃N:St->Hp->Prop,(∀G H',N G H'->∃I,I<m/\W (i+1) I G H')/\∀x H',(EF lo n).EH i H x H'->g x σ H' λF H2=>tb { D with nx:=N,ct:=N,bk:=D.nx } F H2):=by
 show#[λi m σ H=>m=n-i/\i<=n/\Pv i σ H,#[n,by simp,OJ _,J],?_];rintro i m σ H ⟨rfl,hi,p⟩;cases z:i<n
 .show .inr #[z,Pv (i+1),λG H' L=>#[n-(i+1),af,rfl,z,L],λx H' y=>?_];let#[e,y]:=y;subst e y;show hs i σ _ z p
 .let e:i=n:=af;subst e;show .inl #[G0 _,hd σ H p]
abbrev R2:=V->V->Hp->VK->Prop
def mF(X:Cx)(f:Value->Value->Sem Value)(r:R2):Prop :=
 ∀(pins:W7)(s:se)(σ:St)(H:Hp)(x y:V)(v u:Value)(Q:VK),~~~H s->RelV x v->RelV y u->r x y H Q ->
  ↑(f v u) (EP X pins σ Q) X.xe s
def NA(X:Cx)(f:Value->Sem Value)(r:V->Hp->VK->Prop):Prop :=
 ∀(pins:W7)(s:se)(σ:St)(H:Hp)(x:V)(v:Value)(Q:VK),~~~H s->RelV x v->r x H Q ->
  ↑(f v) (EP X pins σ Q) X.xe s
def fq(X:Cx)(f:Value)(r:List V->Hp->VK->Prop):Prop :=
 ∀(pins:W7)(s:se)(σ:St)(H:Hp)(xs:List V)(us:Xc)(Q:VK),~~~H s->Vals xs us->r xs H Q ->
  ↑(call f us) (EP X pins σ Q) X.xe s
def Kc(r:R2)(ta tb:TE):TE:=λσ H Q=>ta σ H λx H1=>tb σ H1 λy H2=>r x y H2 Q
def Ob(r:V->Hp->VK->Prop)(ta:TE):TE:=λσ H Q=>ta σ H λx H1=>r x H1 Q
inductive rI(C:Int->Int->Prop)(g:Int->Int->V)(x:V)(y:V)(H:Hp)(Q:VK):Prop
 |mk(i:_)(j:_)(_:x=.int i)(_:y=.int j)(_:C i j)(_:Q (g i j) H)
inductive Gv(g:Int->Int->V)(x:V)(y:V)(H:Hp)(Q:VK):Prop
 |mk(i:_)(j:_)(_:x=.int i)(_:y=.int j)(_:Q (g i j) H)
inductive rU(g:Int->V)(x:V)(H:Hp)(Q:VK):Prop
 |mk(i:_)(_:x=.int i)(_:Q (g i) H)
section
variable{X:Cx}{a b c:OE}{ta tb tc:TE}{pos:Q5}
theorem Ju(ha:PE X a ta)(hb:PE X b tb){pins:W7}{s:se}{σ:St}{H:Hp}{R:V->V->Hp->Prop}(I: ~~~H s)
  (h:ta σ H λx H1=>tb σ H1 λy H2=>R x y H2) {Q:W8}{f:Value->Value->Sem Value}
  (z:∀v u s2 x y H2,~~~H2 s2->RelV x v->RelV y u->R x y H2->↑(f v u) Q X.xe s2) :
  ↑(eval a X.env) (λv F=>↑(eval b X.env) (λu ab=>↑(f v u) Q X.xe ab) X.xe F) X.xe s:=by
 show b9 (ha pins s σ H _ I h) λv s1 S=>?_;let#[x,H1,I1,U,L]:=S;show b9 (hb pins s1 σ H1 _ I1 L) λu s2 O=>?_;let#[y,H2,J,G,q2]:=O;show z v u s2 x y H2 J U G q2
theorem aA{z:U1}{r:R2}(R:mF X (RZ z) r)(L:PE X a ta)(O:PE X b tb):PE X (.BinOp a z b pos) (Kc r ta tb):=by
 intros Q I h;show wpAny_BinOp (Ju L O I h λv u s2 x y H2 F J G q=>R pins s2 σ H2 x y v u Q F J G q)
theorem rS{z:UnaryOp}{r:V->Hp->VK->Prop}(S:NA X (unaryOp z) r)(L:PE X a ta):PE X (.UnaryOp z a pos) (Ob r ta):=by
 intros Q I h;show UnaryOp_ (b9 (L pins s σ H _ I h) λv R J=>by let#[x,H1,O,G,F]:=J;show S pins R σ H1 x v Q O G F)
theorem Lx{f:Value->Value->Sem Value}{C:Int->Int->Prop}{g:Int->Int->Int}
  (rule:∀(i j:Int)(t u:WQ)(s:se)(Q:W8)(E:W8),C i j->Q (.int (g i j) s.toks) { s with toks:=s.toks+1 }->↑(f (.int i t) (.int j u)) Q E s) :
  mF X f (rI C λi j=>.int (g i j)):=by
 intros x y v u Q I G F h;let#[i,j,rfl,rfl,z,q]:=h;let#[t,rfl]:=G;let#[t',rfl]:=F;show rule i j t t' s _ _ z #[.int (g i j),H,I.tok _,#[0],q]
theorem JQ{f:Value->Value->Sem Value}{g:Int->Int->Int}
  (rule:∀(i j:Int)(t u:WQ)(s:se)(Q:W8)(E:W8),Q (.int (g i j) s.toks) { s with toks:=s.toks+1 }->↑(f (.int i t) (.int j u)) Q E s) :
  mF X f (Gv λi j=>.int (g i j)):=by
 intros x y v u Q I F z h;let#[i,j,rfl,rfl,q]:=h;let#[t,rfl]:=F;let#[t',rfl]:=z;show rule i j t t' s _ _ #[.int (g i j),H,I.tok _,#[0],q]
theorem Jb{f:Value->Value->Sem Value}{g:Int->Int->Bool}
  (rule:∀(i j:Int)(t u:WQ)(s:se)(Q:W8)(E:W8),Q (.bool (g i j)) s->↑(f (.int i t) (.int j u)) Q E s) :
  mF X f (Gv λi j=>.bl (g i j)):=by
 intros x y v u Q I F z h;let#[i,j,rfl,rfl,q]:=h;let#[t,rfl]:=F;let#[t',rfl]:=z;show rule i j t t' s _ _ #[.bl (g i j),H,I,rfl,q]
def Mv(i j:Int):Prop:=0<j/\j<1073741824
def Nq(i j:Int):Prop:=0<=j/\j<=1000000/\i.natAbs<2^64
def FZ(i j:Int):Prop:=(-(2^64)<i/\i<2^64)\/(-(2^64)<j/\j<2^64)
theorem FZ.ok{i j:Int}(h:FZ i j):IntMulOk i j:=by
 rcases h with⟨h1,h2⟩|⟨h1,h2⟩
 .show .of_left (intBits_le_64 h1 h2)
 .show .of_right (intBits_le_64 h1 h2)
theorem bR:mF X (RZ .Add) (Gv λi j=>.int (i+j)):=JQ λ_ _ _ _ _ _ _ q=>add_int q
theorem mQ:mF X (RZ .Sub) (Gv λi j=>.int (i-j)):=JQ λ_ _ _ _ _ _ _ q=>sub_int q
theorem mI:mF X (RZ .Mult) (rI FZ λi j=>.int (i*j)):=Lx λ_ _ _ _ _ _ _ z q=>mul_int q z.ok
theorem bo:mF X (RZ .FloorDiv) (rI Mv λi j=>.int (i/j)):=Lx λi j _ _ _ _ _ z q=>by
 let h1:(0:Int)<j:=z.1;let h2:j<1073741824:=z.2;show floordiv_int af (by rw[Int.fdiv_eq_ediv_of_nonneg i af];show q) (.inl (PyProof.noPylong_small af))
theorem bC:mF X (RZ .Mod) (rI (λ_ j=>0<j) λi j=>.int (i%j)):=Lx λi j _ _ _ _ _ z q=>by
 let h1:(0:Int)<j:=z;show mod_int' af (by rw[Int.fmod_eq_emod_of_nonneg i af];show q)
theorem hZ:mF X (RZ .Pow) (rI Nq λi j=>.int (i^j.toNat)):=Lx λ_ _ _ _ _ _ _ z q=>pow_int_small z.1 z.2.1 z.2.2 q
theorem NW{f:Value->Sem Value}{g:Int->Int}
  (rule:∀(i:Int)(t:WQ)(s:se)(Q:W8)(E:W8),Q (.int (g i) s.toks) { s with toks:=s.toks+1 }->↑(f (.int i t)) Q E s) :
  NA X f (rU λi=>.int (g i)):=by
 intros x v Q I z h;let#[i,rfl,q]:=h;let#[t,rfl]:=z;show rule i t s _ _ #[.int (g i),H,I.tok _,#[0],q]
theorem nE:NA X (unaryOp .USub) (rU λi=>.int (-i)):=NW λ_ _ _ _ _ q=>neg_int q
end
def Ii:V->V->Bool
 |.bB,.bB=>true|.bB,.int _=>true|.int _,.bB=>true|.bB,.bl _=>true|.bl _,.bB=>true|.bB,.str _=>true|.str _,.bB=>true
 |.int _,.int _=>true|.bl _,.bl _=>true|.str _,.str _=>true|.byt _,.byt _=>true
 |.int _,.str _=>true|.str _,.int _=>true|.bl _,.str _=>true|.str _,.bl _=>true
 |_,_=>false
def NJ:R2:=λx y H Q=>Ii x y=true/\Q (.bl (decide (x=y))) H
def N4:R2:=λx y H Q=>Ii x y=true/\Q (.bl (!decide (x=y))) H
theorem zB{i j:Int}:decide (V.int i=V.int j)=(i==j):=by
 rw[Rg];simp
theorem DQ{i j:Bool}:decide (V.bl i=V.bl j)=(i==j):=by
 rw[Rg];simp
theorem yL{i j:Str}:decide (V.str i=V.str j)=(i==j):=by
 rw[Rg];simp
theorem zt{i j:Array UInt8}:decide (V.byt i=V.byt j)=(i.toList==j.toList):=by
 rw[Rg];cases i;cases j;simp
section
variable{X:Cx}{a b c:OE}{ta tb tc:TE}{pos:Q5}
theorem bX{pins:W7}{σ:St}{H:Hp}{s:se}{Q:VK}{k k':Bool}(I: ~~~H s)(q:Q (.bl k) H)(e:k=k'):EP X pins σ Q (.bool k') s:=by
 subst e;show#[.bl k,H,I,rfl,q]
theorem cK:mF X (Px .Eq) NJ:=by
 intros x y v u Q I F z h;let#[hs,q]:=h;cases x with
 |bB =>
  cases F;cases y with
  |bB=>cases z;show PySem.EqNone.eq_none_none (bX I q (by simp))
  |bl j=>cases z;show PySem.EqNone.eq_none_bool (bX I q (by simp))
  |int j=>let#[t',rfl]:=z;show PySem.EqNone.eq_none_int (bX I q (by simp))
  |str j=>let#[t',rfl]:=z;show PySem.EqNone.eq_none_str (bX I q (by simp))
  |_=>show absurd (show false=true from hs) IF
 |bl i =>
  cases F;cases y with
  |bB=>cases z;show PySem.EqNone.eq_bool_none (bX I q (by simp))
  |bl j=>cases z;show eq_bool (bX I q DQ)
  |str j=>let#[t',rfl]:=z;show We (bX I q (by simp))
  |_=>show absurd (show false=true from hs) IF
 |int i =>
  let#[t,rfl]:=F;cases y with
  |bB=>cases z;show PySem.EqNone.eq_int_none (bX I q (by simp))
  |int j=>let#[t',rfl]:=z;show eq_int (bX I q zB)
  |str j=>let#[t',rfl]:=z;show Wj (bX I q (by simp))
  |_=>show absurd (show false=true from hs) IF
 |str i =>
  let#[t,rfl]:=F;cases y with
  |bB=>cases z;show PySem.EqNone.eq_str_none (bX I q (by simp))
  |bl j=>cases z;show Wf (bX I q (by simp))
  |int j=>let#[t',rfl]:=z;show Wk (bX I q (by simp))
  |str j=>let#[t',rfl]:=z;show eq_str (bX I q yL)
  |_=>show absurd (show false=true from hs) IF
 |byt i =>
  let#[t,rfl]:=F;cases y with
  |byt j=>let#[t',rfl]:=z;show PySem.W.eq_bytes (bX I q zt)
  |_=>show absurd (show false=true from hs) IF
 |_=>cases y<;>show absurd (show false=true from hs) IF
theorem sJ:mF X (Px .NotEq) N4:=by
 intros x y v u Q I F z h;let#[hs,q]:=h;cases x with
 |bB =>
  cases F;cases y with
  |bB=>cases z;show PySem.EqNone.ne_none_none (bX I q (by simp))
  |bl j=>cases z;show PySem.EqNone.ne_none_bool (bX I q (by simp))
  |int j=>let#[t',rfl]:=z;show PySem.EqNone.ne_none_int (bX I q (by simp))
  |str j=>let#[t',rfl]:=z;show PySem.EqNone.ne_none_str (bX I q (by simp))
  |_=>show absurd (show false=true from hs) IF
 |bl i =>
  cases F;cases y with
  |bB=>cases z;show PySem.EqNone.ne_bool_none (bX I q (by simp))
  |bl j=>cases z;show ne_bool (bX I q (congrArg not DQ))
  |str j=>let#[t',rfl]:=z;show Wg (bX I q (by simp))
  |_=>show absurd (show false=true from hs) IF
 |int i =>
  let#[t,rfl]:=F;cases y with
  |bB=>cases z;show PySem.EqNone.ne_int_none (bX I q (by simp))
  |int j=>let#[t',rfl]:=z;show ne_int (bX I q (congrArg not zB))
  |str j=>let#[t',rfl]:=z;show Wl (bX I q (by simp))
  |_=>show absurd (show false=true from hs) IF
 |str i =>
  let#[t,rfl]:=F;cases y with
  |bB=>cases z;show PySem.EqNone.ne_str_none (bX I q (by simp))
  |bl j=>cases z;show Wh (bX I q (by simp))
  |int j=>let#[t',rfl]:=z;show Wm (bX I q (by simp))
  |str j=>let#[t',rfl]:=z;show ne_str (bX I q (congrArg not yL))
  |_=>show absurd (show false=true from hs) IF
 |byt i =>
  let#[t,rfl]:=F;cases y with
  |byt j=>let#[t',rfl]:=z;show PySem.W.ne_bytes (bX I q (congrArg not zt))
  |_=>show absurd (show false=true from hs) IF
 |_=>cases y<;>show absurd (show false=true from hs) IF
theorem gO:mF X (Px .Lt) (Gv λi j=>.bl (decide (i<j))):=Jb λ_ _ _ _ _ _ _ q=>lt_int q
theorem oy:mF X (Px .Gt) (Gv λi j=>.bl (decide (j<i))):=Jb λ_ _ _ _ _ _ _ q=>gt_int q
theorem JP:mF X (Px .GtE) (Gv λi j=>.bl (decide (j<=i))):=Jb λ_ _ _ _ _ _ _ q=>ge_int q
theorem x9:mF X (Px .Is) (λx y H Q=>y=.bB/\Q (.bl (decide (x=.bB))) H):=by
 intros x y v u Q I z F h;let#[rfl,q]:=h;cases F;show is_none_gen (bX I q ?_);cases x<;>first
  |(cases z;rfl)
  |(let#[t,rfl]:=z;rfl)
theorem FY:mF X (Px .IsNot) (λx y H Q=>y=.bB/\Q (.bl (!decide (x=.bB))) H):=by
 intros x y v u Q I z F h;let#[rfl,q]:=h;cases F;show isnot_none_gen (bX I q ?_);cases x<;>first
  |(cases z;rfl)
  |(let#[t,rfl]:=z;rfl)
theorem aP(b:OE){z:WG}(h:z≠.In:=by decide)(h2:z≠.NotIn:=by decide):RS z b=false:=by
 let G:(z==CmpOp.In)=false:=by cases z<;>first|rfl|show absurd rfl h
 let F:(z==CmpOp.NotIn)=false:=by cases z<;>first|rfl|show absurd rfl h2
 cases b<;>simp[RS,G,F]
theorem pE{z:WG}{r:R2}(G:mF X (Px z) r)(R:PE X a ta)(S:PE X b tb)(F:RS z b=false):PE X (.Compare a [z] [b] pos) (Kc r ta tb):=by
 intros Q I h;show wpAny_Compare1 (Ju R S I h λv u s2 x y H2 J O L q=>G pins s2 σ H2 x y v u Q J O L q) F
inductive BB(t:TE)(Q:Bool->Hp->Prop)(x:V)(H':Hp):Prop
 |mk(k:_)(_:x=.bl k)(_:Q k H')
def Bl(t:TE):TT:=λσ H Q=>t σ H λx H'=>BB t Q x H'
theorem aJ{F:WG}{r:R2}(ho:mF X (Px F) r)(ha:PE X a ta)(hb:PE X b tb)(G:RS F b=false):PT X (.Compare a [F] [b] pos) (Bl (Kc r ta tb)):=by
 intros Q I h;show Ua (b9 (ha pins s σ H _ I h) λv s1 ⟨x,H1,I1,S,R⟩=>b9 (hb pins s1 σ H1 _ I1 R) λu s2 ⟨y,H2,O,L,q2⟩ =>
  b9 (ho pins s2 σ H2 x y v u _ O S L q2) λc s3 ⟨z,H3,I3,U,k,e,J⟩=>?_) G
 subst e;cases U;show Qr #[H3,I3,J]
inductive yM(r r':R2)(ta tb tc:TE)(σ:St)(Q:VK)(y:V)(z:V)(H3:Hp):Prop
 |mk (k:_) (_:z=.bl k) (_:(if k=true then tc σ H3 λw' H4=>r' y w' H4 Q else Q (.bl false) H3)):yM r r' ta tb tc σ Q y z H3
def Ia(r F:R2)(ta tb tc:TE):TE:=λσ H Q=>ta σ H λx H1=>tb σ H1 λy H2=>r x y H2 λz H3=>yM r F ta tb tc σ Q y z H3
theorem Bk{G F:WG}{r L:R2}(ho:mF X (Px G) r)(ac:mF X (Px F) L)(ha:PE X a ta)(hb:PE X b tb)(hc:PE X c tc)
  (hm:lastMarks [G,F] [b,c]=false:=by with_unfolding_all rfl):PT X (.Compare a [G,F] [b,c] pos) (Bl (Ia r L ta tb tc)):=by
 intros Q I h;show isTrue_chain (b9 (ha pins s σ H _ I h) λv s1 ⟨x,H1,I1,r1,q1⟩=>test_link (b9 (hb pins s1 σ H1 _ I1 q1) λu s2 ⟨y,H2,I2,O,q2⟩ =>
  b9 (ho pins s2 σ H2 x y v u _ I2 r1 O q2) λd s3 ⟨z,H3,R,r3,k,e,J⟩=>?_)) hm
 subst e;cases r3;show Qr ?_;cases k with
 |false =>
  let#[k',S,q']:=J;cases S;show ite_ff #[H3,R,q']
 |true =>
  show ite_tt (test_last (b9 (hc pins s3 σ H3 _ R J) λw' s4 am=>?_));let#[z',H4,I4,r4,U]:=am;show b9 (ac pins s4 σ H4 y z' u w' _ I4 O r4 U) λd' s5 ab=>?_;let#[z2,H5,I5,r5,k2,e2,q5]:=ab;subst e2;cases r5;show Qr #[H5,I5,q5]
theorem qo:(sizeLine:Nat)<2^63:=by rw[HC];decide
theorem vals1{x:V}{us:Xc}(r:Vals [x] us):∃u,us=[u]/\RelV x u:=by
 cases r with
 |cons z F=>cases F;show#[0,z]
theorem vals2{x y:V}{us:Xc}(r:Vals [x,y] us):∃u z,us=[u,z]/\RelV x u/\RelV y z:=by
 cases r with
 |cons F J =>
  cases J with
  |cons I G=>cases G;show#[_,0,F,I]
theorem AQ(F:X.calm=true):fq X (.builtin "min") (λxs H Q=>∃i j,xs=[.int i,.int j]/\Q (.int (if j<i then j else i)) H):=by
 intros xs us Q I r h;let#[i,j,rfl,q]:=h;let#[u,G,rfl,#[t,rfl],#[t',rfl]]:=vals2 r;show min_two_ints (I.ok.hd F) λh' tk k=>#[_,H,I.kept k,?_,q];cases z:j<i
 .rw[WY z,WY z];show#[0]
 .rw[WX z,WX z];show#[0]
theorem Ag:fq X (.type "int") (λxs H Q=>(∃i,xs=[.int i]/\Q (.int i) H)\/∃k,xs=[.bl k]/\Q (.int (if k then 1 else 0)) H):=by
 intros xs us Q I r h;rcases h with⟨i,rfl,q⟩|⟨k,rfl,q⟩
 .let#[u,rfl,t,rfl]:=vals1 r;show call_int_int #[.int i,H,I,#[0],q]
 .let#[u,rfl,z]:=vals1 r;cases z;show call_int_bool #[.int (if k then 1 else 0),H,I.tok _,#[0],q]
end
structure xk(h:Heap)(x dx C:Addr)(mA:W9):Prop where
 obj:h.get? x=some (instObj C dx)
 ns:h.Ns1 dx mA
 ne:dx≠x
theorem AL{h:Heap}{dx:Addr}{mA:W9}(n:h.Ns1 dx mA):∃od,h.get? dx=some od/\∀name,lookIn name od=some (mA name):=by
 let#[o,es,ep,O,hd,G,_,F]:=n;show#[o,O,λname=>?_];let e:=F name;unfold nsFind findBy at e;rw[<-Array.find?_toList]at e;unfold lookIn;rw[hd];dsimp only
 set_option tactic.hygienic true in split
 .rename_i y q;rw[q]at e;show congrArg some e
 .rename_i q;rw[q]at e;let a:es.toList.any (·.refKey)=false:=by
   rw[List.any_eq_false];intro y J;let#[z,t,L]:=G y (Array.mem_toList_iff.mp J);simp[DictEntry.refKey,L]
  let I:¬ es.toList.any (·.refKey)=true:=(by rw[a];show IF);rw[WX I];show congrArg some e
theorem xk.look{h:Heap}{x dx C:Addr}{mA:W9}(I:xk h x dx C mA):∃od,PySem.W.InstAt h x (instObj C dx) C (some od)/\∀name,lookIn name od=some (mA name):=
 let ⟨od,F,z⟩:=AL I.ns
 #[od,#[I.obj,1,F],z]
section
variable{prog:vu}{w:Oe}{A:Ov}{E:W8}{s:se}{K:Om}{x dx C f:Addr}{mA:W9}{name:Str}{v:Value}
theorem get_map{G:Bool}{Q:W8}(X:K.In s.heap)(I:xk s.heap x dx C mA)(S:VR K C name=true)(z:Ws K C=true)
  (L:OZ K (.ref C) name=some none) (O:mA name=some v) (F:handedIn v=true) (h:Q v { s with toks:=s.toks+1 }) :
  wpAny (model prog w) A (getAttr (.ref x) name G) Q E s:=by
 let#[od,J,R]:=I.look;show PySem.W.get_value X J (Vx S).1 (PySem.W.findObj_own z L rfl (by rw[R,O])) F h
theorem Eo{pl:Sem Bool}{Q:Value×List Value->se->Prop}(X:K.In s.heap)(I:xk s.heap x dx C mA)(z:VR K C name=true)
  (F:OZ K (.ref C) name=some (some (.ref f))) (G:isFn K (.ref f)=true) (L:mA name=none) (h:Q (.ref f,[.ref x]) s) :
  wpAny (model prog w) A (RH (.ref x) name pl) Q E s:=by
 let#[od,J,O]:=I.look;show PySem.W.method_fn X J (Vx z).1 (Vx z).2 F (beq_iff_eq.mp G) (by change(lookIn name od).map (·.isSome)=some false;rw[O,L];rfl) h
theorem F9{G:List Str}{Q:Unit->se->Prop}(X:K.In s.heap)(I:xk s.heap x dx C mA)
  (hs:OZ K (.ref C) "__setattr__" = some (some (.builtin "object.__setattr__"))) (hp:plainOver K C=true) (U:takerIn K C name=some none) (L:Ws K C=true)
  (S:UY mA G) (hsz:G.length<=sizeLine)
  (h:∀h',xk h' x dx C (λy=>if y=name then some v else mA y)->Heap.SameBut dx s.heap h'->Q () { s with heap:=h',toks:=s.toks+2 }) :
  wpAny (model prog w) A (setAttr (.ref x) name v) Q E s:=by
 let#[od,J,hl]:=I.look;show PySem.W.set_plain X J hs (PySem.W.osa_open (s:={ s with toks:=s.toks+1 }) (r:=none) X J hp U λb=>?_);let#[cd,O,ab]:=PySem.W.any_some L;let hx:s.heap.get? x=some #[.ref C,some dx,.plain, ([].toArray)]:=I.obj;show tp (wpAny_pure (tp (tp (wpAny_loadPart hx (tp (WR (s:={ s with toks:=s.toks+1 }) (PySem.W.looks_clsIn X O) ?_))))));rw[ab];show wpAny_pure (a:=some dx) (tp (wpAny_pure (tp ?_)));show wpAny_nsSet1 (s:={ s with toks:=s.toks+1 }) I.ns λh' z F=>?_;let#[oD,ao,ap,R,ac,am]:=z.count (PySem.Within.cons name v S);show tp (wpAny_lookBehind R (by rw[ac];show pastItsLine_dict (Oy am (by rw[Oq];omega))) ?_);show wpAny_pure (h _ #[(F.2 _ (D0 I.ne)).trans I.obj,z,I.ne] F)
theorem CY{R:VS->se->Prop}{vs:Xc}{z:List (Str×Value)}(X:K.In s.heap)(G:makesIn K C=true)
  (hi:OZ K (.ref C) "__init__" = some (some (.ref f))) (F:PySem.W.typeIn K (.ref f)=some (.type "function"))
  (h:QV (model prog w) (A.under (.builtin "type.__call__" #[.ref C::vs,z])) (.call (.ref f) #[.ref (s⁻¹+1)::vs,z]) (PySem.W.InitBack (s⁻¹+1) R)
   { s with heap:=(s.heap.push emptyDict).push (instObj C s⁻¹) }) :
  QV (model prog w) A (.call (.ref C) #[vs,z]) R s:=by
 let#[I,g,d,t,os]:=s;show PySem.W.make_core (PySem.W.makes_of X G) (Sx X hi) (λself=>PySem.W.bind_fn X self F) (.inl rfl) h
end
def bu(f:Str)(v:V):List (Str×V)->List (Str×V)
 | []=>[(f,v)]
 |(g,x)::r=>if g=f then(g,v)::r else(g,x)::bu f v r
theorem aF(f g:Str)(v:V):∀fs:List (Str×V),(bu f v fs).lookup g=if g=f then some v else fs.lookup g
 | []=>by
  change Rl g [(f,v)]=_;cases h:g=f
  .let z:(g==f)=true:=beq_iff_eq.mpr h;simp only[Rl,z,WY h]
  .let z:(g==f)=false:=beq_eq_false_iff_ne.mpr h;simp only[Rl,z,WX h]
 |(k,x)::r=>by
  let G:=aF f g v r;rw[show bu f v ((k,x)::r)=(if k=f then(k,v)::r else(k,x)::bu f v r)from rfl];cases F:k=f
  .rw[WY F];cases h:g=k
   .let z:(g==k)=true:=beq_iff_eq.mpr h;simp only[Rl,z,WY (h.trans F)]
   .let z:(g==k)=false:=beq_eq_false_iff_ne.mpr h;simp only[Rl,z,WX (λe:g=f=>h (e.trans F.symm))]
  .rw[WX F];cases h:g=k
   .let z:(g==k)=true:=beq_iff_eq.mpr h;simp only[Rl,z,WX (λe:g=f=>F (h.symm.trans e))]
   .let z:(g==k)=false:=beq_eq_false_iff_ne.mpr h;simp only[Rl,z];show G
theorem mJ(f:Str)(v:V):∀fs:List (Str×V),f∈(bu f v fs).map (·.1)/\∀g,g∈fs.map (·.1)->g∈(bu f v fs).map (·.1)
 | []=>#[by simp[bu],λg h=>by simp at h]
 |(k,x)::r=>by
  let#[G,F]:=mJ f v r;rw[show bu f v ((k,x)::r)=(if k=f then(k,v)::r else(k,x)::bu f v r)from rfl];cases z:k=f
  .rw[WY z];subst z;show#[by simp,λg h=>by simpa using h]
  .rw[WX z];show#[?_,λg h=>?_]
   .rw[PN];show OH _ G
   .rw[PN]at h ⊢;rcases vr.mp h with e|e
    .show vr.mpr (.inl e)
    .show OH _ (F g e)
theorem nY(f:Str)(v:V):∀fs:List (Str×V),(bu f v fs).length<=fs.length+1
 | []=>by simp[bu]
 |(k,x)::r=>by
  let F:=nY f v r;rw[show bu f v ((k,x)::r)=(if k=f then(k,v)::r else(k,x)::bu f v r)from rfl];cases z:k=f
  .rw[WY z,Oq,Oq];omega
  .rw[WX z,Oq,Oq];omega
theorem ic.some_of{v:V}{o:Xd}(r:ic (some v) o):∃u,o=some u/\RelV v u:=by
 cases o with
 |none=>show(show False from r).elim
 |some u=>show#[u,rfl,r]
theorem ic.none_of{o:Xd}(r:ic none o):o=none:=by
 cases o with
 |none=>rfl
 |some u=>show(show False from r).elim
theorem AO{v:V}{u:Value}(r:RelV v u):handedIn u=true:=by
 cases v with
 |bB=>cases(show u=Value.none from r);rfl
 |bl b=>cases(show u=Value.bool b from r);rfl
 |int i=>let#[t,e]:=(show ∃t,u=Value.int i t from r);cases e;rfl
 |str x=>let#[t,e]:=(show ∃t,u=Value.str x t from r);cases e;rfl
 |byt b=>let#[t,e]:=(show ∃t,u=Value.bytes b t from r);cases e;rfl
 |flt b=>let#[t,e]:=(show ∃t,u=Value.float b t from r);cases e;rfl
 |ref a=>cases(show u=Value.ref a from r);rfl
 |ty n=>cases(show u=Value.type n from r);rfl
section
variable{P:vu}{w:Oe}{H H':Hp}{h h':Heap}{a C dx:Addr}{fs fs':List (Str×V)}
theorem pB(G:kq P w H h)(e:H a=some (.ins C dx fs)):∃mA,xk h a dx C mA/\(∀f,ic (fs.lookup f) (mA f))/\UY mA (fs.map (·.1))/\fs.length<=1000/\H dx=some (.own a):=by
 let#[d,z,ne,F,mA,n,r,q]:=(show ck P w H h a (.ins C dx fs)from G a _ e);show#[mA,#[F,n,ne],r,q,z,d]
end
structure oE(K:Om)(C:Addr):Prop where
 pg:VR K C Str.empty=true
 hd:Ws K C=true
 po:plainOver K C=true
 sa:OZ K (.ref C) "__setattr__" = some (some (.builtin "object.__setattr__"))
theorem oE.get{K:Om}{C:Addr}(c:oE K C)(f:Str):VR K C f=true:=c.pg
def cZ(K:Om)(C:Addr)(f:Str):Prop:=OZ K (.ref C) f=some none
theorem cZ.KP{K:Om}{C:Addr}{f:Str}(n:cZ K C f):takerIn K C f=some none:=by
 unfold takerIn;rw[show OZ K (.ref C) f=some none from n];rfl
structure Meth(K:Om)(C:Addr)(m:Str)(f:Addr):Prop where
 at_:OZ K (.ref C) m=some (some (.ref f))
 fn:isFn K (.ref f)=true
 kp:Sy K (.ref f)=true
section
variable{X:Cx}{pins:W7}{σ:St}{H:Hp}{s:se}{a C dx:Addr}{fs:List (Str×V)}{f:Str}{v:V}{A:Ov}{E:W8}
theorem qC{b:Bool}{Q:W8}(I: ~~~H s)(e:H a=some (.ins C dx fs))(c:oE X.K C)(n:cZ X.K C f)(l:fs.lookup f=some v)
  (h:∀u s',~~~H s'->RelV v u->Q u s'):wpAny (model X.prog X.w) A (getAttr (.ref a) f b) Q E s:=by
 let#[mA,O,r,_,_,_]:=pB I.bV e;let#[u,F,z]:=ic.some_of (v:=v) (o:=mA f) (by rw[<-l];show r f);show get_map I.kh O (c.get f) c.hd n F (AO z) (h u _ (I.tok _) z)
theorem iI{m:Str}{g:Addr}{pl:Sem Bool}{Q:Value×List Value->se->Prop}(I: ~~~H s)(e:H a=some (.ins C dx fs))(c:oE X.K C)(k:Meth X.K C m g)(l:fs.lookup m=none)
  (h:Q (.ref g,[.ref a]) s):wpAny (model X.prog X.w) A (RH (.ref a) m pl) Q E s:=by
 let#[mA,O,r,_,_,_]:=pB I.bV e;let z:mA m=none:=ic.none_of (by rw[<-l];show r m);show Eo I.kh O (c.get m) k.at_ k.fn z h
theorem qT{y:V}{u:Value}{Q:Unit->se->Prop}(I: ~~~H s)(e:H a=some (.ins C dx fs))(c:oE X.K C)(n:cZ X.K C f)(hl:fs.length<1000)(L:RelV y u)
  (h:∀s',~~~(upd H a (.ins C dx (bu f y fs))) s'->Q () s'):wpAny (model X.prog X.w) A (setAttr (.ref a) f u) Q E s:=by
 let#[mA,O,r,wi,_,G]:=pB I.bV e;let R:(fs.map (·.1)).length<=sizeLine:=(by rw[ti,HC];omega);show F9 I.kh O c.sa c.po n.KP c.hd wi R λh' F U=>h _ ?_;let hd:∃o,h'.get? dx=some o:=let ⟨o,_,_,J,_⟩:=F.ns;#[o,J];show I.write (x:=a) (e:=dx) (by rw[e];show Qb) (.inr G) (λb q hb z=>(U.2 b hb).trans z) hd ?_;show#[by rw[ai O.ne];show G,?_,O.ne,F.obj,_,F.ns,λg=>?_,λg S=>?_]
 .have:=nY f y fs;omega
 .change ic ((bu f y fs).lookup g) (if g=f then some u else mA g);rw[aF];cases q:g=f
  .rw[WY q,WY q];show L
  .rw[WX q,WX q];show r g
 .by_cases q:g=f
  .rw[q];show(mJ f y fs).1
  .show(mJ f y fs).2 g (wi g λz=>S ?_);change(if g=f then some u else mA g)=none;rw[WX q];show z
theorem Inv.made(I: ~~~H s): ~~~(upd (upd H s⁻¹ (.own (s⁻¹+1))) (s⁻¹+1) (.ins C s⁻¹ []))
  { s with heap:=(s.heap.push emptyDict).push (instObj C s⁻¹) }:=by
 let z:(s.heap.push emptyDict).get? s⁻¹=some emptyDict:=Heap.get?_push_size s.heap rfl;let L:((s.heap.push emptyDict).push (instObj C s⁻¹)).get? (s⁻¹+1)=some (instObj C s⁻¹):=by
  have:=Heap.get?_push_size (s.heap.push emptyDict) (o:=instObj C s⁻¹) rfl
  rwa [Heap.size_push]at this
 let G:(s.heap.push emptyDict).Ns s⁻¹ (λ_=>none):=#[emptyDict, ([].toArray),_,z,rfl,(λe F=>absurd F (by simp)),λ_=>rfl];let J:=I.laid (a:=s⁻¹) (o:=.own (s⁻¹+1)) (h':=s.heap.push emptyDict) (t':=s.toks) (λb u q=>Heap.get?_push_of_some _ q) (G0 _) #[_,z];show J.laid (a:=s⁻¹+1) (o:=.ins C s⁻¹ []) (t':=s.toks) (λb u q=>Heap.get?_push_of_some _ q) (U7 (Heap.size_push _ _)) ?_;let ne:s⁻¹≠s⁻¹+1:=Pb (RJ _);show#[by rw[ai ne,ae],OJ _,ne,L,λ_=>none,(Heap.Ns1.of_empty G).at λo q=>Heap.get?_push_of_some _ q,λ_=>Qb,λy O=>absurd rfl O]
theorem F5{prog:vu}{w:Oe}{env:SN}{e:OE}{f:Str}{pos:Q5}{s:se}{Q:W8}(F:Q7 e f env (eval e env)=eval e env)
  (h:wpAny (model prog w) A (eval e env) (λo z=>wpAny (model prog w) A (getAttr o f true) Q E z) E s):wpAny (model prog w) A (eval (.Attribute e f pos) env) Q E s :=
 Attribute_any_ h (by rw[arm_eval_Attribute,F])
end
inductive Gs(K:Om)(ta:TE)(f:Str)(Q:VK)(x:V)(H1:Hp):Prop
 |mk(a:_)(C:_)(dx:_)(fs:_)(v:_)(_:x=.ref a)(_:H1 a=some (.ins C dx fs))(_:oE K C)(_:cZ K C f)(_:fs.lookup f=some v)(_:Q v H1)
def Dw(K:Om)(ta:TE)(f:Str):TE:=λσ H Q=>ta σ H λx H1=>Gs K ta f Q x H1
def Mq(K:Om)(ta tv:TE)(f:Str):TS:=λD σ H=>tv σ H λy H1=>ta σ H1 λx H2=>LH λa C dx fs=>EI (x=.ref a) (H2 a=some (.ins C dx fs)) (oE K C) (cZ K C f) (fs.length<1000) (D.nx σ (upd H2 a (.ins C dx (bu f y fs))))
def J0(X:Cx)(z:U1)(rd:V->V->Hp->VK->Prop):Prop :=
 ∀(pins:W7)(s:se)(σ:St)(H:Hp)(x y:V)(u v:Value)(Q:VK),~~~H s->RelV x u->RelV y v->rd x y H Q->↑(inplaceOp z u v) (EP X pins σ Q) X.xe s
def EO(K:Om)(ta tv:TE)(rd:V->V->Hp->VK->Prop)(f:Str):TS:=λD σ H=>ta σ H λx H1=>FT λa C dx fs v=>EI (x=.ref a) (H1 a=some (.ins C dx fs)) (oE K C) (cZ K C f) (fs.lookup f=some v) (tv σ H1 λy H2=>rd v y H2 λz H3=>∃F fs',H3 a=some (.ins C F fs')/\fs'.length<1000/\D.nx σ (upd H3 a (.ins C F (bu f z fs'))))
section
variable{X:Cx}{o e value:OE}{f:Str}{pos pos' tpos:Q5}{ta tv:TE}
theorem aH(z:PE X e ta)(S:Q7 e f X.env (eval e X.env)=eval e X.env):PE X (.Attribute e f pos) (Dw X.K ta f):=by
 intros Q I h;show F5 S (b9 (z pins s σ H _ I h) λu s1 G=>?_);let#[x,H1,R,L,a,C,dx,fs,v,ex,J,c,n,l,q]:=G;subst ex;obtain rfl:u=Value.ref a:=L;show qC R J c n l λU s2 F O=>#[v,H1,F,O,q]
theorem fV(U:PE X o ta)(F:PE X value tv)(hs:RG value (some (.Attribute o f pos')) pos.line X.env=pure false):PS X (.Assign [.Attribute o f pos'] value pos) (Mq X.K ta tv f):=by
 intros D I h;show plainObj_wpAny_Assign_Attribute (b9 (F pins s σ H _ I h) λu J ab=>?_) hs;let#[y,H1,G,L,q]:=ab;show b9 (U pins J σ H1 _ G q) λov s2 R=>?_;let#[x,H2,z,S,a,C,dx,fs,ex,O,c,n,l,q2]:=R;subst ex;obtain rfl:ov=Value.ref a:=S;show qT z O c n l L λs3 I3=>#[σ,_,I3,q2]
theorem AV{F:U1}{rd:V->V->Hp->VK->Prop}(ha:PE X o ta)(hv:PE X value tv)(G:J0 X F rd):PS X (.AugAssign (.Attribute o f tpos) F value pos) (EO X.K ta tv rd f):=by
 intros D I h;show wpAny_AugAssign_AttributeAny (b9 (ha pins s σ H _ I h) λov s1 ab=>?_);let#[x,H1,I1,rx,a,C,dx,fs,v,ex,ea,c,n,l,q]:=ab;subst ex;obtain rfl:ov=Value.ref a:=rx;show qC I1 ea c n l λu s2 R ru=>b9 (hv pins s2 σ H1 _ R q) λw3 s3 ac=>?_;let#[y,H2,I3,ry,O]:=ac;show b9 (G pins s3 σ H2 v y u w3 _ I3 ru ry O) λw4 s4 U=>?_;let#[z,H3,I4,rz,am,fs',J,S,L]:=U;show qT I4 J c n S rz λs5 I5=>#[σ,_,I5,L]
inductive J1(x:V)(y:V)(H:Hp)(Q:VK):Prop
 |mk(i:_)(j:_)(_:x=.int i)(_:y=.int j)(_:Q (.int (i+j)) H)
theorem Iw:J0 X .Add J1:=by
 rintro pins s σ H x y u v Q I F z ⟨i,j,rfl,rfl,q⟩;let#[t,rfl]:=(show ∃t,u=Value.int i t from F);let#[t',rfl]:=(show ∃t',v=Value.int j t' from z);show VI #[.int (i+j),H,I.tok _,#[0],q]
variable{pins:W7}{σ:St}{H:Hp}{s:se}{A:Ov}{E:W8}{Q:W8}{c:Value}{b:Bool}
inductive mC(K:Om)(H:Hp):V->Value->Prop where
 |bB:mC K H .bB (.type "NoneType")
 |bl(x:Bool):mC K H (.bl x) (.type "bool")
 |int(i:Int):mC K H (.int i) (.type "int")
 |str(x:Str):mC K H (.str x) (.type "str")
 |flt(x:UInt64):mC K H (.flt x) (.type "float")
 |lst {a:Addr}{xs:List V}(e:H a=some (.lst xs)):mC K H (.ref a) (.type "list")
 |frz {a:Addr}{o:Obj}{xs:List V}(e:H a=some (.frz o (.lst xs))):mC K H (.ref a) (.type "list")
 |tup {a:Addr}{xs:List V}(e:H a=some (.tup xs)):mC K H (.ref a) (.type "tuple")
 |dK {a:Addr}{kvs:List (Key×V)}(e:H a=some (.dK kvs)):mC K H (.ref a) (.type "dict")
 |dT {a:Addr}{kvs:List (List Key×V)}(e:H a=some (.dT kvs)):mC K H (.ref a) (.type "dict")
 |ins {a C dx:Addr}{fs:List (Str×V)}(e:H a=some (.ins C dx fs)) (cl:oE K C) (ha:OZ K (.ref C) "__class__" = some (some (.builtin "object.__class__")))
   (hn:Sn K (.builtin "object.__class__") "__get__" = some (some (.builtin "getset_descriptor.__get__"))) (htk:Uc K (.builtin "object.__class__")=some true)
   (hm:Ud K C (.type "object")=some true):mC K H (.ref a) (.ref C)
theorem zX{x:V}{u t:Value}(I: ~~~H s)(G:RelV x u)(ty:mC X.K H x t)(e:Qj X.K t c=some b)(h:∀tk,Q (.bool b) { s with toks:=tk }) :
  wpAny (model X.prog X.w) A (call (.builtin "isinstance") [u,c]) Q E s:=by
 cases ty with
 |bB=>cases(show u=Value.none from G);show Rh PySem.W.kitx_none I.kh Qb e (λz=>nomatch z) h
 |bl y=>cases(show u=Value.bool y from G);show Rh PySem.W.kitx_bool I.kh Qb e (λz=>nomatch z) h
 |int i=>let#[t,q]:=(show ∃t,u=Value.int i t from G);cases q;show Rh PySem.W.kitx_int I.kh Qb e (λz=>nomatch z) h
 |str y=>let#[t,q]:=(show ∃t,u=Value.str y t from G);cases q;show Rh PySem.W.kitx_str I.kh Qb e (λz=>nomatch z) h
 |flt y=>let#[t,q]:=(show ∃t,u=Value.float y t from G);cases q;show Rh PySem.W.kitx_float I.kh Qb e (λz=>nomatch z) h
 | @lst a xs F =>
  cases(show u=Value.ref a from G);let#[_,_,n,_,h1]:=(show ck X.prog X.w H s.heap a (.lst xs)from I.bV a _ F);show Rh kitx_list I.kh #[_,h1,rfl] e (λz=>nomatch z) h
 | @frz a L xs F =>
  cases(show u=Value.ref a from G);let#[_,_,_,n,_,h1]:=(show ck X.prog X.w H s.heap a (.frz L (.lst xs))from I.bV a _ F);show Rh kitx_list I.kh #[_,h1,rfl] e (λz=>nomatch z) h
 | @tup a xs F =>
  cases(show u=Value.ref a from G);let#[_,_,_,p]:=(show ck X.prog X.w H s.heap a (.tup xs)from I.bV a _ F);let#[o,h1,h2,_]:=p;show Rh kitx_tuple I.kh #[o,h1,h2] e (λz=>nomatch z) h
 | @dK a kvs F =>
  cases(show u=Value.ref a from G);let#[_,_,vs,_,p]:=(show ck X.prog X.w H s.heap a (.dK kvs)from I.bV a _ F);let#[o,es,ep,h1,h2,_]:=p;show Rh kitx_dict I.kh #[o,h1,h2.1] e (λz=>nomatch z) h
 | @dT a kvs F =>
  cases(show u=Value.ref a from G);let#[_,_,xs,_,o,es,ep,h1,h2,_]:=(show ck X.prog X.w H s.heap a (.dT kvs)from I.bV a _ F);show Rh kitx_dict I.kh #[o,h1,h2.1] e (λz=>nomatch z) h
 | @ins a C dx fs F cl ha U R S =>
  cases(show u=Value.ref a from G);let#[mA,O,_]:=pB I.bV F;let#[od,J,_]:=O.look;show Rh (PySem.W.kitx_own (cl.get _) cl.hd ha U R S) I.kh J e (λz=>nomatch z) h
end
structure bp(k:Nat)(A:Ov):Prop where
 hd:A.handled=none
 dp:A.depth+3*k+5<Um
 un:A.units+16*k+200<Rr
theorem bp.mono{j k:Nat}{A:Ov}(r:bp k A)(h:j<=k):bp j A:=#[r.hd,by have:=r.dp;omega,by have:=r.un;omega]
theorem bp.deeper{k:Nat}{A:Ov}(r:bp (k+1) A)(env:SN):bp k (A.deeper env):=
 #[r.hd,by have:=r.dp;change A.depth+1+3*k+5<_;omega,by have:=r.un;change A.units+3+16*k+200<_;omega]
theorem ym{A:Ov}{C:Addr}{us:Xc}{z:List (Str×Value)}:(A.under (.builtin "type.__call__" #[.ref C::us,z])).depth=A.depth+1:=by
 first|rfl|simp[U8,Code.weight,Code.isCreation,Code.isGuard,Code.isCaller,WI,U9,guardIds]
theorem xp{A:Ov}{C:Addr}{us:Xc}{z:List (Str×Value)}:(A.under (.builtin "type.__call__" #[.ref C::us,z])).units=A.units+1:=by
 first|rfl|simp[U8,Code.cUnits,WI,U9]
theorem bp.make{k:Nat}{A:Ov}(r:bp (k+1) A)(C:Addr)(us:Xc)(z:List (Str×Value)):bp k (A.under (.builtin "type.__call__" #[.ref C::us,z])):=
 #[r.hd,by have:=r.dp;rw[ym];omega,by have:=r.un;rw[xp];omega]
theorem bp.depth{k:Nat}{A:Ov}(r:bp k A):A.depth<Um:=by have:=r.dp;omega
theorem bp.units{k:Nat}{A:Ov}(r:bp k A):A.units+64<Rr:=by have:=r.un;omega
theorem bp.mG{k:Nat}{A:Ov}(r:bp k A):A.units<Rr:=by have:=r.un;omega
def E7:TA:=λ_ H Q=>Q [] H
def K9(ta:TE)(z:TA):TA:=λσ H Q=>ta σ H λx H1=>z σ H1 λxs H2=>Q (x::xs) H2
section
variable{X:Cx}{e:OE}{es:List OE}{te:TE}{t:TA}{pos:Q5}
theorem ag:PA X [] E7:=λ_ _ _ _ H Q I h=>Calls.spliced_nil #[[],H,I,.nil,h]
theorem aa(S:PE X e te)(J:PA X es t)(hs:starEach (e::es) X.env=(false,eval e X.env)::starEach es X.env:=by rfl):PA X (e::es) (K9 te t):=by
 intro pos pins s σ H Q I h;rw[hs];change wpAny _ _ (VH ((false,eval e X.env)::backTo pos (starEach es X.env))) _ _ s;show Calls.spliced_cons (b9 (S pins s σ H _ I h) λu s1 R=>?_);let#[x,H1,U,O,G]:=R;show b9 (J pos pins s1 σ H1 _ U G) λus s2 L=>by let#[xs,H2,F,z,q2]:=L;show#[x::xs,H2,F,.cons O z,q2]
def Nl(t:TA):TE:=λσ H Q=>t σ H λxs H1=>xs.length<=sizeLine/\∀p,H1 p=none->Q (.ref p) (upd H1 p (.tup xs))
def Nr(t:TA):TE:=λσ H Q=>t σ H λxs H1=>xs.length<=sizeLine/\∀p,H1 p=none->Q (.ref p) (upd H1 p (.lst xs))
theorem eM{x1}(h:PA X es t):PE X (.Tuple es x1 pos) (Nl t):=by
 intros Q I L;show wpAny_Tuple_spliced (b9 (h pos pins s σ H _ I L) λus F O=>?_);let#[xs,H1,G,r,z,q]:=O;show#[by rw[<-r.length];show z,?_];let J:H1 F⁻¹=none:=G.bV.fresh (G0 _);show#[.ref F⁻¹,upd H1 F⁻¹ (.tup xs),G.laid (t':=F.toks) (λb u e=>Heap.get?_push_of_some _ e) (G0 _) ?_,rfl,q _ J];show#[z,us,r,#[_,Heap.get?_push_size _ rfl,rfl,0]]
theorem cm(h:PA X es t):PE X (.List es pos) (Nr t):=by
 intros Q I O;show wpAny_List_spliced (b9 (h pos pins s σ H _ I O) λus F L=>?_);let#[xs,H1,G,r,z,q]:=L;show#[by rw[<-r.length];show z,?_];let J:H1 F⁻¹=none:=G.bV.fresh (G0 _);show#[.ref F⁻¹,upd H1 F⁻¹ (.lst xs),G.laid (t':=F.toks) (λb u e=>Heap.get?_push_of_some _ e) (G0 _) ?_,rfl,q _ J];show#[z,us,(0),r,Heap.get?_push_size _ rfl]
end
abbrev Sp:=List V->Hp->VK->XK->Prop
abbrev rk:=List SN->Hp->se->XK->Value->se->Prop
structure uP(P:vu)(w:Oe)(K:Om)(mg:W9)(base:Heap)(A:Ov)(outer:List SN)(s:se)(H:Hp):Prop where
 frames:A.frames=some outer
 mod:Mod K mg base
 bs:∀b o,base.get? b=some o->s.heap.get? b=some o/\H b=none
 Be:base.objs.size<=s⁻¹
 km:s.heap.FunFrames base outer
 EJ:∀b∈q8 outer,H b=none
 bV:kq P w H s.heap
 bare:Sm s.gens
def CE(outer:List SN)(P:vu)(w:Oe)(H:Hp)(s:se)(Q:VK)(u:Value)(s':se):Prop :=
 ∃v H',s'.os=s.os/\Sm s'.gens/\Un (q8 outer) [] H H' s.heap s'.heap/\kq P w H' s'.heap/\RelV v u/\Q v H'
def CR(CX:rk)(outer:List SN)(P:vu)(w:Oe)(H:Hp)(s:se)(Q:VK)(E:XK)(r:VS)(s':se):Prop :=
 match r with
 |.ok (.ret u)=>CE outer P w H s Q u s'
 |.ok _=>False
 |.error e=>CX outer H s E e s'
structure aG(P:vu)(w:Oe)(K:Om)(mg:W9)(base:Heap)(CX:rk)(k:Nat)(f:Addr)(fd:t7)(ps:List Str)(sp:Sp):Prop where
 len:∀vs H Q E,sp vs H Q E->vs.length=ps.length
 run:∀(A:Ov)(outer:List SN)(s:se)(H:Hp)(args:Args)(us:Xc)(vs:List V)(Q:VK)(E:XK),bp k A->uP P w K mg base A outer s H->UC s fd args (ps.zip us)->Vals vs us->sp vs H Q E ->
  QV (model P w) A (.call (.ref f) args) (CR CX outer P w H s Q E) s
theorem aG.mono{P:vu}{w:Oe}{K:Om}{mg:W9}{base:Heap}{CX:rk}{j k:Nat}{f:Addr}{fd:t7}{ps:List Str}{sp:Sp}(F:aG P w K mg base CX j f fd ps sp)(h:j<=k) :
  aG P w K mg base CX k f fd ps sp:=#[F.len,λA outer s H args us vs Q E z=>F.run A outer s H args us vs Q E (z.mono h)]
theorem aG.imp{P:vu}{w:Oe}{K:Om}{mg:W9}{base:Heap}{CX:rk}{k:Nat}{f:Addr}{fd:t7}{ps:List Str}{sp z:Sp}(F:aG P w K mg base CX k f fd ps sp)
  (h:∀vs H Q E,z vs H Q E->sp vs H Q E):aG P w K mg base CX k f fd ps z :=
 #[λvs H Q E q=>F.len vs H Q E (h _ _ _ _ q),λA outer s H args us vs Q E J G L I hs=>F.run A outer s H args us vs Q E J G L I (h _ _ _ _ hs)]
theorem uP.make{P:vu}{w:Oe}{K:Om}{mg:W9}{base:Heap}{A:Ov}{outer:List SN}{s:se}{H:Hp}(e:uP P w K mg base A outer s H)(C:Addr)(us:Xc)(z:List (Str×Value)) :
  uP P w K mg base (A.under (.builtin "type.__call__" #[.ref C::us,z])) outer s H:=#[by first|show e.frames|(simpa[U8,Code.envs,U9,pushEnvs]using e.frames),e.mod,e.bs,e.Be,e.km,e.EJ,e.bV,e.bare]
section
variable{X:Cx}{pins:W7}{σ:St}{H:Hp}{s s':se}
theorem Inv.ET(I: ~~~H s):uP X.prog X.w X.K X.mg X.base X.A X.stack s H :=
 #[I.ok.frames,I.ok.mod,I.bs,Oy I.ok.Be I.sz,I.stack,I.uG,I.bV,I.bare]
theorem Inv.after{Q:VK}{u:Value}(I: ~~~H s)(h:CE X.stack X.prog X.w H s Q u s'):EP X pins σ Q u s':=by
 let#[v,H',os,bare,un,J,r,q]:=h;let#[F,g,d,t,G]:=s';obtain rfl:G=s.os:=os;show#[v,H',I.call (h':=F) (g':=g) (d':=d) (t':=t) (ch:=[]) un J bare (λb z=>absurd z (by simp)),r,q]
end
def DP(sp:Sp)(dvs:List V)(E:XK)(t:TA):TE:=λσ H Q=>t σ H λvs H1=>sp (vs++dvs) H1 Q E
inductive ED(C:Addr)(m:Str)(sp:Sp)(dvs:List V)(E:XK)(ta:TE)(t:TA)(σ:St)(Q:VK)(x:V)(H1:Hp):Prop
 |mk (a:_) (dx:_) (fs:_) (_:x=.ref a) (_:H1 a=some (.ins C dx fs)) (_:fs.lookup m=none) (_:t σ H1 λvs H2=>sp (x::(vs++dvs)) H2 Q E):ED C m sp dvs E ta t σ Q x H1
def zh(C:Addr)(m:Str)(sp:Sp)(dvs:List V)(E:XK)(ta:TE)(t:TA):TE:=λσ H Q=>ta σ H λx H1=>ED C m sp dvs E ta t σ Q x H1
def GJ(C:Addr)(sp:Sp)(dvs:List V)(E:XK)(t:TA):TE:=λσ H Q=>t σ H λvs H1=>∀x dx,H1 x=none->H1 dx=none->dx≠x ->
 sp (.ref x::(vs++dvs)) (upd (upd H1 dx (.own x)) x (.ins C dx [])) (λv H2=>v=.bB/\Q (.ref x) H2) E
def Binds(K:Om)(fd:t7)(ps:List Str)(ds:Xc):Prop :=
 ∀(s:se)(us:Xc),K.In s.heap->(us++ds).length=ps.length->UC s fd #[us,[]] (ps.zip (us++ds))
theorem Binds.all{K:Om}{fd:t7}{ps:List Str}(h:∀us:List Value,us.length=ps.length->VT fd #[us,[]]=pure (ps.zip us)):Binds K fd ps []:=λs us _ z=>by
 rw[QS]at z ⊢;show .of_eq (h us z)
def Passes(CX:rk)(X:Cx)(E:XK):Prop:=∀(pins:W7)(σ:St)(H:Hp)(s:se)(e:Value)(s':se),~~~H s->CX X.stack H s E e s'->X.xe e s'
section
variable{X:Cx}{CX:rk}{k:Nat}{f C:Addr}{fd:t7}{ps:List Str}{sp:Sp}{dvs:List V}{ds:Xc}{E:XK}{x m:Str}{p pos apos:Q5}{e o:OE}{es:List OE}{ta:TE}{t:TA}
theorem yl{pins:W7}{σ:St}{H:Hp}{s:se}{Q:VK}{us:Xc}{vs:List V}(F:aG X.prog X.w X.K X.mg X.base CX k f fd ps sp)(J:bp k X.A)(R:Binds X.K fd ps ds)(hd:Vals dvs ds)(hx:Passes CX X E)
  (I: ~~~H s) (r:Vals vs us) (h:sp (vs++dvs) H Q E):↑(call (.ref f) us) (EP X pins σ Q) X.xe s:=by
 let G:Vals (vs++dvs) (us++ds):=r.append hd;let O:(us++ds).length=ps.length:=(by rw[<-G.length];show F.len _ _ _ _ h);show RK (QW (F.run X.A X.stack s H #[us,[]] (us++ds) (vs++dvs) Q E J I.ET (R s us I.kh O) G h) λr s' z=>?_);cases r with
 |error e=>show hx pins σ H s e s' I z
 |ok L =>
  cases L with
  |ret u=>show I.after z
  |next=>show OS z
  |brk=>show OS z
  |cont=>show OS z
theorem eK(F:aG X.prog X.w X.K X.mg X.base CX k f fd ps sp)(O:bp k X.A)(hg:Gl X x)(J:X.mg x=some (.ref f))(L:Sy X.K (.ref f)=true)(hb:Binds X.K fd ps ds)(hd:Vals dvs ds)(hx:Passes CX X E)
  (U:PA X (e::es) t) (R:(x==("__debug__" : Str))=false:=by decide) (G:starEach (e::es) X.env=(false,eval e X.env)::starEach es X.env:=by rfl) (ab:(backTo pos (starEach es X.env)).any (·.1)=false:=by rfl) :
  PE X (.Call (.Name x p) (e::es) [] pos) (DP sp dvs E t):=by
 intros Q I h;show PZ (gZ I hg J ?_ R);show RL (h₀:=X.base) I.ok.mod.CH L (b9 (U pos pins s σ H _ I h) λus s1 S=>?_) G ab;let#[vs,H1,z,r,q]:=S;show#[z.kh,?_];show yl F O hb hd hx z r q
theorem Fd{pl:Sem Bool}(L:PE X o ta)(c:oE X.K C)(J:Meth X.K C m f)(F:aG X.prog X.w X.K X.mg X.base CX k f fd ps sp)(hr:bp k X.A)(U:Binds X.K fd ps ds)(hd:Vals dvs ds)(hx:Passes CX X E)(ha:PA X (e::es) t)
  (ab:starEach (e::es) X.env=(false,eval e X.env)::starEach es X.env:=by rfl) (ac:(backTo pos (starEach es X.env)).any (·.1)=false:=by rfl)
  (ht:eval (.Call (.Attribute o m apos) (e::es) [] pos) X.env=(do
   let ov <-eval o X.env
   TB apos.atName
   let (f,first) <-Rp [ov] (RH ov m pl)
   Uo pos f first (backTo pos (starEach (e::es) X.env)) (Sa pos (Qy [] X.env))):=by rfl) :
  PE X (.Call (.Attribute o m apos) (e::es) [] pos) (zh C m sp dvs E ta t):=by
 intros Q I h;show Te (pl:=pl) (b9 (L pins s σ H _ I h) λu S R=>?_) ht;let#[x,H1,G,rx,a,dx,fs,ex,ea,l,q]:=R;subst ex;obtain rfl:u=Value.ref a:=rx;show iI G ea c J l ?_;show RL (first:=[.ref a]) (h₀:=X.base) I.ok.mod.CH J.kp (b9 (ha pos pins S σ H1 _ G q) λus s2 O=>?_) ab ac;let#[vs,H2,z,r,q2]:=O;show#[z.kh,?_];show yl (us:=.ref a::us) (vs:=.ref a::vs) F hr U hd hx z (.cons rfl r) q2
theorem qO{pl:Sem Bool}(J:PE X o ta)(c:oE X.K C)(G:Meth X.K C m f)(F:aG X.prog X.w X.K X.mg X.base CX k f fd ps sp)(O:bp k X.A)(hb:Binds X.K fd ps ds)(hd:Vals dvs ds)(hx:Passes CX X E)
  (R:eval (.Call (.Attribute o m apos) [] [] pos) X.env=(do
   let ov <-eval o X.env
   TB apos.atName
   let (f,first) <-Rp [ov] (RH ov m pl)
   Uo pos f first (backTo pos (starEach [] X.env)) (Sa pos (Qy [] X.env))):=by rfl) :
  PE X (.Call (.Attribute o m apos) [] [] pos) (zh C m sp dvs E ta E7):=by
 intros Q I h;show Te (pl:=pl) (b9 (J pins s σ H _ I h) λu s1 L=>?_) R;let#[x,H1,z,U,a,dx,fs,ex,S,l,q]:=L;subst ex;obtain rfl:u=Value.ref a:=U;show iI z S c G l ?_;show callWith_K0 (first:=[.ref a]) z.kh G.kp (yl (us:=[.ref a]) (vs:=[.ref a]) F O hb hd hx z (.cons rfl .nil) q)
structure Mk(K:Om)(C f:Addr):Prop where
 makes:makesIn K C=true
 init:OZ K (.ref C) "__init__" = some (some (.ref f))
 fn:isFn K (.ref f)=true
 kp:Sy K (.ref C)=true
theorem vD{pins:W7}{σ:St}{H:Hp}{s:se}{Q:VK}{us:Xc}{vs:List V}(M:Mk X.K C f)(F:aG X.prog X.w X.K X.mg X.base CX k f fd ps sp)(R:bp (k+1) X.A)(hb:Binds X.K fd ps ds)(hd:Vals dvs ds)
  (hx:Passes CX X E) (I: ~~~H s) (r:Vals vs us)
  (h:∀x dx,H x=none->H dx=none->dx≠x->sp (.ref x::(vs++dvs)) (upd (upd H dx (.own x)) x (.ins C dx [])) (λv H2=>v=.bB/\Q (.ref x) H2) E) :
  ↑(call (.ref C) us) (EP X pins σ Q) X.xe s:=by
 let L:=h (s⁻¹+1) s⁻¹ (I.bV.fresh (RT _)) (I.bV.fresh (G0 _)) (Pb (RJ _));let G:=Inv.made (C:=C) I;let J:Vals (V.ref (s⁻¹+1)::(vs++dvs)) (Value.ref (s⁻¹+1)::(us++ds)):=.cons rfl (r.append hd);let U:(Value.ref (s⁻¹+1)::us++ds).length=ps.length:=by
  let e:=J.length;rw[F.len _ _ _ _ L]at e;show e.symm
 show RK (CY (f:=f) I.kh M.makes M.init (beq_iff_eq.mp M.fn) (QW (F.run _ X.stack _ _ #[Value.ref (s⁻¹+1)::us,[]] (Value.ref (s⁻¹+1)::(us++ds)) _ _ E (R.make C us [])
  (G.ET.make C us []) (hb _ (Value.ref (s⁻¹+1)::us) G.kh U) J L) λr s' z=>?_))
 cases r with
 |error e=>show hx pins σ _ _ e s' G z
 |ok fl =>
  cases fl with
  |ret u =>
   let#[v,H',S,rv,ev,O]:=G.after z;subst ev;show#[rv,#[V.ref (s⁻¹+1),H',S,rfl,O]]
  |next=>show OS z
  |brk=>show OS z
  |cont=>show OS z
theorem iL(M:Mk X.K C f)(F:aG X.prog X.w X.K X.mg X.base CX k f fd ps sp)(O:bp (k+1) X.A)(hg:Gl X x)(L:X.mg x=some (.ref C))(hb:Binds X.K fd ps ds)(hd:Vals dvs ds)(hx:Passes CX X E)
  (S:PA X (e::es) t) (R:(x==("__debug__" : Str))=false:=by decide) (G:starEach (e::es) X.env=(false,eval e X.env)::starEach es X.env:=by rfl) (U:(backTo pos (starEach es X.env)).any (·.1)=false:=by rfl) :
  PE X (.Call (.Name x p) (e::es) [] pos) (GJ C sp dvs E t):=by
 intros Q I h;show PZ (gZ I hg L ?_ R);show RL (h₀:=X.base) I.ok.mod.CH M.kp (b9 (S pos pins s σ H _ I h) λus s1 J=>?_) G U;let#[vs,H1,z,r,q]:=J;show#[z.kh,?_];show vD M F O hb hd hx z r q
theorem wC(M:Mk X.K C f)(F:aG X.prog X.w X.K X.mg X.base CX k f fd ps sp)(L:bp (k+1) X.A)(z:Gl X x)(G:X.mg x=some (.ref C))(O:Binds X.K fd ps ds)(hd:Vals dvs ds)(hx:Passes CX X E)
  (J:(x==("__debug__" : Str))=false:=by decide):PE X (.Call (.Name x p) [] [] pos) (GJ C sp dvs E E7):=by
 intros Q I h;show PZ (gZ I z G ?_ J);show callWith_K0 I.kh M.kp (vD (us:=[]) M F L O hd hx I .nil h)
variable{ks:List Str}{kpos:Q5}{kws:List UD}{te:TE}{tk:TA}{nm:Option Str}
variable{g:List Value->List Value->List Value}{gV:List V->List V->List V}
end
structure aD(N P:List Str)(sc:RY):Prop where
 kind:sc.kind=.function
 co:sc.isCoroutine=false
 gen:sc.isGenerator=false
 nd:N.Nodup
 pre:N.take P.length=P
 par:∀x∈P,sc.names.lookup x=some .local\/sc.names.lookup x=some .cell
 Hy:∀y∈sc.names,y.2≠.free
theorem bL{N P:List Str}{z:RY}(a:z.kind=.function:=by exact rfl)(b:z.isCoroutine=false:=by exact rfl)(c:z.isGenerator=false:=by exact rfl)(d:N.Nodup:=by decide +kernel)(e:N.take P.length=P:=by exact rfl)(f:∀x∈P,z.names.lookup x=some .local\/z.names.lookup x=some .cell:=by decide +kernel)(g:∀y∈z.names,y.2≠.free:=by decide +kernel):aD N P z:=#[a,b,c,d,e,f,g]
theorem rV{kindOf:Str->Option NameKind}{x:Str}:∀{binds:List (Str×Value)}{m:W9},(∀v,(x,v)∉binds)->VU kindOf binds m x=m x
 | [],_,_=>rfl
 |(n,v)::r,m,h=>by
  unfold VU;rw[rV λw z=>h w (OH _ z)];split
  .have:x≠n:=(by rintro rfl;show h v OF);simp[this]
  .rfl
theorem sk{kindOf:Str->Option NameKind}{x:Str}:∀{binds:List (Str×Value)}{m:W9},(∀v,(x,v)∉binds)->VV kindOf binds m x=m x
 | [],_,_=>rfl
 |(n,v)::r,m,h=>by
  unfold VV;rw[sk λw z=>h w (OH _ z)];split
  .rfl
  .have:x≠n:=(by rintro rfl;show h v OF);simp[this]
theorem rK{kindOf:Str->Option NameKind}{x:Str}{v:Value}:∀{P:List Str}{vs:Xc}{i:Nat}{m:W9},P.Nodup->P[i]?=some x->vs[i]?=some v->kindOf x=some .local ->
  VU kindOf (P.zip vs) m x=some v
 | [],_,_,_,_,h,_,_=>by simp at h
 |_::_,[],_,_,_,_,h,_=>by simp at h
 |p::P,w::vs,0,m,F,h1,h2,z=>by
  simp at h1 h2;subst h1;subst h2;change VU kindOf ((p,w)::P.zip vs) m p=_;unfold VU;rw[rV λv G=>(Oo.mp F).1 (TH G).1,WY z];simp
 |p::P,w::vs,i+1,m,F,h1,h2,z=>by
  change VU kindOf ((p,w)::P.zip vs) m x=_;unfold VU;show rK (i:=i) (Oo.mp F).2 ‹h1› ‹h2› z
theorem si{kindOf:Str->Option NameKind}{x:Str}{v:Value}:∀{P:List Str}{vs:Xc}{i:Nat}{m:W9},P.Nodup->P[i]?=some x->vs[i]?=some v->kindOf x≠some .local ->
  VV kindOf (P.zip vs) m x=some v
 | [],_,_,_,_,h,_,_=>by simp at h
 |_::_,[],_,_,_,_,h,_=>by simp at h
 |p::P,w::vs,0,m,F,h1,h2,z=>by
  simp at h1 h2;subst h1;subst h2;change VV kindOf ((p,w)::P.zip vs) m p=_;unfold VV;rw[sk λv G=>(Oo.mp F).1 (TH G).1,WX z];simp
 |p::P,w::vs,i+1,m,F,h1,h2,z=>by
  change VV kindOf ((p,w)::P.zip vs) m x=_;unfold VV;show si (i:=i) (Oo.mp F).2 ‹h1› ‹h2› z
def start(N:List Str)(vs:List V):St:=vs.map some++replicate (N.length-vs.length) none
def rA(CX:rk)(P:vu)(w:Oe)(K:Om)(mg:W9)(base:Heap)(N:List Str)(qual:Str)(scope:RY)(f:Addr)(cd:Value)(A:Ov)(outer:List SN)(s:se)(H:Hp)(E:XK):Cx where
 prog:=P
 w:=w
 K:=K
 mg:=mg
 base:=base
 A:=A.deeper (RM qual scope s⁻¹ f cd)
 N:=N
 s₀:=s
 H₀:=H
 env:=RM qual scope s⁻¹ f cd
 outer:=outer
 stack:=RM qual scope s⁻¹ f cd::outer
 ex:=[]
 calm:=true
 fn:=λ_=>true
 pn:=[]
 xe:=λe s'=>wpAny (model P w) (A.deeper (RM qual scope s⁻¹ f cd)) (leaving (RM qual scope s⁻¹ f cd) e) (λ_ z=>CX outer H s E e z) (λF z=>CX outer H s E F z) s'
theorem wM{z:RY}{n:Nat}{x:Str}(h:z.names.lookup x=some .cell):∃c,(Vm n z.names []).lookup x=some c:=by
 let q:=Uq z.names n [] (.inl h);show Qv.mp q
theorem rZ{CX:rk}{P:vu}{w:Oe}{K:Om}{mg:W9}{base:Heap}{N ps:List Str}{qual:Str}{scope:RY}{f:Addr}{cd:Value}{A:Ov}{outer:List SN}{s O:se}{H:Hp}{E:XK}{us:Xc}{vs:List V}
  (S:aD N ps scope) (hd:A.handled=none) (F:uP P w K mg base A outer s H) (hl:vs.length=ps.length) (r:Vals vs us)
  (x:InCallC s s⁻¹ (VU (RM qual scope s⁻¹ f cd).kindOf (ps.zip us) λ_=>none) (Vm (s⁻¹+1) scope.names []) (VV (RM qual scope s⁻¹ f cd).kindOf (ps.zip us) λ_=>none) O) :
  Inv (rA CX P w K mg base N qual scope f cd A outer s H E) [] (start N vs) H O:=by
 let ab:ps.length<=N.length:=(by have:=congrArg Qz S.pre;rw[Oz]at this;omega);let#[h1,tk,rfl,R]:=x.done;let J:∀b:Addr,b∉(rA CX P w K mg base N qual scope f cd A outer s H E).ex:=λb z=>absurd (show b∈([]:List Addr)from z) (by simp);show#[#[F.mod,S.kind,1,G0 _,λy z c h1 h2=>?_,λy G=>?_,λy c _ h=>?_,λ_=>hd,Around.frames_deeper F.frames,.inr #[1],λb z=>absurd z (J b),F.bs,F.Be,λb _ _=>J b,λb z=>absurd z (J b),F.km,F.EJ],
  rfl,F.bare,Un.kept R,#[_,x.toInCall.ns,λi y v h1 h2 h3=>?_],λy c h=>#[_,x.cell y c h],F.bV.fresh (G0 _),λy c h=>?_,λp I=>absurd (show p∈([]:W7)from I) (by simp),F.bV.kept R,?_]
 .show name_of_addr x.apart (PU h1) (PU h2)
 .let G:scope.names.lookup y=some .cell\/scope.names.lookup y=some .free:=G;rcases G with G|G
  .show wM G
  .show absurd rfl (S.Hy _ (PU G))
 .show VO (x.above y c (PU h))
 .let hi:i<vs.length:=by
   unfold start at h2;cases hi:i<vs.length
   .show hi
   .rw[Qk ‹hi›]at h2;rw[List.getElem?_replicate]at h2;split at h2<;>cases h2
  let ha:vs[i]?=some v:=by
   unfold start at h2;rw[Qp ‹hi›,Od]at h2;cases e:vs[i]? with
   |none=>rwa[e]at h2
   |some a=>rwa[e]at h2;rfl
  let#[u,U,rv]:=r.get ha;let I:ps[i]?=some y:=by
   rw[<-S.pre,List.getElem?_take_of_lt af];show h1
  let L:ps.Nodup:=(by rw[<-S.pre];show S.nd.sublist (QX _ _));show#[u,rv,?_];rcases S.par y (NC I)with k|k
  .show .inl #[k,rK L I U k]
  .let#[c,e]:=wM (n:=s⁻¹+1) k;show .inr #[.inl k,c,e,?_];let q:=x.cell y c e;rw[si L I U (by change scope.names.lookup y≠_;rw[k];decide)]at q;show q
 .show F.bV.fresh (VO (x.above y c (PU h)))
 .unfold start;change _=N.length;rw[Oj,ti,PF];omega
theorem Gz{CX:rk}{P:vu}{w:Oe}{K:Om}{mg:W9}{base:Heap}{k:Nat}{f:Addr}{name qual:Str}{U:Arguments}{body:List OB}{scope:RY}{dV kV ac pm z ct oc:Value}{an od:Xe}
  {aB:Array (Option Value)}{N ps:List Str}{sp:Sp}(lk:K.lookup f=some #[oc,od,.func (Wy name qual U body scope dV kV ac pm an z ct),aB]) (am:Wz K z qual=true) (S:aD N ps scope)
  (len:∀vs H Q E,sp vs H Q E->vs.length=ps.length)
  (ao:∀(A:Ov)(outer:List SN)(s:se)(H:Hp)(vs:List V)(Q:VK)(E:XK),bp k (A.deeper (RM qual scope s⁻¹ f z))->sp vs H Q E ->
   ∃t,uZ (rA CX P w K mg base N qual scope f z A outer s H E) body t/\t { nx:=λ_ H'=>Q .bB H',rt:=Q } (start N vs) H) :
  aG P w K mg base CX (k+1) f (Wy name qual U body scope dV kV ac pm an z ct) ps sp:=by
 show#[len,λA outer s H args us vs Q E L F hb r R=>?_];let hl:=len _ _ _ _ R;let KX:K.In s.heap:=F.mod.CH.keeps λb o e=>(F.bs b o e).1;let aT:s.heap.NoLimit:=F.mod.nolimit.keeps λb o e=>(F.bs b o e).1;let as:∀y∈ps.zip us,scope.names.lookup y.1=some .local\/(scope.names.lookup y.1=some .cell/\((Vm (s⁻¹+1) scope.names []).lookup y.1).isSome=true):=λap hy=>by
  let#[n,v]:=ap;rcases S.par n (TH hy).1 with q|q
  .show .inl q
  .show .inr #[q,Uq _ _ _ (.inl q)]
 show Ue L.depth (KX _ _ lk) rfl S.co S.gen rfl (codeRec_of KX am) (hb _ _ _ _ ?_);show SA S.kind as λenv he s1 x=>?_;subst he;show#[aT.keeps x.toInCall.keep,codeAny_func ?_];let#[t,ht,hq]:=ao A outer s H vs Q E (L.deeper _) R;let I:Inv (rA CX P w K mg base N qual scope f z A outer s H E) [] (start N vs) H s1:=rZ S L.hd F hl r x;show OL (ht [] s1 (start N vs) H _ I hq) (λfl s' hs=>?_) λe s' hs=>hs;let ab:∀{G:St}{H':Hp}{v:V}{u:Value},Inv (rA CX P w K mg base N qual scope f z A outer s H E) [] G H' s'->RelV v u->Q v H'->CE outer P w H s Q u s' :=
  λ{G H' v u} J O q=>#[v,H',J.os,J.bare,J.base,J.bV,O,q]
 cases fl with
 |ret u =>
  let#[v,G,H',J,O,q]:=hs;show ab J O q
 |next =>
  let#[G,H',J,q]:=hs;show ab (v:=V.bB) (u:=Value.none) J rfl q
 |brk =>
  let#[_,_,_,q]:=hs;show OS q
 |cont =>
  let#[_,_,_,q]:=hs;show OS q
section
variable{X:Cx}{x:Str}{p pos:Q5}{e:OE}{es:List OE}{t:TA}{id T:String}{r:List V->Hp->VK->Prop}
def NM(r:List V->Hp->VK->Prop)(t:TA):TE:=λσ H Q=>t σ H λvs H1=>r vs H1 Q
theorem a9(G:fq X (.builtin id) r)(hg:Gl X x)(F:X.mg x=none)(L:OO x=some (.builtin id))(ha:PA X (e::es) t)(S:x ≠ "__name__" := by decide)(U:(x==("__debug__" : Str))=false:=by decide)
  (z:starEach (e::es) X.env=(false,eval e X.env)::starEach es X.env:=by rfl) (ab:(backTo pos (starEach es X.env)).any (·.1)=false:=by rfl):PE X (.Call (.Name x p) (e::es) [] pos) (NM r t):=by
 intros Q I h;show PZ (jm I hg F L ?_ S U);show PyProof.Rows.callWith_builtin1 (b9 (ha pos pins s σ H _ I h) λus s1 R=>by let#[vs,H1,I1,O,J]:=R;show G pins s1 σ H1 vs us Q I1 O J) z ab
theorem cJ(G:fq X (.type T) r)(hg:Gl X x)(F:X.mg x=none)(L:OO x=some (.type T))(ha:PA X (e::es) t)(R:x ≠ "__name__" := by decide)(S:(x==("__debug__" : Str))=false:=by decide)
  (z:starEach (e::es) X.env=(false,eval e X.env)::starEach es X.env:=by rfl) (ab:(backTo pos (starEach es X.env)).any (·.1)=false:=by rfl):PE X (.Call (.Name x p) (e::es) [] pos) (NM r t):=by
 intros Q I h;show PZ (jm I hg F L ?_ R S);show Pq (b9 (ha pos pins s σ H _ I h) λus s1 ac=>by let#[vs,H1,U,O,J]:=ac;show G pins s1 σ H1 vs us Q U O J) z ab
end
end L2
namespace HT
open PySem PyProof.Rows
section
open PySem.SeqAt
open PySem.AutoSeq1 (wpAny_loadPart')
open PySem.MeetsSeq PySem.MeetsSeq2 PySem.MeetsSeq3
variable{prog:vu}{w:Oe}{A:Ov}{E:W8}{s:se}
def uY(n d:Nat):Option Int->Nat
 |none=>d
 |some v=>if v<0 then(v+(n:Int)).toNat else min v.toNat n
theorem oS(n d k:Nat):uY n d (some (k:Int))=min k n:=by
 change(if (k:Int)<0 then((k:Int)+(n:Int)).toNat else min (k:Int).toNat n)=min k n;rw[WX af,P6]
end
end HT
namespace L2
open PySem PySem.Spec PyProof.Rows
abbrev TO:=St->Hp->(Option Int->Hp->Prop)->Prop
def PO(X:Cx)(e:Option OE)(t:TO):Prop :=
 ∀(pins:W7)(s:se)(σ:St)(H:Hp)(Q:Option Int->Hp->Prop),~~~H s->t σ H Q ->
  ↑(evalPart e X.env) (λu s'=>∃o H',~~~H' s'/\IsPart u o/\Q o H') X.xe s
def FX:TO:=λ_ H Q=>Q none H
def KH(t:TE):TO:=λσ H Q=>t σ H λx H1=>∃i,x=.int i/\Q (some i) H1
theorem intsAre_of{z:List Int}:∀{us:Xc},Vals (z.map V.int) us->RU us z:=by
 induction z with
 |nil=>intro us r;rwa[map_nil]at r;show .nil
 |cons n z I =>
  intro us r;rw[PN]at r;cases r with
  |cons F G =>
   let#[t,e]:=F;subst e;show .cons n t (I G)
section
variable{X:Cx}{e:OE}{te:TE}{lo hi:Option OE}{tl th:TO}{pos p2:Q5}
theorem mx:PO X none FX:=by
 intros Q I h;rw[evalPart_none];show wpAny_pure #[none,H,I,.none,h]
theorem gE(h:PE X e te):PO X (some e) (KH te):=by
 intros Q I G;rw[evalPart_some];show b9 (h pins s σ H _ I G) λu O z=>?_;let#[x,H1,L,J,F]:=z;let#[i,rfl,q]:=F;let#[t,rfl]:=J;show#[some i,H1,L,.int i t,q]
def Mi(X:Cx)(r:V->Option Int->Option Int->Hp->VK->Prop):Prop :=
 ∀(pins:W7)(s:se)(σ:St)(H:Hp)(x:V)(v z F:Value)(lo hi:Option Int)(sl:Addr)(Q:VK),~~~H s->RelV x v->s.heap.IsSliceOf sl z F .none->IsPart z lo->IsPart F hi->r x lo hi H Q ->
  ∃T id,VW (.type T) "__getitem__" = pure (some (.builtin id))/\s.TypeIs v T/\↑(UB v (.ref sl)) (EP X pins σ Q) X.xe s
def N5(r:V->Option Int->Option Int->Hp->VK->Prop)(te:TE)(tl th:TO):TE:=λσ H Q=>te σ H λx H1=>tl σ H1 λl H2=>th σ H2 λu H3=>r x l u H3 Q
theorem gL{r:V->Option Int->Option Int->Hp->VK->Prop}(hr:Mi X r)(J:PE X e te)(hl:PO X lo tl)(hu:PO X hi th):PE X (.Subscript e (.Slice lo hi none p2) pos) (N5 r te tl th):=by
 intros Q I h;show VX (b9 (J pins s σ H _ I h) λv s1 ac=>?_);let#[x,H1,I1,r1,U]:=ac;show wpAny_Slice (b9 (hl pins s1 σ H1 _ I1 U) λF s2 ab=>?_);let#[l,H2,S,pl,q2]:=ab;show b9 (hu pins s2 σ H2 _ S q2) λG z R=>?_;let#[u,H3,I3,L,O]:=R;rw[evalPart_none];show wpAny_pure ?_;let I4: ~~~H3 { z with heap:=z.heap.push { cls:=.type "slice",data:=.fields ([F,G,.none].toArray) } }:=I3.kept (t':=z.toks) λb ob q=>Heap.get?_push_of_some _ q;let#[T,id,hT,ht,hg]:=hr pins { z with heap:=z.heap.push { cls:=.type "slice",data:=.fields ([F,G,.none].toArray) } } σ H3 x v F G l u z⁻¹ Q I4 r1 (Heap.IsSliceOf.new ..) pl L O;change ↑(UL e (.Slice lo hi none p2) v (.ref z⁻¹)) (EP X pins σ Q) X.xe { z with heap:=z.heap.push { cls:=.type "slice",data:=.fields ([F,G,.none].toArray) } };show tail_any (ops:=[.ref z⁻¹,v]) ht hT hg (by with_unfolding_all rfl)
def jk(xs:List V)(lo hi:Option Int):List V:=(xs.drop (HT.uY xs.length 0 lo)).take (HT.uY xs.length xs.length hi-HT.uY xs.length 0 lo)
theorem wA(xs:List V)(lo hi:Option Int):(jk xs lo hi).length<=xs.length:=by
 unfold jk;rw[Oz,P7];omega
end
def wY(n:Nat)(i:Int):Option Nat:=if 0<=i then(if i<n then some i.toNat else none)else if -(n:Int)<=i then some (i+n).toNat else none
def xC{α:Type}(xs:List α)(i:Int):Option α:=(wY xs.length i).bind λj=>xs[j]?
theorem zH{n:Nat}{i:Int}{j:Nat}(h:wY n i=some j):Wt i n=some j/\j<n /\ -(n:Int)<=i/\i<n:=by
 unfold wY at h;cases z:0<=i
 .rw[WY z]at h;cases h1:i<n
  .rw[WY h1]at h;let e:i.toNat=j:=DD h;show#[by rw[SV z h1,e],af,af,h1]
  .rw[WX h1]at h;cases h
 .rw[WX z]at h;by_cases h1 : -(n:Int)<=i
  .rw[WY h1]at h;let e:(i+n).toNat=j:=DD h;show#[by rw[seqIndex_neg af h1,e],af,h1,af]
  .rw[WX h1]at h;cases h
theorem uN{α:Type}{xs:List α}{i:Int}{v:α}(h:xC xs i=some v):∃j,Wt i xs.length=some j/\xs[j]?=some v/\j<xs.length /\ -(xs.length:Int)<=i/\i<xs.length:=by
 unfold xC at h;cases e:wY xs.length i with
 |none=>rwa[e]at h
 |some j =>
  rw[e]at h;let#[h1,h2,F,z]:=zH e;show#[j,h1,h,h2,F,z]
theorem oW{α:Type}{xs:List α}{j:Nat}{v:α}(h:xs[j]?=some v):xC xs (j:Int)=some v:=by
 let z:j<xs.length:=(sN.mp h).1;let e:wY xs.length (j:Int)=some j:=by
  unfold wY;rw[WY af,WY af];simp
 unfold xC;rw[e];show h
def F4(b:OE):Prop:=∀o i,Ur b false o i=operate [o,i] (UB o i)
def KW(X:Cx)(r:R2):Prop :=
 ∀(value z:OE)(pins:W7)(s:se)(σ:St)(H:Hp)(x y:V)(v u:Value)(Q:VK),~~~H s->RelV x v->RelV y u->r x y H Q ->
  Ur z false v u=operate [v,u] (UB v u)->↑(UL value z v u) (EP X pins σ Q) X.xe s
def NQ(X:Cx)(id:String)(r:V->List V->Hp->VK->Prop):Prop :=
 ∀(pins:W7)(s:se)(σ:St)(H:Hp)(x:V)(xs:List V)(v:Value)(us:Xc)(Q:VK),~~~H s->RelV x v->Vals xs us->r x xs H Q ->
  ↑(call (.builtin id) (v::us)) (EP X pins σ Q) X.xe s
section
variable{X:Cx}{a b:OE}{ta tb:TE}{pos:Q5}
theorem aL{r:R2}(G:KW X r)(L:PE X a ta)(O:PE X b tb)(hs:F4 b):PE X (.Subscript a b pos) (Kc r ta tb):=by
 intros Q I h;show VX (Ju L O I h λv u s2 x y H2 z J F q=>G a b pins s2 σ H2 x y v u Q z J F q (hs _ _))
inductive DB(K:Om)(x:V)(y:V)(H:Hp)(Q:VK):Prop
 |mk(p:_)(xs:_)(i:_)(v:_)(_:x=.ref p)(_:y=.int i)(_:bA K H p xs)(_:xC xs i=some v)(_:Q v H)
inductive Lk(K:Om)(x:V)(y:V)(H:Hp)(Q:VK):Prop
 |mk(p:_)(xs:_)(i:_)(v:_)(_:x=.ref p)(_:y=.int i)(_:bM K H p xs)(_:xC xs i=some v)(_:Q v H)
theorem bT:KW X (DB X.K):=by
 intro value ab pins s σ H x y v u Q I rx ry h hs;let#[p,xs,i,z,rfl,rfl,U,O,q]:=h;cases rx;let#[t,rfl]:=ry;let#[its,r,pl,hz]:=I.list U;let#[j,h1,h2,h3,h4,R]:=uN O;let#[w,J,S]:=r.get h2;let hl:=r.length;let hn:=qo;let G:EP X pins σ Q w s:=#[z,H,I,S,q];cases L:0<=i
 .let F:i.toNat=j:=by
   rw[SV L R]at h1;show DD h1
  show item_listR pl.isList L af (by rw[F];simpa using J) G hs
 .let F:(i+(its.toArray.size:Int)).toNat=j:=by
   rw[seqIndex_neg af h4]at h1;rw[BY, <-hl];show DD h1
  show TK (x:=w) pl.isList.typeIs Va.lookup
   (TL (Q:=λr s'=>r=w/\EP X pins σ Q r s') pl.isList af (by rw[BY]<;>omega) af (by rw[F];simpa using J) #[rfl,G]) hs
theorem aN:KW X (Lk X.K):=by
 intro value ab pins s σ H x y v u Q I S R h hs;let#[p,xs,i,z,rfl,rfl,L,F,q]:=h;cases S;let#[t,rfl]:=R;let#[its,r,pl,hz]:=I.tuple L;let#[j,h1,h2,h3,h4,h5]:=uN F;let#[w,O,G]:=r.get h2;let U:=r.length;let hn:=qo;let J:EP X pins σ Q w s:=#[z,H,I,G,q];show TK (x:=w) pl.typeIs slot_tuple_getitem.lookup
  (getItem_tuple (j:=j) (Q:=λr s'=>r=w/\EP X pins σ Q r s') pl af af (by rw[BY, <-U];show h1) ‹O› #[rfl,J]) hs
theorem xx(its:Xc)(n j:Nat)(u:Value):Obj.mapSeq (·.setIfInBounds j u) { cls:=.type "list",data:=.seq its.toArray n }={ cls:=.type "list",data:=.seq (its.set j u).toArray n }:=by
 simp[Obj.mapSeq]
theorem Inv.lst{pins:W7}{σ:St}{H:Hp}{s:se}{p:Addr}{xs:List V}(I: ~~~H s)(h:H p=some (.lst xs)) :
  ∃(its:Xc)(n:Nat),Vals xs its/\s.heap.get? p=some { cls:=.type "list",data:=.seq its.toArray n }/\xs.length<=sizeLine:=by
 let#[z,its,n,r,e]:=I.bV p _ h;show#[its,n,r,e,z]
theorem Inv.HY{pins:W7}{σ:St}{H:Hp}{s:se}{p:Addr}{xs ys:List V}{its its':Xc}{n z:Nat}{f:Obj->Obj}(I: ~~~H s)(h:H p=some (.lst xs))
  (L:s.heap.get? p=some { cls:=.type "list",data:=.seq its.toArray n }) (F:f { cls:=.type "list",data:=.seq its.toArray n }={ cls:=.type "list",data:=.seq its'.toArray z }) (r:Vals ys its') (G:ys.length<=sizeLine) (t:Nat) :
  ~~~(upd H p (.lst ys)) { s with heap:=s.heap.update p f,toks:=t }:=by
 let e:(s.heap.update p f).get? p=some { cls:=.type "list",data:=.seq its'.toArray z }:=by
  rw[Heap.get?_update_self f L (by rw[F]<;>rfl),F]
 show I.write (x:=p) (e:=p) (by rw[h];trivial) (.inl rfl) (λb u J q=>(Heap.get?_update_other _ _ (D0 J)).trans q) #[_,e] ?_;show#[G,its',z,r,e]
inductive Gx(o:V)(i:V)(v:V)(H:Hp)(Q:(Hp->Prop)):Prop
 |mk(p:_)(xs:_)(k:_)(j:_)(_:o=.ref p)(_:i=.int k)(_:H p=some (.lst xs))(_:wY xs.length k=some j)(_:Q (upd H p (.lst (xs.set j v))))
theorem set_list:Il X Gx:=by
 intros o i v ov iv u Q I ro ri rv h;let#[p,xs,k,j,rfl,rfl,L,hj,q]:=h;cases ro;let#[t,rfl]:=ri;let#[its,n,r,G,U]:=I.lst L;let#[h1,h2,S,O]:=zH hj;let F:=r.length;let hn:=qo;let J: ~~~(upd H p (.lst (xs.set j v))) { s with heap:=s.heap.update p (Obj.mapSeq (·.setIfInBounds j u)) }:=
  I.HY L G (xx its n j u) (r.set rv j) (by rw[Pa];show U) s.toks
 cases R:0<=k
 .let z:k.toNat=j:=by
   rw[SV R O]at h1;show DD h1
  show PySem.W.ki_setAt G R af (by rw[BY, <-F];show O) (by rw[z];show#[_,J,q])
 .let z:(k+(its.toArray.size:Int)).toNat=j:=by
   rw[seqIndex_neg af S]at h1;rw[BY, <-F];show DD h1
  show PySem.W.ki_setBack G af (by rw[BY, <-F];show S) af (by rw[z];show#[_,J,q])
theorem tG(lo hi:Option Int)(n:Nat):(Rn lo hi none n).1=((HT.uY n 0 lo:Nat):Int)/\(Rn lo hi none n).2.1=((HT.uY n n hi:Nat):Int)/\(Rn lo hi none n).2.2=1:=by
 show#[3,rfl]
 .cases lo with
  |none=>simp[Rn,HT.uY]
  |some i =>
   simp only[Rn,HT.uY,getD_none,show(1:Int)>0 by decide,if_true];cases h:i<0
   .simp only[h,if_true]<;>omega
   .simp only[h,if_false]<;>omega
 .cases hi with
  |none=>simp[Rn,HT.uY]
  |some i =>
   simp only[Rn,HT.uY,getD_none,show(1:Int)>0 by decide,if_true];cases h:i<0
   .simp only[h,if_true]<;>omega
   .simp only[h,if_false]<;>omega
theorem rl(its:Xc)(lo hi:Option Int):slicePick its.toArray lo hi none=((its.drop (HT.uY its.length 0 lo)).take (HT.uY its.length its.length hi-HT.uY its.length 0 lo)).toArray:=by
 let#[h1,h2,z]:=tG lo hi its.toArray.size;unfold slicePick;rw[h1,h2,z];simp only[sliceRange_one,pick_run,BY]<;>rfl
inductive Iy(K:Om)(x:V)(lo:Option Int)(hi:Option Int)(H:Hp)(Q:VK):Prop
 |mk(a:_)(xs:_)(_:x=.ref a)(_:bA K H a xs)(_:∀p,H p=none->Q (.ref p) (upd H p (.lst (jk xs lo hi))))
theorem iR:Mi X (Iy X.K):=by
 intros x v O R lo hi sl Q I J hs pl F h;let#[a,xs,rfl,hx,q]:=h;cases J;let#[its,r,z,G]:=I.list hx;let L:=r.length;show#["list",_,Va.lookup,z.isList.typeIs,?_];show wpAny_getItem_list_slice z.isList hs pl F .none (by simp) ?_ (by rw[BY]<;>omega);rw[rl, <-L];show#[.ref s⁻¹,_,I.laid (t':=s.toks) (o:=.lst (jk xs lo hi)) (λb S q=>Heap.get?_push_of_some _ q) (G0 _) ?_,rfl,q _ (I.bV.fresh (G0 _))];show#[Oy (wA xs lo hi) G,_,(0),(r.drop (HT.uY xs.length 0 lo)).take (HT.uY xs.length xs.length hi-HT.uY xs.length 0 lo),Heap.get?_push_size _ rfl]
def gg:V->Bool
 |.bB=>true
 |.bl _=>true
 |.int _=>true
 |.str _=>true
 |_=>false
def pA:V->V->Bool
 |.bB,.bB=>true
 |.bl a,.bl b=>a==b
 |.bl a,.int b=>(if a then 1 else 0)==b
 |.int a,.bl b=>a==(if b then 1 else 0)
 |.int a,.int b=>a==b
 |.str a,.str b=>a==b
 |_,_=>false
theorem uL{A:Ov}{s:se}{y x:V}{u v:Value}(F:RelV y u)(z:RelV x v)(I:gg y=true)(G:gg x=true):TM A s u v (pA y x):=by
 cases y with
 |bB =>
  cases F;cases x with
  |bB=>cases z;show SeqAt.EqAt.same _
  |bl b=>cases z;show SeqAt.EqAt.none_bool b
  |int b=>let#[t,rfl]:=z;show SeqAt.EqAt.none_int b t
  |str b=>let#[t,rfl]:=z;show SeqAt.EqAt.none_str b t
  |_=>show absurd (show false=true from G) IF
 |bl a =>
  cases F;cases x with
  |bB=>cases z;show SeqAt.EqAt.bool_none a
  |bl b=>cases z;show SeqAt.EqAt.bool_bool a b
  |int b=>let#[t,rfl]:=z;show SeqAt.EqAt.bool_int a b t
  |str b=>let#[t,rfl]:=z;show SeqAt.EqAt.bool_str a b t
  |_=>show absurd (show false=true from G) IF
 |int a =>
  let#[t',rfl]:=F;cases x with
  |bB=>cases z;show SeqAt.EqAt.int_none a t'
  |bl b=>cases z;show SeqAt.EqAt.int_bool a t' b
  |int b=>let#[t,rfl]:=z;show SeqAt.EqAt.int_int a t' b t
  |str b=>let#[t,rfl]:=z;show UO a t' b t
  |_=>show absurd (show false=true from G) IF
 |str a =>
  let#[t',rfl]:=F;cases x with
  |bB=>cases z;show SeqAt.EqAt.str_none a t'
  |bl b=>cases z;show SeqAt.EqAt.str_bool a t' b
  |int b=>let#[t,rfl]:=z;show UP a t' b t
  |str b=>let#[t,rfl]:=z;show SeqAt.EqAt.str_str a t' b t
  |_=>show absurd (show false=true from G) IF
 |_=>show absurd (show false=true from I) IF
def xX(x:V)(u:Value):Bool:=match u with
 |.none=>pA .bB x
 |.bool b=>pA (.bl b) x
 |.int i _=>pA (.int i) x
 |.str z _=>pA (.str z) x
 |_=>false
theorem BR{x y:V}{u:Value}(r:RelV y u)(f:gg y=true):xX x u=pA y x:=by
 cases y with
 |bB=>cases r;rfl
 |bl b=>cases r;rfl
 |int i=>let#[t,rfl]:=r;rfl
 |str z=>let#[t,rfl]:=r;rfl
 |_=>show absurd (show false=true from f) IF
theorem lT{x:V}:∀{xs:List V}{us:Xc},Vals xs us->xs.all gg=true->us.any (xX x)=xs.any λy=>pA y x
 |_,_,.nil,_=>rfl
 |y::xs,u::us,.cons r t,f=>by
  rw[all_cons,Tj]at f;rw[Us,Us,BR r f.1,lT t f.2]
theorem jy{A:Ov}{s:se}{x:V}{v:Value}(G:RelV x v)(F:gg x=true):∀{xs:List V}{us:Xc},Vals xs us->xs.all gg=true->∀u∈us,TM A s u v (xX x u)
 |_,_,.nil,_=>λu z=>by cases z
 |y::xs,u::us,.cons r t,f=>λI z=>by
  rw[all_cons,Tj]at f;rcases vr.mp z with rfl|z
  .rw[BR r f.1];show uL r G f.1 F
  .show jy G F t f.2 I z
def Ha(x:V)(xs:List V):Bool:=xs.any λy=>pA y x
inductive Mo(K:Om)(neg:Bool)(x:V)(y:V)(H:Hp)(Q:VK):Prop
 |mk(p:_)(xs:_)(_:y=.ref p)(_:(bA K H p xs\/bM K H p xs))(_:gg x=true)(_:xs.all gg=true)(_:Q (.bl (if neg then !Ha x xs else Ha x xs)) H)
theorem rO:mF X (Px .In) (Mo X.K false):=by
 intros x y v u Q I J L h;let#[p,xs,rfl,z,G,fs,q]:=h;cases L;rcases z with z|z
 .let#[its,r,pl,O]:=I.list z;show SeqAt.in_listAt (xX x) pl.isList (λw F=>jy J G r fs w ‹F›) #[.bl _,H,I,4];rw[show its.toArray.any (xX x)=its.any (xX x)by simp,lT r fs];show q
 .let#[its,r,pl,O]:=I.tuple z;show SeqAt.in_tupleAt (xX x) pl (λw F=>jy J G r fs w ‹F›) #[.bl _,H,I,4];rw[show its.toArray.any (xX x)=its.any (xX x)by simp,lT r fs];show q
theorem iW:mF X (Px .NotIn) (Mo X.K true):=by
 intros x y v u Q I J L h;let#[p,xs,rfl,z,G,fs,q]:=h;cases L;rcases z with z|z
 .let#[its,r,pl,O]:=I.list z;show SeqAt.notIn_listAt (xX x) pl.isList (λw F=>jy J G r fs w ‹F›) #[.bl _,H,I,4];rw[show its.toArray.any (xX x)=its.any (xX x)by simp,lT r fs];show q
 .let#[its,r,pl,O]:=I.tuple z;show SeqAt.notIn_tupleAt (xX x) pl (λw F=>jy J G r fs w ‹F›) #[.bl _,H,I,4];rw[show its.toArray.any (xX x)=its.any (xX x)by simp,lT r fs];show q
theorem bS:fq X (.builtin "len") (λxs H Q=>∃p ys,xs=[.ref p]/\(bA X.K H p ys\/bM X.K H p ys)/\Q (.int ys.length) H):=by
 intros xs us Q I r h;let#[p,ys,rfl,z,q]:=h;let#[u,rfl,L]:=vals1 r;cases L;let O:=qo;rcases z with z|z
 .let#[its,F,pl,J]:=I.list z;let G:=F.length;show Calls.call_len_list pl.isList (by simp only[BY]<;>omega) #[.int ys.length,H,I.tok _,#[s.toks+1,by rw[BY,G]],q]
 .let#[its,F,pl,J]:=I.tuple z;let G:=F.length;show len_tuple pl (by simp only[BY]<;>omega) #[.int ys.length,H,I.tok _,#[s.toks+1,by rw[BY,G]],q]
theorem ff:fq X (.type "list") (λxs H Q=>∃p ys,xs=[.ref p]/\(bA X.K H p ys\/bM X.K H p ys)/\∀l,H l=none->Q (.ref l) (upd H l (.lst ys))):=by
 intros xs us Q I r h;let#[p,ys,rfl,G,q]:=h;let#[u,rfl,S]:=vals1 r;cases S;let R:∀(its:Xc),Vals ys its->ys.length<=sizeLine->∀(h':Heap)(c':Nat),(∀b o',s.heap.get? b=some o'->h'.get? b=some o') ->
   h'.get? s⁻¹=some { cls:=.type "list",dict:=none,data:=.seq its.toArray c',slots := ([].toArray) }->EP X pins σ Q (.ref s⁻¹) { s with heap:=h' }:=λits z F h' c' J e =>
  #[.ref s⁻¹,_,I.laid (t':=s.toks) J (G0 _) (show ck X.prog X.w _ h' _ (.lst ys)from#[F,its,c',z,e]),rfl,q _ (I.bV.fresh (G0 _))]
 rcases G with G|G
 .let#[its,z,pl,F]:=I.list G;let U:=z.length;let#[o,O,L,n,hd]:=pl.isList;show call_list_seq p (.inl rfl) O L hd (λh' c' J e=>R its z F h' c' J e) (by simp only[BY]<;>omega)
 .let#[its,z,pl,F]:=I.tuple G;let U:=z.length;let#[o,O,L,n,hd]:=pl;show call_list_seq p (.inr rfl) O L hd (λh' c' J e=>R its z F h' c' J e) (by simp only[BY]<;>omega)
theorem rH:fq X (.type "tuple") (λxs H Q=>∃p ys,xs=[.ref p]/\((bA X.K H p ys/\∀l,H l=none->Q (.ref l) (upd H l (.tup ys)))\/(bM X.K H p ys/\Q (.ref p) H))):=by
 intros xs us Q I r h;let#[p,ys,rfl,h]:=h;let#[u,rfl,R]:=vals1 r;cases R;rcases h with⟨F,q⟩|⟨F,q⟩
 .let#[its,z,pl,G]:=I.list F;let S:=z.length;show call_tuple_list pl.isList (λh' L=>?_) (by simp only[BY]<;>omega);let J: ~~~H { s with heap:=h' }:=I.kept (t':=s.toks) L;let O: ~~~(upd H h'.objs.size (.tup ys)) { s with heap:=h'.push { cls:=.type "tuple",data:=.seq its.toArray } }:=
   J.laid (t':=s.toks) (λb o e=>Heap.get?_push_of_some _ e) (G0 _) (show ck X.prog X.w _ _ _ (.tup ys)from#[G,its,z,IsTup.new _ _])
  show#[.ref h'.objs.size,_,O,rfl,q _ (J.bV.fresh (G0 _))]
 .let#[its,z,pl,G]:=I.tuple F;show call_tuple_same pl #[.ref p,H,I,rfl,q]
def LZ(K:Om)(T:String)(x:V)(H:Hp):Prop:=match x with
 |.str _=>T = "str"
 |.int _=>T = "int"
 |.ref p=>(T = "list" /\ ∃xs,bA K H p xs)\/(T = "tuple" /\ ∃o,K.lookup p=some o/\o.cls=.type "tuple" /\ o.dict=none) \/
   (T = "dict" /\ ((∃kvs,H p=some (.dK kvs))\/∃kvs,H p=some (.dT kvs)))\/(T = "set" /\ ∃S n,H p=some (.set S n))
 |_=>False
theorem BA{pins:W7}{σ:St}{H:Hp}{s:se}{T:String}{x:V}{v:Value}(I: ~~~H s)(r:RelV x v)(ty:LZ X.K T x H) :
  s.TypeIs v T/\∀a,v=.ref a->∃J,s.heap.get? a=some J/\J.dict=none:=by
 cases x with
 |str z =>
  let#[t,rfl]:=r;cases(show T = "str" from ty);show#[typeIs_str s z t,λ_ e=>nomatch e]
 |int i =>
  let#[t,rfl]:=r;cases(show T = "int" from ty);show#[VY s i t,λ_ e=>nomatch e]
 |ref p =>
  cases r;rcases ty with⟨rfl,xs,O⟩|⟨rfl,o,F,L,hd⟩|⟨rfl,F⟩|⟨rfl,S,n,F⟩
  .let#[its,_,pl,_]:=I.list O;show#[pl.isList.typeIs,λa e=>?_];cases e;let#[o,n,e,c,hd,_]:=pl;show#[o,e,hd]
  .show#[#[o,I.kh p o F,L],λa e=>?_];cases e;show#[o,I.kh _ o F,hd]
  .let z:∃o,s.heap.get? p=some o/\o.ExactDict:=by
    rcases F with⟨kvs,F⟩|⟨kvs,F⟩
    .let#[_,_,_,_,o,_,_,e,ex,_]:=I.bV p _ F;show#[o,e,ex]
    .let#[_,_,_,_,o,_,_,e,ex,_]:=I.bV p _ F;show#[o,e,ex]
   let#[o,e,ex]:=z;show#[#[o,e,ex.1],λa G=>?_];cases G;show#[o,e,ex.2.1]
  .let#[o,_,_,_,e,ex,_]:=I.bV p _ F;show#[#[o,e,ex.1],λa G=>?_];cases G;show#[o,e,ex.2.1]
 |_=>show OS ty
def LY(K:Om)(T:String)(r:V->List V->Hp->VK->Prop)(to:TE):TE:=λσ H Q=>to σ H λx H1=>LZ K T x H1/\r x [] H1 Q
def N1(K:Om)(T:String)(r:V->List V->Hp->VK->Prop)(to:TE)(t:TA):TE:=λσ H Q=>to σ H λx H1=>LZ K T x H1/\t σ H1 λxs H2=>r x xs H2 Q
variable{o e:OE}{es:List OE}{to:TE}{t:TA}{name:Str}{apos cpos:Q5}{T id:String}{r:V->List V->Hp->VK->Prop}
theorem Hz(J:PlainAttrs T)(slot:Slot T name id)(R:UQ (.builtin id)=pure (.type "method_descriptor"))(L:NQ X id r)(ho:PE X o to)
  (S:Q7 o name X.env (eval o X.env)=eval o X.env:=by rfl) (U:(apos.endLine==cpos.line)=true:=by rfl):PE X (.Call (.Attribute o name apos) [] [] cpos) (LY X.K T r to):=by
 intros Q I h;show wpAny_Call_method0_late S U (b9 (ho pins s σ H _ I h) λv s1 G=>?_);let#[x,H1,F,z,ty,O]:=G;let#[h1,h2]:=BA F z ty;show#[T,id,J,slot,R,h1,h2,Calls.callWith_builtin rfl (PySem.evalArgs_none (L pins s1 σ H1 x [] v [] Q F z .nil O))]
theorem jn(pa:PlainAttrs T)(slot:Slot T name id)(U:UQ (.builtin id)=pure (.type "method_descriptor"))(hm:NQ X id r)(ho:PE X o to)(ha:PA X (e::es) t)
  (ab:Q7 o name X.env (eval o X.env)=eval o X.env:=by rfl)
  (ac:((backTo cpos (starEach (e::es) X.env)).all (λx => !x.1)&&(Sa cpos (Qy [] X.env)).all (λx=>x.1.isSome)
   && decide ((e::es).length+([]:List UD).length+(if ([]:List UD).isEmpty then 0 else 1)<30))=true:=by rfl)
  (J:(apos.endLine==cpos.line)=true:=by rfl) (hs:starEach (e::es) X.env=(false,eval e X.env)::starEach es X.env:=by rfl) (am:(backTo cpos (starEach es X.env)).any (·.1)=false:=by rfl) :
  PE X (.Call (.Attribute o name apos) (e::es) [] cpos) (N1 X.K T r to t):=by
 intros Q I h;show wpAny_Call_method_late ab ac J rfl (b9 (ho pins s σ H _ I h) λv s1 L=>?_);let#[x,H1,z,F,ty,R]:=L;let#[h1,h2]:=BA z F ty;show#[T,id,pa,slot,U,h1,h2,?_];let G:=ha cpos pins s1 σ H1 _ z R;rw[hs]at G ⊢;show Calls.callWith_builtin (by change(false||(backTo cpos (starEach es X.env)).any (·.1))=false;rw[am]<;>rfl) (Calls.evalArgs_plain ?_);show b9 G λus s2 ao=>by let#[vs,H2,S,O,q2]:=ao;show hm pins s2 σ H2 x vs v us Q S F O q2
end
def Gh(X:Cx)(id:String)(r:V->List V->Hp->VK->Prop):Prop :=
 ∀(pins:W7)(s:se)(σ:St)(H:Hp)(x:V)(xs:List V)(v:Value)(us:Xc)(Q:VK),~~~H s->RelV x v->Vals xs us->r x xs H Q ->
  ↑(call (.builtin id) (v::us)) (EP X pins σ Q) X.xe s
theorem Vals.one:∀{x:V}{us:Xc},Vals [x] us->∃u,us=[u]/\RelV x u
 |_,_,.cons r .nil=>#[0,r]
theorem Vals.zero:∀{us:Xc},Vals [] us->us=[]
 |_,.nil=>rfl
theorem Vals.eraseIdx:∀{xs:List V}{us:Xc}(i:Nat),Vals xs us->Vals (xs.eraseIdx i) (us.eraseIdx i)
 |_,_,_,.nil=>.nil
 |_,_,0,.cons _ t=>t
 |_,_,i+1,.cons r t=>.cons r (Vals.eraseIdx i t)
theorem Vals.rep{xs:List V}{us:Xc}(h:Vals xs us):∀k:Nat,Vals (replicate k xs).flatten (replicate k us).flatten
 |0=>.nil
 |k+1=>by
  rw[PQ,PQ,QY,QY];show Vals.append h (Vals.rep h k)
theorem rW{α:Type}:∀(l:List α)(i:Nat),(l.eraseIdx i).length<=l.length
 | [],_=>G0 _
 |_::_,0=>RT _
 |_::r,i+1=>Tn (rW r i)
theorem foldl_rep(its:Xc):∀(k:Nat)(z:Xc),
  foldl (λG F=>G++F) z.toArray (replicate k its.toArray)=(z++(replicate k its).flatten).toArray
 |0,z=>by simp
 |k+1,z=>by
  let e:z.toArray++its.toArray=(z++its).toArray:=(by simp);let I:(z++its)++(replicate k its).flatten=z++(replicate (k+1) its).flatten:=by
   rw[PQ,QY,OP]
  rw[<-I, <-foldl_rep its k (z++its), <-e,PQ,VB]
section
variable{X:Cx}{pins:W7}{σ:St}{H:Hp}{s:se}{l b:Addr}{xs ys zs:List V}
theorem Inv.B1{its its':Xc}{n:Nat}{f:Array Value->Array Value}{t':Nat}(I: ~~~H s)(z:H l=some (.lst xs))
  (e:s.heap.get? l=some { cls:=.type "list",data:=.seq its.toArray n }) (F:f its.toArray=its'.toArray) (L:Vals ys its') (J:ys.length<=sizeLine) :
  ~~~(upd H l (.lst ys)) { s with heap:=s.heap.update l (Obj.mapSeq f),toks:=t' }:=by
 let q:=QZ e f;rw[F]at q;show I.write (x:=l) (e:=l) (by rw[z];show trivial) (.inl rfl) (λR u O G=>(Heap.get?_update_other s.heap (Obj.mapSeq f) (D0 O)).trans G) #[_,q] ?_;show#[J,its',_,L,q]
theorem Inv.KD{its:Xc}{t':Nat}(I: ~~~H s)(F:Vals ys its)(z:ys.length<=sizeLine) :
  ~~~(upd H s⁻¹ (.lst ys)) { s with heap:=s.heap.push { cls:=.type "list",data:=.seq its.toArray },toks:=t' }:=
 I.laid (λ_ _ q=>Heap.get?_push_of_some _ q) (G0 _) #[z,its,(0),F,Heap.get?_push_size _ rfl]
theorem Inv.fresh(I: ~~~H s):H s⁻¹=none:=I.bV.fresh (G0 _)
theorem Inv.oG(I: ~~~H s)(F:H l=some (.lst xs)):xs.length<=sizeLine/\∃(its:Xc)(n:Nat),Vals xs its/\xs.length=its.length/\s.heap.get? l=some { cls:=.type "list",data:=.seq its.toArray n }:=by
 let#[z,its,n,r,e]:=I.bV l _ F;show#[z,its,n,r,r.length,e]
theorem vk{n:Nat}(h:n<=sizeLine):Builtin.List.listTooLong n=false:=by
 unfold Builtin.List.listTooLong;show decide_eq_false af
inductive ze(x:V)(vs:List V)(H:Hp)(Q:VK):Prop
 |mk(l:_)(xs:_)(y:_)(_:x=.ref l)(_:vs=[y])(_:H l=some (.lst xs))(_:xs.length<sizeLine)(_:Q .bB (upd H l (.lst (xs++[y]))))
theorem sI:Gh X "list.append" ze:=by
 intros x vs v us Q I J O h;let#[l,xs,y,rfl,rfl,G,R,q]:=h;cases J;let#[u,rfl,L]:=O.one;let#[z,its,n,r,S,e]:=I.oG G;show QD F.slot_list_append #[_,e,rfl] F.entry_list_append (F.args_list_append_2 _ _) (Vy l its.toArray n u (by rw[BY];omega)) #[e,?_];show#[.bB,_,I.B1 (its':=its++[u]) G e (by simp) (r.append (.cons L .nil)) ?_,rfl,q];rw[Oj,Pu];omega
inductive y7(x:V)(vs:List V)(H:Hp)(Q:VK):Prop
 |mk(l:_)(b:_)(xs:_)(zs:_)(_:x=.ref l)(_:vs=[.ref b])(_:H l=some (.lst xs))(_:H b=some (.lst zs))(_:xs.length+zs.length<=sizeLine)(_:Q .bB (upd H l (.lst (xs++zs))))
theorem nH:Gh X "list.extend" y7:=by
 intros x vs v us Q I U rv h;let#[l,b,xs,zs,rfl,rfl,J,hB,hz,q]:=h;cases U;let#[u,rfl,L]:=rv.one;cases L;let#[z,its,n,r,hl,e]:=I.oG J;let#[z2,G,R,r2,ab,O]:=I.oG hB;let hsz:its.toArray.size+G.toArray.size<=sizeLine:=(by rw[BY,BY];omega);let S:¬ (!its.toArray.isEmpty&&Builtin.List.listTooLong (its.toArray.size+G.toArray.size))=true:=by
  rw[vk hsz,Ut];show IF
 show QD F.slot_list_extend #[_,e,rfl] F.entry_list_extend (F.args_list_extend_2 _ _)
  (AutoSeq1.list_extend_list_list_0 l its.toArray n b G.toArray R S (by rw[BY];omega) af) #[e,O,?_]
 show#[.bB,_,I.B1 (its':=its++G) J e (by simp) (r.append r2) ?_,rfl,q];rw[Oj];omega
inductive Bw(x:V)(vs:List V)(H:Hp)(Q:VK):Prop
 |mk(l:_)(xs:_)(i:_)(k:_)(y:_)(_:x=.ref l)(_:vs=[.int i])(_:H l=some (.lst xs))(_ : -(2^63)<=i)(_:i<2^63)(_:Wt i xs.length=some k)(_:xs[k]?=some y)(_:Q y (upd H l (.lst (xs.eraseIdx k))))
theorem Dg:Gh X "list.pop" Bw:=by
 intros x vs v us Q I S rv h;let#[l,xs,i,k,y,rfl,rfl,G,h1,h2,L,O,q]:=h;cases S;let#[u,rfl,U]:=rv.one;let#[t,rfl]:=U;let#[z,its,n,r,hl,e]:=I.oG G;let#[w,R,J]:=r.get O;show QD F.slot_list_pop #[_,e,rfl] F.entry_list_pop (F.args_list_pop_2 _ _)
  (MeetsSeq.list_pop_at l its.toArray n i t k w (fitsIndex_both h1 h2) (by rw[BY, <-hl];show L) (by rw[<-Qc];show R) (by rw[BY];omega)) #[e,?_]
 show#[y,_,I.B1 (its':=its.eraseIdx k) G e ?_ (r.eraseIdx k) ?_,J,q]
 .change its.toArray.eraseIdxIfInBounds k=(its.eraseIdx k).toArray;rw[RD]
 .have:=rW xs k;omega
inductive Dm(x:V)(vs:List V)(H:Hp)(Q:VK):Prop
 |mk(l:_)(xs:_)(_:x=.ref l)(_:vs=[])(_:H l=some (.lst xs))(_:Q .bB (upd H l (.lst [])))
theorem Cf:Gh X "list.clear" Dm:=by
 intros x vs v us Q I L O h;let#[l,xs,rfl,rfl,G,q]:=h;cases L;let J:=O.zero;subst J;let#[z,its,n,r,R,e]:=I.oG G;show QD F.slot_list_clear #[_,e,rfl] F.entry_list_clear (F.args_list_clear_1 _) (AutoSeq1.list_clear_list_0 l its.toArray n (by rw[BY];omega)) #[e,?_];show#[.bB,_,I.B1 (its':=[]) (ys:=[]) G e rfl .nil (OJ _),rfl,q]
inductive Kf(x:V)(y:V)(H:Hp)(Q:VK):Prop
 |mk(l:_)(b:_)(xs:_)(zs:_)(_:x=.ref l)(_:y=.ref b)(_:H l=some (.lst xs))(_:H b=some (.lst zs))(_:xs.length+zs.length<=sizeLine)(_:∀p,H p=none->Q (.ref p) (upd H p (.lst (xs++zs))))
theorem xU:mF X (RZ .Add) Kf:=by
 intros x y v u Q I S O h;let#[l,b,xs,zs,rfl,rfl,G,U,hz,q]:=h;cases S;cases O;let#[z,its,n,r,hl,e]:=I.oG G;let#[z2,F,n2,L,ab,J]:=I.oG U;show PySem.P.add_list e J ?_ (by rw[BY,BY];omega);let R:its.toArray++F.toArray=(its++F).toArray:=(by simp);rw[R];show#[.ref _,_,I.KD (t':=s.toks) (r.append L) (by rw[Oj];omega),rfl,q _ I.fresh]
inductive J6(x:V)(y:V)(H:Hp)(Q:VK):Prop
 |mk(l:_)(k:_)(xs:_)(_:x=.ref l)(_:y=.int k)(_:H l=some (.lst xs))(_ : -(2^63)<=k)(_:k<2^63)(_:xs.length*k.toNat<=sizeLine)(_:∀p,H p=none->Q (.ref p) (upd H p (.lst (replicate k.toNat xs).flatten)))
theorem len_rep{α:Type}(xs:List α)(k:Nat):(replicate k xs).flatten.length=k*xs.length:=by
 induction k with
 |zero=>simp
 |succ k z=>rw[PQ,QY,Oj,z,Nat.succ_mul,Nat.add_comm]
theorem pS:mF X (RZ .Mult) J6:=by
 intros x y v u Q I rx S h;let#[l,k,xs,rfl,rfl,R,h1,h2,L,q]:=h;cases rx;let#[t,rfl]:=S;let#[z,its,n,r,hl,e]:=I.oG R;let ao:its.toArray.size*k.toNat<=sizeLine:=(by rw[BY, <-hl];show L);let ap:¬ its.toArray.size*k.toNat>(2^63-1)/8:=by
  have:(sizeLine:Nat)<=(2^63-1)/8:=aq;omega
 let ac:¬ (!Builtin.List.listFitsIndex k)=true:=by
  rw[fitsIndex_both h1 h2];show IF
 let ab:¬ Builtin.List.listTooLong (its.toArray.size*k.toNat)=true:=by
  rw[vk ao];show IF
 let am:foldl (λG J=>G++J) ([].toArray) (replicate (if its.toArray.isEmpty=true then 0 else k.toNat) its.toArray)=(replicate k.toNat its).flatten.toArray:=by
  let O:∀m:Nat,foldl (λG J=>G++J) ([].toArray) (replicate m its.toArray)=(replicate m its).flatten.toArray:=λm=>by
   have:=foldl_rep its m [];rw[VZ]at this;show this
  rw[O];cases its with
  |nil=>simp
  |cons a r'=>rw[WX (by simp)]
 show wpAny_binaryOp_repeat_ref (T := "list") (U := "int") aq #[_,e,rfl] (λs'=>VY s' k t) noFill_list_mul F.fills_int_mul F.slot_int_rmul repeat_list F.slot_int_index.lookup
  (QD F.slot_int_rmul (VY s k t) F.entry_int_rmul (F.args_int_rmul_2 _ _) (int___rmul___int_list k t l its.toArray n)
   #[e,rfl,#[_,e,rfl],QD F.slot_list_mul #[_,e,rfl] F.entry_list_mul (F.args_list_mul_2 _ _) (AutoListH.list___mul___list_int_3 l its.toArray n k t ac ap ab) #[e,?_]])
 rw[am];show#[.ref _,_,I.KD (t':=s.toks) (r.rep k.toNat) (by rw[len_rep,Nat.mul_comm];show L),rfl,q _ I.fresh]
variable{prog:vu}{w:Oe}{A:Ov}{E:W8}
end
end L2
namespace Att
open PySem PySem.W PySem.Calls PyProof.Rows
theorem oC{P:Params}{h:Heap}:∀(z:List Int)(vs:Xc),WellAll P h vs (z.map WData.int)->RU vs z:=by
 intro z
 induction z with
 |nil =>
  intro vs w;rwa[map_nil]at w;show .nil
 |cons n z F =>
  intro vs w;rw[PN]at w;cases w with
  |cons a b =>
   cases a;show .cons _ _ (F _ b)
theorem Bb{l:Sb}{n:Nat}(hn:l.most=some n){P:Params}{h:Heap}{args:List WData}{L:Xc}
  (I:l.row.toRowW.claim.pre args=true) (O:WellAll P h L args) :
  ∃a vs z,L=[Value.ref a]/\args=[WData.list (z.map WData.int)]/\h.get? a=some { cls:=.type "list",data:=.seq vs.toArray }/\RU vs z/\z.length<=n:=by
 let R:WShape.hasAll [] args [.list .int]=true:=(pre_splitW I).1;let J:l.pre.holds [] { args:=args }=true:=(pre_splitW I).2;let#[d,r,rfl,h1,h2]:=hasAllW_cons R;obtain rfl:=hasAllW_nil h2;let#[xs,rfl,h3]:=hasW_list h1;let#[z,rfl]:=items_int h3;let ab:z.length<=n:=by
  unfold OpenLaw.pre at J;let F:(WTm.not (.lt (.lit (.int (n:Int))) (.len (.arg 0)))).holds [] { args:=[.list (z.map .int)] }=true:=by
   let F:=(holds_andW J).1;rw[hn]at F;show F
  let G:=condW_of F (w_not (w_lt w_lit (w_len_list (w_arg rfl))));rw[ti]at G;show O0 λq=>?_;let q':(n:Int)<((z.length:Nat):Int):=af
  first
   |(rw[decide_eq_true q']at G;show absurd G aq)
   |(simp at G;omega)
 cases O with
 |cons S w2 =>
  cases w2;cases S with
  |list ho U=>show#[2,z,1,ho,oC z _ U,ab]
theorem AB(l:Sb)(args:List WData):l.row.toRowW.claim.post args (.bool true) args=true :=
 postW_of (r:=l.row.toRowW) (X:=(true==true))
  (show WT [] (.bool true) .bool=true by first|rfl|decide|simp[WT,WShape.arms,WShape.armsAll])
  (show(WTm.eq .res (.lit (.bool true))).value [] { args:=args,res:=some (.bool true),after:=args }=some (.bool (true==true))from w_eq_bool (w_res rfl) w_lit) rfl
theorem wO{l:Sb}{n:Nat}{q:vu}{loose:List Str}{XP:(Str->Option Value)->Heap->Prop}{O:Oe->Heap->Prop}{d:DefRec}
  (hn:l.most=some n) (ac:d.params.defaults=[])
  (call:∀(w:Oe)(s₀ z:se)(mg J:W9)(F:Addr)(o:Obj)(pm cd L:Value)(a:Addr)(vs:Xc)(I:List Int),
   Ground q loose [] XP w s₀ mg J z.heap->O w z.heap ->
   z.heap.get? F=some o->o.data=.func (docDef d.name d.params d.body d.scope pm cd L)->z.heap.CodeRec cd d.name->mg d.name=some (.ref F) ->
   z.heap.get? a=some { cls:=.type "list",data:=.seq vs.toArray }->RU vs I->I.length<=n->z.gens = ([].toArray) ->
   QV (model l.prog w) UE (.call (.ref F) #[[.ref a],[]]) (λr s'=>r=.ok (.ret (.bool true))/\OldK z.heap s'.heap/\s'.os=z.os/\Sm s'.gens) z) :
  VJ q loose XP O l.row.toRowW d [] (λf vs=>V0 f vs):=by
 intro w s₀ z mg J G Y F o pm cd L dV kV ho hd ao R ab hg args aT as S a3 a0 aB a4;obtain rfl:dV=.none:=Dflts.none R ac;obtain rfl:kV=.none:=Dflts.noKw R;let#[a,vs,I,rfl,rfl,am,U,ap]:=Bb hn S aB;show enter_call (QW (call w s₀ z mg J F o pm cd L a vs I G Y ho (fd_plain hd) ao ab am U ap hg) λr s' hq=>?_);let#[rfl,h2,h3,h4]:=hq;show#[.inl #[.bool true,.bool true,[],rfl,λ_=>rfl,.bool true,AB l _,λ_=>#[SW,λ_ hm=>(nomatch hm)]],h2,h3,h4]
section
variable{prog:vu}{w:Oe}{A:Ov}{E:W8}{s:se}{K:Om}
end
end Att
namespace L2
open PySem PySem.Spec PyProof.Rows
theorem nV:∀{vs:Xc}{z:List Int},RU vs z->Vals (z.map V.int) vs
 |_,_,.nil=>.nil
 |_,_,.cons n t h=>.cons #[t,rfl] (nV h)
def IX(H:Hp):Prop:=∀b,H b=none\/∃o xs,H b=some (.frz o (.lst xs))
theorem DX{P:vu}{w:Oe}{K:Om}{mg U:W9}{CX:rk}{k:Nat}{S a:Addr}{fd:t7}{x:Str}{sp:Sp}{G:se}{vs:Xc}{L:List Int}
  (KX:K.In G.heap) (ac:G.heap.Ns OG mg) (I:G.heap.Ns VN U) (a6:∀x:Str,x ≠ "__name__" -> U x=OO x) (a3:G.heap.NoLimit) (hg:G.gens = ([].toArray))
  (R:G.heap.get? a=some { cls:=.type "list",data:=.seq vs.toArray }) (hi:RU vs L) (hl:L.length<=sizeLine) (hr:bp k UE)
  (F:∀base:Heap,K.In base->base.Ns OG mg->aG P w K mg base CX k S fd [x] sp) (as:∀(s:se)(u:Value),UC s fd #[[u],[]] [(x,u)])
  (aB:∀H:Hp,IX H->bA K H a (L.map V.int)->sp [.ref a] H (λv _=>v=.bl true) λ_ _ _=>False)
  (ap:∀H e s',CX [] H G (λ_ _ _=>False) e s'->False) :
  QV (model P w) UE (.call (.ref S) #[[.ref a],[]]) (λr s'=>r=.ok (.ret (.bool true))/\OldK G.heap s'.heap/\s'.os=G.os/\Sm s'.gens) G:=by
 let rv:=nV hi;let a5:=hi.length;let ab:∀H:Hp,IX H->bA K H a (L.map V.int)->kq P w H G.heap->(∀b,H b≠none->b=a)->(H a≠none->K.lookup a=none) ->
   QV (model P w) UE (.call (.ref S) #[[.ref a],[]]) (λr s'=>r=.ok (.ret (.bool true))/\OldK G.heap s'.heap/\s'.os=G.os/\Sm s'.gens) G:=by
  intro H hO hS bV hA hK;let ao:∀{b:Addr}{o:Obj},G.heap.get? b=some o->H b=none->(ug G.heap H).get? b=some o:=λe n=>Ez e n;let a0:∀{b:Addr}{o:Obj}{es:Array DictEntry}{ep:Nat},G.heap.get? b=some o->o.data=.dict es ep->H b=none:=λ{b o es ep} e d=>by
   cases q:H b with
   |none=>rfl
   |some u =>
    let e':b=a:=hA b (by rw[q];simp);subst e';rwa[R]at e;let d':Data.seq vs.toArray _=Data.dict es ep:=d;cases d'
  let O:∀{b:Addr}{m:W9},G.heap.Ns b m->(ug G.heap H).Ns b m:=λ{b m} a4=>(by let#[o,es,ep,e,d,r]:=a4;show#[o,es,ep,ao e (a0 e d),d,r]);let am:K.In (ug G.heap H):=λb o e=>ao (KX b o e) (by
   cases q:H b with
   |none=>rfl
   |some u =>
    let e':b=a:=hA b (by rw[q];simp);subst e';rwa[hK (by rw[q];simp)]at e)
  let hM:Mod K mg (ug G.heap H):=#[am,O ac,#[U,O I,a6],let ⟨mc,h1,h2⟩:=a3;#[mc,O h1,h2]];let e0:uP P w K mg (ug G.heap H) UE [] G H:=#[rfl,hM,λb o e=>E3 e,U7 (AW _ _),trivial,λb I=>absurd (show b∈([]:List Addr)from I) (by simp),bV,.of_eq hg];show QW ((F _ am (O ac)).run UE [] G H #[[.ref a],[]] [.ref a] [.ref a] _ _ hr e0 (as G (.ref a)) (.cons rfl .nil) (aB H hO hS)) λr s' h=>?_;cases r with
  |error e=>show(ap H e s' h).elim
  |ok fl =>
   cases fl with
   |next=>show OS h
   |brk=>show OS h
   |cont=>show OS h
   |ret u =>
    let#[v,H',os,bare,un,aT,r',q]:=h;let q':v=.bl true:=q;subst q';obtain rfl:u=Value.bool true:=r';show#[rfl,OldK.of_keep λb o e=>?_,os,bare];cases q:H b with
    |none=>show un.keep b o e q (by intro z;show absurd (show b∈([]:List Addr)from z) (by simp)) (by simp)
    |some u =>
     rcases hO b with z|⟨ob,xs,z⟩
     .rw[q]at z;cases z
     .let z2:=un.oz b ob _ z;let#[e1,_]:=bV b _ z;let#[e2,_]:=aT b _ z2;rwa[e]at e1;show e2
 cases hk:K.lookup a with
 |some o =>
  let e:=KX a o hk;rwa[R]at e;show ab (λ_=>none) (λ_=>.inl rfl) (.inr #[_,vs.toArray,_,hk,1,rfl,by rw[BY,a5];show hl,by simpa using rv]) (λb u z=>by let J:(none:Option HO)=some u:=z;cases J) (λb z=>absurd rfl z) λz=>absurd rfl z
 |none =>
  show ab (λb=>if b=a then some (.frz { cls:=.type "list",data:=.seq vs.toArray } (.lst (L.map V.int)))else none) (λb=>?_) (.inl (.inr #[{ cls:=.type "list",data:=.seq vs.toArray },WY rfl])) (λb u z=>?_) (λb z=>?_) λ_=>hk
  .by_cases I:b=a
   .show .inr #[2,WY I]
   .show .inl (WX I)
  .by_cases I:b=a
   .let J:=(WY I).symm.trans z;cases J;subst I;show#[R,by rw[ti];show hl,vs,_,rv,R]
   .let J:=(WX I).symm.trans z;cases J
  .by_cases I:b=a
   .show I
   .show absurd (WX I) z
theorem Fp{l:Sb}{n k:Nat}{q:vu}{loose:List Str}{XP:(Str->Option Value)->Heap->Prop}{J:Oe->Heap->Prop}{d:DefRec}{K:Params->Om}{CX:Oe->rk}{sp:Oe->Sp}{x:Str}
  (hn:l.most=some n) (as:n<=sizeLine) (ao:d.params.defaults=[]) (hr:bp k UE)
  (hY:∀(w:Oe)(h:Heap),J w h->(K w.params).In h)
  (F:∀(w:Oe)(mg:W9)(z:Addr)(h:Heap),(K w.params).In h->h.Ns OG mg->mg d.name=some (.ref z) ->
   ∃fd:t7,(∀(s:se)(u:Value),UC s fd #[[u],[]] [(x,u)]) /\
    ∀base:Heap,(K w.params).In base->base.Ns OG mg->aG l.prog w (K w.params) mg base (CX w) k z fd [x] (sp w))
  (aB:∀(w:Oe)(H:Hp)(a:Addr)(I:List Int),I.length<=n->IX H->bA (K w.params) H a (I.map V.int)->sp w [.ref a] H (λv _=>v=.bl true) λ_ _ _=>False)
  (ac:∀(w:Oe)(H:Hp)(s:se)(e:Value)(s':se),CX w [] H s (λ_ _ _=>False) e s'->False) :
  VJ q loose XP J l.row.toRowW d [] (λf vs=>V0 f vs):=by
 show Att.wO hn ao λw s₀ S mg mb z o pm cd aT a vs I G Y ho hd a0 am ap ab O hg=>?_;let L:=hY w _ Y;let#[fd,hb,R]:=F w mg z _ L G.T.g am;show DX L G.T.g G.T.b G.T.builtins G.T.nolimit hg ap ab (Oy O as) hr R hb (λH U hS=>aB w H a I O U hS) λH e s'=>ac w H S e s'
def inClass(s:OB)(j:Nat):OB:=match s with
 |.ClassDef _ _ _ body _ _ _ _ _ _ _=>body.getD j (.Pass #[(0),(0),(0),(0)])
 |_=>.Pass #[(0),(0),(0),(0)]
def hG(s:OB):Arguments:=match s with
 |.FunctionDef _ a _ _ _ _ _ _ _ _=>a
 |_=>{ posonlyargs:=[],args:=[],vararg:=none,kwonlyargs:=[],kw_defaults:=[],kwarg:=none,defaults:=[] }
def dX(s:OB):List OB:=match s with
 |.FunctionDef _ _ b _ _ _ _ _ _ _=>b
 |_=>[]
def au(s:OB):RY:=match s with
 |.FunctionDef _ _ _ _ _ _ z _ _ _=>z
 |_=>{ kind:=.function,names:=[],isGenerator:=false,isCoroutine:=false }
abbrev aY:rk:=λ_ _ _ _ _ _=>False
abbrev E0:XK:=λ_ _ _=>False
theorem az{X:Cx}:Passes aY X E0:=λ_ _ _ _ _ _ _ h=>h.elim
structure cq(K:Om)(x qual:Str)(st:OB)(f:Addr)(fd:t7):Prop where
 ex:∃(oc:Value)(od:Xe)(kV doc pm:Value)(an:Xe)(cdv ct:Value)(osl:Array (Option Value)),
  fd=Wy x qual (hG st) (dX st) (au st) .none kV doc pm an cdv ct/\K.lookup f=some #[oc,od,.func fd,osl]/\Wz K cdv qual=true
 kp:Sy K (.ref f)=true
section
variable{P:vu}{w:Oe}{K:Om}{mg:W9}{base:Heap}
theorem cq.ok{x qual:Str}{st:OB}{f:Addr}{fd:t7}{N ps:List Str}{k:Nat}{sp:Sp}(F:cq K x qual st f fd)(S:aD N ps (au st))(len:∀vs H Q E,sp vs H Q E->vs.length=ps.length)
  (O:∀(z:Value)(A:Ov)(outer:List SN)(s:se)(H:Hp)(vs:List V)(Q:VK)(E:XK),bp k (A.deeper (RM qual (au st) s⁻¹ f z))->sp vs H Q E ->
   ∃t,uZ (rA aY P w K mg base N qual (au st) f z A outer s H E).nK (dX st) t/\t { nx:=λ_ H'=>Q .bB H',rt:=Q } (start N vs) H):↥aG (k+1) f fd ps sp:=by
 let#[oc,od,kV,R,pm,an,z,ct,U,rfl,L,G]:=F.ex;show Gz L G S len λA outer s H vs Q E I J=>?_;let#[t,h,q]:=O z A outer s H vs Q E I J;show#[t,h.nK,q]
theorem cq.eL{x qual:Str}{st:OB}{f:Addr}{fd:t7}{N ps:List Str}{k:Nat}{sp:Sp}(F:cq K x qual st f fd)(S:aD N ps (au st))
  (G:∀(z:Value)(A:Ov)(outer:List SN)(s:se)(H:Hp)(vs:List V)(Q:VK)(E:XK),bp k (A.deeper (RM qual (au st) s⁻¹ f z))->sp vs H Q E ->
   ∃t,uZ (rA aY P w K mg base N qual (au st) f z A outer s H E).nK (dX st) t/\t { nx:=λ_ H'=>Q .bB H',rt:=Q } (start N vs) H) (len:∀vs H Q E,sp vs H Q E->vs.length=ps.length:=by intro vs H Q E h;cases h<;>subst_vars<;>rfl):↥aG (k+1) f fd ps sp:=F.ok S len G
theorem cq.binds{x qual:Str}{st:OB}{f:Addr}{fd:t7}{ps:List Str}(F:cq K x qual st f fd)
  (h:∀(kV G pm:Value)(an:Xe)(z ct:Value)(us:Xc),us.length=ps.length->VT (Wy x qual (hG st) (dX st) (au st) .none kV G pm an z ct) #[us,[]]=pure (ps.zip us)):Binds K fd ps []:=by
 let#[oc,od,kV,G,pm,an,z,ct,L,rfl,J,I]:=F.ex;show .all (h kV G pm an z ct)
theorem sO{x qual:Str}{st:OB}{f:Addr}{oc:Value}{od an:Xe}{G:Array (Option Value)}{kV F pm z ct:Value}(l:K.lookup f=some #[oc,od,.func (Wy x qual (hG st) (dX st) (au st) .none kV F pm an z ct),G])
  (c:Wz K z qual=true) (k:Sy K (.ref f)=true):cq K x qual st f (Wy x qual (hG st) (dX st) (au st) .none kV F pm an z ct):=#[#[oc,od,kV,F,pm,an,z,ct,G,rfl,l,c],k]
end
theorem de{A:Ov}{k:Nat}(z:bp k A):A.units+1<Rr:=Rt (Nat.add_le_add_left (by decide:1<=64) _) z.units
section
variable{X:Cx}
theorem pv(i:Nat){x:Str}{pos:Q5}(F:X.N[i]?=some x:=by rfl)(z:J7 X.env.scope x:=by first|show Or.inl rfl|show WU (Or.inl rfl)|show WU (WU rfl))(hd:(x==("__debug__" : Str))=false:=by decide)
  (G:(x==("__classdict__" : Str))=false:=by decide):PE X (.Name x pos) (E9 i):=Ho F z hd G
end
theorem bw{A B:Prop}(h:B):if false=true then A else B:=by
 rw[WX IF];show h
theorem eO{A B:Prop}(h:A):if true=true then A else B:=by
 rw[WY rfl];show h
theorem fN{c A B:Prop}[Decidable c](h1:c->A)(h2:¬ c->B):if c then A else B:=by
 cases h:c
 .rw[WY h];show h1 h
 .rw[WX h];show h2 h
def aQ(H H':Hp):Prop:=∀b o,H b=some o->H' b=some o
theorem aQ.refl(H:Hp):aQ H H:=λ_ _ h=>h
theorem aQ.trans{H H1 H2:Hp}(a:aQ H H1)(b:aQ H1 H2):aQ H H2:=λc o h=>b c o (a c o h)
theorem aQ.free{H H':Hp}(e:aQ H H'){l:Addr}(h:H' l=WJ):H l=WJ:=by
 cases q:H l with
 |none=>rfl
 |some o =>
  rwa[e l o q]at h
end L2
namespace PySem
open PySem.Sem (wp)
section
variable{prog:vu}{w:Oe}{A:Ov}{E:W8}{h:Heap}{g:Array UZ}{d:Drawn}{t:Nat}{os:OsState}{a:Addr}{its:Xb}{n:Nat}
end
end PySem
namespace Srt
open PySem PyProof.Rows
structure SI(a₀:Array Oi)(st:OU):Prop where
 perm:(Og st).Perm a₀
 kind:kindOf st=Q9
 failed:Ra st=none
structure Ks(a₀:Array Oi):Prop where
 ik:IntKeys a₀
 nd:(a₀.toList.map λp=>QA p.1).Nodup
def mT(xs:Array Oi)(lo hi:Nat):Prop:=∀i j,lo<=i->i<=j->j<hi->K xs i<=K xs j
theorem SI.size{a₀:Array Oi}{st:OU}(h:SI a₀ st):(Og st).size=a₀.size:=h.perm.size_eq
theorem yG{a₀ xs:Array Oi}(F:xs.Perm a₀)(k:Ks a₀){i:Nat}(hi:i<xs.size):∃t q,xs[i]?=some (.int (K xs i) t,q):=by
 let G:xs[i]∈a₀.toList:=(Ql.mp F).mem_iff.mp (by simp);let#[n,t,z]:=k.ik _ G;let e:xs[i]?=some xs[i]:=getElem?_pos _ i hi;let I:xs[i]=(.int n t,xs[i].2):=V1 z rfl;show#[t,xs[i].2,?_];unfold K;rw[e,I];rfl
theorem key_ne{a₀ xs:Array Oi}(G:xs.Perm a₀)(k:Ks a₀){i j:Nat}(hi:i<j)(z:j<xs.size):K xs i≠K xs j:=by
 let I:=(Ql.mp G).map λp:Oi=>QA p.1;let F:(xs.toList.map λp=>QA p.1).Nodup:=I.nodup_iff.mpr k.nd;let h1:i<xs.size:=Vb hi z;let a:=PX.mp F i j ‹h1› ‹z› hi;unfold K;rw[getElem?_pos xs i h1,getElem?_pos xs j z];simpa using a
theorem SI.setArr{a₀:Array Oi}{st:OU}(h:SI a₀ st){xs:Array Oi}(z:xs.Perm (Og st)):SI a₀ (setArr st xs):=#[z.trans h.perm,h.kind,h.failed]
section
variable{prog:vu}{w:Oe}{A:Ov}{E:W8}{s:se}{a₀:Array Oi}
theorem tZ{st:OU}{x y:Oi}{a b:Int}{t u:WQ}{Q:Option Bool->OU->Prop}(F:kindOf st=Q9)(hx:x.1=.int a t)(z:y.1=.int b u)(h:Q (some (decide (a<b))) st) :
  WE (model prog w) A E s (lt' x y) Q st:=by
 rw[lt'_eq];show vh (Ru ?_);rw[F,keyLt'_oneType,hx,z];show vh (To (RV (oneLt_int #[rfl,vl h])))
theorem bG{st:OU}{xs:Array Oi}{i:Nat}{p:Oi}{Q:Oi->OU->Prop}(hi:xs[i]?=some p)(h:Q p st):WE (model prog w) A E s (elem' xs i) Q st:=by
 rw[elem'_eq,hi];show vl h
theorem sC{st:OU}{i j:Nat}{Q:Option Bool->OU->Prop}(S:SI a₀ st)(k:Ks a₀)(hi:i<a₀.size)(z:j<a₀.size)(h:Q (some (decide (K (Og st) i<K (Og st) j))) st) :
  WE (model prog w) A E s (ltAt' i j) Q st:=by
 let#[t,p,G]:=yG S.perm k (by rw[S.size];show hi);let#[u,q,F]:=yG S.perm k (by rw[S.size];show z);show wpS_ltAt S.kind G F h
structure Cut(a₀:Array Oi)(st st':OU)(lo:Nat):Prop where
 S:SI a₀ st'
 pre:∀i,i<lo->(Og st')[i]?=(Og st)[i]?
 pend:OA st'=OA st
theorem D7{st:OU}{lo nrem:Nat}{Q:Option Nat->OU->Prop}(S:SI a₀ st)(k:Ks a₀)(hn:lo+nrem<=a₀.size)(h1:1<=nrem)
  (h:∀m F,Cut a₀ st F lo->1<=m->m<=nrem->mT (Og F) lo (lo+m)->Q (some m) F):WE (model prog w) A E s (countRun' lo nrem) Q st:=by
 rw[countRun'_eq];show vh (PY (OX (I:=λx c F=>vy (F=st) (c=(none,x)) (mT (Og st) lo (lo+x))) (Q:=λc F=>F=st/\∃n,c=(none,n)/\1<=n/\n<=nrem/\mT (Og st) lo (lo+n)/\(n=nrem\/K (Og st) (lo+n)<K (Og st) (lo+n-1))) ?_ ?_ ?_) ?_)
 .rintro x c F ab ao ⟨rfl,rfl,hs⟩;dsimp only;show vh (sC S k af af ?_);cases c:K (Og F) (lo+x)<K (Og F) (lo+x-1)
  .simp only[c,decide_true,if_true];show vl #[rfl,x,rfl,ab,af,hs,.inr c]
  .simp only[c,decide_false,P0,if_false];show vl #[1,λi j hi J O=>?_];cases z:j<lo+x
   .show hs i j hi J z
   .by_cases U:i=j
    .rw[U];show Pp _
    .have:=hs i (lo+x-1) hi af af;let R:j=lo+x:=QP O z;rw[R];omega
 .rintro c F ⟨rfl,rfl,hs⟩;rw[show max 1 nrem=nrem by omega]at hs ⊢;show#[rfl,nrem,rfl,h1,G0 _,hs,.inl rfl]
 .show#[1,λi j hi J O=>by rw[show i=j by omega];show Pp _]
 .rintro c F ⟨rfl,n,rfl,n1,n2,hs,aB⟩;dsimp only;cases e:n=nrem
  .rw[WY ‹e›];show vl (h n F #[S,λ_ _=>rfl,rfl] n1 n2 hs)
  .rw[WX ‹e›];let ap:=aB.resolve_left e;cases g:n>1
   .rw[WY g];show vh (sC S k af af ?_);let r:K (Og F) lo<K (Og F) (lo+n-1):=by
     let a:=hs lo (lo+n-1) (G0 _) af af;let b:=key_ne S.perm k (i:=lo) (j:=lo+n-1) af (by rw[S.size];omega);omega
    simp only[r,decide_true,if_true];show vl (h n F #[S,λ_ _=>rfl,rfl] n1 n2 hs)
   .rw[WX g];let e1:n=1:=af;subst e1;show vh (To (QC #[4]));let as:∀i j,lo<=i->i<=j->j<lo+2->K (Og F) j<=K (Og F) i:=λi j hi J O=>by
     cases z:i=j
     .rw[z];show Pp _
     .let ei:i=lo:=af;let R:j=lo+1:=af;rw[ei,R];show OQ ap
    show vh (PY (OX (I:=λx c G=>vy (G=F) (c=(none,x,0)) (∀i j,lo<=i->i<=j->j<lo+x->K (Og F) j<=K (Og F) i)) (Q:=λc G=>G=F/\∃n,c=(none,n,0)/\2<=n/\n<=nrem/\∀i j,lo<=i->i<=j->j<lo+n->K (Og F) j<=K (Og F) i) ?_ ?_ ?_) ?_)
    .rintro x c G ab ao ⟨rfl,rfl,hd⟩;dsimp only;show vh (sC S k af af ?_);cases c:K (Og G) (lo+x)<K (Og G) (lo+x-1)
     .simp only[c,decide_true,if_true];rw[WX af];show vl #[1,λi j hi J O=>?_];cases z:j<lo+x
      .show hd i j hi J z
      .by_cases U:i=j
       .rw[U];show Pp _
       .have:=hd i (lo+x-1) hi af af;let R:j=lo+x:=QP O z;rw[R];omega
     .simp only[c,decide_false,P0,if_false];show vh (sC S k af af ?_);let r:K (Og G) (lo+x-1)<K (Og G) (lo+x):=by
       let b:=key_ne S.perm k (i:=lo+x-1) (j:=lo+x) af (by rw[S.size];omega);omega
      simp only[r,decide_true,if_true];show vl #[rfl,x,rfl,ab,af,hd]
    .rintro c G ⟨rfl,rfl,hd⟩;rw[show max (1+1) nrem=nrem by omega]at hd ⊢;show#[rfl,nrem,rfl,af,G0 _,hd]
    .show#[1,as]
    .rintro c G ⟨rfl,n,rfl,m1,m2,hd⟩;dsimp only;rw[WX af];show vh (wpS_reverse ?_);let hsz:lo+n<=(Og G).size:=(by rw[S.size];omega);let S3:=S.setArr (mirror_perm (Og G) lo (lo+n) ((lo+n-lo)/2));let C3:Cut a₀ G (setArr G (V2 (Og G) lo (lo+n) ((lo+n-lo)/2))) lo:=by
      show#[S3,λi hi=>?_,rfl];change(V2 (Og G) lo (lo+n) ((lo+n-lo)/2))[i]?=_;rw[getElem?_mirror_all hsz,WX af]
     let am:mT (Og (setArr G (V2 (Og G) lo (lo+n) ((lo+n-lo)/2)))) lo (lo+n):=λi j hi J O=>by
      change K (V2 (Og G) lo (lo+n) ((lo+n-lo)/2)) i<=K (V2 (Og G) lo (lo+n) ((lo+n-lo)/2)) j;rw[K_mirror hsz,K_mirror hsz,WY af,WY af];show hd _ _ af (Nat.sub_le_sub_left J (lo+(lo+n)-1)) af
     generalize setArr G (V2 (Og G) lo (lo+n) ((lo+n-lo)/2))=ac at S3 C3 am ⊢;show vh (PY (OX (I:=λx c L=>vy (L=ac) (c=(none,x)) (mT (Og ac) lo (lo+x))) (Q:=λc L=>L=ac/\∃m,c=(none,m)/\1<=m/\m<=nrem/\mT (Og ac) lo (lo+m)) ?_ ?_ ?_) ?_)
     .rintro x c L ab ao ⟨rfl,rfl,hs⟩;dsimp only;show vh (sC S3 k af af ?_);cases c:K (Og L) (lo+x)<K (Og L) (lo+x-1)
      .simp only[c,decide_true,if_true];show vl #[rfl,x,rfl,af,af,hs]
      .simp only[c,decide_false,P0,if_false];show vl #[1,λi j hi J O=>?_];cases z:j<lo+x
       .show hs i j hi J z
       .by_cases U:i=j
        .rw[U];show Pp _
        .have:=hs i (lo+x-1) hi af af;let R:j=lo+x:=QP O z;rw[R];omega
     .rintro c L ⟨rfl,rfl,hs⟩;rw[show max n nrem=nrem by omega]at hs ⊢;show#[rfl,nrem,rfl,h1,G0 _,hs]
     .show#[1,am]
     .rintro c L ⟨rfl,m,rfl,q1,q2,hs⟩;show vl (h m L C3 q1 q2 hs)
theorem D8{st:OU}{lo n ok:Nat}{Q:Bool->OU->Prop}(S:SI a₀ st)(k:Ks a₀)(hn:lo+n<=a₀.size)(h1:1<=ok)(bV:ok<=n)(hs:mT (Og st) lo (lo+ok))
  (h:∀z,Cut a₀ st z lo->mT (Og z) lo (lo+n)->Q true z):WE (model prog w) A E s (binarySort' lo n ok) Q st:=by
 rw[binarySort'_eq];show vh (PY (OX (I:=λx c z=>vy (c=(none,())) (Cut a₀ st z lo) (mT (Og z) lo (lo+x))) (Q:=λc z=>vy (c=(none,())) (Cut a₀ st z lo) (mT (Og z) lo (lo+n))) ?_ ?_ ?_) ?_)
 .rintro x c z ao ap ⟨rfl,C,G⟩;let L:lo+x<(Og z).size:=(by rw[C.S.size];omega);show vh (PY (OX (I:=λy c F=>F=z/\∃l r,c=(none,l,r)/\l<=r/\r<=x/\r-l<=x-y/\(∀i,lo<=i->i<lo+l->K (Og z) i<=K (Og z) (lo+x))/\∀i,lo+r<=i->i<lo+x->K (Og z) (lo+x)<K (Og z) i)
   (Q:=λc F=>F=z/\∃l,c=(none,l,l)/\l<=x/\(∀i,lo<=i->i<lo+l->K (Og z) i<=K (Og z) (lo+x))/\∀i,lo+l<=i->i<lo+x->K (Og z) (lo+x)<K (Og z) i) ?_ ?_ ?_) ?_)
  .rintro y c F as am ⟨rfl,l,r,rfl,lr,O,hm,a1,a2⟩;dsimp only;cases g:l>=r
   .rw[WY g];obtain rfl:l=r:=af;show vl #[rfl,l,rfl,O,a1,a2]
   .rw[WX g];show vh (sC C.S k af af ?_);cases c:K (Og F) (lo+x)<K (Og F) (lo+(l+r)/2)
    .simp only[c,decide_true,if_true];show vl #[rfl,l,(l+r)/2,rfl,af,af,af,a1,λi hi U=>?_];have:=G (lo+(l+r)/2) i af hi af;show SD c this
    .simp only[c,decide_false,P0,if_false];show vl #[rfl,(l+r)/2+1,r,rfl,af,af,af,λi hi U=>?_,a2];have:=G i (lo+(l+r)/2) hi (Rv U) af;omega
  .rintro c F ⟨rfl,l,r,rfl,lr,O,hm,a1,a2⟩;obtain rfl:l=r:=af;show#[rfl,l,rfl,O,a1,a2]
  .show#[rfl,(0),x,rfl,af,af,af,λi hi ac=>by omega,λi hi ac=>by omega]
  .rintro c F ⟨rfl,l,rfl,lx,a1,a2⟩;dsimp only;rw[moveDown'_eq];show vh (QF (vl #[rfl,#[C.S.setArr (bubble_perm _ _ _),λi hi=>?_,C.pend],λi j hi ab hj=>?_]))
   .change(bubble (Og F) (lo+x) (lo+x-(lo+l)))[i]?=_;rw[getElem?_bubble L _ (WA (lo+x) (lo+l)),WX af,WX af];show C.pre i hi
   .change K (bubble (Og F) (lo+x) (lo+x-(lo+l))) i<=K (bubble (Og F) (lo+x) (lo+x-(lo+l))) j;rw[K_bubble L (WA (lo+x) (lo+l)),K_bubble L (WA (lo+x) (lo+l)),show lo+x-(lo+x-(lo+l))=lo+l by omega];cases c1:i=lo+l
    .rw[WY c1];cases J:j=lo+l
     .rw[WY J];show Pp _
     .rw[WX J,WY af];have:=a2 (j-1) af af;show OQ this
    .rw[WX c1];cases J:j=lo+l
     .rw[WY J,WX af];show a1 i hi af
     .rw[WX J];cases c3:lo+l<i/\i<=lo+x
      .rw[WY c3,WY af];show G _ _ af (Nat.sub_le_sub_right ab 1) af
      .rw[WX c3];cases R:lo+l<j/\j<=lo+x
       .rw[WY R];show G _ _ af af af
       .rw[WX R];show G _ _ af af af
 .rintro c z ⟨rfl,C,G⟩;rw[show max (max ok 1) n=n by omega]at G;show#[rfl,C,G]
 .rw[show max ok 1=ok by show Nat.max_eq_left h1];show#[rfl,#[S,λ_ _=>rfl,rfl],hs]
 .rintro c z ⟨rfl,C,G⟩;show vl (h z C G)
end
def FW:Bool->Oi->Array Oi->Nat->Nat->Nat->StateT OU Sem (Option Nat):=sortPriv% PySem.Builtin.gallop
def ig(left:Bool)(a:Int)(xs:Array Oi)(base i:Nat):Bool:=if left then decide (K xs (base+i)<a)else !decide (a<K xs (base+i))
section
variable{prog:vu}{w:Oe}{A:Ov}{E:W8}{s:se}{a₀:Array Oi}
def uF(left:Bool)(z:Oi)(xs:Array Oi)(base i:Nat):StateT OU Sem (Option Bool):=
 bind (elem' xs (base+i)) λx=>ite (left=true) (lt' x z) (bind (lt' z x) λr=>pure (Option.map (λb => !b) r))
theorem Ik{st:OU}{left:Bool}{G:Oi}{a:Int}{t u:WQ}{q:Value}{xs:Array Oi}{base i:Nat}{Q:Option Bool->OU->Prop}(F:kindOf st=Q9)(z:G.1=.int a t)(hx:xs[base+i]?=some (.int (K xs (base+i)) u,q))
  (h:Q (some (ig left a xs base i)) st):WE (model prog w) A E s (uF left G xs base i) Q st:=by
 unfold uF;show vh (bG hx ?_);unfold ig at h;cases left with
 |true=>show tZ F rfl z h
 |false=>show vh (tZ F z rfl (vl h))
theorem jN{left:Bool}{a:Int}{xs:Array Oi}{base n i j:Nat}(hs:mT xs base (base+n))(G:i<=j)(F:j<n)(h:ig left a xs base j=true):ig left a xs base i=true:=by
 have:=hs (base+i) (base+j) af (QG Ro G) (Nat.add_lt_add_left F base);unfold ig at h ⊢;cases left with
 |true =>
  let z:K xs (base+j)<a:=of_decide_eq_true h;show decide_eq_true (SE this z)
 |false =>
  let z:¬ a<K xs (base+j):=of_decide_eq_false ‹h›;change(!decide (a<K xs (base+i)))=true;rw[decide_eq_false af];rfl
theorem kf{left:Bool}{a:Int}{xs:Array Oi}{base n i j:Nat}(hs:mT xs base (base+n))(F:i<=j)(z:j<n)(h:ig left a xs base i=false):ig left a xs base j=false:=by
 cases e:ig left a xs base j with
 |false=>rfl
 |true=>rwa[jN hs F z e]at h
theorem eY{st:OU}{left:Bool}{ao:Oi}{a:Int}{t:WQ}{xs:Array Oi}{base n hint:Nat}{Q:Option Nat->OU->Prop}(hk:kindOf st=Q9)(aB:ao.1=.int a t)(hx:∀i,i<n->∃t q,xs[base+i]?=some (.int (K xs (base+i)) t,q))
  (hs:mT xs base (base+n)) (hh:hint<n) (h:∀r,r<=n->(∀i,i<r->ig left a xs base i=true)->(∀i,r<=i->i<n->ig left a xs base i=false)->Q (some r) st) :
  WE (model prog w) A E s (FW left ao xs base n hint) Q st:=by
 let B:∀{i:Nat}{Q:Option Bool->OU->Prop},i<n->Q (some (ig left a xs base i)) st->WE (model prog w) A E s (uF left ao xs base i) Q st:=λhi q=>by
  let#[u,v,e]:=hx _ hi;show Ik hk aB e q
 show vh (B hh ?_);cases c:ig left a xs base hint with
 |true =>
  dsimp only;rw[WY rfl];show vh (PY (OX (I:=λx c z=>z=st/\∃l o,c=(none,l,o)/\l<o/\x+1<=o/\hint+l<n/\ig left a xs base (hint+l)=true) (Q:=λc z=>z=st/\∃l o,c=(none,l,o)/\l<o/\hint+l<n/\ig left a xs base (hint+l)=true/\(n-hint<=o\/(hint+o<n/\ig left a xs base (hint+o)=false))) ?_ ?_ ?_) ?_)
  .rintro x c z ac am ⟨rfl,l,o,rfl,lo,xo,L,F⟩;dsimp only;cases g:o>=n-hint
   .rw[WY g];show vl #[rfl,l,o,rfl,lo,L,F,.inl g]
   .rw[WX g];show vh (B (i:=hint+o) af ?_);cases O:ig left a xs base (hint+o)with
    |true=>show vl #[rfl,o,2*o+1,rfl,af,af,af,O]
    |false=>show vl #[rfl,l,o,rfl,lo,L,F,.inr #[af,O]]
  .rintro c z ⟨rfl,l,o,rfl,lo,xo,L,F⟩;show#[rfl,l,o,rfl,lo,L,F,.inl af]
  .show#[rfl,(0),(1),rfl,af,af,hh,c]
  .rintro c z ⟨rfl,l,o,rfl,lo,L,F,as⟩;dsimp only;let U:∀i,i<hint+l+1->ig left a xs base i=true:=λi hi=>jN hs (j:=hint+l) (Rv hi) L F;let f2:∀i,hint+min o (n-hint)<=i->i<n->ig left a xs base i=false:=λi hi S=>by
    rcases as with g|⟨g1,g2⟩
    .omega
    .show kf hs (i:=hint+o) af S g2
   let R:hint+l+1<=hint+min o (n-hint):=af;let f4:hint+min o (n-hint)<=n:=af;generalize hint+l+1=ab at U R ⊢;generalize hint+min o (n-hint)=ap at f2 R f4 ⊢;show vh (PY (OX (I:=λx c J=>J=z/\∃l r,c=(none,l,r)/\l<=r/\r<=n/\r-l<=n-x/\(∀i,i<l->ig left a xs base i=true)/\∀i,r<=i->i<n->ig left a xs base i=false) (Q:=λc J=>J=z/\∃r,c=(none,r,r)/\r<=n/\(∀i,i<r->ig left a xs base i=true)/\∀i,r<=i->i<n->ig left a xs base i=false) ?_ ?_ ?_) ?_)
   .rintro x c J ac am ⟨rfl,l,r,rfl,lr,G,hm,a1,a2⟩;dsimp only;cases g:l>=r
    .rw[WY g];obtain rfl:l=r:=af;show vl #[rfl,l,rfl,G,a1,a2]
    .rw[WX g];show vh (B (i:=l+(r-l)/2) af ?_);cases O:ig left a xs base (l+(r-l)/2)with
     |true=>show vl #[rfl,l+(r-l)/2+1,r,rfl,af,G,af,λi hi=>jN hs (j:=l+(r-l)/2) (Rv hi) af O,a2]
     |false=>show vl #[rfl,l,l+(r-l)/2,rfl,af,af,af,a1,λi hi S=>kf hs hi S O]
   .rintro c J ⟨rfl,l,r,rfl,lr,G,hm,a1,a2⟩;obtain rfl:l=r:=af;show#[rfl,l,rfl,G,a1,a2]
   .show#[rfl,ab,ap,rfl,R,f4,af,U,f2]
   .rintro c J ⟨rfl,r,rfl,G,a1,a2⟩;show vl (h r G a1 a2)
 |false =>
  dsimp only;rw[WX aq];show vh (PY (OX (I:=λx c z=>z=st/\∃l o,c=(none,l,o)/\l<o/\x+1<=o/\l<=hint/\ig left a xs base (hint-l)=false) (Q:=λc z=>z=st/\∃l o,c=(none,l,o)/\l<o/\l<=hint/\ig left a xs base (hint-l)=false/\(hint+1<=o\/(o<=hint/\ig left a xs base (hint-o)=true))) ?_ ?_ ?_) ?_)
  .rintro x c z ac am ⟨rfl,l,o,rfl,lo,xo,L,F⟩;dsimp only;cases g:o>=hint+1
   .rw[WY g];show vl #[rfl,l,o,rfl,lo,L,F,.inl g]
   .rw[WX g];show vh (B (i:=hint-o) (Vn hh) ?_);cases O:ig left a xs base (hint-o)with
    |true=>show vl #[rfl,l,o,rfl,lo,L,F,.inr #[O0 g,O]]
    |false=>show vl #[rfl,o,2*o+1,rfl,af,af,O0 g,O]
  .rintro c z ⟨rfl,l,o,rfl,lo,xo,L,F⟩;show#[rfl,l,o,rfl,lo,L,F,.inl af]
  .show#[rfl,(0),(1),rfl,af,af,OJ _,c]
  .rintro c z ⟨rfl,l,o,rfl,lo,L,F,as⟩;dsimp only;let U:∀i,i<hint+1-min o (hint+1)->ig left a xs base i=true:=λi hi=>by
    rcases as with g|⟨g1,g2⟩
    .omega
    .show jN hs (j:=hint-o) af (Vn hh) g2
   let f2:∀i,hint-l<=i->i<n->ig left a xs base i=false:=λi hi S=>kf hs hi S F;let R:hint+1-min o (hint+1)<=hint-l:=af;let f4:hint-l<=n:=af;generalize hint+1-min o (hint+1)=ab at U R ⊢;generalize hint-l=ap at f2 R f4 ⊢;show vh (PY (OX (I:=λx c J=>J=z/\∃l r,c=(none,l,r)/\l<=r/\r<=n/\r-l<=n-x/\(∀i,i<l->ig left a xs base i=true)/\∀i,r<=i->i<n->ig left a xs base i=false) (Q:=λc J=>J=z/\∃r,c=(none,r,r)/\r<=n/\(∀i,i<r->ig left a xs base i=true)/\∀i,r<=i->i<n->ig left a xs base i=false) ?_ ?_ ?_) ?_)
   .rintro x c J ac am ⟨rfl,l,r,rfl,lr,G,hm,a1,a2⟩;dsimp only;cases g:l>=r
    .rw[WY g];obtain rfl:l=r:=af;show vl #[rfl,l,rfl,G,a1,a2]
    .rw[WX g];show vh (B (i:=l+(r-l)/2) af ?_);cases O:ig left a xs base (l+(r-l)/2)with
     |true=>show vl #[rfl,l+(r-l)/2+1,r,rfl,af,G,af,λi hi=>jN hs (j:=l+(r-l)/2) (Rv hi) af O,a2]
     |false=>show vl #[rfl,l,l+(r-l)/2,rfl,af,af,af,a1,λi hi S=>kf hs hi S O]
   .rintro c J ⟨rfl,l,r,rfl,lr,G,hm,a1,a2⟩;obtain rfl:l=r:=af;show#[rfl,l,rfl,G,a1,a2]
   .show#[rfl,ab,ap,rfl,R,f4,af,U,f2]
   .rintro c J ⟨rfl,r,rfl,G,a1,a2⟩;show vl (h r G a1 a2)
end
def le(p q:Oi):Prop:=QA p.1<=QA q.1
structure Up(a:Array Oi):Prop where
 ik:IntKeys a
 up:a.toList.Pairwise le
theorem Up.at{a:Array Oi}(u:Up a){i:Nat}(hi:i<a.size):∃t q,a[i]?=some (.int (K a i) t,q):=by
 let#[n,t,z]:=u.ik a[i] (by simp);let e:a[i]?=some a[i]:=getElem?_pos _ i hi;let F:a[i]=(.int n t,a[i].2):=V1 z rfl;show#[t,a[i].2,?_];unfold K;rw[e,F];rfl
theorem Up.Lu{a:Array Oi}(u:Up a):mT a 0 a.size:=λi j _ G F=>by
 cases e:i=j
 .rw[e];show Pp _
 .let hi:i<a.size:=Rt G F;let z:=PX.mp u.up i j ‹hi› ‹F› (Pn G e);rw[K_eq hi,K_eq F];simpa[le]using z
theorem mT.sub{a:Array Oi}{lo hi F z:Nat}(h:mT a lo hi)(h1:lo<=F)(h2:z<=hi):mT a F z:=λi j hi I G=>h i j (Oy h1 hi) I (OD G h2)
structure MI(a b out:Array Oi)(ia ib:Nat):Prop where
 la:ia<=a.size
 lb:ib<=b.size
 pm:(out.toList++a.toList.drop ia++b.toList.drop ib).Perm (a.toList++b.toList)
 up:out.toList.Pairwise le
 ba:∀p∈out.toList,∀q∈a.toList.drop ia,le p q
 bb:∀p∈out.toList,∀q∈b.toList.drop ib,le p q
theorem MI.sz{a b out:Array Oi}{F z:Nat}(m:MI a b out F z):out.size+(a.size-F)+(b.size-z)=a.size+b.size:=by
 have:=m.pm.length_eq;simp at this;omega
theorem MI.vj{a b out S:Array Oi}{F O:Nat}(m:MI a b out F O)(U:Up a){k:Nat}(hk:F+k<=a.size)(J:S.toList=out.toList++(a.toList.drop F).take k)(h:∀p∈(a.toList.drop F).take k,∀q∈b.toList.drop O,le p q):MI a b S (F+k) O:=by
 let hd:a.toList.drop (F+k)=(a.toList.drop F).drop k:=(by rw[V3]);let L:(a.toList.drop F).Pairwise le:=U.up.sublist (Rw _ _);let R:=L;rw[<-P1 k (a.toList.drop F)]at R;let#[p1,p2,p3]:=OM.mp R;show#[hk,m.lb,3,λp I q G=>?_,λp I q G=>?_]
 .rw[J,hd,OP out.toList,P1];show m.pm
 .rw[J,OM];show#[m.up,p1,λp L q G=>m.ba p L q (Sd G)]
 .rw[hd]at G;rw[J]at I;rcases By.mp I with z|z
  .show m.ba p z q (Se G)
  .show p3 p z q G
 .rw[J]at I;rcases By.mp I with z|z
  .show m.bb p z q G
  .show h p z q G
theorem MI.wQ{a b out S:Array Oi}{L F:Nat}(m:MI a b out L F)(ub:Up b){k:Nat}(U:F+k<=b.size)(J:S.toList=out.toList++(b.toList.drop F).take k)(h:∀p∈(b.toList.drop F).take k,∀q∈a.toList.drop L,le p q):MI a b S L (F+k):=by
 let hd:b.toList.drop (F+k)=(b.toList.drop F).drop k:=(by rw[V3]);let O:(b.toList.drop F).Pairwise le:=ub.up.sublist (Rw _ _);let R:=O;rw[<-P1 k (b.toList.drop F)]at R;let#[p1,p2,p3]:=OM.mp R;show#[m.la,U,3,λp I q G=>?_,λp I q G=>?_]
 .show Sh ?_ m.pm;rw[J,hd];let e:b.toList.drop F=(b.toList.drop F).take k++(b.toList.drop F).drop k:=(P1 _ _).symm
  conv=>rhs;rw[e]
  generalize (b.toList.drop F).take k=T;generalize (b.toList.drop F).drop k=D;rw[OP,OP,OP];show QM _ ?_;rw[<-OP, <-OP];show QH _ Q0
 .rw[J,OM];show#[m.up,p1,λp O q G=>m.bb p O q (Sd G)]
 .rw[J]at I;rcases By.mp I with z|z
  .show m.ba p z q G
  .show h p z q G
 .rw[hd]at G;rw[J]at I;rcases By.mp I with z|z
  .show m.bb p z q (Se G)
  .show p3 p z q G
def Good(a b R:Array Oi):Prop:=R.toList.Perm (a.toList++b.toList)/\R.toList.Pairwise le
theorem eZ{a:Array Oi}{i:Nat}{q:Oi}(h:q∈a.toList.drop i):∃j,i<=j/\j<a.size/\QA q.1=K a j:=by
 let#[n,z,e]:=P8.mp h;let F:i+n<a.size:=by
  rw[P7]at z;simp at z;show Qo z
 show#[i+n,af,F,?_];rw[K_eq F, <-e,Vc];simp
theorem eX{a:Array Oi}{i k:Nat}{q:Oi}(h:q∈(a.toList.drop i).take k):∃j,j<k/\i+j<a.size/\QA q.1=K a (i+j):=by
 let#[n,F,e]:=P8.mp h;rw[Oz,P7]at F;simp at F;let z:i+n<a.size:=af;show#[n,af,z,?_];rw[K_eq z, <-e,Q3,Vc];simp
theorem MI.iY{a b out:Array Oi}{z F:Nat}(m:MI a b out z F)(I:Up a)(U:Up b)(hi:z<a.size){p:Oi}(G:a[z]?=some p)(h:∀j,F<=j->j<b.size->K a z<=K b j):MI a b (out.push p) (z+1) F:=by
 let ep:a[z]=p:=(by rw[getElem?_pos a z hi]at G;show DD G);show m.vj I (k:=1) (Vd hi) ?_ λx hx q O=>?_
 .rw[SY,P9 ‹hi›];simp[ep]
 .let#[j,S,_,e]:=eX hx;let#[L,h2,R,J]:=eZ O;have:j=0:=af;subst this;change QA x.1<=QA q.1;rw[e,J];show h L h2 R
theorem MI.nZ{a b out:Array Oi}{F z:Nat}(m:MI a b out F z)(U:Up a)(J:Up b)(hi:z<b.size){p:Oi}(G:b[z]?=some p)(h:∀j,F<=j->j<a.size->K b z<=K a j):MI a b (out.push p) F (z+1):=by
 let ep:b[z]=p:=(by rw[getElem?_pos b z hi]at G;show DD G);show m.wQ J (k:=1) (Vd hi) ?_ λx hx q O=>?_
 .rw[SY,P9 ‹hi›];simp[ep]
 .let#[j,S,_,e]:=eX hx;let#[L,h2,R,I]:=eZ O;have:j=0:=af;subst this;change QA x.1<=QA q.1;rw[e,I];show h L h2 R
theorem vT{a:Array Oi}{i k:Nat}:(a.extract i (i+k)).toList=(a.toList.drop i).take k:=by
 rw[SF,Qq];congr 1;show Ug i k
theorem lX{a:Array Oi}{i:Nat}:(a.extract i a.size).toList=a.toList.drop i:=by
 rw[SF,Qq];show O8 ?_;rw[P7];simp
theorem MI.sf{a b out:Array Oi}{F z:Nat}(m:MI a b out F z)(I:Up a)(h:z=b.size):Good a b (out++a.extract F a.size++b.extract z b.size):=by
 let e:(out++a.extract F a.size++b.extract z b.size).toList=out.toList++a.toList.drop F++b.toList.drop z:=by
  rw[Py,Py,lX,lX]
 show#[by rw[e];show m.pm,?_];rw[e,h,List.drop_of_length_le (l:=b.toList) (by simp),QS,OM];show#[m.up,I.up.sublist (Rw _ _),λp G q J=>m.ba p G q J]
theorem MI.last{a b out:Array Oi}{F G:Nat}(m:MI a b out F G)(L:Up a)(S:Up b)(hi:F+1=a.size)(h:∀j,G<=j->j<b.size->K b j<=K a F):Good a b (out++b.extract G b.size++a.extract F a.size):=by
 let e:(out++b.extract G b.size++a.extract F a.size).toList=out.toList++b.toList.drop G++a.toList.drop F:=by
  rw[Py,Py,lX,lX]
 show#[3]
 .rw[e];show Sh ?_ m.pm;rw[OP,OP];show QM _ Q0
 .rw[e,OM,OM];show#[#[m.up,S.up.sublist (Rw _ _),λp J q I=>m.bb p J q I],L.up.sublist (Rw _ _),λp J q I=>?_];rcases By.mp J with z|z
  .show m.ba p z q I
  .let#[j,h1,h2,R]:=eZ z;let#[U,h3,h4,O]:=eZ I;have:U=F:=af;subst this;change QA p.1<=QA q.1;rw[R,O];show h j h1 h2
theorem MI.IJ{a b out:Array Oi}{z F:Nat}(m:MI a b out z F)(I:Up a){k:Nat}(L:z+k<=a.size)(h:∀i j,i<k->F<=j->j<b.size->K a (z+i)<=K b j):MI a b (out++a.extract z (z+k)) (z+k) F :=
 m.vj I L (by rw[Py,vT]) λp S q U=>by
  let#[j,h1,h2,O]:=eX S;let#[R,h3,G,J]:=eZ U;change QA p.1<=QA q.1;rw[O,J];show h j R h1 h3 G
theorem MI.BL{a b out:Array Oi}{F z:Nat}(m:MI a b out F z)(O:Up b){k:Nat}(J:z+k<=b.size)(h:∀i j,i<k->F<=j->j<a.size->K b (z+i)<=K a j):MI a b (out++b.extract z (z+k)) F (z+k):=
 m.wQ O J (by rw[Py,vT]) λp S q U=>by
  let#[j,h1,h2,L]:=eX S;let#[R,h3,G,I]:=eZ U;change QA p.1<=QA q.1;rw[L,I];show h j R h1 h3 G
theorem D9{a:Int}{xs:Array Oi}{base n r:Nat}(z:∀i,i<r->ig false a xs base i=true)(G:∀i,r<=i->i<n->ig false a xs base i=false):(∀i,i<r->K xs (base+i)<=a)/\∀j,base+r<=j->j<base+n->a<K xs j:=by
 show#[λi hi=>?_,λj F I=>?_]
 .have:=z i hi;unfold ig at this;simpa using this
 .have:=G (j-base) (Uh F) af;unfold ig at this;rw[show base+(j-base)=j by omega]at this;simpa using this
theorem vH{a:Int}{xs:Array Oi}{base n r:Nat}(z:∀i,i<r->ig true a xs base i=true)(G:∀i,r<=i->i<n->ig true a xs base i=false):(∀i,i<r->K xs (base+i)<a)/\∀j,base+r<=j->j<base+n->a<=K xs j:=by
 show#[λi hi=>?_,λj F I=>?_]
 .have:=z i hi;unfold ig at this;simpa using this
 .have:=G (j-base) (Uh F) af;unfold ig at this;rw[show base+(j-base)=j by omega]at this;simpa using this
theorem MI.grow{a b out O:Array Oi}{G F I B:Nat}(m:MI a b out G F)(z:MI a b O I B)(h1:G<=I)(h2:F<=B):out.size<=O.size:=by
 let a1:=m.sz;let a2:=z.sz;have:=z.la;have:=z.lb;omega
def Ew:Array Oi->Array Oi->StateT OU Sem (Array Oi):=sortPriv% PySem.Builtin.mergeLo
structure wU(st st':OU):Prop where
 arr:Og st'=Og st
 kind:kindOf st'=kindOf st
 failed:Ra st'=Ra st
 pend:OA st'=OA st
section
variable{prog:vu}{w:Oe}{A:Ov}{E:W8}{s:se}{a₀:Array Oi}
theorem aZ{α:Type}{c:Prop}[Decidable c]{m n:StateT OU Sem α}{Q:α->OU->Prop}{st:OU}(h1:c->WE (model prog w) A E s m Q st)(h2:¬ c->WE (model prog w) A E s n Q st):WE (model prog w) A E s (if c then m else n) Q st:=by
 cases z:c
 .rw[WY z];show h1 z
 .rw[WX z];show h2 z
def Hr:Nat->StateT OU Sem Unit:=sortPriv% PySem.Builtin.setMinGallop
theorem zJ{F st:OU}{g:Nat}{Q:Unit->OU->Prop}(k:wU F st)(h:∀z,wU F z->Q () z):WE (model prog w) A E s (Hr g) Q st :=
 QF (h _ #[k.arr,k.kind,k.failed,k.pend])
theorem yj{st:OU}{a b:Array Oi}{Q:Array Oi->OU->Prop}(hk:kindOf st=Q9)(L:Up a)(O:Up b)(na:1<=a.size)(nb:1<=b.size)(h0:K b 0<K a 0)(hl:∀j,j<b.size->K b j<K a (a.size-1))
  (h:∀R am,Good a b R->wU st am->Q R am):WE (model prog w) A E s (Ew a b) Q st:=by
 show vh (To (QC #[4]));let#[t0,q0,e0]:=O.at (i:=0) (Ve nb);show vh (bG e0 ?_);let sa:=L.Lu;let sb:=O.Lu;let M0:MI a b ([(Value.int (K b 0) t0,q0)].toArray) 0 1:=by
  let M:MI a b ([].toArray) 0 0:=#[OJ _,OJ _,by simp,SW,(λp hp=>by cases hp),(λp hp=>by cases hp)];show M.nZ L O (Ve nb) e0 λj _ hj=>by
   have:=sa 0 j af af hj;omega
 show aZ (λg=>?_) (λg=>?_)
 .show vl (h _ _ (M0.sf L ‹g›) #[1,1])
 let g1:¬ 1=b.size:=‹g›;show aZ (λg=>?_) (λg=>?_)
 .let g':0+1=a.size:=‹g›;show vl (h _ _ (M0.last L O g' λj _ hj=>?_) #[1,1]);have:=hl j hj;rw[<-g']at this;show OQ this
 let g2:¬ 0+1=a.size:=‹g›;show vh (Ru ?_);show vh (PY (OX (I:=λx c am=>LH λout F G mg=>EI (c=(none,out,F,G,mg)) (MI a b out F G) (F+1<a.size) (G<b.size) (x+1<=out.size) (wU st am)) (Q:=λc am=>∃R,vy (Good a b R) (c.1=some R) (wU st am)) ?_ ?_ ?_) ?_)
 .rintro x c a3 bn bv ⟨out,F,G,mg,rfl,M,la,J,lo,K1⟩;show vh (PY (OX (I:=λy c am=>FT λU F G ac bc=>EI (c=(none,U,F,G,ac,bc)) (MI a b U F G) (F+1<a.size) (G<b.size) (out.size+y<=U.size) (wU st am))
   (Q:=λc am=>wU st am/\((∃R,Good a b R/\c.1=some R)\/(FT λU F G ac bc=>Jw (c=(none,U,F,G,ac,bc)) (MI a b U F G) (F+1<a.size) (G<b.size) (out.size+1<=U.size)))) ?_ ?_ ?_) ?_)
  .rintro y c a4 bl bf ⟨U,F,G,ac,bc,rfl,M,la,J,a8,K2⟩;let be:kindOf a4=Q9:=K2.kind.trans hk;let#[tb,qb,eb]:=O.at J;let#[ta,qa,ea]:=L.at (i:=F) (S0 la);show vh (bG eb (vh (bG ea (vh (tZ be rfl rfl ?_)))));cases c:K b G<K a F
   .rw[decide_eq_true c];show vh (bG eb ?_);let M2:=M.nZ L O J eb λj h1 h2=>by
     have:=sa F j af h1 h2;omega
    show aZ (λg=>?_) (λg=>?_)
    .show vl #[K2,.inl #[_,M2.sf L ‹g›,rfl]]
    .let g':¬ G+1=b.size:=‹g›;let sz:(U.push (Value.int (K b G) tb,qb)).size=U.size+1:=Tp ..;show aZ (λg=>?_) (λg=>?_)
     .show vl #[K2,.inr #[U.push (Value.int (K b G) tb,qb),F,G+1,_,0,M2,la,Pn J g',af]]
     .show vl #[U.push (Value.int (K b G) tb,qb),F,G+1,_,0,M2,la,Pn J g',af,K2]
   .rw[decide_eq_false c];show vh (bG ea ?_);let M2:=M.iY L O (S0 la) ea λj h1 h2=>by
     have:=sb G j af h1 h2;omega
    show aZ (λg=>?_) (λg=>?_)
    .let g':F+1+1=a.size:=‹g›;show vl #[K2,.inl #[_,M2.last L O g' (λj h1 h2=>?_),rfl]];have:=hl j h2;rw[show a.size-1=F+1 by show QG Qs (id (RW g'))]at this;show OQ this
    .let g':¬ F+1+1=a.size:=‹g›;let sz:(U.push (Value.int (K a F) ta,qa)).size=U.size+1:=Tp ..;show aZ (λg=>?_) (λg=>?_)
     .show vl #[K2,.inr #[U.push (Value.int (K a F) ta,qa),F+1,G,_,0,M2,Pn la g',J,af]]
     .show vl #[U.push (Value.int (K a F) ta,qa),F+1,G,_,0,M2,Pn la g',J,af,K2]
  .rintro c a4 ⟨U,F,G,ac,bc,rfl,M,la,J,a8,K2⟩;show#[K2,.inr #[2,2,0,M,la,J,af]]
  .show#[out,F,G,_,0,M,la,J,af,K1]
  .rintro c a4 ⟨K2,⟨R,hR,e⟩|⟨U,F,G,ac,bc,rfl,M,la,J,a8⟩⟩
   .let#[c1,c2]:=c;cases e;show vl #[R,hR,rfl,K2]
   .show vh (To (QC #[4]));show vh (PY (OX (I:=λy c am=>Lc λap F G mg ac bc=>EI (c=(none,ap,F,G,mg,ac,bc)) (MI a b ap F G) (F+1<a.size) (G<b.size) (U.size<=ap.size) (wU st am))
     (Q:=λc am=>wU st am/\((∃R,Good a b R/\c.1=some R)\/(Lc λap F G mg ac bc=>Jw (c=(none,ap,F,G,mg,ac,bc)) (MI a b ap F G) (F+1<a.size) (G<b.size) (U.size<=ap.size)))) ?_ ?_ ?_) ?_)
    .rintro y c a7 bl bf ⟨ap,F,G,bd,ac,bc,rfl,M,la,J,ao,K3⟩;show aZ (λg=>?_) (λg=>?_)
     all_goals
      show vh (zJ K3 λba K4=>?_);let a6:kindOf ba=Q9:=K4.kind.trans hk;let#[tb,qb,eb]:=O.at J;show vh (bG eb (vh (eY (base:=F) (n:=a.size-F) (hint:=0) a6 rfl (λi hi=>L.at (Qo hi)) (sa.sub (OJ _) af) af λr hr r1 r2=>?_)));let#[R1,R2]:=D9 r1 r2;rw[show F+(a.size-F)=a.size by omega]at R2;let bi:F+r<a.size:=by
       cases z:F+r<a.size
       .show z
       .let a1:=R1 (a.size-1-F) af;rw[show F+(a.size-1-F)=a.size-1 by omega]at a1;have:=hl G J;omega
      let M1:=M.IJ L (k:=r) (S6 bi) λi j hi h1 h2=>Qe (R1 i hi) (sb G j (OJ _) h1 h2);show aZ (λg2=>?_) (λg2=>?_)
      .show aZ (λg3=>?_) (λg3=>?_)
       .let g':F+r+1=a.size:=‹g3›;show vl #[K4,.inl #[_,M1.last L O g' (λj h1 h2=>?_),rfl]];have:=hl j h2;rw[show a.size-1=F+r by omega]at this;show OQ this
       .let bx:¬ F+r+1=a.size:=‹g3›;show aZ (λg4=>?_) (λg4=>?_)
        .let g':F+r=a.size:=‹g4›;omega
        .clear g4;let M2:=M1.nZ L O J eb λj h1 h2=>OQ (R2 j af h2);show vh (bG eb ?_);show aZ (λg5=>vl #[K4,.inl #[_,M2.sf L ‹g5›,rfl]]) (λg5=>?_);let as:¬ G+1=b.size:=‹g5›;let#[ta,qa,ea]:=L.at (i:=F+r) af;show vh (bG ea (vh (eY (base:=G+1) (n:=b.size-(G+1)) (hint:=0) a6 rfl (λi hi=>O.at (Qo hi)) (sb.sub (OJ _) af) af λr' a5 a0 aB=>?_)));let#[T1,T2]:=vH a0 aB;rw[show G+1+(b.size-(G+1))=b.size by show RX J]at T2;let M3:=M2.BL O (k:=r') (WV (QI J) a5) λi j hi h1 h2=>OQ (SD (T1 i hi) (sa _ j (OJ _) h1 h2));show aZ (λg6=>?_) (λg6=>?_)
         .show aZ (λg7=>vl #[K4,.inl #[_,M3.sf L ‹g7›,rfl]]) (λg7=>?_);let bm:¬ G+1+r'=b.size:=‹g7›;show vh (bG ea ?_);let S:=M3.iY L O af ea λj h1 h2=>T2 j af h2;show aZ (λg8=>?_) (λg8=>?_)
          .let ab:F+r+1+1=a.size:=‹g8›;show vl #[K4,.inl #[_,S.last L O ab (λj h1 h2=>?_),rfl]];have:=hl j h2;rw[show a.size-1=F+r+1 by show QG Qs (id (RW ab))]at this;show OQ this
          .let ab:¬ F+r+1+1=a.size:=‹g8›;show aZ (λg9=>vl #[K4,.inr #[_,F+r+1,G+1+r',2,0,S,af,af,Oy ao (M.grow S af af)]]) (λg9=>vl #[_,F+r+1,G+1+r',2,0,S,af,af,Oy ao (M.grow S af af),K4])
         .let aT:r'=0:=af;subst aT;show vh (bG ea ?_);let S:=M2.iY L O af ea λj h1 h2=>T2 j af h2;show aZ (λg8=>?_) (λg8=>?_)
          .let ab:F+r+1+1=a.size:=‹g8›;show vl #[K4,.inl #[_,S.last L O ab (λj h1 h2=>?_),rfl]];have:=hl j h2;rw[show a.size-1=F+r+1 by show QG Qs (id (RW ab))]at this;show OQ this
          .let ab:¬ F+r+1+1=a.size:=‹g8›;show aZ (λg9=>vl #[K4,.inr #[_,F+r+1,G+1,2,0,S,af,Pn J as,Oy ao (M.grow S af af)]]) (λg9=>vl #[_,F+r+1,G+1,2,0,S,af,Pn J as,Oy ao (M.grow S af af),K4])
      .let r0:r=0:=af;subst r0;let M2:=M.nZ L O J eb λj h1 h2=>OQ (R2 j af h2);show vh (bG eb ?_);show aZ (λg5=>vl #[K4,.inl #[_,M2.sf L ‹g5›,rfl]]) (λg5=>?_);let as:¬ G+1=b.size:=‹g5›;let#[ta,qa,ea]:=L.at (i:=F) af;show vh (bG ea (vh (eY (base:=G+1) (n:=b.size-(G+1)) (hint:=0) a6 rfl (λi hi=>O.at (Qo hi)) (sb.sub (OJ _) af) af λr' a5 a0 aB=>?_)));let#[T1,T2]:=vH a0 aB;rw[show G+1+(b.size-(G+1))=b.size by show RX J]at T2;let M3:=M2.BL O (k:=r') (WV (QI J) a5) λi j hi h1 h2=>OQ (SD (T1 i hi) (sa _ j (OJ _) h1 h2));show aZ (λg6=>?_) (λg6=>?_)
       .show aZ (λg7=>vl #[K4,.inl #[_,M3.sf L ‹g7›,rfl]]) (λg7=>?_);let bm:¬ G+1+r'=b.size:=‹g7›;show vh (bG ea ?_);let S:=M3.iY L O af ea λj h1 h2=>T2 j af h2;show aZ (λg8=>?_) (λg8=>?_)
        .let ab:F+1+1=a.size:=‹g8›;show vl #[K4,.inl #[_,S.last L O ab (λj h1 h2=>?_),rfl]];have:=hl j h2;rw[show a.size-1=F+1 by show QG Qs (id (RW ab))]at this;show OQ this
        .let ab:¬ F+1+1=a.size:=‹g8›;show aZ (λg9=>vl #[K4,.inr #[_,F+1,G+1+r',2,0,S,Pn la ab,af,Oy ao (M.grow S af af)]]) (λg9=>vl #[_,F+1,G+1+r',2,0,S,Pn la ab,af,Oy ao (M.grow S af af),K4])
       .let aT:r'=0:=af;subst aT;show vh (bG ea ?_);let S:=M2.iY L O af ea λj h1 h2=>T2 j af h2;show aZ (λg8=>?_) (λg8=>?_)
        .let ab:F+1+1=a.size:=‹g8›;show vl #[K4,.inl #[_,S.last L O ab (λj h1 h2=>?_),rfl]];have:=hl j h2;rw[show a.size-1=F+1 by show QG Qs (id (RW ab))]at this;show OQ this
        .let ab:¬ F+1+1=a.size:=‹g8›;show aZ (λg9=>vl #[K4,.inr #[_,F+1,G+1,2,0,S,Pn la ab,Pn J as,Oy ao (M.grow S af af)]]) (λg9=>vl #[_,F+1,G+1,2,0,S,af,af,Oy ao (M.grow S af af),K4])
    .rintro c a7 ⟨ap,F,G,bd,ac,bc,rfl,M,la,J,ao,K3⟩;show#[K3,.inr #[2,2,_,0,M,la,J,ao]]
    .show#[U,F,G,2,0,M,la,J,G0 _,K2]
    .rintro c a7 ⟨K3,⟨R,hR,e⟩|⟨ap,F,G,bd,ac,bc,rfl,M,la,J,ao⟩⟩
     .let#[c1,c2]:=c;cases e;show vl #[R,hR,rfl,K3]
     .show vh (zJ K3 λba K4=>?_);show vl #[ap,F,G,0,M,la,J,af,K4]
 .rintro c a3 ⟨out,F,G,mg,rfl,M,la,J,lo,K1⟩;exfalso;have:=M.sz;omega
 .show#[2,_,0,M0,Pn na g2,Pn nb g1,G0 _,#[1,1]]
 .rintro c a3 ⟨R,hR,e,K1⟩;let#[c1,c2]:=c;cases e;show vl (h R a3 hR K1)
end
def seg(a:Array Oi)(k n:Nat):List Oi:=(a.toList.drop k).take (n-k)
theorem jS{a:Array Oi}{k n:Nat}(h:k<=n):a.toList.take n=a.toList.take k++seg a k n:=by
 unfold seg;let e:a.toList.take k=(a.toList.take n).take k:=(by rw[List.take_take,Ta h]);rw[e, <-List.drop_take,P1]
theorem oQ{a:Array Oi}{k n:Nat}{q:Oi}(h:q∈seg a k n):∃j,k<=j/\j<n/\j<a.size/\QA q.1=K a j:=by
 let#[j,h1,h2,e]:=eX h;show#[k+j,af,Qo h1,h2,e]
theorem pf{a:Array Oi}{n:Nat}{q:Oi}(h:q∈a.toList.take n):∃j,j<n/\j<a.size/\QA q.1=K a j:=by
 have:q∈(a.toList.drop 0).take n:=(by rw[V4];show h);let#[j,h1,h2,e]:=eX this;rw[V5]at h2 e;show#[j,h1,h2,e]
theorem iP{a:Array Oi}{k n:Nat}:(a.extract k n).toList=seg a k n:=by
 unfold seg;rw[SF,Qq]
theorem pF{a:Array Oi}{n:Nat}:(a.extract 0 n).toList=a.toList.take n:=by
 rw[SF,Qq];simp
theorem zi{a:Array Oi}{k:Nat}(h:k<a.size):seg a k (k+1)=[a[k]]:=by
 unfold seg;rw[P9 ‹h›];simp
structure MH(a b out:Array Oi)(na nb:Nat):Prop where
 la:na<=a.size
 lb:nb<=b.size
 pm:(a.toList.take na++b.toList.take nb++out.toList.reverse).Perm (a.toList++b.toList)
 up:out.toList.reverse.Pairwise le
 ab:∀p∈a.toList.take na,∀q∈out.toList,le p q
 bb:∀p∈b.toList.take nb,∀q∈out.toList,le p q
theorem MH.sz{a b out:Array Oi}{z F:Nat}(m:MH a b out z F):out.size+z+F=a.size+b.size:=by
 have:=m.pm.length_eq;let h1:=m.la;let h2:=m.lb;simp at this;omega
theorem MH.grow{a b out O:Array Oi}{F z I B:Nat}(m:MH a b out F z)(G:MH a b O I B)(h1:I<=F)(h2:B<=z):out.size<=O.size:=by
 let a1:=m.sz;let a2:=G.sz;omega
theorem oU{out:Array Oi}{l r:List Oi}{q:Oi}(h:out.toList.reverse=l++r.reverse)(F:q∈out.toList):q∈l\/q∈r:=by
 have:q∈out.toList.reverse:=PK.mpr F;rw[h]at this;rcases By.mp this with z|z
 .show .inl z
 .show .inr (PK.mp z)
theorem MH.vj{a b out U:Array Oi}{F L k:Nat}(m:MH a b out F L)(ua:Up a)(S:k<=F)(R:U.toList.reverse=seg a k F++out.toList.reverse)(h:∀i j,i<L->i<b.size->k<=j->j<F->K b i<=K a j):MH a b U k L:=by
 let J:=jS (a:=a) S;let O:(a.toList.take F).Pairwise le:=ua.up.sublist (QX _ _);rw[J]at O;let#[p1,p2,p3]:=OM.mp O;let ac:=m.la;show#[Oy S ac,m.lb,3,λp I q G=>?_,λp I q G=>?_]
 .show Sh ?_ m.pm;rw[R,J];generalize seg a k F=T;generalize a.toList.take k=D;generalize b.toList.take L=B;rw[OP,OP,OP];show QM _ ?_;rw[<-OP, <-OP];show QH _ Q0
 .rw[R,OM];show#[p2,m.up,λp O q G=>m.ab p ?_ q (PK.mp G)];rw[J];show Of _ O
 .rcases oU R G with z|z
  .show p3 p I q z
  .show m.ab p ?_ q z;rw[J];show Pc _ I
 .rcases oU R G with z|z
  .let#[i,i1,i2,e1]:=pf I;let#[j,j1,j2,j3,e2]:=oQ z;change QA p.1<=QA q.1;rw[e1,e2];show h i j i1 i2 j1 j2
  .show m.bb p I q z
theorem MH.wQ{a b out U:Array Oi}{L F k:Nat}(m:MH a b out L F)(ub:Up b)(S:k<=F)(R:U.toList.reverse=seg b k F++out.toList.reverse)(h:∀i j,i<L->i<a.size->k<=j->j<F->K a i<=K b j):MH a b U L k:=by
 let J:=jS (a:=b) S;let O:(b.toList.take F).Pairwise le:=ub.up.sublist (QX _ _);rw[J]at O;let#[p1,p2,p3]:=OM.mp O;let ac:=m.lb;show#[m.la,Oy S ac,3,λp I q G=>?_,λp I q G=>?_]
 .show Sh ?_ m.pm;rw[R,J];generalize seg b k F=T;generalize b.toList.take k=D;generalize a.toList.take L=B;rw[OP,OP,OP]
 .rw[R,OM];show#[p2,m.up,λp O q G=>m.bb p ?_ q (PK.mp G)];rw[J];show Of _ O
 .rcases oU R G with z|z
  .let#[i,i1,i2,e1]:=pf I;let#[j,j1,j2,j3,e2]:=oQ z;change QA p.1<=QA q.1;rw[e1,e2];show h i j i1 i2 j1 j2
  .show m.ab p I q z
 .rcases oU R G with z|z
  .show p3 p I q z
  .show m.bb p ?_ q z;rw[J];show Pc _ I
theorem MH.iY{a b out:Array Oi}{z F:Nat}(m:MH a b out z F)(L:Up a)(I:1<=z){p:Oi}(G:a[z-1]?=some p)(h:∀i,i<F->i<b.size->K b i<=K a (z-1)):MH a b (out.push p) (z-1) F:=by
 let J:=m.la;let hi:z-1<a.size:=Uu I J;let ep:a[z-1]=p:=(by rw[getElem?_pos a _ hi]at G;show DD G);show m.vj L (WA z 1) ?_ λi j h1 h2 R O=>?_
 .have:=zi hi;rw[show z-1+1=z by show UR I]at this;rw[this,SY,Rx,ep];rfl
 .rw[show j=z-1 by omega];show h i h1 h2
theorem MH.nZ{a b out:Array Oi}{F z:Nat}(m:MH a b out F z)(L:Up b)(I:1<=z){p:Oi}(G:b[z-1]?=some p)(h:∀i,i<F->i<a.size->K a i<=K b (z-1)):MH a b (out.push p) F (z-1):=by
 let J:=m.lb;let hi:z-1<b.size:=Uu I J;let ep:b[z-1]=p:=(by rw[getElem?_pos b _ hi]at G;show DD G);show m.wQ L (WA z 1) ?_ λi j h1 h2 R O=>?_
 .have:=zi hi;rw[show z-1+1=z by show UR I]at this;rw[this,SY,Rx,ep];rfl
 .rw[show j=z-1 by omega];show h i h1 h2
theorem MH.IJ{a b out:Array Oi}{z F k:Nat}(m:MH a b out z F)(G:Up a)(I:k<=z)(h:∀i j,i<F->i<b.size->k<=j->j<z->K b i<=K a j):MH a b (out++(a.extract k z).reverse) k F :=
 m.vj G I (by rw[Py,Rx,SG,Uv,iP]) h
theorem MH.BL{a b out:Array Oi}{F z k:Nat}(m:MH a b out F z)(I:Up b)(G:k<=z)(h:∀i j,i<F->i<a.size->k<=j->j<z->K a i<=K b j):MH a b (out++(b.extract k z).reverse) F k :=
 m.wQ I G (by rw[Py,Rx,SG,Uv,iP]) h
theorem MH.done{a b out:Array Oi}{z F:Nat}(m:MH a b out z F)(J:Up a)(L:Up b)(h:z=0\/F=0):Good a b (a.extract 0 z++b.extract 0 F++out.reverse):=by
 let e:(a.extract 0 z++b.extract 0 F++out.reverse).toList=a.toList.take z++b.toList.take F++out.toList.reverse:=by
  rw[Py,Py,pF,pF,SG]
 show#[by rw[e];show m.pm,?_];rw[e];rcases h with h|h
 .rw[h,Vo,VZ,OM];show#[L.up.sublist (QX _ _),m.up,λp G q I=>m.bb p G q (PK.mp I)]
 .rw[h,Vo,QS,OM];show#[J.up.sublist (QX _ _),m.up,λp G q I=>m.ab p G q (PK.mp I)]
theorem MH.first{a b out:Array Oi}{G F:Nat}(m:MH a b out G F)(L:Up a)(S:Up b)(hn:F=1)(h:∀j,j<a.size->K b 0<=K a j):Good a b (b.extract 0 F++a.extract 0 G++out.reverse):=by
 let e:(b.extract 0 F++a.extract 0 G++out.reverse).toList=b.toList.take F++a.toList.take G++out.toList.reverse:=by
  rw[Py,Py,pF,pF,SG]
 show#[3]
 .rw[e];show(QH _ Q0).trans m.pm
 .rw[e,OM,OM];show#[#[S.up.sublist (QX _ _),L.up.sublist (QX _ _),λp J q I=>?_],m.up,λp J q I=>?_]
  .let#[i,i1,i2,R]:=pf J;let#[j,j1,U,O]:=pf I;change QA p.1<=QA q.1;rw[R,O,show i=0 by omega];show h j U
  .rcases By.mp J with z|z
   .show m.bb p z q (PK.mp I)
   .show m.ab p z q (PK.mp I)
def EE:Array Oi->Array Oi->StateT OU Sem (Array Oi):=sortPriv% PySem.Builtin.mergeHi
section
variable{prog:vu}{w:Oe}{A:Ov}{E:W8}{s:se}{a₀:Array Oi}
theorem xI{st:OU}{a b:Array Oi}{Q:Array Oi->OU->Prop}(hk:kindOf st=Q9)(G:Up a)(J:Up b)(F:1<=a.size)(z:1<=b.size)(h0:K b 0<K a 0)(hl:∀j,j<b.size->K b j<K a (a.size-1))
  (h:∀R ab,Good a b R->wU st ab->Q R ab):WE (model prog w) A E s (EE a b) Q st:=by
 show vh (To (QC #[4]));let sa:=G.Lu;let sb:=J.Lu;let as:∀j,j<a.size->K b 0<=K a j:=λj hj=>by
  have:=sa 0 j (OJ _) (OJ _) hj;omega
 let#[t0,q0,e0]:=G.at (i:=a.size-1) af;show vh (bG e0 ?_);let M0:MH a b ([(Value.int (K a (a.size-1)) t0,q0)].toArray) (a.size-1) b.size:=by
  let M:MH a b ([].toArray) a.size b.size:=#[G0 _,G0 _,(by rw[O8 (l:=a.toList) (by simp),O8 (l:=b.toList) (by simp)];simp),SW,(λp _ q hq=>by cases hq),(λp _ q hq=>by cases hq)];show M.iY G F e0 λi h1 h2=>OQ (hl i h2)
 show aZ (λg=>vl (h _ _ (M0.done G J (.inl ‹g›)) #[1,1])) (λg=>?_);let g1:¬ a.size-1=0:=‹g›;show aZ (λg=>vl (h _ _ (M0.first G J ‹g› as) #[1,1])) (λg=>?_);let g2:¬ b.size=1:=‹g›;show vh (Ru ?_);show vh (PY (OX (I:=λx c ab=>LH λF z out mg=>EI (c=(none,F,z,out,mg)) (MH a b out F z) (1<=F) (2<=z) (x+1<=out.size) (wU st ab)) (Q:=λc ab=>∃R,vy (Good a b R) (c.1=some R) (wU st ab)) ?_ ?_ ?_) ?_)
 .rintro x c a3 bz bH ⟨F,z,out,mg,rfl,M,la,lb,lo,K1⟩;show vh (PY (OX (I:=λy c ab=>FT λF z O ac bc=>EI (c=(none,F,z,O,ac,bc)) (MH a b O F z) (1<=F) (2<=z) (out.size+y<=O.size) (wU st ab))
   (Q:=λc ab=>wU st ab/\((∃R,Good a b R/\c.1=some R)\/(FT λF z O ac bc=>Jw (c=(none,F,z,O,ac,bc)) (MH a b O F z) (1<=F) (2<=z) (out.size+1<=O.size)))) ?_ ?_ ?_) ?_)
  .rintro y c a4 bm bf ⟨F,z,O,ac,bc,rfl,M,la,lb,a8,K2⟩;let be:kindOf a4=Q9:=K2.kind.trans hk;let lA:=M.la;let lB:=M.lb;let#[tb,qb,eb]:=J.at (i:=z-1) af;let#[ta,qa,ea]:=G.at (i:=F-1) af;show vh (bG eb (vh (bG ea (vh (tZ be rfl rfl ?_)))));cases c:K b (z-1)<K a (F-1)
   .rw[decide_eq_true c];show vh (bG ea ?_);let M2:=M.iY G af ea λi h1 h2=>OQ (SE (sb i (z-1) (OJ _) af af) c);show aZ (λg=>vl #[K2,.inl #[_,M2.done G J (.inl ‹g›),rfl]]) (λg=>?_);let g':¬ F-1=0:=‹g›;let sz:(O.push (Value.int (K a (F-1)) ta,qa)).size=O.size+1:=Tp ..;show aZ (λg=>vl #[K2,.inr #[F-1,z,O.push (Value.int (K a (F-1)) ta,qa),_,0,M2,af,lb,af]]) (λg=>vl #[F-1,z,O.push (Value.int (K a (F-1)) ta,qa),_,0,M2,af,lb,af,K2])
   .rw[decide_eq_false c];show vh (bG eb ?_);let M2:=M.nZ J af eb λi h1 h2=>Qe (sa i (F-1) (OJ _) af af) (Int.not_lt.mp c);show aZ (λg=>vl #[K2,.inl #[_,M2.first G J ‹g› as,rfl]]) (λg=>?_);let g':¬ z-1=1:=‹g›;let sz:(O.push (Value.int (K b (z-1)) tb,qb)).size=O.size+1:=Tp ..;show aZ (λg=>vl #[K2,.inr #[F,z-1,O.push (Value.int (K b (z-1)) tb,qb),_,0,M2,la,af,af]]) (λg=>vl #[F,z-1,O.push (Value.int (K b (z-1)) tb,qb),_,0,M2,la,af,af,K2])
  .rintro c a4 ⟨F,z,O,ac,bc,rfl,M,la,lb,a8,K2⟩;show#[K2,.inr #[F,z,O,_,0,M,la,lb,af]]
  .show#[F,z,out,_,0,M,la,lb,af,K1]
  .rintro c a4 ⟨K2,⟨R,hR,e⟩|⟨F,z,O,ac,bc,rfl,M,la,lb,a8⟩⟩
   .let#[c1,c2]:=c;cases e;show vl #[R,hR,rfl,K2]
   .show vh (To (QC #[4]));show vh (PY (OX (I:=λy c ab=>Lc λF z am mg ac bc=>EI (c=(none,F,z,am,mg,ac,bc)) (MH a b am F z) (1<=F) (2<=z) (O.size<=am.size) (wU st ab))
     (Q:=λc ab=>wU st ab/\((∃R,Good a b R/\c.1=some R)\/(Lc λF z am mg ac bc=>Jw (c=(none,F,z,am,mg,ac,bc)) (MH a b am F z) (1<=F) (2<=z) (O.size<=am.size)))) ?_ ?_ ?_) ?_)
    .rintro y c a7 bm bf ⟨F,z,am,bd,ac,bc,rfl,M,la,lb,ao,K3⟩;show aZ (λg=>?_) (λg=>?_)
     all_goals
      show vh (zJ K3 λba S=>?_);let a6:kindOf ba=Q9:=S.kind.trans hk;let lA:=M.la;let lB:=M.lb;let#[tb,qb,eb]:=J.at (i:=z-1) af;show vh (bG eb (vh (eY (base:=0) (n:=F) (hint:=F-1) a6 rfl (λi hi=>G.at af) (sa.sub (OJ _) af) af λr hr r1 r2=>?_)));let#[R1,R2]:=D9 r1 r2;simp only[V5]at R1 R2;let M1:=M.IJ G (k:=r) af λi j h1 h2 h3 h4=>OQ (SE (sb i (z-1) (OJ _) af af) (R2 j h3 h4));show aZ (λg2=>?_) (λg2=>?_)
      .show aZ (λg3=>vl #[S,.inl #[_,M1.done G J (.inl ‹g3›),rfl]]) (λg3=>?_);let bI:¬ r=0:=‹g3›;let M2:=M1.nZ J af eb λi h1 h2=>R1 i af;show vh (bG eb ?_);show aZ (λg5=>vl #[S,.inl #[_,M2.first G J ‹g5› as,rfl]]) (λg5=>?_);let bv:¬ z-1=1:=‹g5›;let#[ta,qa,ea]:=G.at (i:=r-1) af;show vh (bG ea (vh (eY (base:=0) (n:=z-1) (hint:=z-1-1) a6 rfl (λi hi=>J.at af) (sb.sub (OJ _) af) af λU bn a0 aB=>?_)));let#[T1,T2]:=vH a0 aB;simp only[V5]at T1 T2;let M3:=M2.BL J (k:=U) af λi j h1 h2 h3 h4=>Qe (sa i (r-1) (OJ _) af af) (T2 j h3 h4);show aZ (λg6=>?_) (λg6=>?_)
       .show aZ (λg7=>vl #[S,.inl #[_,M3.first G J ‹g7› as,rfl]]) (λg7=>?_);let bx:¬ U=1:=‹g7›;show aZ (λap=>vl #[S,.inl #[_,M3.done G J (.inr ‹ap›),rfl]]) (λap=>?_);let bi:¬ U=0:=‹ap›;show vh (bG ea ?_);let L:=M3.iY G af ea λi h1 h2=>OQ (T1 i af);show aZ (λg8=>vl #[S,.inl #[_,L.done G J (.inl ‹g8›),rfl]]) (λg8=>?_);let a5:¬ r-1=0:=‹g8›;show aZ (λg9=>vl #[S,.inr #[r-1,U,2,_,0,L,af,af,Oy ao (M.grow L af af)]]) (λg9=>vl #[r-1,U,2,_,0,L,af,af,Oy ao (M.grow L af af),S])
       .let bl:¬ z-1-U>0:=g6;let aT:U=z-1:=af;subst aT;show vh (bG ea ?_);let L:=M2.iY G af ea λi h1 h2=>OQ (T1 i af);show aZ (λg8=>vl #[S,.inl #[_,L.done G J (.inl ‹g8›),rfl]]) (λg8=>?_);let a5:¬ r-1=0:=‹g8›;show aZ (λg9=>vl #[S,.inr #[r-1,z-1,2,_,0,L,af,af,Oy ao (M.grow L af af)]]) (λg9=>vl #[r-1,z-1,2,_,0,L,af,af,Oy ao (M.grow L af af),S])
      .let bV:¬ F-r>0:=g2;let r0:r=F:=af;subst r0;let M2:=M.nZ J af eb λi h1 h2=>R1 i af;show vh (bG eb ?_);show aZ (λg5=>vl #[S,.inl #[_,M2.first G J ‹g5› as,rfl]]) (λg5=>?_);let bv:¬ z-1=1:=‹g5›;let#[ta,qa,ea]:=G.at (i:=r-1) af;show vh (bG ea (vh (eY (base:=0) (n:=z-1) (hint:=z-1-1) a6 rfl (λi hi=>J.at af) (sb.sub (OJ _) af) af λU bn a0 aB=>?_)));let#[T1,T2]:=vH a0 aB;simp only[V5]at T1 T2;let M3:=M2.BL J (k:=U) af λi j h1 h2 h3 h4=>Qe (sa i (r-1) (OJ _) af af) (T2 j h3 h4);show aZ (λg6=>?_) (λg6=>?_)
       .show aZ (λg7=>vl #[S,.inl #[_,M3.first G J ‹g7› as,rfl]]) (λg7=>?_);let bx:¬ U=1:=‹g7›;show aZ (λap=>vl #[S,.inl #[_,M3.done G J (.inr ‹ap›),rfl]]) (λap=>?_);let bi:¬ U=0:=‹ap›;show vh (bG ea ?_);let L:=M3.iY G af ea λi h1 h2=>OQ (T1 i af);show aZ (λg8=>vl #[S,.inl #[_,L.done G J (.inl ‹g8›),rfl]]) (λg8=>?_);let a5:¬ r-1=0:=‹g8›;show aZ (λg9=>vl #[S,.inr #[r-1,U,2,_,0,L,af,af,Oy ao (M.grow L af af)]]) (λg9=>vl #[r-1,U,2,_,0,L,af,af,Oy ao (M.grow L af af),S])
       .let bl:¬ z-1-U>0:=g6;let aT:U=z-1:=af;subst aT;show vh (bG ea ?_);let L:=M2.iY G af ea λi h1 h2=>OQ (T1 i af);show aZ (λg8=>vl #[S,.inl #[_,L.done G J (.inl ‹g8›),rfl]]) (λg8=>?_);let a5:¬ r-1=0:=‹g8›;show aZ (λg9=>vl #[S,.inr #[r-1,z-1,2,_,0,L,af,af,Oy ao (M.grow L af af)]]) (λg9=>vl #[r-1,z-1,2,_,0,L,af,af,Oy ao (M.grow L af af),S])
    .rintro c a7 ⟨F,z,am,bd,ac,bc,rfl,M,la,lb,ao,K3⟩;show#[K3,.inr #[F,z,am,2,0,M,la,lb,ao]]
    .show#[F,z,O,2,0,M,la,lb,G0 _,K2]
    .rintro c a7 ⟨K3,⟨R,hR,e⟩|⟨F,z,am,bd,ac,bc,rfl,M,la,lb,ao⟩⟩
     .let#[c1,c2]:=c;cases e;show vl #[R,hR,rfl,K3]
     .show vh (zJ K3 λba S=>?_);show vl #[F,z,am,0,M,la,lb,af,S]
 .rintro c a3 ⟨F,z,out,mg,rfl,M,la,lb,lo,K1⟩;exfalso;have:=M.sz;omega
 .show#[2,_,0,M0,af,af,G0 _,#[1,1]]
 .rintro c a3 ⟨R,hR,e,K1⟩;let#[c1,c2]:=c;cases e;show vl (h R a3 hR K1)
end
def putAll(a:Array Oi)(o n:Nat)(l:List Oi):Array Oi:=(l.zipIdx n).foldl (λa (p,j)=>a.setIfInBounds (o+j) p) a
theorem kA(o:Nat):∀(l:List Oi)(n:Nat)(a:Array Oi),o+n+l.length<=a.size->∀i,(putAll a o n l)[i]?=if o+n<=i/\i<o+n+l.length then l[i-(o+n)]? else a[i]?
 | [],n,a,_,i=>by
  rw[WX (by rw[VC];omega)];rfl
 |p::l,n,a,h,i=>by
  rw[Oq]at h;change(putAll (a.setIfInBounds (o+n) p) o (n+1) l)[i]?=_;rw[kA o l (n+1) _ (by rw[Array.size_setIfInBounds];omega),Oq,Array.getElem?_setIfInBounds];cases c:o+(n+1)<=i/\i<o+(n+1)+l.length
  .rw[WY c,WY af,show i-(o+n)=(i-(o+(n+1)))+1 by omega];simp
  .rw[WX c];cases d:o+n=i
   .rw[WY d,WY (Nat.lt_of_add_right_lt h),WY af, <-d];simp
   .rw[WX d,WX af]
theorem vm{a:Array Oi}{o:Nat}{l:List Oi}(h:o+l.length<=a.size):(putAll a o 0 l).toList=a.toList.take o++l++a.toList.drop (o+l.length):=by
 apply Vf;intro i;let e:=kA o l 0 a af i;rw[Qc,e,OP];cases F:i<o
 .rw[WX af,Qp (by rw[Oz];simp;omega),List.getElem?_take];simp[F]
 .rw[Qk (by rw[Oz];omega)];let z:(a.toList.take o).length=o:=(by rw[Oz];simp;omega);rw[z];cases G:i<o+l.length
  .rw[WY af,Qp af];rfl
  .rw[WX af,Qk af,List.getElem?_drop,Qc];congr 1;omega
theorem vq{a:Array Oi}{lo hi i:Nat}(h:i<hi-lo)(hs:hi<=a.size):K (a.extract lo hi) i=K a (lo+i):=by
 show VL ?_;rw[Array.getElem?_extract];rw[WY af]
theorem qF{a:Array Oi}{lo hi:Nat}(hs:hi<=a.size):(a.extract lo hi).size=hi-lo:=by
 rw[Array.size_extract];omega
theorem Dp{a₀ a:Array Oi}(O:a.Perm a₀)(k:Ks a₀){lo hi:Nat}(hs:hi<=a.size)(h:mT a lo hi):Up (a.extract lo hi):=by
 show#[λp I=>k.ik p ((Ql.mp O).mem_iff.mp ?_),PX.mpr λi j S L U=>?_]
 .rw[iP]at I;show Se (Sd I)
 .let sz:=qF (a:=a) (lo:=lo) hs;let R:i<(a.extract lo hi).size:=(by rw[<-P4];show S);let J:j<(a.extract lo hi).size:=(by rw[<-P4];show L);let F:=K_eq R;let G:=K_eq J;rw[vq af hs]at F G;let z:=h (lo+i) (lo+j) af af af;rw[F,G]at z;simpa[le]using z
theorem parts{a:Array Oi}{lo mid hi:Nat}(h1:lo<=mid)(h2:mid<=hi):a.toList=a.toList.take lo++(seg a lo mid++seg a mid hi)++a.toList.drop hi:=by
 let z:=jS (a:=a) h1;let F:=jS (a:=a) h2;rw[<-OP, <-z, <-F,P1]
theorem za{a R:Array Oi}{lo mid hi:Nat}(h1:lo<=mid)(h2:mid<=hi)(h3:hi<=a.size)(G:Good (a.extract lo mid) (a.extract mid hi) R) :
  R.size=hi-lo/\(putAll a lo 0 R.toList).Perm a/\(∀i,¬ (lo<=i/\i<hi)->(putAll a lo 0 R.toList)[i]?=a[i]?)/\mT (putAll a lo 0 R.toList) lo hi/\∀i,lo<=i->i<hi->∃j,lo<=j/\j<hi/\K (putAll a lo 0 R.toList) i=K a j:=by
 let#[O,g2]:=G;let sz:R.size=hi-lo:=by
  have:=O.length_eq;simp only[Oj,P4]at this;rw[qF (Oy h2 h3),qF h3]at this;omega
 let hl:R.toList.length=hi-lo:=(by rw[P4];show sz);let get:=kA lo R.toList 0 a af;let F:∀i,lo<=i->i<hi->∃(h:i-lo<R.size),K (putAll a lo 0 R.toList) i=QA (R[i-lo]).1:=λi am ab=>by
  let U:i-lo<R.size:=af;show#[U,?_];let e:=get i;rw[WY af]at e;unfold K;rw[e,Qc,Nat.add_zero,getElem?_pos R (i-lo) U]
 show#[sz,?_,λi hi=>?_,λi j hi ac S=>?_,λi am ab=>?_]
 .rw[Ql,vm af]
  conv=>rhs;rw[parts (a:=a) h1 h2]
  rw[hl,show lo+(hi-lo)=hi by omega];show QH _ (QM _ ?_);rw[<-iP, <-iP];show O
 .rw[get i,WX af]
 .let#[a1,I]:=F i hi (Rt ac S);let#[a2,e2]:=F j (Oy hi ac) S;rw[I,e2];cases z:i=j
  .subst z;show Pp _
  .have:=PX.mp g2 (i-lo) (j-lo) ‹a1› ‹a2› af;simpa[le]using this
 .let#[a1,I]:=F i am ab;let hm:R[i-lo]∈(a.extract lo mid).toList++(a.extract mid hi).toList:=O.mem_iff.mp (by simp);rw[I];rcases By.mp hm with z|z
  .rw[iP]at z;let#[j,J,L,j3,e]:=oQ z;show#[j,J,OD L h2,e]
  .rw[iP]at z;let#[j,J,L,j3,e]:=oQ z;show#[j,Oy h1 J,L,e]
structure I0(a₀:Array Oi)(st st':OU)(i lo n:Nat)(pw:Nat):Prop where
 S:SI a₀ st'
 out:∀j,¬ (lo<=j/\j<lo+n)->(Og st')[j]?=(Og st)[j]?
 up:mT (Og st') lo (lo+n)
 pend:OA st'=((OA st).setIfInBounds i (lo,n,pw)).eraseIdxIfInBounds (i+1)
section
variable{prog:vu}{w:Oe}{A:Ov}{E:W8}{s:se}{a₀:Array Oi}
theorem He{st x:OU}{Q:PUnit->OU->Prop}(h:Q #[] x):WE (model prog w) A E s (set x:StateT OU Sem PUnit) Q st:=by
 unfold WE;rw[StateT.run_set];show wpAny_pure #[rfl,h]
theorem CM{st:OU}{i z F pw nb am:Nat}{Q:Bool->OU->Prop}(S:SI a₀ st)(k:Ks a₀)(h1:(OA st)[i]?=some (z,F,pw))(h2:(OA st)[i+1]?=some (z+F,nb,am))(n1:1<=F)(n2:1<=nb)(hsz:z+F+nb<=a₀.size)
  (u1:mT (Og st) z (z+F)) (u2:mT (Og st) (z+F) (z+F+nb)) (h:∀ac,I0 a₀ st ac i z (F+nb) pw->Q true ac):WE (model prog w) A E s (mergeAt' i) Q st:=by
 show vh (Ru ?_);let hs:=S.size;let ka:∀{j:Nat},j<(Og st).size->∃t q,(Og st)[j]?=some (.int (K (Og st) j) t,q):=λU=>yG S.perm k U;rw[h1,h2];show vh (He ?_);let#[tb,qb,eb]:=ka (j:=z+F) af;show vh (bG eb (vh (eY (base:=z) (n:=F) (hint:=0) S.kind rfl (λi hi=>ka af) u1 af λr hr r1 r2=>?_)));let#[R1,R2]:=D9 r1 r2;show aZ (λg=>?_) (λg=>?_)
 .let g':F-r=0:=‹g›;show vl (h _ #[#[S.perm,S.kind,S.failed],λ_ _=>rfl,λi j hi J U=>?_,rfl]);change K (Og st) i<=K (Og st) j;cases O:j<z+F
  .show u1 i j hi J O
  .by_cases L:i<z+F
   .let a1:=R1 (i-z) af;rw[show z+(i-z)=i by show RX hi]at a1;show Qe a1 (u2 (z+F) j (G0 _) (O0 O) af)
   .show u2 i j (O0 L) J af
 let g':¬ F-r=0:=‹g›;let#[ta,qa,ea]:=ka (j:=z+r+(F-r)-1) af;show vh (bG ea (vh (eY (base:=z+F) (n:=nb) (hint:=nb-1) S.kind rfl (λi hi=>ka af) u2 (Nat.sub_one_lt_of_lt n2) λI aB ap ao=>?_)));let#[T1,T2]:=vH ap ao;show aZ (λg=>?_) (λg=>?_)
 .let as:I=0:=‹g›;show vl (h _ #[#[S.perm,S.kind,S.failed],λ_ _=>rfl,λi j hi J U=>?_,rfl]);change K (Og st) i<=K (Og st) j;cases O:j<z+F
  .show u1 i j hi J O
  .by_cases L:i<z+F
   .show Qe (u1 i (z+r+(F-r)-1) hi af af) (T2 j af af)
   .show u2 i j (O0 L) J af
 let g2:¬ I=0:=‹g›;let ux:Up ((Og st).extract (z+r) (z+F)):=Dp S.perm k af λi j hi J U=>u1 i j (QJ hi) J U;let uy:Up ((Og st).extract (z+F) (z+F+I)):=Dp S.perm k af λi j hi J U=>u2 i j hi J af;let sx:((Og st).extract (z+r) (z+F)).size=F-r:=(by rw[qF af];show Nat.add_sub_add_left z F r);let sy:((Og st).extract (z+F) (z+F+I)).size=I:=(by rw[qF af];show Ug (z+F) I);let x0:K ((Og st).extract (z+F) (z+F+I)) 0<K ((Og st).extract (z+r) (z+F)) 0:=by
  rw[vq af af,vq af af];show R2 (z+r) (G0 _) af
 let xl:∀j,j<((Og st).extract (z+F) (z+F+I)).size->K ((Og st).extract (z+F) (z+F+I)) j<K ((Og st).extract (z+r) (z+F)) (((Og st).extract (z+r) (z+F)).size-1):=λj U=>by
  rw[vq af af,vq af af,sx,show z+r+(F-r-1)=z+r+(F-r)-1 by omega];show T1 j (Qm U sy)
 show aZ (λg=>?_) (λg=>?_)
 .show vh (yj S.kind ux uy (by rw[sx];show QG QK g') (by rw[sy];show QG QK g2) x0 xl λR WK G KC=>?_);let#[z1,z2,z3,z4,z5]:=za (a:=Og st) (lo:=z+r) (mid:=z+F) (hi:=z+F+I) (QG Ro hr) af af G;show vh (QF (vh (Ru (vl ?_))));let hf:Ra WK=none:=KC.failed.trans S.failed;let hc:Og WK=Og st:=KC.arr;change Q (Ra WK).isNone (US (kindOf WK) (putAll (Og WK) (z+r) 0 R.toList) (OA WK) (gallopOf WK) (Ra WK));rw[hf,hc];show h _ #[#[z2.trans S.perm,KC.kind.trans S.kind,rfl],λj U=>z3 j af,λi j hi J U=>?_,KC.pend];change K (putAll (Og st) (z+r) 0 R.toList) i<=K (putAll (Og st) (z+r) 0 R.toList) j;let out:∀i,¬ (z+r<=i/\i<z+F+I)->K (putAll (Og st) (z+r) 0 R.toList) i=K (Og st) i:=λi hi=>VL (z3 i hi);cases O:i<z+r
  .rw[out i af];let ab:∀j,z+r<=j->j<z+F+nb->K (Og st) i<=K (Og st) j:=λj h1 h2=>by
    cases c:j<z+F
    .show u1 i j hi af c
    .let a1:=R1 (i-z) (SO hi O);rw[show z+(i-z)=i by show RX hi]at a1;show Qe a1 (u2 (z+F) j (G0 _) (O0 c) h2)
   cases L:z+r<=j/\j<z+F+I
   .let#[j',q1,q2,e]:=z5 j L.1 L.2;rw[e];show ab j' q1 af
   .rw[out j L];cases c3:j<z+r
    .show u1 i j hi J af
    .show ab j (O0 c3) af
  .by_cases L:i<z+F+I
   .by_cases c3:j<z+F+I
    .show z4 i j (O0 O) J c3
    .rw[out j (QG not_and λa=>c3)];let#[i',q1,q2,e]:=z5 i (O0 O) L;rw[e];cases c4:i'<z+F
     .let a1:=T2 j (O0 c3) af;show Qe (u1 i' (z+r+(F-r)-1) (QJ q1) af af) a1
     .show u2 i' j (O0 c4) af af
   .rw[out i (QG not_and λa=>L),out j af];show u2 i j af J af
 .show vh (xI S.kind ux uy (by rw[sx];show QG QK g') (by rw[sy];show QG QK g2) x0 xl λR WK G KC=>?_);let#[z1,z2,z3,z4,z5]:=za (a:=Og st) (lo:=z+r) (mid:=z+F) (hi:=z+F+I) (QG Ro hr) af af G;show vh (QF (vh (Ru (vl ?_))));let hf:Ra WK=none:=KC.failed.trans S.failed;let hc:Og WK=Og st:=KC.arr;change Q (Ra WK).isNone (US (kindOf WK) (putAll (Og WK) (z+r) 0 R.toList) (OA WK) (gallopOf WK) (Ra WK));rw[hf,hc];show h _ #[#[z2.trans S.perm,KC.kind.trans S.kind,rfl],λj U=>z3 j af,λi j hi J U=>?_,KC.pend];change K (putAll (Og st) (z+r) 0 R.toList) i<=K (putAll (Og st) (z+r) 0 R.toList) j;let out:∀i,¬ (z+r<=i/\i<z+F+I)->K (putAll (Og st) (z+r) 0 R.toList) i=K (Og st) i:=λi hi=>VL (z3 i hi);cases O:i<z+r
  .rw[out i af];let ab:∀j,z+r<=j->j<z+F+nb->K (Og st) i<=K (Og st) j:=λj h1 h2=>by
    cases c:j<z+F
    .show u1 i j hi af c
    .let a1:=R1 (i-z) (SO hi O);rw[show z+(i-z)=i by show RX hi]at a1;show Qe a1 (u2 (z+F) j (G0 _) (O0 c) h2)
   cases L:z+r<=j/\j<z+F+I
   .let#[j',q1,q2,e]:=z5 j L.1 L.2;rw[e];show ab j' q1 af
   .rw[out j L];cases c3:j<z+r
    .show u1 i j hi J af
    .show ab j (O0 c3) af
  .by_cases L:i<z+F+I
   .by_cases c3:j<z+F+I
    .show z4 i j (O0 O) J c3
    .rw[out j (QG not_and λa=>c3)];let#[i',q1,q2,e]:=z5 i (O0 O) L;rw[e];cases c4:i'<z+F
     .let a1:=T2 j (O0 c3) af;show Qe (u1 i' (z+r+(F-r)-1) (QJ q1) af af) a1
     .show u2 i' j (O0 c4) af af
   .rw[out i (QG not_and λa=>L),out j af];show u2 i j af J af
end
def Chain(xs:Array Oi):Nat->List (Nat×Nat×Nat)->Nat->Prop
 |s,[],e=>s=e
 |s,(t,n,_)::r,e=>t=s/\1<=n/\mT xs s (s+n)/\Chain xs (s+n) r e
theorem Chain.le{xs:Array Oi}:∀{s:Nat}{l:List (Nat×Nat×Nat)}{e:Nat},Chain xs s l e->s+l.length<=e
 |s,[],e,h=>U7 h
 |s,(t,n,p)::r,e,⟨_,h2,_,z⟩=>by
  have:=Chain.le z;rw[Oq];omega
theorem Chain.app{xs:Array Oi}:∀{s:Nat}{l l2:List (Nat×Nat×Nat)}{e:Nat},Chain xs s (l++l2) e↔∃m,Chain xs s l m/\Chain xs m l2 e
 |s,[],l2,e=>#[λh=>#[s,rfl,h],λ⟨m,h1,h2⟩=>by rw[show s=m from h1];show h2]
 |s,(t,n,p)::r,l2,e=>by
  constructor
  .rintro⟨h1,h2,G,I⟩;let#[m,z,F]:=Chain.app.mp I;show#[m,#[h1,h2,G,z],F]
  .rintro⟨m,⟨h1,h2,G,z⟩,F⟩;show#[h1,h2,G,Chain.app.mpr #[m,z,F]]
theorem mT.congr{xs ys:Array Oi}{lo hi:Nat}(h:mT xs lo hi)(e:∀i,lo<=i->i<hi->ys[i]?=xs[i]?):mT ys lo hi:=λi j hi F z=>by
 rw[VL (e i hi (Rt F z)),VL (e j (Oy hi F) z)];show h i j hi F z
theorem Chain.congr{xs ys:Array Oi}:∀{s:Nat}{l:List (Nat×Nat×Nat)}{e:Nat},Chain xs s l e->(∀i,s<=i->i<e->ys[i]?=xs[i]?)->Chain ys s l e
 |s,[],e,h,_=>h
 |s,(t,n,p)::r,e,⟨h1,h2,F,z⟩,q=>by
  have:=Chain.le z;show#[h1,h2,F.congr λi a b=>q i a af,z.congr λi a b=>q i (QJ a) b]
structure RI(a₀:Array Oi)(st:OU)(lo:Nat):Prop where
 S:SI a₀ st
 ch:Chain (Og st) 0 (OA st).toList lo
 le:lo<=a₀.size
theorem IZ{α:Type}{l:List α}{i:Nat}(h:i+1<l.length):∃z x y l2,l=z++x::y::l2/\z.length=i:=by
 show#[l.take i,l[i],l[i+1],l.drop (i+2),3]
 .rw[<-P9 af, <-P9 (S0 h),P1]
 .rw[Oz];omega
theorem sE{p:Array (Nat×Nat×Nat)}{F l2:List (Nat×Nat×Nat)}{x y z:Nat×Nat×Nat}{i:Nat}(h:p.toList=F++x::y::l2)(hi:F.length=i):((p.setIfInBounds i z).eraseIdxIfInBounds (i+1)).toList=F++z::l2:=by
 let#[l]:=p;subst h;subst hi;simp;rw[List.eraseIdx_append_of_length_le af];simp
theorem FK{c:Bool}{n:Nat}(h:¬ n<=1):(if c=true then n-2-1 else n-2)+1<n:=by
 cases c
 .rw[WX aq];omega
 .rw[WY rfl];omega
theorem xh{α z:Type}{l:List α}{i:Nat}{f:α->α}{g:α->z}(h:∀x,g (f x)=g x):(l.modify i f).map g=l.map g:=by
 apply Vf;intro j;rw[Od,Od,List.getElem?_modify];cases l[j]? with
 |none=>rfl
 |some x =>
  cases c:i=j
  .simp[c,h]
  .simp[c]
theorem Chain.same{xs:Array Oi}:∀{s:Nat}{l z:List (Nat×Nat×Nat)}{e:Nat},Chain xs s l e->z.map (λx=>(x.1,x.2.1))=l.map (λx=>(x.1,x.2.1))->Chain xs s z e
 |s,[],z,e,h,q=>by
  cases z with
  |nil=>show h
  |cons x r=>cases q
 |s,(t,n,p)::r,z,e,⟨h1,h2,R,I⟩,q=>by
  cases z with
  |nil=>cases q
  |cons x S =>
   let#[t',J,U]:=x;rw[PN,PN]at q;let#[L,O]:=List.cons.inj q;let#[G,F]:=WL L;let G:t'=t:=G;let F:J=n:=F;subst G;subst F;show#[h1,h2,R,I.same O]
theorem RI.push{a₀:Array Oi}{st:OU}{lo n p:Nat}(R:RI a₀ st lo)(z:1<=n)(F:lo+n<=a₀.size)(u:mT (Og st) lo (lo+n)):RI a₀ (setPending st ((OA st).push (lo,n,p))) (lo+n):=by
 show#[#[R.S.perm,R.S.kind,R.S.failed],?_,F];change Chain (Og st) 0 ((OA st).push (lo,n,p)).toList (lo+n);rw[SY];show Chain.app.mpr #[lo,R.ch,rfl,z,u,rfl]
theorem RI.last{a₀:Array Oi}{st:OU}{lo:Nat}(R:RI a₀ st lo){f:Nat×Nat×Nat->Nat×Nat×Nat}(z:∀x,((f x).1,(f x).2.1)=(x.1,x.2.1))(i:Nat):RI a₀ (setPending st ((OA st).modify i f)) lo:=by
 show#[#[R.S.perm,R.S.kind,R.S.failed],?_,R.le];change Chain (Og st) 0 ((OA st).modify i f).toList lo;show R.ch.same ?_;rw[Array.toList_modify];show xh z
section
variable{prog:vu}{w:Oe}{A:Ov}{E:W8}{s:se}{a₀:Array Oi}
theorem kz{st:OU}{lo i:Nat}{Q:Bool->OU->Prop}(R:RI a₀ st lo)(k:Ks a₀)(hi:i+1<(OA st).size)
  (h:∀G,RI a₀ G lo->(∀j,lo<=j->(Og G)[j]?=(Og st)[j]?)->(OA G).size+1=(OA st).size->Q true G):WE (model prog w) A E s (mergeAt' i) Q st:=by
 let#[O,x,y,l2,e,J]:=IZ (l:=(OA st).toList) (i:=i) ‹hi›;let#[z,F,L]:=x;let#[sb,I,U]:=y;let ch:=R.ch;rw[e]at ch;let#[m,c1,e1,n1,u1,e2,n2,u2,c2]:=Chain.app.mp ch;subst e1;subst e2;let b1:=c1.le;let b2:=c2.le;let ab:=R.le;let g1:(OA st)[i]?=some (z,F,L):=by
  rw[<-Qc,e, <-J];simp
 let g2:(OA st)[i+1]?=some (z+F,I,U):=by
  rw[<-Qc,e, <-J];simp
 show CM R.S k g1 g2 n1 n2 af u1 u2 λG M=>h G #[M.S,?_,R.le] (λj hj=>M.out j af) ?_
 .rw[M.pend,sE e J];show Chain.app.mpr #[z,c1.congr λj _ hj=>M.out j af,rfl,Nat.le_add_right_of_le n1,M.up,?_];rw[show z+(F+I)=z+F+I by omega];show c2.congr λj hj _=>M.out j af
 .let p1:(OA G).toList.length=(O++(z,F+I,L)::l2).length:=(by rw[M.pend,sE e J]);let p2:(OA st).toList.length=(O++(z,F,L)::(z+F,I,U)::l2).length:=(by rw[e]);simp only[P4,Oj,Oq]at p1 p2;omega
theorem AS{st:OU}{Q:Unit->OU->Prop}(k:Ks a₀)(S:SI a₀ st)(hp:OA st = ([].toArray))(h2:2<=a₀.size)(h:∀O,(Og O).Perm a₀->Ra O=none->SortedTo (Og O) a₀.size->Q () O):WE (model prog w) A E s sortRuns' Q st:=by
 rw[sortRuns'_eq];show vh (Ru ?_);let hsz:=S.size;let a4:(Og st).size=a₀.size:=hsz;dsimp only;rw[hsz];show vh (PY (OX (I:=λx c O=>∃lo,vy (c=(none,lo)) (RI a₀ O lo) (x<=lo)) (Q:=λc O=>c=(none,a₀.size)/\RI a₀ O a₀.size) ?_ ?_ ?_) ?_)
 .rintro x c a5 ap aB ⟨lo,rfl,R,hx⟩;let ab:=R.le;show aZ (λg=>?_) (λg=>?_)
  .let g':a₀.size<=lo:=g;obtain rfl:lo=a₀.size:=af;show vl #[rfl,R]
  let g':¬ a₀.size<=lo:=g;show vh (D7 R.S k (lo:=lo) (nrem:=a₀.size-lo) af af λm G C m1 m2 us=>?_);dsimp only;show aZ (λgm=>?_) (λgm=>?_)
  .show vh (To (QC #[4]));generalize hf:min (a₀.size-lo) (minRun' a₀.size a₀.size 0)=n;show vh (D8 C.S k (lo:=lo) (n:=n) (ok:=m) af m1 af us λac C3 am=>?_);let R3:RI a₀ ac lo:=#[C3.S,by
    rw[C3.pend,C.pend];show R.ch.congr λi _ hi=>(C3.pre i hi).trans (C.pre i hi),R.le]
   show vh (Ru ?_);cases e:(OA ac).back? with
   |none=>show vh (QF (vl #[lo+n,rfl,R3.push af af am,af]))
   |some t =>
    let#[s1,n1,p1]:=t;show vh (PY (OX (I:=λy c F=>vy (c=(none,())) (RI a₀ F lo) (∀j,lo<=j->(Og F)[j]?=(Og ac)[j]?)) (Q:=λc F=>vy (c=(none,())) (RI a₀ F lo) (∀j,lo<=j->(Og F)[j]?=(Og ac)[j]?)) ?_ ?_ ?_) ?_)
    .rintro y c F a0 ao ⟨rfl,J,L⟩;show vh (Ru ?_);cases g:(OA F).size>1
     .rw[WY g,getElem?_pos (OA F) ((OA F).size-2) af];show aZ (λ_=>vl #[rfl,J,L]) (λ_=>?_);show vh (kz J k af λaT R5 o5 _=>vl #[rfl,R5,λj U=>(o5 j U).trans (L j U)])
     .rw[WX g];show vl #[rfl,J,L]
    .show λc F q=>q
    .show#[rfl,R3,λ_ _=>rfl]
    .rintro c F ⟨rfl,J,L⟩;show vh (QF (vh (QF (vl #[lo+n,4,af]))));show RI.push (J.last (f:=λx=>(x.fst,x.2.fst,power' a₀.size (2*s1+n1) (2*s1+n1+n1+n) a₀.size)) (λx=>rfl) _) af af (am.congr λi h1 _=>L i h1)
  .let R3:RI a₀ G lo:=#[C.S,by
    rw[C.pend];show R.ch.congr λi _ hi=>C.pre i hi,R.le]
   show vh (Ru ?_);cases e:(OA G).back? with
   |none=>show vh (QF (vl #[lo+m,rfl,R3.push af (WV (QI ab) m2) us,V6 hx m1]))
   |some t =>
    let#[s1,n1,p1]:=t;show vh (PY (OX (I:=λy c F=>vy (c=(none,())) (RI a₀ F lo) (∀j,lo<=j->(Og F)[j]?=(Og G)[j]?)) (Q:=λc F=>vy (c=(none,())) (RI a₀ F lo) (∀j,lo<=j->(Og F)[j]?=(Og G)[j]?)) ?_ ?_ ?_) ?_)
    .rintro y c F a0 ao ⟨rfl,J,L⟩;show vh (Ru ?_);cases g:(OA F).size>1
     .rw[WY g,getElem?_pos (OA F) ((OA F).size-2) af];show aZ (λ_=>vl #[rfl,J,L]) (λ_=>?_);show vh (kz J k af λaT R5 o5 _=>vl #[rfl,R5,λj U=>(o5 j U).trans (L j U)])
     .rw[WX g];show vl #[rfl,J,L]
    .show λc F q=>q
    .show#[rfl,R3,λ_ _=>rfl]
    .rintro c F ⟨rfl,J,L⟩;show vh (QF (vh (QF (vl #[lo+m,4,V6 hx m1]))));show RI.push (J.last (f:=λx=>(x.fst,x.2.fst,power' a₀.size (2*s1+n1) (2*s1+n1+n1+m) a₀.size)) (λx=>rfl) _) af (WV (QI ab) m2) (us.congr λi h1 _=>L i h1)
 .rintro c O ⟨lo,rfl,R,hx⟩;have:=R.le;obtain rfl:lo=a₀.size:=Nat.le_antisymm this hx;show#[rfl,R]
 .show#[(0),rfl,#[S,by rw[hp];rfl,OJ _],G0 _]
 .rintro c O ⟨rfl,R⟩;dsimp only;show vh (PY (OX (I:=λx c G=>vy (c=(none,())) (RI a₀ G a₀.size) ((OA G).size+x<=a₀.size)) (Q:=λc G=>vy (c=(none,())) (RI a₀ G a₀.size) ((OA G).size<=1)) ?_ ?_ ?_) ?_)
  .rintro x c G ap aB ⟨rfl,R2,ab⟩;show vh (Ru ?_);show aZ (λg=>vl #[rfl,R2,g]) (λg=>?_);show vh (kz R2 k ?_ λac R3 _ a3=>?_)
   .show FK g
   .show vl #[rfl,R3,af]
  .rintro c G ⟨rfl,R2,ab⟩;show#[rfl,R2,af]
  .show#[rfl,R,?_];have:=R.ch.le;simpa using this
  .rintro c G ⟨rfl,R2,ab⟩;show vl (h G R2.S.perm R2.S.failed ?_);let ch:=R2.ch;cases e:(OA G).toList with
   |nil =>
    rw[e]at ch;have:0=a₀.size:=ch;omega
   |cons x r =>
    let hr:r=[]:=by
     let z:(OA G).toList.length=r.length+1:=(by rw[e];rfl);rw[P4]at z;show Pd.mp af
    subst hr;let#[t,n,p]:=x;rw[e]at ch;let#[_,_,u,e2]:=ch;let e3:0+n=a₀.size:=e2;rw[e3]at u;show λi j as U=>u i j (OJ _) as U
end
theorem Ln{vs:Xc}{z:List Int}(F:RU vs z)(G:z.Nodup):Ks (TN vs):=by
 show#[F.intKeys,?_];let e:((TN vs).toList.map λp=>QA p.1)=z:=by
  rw[pairsOf_toList, <-F.nums]
  conv=>rhs;rw[<-List.map_fst_zip (l₁:=vs) (l₂:=vs) (G0 _)]
  rw[Pt];rfl
 rw[e];show G
section
variable{prog:vu}{w:Oe}{A:Ov}{E:W8}{s:se}
theorem AU{a:Addr}{vs:Xc}{ns:List Int}{n:Nat}{P:Fin->se->Prop}(Cj:s.heap.get? a=some (seqObj "list" vs.toArray n))(hI:RU vs ns)(hn:ns.Nodup)(hz:vs.length<=1000)
  (k:∀(out:Xb)(O:List Int),RU out.toList O->O.Perm ns->O.Pairwise (· <= ·)->P (.done (.ret .none)) { s with heap:=sortedHeap s.heap a vs out }):wpAny (model prog w) A (Builtin.«list.sort» #[[.ref a],[]]) P E s:=by
 let lz:sizeLine=16777216:=HC;rw[list_sort_plain];let lt:=Heap.lt_size Cj;show tp (listItems_at Cj rfl (tp (UM Cj rfl ?_ (by simp only[BY];omega))));obtain⟨ep,ab⟩:∃ep,(s.heap.update a (Obj.mapSeq λ_ => ([].toArray))).get? a=some (seqObj "list" ([].toArray) ep):=#[_,get?_update_seq Cj λ_ => ([].toArray)];show tp (Vz ab rfl (tp (wpAny_newTuple (tp (wpAny_newList (P5 ?_))))));let S:(((s.heap.update a (Obj.mapSeq λ_ => ([].toArray))).push (seqObj "tuple" vs.toArray 0)).push (seqObj "list" ([].toArray) 0)).get? a=some (seqObj "list" ([].toArray) ep):=by
  let l1:a<((s.heap.update a (Obj.mapSeq λ_ => ([].toArray))).push (seqObj "tuple" vs.toArray 0)).objs.size:=(by rw[size_push',Heap.size_update];show Rb lt);rw[Heap.get?_push_ne _ _ _ (Pb l1),Heap.get?_push_ne _ _ _ (by rw[Heap.size_update];show Pb lt)];show ab
 let done:∀F:OU,(Og F).Perm (TN vs)->SortedTo (Og F) (TN vs).size->P (.done (.ret .none)) { s with heap:=sortedHeap s.heap a vs ((Og F).map (·.2)) }:=λF L R=>by
  let#[O,w1,w2,w3]:=sorted_out hI L R;show k _ O w1 w2 w3
 change wpAny (model prog w) A _ P E { s with heap:=((s.heap.update a (Obj.mapSeq λ_ => ([].toArray))).push (seqObj "tuple" vs.toArray 0)).push (seqObj "list" ([].toArray) 0) };dsimp only;cases J:vs.toArray.size<2
 .rw[WY J,WY J];show tp (wpAny_pure ?_);rw[StateT.run_pure];show tp (wpAny_pure (tp (Vz S rfl (tp (UM S rfl ?_ (OJ _) ?_)))))
  .simp only[bne_self_eq_false,P0,if_false];show wpAny_pure (done (US general' (vs.toArray.zip vs.toArray) ([].toArray) 7 none) (VD _) λi j ac hj=>?_);rw[TU]at hj;rw[BY]at J;rw[show i=j by omega];show Pp _
  .change(Array.map (λx:Oi=>x.2) (vs.toArray.zip vs.toArray)).size<=sizeLine+1;rw[V7];change(TN vs).size<=sizeLine+1;rw[TU];omega
 .rw[WX J,WX J];rw[BY]at J;obtain⟨I,v2,G,rfl⟩:∃I v2 G,vs=I::v2::G:=by
   match vs,J with
   | [],z=>show absurd aq z
   | [_],z=>show absurd (by rw[Pu];decide) z
   |I::v2::G,_=>show#[I,v2,G,rfl]
  rw[keyKind_ints hI];let sr:=AS (prog:=prog) (w:=w) (A:=A) (E:=E) (s:={ s with heap:=((s.heap.update a (Obj.mapSeq λ_ => ([].toArray))).push (seqObj "tuple" (I::v2::G).toArray 0)).push (seqObj "list" ([].toArray) 0) }) (Ln hI hn)
   (st:=US Q9 (TN (I::v2::G)) ([].toArray) 7 none) (Q:=λ_ F=>vy ((Og F).Perm (TN (I::v2::G))) (Ra F=none) (SortedTo (Og F) (TN (I::v2::G)).size)) #[VD _,1] rfl (by rw[TU];show Nat.le_of_ble_eq_true rfl) λF L R U=>#[L,R,U]
  show tp (wpAny_pure (tp (OL sr ?_ λ_ _ e=>e)));rintro⟨⟨⟩,F⟩ s' ⟨rfl,L,R,U⟩;dsimp only;show tp (Vz S rfl (tp (UM S rfl ?_ (OJ _) ?_)))
  .rw[R];simp only[bne_self_eq_false,P0,if_false];show wpAny_pure (done F L U)
  .change(Array.map (λx:Oi=>x.2) (Og F)).size<=sizeLine+1;rw[V7,L.size_eq,TU];omega
theorem xD{l:Addr}{vs:Xc}{G:List Int}{Q:W8}(Cj:s.heap.IsList l vs.toArray)(O:RU vs G)(S:G.Nodup)(L:vs.length<=1000)
  (k:∀(out:Xb)(z:List Int),RU out.toList z->z.Perm G->z.Pairwise (· <= ·)->Q (.ref (s⁻¹+1)) { s with heap:=sortedAll s.heap vs out }):wpAny (model prog w) A (call (.builtin "sorted") [.ref l]) Q E s:=by
 let lz:sizeLine=16777216:=HC;show Calls.call_function_entry kind_sorted plain_sorted entry_sorted (args_sorted1 _) ?_;show tp (m:=checkCount "sorted" 1 1 _) (wpAny_pure (tp (collect_list Cj (tp (wpAny_newList ?_)) af)));let I:((s.heap.push (seqObj "list" ([].toArray) 0)).update s⁻¹ (Obj.mapSeq (· ++ vs.toArray))).objs.size=s⁻¹+1:=(by rw[Heap.size_update,size_push']);let F:=Heap.get?_push_size ((s.heap.push (seqObj "list" ([].toArray) 0)).update s⁻¹ (Obj.mapSeq (· ++ vs.toArray))) (o:=seqObj "list" vs.toArray 0) rfl;rw[I]at F;change wpAny _ _ _ _ _ { s with heap:=((s.heap.push (seqObj "list" ([].toArray) 0)).update s⁻¹ (Obj.mapSeq (· ++ vs.toArray))).push (seqObj "list" vs.toArray 0) };rw[I];show tp (P5 (Tq slot_list_sort #[_,F,rfl] entry_list_sort (AU F O S L λout z J U R=>#[0,wpAny_pure #[0,k out z J U R]]) (args_list_sort _)))
end
end Srt
namespace L2
open PySem PySem.Spec PyProof.Rows
def kU(X:Cx)(z:List Str)(scope:RY)(cl:List (Str×Addr))(C:Addr)(s₀:se)(H₀:Hp)(ex:List Addr):Cx where
 prog:=X.prog
 w:=X.w
 K:=X.K
 mg:=X.mg
 base:=X.base
 A:=X.A
 N:=z
 s₀:=s₀
 H₀:=H₀
 env:=Tr scope cl C X.env
 outer:=X.stack
 stack:=X.stack
 ex:=ex
 fn:=λ_=>false
 calm:=X.calm
 pn:=[]
 xe:=λ_ _=>False
def eS(t:Str)(caps:List (Str×Nat)):List Str:=t::caps.map (·.1)
def gj(caps:List (Str×Nat))(σ:St)(v:Option V):St:=v::caps.map λp=>(σ[p.2]?).join
structure ku(X:Cx)(scope:RY)(cl:List (Str×Addr))(t:Str)(caps:List (Str×Nat)):Prop where
 kind:scope.kind=.function
 BS:∀y∈scope.names,y.2≠.cell
 names:∀y∈scope.names,y.2=.local->scope.names.lookup y.1=some .local
 Lz:scope.names.lookup t=some .local
 Ki:closureFor scope X.env=pure cl
 sub:∀p∈cl,X.env.cells.lookup p.1=some p.2
 has:((relabel scope X.env).names.all λy => !(y.2 == .cell||y.2 == .free)||(cl.lookup y.1).isSome)=true
 Oc:∀p∈caps,X.N[p.2]?=some p.1/\(X.env.kindOf p.1=some .cell\/X.env.kindOf p.1=some .free)/\((relabel scope X.env).names.lookup p.1=some .cell\/(relabel scope X.env).names.lookup p.1=some .free)
 nd:(eS t caps).Nodup
section
variable{X:Cx}{scope:RY}{cl:List (Str×Addr)}{t:Str}{caps:List (Str×Nat)}{pins:W7}{σ:St}{H:Hp}{s:se}{C:Addr}{fp:List Addr}
theorem ku.look(K:ku X scope cl t caps){x:Str}{c:Addr}(h:cl.lookup x=some c):X.env.cells.lookup x=some c:=K.sub (x,c) (PU h)
theorem ku.hs(K:ku X scope cl t caps){x:Str}(h:(relabel scope X.env).names.lookup x=some .cell\/(relabel scope X.env).names.lookup x=some .free):∃c,cl.lookup x=some c:=by
 let z:∀k,(relabel scope X.env).names.lookup x=some k->(k==NameKind.cell||k==NameKind.free)=true->∃c,cl.lookup x=some c:=λk e F=>by
  have:=PL.mp K.has (x,k) (PU e);dsimp only at this;rw[F]at this;show Qv.mp ‹this›
 rcases h with h|h
 .show z _ h rfl
 .show z _ h rfl
theorem MN(I: ~~~H s)(K:ku X scope cl t caps)(G:∀b∈fp,fK X pins H b)(L:∀b∈fp,b<s⁻¹)(J:s⁻¹<=C):(kU X (eS t caps) scope cl C s H fp).Ok where
 mod:=I.ok.mod
 kind:=K.kind
 glob:=I.ok.glob
 blt:=I.ok.blt
 above:=J
 inj:=λx y c h1 h2=>I.ok.inj x y c (K.look h1) (K.look h2)
 has:=λx hx=>K.hs hx
 Hk:=λx c h=>nomatch (show false=true from h)
 hd:=I.ok.hd
 frames:=I.ok.frames
 Jz:=.inl rfl
 LM:=λb F=>#[Pb (OD (L b F) J),λx c e=>(G b F).2.2.2.2.1 x c (K.look e)]
 bs:=I.bs
 Be:=Oy I.ok.Be I.sz
 ya:=λb o e F=>by
  rcases(G b F).2.2.2.1 with z|z
  .show I.ok.ya b o e z
  .show absurd (OD (Heap.lt_size e) (Oy I.ok.Be z)) (Qh _)
 wD:=λb F O=>by
  rcases vr.mp (I.qY b O)with e|e
  .show(G b F).2.1 e
  .show(G b F).2.2.1 e
 km:=I.stack
 EJ:=I.uG
theorem K7{O:Heap}{m:W9}{tk:Nat}(I: ~~~H s)(K:ku X scope cl t caps)(hf:∀b∈fp,fK X pins H b)(ho:∀b∈fp,b<s⁻¹)(hC:s⁻¹<=C)
  (R:∀b o,s.heap.get? b=some o->O.get? b=some o) (ns:O.Ns C m):Inv (kU X (eS t caps) scope cl C s H fp) [] (gj caps σ none) H { s with heap:=O,toks:=tk }:=by
 let U:∀c v,s.heap.IsCell c v->O.IsCell c v:=λc v ap=>(by let#[o,e,d]:=ap;show#[o,R c o e,d]);show#[MN I K hf ho hC,rfl,I.bare,Un.kept R,#[m,ns,λi x v e1 e2 e3=>?_],λx c e=>?_,I.bV.fresh hC,λx c e=>I.gw x c (K.look e),λp F=>absurd (show p∈([]:W7)from F) (by simp),I.bV.kept R,by simp[gj,eS,kU]]
 .cases i with
  |zero =>
   let J:some (none:Option V)=some (some v):=e2;cases J
  |succ j =>
   let G:(caps.map (·.1))[j]?=some x:=e1;let J:(caps.map λp=>(σ[p.2]?).join)[j]?=some (some v):=e2;rw[Od]at G J;cases F:caps[j]? with
   |none=>rwa[F]at G
   |some p =>
    rw[F]at G J;let ex:p.1=x:=DD G;let L:(σ[p.2]?).join=some v:=DD J;let am:σ[p.2]?=some (some v):=by
     cases q:σ[p.2]? with
     |none=>rwa[q]at L
     |some z=>rw[q]at L;show congrArg some L
    let#[hN,hk,ab]:=K.Oc p (NC F);subst ex;let#[m',_,hl]:=I.loc;let ac:J7 X.env.scope p.1:=by
     rcases hk with z|z
     .show .inr (.inl z)
     .show .inr (.inr z)
    let#[u,r,l]:=hl p.2 p.1 v hN am ac;let#[c,hc]:=K.hs ab;rcases l with⟨z,_⟩|⟨_,c',S,ao⟩
    .rcases hk with y|y<;>(rwa[y]at z)
    .rw[K.look hc]at S;cases S;show#[u,r,.inr #[ab,c,hc,U c _ ao]]
 .let#[v,z]:=I.cell x c (K.look e);show#[v,U c v z]
theorem Inv.GQ{D:Addr}{ys:List V}{its:Xc}{n:Nat}(I: ~~~H s)(f:fK X pins H D)(e:s.heap.get? D=some { cls:=.type "list",data:=.seq its.toArray n })(r:Vals ys its)(R:ys.length<=sizeLine) :
  ~~~(upd H D (.lst ys)) s:=by
 let#[G,S,f2,L,U,f5]:=f;let#[J,g,d,tk,os]:=s;show I.step (g':=g) (d':=d) (t':=tk) (h':=J) (ch:=[D]) (λb F=>?_) (λb o _ _ _ e _=>e) (λb o _ _ _ e _=>#[o.slots,e]) (λb o F _ n=>?_) (λb o _ e=>#[o,e]) (λb xs q=>?_) (λb o u q=>?_) (λb ps q=>#[([].toArray),?_]) (λm O=>O) (λb u q=>?_) I.bare
 .let z:b=D:=‹F›;subst z;show#[L,S,U,f5]
 .rw[ai (λz=>F (by simp[z]))];show n
 .rw[ai (av q G)];show q
 .rw[ai (av q G)];show q
 .rw[ai (av q G),q];simp
 .by_cases F:b=D
  .subst F;rwa[ae]at q;show#[R,its,n,r,e]
  .rw[ai F]at q;show(I.bV b u q).jl (λ_ _ _ z=>z) (λc z=>by rw[ai (av z G)];show z) λc xs z=>by rw[ai (av z G)];show z
end
def Jy(X:Cx)(ifs:List OE)(t:TT):Prop :=
 ∀(pins:W7)(s:se)(σ:St)(H:Hp)(Q:Bool->Hp->Prop),~~~H s->t σ H Q ->
  ↑(forIn ifs true λc r=>if r=true then do let ok <-isTrue c X.env (eval c X.env);pure (VE ok)else pure (VE r)) (TP X pins σ Q) X.xe s
def vb:TT:=λ_ H Q=>Q true H
theorem j6{X:Cx}:Jy X [] vb:=λ_ _ _ H _ I h=>wpAny_tests_nil #[H,I,h]
theorem EU{X:Cx}{c:OE}{t:TT}(h:PT X c t):Jy X [c] t:=λpins s σ H Q I q=>wpAny_tests_one (h pins s σ H Q I q)
def ja(caps:List (Str×Nat))(tt:TT)(te:TE)(σ:St)(J:It)(Q:List V->Hp->Prop)(W:Nat->Nat->List V->Hp->Prop):Prop :=
 ∀i m ys H,W i m ys H->(J.stop i H/\Q ys H)\/(J.go i H/\∃N:List V->Hp->Prop,(∀F H',N F H'->∃z,z<m/\W (i+1) z F H')/\∀x H',J.EH i H x H'->tt (gj caps σ (some x)) H' λb H2 =>
  if b=true then te (gj caps σ (some x)) H2 (λy H3=>ys.length<sizeLine/\N (ys++[y]) H3)else N ys H2)
def Ky(caps:List (Str×Nat))(wi:TI)(tt:TT)(te:TE):TE:=λσ H Q=>wi σ H λJ H1 =>
 ∃W:Nat->Nat->List V->Hp->Prop,(∃m,W 0 m [] H1)/\ja caps tt te σ J (λys H2=>∀p,H2 p=none->Q (.ref p) (upd H2 p (.lst ys))) W
section
variable{X:Cx}{scope:RY}{cl:List (Str×Addr)}{t:Str}{caps:List (Str×Nat)}{elt iter:OE}{ifs:List OE}{px pos:Q5}{wi:TI}{tt:TT}{te:TE}
theorem xr{pins:W7}{σ:St}{H:Hp}{s:se}{J:It}{fp:List Addr}{it:Addr}{tn:Nat->Heap->Prop}{W:Nat->Nat->List V->Hp->Prop}{QE:List V->Hp->Prop}{E:W8}{RR:Value->Addr->VS->se->Prop}{m0:Nat}
  (K:ku X scope cl t caps) (hc:X.calm=true)
  (ht:∀C s₀ H₀ ex,Jy (kU X (eS t caps) scope cl C s₀ H₀ ex) ifs tt) (he:∀C s₀ H₀ ex,PE (kU X (eS t caps) scope cl C s₀ H₀ ex) elt te)
  (I: ~~~H s) (T:Turn X.prog X.w X.K (.Name t px) J fp it tn) (st:tn 0 s.heap) (U:∀b∈fp,fK X pins H b) (w0:W 0 m0 [] H) (hW:ja caps tt te σ J QE W)
  (bI:∀D C ys H' s' m,H' D=none->~~~(upd H' D (.lst ys)) s'->s'.heap.Ns C m->fK X pins (upd H' D (.lst ys)) C->QE ys H'->RR (.ref D) C (.ok .next) s') :
  ↑(newList []) (λbn ac=>↑(newFunctionEnv scope X.env.globals cl [] X.env.qual none .none (some X.env)) (λbd b6 =>
   QV (model X.prog X.w) X.A (.compStart (.ListComp elt [#[.Name t px,iter,ifs,(0)]] scope pos) 0 (.ref it) bn { bd with scope:=relabel scope X.env }) (RR bn bd.locals) b6) E ac) E s:=by
 show wpAny_newObj_type (Uw K.BS (by intro y hy;simp at hy) (λam a0 ap=>?_) K.kind);dsimp only at a0 ap ⊢;generalize aT:s.heap.push { cls:=.type "list",dict:=none,data:=.seq ([]:Xc).toArray }=H2 at a0 ap ⊢;let hC:H2.objs.size=s⁻¹+1:=(by rw[<-aT,Heap.size_push]);let ao:s⁻¹≠H2.objs.size:=(by rw[hC];show Pb (RJ _));let as:s⁻¹<=H2.objs.size:=(by rw[hC];show RT _);let below:∀b,b<s⁻¹->b≠H2.objs.size:=λb G=>(by rw[hC];show Pb (Rb G));let bf:∀b o,s.heap.get? b=some o->am.get? b=some o:=λb o e=>ap.extBut b o (below b (Heap.lt_size e)) (Heap.get?_push_of_some _ (aT▸Heap.get?_push_of_some _ e));let bx:am.get? s⁻¹=some { cls:=.type "list",data:=.seq ([]:Xc).toArray }:=ap.extBut _ _ ao (Heap.get?_push_of_some _ (aT▸Heap.get?_push_size _ rfl));let ho:∀b∈fp,b<s⁻¹:=λb G=>let ⟨_,e,_⟩:=T.obj 0 _ st b G;Heap.lt_size e;let bc:s⁻¹∉fp:=λhm=>Qh _ (ho _ hm);let a8:tn 0 am:=T.keep 0 _ _ st λb _ o e=>bf b o e;let ce:s⁻¹∉q8 X.stack:=λz=>by
  rcases vr.mp (I.qY _ z)with e|e
  .show absurd (e▸I.lt) (Qh _)
  .show I.HM (G0 _) e
 let b4:∀x c,cl.lookup x=some c->c≠s⁻¹:=λx c e z=>by
  let#[v,q]:=I.cell x c (K.look e);show absurd (z▸q.lt) (Qh _)
 let a7:∀{pl:W7}{L:Hp},(∀b∈fp,L b=none)->(∀p∈pl,p.1∉fp)->∀b∈fp,fK (kU X (eS t caps) scope cl H2.objs.size s H fp) pl L b:=λ{pl L} hn S b G =>
  #[hn b G,below b (ho b G),(MN I K U ho as).wD b G,.inl G,λx c e=>(U b G).2.2.2.2.1 x c (K.look e),λp b3 z=>by
   let b5:p∈pl:=b3;show S p b5 (z▸G)]
 let be:∀ac:se,ac={ s with heap:=am,toks:=s.toks+([]:List (Str×Value)).length } ->
   QV (model X.prog X.w) X.A (.compLoop (.ListComp elt [#[.Name t px,iter,ifs,(0)]] scope pos) 0 (.ref it) (.ref s⁻¹) (Tr scope cl H2.objs.size X.env)) (RR (.ref s⁻¹) H2.objs.size) ac:=by
  rintro ac rfl;show codeAny_loop rfl (λn s'=>∃i ys its O L v0,Inv (kU X (eS t caps) scope cl H2.objs.size s H fp) [] (gj caps σ v0) L s'/\tn i s'.heap/\(∀b∈fp,L b=none)/\L s⁻¹=none /\
   s'.heap.get? s⁻¹=some { cls:=.type "list",data:=.seq its.toArray O }/\Vals ys its/\ys.length<=sizeLine/\W i n ys L) (λn s' hI=>?_) m0
   #[(0),[],[],(0),H,none,K7 I K U ho as bf a0,a8,λb G=>(U b G).1,I.bV.fresh (G0 _),bx,.nil,OJ _,w0]
  let#[i,ys,its,O,L,v0,I3,bi,ba,aB,e3,r3,z3,w3]:=hI;change wpAny _ X.A ((compTurn (.ListComp elt [#[.Name t px,iter,ifs,(0)]] scope pos) 0 (.ref it) (.ref s⁻¹) (Tr scope cl H2.objs.size X.env)).onRaise (λx=>do noteFrame x (Tr scope cl H2.objs.size X.env);theTreesLotGoes x)) _ _ s';show wpAny_noted ?_;rw[compTurn_list];let bl:Inv (kU X (eS t caps) scope cl H2.objs.size s H fp) [(s⁻¹, { cls:=.type "list",data:=.seq its.toArray O })] (gj caps σ v0) L s':=I3.j5 λp S=>by
   let ep:p=(s⁻¹, { cls:=.type "list",data:=.seq its.toArray O }):=‹S›;subst ep;show#[e3,aB,ao,ce,λv z=>by cases(show Data.seq its.toArray O=Data.cell v from z)]
  let pD:∀p∈[((s⁻¹:Addr),({ cls:=.type "list",data:=.seq its.toArray O }:Obj))],p.1∉fp:=λp S=>by
   let ep:p=(s⁻¹, { cls:=.type "list",data:=.seq its.toArray O }):=‹S›;subst ep;show bc
  rcases hW i n ys L w3 with⟨bY,q⟩|⟨go,N,hN,step⟩
  .show tp (Q6 (tp (b9 (T.done (kU X (eS t caps) scope cl H2.objs.size s H fp) rfl rfl rfl hc i _ s' _ L _ bl (a7 ba pD) bi bY) λr s4 bz=>?_)));let#[hr,I4]:=bz;subst hr;show wpAny_pure ?_;let I5: ~~~L s4:=I.zE (ch:=fp) I4.os I4.base I4.bV I4.bare λb G=>#[(U b G).2.2.2.1,(U b G).2.1,(U b G).2.2.2.2.1,(U b G).2.2.2.2.2];let e4:=(I4.pin _ (Of _ OF)).1;let fD:fK X pins L s⁻¹:=I.kD (G0 _) aB;let I6:=I5.GQ fD e4 r3 z3;let#[m,hn,_]:=I4.loc;show bI _ _ ys L s4 m aB I6 hn (I.kD as ?_) q;rw[ai (D0 ao)];show I4.free
  .show tp (Q6 (tp (b9 (T.item (kU X (eS t caps) scope cl H2.objs.size s H fp) rfl rfl rfl hc i _ s' _ L _ bl (a7 ba pD) bi go) λr s4 bH=>?_)));let#[u,hr,h4]:=bH;subst hr;show tp (b9 h4 λ_ s5 bv=>?_);let#[x,H5,I5,r5,y5,a5,cc]:=bv;let cg:=(I5.pin _ (Of _ OF)).2.1;let b7:=I5.pinned (a7 cc pD) (T.obj _ _ a5);let nK:∀{α:Type}{tr:Sem α}{Q:α->se->Prop}{E':W8}{R:se},↑tr Q (λ_ _=>False) R->↑tr Q E' R:=λh=>OL h (λ_ _ z=>z) λ_ _ z=>z.elim;show tp (SU (gc (X:=kU X (eS t caps) scope cl H2.objs.size s H fp) (i:=0) (x:=t) b7 K.nd rfl (.inl (QT K.Lz)) r5 (λs6 I6=>?_) (.inr (QT K.Lz))));let e0:(gj caps σ v0).set 0 (some x)=gj caps σ (some x):=rfl;rw[e0]at I6;show tp (nK (b9 (ht _ _ _ _ _ s6 _ H5 _ I6 (step x H5 y5)) λok s7 ca=>?_));let#[H7,I7,q7]:=ca;let bm:∀{ab:St}{H':Hp}{R:se},Inv (kU X (eS t caps) scope cl H2.objs.size s H fp) ([(s⁻¹, { cls:=.type "list",data:=.seq its.toArray O })]++kC fp s5.heap) ab H' R ->
     R.heap.get? s⁻¹=some { cls:=.type "list",data:=.seq its.toArray O }/\H' s⁻¹=none/\tn (i+1) R.heap/\(∀b∈fp,H' b=none):=λ{ab H' R} Ix=>by
    let a:=Ix.pin _ (Of _ (Pc _ OF));show#[a.1,a.2.1,T.keep _ _ _ a5 λb G o e=>(Ix.pin (b,o) (Of _ (Of _ (eD G e)))).1,λb G=>?_];let#[o,e,d]:=T.obj _ _ a5 b G;show(Ix.pin (b,o) (Of _ (Of _ (eD G e)))).2.1
   let bare:∀{pl:W7}{ab:St}{H':Hp}{R:se},Inv (kU X (eS t caps) scope cl H2.objs.size s H fp) pl ab H' R->Inv (kU X (eS t caps) scope cl H2.objs.size s H fp) [] ab H' R:=λIx=>Ix.j5 λp S=>absurd S (by simp);cases ok with
   |false =>
    rw[WX IF]at q7;let#[m',hm,w7]:=hN _ _ q7;let#[a1,a2,a3,a4]:=bm I7;show wpAny_pure #[rfl,m',hm,i+1,ys,its,O,H7,some x,bare I7,a3,a4,a2,a1,r3,z3,w7]
   |true =>
    rw[WY rfl]at q7;show tp (tp (nK (b9 (he _ _ _ _ _ s7 _ H7 _ I7 q7) λy s8 b0=>?_)));let#[yv,H8,I8,r8,b8,n8]:=b0;let#[m',hm,w8]:=hN _ _ n8;let#[a1,a2,a3,a4]:=bm I8;let ci:=r3.length;show tp (QD F.slot_list_append #[_,a1,rfl] F.entry_list_append (F.args_list_append_2 _ _) (Vy s⁻¹ its.toArray O y (by rw[BY];omega)) #[a1,?_]);obtain⟨a6,q⟩:∃a6:Nat,(s8.heap.update s⁻¹ (Obj.mapSeq (·.push y))).get? s⁻¹=some { cls:=.type "list",data:=.seq (its++[y]).toArray a6 }:=by
     let q:=QZ a1 (·.push y);let ea:its.toArray.push y=(its++[y]).toArray:=(by simp);rw[ea]at q;show#[_,q]
    let I9:Inv (kU X (eS t caps) scope cl H2.objs.size s H fp) [] (gj caps σ (some x)) H8 { s8 with heap:=s8.heap.update s⁻¹ (Obj.mapSeq (·.push y)) }:=
     (bare I8).turned (t':=s8.toks) (λb o G e=>(Heap.get?_update_other _ _ (D0 G)).trans e) a2 ao (.inr (G0 _)) b4 (λp S=>absurd (show p∈([]:W7)from S) (by simp))
    show wpAny_pure (wpAny_pure #[rfl,m',hm,i+1,ys++[yv],its++[y],a6,H8,some x,I9,T.keep _ _ _ a3 λb G o e=>(Heap.get?_update_other _ _ (show s⁻¹≠b from λz=>bc (by rw[z];show G))).trans e,a4,a2,q,r3.append (.cons r8 .nil),?_,w8])
    .rw[Oj,Pu];show PySem.W.kdl_size b8
 show TV (be _ rfl) (T.self _ 0 _ _ _ a8 (be _ rfl))
theorem lF(K:ku X scope cl t caps)(hc:X.calm=true)(hi:PI X (.Name t px) iter wi)
  (ht:∀C s₀ H₀ ex,Jy (kU X (eS t caps) scope cl C s₀ H₀ ex) ifs tt) (z:∀C s₀ H₀ ex,PE (kU X (eS t caps) scope cl C s₀ H₀ ex) elt te)
  (hs:∀x,QO iter X.env x=pure x:=by intro _;rfl):PE X (.ListComp elt [#[.Name t px,iter,ifs,(0)]] scope pos) (Ky caps wi tt te):=by
 intros Q I h;rw[eval_ListComp];show Tf (use:=none) rfl hs K.Ki K.kind K.names (b9 (hi pins s σ H _ I h) λv s1 h1=>b9 h1 λam s2 h2=>?_);let#[it,fp,tn,J,H2,e,F,T,ab,f2,W,#[m0,G],R]:=h2;subst e;show xr (RR:=λU C=>compPost (model X.prog X.w) X.A X.xe none (EP X pins σ Q) U C) K hc ht z F T ab f2 G R ?_;intro D C ys H' s' m hD L hn hC q;show#[m,hn,λh' ac=>?_];let#[O,c1,c2,c3,c4,c5]:=hC;show#[.ref D,_,L.turned (t':=s'.toks) (λb o S e=>(ac.2 b S).trans e) O c1 c3 c4 c5,rfl,q D hD]
end
theorem yC{caps:List (Str×Nat)}{tt:TT}{te:TE}{σ:St}{H:Hp}{lo:Int}{n:Nat}{F:List V->Hp->Prop}(Pv:Nat->List V->Hp->Prop)(G:Pv 0 [] H)
  (hs:∀i ys H,i<n->Pv i ys H->tt (gj caps σ (some (.int (lo+i)))) H λb H2=>if b=true then te (gj caps σ (some (.int (lo+i)))) H2 (λy H3=>ys.length<sizeLine/\Pv (i+1) (ys++[y]) H3)else Pv (i+1) ys H2)
  (hd:∀ys H,Pv n ys H->F ys H):∃W:Nat->Nat->List V->Hp->Prop,(∃m,W 0 m [] H)/\ja caps tt te σ (EF lo n) F W:=by
 show#[λi m ys H=>m=n-i/\i<=n/\Pv i ys H,#[n,by simp,OJ _,G],?_];rintro i m ys H ⟨rfl,hi,p⟩;cases z:i<n
 .show .inr #[z,Pv (i+1),λJ H' I=>#[n-(i+1),Qi n i z,rfl,z,I],λx H' y=>?_];let#[e,y]:=y;subst e y;show hs i ys _ z p
 .let e:i=n:=af;subst e;show .inl #[G0 _,hd ys H p]
theorem Ee{K:Om}{a:Addr}{xs:List V}{caps:List (Str×Nat)}{tt:TT}{te:TE}{σ:St}{H:Hp}{F:List V->Hp->Prop}(Pv:Nat->List V->Hp->Prop)(G:Pv 0 [] H)(I:∀i ys H,i<=xs.length->Pv i ys H->bM K H a xs)
  (hs:∀i x ys H,xs[i]?=some x->Pv i ys H->tt (gj caps σ (some x)) H λb H2=>if b=true then te (gj caps σ (some x)) H2 (λy H3=>ys.length<sizeLine/\Pv (i+1) (ys++[y]) H3)else Pv (i+1) ys H2)
  (hd:∀ys H,Pv xs.length ys H->F ys H):∃W:Nat->Nat->List V->Hp->Prop,(∃m,W 0 m [] H)/\ja caps tt te σ (LF K a) F W:=by
 show#[λi m ys H=>m=xs.length-i/\i<=xs.length/\Pv i ys H,#[xs.length,by simp,OJ _,G],?_];rintro i m ys H ⟨rfl,hi,p⟩;let q:=I i ys H hi p;cases z:i<xs.length
 .show .inr #[#[xs,xs[i],q,by simp[z]],Pv (i+1),λL H' J=>#[xs.length-(i+1),Qi (Qz xs) i z,rfl,z,J],λx H' y=>?_];let#[e,y]:=y;subst e;show hs i x ys _ (y xs q) p
 .let e:i=xs.length:=af;subst e;show .inl #[#[xs,q,G0 _],hd ys H p]
theorem vg{caps:List (Str×Nat)}{te:TE}{σ:St}{H:Hp}{lo:Int}{n:Nat}{z:List V->Hp->Prop}(Pv:Nat->List V->Hp->Prop)(F:Pv 0 [] H)
  (hs:∀i ys H,i<n->Pv i ys H->te (gj caps σ (some (.int (lo+i)))) H (λy H3=>ys.length<sizeLine/\Pv (i+1) (ys++[y]) H3))
  (hd:∀ys H,Pv n ys H->z ys H):∃W:Nat->Nat->List V->Hp->Prop,(∃m,W 0 m [] H)/\ja caps vb te σ (EF lo n) z W :=
 yC Pv F (λi ys H hi p=>by
  change if true=true then _ else Pv (i+1) ys H
  rw[WY rfl];show hs i ys H hi p) hd
theorem Au{K:Om}{a:Addr}{xs:List V}{caps:List (Str×Nat)}{te:TE}{σ:St}{H:Hp}{z:List V->Hp->Prop}(Pv:Nat->List V->Hp->Prop)(F:Pv 0 [] H)(G:∀i ys H,i<=xs.length->Pv i ys H->bM K H a xs)
  (hs:∀i x ys H,xs[i]?=some x->Pv i ys H->te (gj caps σ (some x)) H (λy H3=>ys.length<sizeLine/\Pv (i+1) (ys++[y]) H3))
  (hd:∀ys H,Pv xs.length ys H->z ys H):∃W:Nat->Nat->List V->Hp->Prop,(∃m,W 0 m [] H)/\ja caps vb te σ (LF K a) z W :=
 Ee Pv F G (λi x ys H hi p=>by
  change if true=true then _ else Pv (i+1) ys H
  rw[WY rfl];show hs i x ys H hi p) hd
theorem eF:OO "list" = some (.type "list"):=ak
theorem qR:OO "tuple" = some (.type "tuple"):=ak
theorem BF:OO "int" = some (.type "int"):=ak
theorem Ff:OO "bool" = some (.type "bool"):=ak
theorem yW:OO "dict" = some (.type "dict"):=ak
theorem bE:OO "isinstance" = some (.builtin "isinstance"):=ak
theorem zS:OO "sorted" = some (.builtin "sorted"):=ak
section
variable{X:Cx}
inductive Co(x:V)(vs:List V)(H:Hp)(Q:VK):Prop
 |mk(l:Addr)(ns:List Int)(k:Int)(_:x=.ref l)(_:vs=[.int k])(_:H l=some (.lst (ns.map V.int)))(_:k∈ns)(_:Q (.int (ns.idxOf k:Nat)) H)
theorem CL:Gh X "list.index" Co:=by
 intros x vs v us Q I rx rv h;let#[l,G,k,rfl,rfl,S,U,q]:=h;cases rx;let#[u,rfl,R]:=rv.one;let#[t,rfl]:=R;let#[z,its,n,r,O,e]:=I.oG S;let hi:=intsAre_of r;let ac:=hi.length;rw[ti]at O z;let hs:=HC;let J:G.idxOf k<G.length:=Pz.mpr U;show QD Ts #[_,e,rfl] PySem.F.entry_list_index (PySem.F.args_list_index_2 _ _)
  (SeqAt.list_indexAt l its.toArray n none ([].toArray) (.int k t) (WM k) (G.idxOf k) (by simpa[ac]using J) af ?_ ?_) #[e,λy hy=>(eq_isInt k t hi y ‹hy›).at _ _,#[.int (G.idxOf k:Nat),H,I.tok _,#[0],q]]
 .change WM k its[G.idxOf k]=true;rw[V8 k hi _ (Qm J O) J];simpa using SH J
 .intro j ab L;change WM k its[j]=false;rw[V8 k hi j ‹ab› (Vb L J)];show ne_of_lt_idxOf L _
inductive Er(x:V)(vs:List V)(H:Hp)(Q:VK):Prop
 |mk(l:Addr)(ns:List Int)(k:Int)(_:x=.ref l)(_:vs=[.int k])(_:H l=some (.lst (ns.map V.int)))(_:Q (.int (ns.count k:Nat)) H)
theorem Cs:Gh X "list.count" Er:=by
 intros x vs v us Q I G O h;let#[l,L,k,rfl,rfl,F,q]:=h;cases G;let#[u,rfl,J]:=O.one;let#[t,rfl]:=J;let#[z,its,n,r,R,e]:=I.oG F;show count_list_ints (PySem.IsL.isList e) (intsAre_of r) #[.int (L.count k:Nat),H,I.tok _,#[0],q]
end
def kI:List V->List V->Bool
 | [],[]=>true
 |x::xs,y::ys=>pA x y&&kI xs ys
 |_,_=>false
theorem pR:∀{xs ys:List V},xs.length≠ys.length->kI xs ys=false
 | [],[],h=>absurd rfl h
 | [],_::_,_=>rfl
 |_::_,[],_=>rfl
 |x::xs,y::ys,h=>by
  let z:=pR (xs:=xs) (ys:=ys) λe=>h (by simp[e]);change(pA x y&&kI xs ys)=false;rw[z,Ut]
theorem ky:∀{xs ys:List V},xs.length=ys.length->(Rj xs.length).all (λj=>pA (xs.getD j .bB) (ys.getD j .bB))=kI xs ys
 | [],[],_=>rfl
 |x::xs,y::ys,h=>by
  let z:=ky (xs:=xs) (ys:=ys) ‹h›;rw[Oq,List.range_succ_eq_map,all_cons,WB];change(pA x y&&_)=(pA x y&&kI xs ys);rw[<-z];rfl
 | [],_::_,h=>by simp at h
 |_::_,[],h=>by simp at h
theorem Fx(a b:Int):pA (.int a) (.int b)=decide (a=b):=by
 change(a==b)=_;rw[Bool.beq_eq_decide_eq]
theorem rL:∀(xs ys:List Int),kI (xs.map V.int) (ys.map V.int)=decide (xs=ys)
 | [],[]=>rfl
 | [],_::_=>rfl
 |_::_,[]=>rfl
 |x::xs,y::ys=>by
  let z:=rL xs ys;change(pA (.int x) (.int y)&&kI (xs.map V.int) (ys.map V.int))=_;rw[z,Fx];cases h1:x=y
  .by_cases h2:xs=ys
   .simp[h1,h2]
   .simp[h1,h2]
  .simp[h1]
theorem fX(xs:List Int):(xs.map V.int).all gg=true:=by
 rw[WB];show PL.mpr λ_ _=>rfl
section
variable{X:Cx}
inductive Ll(K:Om)(x:V)(y:V)(H:Hp)(Q:VK):Prop
 |mk(p:_)(q:_)(xs:_)(ys:_)(_:x=.ref p)(_:y=.ref q)(_:bA K H p xs)(_:bA K H q ys)(_:xs.all gg=true)(_:ys.all gg=true)(_:Q (.bl (kI xs ys)) H)
theorem HE(U:X.A.units<Rr):mF X (Px .Eq) (Ll X.K):=by
 intros x y v u Q I rx ry h;let#[p,q,xs,ys,rfl,rfl,hx,hy,fx,fy,O]:=h;cases rx;cases ry;let#[its,r,pl,hz]:=I.list hx;let#[R,L,ab,ao]:=I.list hy;let J:=r.length;let S:=L.length;cases e:xs.length=ys.length
 .show SeqAt.eq_listAt (e:=λj=>pA (xs.getD j .bB) (ys.getD j .bB)) pl.isList ab.isList (by rw[BY,BY];omega) U (λj h1 h2=>?_) #[.bl (kI xs ys),H,I,?_,O]
  .let F:j<xs.length:=(by rw[BY]at h1;show Qm h1 (id (RW J)));let G:j<ys.length:=Qm h2 (id (RW S));let#[a,ea,ra]:=r.get (i:=j) (x:=xs[j]) (by simp[F]);let#[b,eb,rb]:=L.get (i:=j) (x:=ys[j]) (by simp[G]);let#[_,ac]:=sN.mp ea;let#[_,am]:=sN.mp eb;let g1:xs.getD j .bB=xs[j]:=(by simp[F]);let g2:ys.getD j .bB=ys[j]:=(by simp[G]);change TM _ _ its.toArray[j] R.toArray[j] (pA (xs.getD j .bB) (ys.getD j .bB));rw[g1,g2];let f1:gg xs[j]=true:=PL.mp fx _ (Qt F);let f2:gg ys[j]=true:=PL.mp fy _ (Qt G);let z:=uL (A:=X.A.in1) (s:=s) ra rb f1 f2;let a1:its.toArray[j]=a:=‹ac›;let a2:R.toArray[j]=b:=‹am›;rw[a1,a2];show z
  .change Value.bool _=Value.bool _;rw[BY, <-J,ky e]
 .show SeqAt.eq_list_lengthsAt pl.isList ab.isList ?_ U #[.bl (kI xs ys),H,I,?_,O]
  .rw[BY,BY, <-J, <-S];show bne_iff_ne.mpr e
  .change Value.bool _=Value.bool _;rw[pR e]
theorem vV:JL X (DB X.K):=by
 intros o i ov iv Q I R S h;let#[p,xs,k,z,rfl,rfl,hq,he,q]:=h;cases R;let#[t,rfl]:=S;let#[its,r,pl,hz]:=I.list hq;let#[j,h1,h2,h3,h4,O]:=uN he;let#[w,J,ab]:=r.get h2;let U:=r.length;let hn:=qo;let G:EP X pins σ Q w s:=#[z,H,I,ab,q];cases L:0<=k
 .let F:k.toNat=j:=by
   rw[SV L O]at h1;show DD h1
  show wpAny_getItem_list pl.isList L af (by rw[F];simpa using J) G
 .let F:(k+(its.toArray.size:Int)).toNat=j:=by
   rw[seqIndex_neg af h4]at h1;rw[BY, <-U];show DD h1
  show TL pl.isList af (by rw[BY]<;>omega) af (by rw[F];simpa using J) G
theorem fm:fq X (.builtin "isinstance") (λxs H Q=>∃x n t b,xs=[x,.ty n]/\mC X.K H x t/\Qj X.K t (.type n)=some b/\Q (.bl b) H):=by
 intros xs us Q I r h;let#[x,n,t,b,rfl,ty,e,q]:=h;let#[u,c,rfl,F,z]:=vals2 r;obtain rfl:c=Value.type n:=z;show zX I F ty e λtk=>#[.bl b,H,I.tok _,rfl,q]
theorem Je(K:Om):Qj K (.type "int") (.type "int")=some true:=rfl
theorem Iu(K:Om):Qj K (.type "list") (.type "list")=some true:=rfl
theorem Jq(K:Om):Qj K (.type "int") (.type "bool")=some false:=by with_unfolding_all rfl
end
theorem CO:OO "range" = some (.type "range"):=ak
section
variable{X:Cx}
end
end L2
namespace PySem.W
open PySem PySem.Spec PySem.Calls PyProof.Rows Builtin Builtin.ObjectAttr Builtin.Getset_descriptor
section
variable{prog:vu}{w:Oe}{A:Ov}{E:W8}{s:se}{K:Om}{x C:Addr}
theorem Gb{M:SS}{h:Heap}{v a g:Value}{name:Str}(X:K.In h)(I:OZ K (.ref C) name=some (some a))(J:Sn K a "__get__" = some (some g))(F:Uc K a=some true) :
  UG M h (find v (.ref C) name) (.bind g a):=by
 let z:=Sx (M:=M) X I;let L2:UG M h (getOf (some a)) (some g):=looks_specialIn X J;let G:=looks_takesIn (M:=M) X F;show z.andThen (L2.andThen ((show UG M h (dataDescriptor? (some a) (some g)) (some (g,a))from G.andThen .now).andThen (Looks.tag .now)))
theorem tJ{R:VS->se->Prop}{F:Value}(X:K.In s.heap)(J:UG (model prog w) s.heap (UQ (.ref x)) (.ref C))(z:Ud K C (.type "object")=some true)
  (h:R (.ok (.ret (.ref C))) s):QV (model prog w) A (.call (.builtin "getset_descriptor.__get__") #[[.builtin "object.__class__",.ref x,F],[]]) R s:=by
 let#[G,g,L,t,os]:=s;let I:=looks_mroIn (M:=model prog w) X z;show Sf KF.slot_gs.plain KF.entry_gs (KF.slot_gs.check _ _ _ _ _ _ _ _ KF.type_class (KF.args_gs _ _ _) ?_);unfold Builtin.«getset_descriptor.__get__» descrGet;rw[dga_obj];show tp (wpAny_pure ?_);unfold descrGetter descrCheckInstance descrNameAndClass isInstance;simp only[KF.owner_class]
 repeat lk
 show#[Code.quiet_builtin _ ak,codeAny_builtin KF.entry_class ?_];unfold Builtin.«object.__class__» shownTypeOf
 repeat lk
 show h
theorem Eh{tk:WQ}{Q:Fin->se->Prop}(X:K.In s.heap)(z:UG (model prog w) s.heap (UQ (.ref x)) (.ref C))(J:Ud K C (.type "object")=some true)
  (L:OZ K (.ref C) "__class__" = some (some (.builtin "object.__class__"))) (I:Sn K (.builtin "object.__class__") "__get__" = some (some (.builtin "getset_descriptor.__get__"))) (F:Uc K (.builtin "object.__class__")=some true)
  (h:Q (.done (.ret (.ref C))) s):wpAny (model prog w) A (Builtin.«object.__getattribute__» #[[.ref x,.str "__class__" tk],[]]) Q E s:=by
 let#[O,g,R,t,os]:=s;let G:=Gb (M:=model prog w) (v:=.ref x) X L I F;show tp (wpAny_pure (tp (wpAny_pure (tp (z.at (tp (G.at ?_)))))));change wpAny _ _ (Rp [.builtin "object.__class__"] (call (.builtin "getset_descriptor.__get__") [.builtin "object.__class__",.ref x,.ref C])>>=ret) _ _ _;show tp (P5 (RK (tJ X z J (wpAny_pure h))))
theorem AN(self:Value):bindSpecial (.builtin "BaseException.__getattribute__") self=pure (.builtin "BaseException.__getattribute__",[self]):=F.excAttr_ValueError.ga.bind self
theorem yF{M:SS}{Q:Unit->se->Prop}(X:K.In s.heap)(R:UG M s.heap (UQ (.ref x)) (.ref C))(J:Ud K C (.type "BaseException")=some true)(b:Value)
  (G:Q () s):wpAny M A (Vp "BaseException.__getattribute__" #[[.ref x,b],[]]) Q E s:=by
 let#[L,g,S,t,os]:=s;let O:=looks_mroIn (M:=M) X J;let I:builtinKind "BaseException.__getattribute__" = some .slot:=ak;let z:splitId "BaseException.__getattribute__" = some ("BaseException","__getattribute__"):=ak;let U:=F.args_bexc_ga (.ref x) b;simp only[Vp,I,z];unfold isInstance
 repeat lk
 show G
theorem wR{tk:WQ}{Q:W8}(X:K.In s.heap)(z:UG (model prog w) s.heap (UQ (.ref x)) (.ref C))(O:Ud K C (.type "object")=some true)(J:Ud K C (.type "BaseException")=some true)
  (I:OZ K (.ref C) "__getattribute__" = some (some (.builtin "BaseException.__getattribute__"))) (R:OZ K (.ref C) "__getattr__" = some none)
  (U:OZ K (.ref C) "__class__" = some (some (.builtin "object.__class__"))) (S:Sn K (.builtin "object.__class__") "__get__" = some (some (.builtin "getset_descriptor.__get__"))) (L:Uc K (.builtin "object.__class__")=some true)
  (h:Q (.ref C) s):wpAny (model prog w) A (getAttrBy (.ref x) (.str "__class__" tk) false) Q E s:=by
 let#[hh,g,dr,t,os]:=s;let G:=Sx (M:=model prog w) X I;let L2:=Sx (M:=model prog w) X R;unfold getAttrBy;show P5 (tp (z.at (tp (G.at ?_))));change wpAny _ _ (getAttrByItsOwn _ _ _ _ _ _) _ _ _;unfold getAttrByItsOwn;show tp (show wpAny _ _ (VW (.ref C) "__getattr__") _ _ _ from L2.at (tp (RV (P5 ?_))));change wpAny _ _ (boundAndCalled _ _ _) _ _ _;unfold boundAndCalled;rw[AN];show tp (wpAny_pure ?_);change wpAny _ _ (call (.builtin "BaseException.__getattribute__") [.ref x,.str "__class__" tk]) _ _ _;show RK (Sf F.excAttr_ValueError.ga.plain F.entry_bexc_ga (yF X z J _ (Eh X z O U S L ?_)));show wpAny_pure h
theorem Es{Q:Option Value->se->Prop}(X:K.In s.heap)(J:UG (model prog w) s.heap (UQ (.ref x)) (.ref C))(F:Ud K C (.type "object")=some true)(R:Ud K C (.type "BaseException")=some true)
  (I:OZ K (.ref C) "__getattribute__" = some (some (.builtin "BaseException.__getattribute__"))) (G:OZ K (.ref C) "__getattr__" = some none)
  (O:OZ K (.ref C) "__class__" = some (some (.builtin "object.__class__"))) (L:Sn K (.builtin "object.__class__") "__get__" = some (some (.builtin "getset_descriptor.__get__"))) (z:Uc K (.builtin "object.__class__")=some true)
  (h:Q (some (.ref C)) { s with toks:=s.toks+1 }):wpAny (model prog w) A (getAttr? (.ref x) "__class__") Q E s:=by
 unfold getAttr? getAttrBy?;show tp (wpAny_mkText (tp (RV (wR (s:={ s with toks:=s.toks+1 }) X J F R I G O L z (wpAny_pure h)))))
end
structure Ad(K:Om)(C:Addr):Prop where
 ob:Ud K C (.type "object")=some true
 be:Ud K C (.type "BaseException")=some true
 ga:OZ K (.ref C) "__getattribute__" = some (some (.builtin "BaseException.__getattribute__"))
 gb:OZ K (.ref C) "__getattr__" = some none
 cc:OZ K (.ref C) "__class__" = some (some (.builtin "object.__class__"))
 cg:Sn K (.builtin "object.__class__") "__get__" = some (some (.builtin "getset_descriptor.__get__"))
 ct:Uc K (.builtin "object.__class__")=some true
theorem Ad.cl{K:Om}{C:Addr}(c:Ad K C):(clsIn K C).isSome=true:=by
 let#[cd,h,_]:=Option.bind_eq_some_iff.mp c.ob;rw[h];rfl
theorem Br{K:Om}{x C:Addr}(c:Ad K C):KitX K (.ref x) (.ref C) (λh=>∃o,h.get? x=some o/\o.cls=.ref C) where
 ty:=λM h _ ⟨o,h1,h2⟩=>h2▸(VF h1).andThen .now
 it:=λ_ _ X _=>by
  let#[O,F]:=Qv.mp c.cl;unfold clsIn at F
  set_option tactic.hygienic true in split at F
  .rename_i c' d' I J G;intro A' S U s' k q;unfold isType loadHead;show tp (wpAny_loadPart (k _ _ (X _ _ G)) (wpAny_pure q))
  .cases F
 ne:=λh R dd its n sl X L=>by
  let#[O,F]:=Qv.mp c.cl;show Bool.eq_false_iff.mpr λq=>?_;let e:C=R:=Value.ref.inj (beq_iff_eq.mp q);subst e;unfold clsIn at F
  set_option tactic.hygienic true in split at F
  .rename_i c' d' I J G;let z:=(X _ _ G).symm.trans L;cases z
  .cases F
 ca:=λX ⟨o,h1,h2⟩ k=>Es X (h2▸(VF h1).andThen .now) c.ob c.be c.ga c.gb c.cc c.cg c.ct k
end PySem.W
namespace L2
open PySem PySem.Spec PyProof.Rows PySem.W
def C2(e:Addr)(h:Heap):Prop:=∃o vs,h.get? e=some o/\o.data=.fields vs/\vs[2]?=some .none
def Nk(f:Obj->Obj):Prop:=∀o vs,o.data=.fields vs->vs[2]?=some .none->∃z,(f o).data=.fields z/\z[2]?=some .none
inductive Pl{α:Type}:Sem α->Prop
 |pure(a:α):Pl (.pure a)
 |raise(e:Value):Pl (.raise e)
 |unsupported(x:String):Pl (.unsupported x)
 |finish(x:Ending):Pl (.finish x)
 |rule(tag:String)(k:Unit->Sem α)(h:∀u,Pl (k u)):Pl (.rule tag k)
 |at_(p:Q5)(k:Unit->Sem α)(h:∀u,Pl (k u)):Pl (.at p k)
 |load(a:Addr)(part:Xd)(k:Obj->Sem α)(h:∀o,Pl (k o)):Pl (.load a part k)
 |update(a:Addr)(part:Xd)(f:Obj->Obj)(k:Unit->Sem α)(hf:Nk f)(h:∀u,Pl (k u)):Pl (.update a part f k)
 |alloc(o:Obj)(k:Addr->Sem α)(h:∀a,Pl (k a)):Pl (.alloc o k)
 |loadIfAlive(a:Addr)(k:Option Obj->Sem α)(h:∀o,Pl (k o)):Pl (.loadIfAlive a k)
 |point(l:Xc)(k:Unit->Sem α)(h:∀u,Pl (k u)):Pl (.point l k)
 |register(a:Addr)(k:Unit->Sem α):Pl (.register a k)
 |fresh(k:WQ->Sem α)(h:∀t,Pl (k t)):Pl (.fresh k)
 |ask(k:Setting->Sem α)(h:∀t,Pl (k t)):Pl (.ask k)
 |handled(own:Bool)(k:Option Value->Sem α)(h:∀t,Pl (k t)):Pl (.handled own k)
 |stack(k:List (Code×Q5)->Sem α)(h:∀t,Pl (k t)):Pl (.stack k)
theorem Pl.bind{α G:Type}{t:Sem α}{k:α->Sem G}(h:Pl t)(I:∀a,Pl (k a)):Pl (t>>=k):=by
 change Pl (Sem.bind t k)
 induction h with
 |pure a=>show I a
 |raise e=>show .raise e
 |unsupported x=>show .unsupported x
 |finish x=>show .finish x
 |rule J k' _ z=>show .rule _ _ z
 |at_ p k' _ z=>show .at_ _ _ z
 |load a part k' _ z=>show .load _ _ _ z
 |update a part f k' F _ z=>show .update _ _ _ _ F z
 |alloc o k' _ z=>show .alloc _ _ z
 |loadIfAlive a k' _ z=>show .loadIfAlive _ _ z
 |point l k' _ z=>show .point _ _ z
 |register a k'=>show .register _ _
 |fresh k' _ z=>show .fresh _ z
 |ask k' _ z=>show .ask _ z
 |handled own k' _ z=>show .handled _ _ z
 |stack k' _ z=>show .stack _ z
theorem C2.push{e:Addr}{h:Heap}{o:Obj}(c:C2 e h):C2 e (h.push o):=let ⟨x,vs,h1,h2⟩:=c;#[x,vs,Heap.get?_push_of_some _ h1,h2]
theorem C2.update{e a:Addr}{h:Heap}{f:Obj->Obj}(c:C2 e h)(G:Nk f):C2 e (h.update a f):=by
 let#[x,vs,h1,h2,F]:=c;cases q:a=e
 .subst q;let#[I,z,J]:=G x vs h2 F;show#[f x,I,Heap.get?_update_self _ h1 (Obj.isFreed_of_fields z),z,J]
 .show#[x,vs,(Heap.get?_update_other _ _ q).trans h1,h2,F]
theorem Pl.wp{α:Type}{M:SS}{F:PySem.Ctx}{t:Sem α}{e:Addr}{Q:α->Q5->se->Prop}{E:Value->Q5->se->Prop}(h:Pl t):∀(p:Q5)(s:se),Sem.wp M F t Q E p s->C2 e s.heap ->
  Sem.wp M F t (λa p s=>Q a p s/\C2 e s.heap) (λx p s=>E x p s/\C2 e s.heap) p s:=by
 induction h with
 |pure a=>intro p s q c;rw[Sem.wp]at q ⊢;show#[q,c]
 |raise e=>intro p s q c;rw[Sem.wp]at q ⊢;show#[q,c]
 |unsupported x=>intro p s q c;rw[Sem.wp]at q;show q.elim
 |finish x=>intro p s q c;rw[Sem.wp]at q;show q.elim
 |rule L k _ z=>intro p s q c;rw[Sem.wp]at q ⊢;show z () p s q c
 |at_ J k _ z=>intro p s q c;rw[Sem.wp]at q ⊢;show z () J s q c
 |load a part k _ z=>intro p s q c;rw[Sem.wp]at q ⊢;let#[o,I,q]:=q;show#[o,I,z o p s q c]
 |update a part f k G _ z=>intro p s q c;rw[Sem.wp]at q ⊢;show#[q.1,z () p _ q.2 (c.update G)]
 |alloc o k _ z=>intro p s q c;rw[Sem.wp]at q ⊢;show z _ p _ q c.push
 |loadIfAlive a k _ z=>intro p s q c;rw[Sem.wp]at q ⊢;show z _ p s q c
 |point l k _ z=>intro p s q c;rw[Sem.wp]at q ⊢;show z () p s q c
 |register a k=>intro p s q c;rw[Sem.wp]at q;show q.elim
 |fresh k _ z=>intro p s q c;rw[Sem.wp]at q ⊢;show z _ p _ q c
 |ask k _ z=>intro p s q c;rw[Sem.wp]at q ⊢;show z _ p s q c
 |handled own k _ z=>intro p s q c;rw[Sem.wp]at q ⊢;show z _ p s q c
 |stack k _ z=>intro p s q c;rw[Sem.wp]at q ⊢;show z _ p s q c
theorem Pl.any{α:Type}{M:SS}{A:Ov}{t:Sem α}{e:Addr}{Q:α->se->Prop}{E:W8}{s:se}(h:Pl t)(q:wpAny M A t Q E s)(c:C2 e s.heap):wpAny M A t (λa s=>Q a s/\C2 e s.heap) (λx s=>E x s/\C2 e s.heap) s :=
 λz p F=>h.wp p s (q z p F) c
theorem IE{i:Nat}{v:Value}(h:i≠2):Nk (Obj.mapFields (·.setIfInBounds i v)):=λo vs hd h2=>#[_,Obj.data_mapFields hd _,by rw[Array.getElem?_setIfInBounds_ne h];show h2]
theorem uM(a:Addr):Pl (load a):=.load _ _ _ λo=>.pure o
theorem Ba(v:Value):Pl (fieldsOf v):=by
 unfold fieldsOf;split
 .show Pl.bind (uM _) λo=>?_;split
  .show .pure _
  .show .unsupported _
 .show .unsupported _
theorem lQ(v:Value)(i:Nat):Pl (Wu v i):=by
 unfold Wu;show Pl.bind (Ba v) λvs=>?_;split
 .show .pure _
 .show .unsupported _
theorem jI(v:Value)(i:Nat)(x:Value)(h:i≠2):Pl (setField v i x):=by
 unfold setField;split
 .unfold updateField;show Pl.bind (uM _) λo=>?_;split
  .split
   .show .update _ _ _ _ (IE h) λu=>.pure u
   .show .unsupported _
  .show .unsupported _
 .show .unsupported _
theorem qG:Pl stack:=.stack _ λl=>.pure l
theorem tV(ty:String)(vs:Xc):Pl (newFields ty vs):=by
 let z:Pl (newObjAsIs (Value.type ty) (Data.fields vs.toArray)):=Pl.bind (.alloc _ _ λa=>.pure a) λa=>.pure _;unfold newFields newObj;dsimp only;split
 .show Pl.bind (.unsupported _) λ_=>z
 .show z
theorem F0:Pl frameEnvs:=by
 unfold frameEnvs;show Pl.bind qG λl=>.pure _
theorem Bc(env:SN)(outer:List SN):Pl (behindIsImport env outer):=by
 unfold behindIsImport;split
 .show .pure _
 .split
  .show .pure _
  .show Pl.bind (lQ _ _) λ_=>.pure _
theorem Bt:Pl Ux:=by
 unfold Ux;show Pl.bind qG λ_=>.pure _
theorem FH(env:SN)(i:Bool)(l:List SN):Pl (keptBack env i l):=by
 unfold keptBack;split
 .split
  .show .pure _
  .show Pl.bind Bt λ_=>.pure _
 .show .pure _
theorem vi:∀l:List SN,Pl (readyFrames l)
 | []=>.pure _
 |env::outer=>by
  unfold readyFrames;split
  .show Pl.bind (uM _) λo=>?_;split
   .show .pure _
   .show Pl.bind (Bc _ _) λi=>Pl.bind (FH _ _ _) λb=>Pl.bind (.update _ _ _ _ (λo vs h1 h2=>#[vs,h1,h2]) λu=>.pure u) λ_=>vi outer
  .show .unsupported _
theorem pN(l:List SN):Pl (frameObject l):=by
 cases l with
 |nil=>show .pure _
 |cons env outer =>
  unfold frameObject;show Pl.bind (vi _) λ_=>.pure _
theorem yu(env:SN):Pl (UN env):=by
 unfold UN;show Pl.bind F0 λl=>Pl.bind (pN _) λo=>?_;split
 .show .pure _
 .show .unsupported _
theorem Bh(f:Addr)(b:Bool):Pl (Vg f b):=by
 unfold Vg;show Pl.bind qG λl=>?_;split
 .show .pure _
 .show .pure _
theorem nA(v:Value)(f:Xe):Pl (setFlight v f):=by
 unfold setFlight;show Pl.bind (lQ _ _) λtb=>?_;split
 .show jI _ _ _ aq
 .show .pure _
theorem zI(v:Value)(env:SN):Pl (noteFrame v env):=by
 unfold noteFrame;split
 .show Pl.bind (lQ _ _) λhd=>?_;let rest:∀f:Addr,Pl (do
    let a <-UN env
    let pl <-Vg f (hd != .none)
    let b <-EntryCells.newEntry hd a .none (Vl f) .none pl
    setField v 1 b):=λf=>Pl.bind (yu _) λa=>Pl.bind (Bh _ _) λq=>Pl.bind (tV _ _) λb=>jI _ _ _ aq
  split
  .show Pl.bind (lQ _ _) λx=>?_;split
   .show .pure _
   .show Pl.bind (jI _ _ _ aq) λ_=>rest _
  .show rest _
 .show .unsupported _
theorem yh(env:SN)(v:Value):Pl (leaving env v):=by
 unfold leaving;show Pl.bind (zI _ _) λ_=>nA _ _
def vz(B:Heap)(l:List SN)(e:Addr)(cls F:Value)(h:Heap):Prop :=
 B.StaysIn h/\B.get? e=none/\h.FunFrames B l/\∃z vs,h.get? e=some z/\z.cls=cls/\z.data=.fields vs/\vs[0]?=some F/\vs[1]?=some .none
def Bj(X:Cx)(pins:W7)(σ:St)(H:Hp)(B:Heap)(s:se):Prop :=
 ∀(h':Heap)(tk:Nat),B.StaysIn h'->s.heap.UpToSlots h'->~~~H { s with heap:=h',toks:=tk }
structure Eu(X:Cx)(pins:W7)(H:Hp)(e:Addr):Prop where
 old:X.s₀.heap.get? e=none
 loc:e≠X.env.locals
 fs:e∉X.fs
 cell:∀x c,X.env.cells.lookup x=some c->c≠e
 pin:∀p∈X.pn++pins,p.1≠e
 free:H e=none
abbrev XR:=St->Value->Hp->Prop
def XP(X:Cx)(pins:W7)(R:XR)(x:Value)(s':se):Prop :=
 ∃(e:Addr)(cls z:Value)(B:Heap)(σ:St)(H:Hp),x=.ref e/\(vz B X.stack e cls z s'.heap\/Heap.FlyingW B X.stack e cls z s'.heap\/∃L,X.env.frame=some L/\Heap.HeldW B X.stack e cls z L s'.heap)/\C2 e s'.heap/\Bj X pins σ H B s'/\Eu X pins H e/\R σ cls H
def cI(P:vu)(w:Oe):rk:=λouter H s E x s' =>
 ∃(e:Addr)(cls z:Value)(B:Heap)(H':Hp),x=.ref e/\s'.os=s.os/\Sm s'.gens/\s.heap.get? e=none/\H' e=none/\Heap.FlyingW B outer e cls z s'.heap/\C2 e s'.heap /\
  (∀h',B.StaysIn h'->s'.heap.UpToSlots h'->Un (q8 outer) [] H H' s.heap h'/\kq P w H' h')/\E cls none H'
theorem Ke{P:vu}{w:Oe}{X:Cx}:Passes (cI P w) X E0:=λ_ _ _ _ _ _ _ ⟨_,_,_,_,_,_,_,_,_,_,_,_,_,h⟩=>h.elim
theorem aG.cx{P:vu}{w:Oe}{K:Om}{mg:W9}{base:Heap}{k:Nat}{f:Addr}{fd:t7}{ps:List Str}{sp:Sp}(F:↥aG k f fd ps sp) :
  ⇑aG k f fd ps sp:=#[F.len,λA outer s H args us vs Q E G z J r h=>QW (F.run A outer s H args us vs Q E G z J r h) λr s' q=>by
   cases r with
   |error e=>show OS q
   |ok I=>cases I<;>show q]
section
variable{X:Cx}{pins:W7}{σ:St}{H H':Hp}{s s':se}
theorem Inv.Gj(I: ~~~H s)(hex:X.ex=[]){e:Addr}(h:s.heap.get? e=none)(J:H' e=none):Eu X pins H' e:=by
 let G:X.s₀.heap.get? e=none:=by
  cases q:X.s₀.heap.get? e with
  |none=>rfl
  |some o =>
   let#[o',z]:=I.base.there e o q (by rw[hex];simp);rwa[h]at z
 show#[G,λz=>?_,λz=>?_,λx c q z=>?_,λp L z=>?_,J]
 .let#[m,#[o,_,_,F,_],_]:=I.loc;rwa[<-z,h]at F
 .let#[_,o,F,_]:=I.ok.km.mem z;rwa[G]at F
 .let#[v,o,F,_]:=I.cell x c q;rwa[z,h]at F
 .have:=(I.pin p L).1;rwa[z,h]at this
theorem Inv.comes{E:XK}{x:Value}(I: ~~~H s)(hex:X.ex=[])(h:cI X.prog X.w X.stack H s E x s'):XP X pins (λL cls H'=>L=σ/\E cls none H') x s':=by
 let#[e,cls,G,B,H',rfl,os,bare,new,free,J,F,keep,q]:=h;show#[e,cls,G,B,σ,H',rfl,.inr (.inl J),F,λh' tk k u=>?_,I.Gj hex new free,rfl,q];let#[un,O]:=keep h' k u;show I.zE (s':={ s' with heap:=h',toks:=tk }) (ch:=[]) os un O bare (λb z=>absurd z (by simp))
theorem XP.imp{R z:XR}{x:Value}(h:XP X pins R x s')(J:∀σ cls H,R σ cls H->z σ cls H):XP X pins z x s':=by
 let#[e,cls,L,B,σ,H,I,G,F,O,S,q]:=h;show#[e,cls,L,B,σ,H,I,G,F,O,S,J _ _ _ q]
theorem Bj.now{B:Heap}(b:Bj X pins σ H B s)(k:B.StaysIn s.heap): ~~~H s:=b s.heap s.toks k (Heap.UpToSlots.refl _)
end
abbrev Ed:=St->Hp->VK->(Value->Hp->Prop)->Prop
abbrev pJ:=Ends->XR->St->Hp->Prop
def EG(X:Cx)(e:OE)(t:Ed):Prop :=
 ∀(pins:W7)(s:se)(σ:St)(H:Hp)(Q:VK)(R:Value->Hp->Prop),~~~H s->t σ H Q R ->
  ↑(eval e X.env) (EP X pins σ Q) (XP X pins λz cls H'=>z=σ/\R cls H') s
def BZ(X:Cx)(st:OB)(t:pJ):Prop :=
 ∀(pins:W7)(s:se)(σ:St)(H:Hp)(D:Ends)(R:XR),~~~H s->t D R σ H->↑(exec st X.env) (SP X pins D) (XP X pins R) s
def oH(X:Cx)(st:List OB)(t:pJ):Prop :=
 ∀(pins:W7)(s:se)(σ:St)(H:Hp)(D:Ends)(R:XR),~~~H s->t D R σ H->↑(execs st X.env) (SP X pins D) (XP X pins R) s
section
variable{X:Cx}{e:OE}{te:TE}{tx:Ed}{t:TS}{ts us:pJ}{st:OB}{sts rest:List OB}{pos:Q5}
theorem dP(h:PS X.nK st t):BZ X st (λD _ σ H=>t D σ H):=λpins s σ H D R I q =>
 OL (h pins s σ H D (I.gR _) q) (λ_ _ z=>z.cu) λ_ _ z=>z.elim
theorem iS(h:uZ X.nK sts t):oH X sts (λD _ σ H=>t D σ H):=λpins s σ H D R I q =>
 OL (h pins s σ H D (I.gR _) q) (λ_ _ z=>z.cu) λ_ _ z=>z.elim
def zM(t u:pJ):pJ:=λD R σ H=>t { D with nx:=u D R } R σ H
theorem ax(h1:BZ X st ts)(h2:oH X rest us):oH X (st::rest) (zM ts us):=by
 intros D R I h;show RF (b9 (h1 pins s σ H _ R I h) λf J z=>?_);cases f with
 |next =>
  let#[G,H',F,q]:=z;show h2 pins J G H' D R F q
 |brk=>show z
 |cont=>show z
 |ret u=>show z
theorem bt(h1:BZ X st ts):oH X [st] ts:=by
 intros D R I h;show RF (b9 (h1 pins s σ H D R I h) λf z q=>?_);cases f with
 |next=>show Qa q
 |ret v=>show q
 |brk=>show q
 |cont=>show q
def Cm:pJ:=λD _ σ H=>D.nx σ H
theorem bN:oH X [] Cm:=λ_ _ σ H _ _ I h=>Qa #[σ,H,I,h]
theorem nx{α:Type}{M:SS}{A:Ov}{F:Sem α}{Q G:α->se->Prop}{E:W8}{s:se}(h:wpAny M A F Q (λ_ _=>False) s)(I:∀a s,Q a s->G a s):wpAny M A F G E s :=
 OL h I λ_ _ z=>z.elim
def Ds(te:Ed):pJ:=λD R σ H=>te σ H (λ_ H1=>D.nx σ H1) (R σ)
theorem XP.at{pins:W7}{σ:St}{R:XR}{x:Value}{s':se}(h:XP X pins (λz cls H'=>z=σ/\R σ cls H') x s'):XP X pins R x s':=h.imp λ_ _ _ ⟨e,q⟩=>e▸q
theorem dG(F:EG X e tx)(hs:RG e none pos.line X.env=pure false:=by rfl):BZ X (.Expr e pos) (Ds tx):=by
 intros D R I h;show wpAny_Expr_any (OL (F pins s σ H _ _ I h) (λv O ⟨x,H1,J,L,G⟩=>#[σ,H1,J,G]) λ_ _ z=>z.at) I.quiet hs
def Kj(te:Ed):pJ:=λD R σ H=>te σ H D.rt (R σ)
theorem dU(F:EG X e tx):BZ X (.Return (some e) pos) (Kj tx):=by
 intros D R I h;show U0 (OL (F pins s σ H _ _ I h) (λv O ⟨x,H1,J,G,L⟩=>#[x,σ,H1,J,G,L]) λ_ _ z=>z.at)
def CV(te:Ed)(i:Nat):pJ:=λD R σ H=>te σ H (λv H1=>D.nx (σ.set i (some v)) H1) (R σ)
theorem FQ{i:Nat}{x:Str}{pos':Q5}(L:X.N.Nodup)(hi:X.N[i]?=some x)(hx:Loc X.env.scope x)(F:EG X e tx)(hs:RG e (some (.Name x pos')) pos.line X.env=pure false:=by rfl)(G:X.fn x=true\/X.env.scope.names.lookup x=some .local:=by first|show .inl rfl|show .inr rfl|assumption) :
  BZ X (.Assign [.Name x pos'] e pos) (CV tx i):=by
 intros D R I h;show U3 (OL (F pins s σ H _ _ I h) (λv s1 ⟨y,H1,U,S,O⟩=>?_) λ_ _ z=>z.at) hs;show gc U L hi hx S (λs2 J=>#[_,H1,J,O]) G
theorem rh(i:Nat){x:Str}{pos':Q5}(G:X.N.Nodup)(z:EG X e tx)(hi:X.N[i]?=some x:=by rfl)(hx:Loc X.env.scope x:=by first|show .inl rfl|show .inr rfl)(hs:RG e (some (.Name x pos')) pos.line X.env=pure false:=by rfl)(F:X.fn x=true\/X.env.scope.names.lookup x=some .local:=by first|show .inl rfl|show .inr rfl|assumption):BZ X (.Assign [.Name x pos'] e pos) (CV tx i):=FQ G hi hx z hs F
def Kl(c:TT)(t u:pJ):pJ:=λD R σ H=>c σ H λb H1=>if b=true then t D R σ H1 else u D R σ H1
theorem cG{c:OE}{a b:List OB}{tc:TT}(J:PT X.nK c tc)(L:oH X a ts)(O:oH X b us):BZ X (.If c a b pos) (Kl tc ts us):=by
 intros D R I h;show wpAny_If (nx (J pins s σ H _ (I.gR _) h) λd G ⟨H1,F,z⟩=>?_);cases d with
 |true=>show L pins G σ H1 D R F.cu z
 |false=>show O pins G σ H1 D R F.cu z
variable{k:Nat}{f C:Addr}{fd:t7}{ps:List Str}{sp:Sp}{dvs:List V}{ds:Xc}{x m:Str}{p apos:Q5}{o:OE}{es:List OE}{ta:TE}{t:TA}
theorem zK{pins:W7}{σ:St}{H:Hp}{s:se}{Q:VK}{R:Value->Hp->Prop}{us:Xc}{vs:List V}(F:aG X.prog X.w X.K X.mg X.base (cI X.prog X.w) k f fd ps sp)(J:bp k X.A)(U:Binds X.K fd ps ds)(hd:Vals dvs ds)(hex:X.ex=[])
  (I: ~~~H s) (r:Vals vs us) (h:sp (vs++dvs) H Q λcls _ H'=>R cls H'):↑(call (.ref f) us) (EP X pins σ Q) (XP X pins λS cls H'=>S=σ/\R cls H') s:=by
 let G:Vals (vs++dvs) (us++ds):=r.append hd;let L:(us++ds).length=ps.length:=(by rw[<-G.length];show F.len _ _ _ _ h);show RK (QW (F.run X.A X.stack s H #[us,[]] (us++ds) (vs++dvs) Q _ J I.ET (U s us I.kh L) G h) λr s' z=>?_);cases r with
 |error e=>show I.comes (E:=λcls _ H'=>R cls H') hex (show cI X.prog X.w X.stack H s (λcls _ H'=>R cls H') e s' from z)
 |ok O =>
  cases O with
  |ret u=>show I.after z
  |next=>show OS z
  |brk=>show OS z
  |cont=>show OS z
def Cw(sp:Sp)(dvs:List V)(t:TA):Ed:=λσ H Q R=>t σ H λvs H1=>sp (vs++dvs) H1 Q λcls _ H'=>R cls H'
def Hn(C:Addr)(m:Str)(sp:Sp)(dvs:List V)(ta:TE)(t:TA):Ed:=λσ H Q R=>ta σ H λx H1=>∃a dx fs,x=.ref a/\H1 a=some (.ins C dx fs)/\fs.lookup m=none /\
 t σ H1 λvs H2=>sp (x::(vs++dvs)) H2 Q λcls _ H'=>R cls H'
theorem cy(F:aG X.prog X.w X.K X.mg X.base (cI X.prog X.w) k f fd ps sp)(O:bp k X.A)(hex:X.ex=[])(hg:Gl X x)(J:X.mg x=some (.ref f))(L:Sy X.K (.ref f)=true)(hb:Binds X.K fd ps ds)(hd:Vals dvs ds)
  (U:PA X.nK (e::es) t) (S:(x==("__debug__" : Str))=false:=by decide) (G:starEach (e::es) X.env=(false,eval e X.env)::starEach es X.env:=by rfl) (ab:(backTo pos (starEach es X.env)).any (·.1)=false:=by rfl) :
  EG X (.Call (.Name x p) (e::es) [] pos) (Cw sp dvs t):=by
 intros Q R I h;show PZ (gZ I hg J ?_ S);show RL (h₀:=X.base) I.ok.mod.CH L (nx (U pos pins s σ H _ (I.gR _) h) λus s1 ⟨vs,H1,z,r,q⟩=>#[z.cu.kh,?_]) G ab;show zK F O hb hd hex z.cu r q
theorem cO{pl:Sem Bool}(L:PE X.nK o ta)(c:oE X.K C)(J:Meth X.K C m f)(F:aG X.prog X.w X.K X.mg X.base (cI X.prog X.w) k f fd ps sp)(hr:bp k X.A)(hex:X.ex=[])(S:Binds X.K fd ps ds)(hd:Vals dvs ds)(ha:PA X.nK (e::es) t)
  (U:starEach (e::es) X.env=(false,eval e X.env)::starEach es X.env:=by rfl) (ab:(backTo pos (starEach es X.env)).any (·.1)=false:=by rfl)
  (ht:eval (.Call (.Attribute o m apos) (e::es) [] pos) X.env=(do
   let ov <-eval o X.env
   TB apos.atName
   let (f,first) <-Rp [ov] (RH ov m pl)
   Uo pos f first (backTo pos (starEach (e::es) X.env)) (Sa pos (Qy [] X.env))):=by rfl) :
  EG X (.Call (.Attribute o m apos) (e::es) [] pos) (Hn C m sp dvs ta t):=by
 intros Q R I h;show Te (pl:=pl) (nx (L pins s σ H _ (I.gR _) h) λu O ⟨x,H1,G,rx,a,dx,fs,ex,ea,l,q⟩=>?_) ht;subst ex;obtain rfl:u=Value.ref a:=rx;show iI G.cu ea c J l ?_;show RL (first:=[.ref a]) (h₀:=X.base) I.ok.mod.CH J.kp (nx (ha pos pins O σ H1 _ G q) λus s2 ⟨vs,H2,z,r,q2⟩=>#[z.cu.kh,?_]) U ab;show zK (us:=.ref a::us) (vs:=.ref a::vs) F hr S hd hex z.cu (.cons rfl r) q2
end
def CU:List Value:=[.type "ValueError",.type "Exception",.type "BaseException",.type "object"]
theorem F3{K:Om}{h:Heap}{C:Addr}{L:Xc}{F:String}(X:K.In h)(q:excIn K C L F=true) :
  ∃bm N nm q bs hdct sn sub ab col dd k0 k1 k2 k3 k5 mN,h.get? C=some (excClassObj nm q C N bs bm hdct sn sub ab col dd k0 k1 k2 k3 k5 F)/\h.Ns N mN/\mN "__init__" = none/\OwnTail h L bm:=by
 unfold excIn at q
 set_option tactic.hygienic true in split at q
 .rename_i dd cd sl ho
  set_option tactic.hygienic true in split at q
  .rename_i C' bm k0 k1 k2 k3 n k5 I hs;simp only[Tj,beq_iff_eq,Bool.not_eq_true']at q;let#[#[#[#[#[rfl,rfl],J],U],z],G]:=q;let#[nm,bs,ac,R,S,hd,sn,sub,ab,col,del]:=cd;dsimp only at I J z G;subst I J;let O:sl = ([k0,k1,k2,k3,some (.builtin n),k5].toArray):=by
    let#[l]:=sl;simp only at hs;rw[hs]
   subst O;show#[bm,R,nm,S,bs,hd,sn,sub,ab,col,dd,k0,k1,k2,k3,k5,_,X _ _ ho,.of_isNs (PySem.W.isNs_of_in X z),PySem.W.nsMap_none_of_in X z G,PySem.W.tail_of_in X U]
  .cases q
 .cases q
theorem vd{P:vu}{w:Oe}{H:Hp}{h:Heap}{a:Addr}{o:HO}(x:ck P w H h a o):∃z,h.get? a=some z:=by
 cases o with
 |lst xs=>let#[_,_,_,_,e]:=x;show#[_,e]
 |tup xs=>let#[_,_,_,p]:=x;let#[o,e,_]:=p;show#[_,e]
 |dK kvs=>let#[_,_,_,_,o,_,_,e,_]:=x;show#[_,e]
 |dT kvs=>let#[_,_,_,_,o,_,_,e,_]:=x;show#[_,e]
 |set S n=>let#[o,_,_,_,e,_]:=x;show#[_,e]
 |ins C dx fs=>let#[_,_,_,e,_]:=x;show#[_,e]
 |own y=>let#[_,e]:=x;show#[_,e]
 |xd fs=>let#[_,#[_,_,_,e,_],_]:=x;show#[_,e]
 |rng lo hi=>let#[_,_,_,e]:=x;show#[_,e]
 |frz z u=>let#[e,_]:=x;show#[_,e]
 |tbl ps=>show#[_,(show h.get? a=some _ from x)]
 |met f y=>show#[_,(show h.get? a=some _ from x)]
 |ext F=>let#[_,e,_]:=x;show e
section
variable{X:Cx}{pins:W7}{σ:St}{H:Hp}{s:se}
theorem Inv.raised{h':Heap}{e:Addr}{cls:Value}{vs:Xc}(I: ~~~H s)(hex:X.ex=[])(hx:Heap.MadeExcOf s.heap h' e cls vs):XP X pins (λac c H'=>ac=σ/\c=cls/\H'=H) (.ref e) { s with heap:=h' }:=by
 let#[t,G,am,ht]:=hx.there;let ab:∀env∈X.stack,∀a,env.frame=some a->a∈q8 X.stack:=λenv G a U=>Sw.mpr #[env,G,U];let O:∀b u,H b=some u->b∉q8 X.stack:=λb u q z=>(by rwa[I.uG b z]at q);let hB:∀b,s.heap.get? b=none->(Wv s.heap (q8 X.stack)).get? b=none:=λb q=>by
  cases z:(Wv s.heap (q8 X.stack)).get? b with
  |none=>rfl
  |some o=>rwa[VM _ z]at q
 show#[e,cls,.ref t,Wv s.heap (q8 X.stack),σ,H,rfl,.inl #[λb o q=>hx.keeps b o (VM _ q),hB e hx.new,?_,2,G,1,1],#[2,G,1],λJ tk k u=>?_,I.Gj hex hx.new ?_,1,rfl]
 .show(PySem.W.funFrames_hide I.stack ab).of_keeps λb o q _=>#[o,hx.keeps b o q,rfl]
 .let L:∀b o,s.heap.get? b=some o->b∉q8 X.stack->J.get? b=some o:=λb o q nb=>k b o (hideAll_get _ q nb);let sl:∀b o,s.heap.get? b=some o->b∈q8 X.stack->∃sl,J.get? b=some { o with slots:=sl }:=λb o q F=>by
   let#[_,o',R,hd]:=I.stack.mem F;rwa[q]at R;show u b o (hx.keeps b o q) hd
  show I.zE (s':={ s with heap:=J,toks:=tk }) (ch:=[]) rfl #[λb o q n F _=>L b o q F,λb o q n F _=>sl b o q F,λb o q n _=>n,λb o q _=>?_,λb xs q=>q,λb o u q=>q,λb ps q=>#[([].toArray),by rw[q];simp]] (λa o q=>?_) I.bare (λb z=>absurd z (by simp))
  .by_cases F:b∈q8 X.stack
   .let#[ao,q']:=sl b o q F;show#[_,q']
   .show#[o,L b o q F]
  .show(I.bV a o q).jl (λc v hc qc=>L c v qc ?_) (λ_ z=>z) λ_ _ z=>z;rcases hc with z|z
   .rw[z];show O a o q
   .show O c _ z
 .cases z:H e with
  |none=>rfl
  |some o =>
   let#[ob,S]:=vd (I.bV e o z);rwa[hx.new]at S
end
abbrev TJ:=Str->St->Hp->(Str->Hp->Prop)->Prop
def PJ(X:Cx)(vs:List OE)(t:TJ):Prop :=
 ∀(pins:W7)(s:se)(σ:St)(H:Hp)(z:Str)(Q:Str->Hp->Prop),~~~H s->t z σ H Q->Joins (model X.prog X.w) X.A X.xe (evalEach vs X.env) z (λout F=>∃H',~~~H' F/\Q out H') s
section
variable{X:Cx}{v v2:OE}{vs:List OE}{te:TE}{t:TJ}{pos:Q5}
def JT:TJ:=λacc _ H Q=>Q acc H
def IK(te:TE)(t:TJ):TJ:=λz σ H Q=>te σ H λx H1=>∃y,x=.str y/\(z++y).length<=sizeLine/\t (z++y) σ H1 Q
theorem kZ:PJ X [] JT:=λ_ s _ H _ _ I h=>show ∃H',_ from#[H,I,h]
theorem cF(z:PE X v te)(F:PJ X vs t):PJ X (v::vs) (IK te t):=by
 intros R Q I h;change wpAny _ _ (eval v X.env) _ _ s;show b9 (z pins s σ H _ I h) λu L ⟨x,H1,J,G,y,ex,O,q⟩=>?_;subst ex;let#[tk,rfl]:=G;show#[y,tk,rfl,O,F pins L σ H1 _ Q J q]
theorem iH(h:PJ X (v::v2::vs) t):PE X (.JoinedStr (v::v2::vs) pos) (λσ H Q=>t Str.empty σ H λout H'=>out.length<=sizeLine/\Q (.str out) H'):=by
 intros Q I q;show wpAny_JoinedStr ?_;let z:=h pins s σ H Str.empty _ I q;let S:∀(l:List (Sem Value))(G:Str)(s:se),Joins (model X.prog X.w) X.A X.xe l G (λout F=>∃H',~~~H' F/\out.length<=sizeLine/\Q (.str out) H') s ->
   Joins (model X.prog X.w) X.A X.xe l G (λout F=>out.length<=sizeLine/\EP X pins σ Q (.str out F.toks) { F with toks:=F.toks+1 }) s:=by
  intro l
  induction l with
  |nil =>
   intro G s ⟨H',U,L,J⟩;show#[L,.str G,H',U.tok _,#[0],J]
  |cons a r R =>
   intro G s O;show b9 O λu F ⟨y,tk,e,L,J⟩=>#[y,tk,e,L,R _ _ J]
 show S _ _ _ z
theorem lY(z:PE X v te):PE X (.FormattedValue v (-1) none pos) (λσ H Q=>te σ H λx H1=>∃i:Int,x=.int i/\i.natAbs.log2<1920/\Q (.str (toString i)) H1):=by
 intros Q I h;show wpAny_FormattedValue_plain (b9 (z pins s σ H _ I h) λu L ⟨x,H1,G,F,i,ex,J,q⟩=>?_);subst ex;let#[tk,rfl]:=F;show wpAny_formatField_int J #[.str (toString i),H1,G.tok _,#[0],q]
end
theorem len_app(a b:Str):(a++b).length=a.length+b.length:=strLen_append a b
theorem Gf{i:Int}(h:i.natAbs.log2<1920):(toString i:Str).length<=1921:=by
 let e:=int_text_length_le (k:=1920) aq h;change(Str.ofString (toString i)).length<=1921;rw[PySem.ofString_length];show e
section
variable{X:Cx}{C:Addr}{x:Str}{np cpos pos:Q5}{e₀:OE}{es:List OE}{t:TA}
theorem fU(S:Gl X x)(U:X.mg x=some (.ref C))(O:excIn X.K C CU "ValueError.__new__" = true)(hc:X.calm=true)(hex:X.ex=[])(ha:PA X.nK (e₀::es) t)
  (G:starEach (e₀::es) X.env=(false,eval e₀ X.env)::starEach es X.env:=by rfl) (ac:(backTo cpos (starEach es X.env)).any (·.1)=false:=by rfl) (hd:(x==("__debug__" : Str))=false:=by decide) :
  BZ X (.Raise (some (.Call (.Name x np) (e₀::es) [] cpos)) none pos) (λD R σ H=>t σ H λvs H1=>vs.length<=sizeLine/\R σ (.ref C) H1):=by
 intros D R I h;let#[tl,N,nm,q,bs,hdct,sn,sub,ab,col,dd,k0,k1,k2,k3,k5,mN,hC,hN,L,T]:=F3 I.ok.mod.CH O;show wpAny_Raise_call_subT (C:=C) (nm:=nm) (q:=q) (N:=N) (bs:=bs) (bm:=tl) (hdct:=hdct) (sn:=sn) (sub:=sub) (ab:=ab) (col:=col) (dd:=dd) (k0:=k0) (k1:=k1) (k2:=k2) (k3:=k3) (k5:=k5)
  F.excBase_ValueError (mN:=mN) (T.hasType F.excBase_ValueError.hasBase) (I.ok.hd hc) (by rw[G];change(false||(backTo cpos (starEach es X.env)).any (·.1))=false;rw[ac];rfl) L (gZ I S U #[4] hd)
 let h2:=ha cpos pins s σ H _ (I.gR _) h;rw[G]at h2 ⊢;show Calls.evalArgs_plain (nx h2 λus s2 ⟨vs,H1,z,r,hl,J⟩=>#[4,z.cu.bk _ _ hC,hN.keeps z.cu.bk,T.keeps z.cu.bk,λh' e hx=>?_])
 .change us.length<=sizeLine;rw[<-r.length];show hl
 .show(z.cu.raised hex hx).imp λ_ _ _ ⟨a,b,c⟩=>by subst a b c;show J
variable{P:vu}{w:Oe}{K:Om}{mg:W9}{base:Heap}
theorem tS{M:SS}{A:Ov}{E:W8}{s:se}{B:Heap}{env:SN}{outer:List SN}{L e:Addr}{cls F:Value}{Q:Unit->se->Prop}
  (R:A.frames=some (env::outer)) (z:env.frame=some L) (h:vz B (env::outer) e cls F s.heap\/Heap.FlyingW B (env::outer) e cls F s.heap\/∃L,env.frame=some L/\Heap.HeldW B (env::outer) e cls F L s.heap)
  (I:∀h',Heap.FlyingW B outer e cls F h'->s.heap.UpToSlots h'->Q () { s with heap:=h' }):wpAny M A (leaving env (.ref e)) Q E s:=by
 rcases h with⟨h1,h2,h3,oe,vs,S,hc,hd,h0,ab⟩|h|⟨L',O,J⟩
 .subst hc;show wpAny_leaving_firstW R h3 z S h1 h2 hd ab h0 λh' ⟨k1,⟨_,_,k2⟩,k3,U⟩=>I h' #[k1,h2,k2,k3] U
 .show wpAny_leaves_onW R z h I
 .rw[z]at O;cases O;let#[g1,g2,g3,g4]:=id J;show tp (TY z g4 (wpAny_landsW J λh' G up=>I h' #[G.1,G.2.1,?_,G.2.2.2] up));show(show h'.FunFrames B (env::outer)from G.2.2.1).2.2
theorem vp{M:SS}{A:Ov}{E:W8}{s:se}{B:Heap}{env:SN}{outer:List SN}{L e:Addr}{cls F:Value}{Q:Unit->se->Prop}
  (O:A.frames=some (env::outer)) (G:env.frame=some L) (h:vz B (env::outer) e cls F s.heap\/Heap.FlyingW B (env::outer) e cls F s.heap\/∃L,env.frame=some L/\Heap.HeldW B (env::outer) e cls F L s.heap) (c:C2 e s.heap)
  (I:∀h',Heap.FlyingW B outer e cls F h'->s.heap.UpToSlots h'->C2 e h'->Q () { s with heap:=h' }):wpAny M A (leaving env (.ref e)) Q E s :=
 OL ((yh env (.ref e)).any (E:=λ_ _=>False) (tS (Q:=λ_ s'=>∃h',s'={ s with heap:=h' }/\Heap.FlyingW B outer e cls F h'/\s.heap.UpToSlots h') O G h λh' f u=>#[h',rfl,f,u]) c)
  (λ_ s' ⟨⟨h',J,f,u⟩,c'⟩=>by subst J;show I h' f u c') λ_ _ z=>z.1.elim
theorem cq.N0{x qual:Str}{st:OB}{f:Addr}{fd:t7}{N ps:List Str}{k:Nat}{sp:Sp}(F:cq K x qual st f fd)(S:aD N ps (au st))(len:∀vs H Q E,sp vs H Q E->vs.length=ps.length)
  (ap:∀(G:Value)(A:Ov)(outer:List SN)(s:se)(H:Hp)(vs:List V)(Q:VK)(E:XK),bp k (A.deeper (RM qual (au st) s⁻¹ f G))->sp vs H Q E ->
   ∃t,oH (rA (cI P w) P w K mg base N qual (au st) f G A outer s H E) (dX st) t/\t { nx:=λ_ H'=>Q .bB H',rt:=Q } (λ_ cls H'=>E cls none H') (start N vs) H):⇑aG (k+1) f fd ps sp:=by
 let#[oc,od,kV,as,pm,an,G,ct,aB,rfl,lk,am]:=F.ex;show Gz lk am S len λA outer s H vs Q E hr ao=>?_;let#[t,h,q]:=ap G A outer s H vs Q E hr ao;show#[λD σ H'=>t D (λ_ cls H'=>E cls none H') σ H',λpins s1 σ H1 D I q1=>?_,q];show OL (h pins s1 σ H1 D _ I q1) (λ_ _ z=>z) λv s2 hx=>?_;let#[e,cls,a0,B,aT,H2,rfl,R,c2,U,new,hE]:=hx;let jl:B.StaysIn s2.heap:=by
  rcases R with z|z|⟨_,_,z⟩
  .show z.1
  .show z.1
  .show z.1
 let O:=U.now jl;show vp (L:=s⁻¹) O.ok.frames rfl R c2 λh' ac up c3=>?_;show#[e,cls,a0,B,H2,rfl,O.os,O.bare,new.old,new.free,ac,c3,λab k u=>(λJ=>#[J.base,J.bV]) (U ab s2.toks k (up.trans u)),hE]
theorem cq.gD{x qual:Str}{st:OB}{f:Addr}{fd:t7}{N ps:List Str}{k:Nat}{sp:Sp}(F:cq K x qual st f fd)(S:aD N ps (au st))
  (G:∀(z:Value)(A:Ov)(outer:List SN)(s:se)(H:Hp)(vs:List V)(Q:VK)(E:XK),bp k (A.deeper (RM qual (au st) s⁻¹ f z))->sp vs H Q E ->
   ∃t,oH (rA (cI P w) P w K mg base N qual (au st) f z A outer s H E) (dX st) t/\t { nx:=λ_ H'=>Q .bB H',rt:=Q } (λ_ cls H'=>E cls none H') (start N vs) H) (len:∀vs H Q E,sp vs H Q E->vs.length=ps.length:=by intro vs H Q E h;cases h<;>subst_vars<;>rfl):⇑aG (k+1) f fd ps sp:=F.N0 S len G
end
abbrev Cx.hand(X:Cx)(e:Addr):Cx:={ X with A:=X.A.mark (some (.ref e)),calm:=false }
section
variable{X:Cx}{pins:W7}{σ:St}{H:Hp}{s:se}
theorem Cx.Ok.hand(ok:X.Ok)(e:Addr):(X.hand e).Ok :=
 #[ok.mod,ok.kind,ok.glob,ok.blt,ok.above,ok.inj,ok.has,ok.Hk,(λz=>Bool.noConfusion z),ok.frames,ok.Jz,ok.LM,ok.bs,ok.Be,ok.ya,ok.wD,ok.km,ok.EJ]
theorem Inv.hand(I: ~~~H s)(e:Addr):Inv (X.hand e) pins σ H s:=#[I.ok.hand e,I.os,I.bare,I.base,I.loc,I.cell,I.free,I.gw,I.pin,I.bV,I.len]
theorem Inv.Ip{e:Addr}(I:Inv (X.hand e) pins σ H s)(ok:X.Ok): ~~~H s:=#[ok,I.os,I.bare,I.base,I.loc,I.cell,I.free,I.gw,I.pin,I.bV,I.len]
theorem Inv.unset{i:Nat}{n:Str}{m:W9}{h':Heap}{v:Xd}{tk:Nat}(I: ~~~H s)(hN:X.N.Nodup)(hi:X.N[i]?=some n)(hl:X.env.kindOf n=some .local)
  (hm:s.heap.Ns X.env.locals m) (ac:∀(i:Nat)(x:Str)(v:V),X.N[i]?=some x->σ[i]?=some (some v)->J7 X.env.scope x->∃u,RelV v u/\Look X.env s.heap m x u)
  (hn:h'.Ns X.env.locals (λx=>if x=n then v else m x)) (hs:Heap.SameBut X.env.locals s.heap h'):Inv X pins (σ.set i none) H { s with heap:=h',toks:=tk }:=by
 let ab:i<σ.length:=(by rw[I.len];show(sN.mp hi).1);let Dz:=I.Dz;let R:∀b o,X.s₀.heap.get? b=some o->b≠X.env.locals:=λb o e=>Pb (OD (Heap.lt_size e) I.ok.above);show#[I.ok,I.os,I.bare,#[λb o e n L hx=>?_,λb o e n L hx=>?_,I.base.free,λb o e hx=>?_,I.base.pH,I.base.oz,I.base.qk],#[_,hn,λj y v' F J e3=>?_],λy c e=>?_,I.free,I.gw,λp hp=>?_,λb ob e=>?_,by simpa using I.len]
 .show(hs.2 b (R b o e)).trans (I.base.keep b o e n L hx)
 .let#[sl,F]:=I.base.slot b o e n L hx;show#[sl,(hs.2 b (R b o e)).trans F]
 .let#[o',F]:=I.base.there b o e hx;show#[o',(hs.2 b (R b o e)).trans F]
 .by_cases O:j=i
  .subst O;rwa[OR ab]at J
  .rw[OI (D0 O)]at J;let#[u',r',q]:=ac j y v' F J e3;show#[u',r',?_];rcases q with⟨k,e⟩|⟨k,c,e,z⟩
   .show .inl #[k,?_];have:y≠n:=λe=>O (pI hN F (e▸hi));simp[this,e]
   .show .inr #[k,c,e,z.sameBut hs (Dz y c e)]
 .let#[S,z]:=I.cell y c e;show#[S,z.sameBut hs (Dz y c e)]
 .let#[e,n,ne,U,d]:=I.pin p hp;show#[(hs.2 p.1 ne).trans e,n,ne,U,d]
 .show(I.bV b ob e).jl (λc S G q=>(hs.2 c ?_).trans q) (λ_ q=>q) λ_ _ q=>q;rintro rfl;rcases G with G|G
  .rw[<-G,I.free]at e;cases e
  .rw[I.free]at G;cases G
end
theorem wJ{M:SS}{A:Ov}{E:W8}{s:se}{B:Heap}{env:SN}{outer:List SN}{L e:Addr}{cls F:Value}{Q:Unit->se->Prop}
  (R:A.frames=some (env::outer)) (z:env.frame=some L) (h:vz B (env::outer) e cls F s.heap\/Heap.FlyingW B (env::outer) e cls F s.heap\/∃L,env.frame=some L/\Heap.HeldW B (env::outer) e cls F L s.heap)
  (G:∀h',Heap.HeldW B (env::outer) e cls F L h'->s.heap.UpToSlots h'->Q () { s with heap:=h' }):wpAny M A (noteFrame (.ref e) env) Q E s:=by
 rcases h with⟨h1,h2,h3,oe,vs,I,hc,hd,h0,S⟩|h|⟨L',O,J⟩
 .subst hc;unfold noteFrame;simp only[z];show tp (QB I hd S ?_);rw[WX aq];show wpAny_entryW R h3 z I h1 h2 hd (QU.mp S).1 h0 λh' ⟨k1,k2,k3,U⟩=>G h' #[k1,h2,k2,k3] U
 .show wpAny_looks_onW R z h G
 .rw[z]at O;cases O;show TY z J.2.2.2 (G s.heap J (Heap.UpToSlots.refl _))
theorem pU{M:SS}{A:Ov}{E:W8}{s:se}{B:Heap}{env:SN}{outer:List SN}{L e:Addr}{cls F:Value}{Q:Unit->se->Prop}
  (O:A.frames=some (env::outer)) (G:env.frame=some L) (h:vz B (env::outer) e cls F s.heap\/Heap.FlyingW B (env::outer) e cls F s.heap\/∃L,env.frame=some L/\Heap.HeldW B (env::outer) e cls F L s.heap) (c:C2 e s.heap)
  (I:∀h',Heap.HeldW B (env::outer) e cls F L h'->s.heap.UpToSlots h'->C2 e h'->Q () { s with heap:=h' }):wpAny M A (noteFrame (.ref e) env) Q E s :=
 OL ((zI (.ref e) env).any (E:=λ_ _=>False) (wJ (Q:=λ_ s'=>∃h',s'={ s with heap:=h' }/\Heap.HeldW B (env::outer) e cls F L h'/\s.heap.UpToSlots h') O G h λh' f u=>#[h',rfl,f,u]) c)
  (λ_ s' ⟨⟨h',J,f,u⟩,c'⟩=>by subst J;show I h' f u c') λ_ _ z=>z.1.elim
theorem ER{M:SS}{A:Ov}{E:W8}{s:se}{B:Heap}{l:List SN}{e L:Addr}{cls F:Value}{Q:Unit->se->Prop}(G:Heap.HeldW B l e cls F L s.heap)(c:C2 e s.heap)
  (I:∀h',Heap.FlyingW B l e cls F h'->s.heap.UpToSlots h'->C2 e h'->Q () { s with heap:=h' }):wpAny M A (setFlight (.ref e) none) Q E s :=
 OL ((nA (.ref e) none).any (E:=λ_ _=>False) (wpAny_landsW (Q:=λ_ s'=>∃h',s'={ s with heap:=h' }/\Heap.FlyingW B l e cls F h'/\s.heap.UpToSlots h') G λh' f u=>#[h',rfl,f,u]) c)
  (λ_ s' ⟨⟨h',J,f,u⟩,c'⟩=>by subst J;show I h' f u c') λ_ _ z=>z.1.elim
theorem EA{M:SS}{A:Ov}{E:W8}{s:se}{B:Heap}{l:List SN}{e:Addr}{cls F:Value}{Q:Unit->se->Prop}(G:Heap.FlyingW B l e cls F s.heap)(c:C2 e s.heap)
  (I:∀h',Heap.FlyingW B l e cls F h'->s.heap.UpToSlots h'->C2 e h'->Q () { s with heap:=h' }):wpAny M A (setFlight (.ref e) none) Q E s :=
 OL ((nA (.ref e) none).any (E:=λ_ _=>False) (lands_againW (Q:=λ_ s'=>∃h',s'={ s with heap:=h' }/\Heap.FlyingW B l e cls F h'/\s.heap.UpToSlots h') G λh' f u=>#[h',rfl,f,u]) c)
  (λ_ s' ⟨⟨h',J,f,u⟩,c'⟩=>by subst J;show I h' f u c') λ_ _ z=>z.1.elim
def Lr(i:Nat)(D:Ends):Ends:={ nx:=λσ H=>D.nx (σ.set i none) H,rt:=D.rt,bk:=λσ H=>D.bk (σ.set i none) H,ct:=λσ H=>D.ct (σ.set i none) H }
section
variable{X:Cx}{C:Addr}{i:Nat}{x n:Str}{np hpos pos:Q5}{body suite:List OB}{b₀:OB}{tb:pJ}{ts:TS}
variable{κ:Type}[DecidableEq κ]
def gq(kvs:List (κ×V))(k:κ):Option V:=(kvs.find? λz=>decide (z.1=k)).map (·.2)
def putK(kvs:List (κ×V))(k:κ)(v:V):List (κ×V):=
 if (kvs.any λz=>decide (z.1=k))=true then kvs.map (λz=>if z.1=k then(z.1,v)else z)else kvs++[(k,v)]
def qX(kvs:List (κ×V))(k:κ):List (κ×V):=kvs.filter λz=>decide (z.1≠k)
theorem lS{p:κ×V}{r:List (κ×V)}{k:κ}(e:p.1=k):gq (p::r) k=some p.2:=by simp[gq,RN,e]
theorem lG{p:κ×V}{r:List (κ×V)}{k:κ}(e:¬ p.1=k):gq (p::r) k=gq r k:=by simp[gq,RN,e]
theorem lI(k:κ):∀kvs:List (κ×V),(kvs.any λz=>decide (z.1=k))=(gq kvs k).isSome
 | []=>rfl
 |p::r=>by
  rw[Us];cases e:p.1=k
  .simp only[lS e,decide_eq_true e,Bool.true_or,Option.isSome_some]
  .rw[lG e,decide_eq_false e,Bool.false_or];show lI k r
theorem jH(kvs:List (κ×V))(k:κ)(v:V):(putK kvs k v).length<=kvs.length+1:=by
 unfold putK;split
 .rw[ti];omega
 .rw[Oj,Oq,VC];omega
theorem Bq{kvs:List (κ×V)}{k:κ}(v:V)(h:gq kvs k=none):putK kvs k v=kvs++[(k,v)]:=by
 unfold putK;rw[lI,h];show WX aq
theorem ic.iq{o:Option V}{u:Xd}(r:ic o u):o.isSome=u.isSome:=by
 cases o with
 |none=>cases u with
  |none=>rfl
  |some _=>show(show False from r).elim
 |some _=>cases u with
  |none=>show(show False from r).elim
  |some _=>rfl
theorem ic.getD{o:Option V}{u:Xd}{d:V}{d':Value}(r:ic o u)(rd:RelV d d'):RelV (o.getD d) (u.getD d'):=by
 cases o with
 |none=>cases u with
  |none=>show rd
  |some _=>show(show False from r).elim
 |some _=>cases u with
  |none=>show(show False from r).elim
  |some _=>show r
theorem KV.val{kvs:List (κ×V)}{vs:List (κ×Value)}(r:KV kvs vs)(k:κ):ic (gq kvs k) (TZ vs k):=by
 unfold KV at r
 induction r with
 |nil=>show Qb
 | @cons p q ps F h t I =>
  let#[h1,h2]:=h;cases e:p.1=k
  .let G:q.1=k:=h1.symm.trans e;let b:TZ (q::F) k=some q.2:=(by simp[TZ,RN,G]);rw[lS e,b];show h2
  .let G:¬ q.1=k:=λz=>e (h1.trans z);let b:TZ (q::F) k=TZ F k:=(by simp[TZ,RN,G]);rw[lG e,b];show I
theorem KV.any{kvs:List (κ×V)}{vs:List (κ×Value)}(r:KV kvs vs)(k:κ):(kvs.any λz=>decide (z.1=k))=vs.any λz=>decide (z.1=k):=by
 unfold KV at r
 induction r with
 |nil=>rfl
 |cons h t F=>rw[Us,Us,F,h.1]
theorem KV.HS{kvs:List (κ×V)}{vs:List (κ×Value)}(r:KV kvs vs)(k:κ){y:V}{u:Value}(G:RelV y u) :
  KV (kvs.map λF=>if F.1=k then(F.1,y)else F) (vs.map λF=>if F.1=k then(F.1,u)else F):=by
 unfold KV at r ⊢
 induction r with
 |nil=>show .nil
 | @cons p q ps J h t I =>
  rw[PN,PN];show .cons ?_ I;let#[h1,h2]:=h;cases e:p.1=k
  .rw[WY e,WY (h1.symm.trans e)];show#[h1,G]
  .rw[WX e,WX (λz=>e (h1.trans z))];show#[h1,h2]
theorem KV.put{kvs:List (κ×V)}{vs:List (κ×Value)}(r:KV kvs vs)(k:κ){y:V}{u:Value}(z:RelV y u):KV (putK kvs k y) (stored vs k u):=by
 unfold putK stored;rw[r.any k];cases e:(vs.any λF=>decide (F.1=k))=true
 .rw[WY e,WY e];show r.HS k z
 .rw[WX e,WX e];show Paired.snoc r #[rfl,z]
theorem KV.drop{kvs:List (κ×V)}{vs:List (κ×Value)}(r:KV kvs vs)(k:κ):KV (qX kvs k) (without vs k):=by
 unfold KV at r ⊢;unfold qX without
 induction r with
 |nil=>show .nil
 | @cons p q ps I h t F =>
  let#[h1,h2]:=h;rw[PV,PV];cases e:p.1=k
  .let a:¬ decide (p.1≠k)=true:=(by simp[e]);let b:¬ decide (q.1≠k)=true:=(by simp[h1.symm.trans e]);rw[WX a,WX b];show F
  .let G:¬ q.1=k:=λz=>e (h1.trans z);let a:decide (p.1≠k)=true:=(by simp[e]);let b:decide (q.1≠k)=true:=(by simp[G]);rw[WY a,WY b];show .cons #[h1,h2] F
theorem KV.keys{kvs:List (κ×V)}{vs:List (κ×Value)}(r:KV kvs vs):kvs.map (·.1)=vs.map (·.1):=by
 unfold KV at r
 induction r with
 |nil=>rfl
 |cons h t z=>rw[PN,PN,z,h.1]
theorem KV.length{kvs:List (κ×V)}{vs:List (κ×Value)}(r:KV kvs vs):kvs.length=vs.length:=Paired.length r
theorem B8(kvs:List (κ×V))(k:κ):(qX kvs k).length<=kvs.length:=RE _ _
end
theorem ml{P:vu}{w:Oe}{k:Key}{u:Value}(r:RelV (kV k) u):(cf P w).is k u=true:=by
 cases k with
 |inl i=>let#[t,e]:=(show ∃t,u=Value.int i t from r);subst e;show vo P w i t
 |inr x=>let#[t,e]:=(show ∃t,u=Value.str x t from r);subst e;show vK P w x t
theorem rM{P:vu}{w:Oe}:∀{ks:List Key}{us:Xc},Vals (ks.map kV) us->ItemsAre (cf P w) ks us
 | [],_,r=>by rwa[map_nil]at r;show .nil
 |k::ks,_,r=>by
  rw[PN]at r;cases r with
  |cons h t=>show .cons (ml h) (rM t)
abbrev KT(H:Hp):List (List Key×V)->List (List Key×Addr×Value)->Prop:=Paired λp q=>p.1=q.1/\H q.2.1=some (.tup (p.1.map kV))/\RelV p.2 q.2.2
theorem KT.val{H:Hp}{kvs:List (List Key×V)}{xs:List (List Key×Addr×Value)}(r:KT H kvs xs)(k:List Key):ic (gq kvs k) ((VA xs k).map (·.2)):=by
 induction r with
 |nil=>show Qb
 | @cons p q ps F h t I =>
  let#[h1,_,h2]:=h;cases e:p.1=k
  .let G:q.1=k:=h1.symm.trans e;let b:VA (q::F) k=some q.2:=(by simp[VA,RN,G]);rw[lS e,b];show h2
  .let G:¬ q.1=k:=λz=>e (h1.trans z);let b:VA (q::F) k=VA F k:=(by simp[VA,RN,G]);rw[lG e,b];show I
theorem KT.HS{H:Hp}{kvs:List (List Key×V)}{xs:List (List Key×Addr×Value)}(r:KT H kvs xs)(k:List Key){y:V}{u:Value}(G:RelV y u) :
  KT H (kvs.map λF=>if F.1=k then(F.1,y)else F) (xs.map (putAt k u)):=by
 induction r with
 |nil=>show .nil
 | @cons p q ps L h t J =>
  rw[PN,PN];show .cons ?_ J;let#[h1,h2,I]:=h;unfold putAt;cases e:p.1=k
  .rw[WY e,WY (h1.symm.trans e)];show#[h1,h2,G]
  .rw[WX e,WX (λz=>e (h1.trans z))];show#[h1,h2,I]
theorem KT.put{H:Hp}{kvs:List (List Key×V)}{xs:List (List Key×Addr×Value)}(r:KT H kvs xs)(k:List Key){b:Addr}{y:V}{u:Value}(F:H b=some (.tup (k.map kV)))(z:RelV y u) :
  KT H (putK kvs k y) (storedH xs k b u):=by
 let e:(kvs.any λG=>decide (G.1=k))=(VA xs k).isSome:=by
  rw[lI,(r.val k).iq,V9]
 unfold putK storedH;rw[e];cases q:(VA xs k).isSome=true
 .rw[WY q,WY q];show r.HS k z
 .rw[WX q,WX q];show Paired.snoc r #[rfl,F,z]
theorem KT.keeps{H H':Hp}{kvs:List (List Key×V)}{xs:List (List Key×Addr×Value)}(r:KT H kvs xs)(F:∀b ys,H b=some (.tup ys)->H' b=some (.tup ys)):KT H' kvs xs :=
 Paired.Cr r λ_ _ z=>#[z.1,F _ _ z.2.1,z.2.2]
section
variable{P:vu}{w:Oe}{H:Hp}{h:Heap}{a:Addr}
theorem GN{u:HO}(ok:kq P w H h)(e:Rd H a u):ck P w H h a u:=e.ok ok
theorem lL{kvs:List (Key×V)}(ok:kq P w H h)(e:Rd H a (.dK kvs)):kvs.length<=sizeLine/\(a==Qu)=false/\∃vs,KV kvs vs/\h.DictOf (cf P w) a vs :=
 show ck P w H h a (.dK kvs)from GN ok e
theorem sh{kvs:List (Key×V)}(ok:kq P w H h)(e:H a=some (.dK kvs)):kvs.length<=sizeLine/\(a==Qu)=false/\∃vs,KV kvs vs/\h.DictOf (cf P w) a vs:=lL ok (.inl e)
theorem lj{ks:List Key}(ok:kq P w H h)(e:H a=some (.tup (ks.map kV))):(Sq (cf P w)).is h ks a:=by
 let#[_,its,r,o,h1,h2,n,z]:=(show ck P w H h a (.tup (ks.map kV))from ok a _ e);show#[o,its.toArray,n,h1,h2,z,by simpa using rM r]
theorem oj{kvs:List (List Key×V)}(ok:kq P w H h)(e:Rd H a (.dT kvs)):kvs.length<=sizeLine/\(a==Qu)=false /\
  ∃xs,KT H kvs xs/\h.DictOfH (Sq (cf P w)) a xs:=by
 let#[z,y,xs,r,o,es,ep,h1,h2,J,G,I]:=(show ck P w H h a (.dT kvs)from GN ok e);show#[z,y,xs,r,o,es,ep,h1,h2,J,G,λx hx=>?_,I];let all:∀{l:List (List Key×V)}{m:List (List Key×Addr×Value)},KT H l m->∀x∈m,(Sq (cf P w)).is h x.1 x.2.1:=by
  intro l m q
  induction q with
  |nil=>intro x hx;show nomatch hx
  | @cons p q ps O F t L =>
   intro x hx;rcases vr.mp hx with e|hx
   .subst e;show lj ok (by rw[<-F.1];show F.2.1)
   .show L x hx
 show all r x hx
theorem JH{kvs:List (List Key×V)}(ok:kq P w H h)(e:H a=some (.dT kvs)):kvs.length<=sizeLine/\(a==Qu)=false /\
  ∃xs,KT H kvs xs/\h.DictOfH (Sq (cf P w)) a xs:=oj ok (.inl e)
end
def fb(H:Hp)(a:Addr)(y:V)(r:Option V):Prop :=
 (∃kvs k,Rd H a (.dK kvs)/\y=kV k/\r=gq kvs k)\/∃kvs k b,Rd H a (.dT kvs)/\y=.ref b/\H b=some (.tup (k.map kV))/\r=gq kvs k
def kL(H:Hp)(a:Addr)(y v:V)(H':Hp):Prop :=
 (∃kvs k,H a=some (.dK kvs)/\y=kV k/\kvs.length<sizeLine/\H'=upd H a (.dK (putK kvs k v))) \/
 ∃kvs k b,H a=some (.dT kvs)/\y=.ref b/\H b=some (.tup (k.map kV))/\kvs.length<sizeLine/\H'=upd H a (.dT (putK kvs k v))
theorem fb.k{H:Hp}{a:Addr}{kvs:List (Key×V)}{k:Key}(e:H a=some (.dK kvs)):fb H a (kV k) (gq kvs k):=.inl #[kvs,k,.inl e,1]
theorem kL.k{H:Hp}{a:Addr}{kvs:List (Key×V)}{k:Key}{v:V}(e:H a=some (.dK kvs))(z:kvs.length<sizeLine):kL H a (kV k) v (upd H a (.dK (putK kvs k v))):=.inl #[kvs,k,e,rfl,z,rfl]
section
variable{X:Cx}{pins:W7}{σ:St}{H:Hp}{s:se}{a:Addr}{y v:V}{u r:Value}{o:Option V}{A:Ov}{E:W8}
theorem Inv.big(I: ~~~H s):Qu<s⁻¹:=by
 let h:OG<s⁻¹:=(I.mod.glob.keeps I.bk).lt;show Vb aq h
theorem Ae{Q:W8}(S:A.units+1<Rr)(I: ~~~H s)(g:fb H a y (some v))(R:RelV y u)(h:∀F s',~~~H s'->RelV v F->Q F s') :
  wpAny (model X.prog X.w) A (UB (.ref a) u) Q E s:=by
 rcases g with⟨kvs,k,e,O,l⟩|⟨kvs,k,b,e,O,U,l⟩
 .subst O;let#[z,hd,vs,J,dd]:=lL I.bV e;let#[F,L,G]:=ic.some_of (v:=v) (o:=TZ vs k) (by rw[l];show J.val k);show wpAny_getItem_of (ml R) dd.mapOf L (h F _ (I.tok _) G)
 .subst O;cases(show u=Value.ref b from R);let#[z,hd,xs,J,dd]:=oj I.bV e;let#[F,L,G]:=ic.some_of (v:=v) (o:=(VA xs k).map (·.2)) (by rw[l];show J.val k);let#[p,hp,ab]:=wh.mp L;show wpAny_getItem_heap (Qn S) (lj I.bV U) dd hp ?_;rw[ab];show h F _ (I.tok _) G
theorem MY{Q:W8}(L:A.units+1<Rr)(I: ~~~H s)(g:fb H a y o)(J:RelV y u)(h:∀s',~~~H s'->Q (.bool o.isSome) s') :
  wpAny (model X.prog X.w) A (Px .In u (.ref a)) Q E s:=by
 rcases g with⟨kvs,k,e,G,l⟩|⟨kvs,k,b,e,G,O,l⟩
 .subst G;let#[z,hd,vs,F,dd]:=lL I.bV e;show wpAny_in_of (ml J) hd dd.mapOf ?_;rw[<-(F.val k).iq, <-l];show h _ (I.tok _)
 .subst G;cases(show u=Value.ref b from J);let#[z,hd,xs,F,dd]:=oj I.bV e;show wpAny_in_heap (Qn L) (lj I.bV O) hd dd ?_;let q:=(F.val k).iq;rw[V9]at q;rw[<-q, <-l];show h _ (I.tok _)
theorem Fm{Q:W8}(L:A.units+1<Rr)(I: ~~~H s)(g:fb H a y o)(J:RelV y u)(h:∀s',~~~H s'->Q (.bool (!o.isSome)) s') :
  wpAny (model X.prog X.w) A (Px .NotIn u (.ref a)) Q E s:=by
 rcases g with⟨kvs,k,e,G,l⟩|⟨kvs,k,b,e,G,O,l⟩
 .subst G;let#[z,hd,vs,F,dd]:=lL I.bV e;show wpAny_notIn_of (ml J) hd dd.mapOf ?_;rw[<-(F.val k).iq, <-l];show h _ (I.tok _)
 .subst G;cases(show u=Value.ref b from J);let#[z,hd,xs,F,dd]:=oj I.bV e;show wpAny_notIn_heap (Qn L) (lj I.bV O) hd dd ?_;let q:=(F.val k).iq;rw[V9]at q;rw[<-q, <-l];show h _ (I.tok _)
theorem pj{h':Heap}{t':Nat}{F:HO}(I: ~~~H s)(L:JS (H a))(hs:Heap.SameBut a s.heap h')(G:∃q,h'.get? a=some q)(new:ck X.prog X.w (upd H a F) h' a F) :
  ~~~(upd H a F) { s with heap:=h',toks:=t' }:=
 I.write (x:=a) (e:=a) L (.inl rfl) (λb q J z=>(hs.2 b J).trans z) G new
theorem xV{P:vu}{w:Oe}{H':Hp}{h':Heap}{kvs:List (Key×V)}{vs:List (Key×Value)}(z:kvs.length<=sizeLine)(hd:(a==Qu)=false)(F:KV kvs vs)(dd:h'.DictOf (cf P w) a vs) :
  ck P w H' h' a (.dK kvs):=#[z,hd,vs,F,dd]
theorem AF{H':Hp}{Q:Unit->se->Prop}(hu:A.units+1<Rr)(I: ~~~H s)(g:kL H a y v H')(ry:RelV y u)(rv:RelV v r)(h:∀s',~~~H' s'->Q () s') :
  wpAny (model X.prog X.w) A (Ww (.ref a) u r) Q E s:=by
 rcases g with⟨kvs,k,e,R,l,O⟩|⟨kvs,k,b,e,R,U,l,O⟩
 .subst R O;let#[z,hd,vs,F,dd]:=sh I.bV e;let L:vs.length<=sizeLine:=(by rw[<-F.length];show z);let S:(putK kvs k v).length<=sizeLine:=(by have:=jH kvs k v;omega);show wpAny_setItem_pairs (hsz:=L) (ml ry) dd λh' G hs=>h _ ?_;let he:∃q,h'.get? a=some q:=let ⟨q,_,_,J,_⟩:=G;#[q,J];show pj I (by rw[e];show Qb) hs he (xV S hd (F.put k rv) G)
 .subst R O;cases(show u=Value.ref b from ry);let#[z,hd,xs,F,dd]:=JH I.bV e;let L:xs.length<=sizeLine:=(by rw[<-Paired.length F];show z);let S:(putK kvs k v).length<=sizeLine:=(by have:=jH kvs k v;omega);show wpAny_setItem_heap (hsz:=L) (Qn hu) (lj I.bV U) dd λh' G hs=>h _ ?_;let#[q,es,ep,J,h2,h3,h4,_,h5]:=G;show pj I (by rw[e];show Qb) hs #[q,J] #[S,hd,_,(F.put k U rv).keeps λc ys ec=>?_,q,es,ep,J,h2,h3,h4,h5];rw[ai (cM ec e (λz=>nomatch z))];show ec
variable{kvs:List (Key×V)}{k:Key}
theorem JE{v:V}{G:Xc}{Q:W8}(I: ~~~H s)(e:H a=some (.dK kvs))(O:RelV (kV k) u)(l:gq kvs k=some v)(S:G=[]\/∃x,G=[x])
  (h:∀J s',~~~(upd H a (.dK (qX kvs k))) s'->RelV v J->Q J s'):wpAny (model X.prog X.w) A (call (.builtin "dict.pop") (.ref a::u::G)) Q E s:=by
 let#[z,hd,vs,L,dd]:=sh I.bV e;let#[J,hw,ab]:=ic.some_of (v:=v) (o:=TZ vs k) (by rw[<-l];show L.val k);let hp:(keyPart u).isSome=true:=by
  cases k with
  |inl i=>let#[t,q]:=(show ∃t,u=Value.int i t from O);subst q;rfl
  |inr x=>let#[t,q]:=(show ∃t,u=Value.str x t from O);subst q;rfl
 let ha:argsOk "dict.pop" #[.ref a::u::G,[]]:=by
  rcases S with q|⟨x,q⟩
  .subst q;show PySem.F.args_dict_pop_2 _ _
  .subst q;show PySem.F.args_dict_pop_3 _ _ _
 show Ry Ui dd.typeIs PySem.F.entry_dict_pop ha (meets_dict_pop_there (cf X.prog X.w) a (ml O) G S hp)
  #[vs,J,dd,by rw[<-L.length];show z,hw,λh' R hs=>h J _ ?_ ab]
 let U:∃q,h'.get? a=some q:=let ⟨q,_,_,hq,_⟩:=R;#[q,hq];show pj I (by rw[e];show Qb) hs U (xV (Oy (B8 kvs k) z) hd (L.drop k) R)
theorem K0{Q:W8}(I: ~~~H s)(e:Rd H a (.dK kvs))(h:∀t s',~~~H s'->Q (.int kvs.length t) s'):wpAny (model X.prog X.w) A (call (.builtin "len") [.ref a]) Q E s:=by
 let#[z,hd,vs,F,dd]:=lL I.bV e;show call_len_dict hd dd (by rw[<-F.length];rw[HC]at z;omega) ?_;rw[<-F.length];show h _ _ (I.tok _)
end
def KO(i:OE):Prop:=∀ov z,Ur i false ov z=operate [ov,z] (UB ov z)
theorem Gd{prog:vu}{w:Oe}{A:Ov}{E:W8}{s:se}{env:SN}{value z:OE}{pos:Q5}{T id:String}{Q:W8}
  (U:VW (.type T) "__getitem__" = pure (some (.builtin id))) (hs:KO z)
  (h:wpAny (model prog w) A (eval value env) (λo J=>wpAny (model prog w) A (eval z env) (λi F=>F.TypeIs o T/\wpAny (model prog w) A (UB o i) Q E F) E J) E s) :
  wpAny (model prog w) A (eval (.Subscript value z pos) env) Q E s:=by
 show VX (OL h (λo J R=>OL R (λi F I=>?_) λ_ _ x=>x) λ_ _ x=>x);let#[O,I]:=I;unfold UL;show tp ?_;rw[getitemInPython_of_ne O.not_modules];show tp (wpAny_specialOf O U ?_);let G:wpAny (model prog w) A (Ur z false o i) (λr L=>wpAny (model prog w) A (letTemporaryGo value o r>>=λ_=>pure r) Q E L) E F:=by
  rw[hs o i];show wpAny_operating (OL I (λr L S=>tp (wpAny_letTemporaryGo (wpAny_pure S))) λ_ _ x=>x)
 first
  |show wpAny_pure (tp G)
  |show tp (wpAny_pure (tp G))
  |show tp G
theorem we{X:Cx}{pins:W7}{σ:St}{H:Hp}{s:se}{a:Addr}{y:V}{o:Option V}(I: ~~~H s)(g:fb H a y o):s.TypeIs (.ref a) "dict" := by
 rcases g with⟨kvs,k,e,_,_⟩|⟨kvs,k,b,e,_,_,_⟩
 .let#[_,_,vs,_,dd]:=lL I.bV e;show dd.typeIs
 .let#[_,_,xs,_,dd]:=oj I.bV e;show dd.typeIs
inductive DL(td ty:TE)(Q:VK)(x:V)(y:V)(H2:Hp):Prop
 |mk(a:_)(v:_)(_:x=.ref a)(_:fb H2 a y (some v))(_:Q v H2)
def J8(td ty:TE):TE:=λσ H Q=>td σ H λx H1=>ty σ H1 λy H2=>DL td ty Q x y H2
inductive Gn(ty td:TE)(Q:VK)(y:V)(x:V)(H2:Hp):Prop
 |mk(a:_)(o:_)(_:x=.ref a)(_:fb H2 a y o)(_:Q (.bl o.isSome) H2)
def MD(ty td:TE):TE:=λσ H Q=>ty σ H λy H1=>td σ H1 λx H2=>Gn ty td Q y x H2
inductive wx(ty td:TE)(Q:VK)(y:V)(x:V)(H2:Hp):Prop
 |mk(a:_)(o:_)(_:x=.ref a)(_:fb H2 a y o)(_:Q (.bl (!o.isSome)) H2)
def Ge(ty td:TE):TE:=λσ H Q=>ty σ H λy H1=>td σ H1 λx H2=>wx ty td Q y x H2
def JM(td ty tv:TE):TS:=λD σ H=>tv σ H λv H1=>td σ H1 λx H2=>ty σ H2 λy H3=>JB λa H4=>vy (x=.ref a) (kL H3 a y v H4) (D.nx σ H4)
section
variable{X:Cx}{o i e value:OE}{pos pos' tpos:Q5}{td ty tv:TE}
theorem hJ(S:X.A.units+1<Rr)(ho:PE X o td)(hi:PE X i ty)(hs:KO i):PE X (.Subscript o i pos) (J8 td ty):=by
 intros Q I h;show Gd PySem.F.slot_dict_getitem.lookup hs (b9 (ho pins s σ H _ I h) λu R ab=>?_);let#[x,H1,O,rx,L]:=ab;show b9 (hi pins R σ H1 _ O L) λiv s2 J=>?_;let#[y,H2,z,U,a,v,ex,g,q2]:=J;subst ex;obtain rfl:u=Value.ref a:=rx;show#[we z g,Ae S z g U λw' s3 I3 G=>#[v,H2,I3,G,q2]]
theorem Ex(G:X.A.units+1<Rr)(hi:PE X i ty)(ho:PE X o td):PC X .In i o (MD ty td):=by
 intros Q I h;show b9 (hi pins s σ H _ I h) λiv s1 z=>?_;let#[y,H1,U,L,J]:=z;show b9 (ho pins s1 σ H1 _ U J) λu s2 O=>?_;let#[x,H2,F,R,a,ov,ex,g,q2]:=O;subst ex;obtain rfl:u=Value.ref a:=R;show MY G F g L λs3 S=>#[.bl ov.isSome,H2,S,rfl,q2]
theorem jQ(G:X.A.units+1<Rr)(hi:PE X i ty)(ho:PE X o td):PC X .NotIn i o (Ge ty td):=by
 intros Q I h;show b9 (hi pins s σ H _ I h) λiv s1 O=>?_;let#[y,H1,U,L,J]:=O;show b9 (ho pins s1 σ H1 _ U J) λu s2 z=>?_;let#[x,H2,F,R,a,ov,ex,g,q2]:=z;subst ex;obtain rfl:u=Value.ref a:=R;show Fm G F g L λs3 S=>#[.bl (!ov.isSome),H2,S,rfl,q2]
theorem fZ(U:X.A.units+1<Rr)(ho:PE X o td)(hi:PE X i ty)(J:PE X value tv)(hs:RG value (some (.Subscript o i pos')) pos.line X.env=pure false) :
  PS X (.Assign [.Subscript o i pos'] value pos) (JM td ty tv):=by
 intros D I h;show wpAny_Assign_Subscript (b9 (J pins s σ H _ I h) λr S L=>?_) hs;let#[v,H1,R,rv,G]:=L;show b9 (ho pins S σ H1 _ R G) λu s2 ab=>?_;let#[x,H2,F,rx,q2]:=ab;show b9 (hi pins s2 σ H2 _ F q2) λiv s3 O=>?_;let#[y,H3,I3,ry,a,H4,ex,g,z]:=O;subst ex;obtain rfl:u=Value.ref a:=rx;show AF U I3 g ry rv λs4 I4=>#[σ,H4,I4,z]
end
theorem Dv{P:vu}{w:Oe}{H:Hp}(h:Heap)(z:Qu<h.objs.size):ck P w H (h.push { cls:=.type "dict",data:=.dict ([].toArray) }) h.objs.size (.dK []):=
 #[OJ _,beq_eq_false_iff_ne.mpr (D0 (Pb z)),[],.nil,Heap.DictOf.new h]
def HP:TE:=λ_ H Q=>∀p,H p=none->Q (.ref p) (upd H p (.dK []))
section
variable{X:Cx}{pos:Q5}
theorem fG:PE X (.Dict [] [] pos) HP:=λpins s σ H Q I h =>
 wpAny_Dict_empty #[.ref s⁻¹,_,I.laid (a:=s⁻¹) (o:=.dK []) (t':=s.toks) (λ_ _ q=>Heap.get?_push_of_some _ q) (G0 _) (Dv s.heap I.big),rfl,h _ (I.bV.fresh (G0 _))]
end
structure M1(X:Cx)(o:OE)(m:Str)(apos:Q5)(e:OE)(cpos:Q5):Prop where
 base:Q7 o m X.env (eval o X.env)=eval o X.env
 GY:((backTo cpos (starEach [e] X.env)).all (λx => !x.1)&&(Sa cpos (Qy [] X.env)).all (λx=>x.1.isSome)
  && decide (([e]:List OE).length+([]:List UD).length+(if ([]:List UD).isEmpty then 0 else 1)<30))=true
 line:(apos.endLine==cpos.line)=true
 trees:backTo cpos (starEach [e] X.env)=[(false,eval e X.env)]
structure M2(X:Cx)(o:OE)(m:Str)(apos:Q5)(e f:OE)(cpos:Q5):Prop where
 base:Q7 o m X.env (eval o X.env)=eval o X.env
 GY:((backTo cpos (starEach [e,f] X.env)).all (λx => !x.1)&&(Sa cpos (Qy [] X.env)).all (λx=>x.1.isSome)
  && decide (([e,f]:List OE).length+([]:List UD).length+(if ([]:List UD).isEmpty then 0 else 1)<30))=true
 line:(apos.endLine==cpos.line)=true
 trees:backTo cpos (starEach [e,f] X.env)=[(false,eval e X.env),(false,eval f X.env)]
def Lh(H:Hp)(a:Addr):Prop:=(∃kvs,Rd H a (.dK kvs))\/∃kvs,Rd H a (.dT kvs)
theorem tT{X:Cx}{pins:W7}{σ:St}{H:Hp}{s:se}{a:Addr}(I: ~~~H s)(d:Lh H a) :
  s.TypeIs (.ref a) "dict" /\ (∀b,Value.ref a=.ref b->∃z,s.heap.get? b=some z/\z.dict=none)/\(a==Qu)=false:=by
 rcases d with⟨kvs,e⟩|⟨kvs,e⟩
 .let#[_,hd,vs,_,dd]:=lL I.bV e;show#[dd.typeIs,λb q=>?_,hd];cases q;let#[z,_,_,h1,h2,_]:=dd;show#[z,h1,h2.2.1]
 .let#[_,hd,xs,_,dd]:=oj I.bV e;show#[dd.typeIs,λb q=>?_,hd];cases q;let#[z,_,_,h1,h2,_]:=dd;show#[z,h1,h2.2.1]
section
variable{X:Cx}{pins:W7}{σ:St}{H:Hp}{s:se}{a:Addr}{y d:V}{u r:Value}{o:Option V}{A:Ov}{E:W8}
theorem Jr{Q:W8}(R:A.units+1<Rr)(I: ~~~H s)(g:fb H a y o)(O:RelV y u)(h:∀L s',~~~H s'->RelV (o.getD .bB) L->Q L s') :
  wpAny (model X.prog X.w) A (call (.builtin "dict.get") [.ref a,u]) Q E s:=by
 rcases g with⟨kvs,k,e,J,l⟩|⟨kvs,k,b,e,J,S,l⟩
 .subst J;let#[z,hd,vs,G,dd]:=lL I.bV e;show Ry Rc dd.typeIs SJ (Tt _ _) (meets_dict_get (cf X.prog X.w) a (ml O) hd) #[_,dd.mapOf,h _ _ (I.tok _) ?_];rw[l];show(G.val k).getD rfl
 .subst J;cases(show u=Value.ref b from O);let#[z,hd,xs,G,dd]:=oj I.bV e;show Ry Rc dd.typeIs SJ (Tt _ _) (meetsH_dict_get (Sq (cf X.prog X.w)) a b hd) #[Qn R,k,xs,lj I.bV S,dd,h _ _ (I.tok _) ?_];rw[l];show(G.val k).getD rfl
theorem Jm{Q:W8}(R:A.units+1<Rr)(I: ~~~H s)(g:fb H a y o)(O:RelV y u)(rd:RelV d r)(h:∀L s',~~~H s'->RelV (o.getD d) L->Q L s') :
  wpAny (model X.prog X.w) A (call (.builtin "dict.get") [.ref a,u,r]) Q E s:=by
 rcases g with⟨kvs,k,e,J,l⟩|⟨kvs,k,b,e,J,S,l⟩
 .subst J;let#[z,hd,vs,G,dd]:=lL I.bV e;show Ry Rc dd.typeIs SJ (Tu _ _ _) (meets_dict_get_default (cf X.prog X.w) a (ml O) hd r) #[_,dd.mapOf,h _ _ (I.tok _) ?_];rw[l];show(G.val k).getD rd
 .subst J;cases(show u=Value.ref b from O);let#[z,hd,xs,G,dd]:=oj I.bV e;show Ry Rc dd.typeIs SJ (Tu _ _ _) (meetsH_dict_get_default (Sq (cf X.prog X.w)) a b hd r) #[Qn R,k,xs,lj I.bV S,dd,h _ _ (I.tok _) ?_];rw[l];show(G.val k).getD rd
end
inductive yY(td ty:TE)(σ:St)(Q:VK)(x:V)(H1:Hp):Prop
 |mk (a:_) (_:x=.ref a) (_:Lh H1 a) (_:ty σ H1 λy H2=>∃o,fb H2 a y o/\Q (o.getD .bB) H2):yY td ty σ Q x H1
def Ig(td ty:TE):TE:=λσ H Q=>td σ H λx H1=>yY td ty σ Q x H1
inductive yV(td ty tx:TE)(σ:St)(Q:VK)(x:V)(H1:Hp):Prop
 |mk (a:_) (_:x=.ref a) (_:Lh H1 a) (_:ty σ H1 λy H2=>tx σ H2 λz H3=>∃o,fb H3 a y o/\Q (o.getD z) H3):yV td ty tx σ Q x H1
def Ic(td ty tx:TE):TE:=λσ H Q=>td σ H λx H1=>yV td ty tx σ Q x H1
inductive zw(td ty:TE)(σ:St)(Q:VK)(x:V)(H1:Hp):Prop
 |mk (a:_) (_:x=.ref a) (_:Lh H1 a) (_:ty σ H1 λy H2=>∃kvs k v,H2 a=some (.dK kvs)/\y=kV k/\gq kvs k=some v/\Q v (upd H2 a (.dK (qX kvs k)))):zw td ty σ Q x H1
def Jd(td ty:TE):TE:=λσ H Q=>td σ H λx H1=>zw td ty σ Q x H1
section
variable{X:Cx}{o e f:OE}{apos cpos:Q5}{td ty tx:TE}
theorem B7(hu:X.A.units+1<Rr)(ho:PE X o td)(G:PE X e ty)(m:M1 X o "get" apos e cpos):PE X (.Call (.Attribute o "get" apos) [e] [] cpos) (Ig td ty):=by
 intros Q I h;show Rz m.base m.GY m.line Si Rc Uj (b9 (ho pins s σ H _ I h) λu U ac=>?_);let#[x,H1,z,rx,a,ex,d,R]:=ac;subst ex;obtain rfl:u=Value.ref a:=rx;let#[L,S,_]:=tT z d;show#[L,S,?_];rw[m.trees];show Calls.callWith_builtin rfl (Calls.evalArgs_plain (Calls.spliced_cons (b9 (G pins U σ H1 _ z R) λiv s2 ab=>?_)));let#[y,H2,O,ry,ov,g,q2]:=ab;show Calls.spliced_nil ?_;show Jr hu O g ry λw' s3 I3 J=>#[_,H2,I3,J,q2]
theorem wg(hu:X.A.units+1<Rr)(ho:PE X o td)(J:PE X e ty)(L:PE X f tx)(m:M2 X o "get" apos e f cpos):PE X (.Call (.Attribute o "get" apos) [e,f] [] cpos) (Ic td ty tx):=by
 intros Q I h;show Rz m.base m.GY m.line Si Rc Uj (b9 (ho pins s σ H _ I h) λu s1 ab=>?_);let#[x,H1,G,rx,a,ex,d,q1]:=ab;subst ex;obtain rfl:u=Value.ref a:=rx;let#[S,t2,_]:=tT G d;show#[S,t2,?_];rw[m.trees];show Calls.callWith_builtin rfl (Calls.evalArgs_plain (Calls.spliced_cons (b9 (J pins s1 σ H1 _ G q1) λiv s2 ⟨y,H2,U,ry,q2⟩ =>
  Calls.spliced_cons (b9 (L pins s2 σ H2 _ U q2) λfv s3 ⟨z,H3,I3,rz,ov,g,R⟩=>Calls.spliced_nil ?_))))
 show Jm hu I3 g ry rz λw' s4 I4 O=>#[_,H3,I4,O,R]
theorem iw(ho:PE X o td)(G:PE X e ty)(m:M1 X o "pop" apos e cpos):PE X (.Call (.Attribute o "pop" apos) [e] [] cpos) (Jd td ty):=by
 intros Q I h;show Rz m.base m.GY m.line Si Ui PySem.F.type_dict_pop (b9 (ho pins s σ H _ I h) λu s1 ab=>?_);let#[x,H1,z,rx,a,ex,d,S]:=ab;subst ex;obtain rfl:u=Value.ref a:=rx;let#[O,U,_]:=tT z d;show#[O,U,?_];rw[m.trees];show Calls.callWith_builtin rfl (Calls.evalArgs_plain (Calls.spliced_cons (b9 (G pins s1 σ H1 _ z S) λiv s2 L=>?_)));let#[y,H2,R,ry,kvs,k,v,ea,ey,l,q2]:=L;show Calls.spliced_nil ?_;subst ey;show JE R ea ry l (.inl rfl) λw' s3 I3 J=>#[v,_,I3,J,q2]
variable{pins:W7}{σ:St}{H:Hp}{s:se}{a:Addr}{kvs:List (Key×V)}{A:Ov}{E:W8}
variable{y:V}{u:Value}
theorem mY:fq X (.builtin "len") (λxs H Q=>∃a kvs,xs=[V.ref a]/\H a=some (.dK kvs)/\Q (.int kvs.length) H):=by
 intros xs us Q I r h;let#[a,kvs,rfl,F,q]:=h;let#[u,rfl,G]:=vals1 r;cases G;show K0 I (.inl F) λt s' z=>#[.int kvs.length,H,z,#[t,rfl],q]
variable{κ:Type}[DecidableEq κ]
theorem lC:∀{l:List κ}{k:κ},l.Nodup->¬ k∈l->(l++[k]).Nodup
 | [],k,_,_=>by simp
 |a::r,k,h,z=>by
  let#[h1,h2]:=Oo.mp h;change(a::(r++[k])).Nodup;show Oo.mpr #[λm=>?_,lC h2 λm=>z (vr.mpr (WU m))];rcases By.mp m with q|q
  .show h1 q
  .show z (vr.mpr (Or.inl (t6.mp q).symm))
variable{k:Key}{r:Value}{d:V}
theorem HG{Q:W8}(I: ~~~H s)(e:H a=some (.dK kvs))(ry:RelV (kV k) u)(rd:RelV d r)(hl:kvs.length<sizeLine)
  (h1:∀v J s',gq kvs k=some v->~~~H s'->RelV v J->Q J s') (h2:∀s',gq kvs k=none->~~~(upd H a (.dK (putK kvs k d))) s'->Q r s') :
  wpAny (model X.prog X.w) A (call (.builtin "dict.setdefault") [.ref a,u,r]) Q E s:=by
 let#[z,hd,vs,G,dd]:=sh I.bV e;show Ry Sj dd.typeIs PySem.F.entry_dict_setdefault (PySem.F.args_dict_setdefault_3 _ _ _) (kt_meets_setdefault (cf X.prog X.w) a (ml ry) hd r)
  #[vs,dd,by rw[<-G.length];show z,λv L=>?_,λhn h' O hs=>?_]
 .let q:=G.val k;cases l:gq kvs k with
  |none=>rw[l]at q;rwa[ic.none_of q]at L
  |some y =>
   rw[l]at q;let#[J,R,U]:=ic.some_of q;rwa[L]at R;show h1 y v _ l (I.tok _) U
 .let l:gq kvs k=none:=by
   cases l:gq kvs k with
   |none=>rfl
   |some y =>
    let q:=G.val k;rwa[l,hn]at q
  let S:∃q,h'.get? a=some q:=let ⟨q,_,_,hq,_⟩:=O;#[q,hq];show h2 _ l (pj I (by rw[e];show Qb) hs S (xV (by have:=jH kvs k d;show Oy this hl) hd (G.put k rd) O))
end
inductive zp(td ty tx:TE)(σ:St)(Q:VK)(x:V)(H1:Hp):Prop
 |mk (a:_) (_:x=.ref a) (_:Lh H1 a) (_:ty σ H1 λy H2=>tx σ H2 λz H3=>∃kvs k,H3 a=some (.dK kvs)/\y=kV k/\kvs.length<sizeLine/\(∀v,gq kvs k=some v->Q v H3)/\(gq kvs k=none->Q z (upd H3 a (.dK (putK kvs k z))))):zp td ty tx σ Q x H1
def IM(td ty tx:TE):TE:=λσ H Q=>td σ H λx H1=>zp td ty tx σ Q x H1
section
variable{X:Cx}{o e f:OE}{apos cpos:Q5}{td ty tx:TE}
theorem DT(ho:PE X o td)(O:PE X e ty)(R:PE X f tx)(m:M2 X o "setdefault" apos e f cpos):PE X (.Call (.Attribute o "setdefault" apos) [e,f] [] cpos) (IM td ty tx):=by
 intros Q I h;show Rz m.base m.GY m.line Si Sj PySem.F.type_dict_setdefault (b9 (ho pins s σ H _ I h) λu s1 ab=>?_);let#[x,H1,J,rx,a,ex,d,q1]:=ab;subst ex;obtain rfl:u=Value.ref a:=rx;let#[t1,t2,_]:=tT J d;show#[t1,t2,?_];rw[m.trees];show Calls.callWith_builtin rfl (Calls.evalArgs_plain (Calls.spliced_cons (b9 (O pins s1 σ H1 _ J q1) λiv s2 ⟨y,H2,I2,ry,q2⟩ =>
  Calls.spliced_cons (b9 (R pins s2 σ H2 _ I2 q2) λfv s3 ⟨z,H3,I3,L,kvs,k,ea,ey,hl,q3,U⟩=>Calls.spliced_nil ?_))))
 subst ey;show HG I3 ea ry L hl (λv w' s4 l G S=>#[v,_,G,S,q3 v l]) λs4 l G=>#[z,_,G,L,U l]
variable{pins:W7}{σ:St}{H:Hp}{s:se}{a:Addr}{o:Obj}{u:HO}{kvs:List (Key×V)}
theorem Inv.swap{w:HO}(I: ~~~H s)(h:H a=some u)(h1:∀o F,X.H₀ a≠some (.frz o F))(h2:∀xs,u≠.tup xs)(U:∀ps,u≠.tbl ps)(J:∀x,u≠.own x)(new:ck X.prog X.w (upd H a w) s.heap a w): ~~~(upd H a w) s:=by
 let ne:∀b,H b=none->b≠a:=λb q z=>(by rwa[z,h]at q);show#[I.ok,I.os,I.bare,#[I.base.keep,I.base.slot,λb o q S hx=>?_,I.base.there,λb xs q=>?_,λb o F q=>?_,λb ps q=>?_],I.loc,I.cell,?_,λy c q=>?_,λp R=>?_,λb v q=>?_,I.len]
 .let z:=I.base.free b o q S hx;rw[ai (ne b z)];show z
 .let z:=I.base.pH b xs q;rw[ai (λe=>h2 xs (by rw[e,h]at z;show DD z))];show z
 .let z:=I.base.oz b o F q;rw[ai (λe=>h1 o F (by rw[<-e];show q))];show z
 .let#[L,z]:=I.base.qk b ps q;show#[L,by rw[ai (λe=>U _ (by rw[e,h]at z;show DD z))];show z]
 .rw[ai (ne _ I.free)];show I.free
 .rw[ai (ne _ (I.gw y c q))];show I.gw y c q
 .let#[a1,a2,O]:=I.pin p R;show#[a1,by rw[ai (ne _ a2)];show a2,O]
 .by_cases G:b=a
  .subst G;rwa[ae]at q;show new
  .rw[ai G]at q;show(I.bV b v q).jl (λ_ _ _ z=>z) (λc z=>by rw[ai (λe=>J b (by rw[e,h]at z;show DD z))];show z) λc xs z=>by rw[ai (λe=>h2 xs (by rw[e,h]at z;show DD z))];show z
theorem Inv.freeze(I: ~~~H s)(h:H a=some (.dK kvs))(G:s.heap.get? a=some o)(h1:∀o F,X.H₀ a≠some (.frz o F)): ~~~(upd H a (.frz o (.dK kvs))) s :=
 I.swap h h1 (λ_ z=>nomatch z) (λ_ z=>nomatch z) (λ_ z=>nomatch z) #[G,(show ck X.prog X.w H s.heap a (.dK kvs)from I.bV a _ h)]
theorem Inv.HR(I: ~~~H s)(h:H a=some (.frz o (.dK kvs)))(h1:∀o F,X.H₀ a≠some (.frz o F)): ~~~(upd H a (.dK kvs)) s :=
 I.swap h h1 (λ_ z=>nomatch z) (λ_ z=>nomatch z) (λ_ z=>nomatch z) (show ck X.prog X.w H s.heap a (.frz o (.dK kvs))from I.bV a _ h).2
end
def JC(o:Obj):Nat:=match o.data with
 |.dict _ ep=>ep
 |_=>0
def Jk(a:Addr)(o:Obj)(kvs:List (Key×V)):It :=
 #[λi H=>H a=some (.frz o (.dK kvs))/\i<kvs.length,λi H x H'=>H'=H/\∃k v,kvs[i]?=some (k,v)/\x=kV k,λi H=>H a=some (.frz o (.dK kvs))/\kvs.length<=i]
theorem xQ{P:vu}{w:Oe}{k:Key}{u:Value}(h:(cf P w).is k u=true):RelV (kV k) u:=by
 rcases cH (show qE k u=true from h)with⟨i,t,rfl,rfl⟩|⟨x,t,rfl,rfl⟩
 .show#[t,rfl]
 .show#[t,rfl]
theorem Eg{P:vu}{w:Oe}{H:Hp}{h:Heap}{a:Addr}{o:Obj}{kvs:List (Key×V)}(ok:kq P w H h)(e:H a=some (.frz o (.dK kvs))):(a==Qu)=false/\∃vs,KV kvs vs/\h.DictAt (cf P w) a vs (JC o):=by
 let#[F,_,hd,vs,r,o',es,ep,h1,h2,z,G]:=(show ck P w H h a (.frz o (.dK kvs))from ok a _ e);rwa[F]at h1;let I:JC o=ep:=(by unfold JC;rw[z]);show#[hd,vs,r,o,es,F,h2,by rw[I];show z,G]
theorem zR{P:vu}{w:Oe}{K:Om}{tg:OE}(a it:Addr)(aB:a≠it)(o:Obj)(kvs:List (Key×V)):Turn P w K tg (Jk a o kvs) [it] it (λi h=>h.IsKeyIter it a i kvs.length (JC o)) where
 mem:=by simp
 obj:=λi h st b F=>by
  let e:b=it:=‹F›;subst e;let#[ob,h1,_,h3]:=st;show#[ob,h1,λv z=>by rwa[h3]at z]
 keep:=λi h h' st k=>st.at λo e=>k it (by simp) o e
 item:=by
  intro X hP hw U hc i pins s σ H E I J st hg;subst hP hw U;let#[ab,L]:=hg;let#[O,f1,f2,R,f4,f5]:=J it (by simp);let#[hd,vs,r,S]:=Eg I.bV ab;let G:=r.length;obtain⟨⟨k,x⟩,hx⟩:∃p,vs[i]?=some p:=#[vs[i]'(Qm L G),by simp];let am:∃v,kvs[i]?=some (k,v):=by
   let hi:i<kvs.length:=L;show#[(kvs[i]).2,?_];let e:=r.keys;let e1:(kvs.map (·.1))[i]?=(vs.map (·.1))[i]?:=(by rw[e]);rw[Od,Od,hx,ON hi]at e1;let e2:kvs[i].1=k:=DD e1;rw[ON hi, <-e2]
  let#[v,hv]:=am;rw[G]at st ⊢;show wpAny_pyNext_dict_item st S hx λas h' ao ac ap=>?_;let I1: ~~~H { s with heap:=h',toks:=s.toks }:=I.turned (λb o F e=>(ap.2 b F).trans e) O f1 R f4 f5;let#[ob,h1,h2,h3]:=id ac;show#[0,qM (s:={ s with heap:=h' }) (n := "dict_keyiterator") h1 h2 h3 aq #[kV k,H,I1,xQ ao,#[rfl,k,v,hv,rfl],ac,λb F=>(J b F).1]]
 done:=by
  intro X hP hw U hc i pins s σ H E I J st hg;subst hP hw U;let#[ab,L]:=hg;let#[O,f1,f2,R,f4,f5]:=J it (by simp);let#[hd,vs,r,S]:=Eg I.bV ab;let G:=r.length;rw[G]at st;show wpAny_pyNext_dict_end (I.ok.hd hc) st S (by simp;show le_of_eq_of_le (id (RW G)) L) λh' eb=>#[rfl,I.turned (t':=s.toks) (λb o F e=>eb b o F e) O f1 R f4 f5]
 self:=λ_ _ _ _ _ st h=>wpAny_pyIter_keyiter st h
def JU(H₀:Hp)(td:TE):TI:=λσ H R=>td σ H λx H1=>JB λa kvs=>MQ (x=.ref a) (H1 a=some (.dK kvs)) ((∀o z,H₀ a≠some (.frz o z))) (∀o,R (Jk a o kvs) (upd H1 a (.frz o (.dK kvs))))
section
variable{X:Cx}{tg:OE}
theorem oO{l:OE}{td:TE}(hl:PE X l td):PI X tg l (JU X.H₀ td):=by
 intros R I h;show b9 (hl pins s σ H _ I h) λv z ab=>?_;let#[x,H1,J,r1,a,kvs,e,L,hn,q]:=ab;subst e;cases r1;let#[_,hd,vs,S,dd]:=sh J.bV L;let#[F,es,ep,h1,h2,h3,h4]:=id dd;let G:=J.freeze L h1 hn;let lt:a<z⁻¹:=Heap.lt_size h1;let O:z.heap.DictAt (cf X.prog X.w) a vs (JC F):=#[F,es,h1,h2,by unfold JC;rw[h3],h4];show wpAny_pyIter_dict hd O ?_;show#[z⁻¹,[z⁻¹],_,Jk a F kvs,0,G.kept (t':=z.toks) λb o e=>Heap.get?_push_of_some _ e,zR a _ (Pb lt) F kvs,#[_,Heap.get?_push_size _ rfl,4],λb U=>?_,q F]
 .rw[S.length];rfl
 .let e:b=z⁻¹:=‹U›;subst e;show G.kD (G0 _) (G.bV.fresh (G0 _))
def Kr(H₀:Hp)(t:TS):TS:=λD σ H=>t { D with
 nx:=λF H'=>∃a o kvs,H' a=some (.frz o (.dK kvs))/\(∀o z,H₀ a≠some (.frz o z))/\D.nx F (upd H' a (.dK kvs))
 rt:=λv H'=>∃a o kvs,H' a=some (.frz o (.dK kvs))/\(∀o z,H₀ a≠some (.frz o z))/\D.rt v (upd H' a (.dK kvs)) } σ H
theorem y0{st:OB}{t:TS}(h:PS X st t):PS X st (Kr X.H₀ t):=by
 intros D I q;show b9 (h pins s σ H _ I q) λf R z=>?_;cases f with
 |next =>
  let#[J,H',F,a,o,kvs,L,G,O]:=z;show#[J,_,F.HR L G,O]
 |ret u =>
  let#[v,J,H',F,r,a,o,kvs,L,G,O]:=z;show#[v,J,_,F.HR L G,r,O]
 |brk=>show z
 |cont=>show z
end
theorem vG{a:Addr}{o:Obj}{kvs:List (Key×V)}{g:TG}{tb:TS}{D:Ends}{σ:St}{H:Hp}(Pv:Nat->St->Hp->Prop)(L:Pv 0 σ H)(O:∀i σ H,i<=kvs.length->Pv i σ H->H a=some (.frz o (.dK kvs)))
  (hs:∀i k v σ H,kvs[i]?=some (k,v)->Pv i σ H->g (kV k) σ H λF H2=>tb { D with nx:=Pv (i+1),ct:=Pv (i+1),bk:=D.nx } F H2) (hd:∀σ H,Pv kvs.length σ H->D.nx σ H) :
  ∃W:Nat->Nat->St->Hp->Prop,(∃m,W 0 m σ H)/\∀i m σ H,W i m σ H ->
   ((Jk a o kvs).stop i H/\D.nx σ H)\/((Jk a o kvs).go i H/\∃N:St->Hp->Prop,(∀G H',N G H'->∃I,I<m/\W (i+1) I G H')/\∀x H',(Jk a o kvs).EH i H x H'->g x σ H' λF H2=>tb { D with nx:=N,ct:=N,bk:=D.nx } F H2):=by
 show#[λi m σ H=>m=kvs.length-i/\i<=kvs.length/\Pv i σ H,#[kvs.length,by simp,OJ _,L],?_];rintro i m σ H ⟨rfl,hi,p⟩;let q:=O i σ H hi p;cases z:i<kvs.length
 .show .inr #[#[q,z],Pv (i+1),λG H' R=>#[kvs.length-(i+1),Qi (Qz kvs) i z,rfl,z,R],λx H' y=>?_];let#[e,k,v,J,ex]:=y;subst e ex;show hs i k v σ _ J p
 .let e:i=kvs.length:=af;subst e;show .inl #[#[q,G0 _],hd σ H p]
section
variable{X:Cx}
end
def Hv(lo st:Int)(n:Nat):It:=#[λi _=>i<n,λi H x H'=>H'=H/\x=.int (lo+i*st),λi _=>n<=i]
theorem vL{P:vu}{w:Oe}{K:Om}{tg:OE}(it:Addr)(lo st:Int)(n:Nat):Turn P w K tg (Hv lo st n) [it] it (λi h=>Rk h it (lo+(i:Nat)*st) ((n:Int)-(i:Nat)) st) where
 mem:=by simp
 obj:=λi h st b F=>by
  let e:b=it:=‹F›;subst e;show#[_,st,λv z=>by
   let z':Data.fields _=Data.cell v:=z;cases z']
 keep:=λi h h' st k=>k it (by simp) _ st
 item:=by
  intro X hP R O U i pins s σ H E I G ab S;subst hP R O;let#[J,f1,f2,L,f4,f5]:=G it (by simp);let W:=WH (prog:=X.prog) (w:=X.w) (I.ok.hd U) it lo st n;show W.item i s _ _ S ab λv h' tk hv ac kk=>?_;let#[t,rfl]:=hv;let I1: ~~~H { s with heap:=h',toks:=tk }:=I.turned (λb o F e=>kk b o ‹F› e) J f1 L f4 f5;show#[0,qM (s:={ s with heap:=h',toks:=tk }) (n := "range_iterator") ac rfl rfl aq #[.int (lo+i*st),H,I1,#[t,rfl],#[1],ac,λb F=>(G b F).1]]
 done:=by
  intro X hP R O U i pins s σ H E I G ab S;subst hP R O;let#[J,f1,f2,L,f4,f5]:=G it (by simp);show TC (I.ok.hd U) ab (by have:n<=i:=S;omega) λh' eb=>#[rfl,I.turned (t':=s.toks) (λb o F e=>eb b o F e) J f1 L f4 f5]
 self:=λ_ _ _ _ _ st h=>TF st h
def JG(ta:TA):TI:=λσ H R=>ta σ H λvs H1=>∃(i j st:Int)(n:Nat),vs=[.int i,.int j,.int st]/\Builtin.Range.small i j st=true/\Builtin.Range.rangeSize i j st=(n:Int)/\st≠0/\Builtin.divisionGoesByPylong (j-i) st=false/\R (Hv i st n) H1
section
variable{X:Cx}{tg:OE}
theorem AK{a b c:OE}{ta:TA}{p pos:Q5}(hg:Gl X "range")(hm:X.mg "range" = none)(ha:PA X [a,b,c] ta)(hs:starEach [a,b,c] X.env=[(false,eval a X.env),(false,eval b X.env),(false,eval c X.env)]:=by rfl)(L:starEach [b,c] X.env=[(false,eval b X.env),(false,eval c X.env)]:=by rfl) :
  PI X tg (.Call (.Name "range" p) [a,b,c] [] pos) (JG ta):=by
 intros R I h;show Call_ (jm I hg hm VQ (Pq (b9 (ha pos pins s σ H _ I h) λus F ⟨vs,H1,I1,r1,J⟩=>?_) (by rw[hs,L]) (by rw[L];rfl)));let#[i,j,st,n,e,J,q2,S,O,q]:=J;subst e;cases r1 with
 |cons r z =>
  cases z with
  |cons U z =>
   cases z with
   |cons ab z =>
    cases z;let#[t,rfl]:=r;let#[t',rfl]:=U;let#[ac,rfl]:=ab;show call_range_3 S ?_ (.inl O);show Sv (Vv ..) J ?_;let G: ~~~H1 { F with heap:=F.heap.push { cls:=.type "range",data:=.fields ([.int i t,.int j t',.int st ac].toArray) },toks:=F.toks }:=I1.kept λb o e=>Heap.get?_push_of_some _ e;show#[_,[_],2,H1,rfl,G.kept (t':=F.toks) λb o e=>Heap.get?_push_of_some _ e,vL _ i st n,?_,λb hb=>?_,q]
    .let e1:i+((0:Nat):Int)*st=i:=(by simp);let e2:(n:Int)-((0:Nat):Int)=Builtin.Range.rangeSize i j st:=(by rw[q2];omega);change Rk _ _ (i+((0:Nat):Int)*st) ((n:Int)-((0:Nat):Int)) st;rw[e1,e2];show Heap.get?_push_size _ rfl
    .let e:=t6.mp hb;subst e;show G.kD (G0 _) (G.bV.fresh (G0 _))
end
theorem CD(K:Om):Qj K (.type "int") (.type "tuple")=some false:=by with_unfolding_all rfl
theorem Cu(K:Om):Qj K (.type "int") (.type "list")=some false:=by with_unfolding_all rfl
theorem DJ(K:Om):Qj K (.type "int") (.type "dict")=some false:=by with_unfolding_all rfl
theorem Cc(K:Om):Qj K (.type "str") (.type "tuple")=some false:=by with_unfolding_all rfl
theorem Dx(K:Om):Qj K (.type "str") (.type "list")=some false:=by with_unfolding_all rfl
theorem Bn(K:Om):Qj K (.type "str") (.type "dict")=some false:=by with_unfolding_all rfl
theorem Di(K:Om):Qj K (.type "NoneType") (.type "tuple")=some false:=by with_unfolding_all rfl
theorem BG(K:Om):Qj K (.type "NoneType") (.type "list")=some false:=by with_unfolding_all rfl
theorem BP(K:Om):Qj K (.type "NoneType") (.type "dict")=some false:=by with_unfolding_all rfl
theorem Ih(K:Om):Qj K (.type "tuple") (.type "tuple")=some true:=rfl
end L2
namespace Srt
open PySem PyProof.Rows
section
variable{prog:vu}{w:Oe}{A:Ov}{E:W8}{s:se}{T:String}{r d:Addr}{n:Nat}{P:Nat->Value->Prop}{OK:Heap->Prop}
end
end Srt
namespace L2
open PySem PySem.Spec PyProof.Rows
section
variable{X:Cx}
theorem uK:fq X (.builtin "sorted") (λxs H Q=>∃(p:Addr)(F:List Int),xs=[.ref p]/\bA X.K H p (F.map V.int)/\F.Nodup/\F.length<=1000/\∀(l:Addr)(z:List Int),H l=none->z.Perm F->z.Pairwise (· <= ·)->Q (.ref l) (upd H l (.lst (z.map V.int)))):=by
 intros xs us Q I r h;let#[p,F,rfl,S,O,hn,q]:=h;let#[u,rfl,U]:=vals1 r;cases U;let#[its,G,pl,hz]:=I.list S;let R:=intsAre_of G;let hl:=G.length;rw[ti]at hl;show Srt.xD pl.isList R O af λout z a1 a2 L=>?_;let#[e,J]:=sortedAll_at s.heap its out;let hs:=HC;show#[.ref (s⁻¹+1),_,I.laid (t':=s.toks) (λb o e=>sortedAll_old e) (RT _) (show ck X.prog X.w _ _ _ (.lst (z.map V.int))from#[by rw[ti,a2.length_eq];omega,out.toList,e,nV a1,by simpa using J]),rfl,q _ z (I.bV.fresh (RT _)) a2 L]
end
end L2
namespace Srt
open PySem PyProof.Rows
theorem vI{prog:vu}{w:Oe}{A:Ov}{I:Addr}{fp wr:List Addr}{G:Array UZ->Array UZ->Prop}{n:Nat}{P:Nat->Value->Prop}{St:Nat->se->Prop}(W:WalksS prog w A I fp wr G n P St)(m:Nat)(F:Nat->Value->Prop) :
  WalksS prog w A I fp wr G (m+n) (λj v=>(j<m/\F j v)\/(m<=j/\P (j-m) v)) (λi s=>m<=i/\St (i-m) s) where
 sub:=W.sub
 grefl:=W.grefl
 gtrans:=W.gtrans
 frame:=λi s h' tk st J O=>#[st.1,W.frame (i-m) s h' tk st.2 J O]
 item:=λi s Q E hi st h=>W.item (i-m) s Q E (by have:=st.1;omega) st.2 λv s' L R z=>h v s' (.inr #[st.1,L]) #[by have:=st.1;omega,by rw[show i+1-m=i-m+1 by have:=st.1;omega];show R] z
 done:=λs Q E st h=>W.done s Q E (by have:=st.2;rwa [show m+n-m=n by omega]at this) h
 self:=λi s Q E st h=>W.self (i-m) s Q E st.2 h
section
variable{prog:vu}{w:Oe}{A:Ov}{s:se}{T:String}{r d:Addr}{n:Nat}{P:Nat->Value->Prop}{OK:Heap->Prop}
theorem xE{R:VS->se->Prop}(Z:PySem.W.KdlSrc prog w T r d n P OK)(hh:A.handled=none)(bV:OK s.heap)(S:Addr)(sr:S≠r)(sd:S≠d)(res:Value)(G:Xb)(c:Nat)(hS:s.heap.get? S=some { cls:=.type "list",data:=.seq G c })(hz:G.size+n<sizeLine)
  (k:∀h' tk L c',(∀b o,b≠S->s.heap.get? b=some o->h'.get? b=some o)->h'.get? S=some { cls:=.type "list",data:=.seq L c' }->ItemsOf (λj v=>(j<G.size/\G[j]?=some v)\/(G.size<=j/\P (j-G.size) v)) L (G.size+n)->R (.ok (.ret res)) { s with heap:=h',toks:=tk }) :
  wpAny (model prog w) A.in1 (Builtin.List.listExtendWith (.ref S) (.ref r) res) (λap s'=>match ap with|.done f=>R (.ok f) s' |.again c'=>c'.quiet=true/\QV (model prog w) A c' R s') (λe s'=>R (.error e) s') s:=by
 let nI:S≠s⁻¹:=Pb (Heap.lt_size hS);let#[oI,St,as,W,ab]:=Z.iter A.in1 s hh bV;let ao:S∉[s⁻¹,d]:=λz=>by
  rcases vr.mp z with e|z
  .show nI e
  .show sd (t6.mp z)
 let ac:∀(h:Heap)(c1 tk:Nat),St 0 h->(∀b o,b≠S->s.heap.get? b=some o->h.get? b=some o)->h.get? S=some { cls:=.type "list",data:=.seq G c1 } ->
   QV (model prog w) A (.builtin "list.extend.loop" #[[.ref S,.ref s⁻¹,res],[]]) R { s with heap:=h,toks:=tk }:=by
  intro h c1 tk q0 J O;let WS:=vI W.toS G.size λj v=>G[j]?=some v;show codeAny_extend_loopS WS (VO hz) S ao res n G.size _ G c1 af af #[G0 _,by rw[Nat.sub_self];show q0] O #[rfl,λj v e=>.inl #[?_,e]] λs' L c' mv e1 e2=>?_
  .show(QU.mp e).1
  .rw[Moved.eq_with mv];show k s'.heap s'.toks L c' (λb o I e=>mv.heap b o (λz=>?_) (J b o I e)) e1 e2;rcases vr.mp z with z|z
   .show I z
   .show Qh _ (t6.mp z▸Heap.lt_size e)
 unfold Builtin.List.listExtendWith;show tp (wpAny_typeOf (T:=T) (Z.type s bV) ?_);let ns:Builtin.List.listSameRef (.ref S) (.ref r)=false:=(by simp[Builtin.List.listSameRef,sr]);simp only[ns,Z.notList,Z.notTuple,Bool.or_false,P0,if_false];show tp (as _ _ ?_);let U:=Heap.get?_push_of_some oI hS;show tp (P5 (Z.hint _ _ _ _ (Z.keep _ _ bV λb _ o e=>Heap.get?_push_of_some _ e) ?_));show wpAny_ite_split (λ_=>?_) (λ_=>wpAny_pure #[plainId_quiet SQ _,ac _ c _ ab (λb o _ e=>Heap.get?_push_of_some _ e) U]);show tp (QC (tp ?_));change wpAny _ _ (updateSeq S (·.push .none)>>=λ_=>updateSeq S (·.pop)) _ _ _;let J:=QZ U (·.push Value.none);let O:=QZ J (·.pop);let ep:(G.push Value.none).pop=G:=Array.pop_push ..;show tp (wpAny_updateSeq U rfl (wpAny_updateSeq J rfl (wpAny_pure #[plainId_quiet SQ _,?_]) ?_ ?_) ?_ ?_)
 .rw[ep]at O;show ac _ _ _ (W.frame 0 _ _ ab λb I o e=>?_) (λb o I e=>?_) O
  .let am:b≠S:=λz=>ao (z▸I);show(Heap.get?_update_other _ _ (D0 am)).trans ((Heap.get?_update_other _ _ (D0 am)).trans e)
  .show(Heap.get?_update_other _ _ (D0 I)).trans ((Heap.get?_update_other _ _ (D0 I)).trans (Heap.get?_push_of_some _ e))
 .change(G.push Value.none).size<=sizeLine;rw[Tp];omega
 .change((G.push Value.none).pop).size<=sizeLine+1;rw[ep];omega
 .omega
 .change(G.push Value.none).size<=sizeLine+1;rw[Tp];omega
end
end Srt
namespace L2
open PySem PySem.Spec PyProof.Rows
theorem oP:∀{xs:List V}{vs:Xc},xs.length=vs.length->(∀(j:Nat)(x:V)(v:Value),xs[j]?=some x->vs[j]?=some v->RelV x v)->Vals xs vs
 | [],[],_,_=>.nil
 |x::xs,v::vs,z,h=>.cons (h 0 x v rfl rfl) (oP ‹z› λj a b F G=>h (j+1) a b ‹F› ‹G›)
 | [],_::_,z,_=>by simp at z
 |_::_,[],z,_=>by simp at z
section
variable{X:Cx}
inductive u0(x:V)(vs:List V)(H:Hp)(Q:VK):Prop
 |mk (l:_) (d:_) (xs:_) (kvs:_) (_:x=.ref l) (_:vs=[.ref d]) (_:H l=some (.lst xs)) (_:H d=some (.dK kvs)) (_:xs.length+kvs.length<sizeLine) (_:Q .bB (upd H l (.lst (xs++kvs.map λkv=>kV kv.1)))):u0 x vs H Q
theorem yc(hc:X.calm=true):Gh X "list.extend" u0:=by
 intros x vs v us Q I rx rv h;let#[l,d,xs,kvs,rfl,rfl,L,hD,hz,q]:=h;cases rx;let#[u,rfl,ru]:=rv.one;cases ru;let#[z,its,n,r,hl,e]:=I.oG L;let#[_,hd,vs,U,dd]:=sh I.bV hD;let#[ep,ac]:=dd.dictAt;let ao:=U.length;let ab:l≠d:=λz=>(by rwa[z,hD]at L);show RK (Sf Qf.plain PySem.F.entry_list_extend (Qf.check _ _ _ _ _ _ _ _ #[_,e,rfl] (PySem.F.args_list_extend_2 _ _) ?_));change wpAny _ _ (Builtin.List.listExtendWith (.ref l) (.ref d) .none) _ _ s;show Srt.xE (R:=λr s'=>match r with|.ok (.ret v)=>EP X pins σ Q v s' |.ok _=>False|.error e=>X.xe e s') (kdl_dict (knd:=cf X.prog X.w) (kvs:=vs) (ep:=ep) hd) (I.ok.hd hc) ac l ab ab .none its.toArray n e (by rw[BY];omega) λh' tk J c' k1 k2 k3=>#[.bB,_,?_,rfl,q];let#[sz,it]:=k3;let sz:J.size=its.length+vs.length:=(by rw[sz,BY]);show I.write (x:=l) (e:=l) (by rw[L];show trivial) (.inl rfl) k1 #[_,k2] (show ck X.prog X.w _ _ _ (.lst _)from#[?_,J.toList,c',oP ?_ λj x v hx hv=>?_,by simpa using k2])
 .rw[Oj,ti];omega
 .let al:J.toList.length=J.size:=P4;rw[Oj,ti];omega
 .let am:J[j]?=some v:=(by rw[<-Qc];show hv);rcases it j v am with⟨S,O⟩|⟨S,O⟩
  .rw[BY]at S;rw[Qp af]at hx;let#[b,eb,rb]:=r.get hx;have:its[j]?=some v:=‹O›;rwa[this]at eb;show rb
  .rw[BY]at S O;let#[k,y,e1,e2]:=O;rw[Qk af,Od]at hx;let G:(vs.map (·.1))[j-its.length]?=some k:=(by rw[Od,e1];rfl);rw[<-U.keys,Od]at G;rw[show j-xs.length=j-its.length by omega]at hx;cases e4:kvs[j-its.length]? with
   |none=>rwa[e4]at G
   |some kv =>
    rw[e4]at G hx;obtain rfl:kv.1=k:=DD G;obtain rfl:kV kv.1=x:=DD hx;show xQ e2
def Np(K:Om):R2:=λx y H Q=>∃p q xs ys,x=.ref p/\y=.ref q/\bM K H p xs/\bM K H q ys/\xs.all gg=true/\ys.all gg=true/\Q (.bl (kI xs ys)) H
theorem sL:∀{xs ys:List V},((Rj (min xs.length ys.length)).all (λj=>pA (xs.getD j .bB) (ys.getD j .bB))&&xs.length==ys.length)=kI xs ys:=by
 intro xs ys;cases e:xs.length=ys.length
 .rw[e,Nat.min_self,beq_self_eq_true,Bool.and_true, <-ky e,e]
 .rw[pR e,beq_eq_false_iff_ne.mpr e,Ut]
theorem De(hu:X.A.units<Rr):mF X (Px .Eq) (Np X.K):=by
 intros x y v u Q I rx ry h;let#[p,q,xs,ys,rfl,rfl,hx,hy,fx,fy,U]:=h;cases rx;cases ry;let#[its,r,pl,hz]:=I.tuple hx;let#[J,G,ac,ao]:=I.tuple hy;let hl:=r.length;let ab:=G.length;show SeqAt.eq_tupleAt (e:=λj=>pA (xs.getD j .bB) (ys.getD j .bB)) pl ac hu (λj h1 h2=>?_) #[.bl (kI xs ys),H,I,?_,U]
 .rw[BY]at h1 h2;let z:j<xs.length:=af;let F:j<ys.length:=af;let#[a,ea,R]:=r.get (i:=j) (x:=xs[j]) (by simp[z]);let#[b,O,rb]:=G.get (i:=j) (x:=ys[j]) (by simp[F]);let#[_,L]:=sN.mp ea;let#[_,am]:=sN.mp O;let S:xs.getD j .bB=xs[j]:=(by simp[z]);let g2:ys.getD j .bB=ys[j]:=(by simp[F]);change TM _ _ its.toArray[j] J.toArray[j] (pA (xs.getD j .bB) (ys.getD j .bB));let a1:its.toArray[j]=a:=‹L›;let a2:J.toArray[j]=b:=‹am›;rw[S,g2,a1,a2];show uL R rb (PL.mp fx _ (Qt z)) (PL.mp fy _ (Qt F))
 .change Value.bool _=Value.bool _;rw[BY,BY, <-hl, <-ab,sL]
variable{pins:W7}{σ:St}{H:Hp}{s:se}
end
end L2
namespace PySem
open PyProof.Rows
namespace F
end F
section
variable{prog:vu}{w:Oe}{K:Type}[DecidableEq K]{knd:KeyKind prog w K}{A:Ov}{E:W8}
end
end PySem
namespace L2
open PySem PySem.Spec PyProof.Rows
section
variable{X:Cx}{scope:RY}{cl:List (Str×Addr)}{t:Str×Str}{caps:List (Str×Nat)}{pins:W7}{σ:St}{H:Hp}{s:se}{C:Addr}{fp:List Addr}
variable{elt iter:OE}{ifs:List OE}{px pos:Q5}{es:List OE}{kx:Nat}{g:TG}{wi:TI}{tt:TT}{te:TE}
end
theorem Jv:OO "zip" = some (.type "zip"):=ak
theorem sP:OO "enumerate" = some (.type "enumerate"):=ak
theorem Hm:OO "min" = some (.builtin "min"):=ak
section
variable{X:Cx}{pins:W7}{σ:St}{H:Hp}{s:se}{h':Heap}
theorem Inv.lM{t':Nat}{ch:List Addr}(I: ~~~H s)(k:∀b o,b∉ch->s.heap.get? b=some o->h'.get? b=some o)(G:∀b∈ch,fK X pins H b): ~~~H { s with heap:=h',toks:=t' }:=by
 let J:∀b u,H b=some u->b∉ch:=λb u e z=>(by rwa[(G b z).1]at e);show I.step (g':=s.gens) (d':=s.drawn) (ch:=ch) (λb hb=>?_) (λb o _ _ F e _=>k b o F e) (λb o _ _ F e _=>#[o.slots,k b o F e]) (λ_ _ _ _ n=>n)
  (λb o F e=>#[o,k b o F e]) (λ_ _ e=>e) (λ_ _ _ e=>e) (λb ps e=>#[([].toArray),by rw[e];simp]) (λm O=>?_) (λb u e=>?_) I.bare
 .let#[_,S,f2,L,U,f5]:=G b hb;show#[L,S,U,f5]
 .let#[o,es,ep,R,r]:=O;show#[o,es,ep,k _ o (λz=>(G _ z).2.1 rfl) R,r]
 .show(I.bV b u e).jl (λc v F q=>k c v ?_ q) (λ_ q=>q) λ_ _ q=>q;rcases F with z|z
  .rw[z];show J b u e
  .show J c _ z
theorem Inv.B3{D:Addr}{ys:List V}{its:Xc}(I: ~~~H s)(f:fK X pins H D)(e:IsTup s.heap D its.toArray)(r:Vals ys its)(R:ys.length<=sizeLine) :
  ~~~(upd H D (.tup ys)) s:=by
 let#[G,S,f2,L,U,f5]:=f;let#[J,g,d,tk,os]:=s;show I.step (g':=g) (d':=d) (t':=tk) (h':=J) (ch:=[D]) (λb F=>?_) (λb o _ _ _ e _=>e) (λb o _ _ _ e _=>#[o.slots,e]) (λb o F _ n=>?_) (λb o _ e=>#[o,e]) (λb xs q=>?_) (λb o u q=>?_) (λb ps q=>#[([].toArray),?_]) (λm O=>O) (λb u q=>?_) I.bare
 .let z:b=D:=‹F›;subst z;show#[L,S,U,f5]
 .rw[ai (λz=>F (by simp[z]))];show n
 .rw[ai (av q G)];show q
 .rw[ai (av q G)];show q
 .rw[ai (av q G),q];simp
 .by_cases F:b=D
  .subst F;rwa[ae]at q;show#[R,its,r,e]
  .rw[ai F]at q;show(I.bV b u q).jl (λ_ _ _ z=>z) (λc z=>by rw[ai (av z G)];show z) λc xs z=>by rw[ai (av z G)];show z
end
def Kx(K:Om)(z l2:Addr):It :=
 #[λi H=>∃xs ys x y,bA K H z xs/\bA K H l2 ys/\xs[i]?=some x/\ys[i]?=some y,
  λi H v H'=>∃T x y,v=.ref T/\H T=none/\H'=upd H T (.tup [x,y])/\(∀xs,bA K H z xs->xs[i]?=some x)/\∀ys,bA K H l2 ys->ys[i]?=some y,
  λi H=>∃xs ys,bA K H z xs/\bA K H l2 ys/\(xs.length<=i\/ys.length<=i)]
def N2(z TI TO G F I l2:Addr)(i:Nat)(h:Heap):Prop:=IsZip h z TI TO .none/\IsPair h TI (.ref G) (.ref F)/\(∃a b,IsPair h TO a b)/\h.IsListIter G I i/\h.IsListIter F l2 i
theorem Bp:2<=sizeLine:=by rw[HC];decide
theorem B5{P:vu}{w:Oe}{K:Om}{es:List OE}{kx:Nat}{px:Q5}{z TI TO O R l1 l2:Addr}(D:ZipApart z TI TO O R l1 l2):Turn P w K (.Tuple es kx px) (Kx K l1 l2) [z,TI,TO,O,R] z (N2 z TI TO O R l1 l2) where
 mem:=by simp
 obj:=by
  rintro i h ⟨J,G,⟨a,b',L⟩,h1,h2⟩ b F;simp only[vr,Oh,or_false]at F;rcases F with rfl|rfl|rfl|rfl|rfl
  .show#[_,J,λv q=>by cases(show Data.fields _=Data.cell v from q)]
  .show#[_,G,λv q=>by cases(show Data.seq _ _=Data.cell v from q)]
  .show#[_,L,λv q=>by cases(show Data.seq _ _=Data.cell v from q)]
  .let#[o,e,c,d]:=h1;show#[o,e,λv q=>by rwa[d]at q]
  .let#[o,e,c,d]:=h2;show#[o,e,λv q=>by rwa[d]at q]
 keep:=λi h h' ⟨J,G,⟨a,b,L⟩,h1,h2⟩ k=>#[k z (by simp) _ J,k TI (by simp) _ G,#[a,b,k TO (by simp) _ L],h1.at λo e=>k O (by simp) o e,h2.at λo e=>k R (by simp) o e]
 item:=by
  intro X hP hw hK hc i pins s σ H E I U st hg;subst hP hw hK;let#[J,G,#[a,b,L],h1,h2]:=st;let#[xs,ys,x,y,q1,q2,e1,e2]:=hg;let#[aB,ac,p1,_]:=I.list q1;let#[aT,am,p2,_]:=I.list q2;let#[u1,a7,a3]:=ac.get e1;let#[u2,a5,a0]:=am.get e2;let f4:∀b∈[z,TO,O,R],fK X pins H b:=λb F=>U b (by simp only[vr,Oh,or_false]at F ⊢;rcases F with h|h|h|h<;>simp[h]);show wpAny_pyNext_zip_item D J G L h1 h2 p1.isList p2.isList (x:=u1) (y:=u2) ‹a7› ‹a5› λh' z' ap a1 a2 pT sz kk=>?_;let I1: ~~~H { s with heap:=h' }:=I.lM (t':=s.toks) (ch:=[z,TO,O,R]) (λb o F e=>kk b o (λq=>F (by simp[q])) (λq=>F (by simp[q])) (λq=>F (by simp[q])) (λq=>F (by simp[q])) e) f4;show#[0,wpAny_letOwnedTupleGo_zip z' λab z2 S=>?_];replace S:Heap.SameBut z h' ab:=S;let I2: ~~~H { s with heap:=ab }:=I1.lM (s:={ s with heap:=h' }) (h':=ab) (t':=s.toks) (ch:=[z]) (λb o F e=>(S.2 b (λq=>F (by simp[q]))).trans e) λb F=>U b (by simp only[t6]at F;simp[F]);let fT:fK X pins H s⁻¹:=I.kD (G0 _) (I.bV.fresh (G0 _));let nz:s⁻¹≠z:=U5 (Heap.lt_size J);let a4:IsPair ab s⁻¹ u1 u2:=S.extBut _ _ nz pT;let I3: ~~~(upd H s⁻¹ (.tup [x,y])) { s with heap:=ab }:=I2.B3 (its:=[u1,u2]) fT #[_,a4,rfl,0] (.cons a3 (.cons a0 .nil)) Bp;show#[.ref s⁻¹,_,I3,rfl,#[_,x,y,rfl,fT.1,rfl,λzs ao=>by rw[I.jM ao q1];show e1,λzs ao=>by rw[I.jM ao q2];show e2],#[z2,S.extBut _ _ D.TIz (kk _ _ D.TIz D.TITO D.TIi1 D.TIi2 G),#[2,S.extBut _ _ D.TOz ap],a1.extBut S.extBut D.i1z,a2.extBut S.extBut D.i2z],λb F=>?_];let nb:b≠s⁻¹:=by
   intro q;simp only[vr,Oh,or_false]at F;let#[o1,g1,_]:=h1;let#[o2,g2,_]:=h2;rcases F with e|e|e|e|e<;>rw[e]at q
   .show nz q.symm
   .show Pb (Heap.lt_size G) q
   .show Pb (Heap.lt_size L) q
   .show Pb (Heap.lt_size g1) q
   .show Pb (Heap.lt_size g2) q
  rw[ai nb];show(U b F).1
 done:=by
  intro X hP hw hK hc i pins s σ H E I U st hg;subst hP hw hK;let#[J,G,#[a,b,L],h1,h2]:=st;let#[xs,ys,q1,q2,e]:=hg;let#[aB,ac,p1,_]:=I.list q1;let#[aT,am,p2,_]:=I.list q2;let as:=ac.length;let a6:=am.length;let f4:∀b∈[z,TO,O,R],fK X pins H b:=λb F=>U b (by simp only[vr,Oh,or_false]at F ⊢;rcases F with h|h|h|h<;>simp[h]);show wpAny_pyNext_zip_end (I.ok.hd hc) D J G L h1 h2 p1.isList p2.isList (e.elim (λe=>.inl (by simp;show le_of_eq_of_le (id (RW as)) e)) λe=>.inr (by simp;show le_of_eq_of_le (id (RW a6)) e)) λh' kk=>#[rfl,I.lM (t':=s.toks) (ch:=[z,TO,O,R]) (λb o F e=>kk b o (λq=>F (by simp[q])) (λq=>F (by simp[q])) (λq=>F (by simp[q])) (λq=>F (by simp[q])) e) f4]
 self:=λ_ _ _ _ _ st h=>Vq st.1 h
section
variable{X:Cx}
def MB(K:Om)(ta:TA):TI:=λσ H R=>ta σ H λvs H1=>JB λz l2=>MQ (vs=[.ref z,.ref l2]) ((∃xs,bA K H1 z xs)) ((∃ys,bA K H1 l2 ys)) (R (Kx K z l2) H1)
theorem Cg{es:List OE}{kx:Nat}{px:Q5}{a b:OE}{ta:TA}{p pos:Q5}(hg:Gl X "zip")(hm:X.mg "zip" = none)(ha:PA X [a,b] ta)(hs:starEach [a,b] X.env=[(false,eval a X.env),(false,eval b X.env)]:=by rfl)(O:starEach [b] X.env=[(false,eval b X.env)]:=by rfl) :
  PI X (.Tuple es kx px) (.Call (.Name "zip" p) [a,b] [] pos) (MB X.K ta):=by
 intros R I h;show Call_ (jm I hg hm Jv (Pq (b9 (ha pos pins s σ H _ I h) λus z ⟨vs,H1,F,r1,U⟩=>?_) (by rw[hs,O]) (by rw[O];rfl)));let#[J,l2,rfl,#[xs,g1],#[ys,g2],q]:=U;let#[u1,u2,rfl,e1,e2]:=vals2 r1;obtain rfl:u1=Value.ref J:=e1;obtain rfl:u2=Value.ref l2:=e2;let#[aB,a0,p1,_]:=F.list g1;let#[aT,as,p2,_]:=F.list g2;let ac:J<z⁻¹:=let ⟨_,e,_⟩:=p1.isList;Heap.lt_size e;let am:l2<z⁻¹:=let ⟨_,e,_⟩:=p2.isList;Heap.lt_size e;show call_zip_2 p1.isList p2.isList λh' G S ab ap ao hsz hk=>?_;show Vq G ?_;show#[z⁻¹+4,[z⁻¹+4,z⁻¹+2,z⁻¹+3,z⁻¹,z⁻¹+1],2,H1,rfl,F.kept (t':=z.toks) hk,B5 (zipApart_new ac am),#[G,S,#[2,ab],ap,ao],λb L=>?_,q];let le:z⁻¹<=b:=by
  simp only[vr,Oh,or_false]at L;rcases L with e|e|e|e|e<;>rw[e]<;>first|show G0 _|show Vr _ _
 show F.kD le (F.bV.fresh le)
def JI(K:Om)(l:Addr):It :=
 #[λi H=>∃xs x,bA K H l xs/\xs[i]?=some x,
  λi H v H'=>∃T x,v=.ref T/\H T=none/\H'=upd H T (.tup [.int i,x])/\∀xs,bA K H l xs->xs[i]?=some x,
  λi H=>∃xs,bA K H l xs/\xs.length<=i]
def N6(e it l:Addr)(i:Nat)(h:Heap):Prop:=(∃z,IsEnum h e it i z)/\h.IsListIter it l i
theorem Aq{P:vu}{w:Oe}{K:Om}{es:List OE}{kx:Nat}{px:Q5}{e it l:Addr}(D:e≠it):Turn P w K (.Tuple es kx px) (JI K l) [e,it] e (N6 e it l) where
 mem:=by simp
 obj:=by
  rintro i h ⟨⟨R,G⟩,h1⟩ b F;simp only[vr,Oh,or_false]at F;rcases F with rfl|rfl
  .show#[_,G,λv q=>by cases(show Data.fields _=Data.cell v from q)]
  .let#[o,e,c,d]:=h1;show#[o,e,λv q=>by rwa[d]at q]
 keep:=λi h h' ⟨⟨R,G⟩,h1⟩ k=>#[#[R,k e (by simp) _ G],h1.at λo q=>k it (by simp) o q]
 item:=by
  intro X hP hw hK hc i pins s σ H E I J st hg;subst hP hw hK;let#[#[R,G],h1]:=st;let#[xs,x,S,U]:=hg;let#[am,ab,p1,_]:=I.list S;let#[u1,aB,ao]:=ab.get U;show wpAny_pyNext_enum_item G h1 p1.isList (x:=u1) ‹aB› D λh' eo a1 pT sz kk=>?_;let I1: ~~~H { s with heap:=h',toks:=s.toks+1 }:=I.lM (t':=s.toks+1) (ch:=[e,it]) (λb o F q=>kk b o (λz=>F (by simp[z])) (λz=>F (by simp[z])) q) J;show#[0,wpAny_letOwnedTupleGo_enum eo λO e2 L=>?_];replace L:Heap.SameBut e h' O:=L;let I2: ~~~H { s with heap:=O,toks:=s.toks+1 }:=I1.lM (s:={ s with heap:=h',toks:=s.toks+1 }) (h':=O) (t':=s.toks+1) (ch:=[e]) (λb o F q=>(L.2 b (λz=>F (by simp[z]))).trans q) λb F=>J b (by simp only[t6]at F;simp[F]);let fT:fK X pins H s⁻¹:=I.kD (G0 _) (I.bV.fresh (G0 _));let ne:s⁻¹≠e:=U5 (Heap.lt_size G);let ap:=L.extBut _ _ ne pT;let I3: ~~~(upd H s⁻¹ (.tup [.int i,x])) { s with heap:=O,toks:=s.toks+1 }:=I2.B3 (its:=[.int i s.toks,u1]) fT #[_,ap,rfl,0] (.cons #[0] (.cons ao .nil)) Bp;show#[.ref s⁻¹,_,I3,rfl,#[_,x,rfl,fT.1,rfl,λzs as=>by rw[I.jM as S];show U],#[#[u1,?_],a1.extBut L.extBut (D0 D)],λb F=>?_]
  .let ec:((i+1:Nat):Int)=(i:Int)+1:=(by push_cast;rfl);rw[ec];show e2
  .let nb:b≠s⁻¹:=by
    intro q;simp only[vr,Oh,or_false]at F;let#[o1,g1,_]:=h1;rcases F with z|z<;>rw[z]at q
    .show ne q.symm
    .show Pb (Heap.lt_size g1) q
   rw[ai nb];show(J b F).1
 done:=by
  intro X hP hw hK hc i pins s σ H E I J st hg;subst hP hw hK;let#[#[R,G],h1]:=st;let#[xs,S,U]:=hg;let#[am,ab,p1,_]:=I.list S;let ac:=ab.length;let#[f0,f1,f2,f3,f4,f5]:=J it (by simp);show wpAny_pyNext_enum_end (I.ok.hd hc) G h1 p1.isList (by simp;show le_of_eq_of_le (id (RW ac)) U) λh' eb=>#[rfl,I.turned (t':=s.toks) (λb o F q=>eb b o F q) f0 f1 f3 f4 f5]
 self:=λ_ _ _ _ _ st h=>let ⟨⟨_,G⟩,_⟩:=st;Vh G h
def K5(K:Om)(ta:TA):TI:=λσ H R=>ta σ H λvs H1=>∃l,vs=[.ref l]/\(∃xs,bA K H1 l xs)/\R (JI K l) H1
theorem FN{es:List OE}{kx:Nat}{px:Q5}{a:OE}{ta:TA}{p pos:Q5}(hg:Gl X "enumerate")(hm:X.mg "enumerate" = none)(ha:PA X [a] ta)(hs:starEach [a] X.env=[(false,eval a X.env)]:=by rfl) :
  PI X (.Tuple es kx px) (.Call (.Name "enumerate" p) [a] [] pos) (K5 X.K ta):=by
 intros R I h;show Call_ (jm I hg hm sP (Pq (b9 (ha pos pins s σ H _ I h) λus z S=>?_) hs rfl));let#[vs,H1,F,r1,L]:=S;let#[l,rfl,#[xs,U],q]:=L;let#[u1,rfl,O]:=vals1 r1;obtain rfl:u1=Value.ref l:=O;let#[ab,ac,p1,_]:=F.list U;show call_enumerate_list p1.isList λh' G hi hsz hk=>?_;show Vh G ?_;show#[z⁻¹+1,[z⁻¹+1,z⁻¹],2,H1,rfl,F.kept (t':=z.toks) hk,Aq (l:=l) (Nat.succ_ne_self _),#[#[_,G],hi],λb J=>?_,q];let le:z⁻¹<=b:=by
  simp only[vr,Oh,or_false]at J;rcases J with e|e<;>rw[e]<;>first|show G0 _|show Vr _ _
 show F.kD le (F.bV.fresh le)
end
theorem BM{K:Om}{a:Addr}{xs:List V}{g:TG}{tb:TS}{D:Ends}{σ:St}{H:Hp}(Pv:Nat->St->Hp->Prop)(O:Pv 0 σ H)(S:∀i σ H,i<=xs.length->Pv i σ H->bA K H a xs)
  (hs:∀i x σ H T,xs[i]?=some x->H T=none->Pv i σ H->g (.ref T) σ (upd H T (.tup [.int i,x])) λG H2=>tb { D with nx:=Pv (i+1),ct:=Pv (i+1),bk:=D.nx } G H2) (hd:∀σ H,Pv xs.length σ H->D.nx σ H) :
  ∃W:Nat->Nat->St->Hp->Prop,(∃m,W 0 m σ H)/\∀i m σ H,W i m σ H ->
   ((JI K a).stop i H/\D.nx σ H)\/((JI K a).go i H/\∃N:St->Hp->Prop,(∀I H',N I H'->∃J,J<m/\W (i+1) J I H')/\∀x H',(JI K a).EH i H x H'->g x σ H' λG H2=>tb { D with nx:=N,ct:=N,bk:=D.nx } G H2):=by
 show#[λi m σ H=>m=xs.length-i/\i<=xs.length/\Pv i σ H,#[xs.length,by simp,OJ _,O],?_];rintro i m σ H ⟨rfl,hi,p⟩;let F:=S i σ H hi p;cases z:i<xs.length
 .show .inr #[#[xs,xs[i],F,by simp[z]],Pv (i+1),λI H' U=>#[xs.length-(i+1),Qi (Qz xs) i z,rfl,z,U],?_];rintro v H' ⟨T,x,rfl,R,rfl,L⟩;show hs i x σ H T (L xs F) R p
 .let e:i=xs.length:=af;subst e;show .inl #[#[xs,F,G0 _],hd σ H p]
section
variable{X:Cx}
inductive yU(H₀:Hp)(t:TE)(Q:VK)(v:V)(H':Hp):Prop
 |mk(a:_)(o:_)(kvs:_)(_:H' a=some (.frz o (.dK kvs)))(_:(∀o u',H₀ a≠some (.frz o u')))(_:Q v (upd H' a (.dK kvs)))
def IU(H₀:Hp)(t:TE):TE:=λσ H Q=>t σ H λv H'=>yU H₀ t Q v H'
theorem zF{e:OE}{t:TE}(h:PE X e t):PE X e (IU X.H₀ t):=by
 intros Q I q;show b9 (h pins s σ H _ I q) λu O z=>?_;let#[v,H',F,r,a,o,kvs,J,G,L]:=z;show#[v,_,F.HR J G,r,L]
variable{tg:OE}
theorem XP.passes{pins:W7}{R:XR}(ab:X.stack=X.env::X.outer)(F:X.env.frame=some X.env.locals):Vk (model X.prog X.w) X.A X.env (XP X pins R):=by
 intro x O hx;let#[e,cls,a0,B,am,H1,rfl,G,c2,be,new,q]:=hx;let jl:B.StaysIn O.heap:=by
  rcases G with z|z|⟨_,_,z⟩
  .show z.1
  .show z.1
  .show z.1
 let I1:=be.now jl;let S:=I1.ok.frames;rw[ab]at G S;show pU S F G c2 λU held ac c4=>?_;let#[g1,g2,g3,oe,vs,T,oT,ts,k1,#[k2,k3],L,k5,k6,k7,k8,I,J]:=id held;change wpAny _ _ _ _ _ _;rw[F];show tp (QB k1 L k5 ?_);rw[WX (by simp)];unfold setFlight;show tp (QB k1 L k5 ?_);rw[WY (by simp)];show wpAny_setField k8 I (QU.mp J).1 ?_;let eu:=Heap.update_setField_same U T oT ts 3 (Vl X.env.locals) k8 I J;change XP X pins R (.ref e) { O with heap:=U.update T (Obj.mapFields λx=>x.setIfInBounds 3 (Vl X.env.locals)) };rw[eu];show#[e,cls,a0,B,am,H1,rfl,.inr (.inr #[X.env.locals,F,by rw[ab];show held]),c4,λh' tk k u=>be h' tk k (ac.trans u),new,q]
theorem XP.fh{pins pl:W7}{R:XR}{x:Value}{s':se}(h:XP X (pins++pl) R x s'):XP X pins R x s':=by
 let#[e,cls,G,B,F,H1,rfl,I,z,L,new,q]:=h;show#[e,cls,G,B,F,H1,rfl,I,z,λh' tk k u=>(L h' tk k u).fh,#[new.old,new.loc,new.fs,new.cell,λp J=>new.pin p ?_,new.free],q];rcases By.mp J with m|m
 .show Pc _ m
 .show Of _ (Pc _ m)
def JO(wi:TI)(g:TG)(tb:pJ):pJ:=λD R σ H=>E8 wi g (λz F H'=>tb z R F H') D σ H
theorem zG{iter:OE}{body:List OB}{wi:TI}{g:TG}{tb:pJ}{pos:Q5}(a6:X.stack=X.env::X.outer)(hf:X.env.frame=some X.env.locals)(hc:X.calm=true)(hi:PI X.nK tg iter wi)(hg:PG X.nK tg g)(F:oH X body tb)
  (hs:∀x,QO iter X.env x=pure x:=by intro _;rfl):BZ X (.For tg iter body [] pos) (JO wi g tb):=by
 intros D R I h;let hp:Vk (model X.prog X.w) X.A X.env (XP X pins R):=XP.passes a6 hf;show Wr (nx (hi pins s σ H _ (I.gR _) h) λv s1 h1=>nx h1 λa8 s2 h2=>?_) hs;let#[it,fp,tn,J,H2,e,a0,T,as,a7,W,#[m0,w0],aT]:=h2;let I2:=a0.cu;let f2:∀b∈fp,fK X pins H2 b:=λb F=>a7 b F;subst e;let ac:∀{H':Hp},(∀b∈fp,H' b=none)->∀b∈fp,fK X pins H' b:=λhn b F=>#[hn b F,(f2 b F).2];show UH (λn s'=>∃i ab H',Inv X pins ab H' s'/\tn i s'.heap/\(∀b∈fp,H' b=none)/\W i n ab H') ?_ m0 #[(0),σ,H2,I2,as,λb F=>(f2 b F).1,w0];rintro n s3 ⟨i,U,H3,I3,ap,ao,w3⟩;rcases aT i n U H3 w3 with⟨a3,qn⟩|⟨go,N,hN,step⟩
 .show Pm hp (b9 (T.done X rfl rfl rfl hc i pins s3 U H3 _ I3 (ac ao) ap a3) λr s4 ⟨hr,I4⟩=>?_);subst hr;show Qa #[U,H3,I4,qn]
 .show Pm hp (b9 (T.item X rfl rfl rfl hc i pins s3 U H3 _ I3 (ac ao) ap go) λr s4 ⟨u,hr,h4⟩=>?_);subst hr;show Pm hp (b9 h4 λ_ s5 ⟨x,H5,I5,r5,y5,am,a4⟩=>?_);let aB:=I5.pinned (ac a4) (T.obj _ _ am);show Pm hp (nx (hg _ s5 U H5 x u _ (aB.gR _) r5 (step x H5 y5)) λ_ s6 ⟨a5,H6,I6,q6⟩=>?_);show Pm hp (OL (F _ s6 a5 H6 _ R I6.cu q6) (λf s7 S=>?_) λ_ _ z=>z.fh);let again:∀{G:St}{O:Hp},Inv X (pins++kC fp s5.heap) G O s7->N G O->∃m,m<n/\∃i ab H',Inv X pins ab H' s7/\tn i s7.heap/\(∀b∈fp,H' b=none)/\W i m ab H':=λ{G O} L n7=>by
   let#[m',hm,w7]:=hN G O n7;show#[m',hm,i+1,G,O,L.fh,T.keep _ _ _ am λb F o e=>(L.pin (b,o) (Of _ (Of _ (eD F e)))).1,λb F=>?_,w7];let#[o,e,d]:=T.obj _ _ am b F;show(L.pin (b,o) (Of _ (Of _ (eD F e)))).2.1
  cases f with
  |next=>let#[G,O,L,n7]:=S;show again L n7
  |cont=>let#[G,O,L,n7]:=S;show again L n7
  |brk=>let#[G,O,L,S]:=S;show#[G,O,L.fh,S]
  |ret v=>let#[x7,G,O,L,r7,S]:=S;show#[x7,G,O,L.fh,r7,S]
variable{C:Addr}{x:Str}{np hpos pos:Q5}{body suite:List OB}{b₀:OB}{tb:pJ}{ts:TS}
end
end L2
namespace Srt
open PySem PyProof.Rows
section
variable{prog:vu}{w:Oe}{A:Ov}{E:W8}{s:se}{a₀:Array Oi}
variable{T:String}{r d:Addr}{n:Nat}{P:Nat->Value->Prop}{OK:Heap->Prop}
end
end Srt
variable{P:vu}{w:Oe}{K:Om}{mg:W9}{base:Heap}{f:Addr}{fd:t7}
namespace L2
open PySem PySem.Spec PyProof.Rows
section
variable{X:Cx}
end
theorem sg{K:Om}{a:Addr}{xs:List V}{g:TG}{tb:pJ}{R:XR}{D:Ends}{σ:St}{H:Hp}(Pv:Nat->St->Hp->Prop)(I:Pv 0 σ H)(J:∀i σ H,i<=xs.length->Pv i σ H->bA K H a xs)
  (hs:∀i x σ H,xs[i]?=some x->Pv i σ H->g x σ H λz H2=>tb { D with nx:=Pv (i+1),ct:=Pv (i+1),bk:=D.nx } R z H2) (hd:∀σ H,Pv xs.length σ H->D.nx σ H) :
  ∃W:Nat->Nat->St->Hp->Prop,(∃m,W 0 m σ H)/\∀i m σ H,W i m σ H ->
   ((EK K a).stop i H/\D.nx σ H)\/((EK K a).go i H/\∃N:St->Hp->Prop,(∀G H',N G H'->∃F,F<m/\W (i+1) F G H')/\∀x H',(EK K a).EH i H x H'->g x σ H' λz H2=>tb { D with nx:=N,ct:=N,bk:=D.nx } R z H2):=
 dg (tb:=λD σ H=>tb D R σ H) Pv I J hs hd
end L2
namespace Sp
open PySem PySem.StrLaws PySem.Builtin PySem.Builtin.Str
end Sp
namespace L2
open PySem PySem.Spec PyProof.Rows PySem.Builtin PySem.Builtin.Str
section
variable{X:Cx}
theorem lu(J:X.calm=true):fq X (.builtin "sum") (λxs H Q=>∃(p:Addr)(z:List Int),xs=[.ref p]/\bA X.K H p (z.map V.int)/\Q (.int z.sum) H):=by
 intros xs us Q I r h;let#[p,z,rfl,R,q]:=h;let#[u,rfl,S]:=vals1 r;cases S;let#[its,U,pl,hz]:=I.list R;let F:=intsAre_of U;let O:=F.numsOf;let#[ys,e]:=F.allInts.items;let G:=pl.isList;rw[e]at G;show sum_intListG (I.ok.hd J) G λh' tk t' L=>?_;let hs:preSum (numAt ys) ys.size=z.sum:=by
  rw[preSum_eq,O8 (by simp), <-nums_intItems, <-e];rw[show its.toArray.toList=its from rfl,O]
 show#[.int z.sum,H,I.kept L,#[_,by rw[hs]],q]
theorem Aw:fq X (.type "range") (λxs H Q=>∃i j:Int,xs=[.int i,.int j]/\∀p,H p=none->Q (.ref p) (upd H p (.rng i j))):=by
 intros xs us Q I r h;let#[i,j,rfl,q]:=h;let#[u,z,rfl,#[t,rfl],#[t',rfl]]:=vals2 r;show call_range_2 #[.ref s⁻¹,_,I.laid (λb o e=>Heap.get?_push_of_some _ e) (G0 _) ?_,rfl,q _ (I.bV.fresh (G0 _))];show#[2,_,Heap.get?_push_size s.heap rfl]
def y4(K:Om):List V->Hp->VK->Prop:=λxs H Q=>∃p ys,xs=[.ref p]/\(bA K H p ys\/bM K H p ys)/\Q (.int (ys.length:Nat)) H
theorem AA:fq X (.builtin "len") (y4 X.K):=bS
variable{t u r:TS}{D:Ends}{σ:St}{H:Hp}
abbrev Le(u z:TS):Prop:=∀D σ H,u D σ H->z D σ H
theorem Le.rfl:Le u u:=λ_ _ _ h=>h
theorem Kd(k:∀z,Le u z->dF t z D σ H):dF t u D σ H:=k u Le.rfl
theorem Kh{c:TT}(k:∀t' F z,Le t t'->Le u F->Le r z->dF (DH c t' F) z D σ H):dF (DH c t u) r D σ H:=k t u r Le.rfl Le.rfl Le.rfl
theorem HF{wi:TI}{g:TG}(k:∀t',Le t t'->E8 wi g t' D σ H):E8 wi g t D σ H:=k t Le.rfl
theorem iT{te:TE}{i:Nat}(k:∀Q:V->Hp->Prop,(∀x H1,u D (σ.set i (some x)) H1->Q x H1)->te σ H Q):dF (Fi te (sF i)) u D σ H:=k _ λ_ _ h=>h
theorem LR{te:TE}(k:∀Q:V->Hp->Prop,(∀x H1,u D σ H1->Q x H1)->te σ H Q):dF (DW te) u D σ H:=k _ λ_ _ h=>h
theorem GV{te:TE}(k:∀Q:V->Hp->Prop,(∀x H1,D.nx σ H1->Q x H1)->te σ H Q):DW te D σ H:=k _ λ_ _ h=>h
theorem L6{te:TE}(k:∀Q:V->Hp->Prop,(∀x H1,D.rt x H1->Q x H1)->te σ H Q):IQ te D σ H:=k _ λ_ _ h=>h
theorem bQ{A B:Hp->Prop}{Q:Bool->Hp->Prop}(e:Q=λb H1=>if b=true then A H1 else B H1):(∀H1,A H1->Q true H1)/\∀H1,B H1->Q false H1:=by
 subst e;show#[λ_ h=>eO h,λ_ h=>bw h]
theorem oK{c:TT}(k:∀Q:Bool->Hp->Prop,(∀H1,t { D with nx:=r D } σ H1->Q true H1)->(∀H1,r D σ H1->Q false H1)->c σ H Q):dF (DH c t zA) r D σ H:=k _ (bQ rfl).1 (bQ (A:=λH1=>t { D with nx:=r D } σ H1) rfl).2
theorem Gi{c:TT}(k:∀Q:Bool->Hp->Prop,(∀H1,t D σ H1->Q true H1)->(∀H1,D.nx σ H1->Q false H1)->c σ H Q):DH c t zA D σ H:=k _ (bQ rfl).1 (bQ (A:=λH1=>t D σ H1) rfl).2
theorem rD{Q:Bool->Hp->Prop}{b:Bool}{H:Hp}(t:b=true->Q true H)(f:¬ b=true->Q false H):Q b H:=by
 cases b
 .show f (by intro z;cases z)
 .show t rfl
theorem zd{t r:pJ}{R:XR}{c:TT}(k:∀Q:Bool->Hp->Prop,(∀H1,t { D with nx:=r D R } R σ H1->Q true H1)->(∀H1,r D R σ H1->Q false H1)->c σ H Q):zM (Kl c t Cm) r D R σ H:=k _ (bQ rfl).1 (bQ (A:=λH1=>t { D with nx:=r D R } R σ H1) rfl).2
theorem lE{tx:Ed}{i:Nat}{u:pJ}{R:XR}(k:∀Q:V->Hp->Prop,(∀x H1,u D R (σ.set i (some x)) H1->Q x H1)->tx σ H Q (R σ)):zM (CV tx i) u D R σ H:=k _ λ_ _ h=>h
theorem BU{tx:Ed}{u:pJ}{R:XR}(k:∀Q:V->Hp->Prop,(∀x H1,u D R σ H1->Q x H1)->tx σ H Q (R σ)):zM (Ds tx) u D R σ H:=k _ λ_ _ h=>h
def Ev(te:TE)(σ:St)(H:Hp)(v:V):Prop:=∀Q:V->Hp->Prop,Q v H->te σ H Q
theorem IY{i:Nat}{v:V}(h:σ[i]?=some (some v)):Ev (E9 i) σ H v:=λ_ q=>#[_,h,q]
theorem Jt{v:V}:Ev (tC v) σ H v:=λ_ q=>q
theorem My{ta tb:TE}{x y:V}{Q:Bool->Hp->Prop}(a:Ev ta σ H x)(b:Ev tb σ H y)(s:Ii x y=true)(n:¬ x=y)(q:Q false H):Bl (Kc NJ ta tb) σ H Q:=a _ (b _ #[s,0,by rw[decide_eq_false n];show q])
theorem share(Pr:St->Hp->Prop)(mk:∀z,(∀σ H,Pr σ H->z D σ H)->dF t z D σ H)(h:∀σ H,Pr σ H->u D σ H):dF t u D σ H:=mk u h
theorem pX(O:X.calm=true):fq X (.type "list") (λxs H Q=>∃(p:Addr)(i:Int)(n:Nat),xs=[.ref p]/\H p=some (.rng i (i+n))/\n<=1000 /\ -1000<=i/\i<=1000/\∀l,H l=none->Q (.ref l) (upd H l (.lst ((Rj n).map λk:Nat=>V.int (i+k))))):=by
 intros xs us Q I r h;let#[p,i,n,rfl,G,hn,i0,i1,q]:=h;let#[u,rfl,J]:=vals1 r;cases J;let hs:=HC;let#[t,u,v,e]:=(show ck X.prog X.w H s.heap p (.rng i (i+n))from I.bV p _ G);show call_list_range (n:=n) (I.ok.hd O) e (Wq af af af af) (by rw[UK];split<;>omega) af λh' tk z c' L e' it=>?_;let U:Vals ((Rj n).map λk:Nat=>V.int (i+k)) z.toList:=by
  let#[h1,h2]:=it;show oP ?_ λj x v hx F=>?_
  .rw[ti,Qg];simpa using h1.symm
  .rw[Od]at hx;let#[k,R,rfl]:=wh.mp hx;let S:k=j:=by
    have:=sN.mp R;let#[_,e]:=this;simpa using e.symm
   let#[t,e]:=h2 j v ‹F›;show#[t,by rw[e,S];congr 1;omega]
 show#[.ref s⁻¹,_,I.laid L (G0 _) (show ck X.prog X.w _ h' _ (.lst ((Rj n).map λk:Nat=>V.int (i+k)))from#[by rw[ti,Qg];omega,z.toList,c',U,by simpa using e']),rfl,q _ (I.bV.fresh (G0 _))]
theorem iK(U:X.calm=true):fq X (.type "list") (λxs H Q=>∃(d:Addr)(kvs:List (Key×V)),xs=[.ref d]/\H d=some (.dK kvs)/\kvs.length<=1000/\∀l,H l=none->Q (.ref l) (upd H l (.lst (kvs.map λz=>kV z.1)))):=by
 intros xs us Q I r h;let#[d,kvs,rfl,S,hn,q]:=h;let#[u,rfl,R]:=vals1 r;cases R;let hs:=HC;let#[_,hd,vs,G,dd]:=sh I.bV S;let#[ep,ab]:=dd.dictAt;let am:=G.length;show PySem.W.kdl_call (kdl_dict (knd:=cf X.prog X.w) (kvs:=vs) (ep:=ep) hd) (I.ok.hd U) ab af λh' tk F c' k1 k2 k3=>?_;let#[sz,it]:=k3;let rv:Vals (kvs.map λz=>kV z.1) F.toList:=by
  show oP ?_ λj x v hx L=>?_
  .let al:F.toList.length=F.size:=P4;rw[ti];omega
  .rw[Od]at hx;let#[z,hk,rfl]:=wh.mp hx;let ac:F[j]?=some v:=(by rw[<-Qc];show L);let#[k,y,O,e2]:=it j v ac;let J:(vs.map (·.1))[j]?=some k:=(by rw[Od,O];rfl);rw[<-G.keys,Od,hk]at J;obtain rfl:z.1=k:=DD J;show xQ e2
 show#[.ref s⁻¹,_,I.laid k1 (G0 _) (show ck X.prog X.w _ h' _ (.lst (kvs.map λz=>kV z.1))from#[by rw[ti];omega,F.toList,c',rv,by simpa using k2]),rfl,q _ (I.bV.fresh (G0 _))]
end
theorem qW{a:Addr}{o:Obj}{kvs:List (Key×V)}{caps:List (Str×Nat)}{te:TE}{σ:St}{H:Hp}{G:List V->Hp->Prop}(Pv:Nat->List V->Hp->Prop)(L:Pv 0 [] H)
  (O:∀i zs H,i<=kvs.length->Pv i zs H->H a=some (.frz o (.dK kvs)))
  (hs:∀i k v zs H,kvs[i]?=some (k,v)->Pv i zs H->te (gj caps σ (some (kV k))) H (λz H3=>zs.length<sizeLine/\Pv (i+1) (zs++[z]) H3))
  (hd:∀zs H,Pv kvs.length zs H->G zs H):∃W:Nat->Nat->List V->Hp->Prop,(∃m,W 0 m [] H)/\ja caps vb te σ (Jk a o kvs) G W:=by
 show#[λi m zs H=>m=kvs.length-i/\i<=kvs.length/\Pv i zs H,#[kvs.length,by simp,OJ _,L],?_];rintro i m zs H ⟨rfl,hi,p⟩;let I:=O i zs H hi p;cases F:i<kvs.length
 .show .inr #[#[I,F],Pv (i+1),λS H' R=>#[kvs.length-(i+1),Qi (Qz kvs) i F,rfl,F,R],?_];rintro x H' ⟨rfl,k,v,J,rfl⟩;unfold vb;dsimp only;rw[WY rfl];show hs i k v zs _ J p
 .let e:i=kvs.length:=af;subst e;show .inl #[#[I,G0 _],hd zs H p]
theorem tj{caps:List (Str×Nat)}{te:TE}{σ:St}{H:Hp}{lo st:Int}{n:Nat}{F:List V->Hp->Prop}(Pv:Nat->List V->Hp->Prop)(G:Pv 0 [] H)
  (hs:∀i ys H,i<n->Pv i ys H->te (gj caps σ (some (.int (lo+i*st)))) H (λy H3=>ys.length<sizeLine/\Pv (i+1) (ys++[y]) H3))
  (hd:∀ys H,Pv n ys H->F ys H):∃W:Nat->Nat->List V->Hp->Prop,(∃m,W 0 m [] H)/\ja caps vb te σ (Hv lo st n) F W:=by
 show#[λi m ys H=>m=n-i/\i<=n/\Pv i ys H,#[n,by simp,OJ _,G],?_];rintro i m ys H ⟨rfl,hi,p⟩;cases z:i<n
 .show .inr #[z,Pv (i+1),λJ H' I=>#[n-(i+1),Qi n i z,rfl,z,I],λx H' y=>?_];let#[e,y]:=y;subst e y;unfold vb;dsimp only;rw[WY rfl];show hs i ys _ z p
 .let e:i=n:=af;subst e;show .inl #[G0 _,hd ys H p]
theorem zg{K:Om}{a b:Addr}{xs ys:List V}{g:TG}{tb:TS}{D:Ends}{σ:St}{H:Hp}(Pv:Nat->St->Hp->Prop)(h0:Pv 0 σ H)(O:xs.length=ys.length)
  (hl:∀i σ H,i<=xs.length->Pv i σ H->bA K H a xs/\bA K H b ys)
  (hs:∀i x y σ H T,xs[i]?=some x->ys[i]?=some y->H T=none->Pv i σ H->g (.ref T) σ (upd H T (.tup [x,y])) λG H2=>tb { D with nx:=Pv (i+1),ct:=Pv (i+1),bk:=D.nx } G H2)
  (hd:∀σ H,Pv xs.length σ H->D.nx σ H) :
  ∃W:Nat->Nat->St->Hp->Prop,(∃m,W 0 m σ H)/\∀i m σ H,W i m σ H ->
   ((Kx K a b).stop i H/\D.nx σ H)\/((Kx K a b).go i H/\∃N:St->Hp->Prop,(∀I H',N I H'->∃L,L<m/\W (i+1) L I H')/\∀x H',(Kx K a b).EH i H x H'->g x σ H' λG H2=>tb { D with nx:=N,ct:=N,bk:=D.nx } G H2):=by
 show#[λi m σ H=>m=xs.length-i/\i<=xs.length/\Pv i σ H,#[xs.length,by simp,OJ _,h0],?_];rintro i m σ H ⟨rfl,hi,p⟩;let#[F,J]:=hl i σ H hi p;cases z:i<xs.length
 .let S:i<ys.length:=Qm z O;show .inr #[#[xs,ys,xs[i],ys[i],F,J,by simp[z],by simp[S]],Pv (i+1),λI H' p'=>#[xs.length-(i+1),Qi (Qz xs) i z,rfl,z,p'],?_];rintro v H' ⟨T,x,y,rfl,hT,rfl,R,U⟩;show hs i x y σ H T (R _ F) (U _ J) hT p
 .let e:i=xs.length:=af;subst e;show .inl #[#[xs,ys,F,J,.inl (G0 _)],hd σ H p]
inductive Md(P:vu)(w:Oe)(K:Om)(mg:W9)(base:Heap)(cx:rk)(k:Nat)(C:Addr)(m:Str)(sp:Sp):Prop
 |mk(f:Addr)(fd:t7)(ps:List Str)(_:aG P w K mg base cx k f fd ps sp)(_:Binds K fd ps [])(_:Meth K C m f)
inductive Df(P:vu)(w:Oe)(K:Om)(mg:W9)(base:Heap)(cx:rk)(k:Nat)(x:Str)(sp:Sp):Prop
 |mk(f:Addr)(fd:t7)(ps:List Str)(_:aG P w K mg base cx k f fd ps sp)(_:Binds K fd ps [])(_:mg x=some (.ref f))(_:Sy K (.ref f)=true)
section
variable{X:Cx}{CX:rk}{k j:Nat}{C:Addr}{sp:Sp}{E:XK}{x m:Str}{p pos apos:Q5}{e o:OE}{es:List OE}{ta:TE}{t:TA}
theorem pm{pl:Sem Bool}(z:PE X o ta)(c:oE X.K C)(F:Md X.prog X.w X.K X.mg X.base CX k C m sp)(R:bp j X.A)(hx:Passes CX X E)(L:PA X (e::es) t)(J:k<=j:=by decide)
  (I:starEach (e::es) X.env=(false,eval e X.env)::starEach es X.env:=by rfl) (O:(backTo pos (starEach es X.env)).any (·.1)=false:=by rfl)
  (G:eval (.Call (.Attribute o m apos) (e::es) [] pos) X.env=(do
   let ov <-eval o X.env
   TB apos.atName
   let (f,first) <-Rp [ov] (RH ov m pl)
   Uo pos f first (backTo pos (starEach (e::es) X.env)) (Sa pos (Qy [] X.env))):=by rfl) :
  PE X (.Call (.Attribute o m apos) (e::es) [] pos) (zh C m sp [] E ta t):=by
 let#[f,fd,_,g,b,q]:=F;show Fd z c q g (R.mono J) b .nil hx L I O G
theorem qB{pl:Sem Bool}(z:PE X o ta)(c:oE X.K C)(F:Md X.prog X.w X.K X.mg X.base CX k C m sp)(J:bp j X.A)(hx:Passes CX X E)(I:k<=j:=by decide)
  (G:eval (.Call (.Attribute o m apos) [] [] pos) X.env=(do
   let ov <-eval o X.env
   TB apos.atName
   let (f,first) <-Rp [ov] (RH ov m pl)
   Uo pos f first (backTo pos (starEach [] X.env)) (Sa pos (Qy [] X.env))):=by rfl) :
  PE X (.Call (.Attribute o m apos) [] [] pos) (zh C m sp [] E ta E7):=by
 let#[f,fd,_,g,b,q]:=F;show qO z c q g (J.mono I) b .nil hx G
theorem pc(F:Df X.prog X.w X.K X.mg X.base CX k x sp)(O:bp j X.A)(hx:Passes CX X E)(J:PA X (e::es) t)(R:Gl X x:=by rfl)(I:k<=j:=by decide)
  (G:(x==("__debug__" : Str))=false:=by decide) (z:starEach (e::es) X.env=(false,eval e X.env)::starEach es X.env:=by rfl) (L:(backTo pos (starEach es X.env)).any (·.1)=false:=by rfl) :
  PE X (.Call (.Name x p) (e::es) [] pos) (DP sp [] E t):=by
 let#[f,fd,_,g,b,q,r]:=F;show eK g (O.mono I) R q r b .nil hx J G z L
end
end L2
namespace St
open PySem L2
def top(i:Nat):OB:=PySem.Challenge.pw_ownroom_k90_whole_paged_as_plain.main.body.getD i (.Pass #[(0),(0),(0),(0)])
abbrev jD:OB:=inClass (top 10) 0
abbrev Dr:OB:=inClass (top 10) 1
abbrev BQ:OB:=inClass (top 10) 3
abbrev BO:OB:=inClass (top 10) 2
abbrev CG:OB:=inClass (top 10) 7
abbrev xA:OB:=inClass (top 10) 4
abbrev kY:OB:=inClass (top 10) 5
abbrev Hf:OB:=inClass (top 10) 6
abbrev ud:OB:=inClass (top 10) 8
theorem kc:¬ (("owners" : Str) = "contents"):=ak
def fW(ow co:Addr):List (Str×V):=bu "contents" (.ref co) (bu "owners" (.ref ow) [])
theorem gW(ow co:Addr):(fW ow co).lookup ("owners" : Str)=some (.ref ow):=by
 unfold fW;rw[aF,WX kc,aF,WY rfl]
theorem uq(ow co:Addr):(fW ow co).lookup ("contents" : Str)=some (.ref co):=by
 unfold fW;rw[aF,WY rfl]
theorem aS(ow co:Addr){m:Str}(h1:¬ m = "contents")(h2:¬ m = "owners"):(fW ow co).lookup m=none:=by
 unfold fW;rw[aF,WX h1,aF,WX h2]
 all_goals rfl
def dE(H:Hp)(M:WZ):V->Option (List Int)->Prop
 |.bB,none=>True
 |.ref a,some z=>¬ M a/\H a=some (.lst (z.map V.int))
 |_,_=>False
structure aU(C:Addr)(H:Hp)(M:WZ)(p ow co:Addr)(os:List Int)(pg:List (Option (List Int))):Prop where
 ob:∃dx,H p=some (.ins C dx (fW ow co))
 hw:H ow=some (.lst (os.map V.int))
 hc:∃cs,H co=some (.lst cs)/\Paired (dE H M) cs pg
def Off(B:WZ)(H H':Hp):Prop:=∀b o,H b=some o->¬ B b->H' b=some o
theorem dE.off{B M:WZ}{H H':Hp}(h:Off B H H')(F:∀b,B b->M b):∀{v:V}{x:Option (List Int)},dE H M v x->dE H' M v x
 |.bB,none,_=>trivial
 |.ref a,some G,⟨h1,h2⟩=>#[h1,h a _ h2 λz=>h1 (F a z)]
theorem j4{B M:WZ}{H H':Hp}(h:Off B H H')(F:∀b,B b->M b){cs:List V}{pg:List (Option (List Int))}(q:Paired (dE H M) cs pg):Paired (dE H' M) cs pg :=
 Paired.Cr q λ_ _ z=>z.off h F
theorem iO{α z:Type}{F:α->z->Prop}:∀{xs:List α}{ys:List z}{i:Nat}{y:z},Paired F xs ys->ys[i]?=some y->∃x,xs[i]?=some x/\F x y
 |_,_,_,_,.nil,e=>by simp at e
 |_,_,0,_,.cons r _,e=>by simp at e;subst e;show#[0,r]
 |_,_,i+1,y,.cons _ t,e=>by
  let#[u,h1,h2]:=iO (i:=i) (y:=y) t ‹e›;show#[u,by simpa using h1,h2]
theorem kK{α z:Type}{F:α->z->Prop}{x:α}{y:z}(r:F x y):∀{xs:List α}{ys:List z}(i:Nat),Paired F xs ys->Paired F (xs.set i x) (ys.set i y)
 |_,_,_,.nil=>.nil
 |_,_,0,.cons _ t=>.cons r t
 |_,_,i+1,.cons q t=>.cons q (kK r i t)
theorem pQ{α z:Type}{F:α->z->Prop}{x:α}{y:z}(r:F x y):∀n:Nat,Paired F (replicate n x) (replicate n y)
 |0=>.nil
 |n+1=>.cons r (pQ r n)
structure Txt(K:Om)(mg:W9)(C:Addr):Prop where
 cl:oE K C
 nO:cZ K C "owners"
 nC:cZ K C "contents"
 len:mg "len" = none
 list:mg "list" = none
 pc:∃u,mg "PAGE_CELLS" = some u/\RelV (.int 8) u
inductive gu(C:Addr)(v:List V)(H:Hp)(Q:VK)(e:XK):Prop
 |mk(p dx:Addr)(n:Nat)(_:v=[.ref p,.int n])(_:n<=60)(_:H p=some (.ins C dx []))(_:∀(ow co:Addr)(H':Hp),H ow=none->H co=none->ow≠co->(∀M,aU C H' M p ow co (replicate n 0) (replicate n none))->Off (· = p) H H'->Q .bB H')
def fB(os:List Int)(n:Int):Int:=if n<0\/(os.length:Int)<=n then 0 else os.getD n.toNat 0
theorem pq{os:List Int}{n:Int}(h:fB os n≠0):0<=n/\n.toNat<os.length/\n<os.length/\n=(n.toNat:Int):=by
 unfold fB at h;cases z:n<0\/(os.length:Int)<=n
 .rw[WY z]at h;show absurd rfl h
 .omega
theorem yt{os:List Int}{j:Nat}(h:j<os.length):fB os (j:Int)=os.getD j 0:=by
 unfold fB;rw[WX af];simp
inductive iM(C:Addr)(v:List V)(H:Hp)(Q:VK)(e:XK):Prop
 |mk(p ow co:Addr)(M:WZ)(os:List Int)(pg:List (Option (List Int)))(n:Int)(_:v=[.ref p,.int n])(_:aU C H M p ow co os pg)(_:os.length<=60)(_:Q (.int (fB os n)) H)
inductive ip(C:Addr)(v:List V)(H:Hp)(Q:VK)(e:XK):Prop
 |mk(p ow co:Addr)(M:WZ)(os:List Int)(pg:List (Option (List Int)))(n:Int)(_:v=[.ref p,.int n])(_:aU C H M p ow co os pg)(_:os.length<=60)(_:fB os n≠0)(_:Q .bB H)
inductive wZ(C:Addr)(v:List V)(H:Hp)(Q:VK)(e:XK):Prop
 |mk (p ow co:Addr) (M:WZ) (os:List Int) (pg:List (Option (List Int))) (_:v=[.ref p]) (_:aU C H M p ow co os pg) (_:M ow) (_:M co) (_:(∀b,M b->H b≠none)) (_:ow≠co) (_:os.length=pg.length) (_:os.length<=60) (_:(¬ (0:Int)∈os->Q .bB H)) (_:((0:Int)∈os->∀H',aU C H' M p ow co (os.set (os.idxOf 0) 1) (pg.set (os.idxOf 0) (some (replicate 8 0)))->Off (λb=>b=ow\/b=co) H H'->Q (.int (os.idxOf 0:Nat)) H')):wZ C v H Q e
inductive sY(C:Addr)(v:List V)(H:Hp)(Q:VK)(e:XK):Prop
 |mk (p ow co:Addr) (M:WZ) (os:List Int) (pg:List (Option (List Int))) (n:Int) (_:v=[.ref p,.int n]) (_:aU C H M p ow co os pg) (_:M ow) (_:M co) (_:ow≠co) (_:os.length<=60) (_:fB os n≠0) (_:∀H',aU C H' M p ow co (os.set n.toNat (fB os n-1)) pg->Off (λb=>b=ow\/b=co) H H'->Q .bB H'):sY C v H Q e
inductive uQ(C:Addr)(v:List V)(H:Hp)(Q:VK)(e:XK):Prop
 |mk (p ow co:Addr) (M:WZ) (os:List Int) (pg:List (Option (List Int))) (n:Int) (_:v=[.ref p,.int n]) (_:aU C H M p ow co os pg) (_:M ow) (_:M co) (_:ow≠co) (_:os.length<=60) (_:fB os n≠0) (_:∀H',aU C H' M p ow co (os.set n.toNat (fB os n+1)) pg->Off (λb=>b=ow\/b=co) H H'->Q .bB H'):uQ C v H Q e
inductive uv(C:Addr)(v:List V)(H:Hp)(Q:VK)(e:XK):Prop
 |mk(p ow co:Addr)(M:WZ)(os:List Int)(pg:List (Option (List Int)))(_:v=[.ref p])(_:aU C H M p ow co os pg)(_:Q (.int (os.count 0:Nat)) H)
inductive gx(C:Addr)(v:List V)(H:Hp)(Q:VK)(e:XK):Prop
 |mk(p ow co:Addr)(M:WZ)(os:List Int)(pg:List (Option (List Int)))(n:Int)(ns:List Int)(_:v=[.ref p,.int n])(_:aU C H M p ow co os pg)(_:os.length<=60)(_:fB os n≠0)(_:pg[n.toNat]?=some (some ns))(_:∀l,H l=none->Q (.ref l) (upd H l (.lst (ns.map V.int))))
inductive zj(K:Om)(C:Addr)(v:List V)(H:Hp)(Q:VK)(e:XK):Prop
 |mk (p ow co c:Addr) (M:WZ) (os:List Int) (pg:List (Option (List Int))) (n:Int) (ns:List Int) (_:v=[.ref p,.int n,.ref c]) (_:aU C H M p ow co os pg) (_:M ow) (_:M co) (_:(∀b,M b->H b≠none)) (_:ow≠co) (_:os.length=pg.length) (_:os.length<=60) (_:fB os n≠0) (_:bA K H c (ns.map V.int)) (_:∀H',aU C H' M p ow co os (pg.set n.toNat (some ns))->Off (λb=>b=ow\/b=co) H H'->Q .bB H'):zj K C v H Q e
theorem rep1{α:Type}(x:α)(n:Nat):(replicate n [x]).flatten=replicate n x:=by
 induction n with
 |zero=>rfl
 |succ n z=>rw[PQ,QY,z,PQ];rfl
theorem Mc:aD ["self","many"] ["self","many"] (au jD):=L2.bL
theorem mj{C:Addr}(F:cq K "__init__" "Store.__init__" jD f fd)(T:Txt K mg C):↥aG 1 f fd ["self","many"] (gu C):=by
 show F.eL Mc (λa3 A outer s H vs Q E hr h=>?_);let#[p,dx,n,rfl,hn,R,k]:=h;show#[_,aj (fV (pv 0) (aA pS (cm (aa ah ag)) (pv 1)) rfl) (ar (fV (pv 0) (aA pS (cm (aa hU ag)) (pv 1)) rfl)),?_];let hs:=HC;show#[aq,λL ab=>?_];let aB:p≠L:=av R ab;show#[0,L,n,0,rfl,ae,af,af,by rw[Pu];omega,λow J=>?_];let ap:ow≠L:=λz=>(by rwa[z,ae]at J);rw[ai ap]at J;let O:p≠ow:=av R J;show#[0,p,C,dx,[],rfl,by rw[ai O,ai aB];show R,T.cl,T.nO,aq,?_];show#[aq,λl2 I=>?_];let ao:l2≠p:=λz=>(by rwa[z,ae]at I);rw[ai ao]at I;let am:l2≠ow:=λz=>(by rwa[z,ae]at I);rw[ai am]at I;let aT:l2≠L:=λz=>(by rwa[z,ae]at I);rw[ai aT]at I;show#[0,l2,n,0,rfl,ae,af,af,by rw[Pu];omega,λco G=>?_];let a0:co≠l2:=λz=>(by rwa[z,ae]at G);rw[ai a0]at G;let U:co≠p:=λz=>(by rwa[z,ae]at G);rw[ai U]at G;let S:co≠ow:=λz=>(by rwa[z,ae]at G);rw[ai S]at G;let as:co≠L:=λz=>(by rwa[z,ae]at G);rw[ai as]at G;show#[0,p,C,dx,0,by rw[ai (D0 U),ai (D0 ao),ae],T.cl,T.nC,by change 1<1000;decide,?_];rw[show((n:Int)).toNat=n by omega,rep1,rep1];show k ow co _ J G (D0 S) (λM=>#[#[dx,ae],?_,#[_,?_,pQ (show dE _ M .bB none from trivial) n]]) λb o e hb=>?_
 .rw[ai (D0 O),ai (D0 S),ai (D0 am),ai (D0 O),ae,UT]
 .rw[ai U,ae]
 .let ac:b≠p:=hb;rw[ai ac,ai (av e G),ai (av e I),ai ac,ai (av e J),ai (av e ab)];show e
theorem LI:aD ["self","n"] ["self","n"] (au xA):=L2.bL
theorem CQ{C:Addr}(F:cq K "count" "Store.count" xA f fd)(T:Txt K mg C):↥aG 1 f fd ["self","n"] (iM C):=by
 show F.eL LI (λI A outer s H vs Q E J h=>?_);let#[p,ow,co,M,os,pg,n,rfl,S,L,k]:=h;let#[#[dx,h1],G,_]:=id S;show#[_,aj (bJ (lU (aJ gO (pv 1) ah (aP _)) (kS (aJ JP (pv 1) (a9 bS (by rfl) T.len boot_len (aa (aH (pv 0) rfl) ag)) (aP _)))).pt (ar (aO ah)) aR)
  (ar (aO (aL bT (aH (pv 0) rfl) (pv 1) cB))),?_]
 show#[0,_,0,rfl,0,?_];show fN (λc=>?_) (λc=>?_)
 .show eO ?_;let c':n<0:=‹c›;unfold fB at k;rw[WY (.inl c')]at k;show k
 .let c':¬ n<0:=‹c›;show#[0,0,p,C,dx,_,0,h1,T.cl,T.nO,gW _ _,ow,0,.inl (bA.of G),_,0,rfl,0,?_];show fN (λd=>?_) (λd=>?_)
  .let d':(os.length:Int)<=n:=‹d›;unfold fB at k;rw[WY (.inr d')]at k;show k
  .let d':¬ (os.length:Int)<=n:=‹d›;obtain⟨j,rfl⟩:∃j:Nat,n=j:=#[n.toNat,af];let z:j<os.length:=af;rw[yt z]at k;show#[0,p,C,dx,_,0,h1,T.cl,T.nO,gW _ _,0,ow,_,j,.int (os.getD j 0),1,bA.of G,oW ?_,k];rw[Od,ON z];simp[z]
theorem N8:aD ["self","n"] ["self","n"] (au ud):=L2.bL
theorem zT{C:Addr}(F:cq K "refuse_free" "Store.refuse_free" ud f fd)(T:Txt K mg C)(I:↥Md 1 C "count" (iM C)) :
  ↥aG 2 f fd ["self","n"] (ip C):=by
 show F.eL N8 (λL A outer s H vs Q E G h=>?_);let#[p,ow,co,M,os,pg,n,rfl,S,J,z,k]:=h;let#[#[dx,h1],O,_]:=id S;show#[_,ar (bJ (aJ cK (pm (pv 0) T.cl I G az (aa (pv 1) ag)) ah (aP _)) (dJ) aR),?_];show#[0,p,dx,0,h1,aS _ _ ak ak,0,p,ow,co,M,os,pg,n,rfl,S,J,rfl,0,?_];show fN (λc=>?_) (λc=>?_)
 .show absurd ‹c› z
 .show k
theorem LL:aD ["self","n"] ["self","n"] (au BQ):=L2.bL
theorem iu{H:Hp}{M:WZ}{a:Addr}{o:HO}{cs:List V}{pg:List (Option (List Int))}(F:M a)(q:Paired (dE H M) cs pg):Paired (dE (upd H a o) M) cs pg :=
 j4 (B:=(· = a)) (λb u e G=>by rw[ai (show b≠a from G)];show e) (λb z=>by rw[show b=a from z];show F) q
theorem nU{H:Hp}{M:WZ}{a:Addr}{o:HO}{cs:List V}{pg:List (Option (List Int))}(F:H a=none)(q:Paired (dE H M) cs pg):Paired (dE (upd H a o) M) cs pg :=
 j4 (B:=λ_=>False) (λb u e _=>by rw[ai (av e F)];show e) (λb z=>z.elim) q
theorem jR{H:Hp}{p a C dx:Addr}{fs:List (Str×V)}{xs:List V}(h:H p=some (.ins C dx fs))(h':H a=some (.lst xs)):p≠a:=cM h h' (by intro z;cases z)
theorem FU{C:Addr}(F:cq K "less" "Store.less" BQ f fd)(T:Txt K mg C)(O:↥Md 2 C "refuse_free" (ip C)) :
  ↥aG 3 f fd ["self","n"] (sY C):=by
 show F.eL LL (λac A outer s H vs Q E hr h=>?_);let#[p,ow,co,M,os,pg,n,rfl,S,L,mc,U,hl,J,k]:=h;let#[#[dx,h1],G,cs,ab,R]:=id S;show#[_,aj (aV (pm (pv 0) T.cl O hr az (aa (pv 1) ag)))
  (ar (yO (aH (pv 0) rfl) (pv 1) (vV) ah Jp set_list)),?_]
 show#[0,p,dx,0,h1,aS _ _ ak ak,0,p,ow,co,M,os,pg,n,rfl,S,hl,J,?_];let#[h0,I,hn,en]:=pq J;generalize n.toNat=j at *;subst en;show#[0,p,C,dx,_,0,h1,T.cl,T.nO,gW _ _,0,ow,_,j,.int (os.getD j 0),1,bA.of G,oW (by rw[Od,ON I];simp[I]),_,0,rfl,ow,_,j,j,1,G,3]
 .unfold wY;rw[ti,WY af,WY af];simp
 .rw[yt I]at k;show k _ #[#[dx,by rw[ai (jR h1 G)];show h1],?_,#[cs,by rw[ai (D0 U)];show ab,iu L R]] λb o e hb=>?_
  .rw[ae,map_set]
  .rw[ai (λz=>hb (.inl z))];show e
theorem NZ:aD ["self","n"] ["self","n"] (au kY):=L2.bL
theorem Ep{C:Addr}(F:cq K "cells" "Store.cells" kY f fd)(T:Txt K mg C)(I:↥Md 2 C "refuse_free" (ip C)) :
  ↥aG 3 f fd ["self","n"] (gx C):=by
 show F.eL NZ (λab A outer s H vs Q E R h=>?_);let#[p,ow,co,M,os,pg,n,L,rfl,S,hl,z,O,k]:=h;let#[#[dx,h1],hw,cs,U,J]:=id S;show#[_,aj (aV (pm (pv 0) T.cl I R az (aa (pv 1) ag)))
  (ar (aO (cJ ff (by rfl) T.list eF (aa (aL bT (aH (pv 0) rfl) (pv 1) cB) ag)))),?_]
 show#[0,p,dx,0,h1,aS _ _ ak ak,0,p,ow,co,M,os,pg,n,rfl,S,hl,z,?_];let#[h0,hj,hn,en]:=pq z;generalize n.toNat=j at *;subst en;let#[v,G,cv]:=iO J O;obtain⟨a,rfl,ha⟩:∃a,v=.ref a/\H a=some (.lst (L.map V.int)):=by
  cases v with
  |ref a=>show#[a,rfl,cv.2]
  |_=>show OS cv
 show#[0,p,C,dx,_,0,h1,T.cl,T.nC,uq _ _,0,co,cs,j,0,rfl,bA.of U,oW G,a,0,.inl (bA.of ha),k]
theorem JY:aD ["self","n","cells"] ["self","n","cells"] (au Hf):=L2.bL
theorem kW{α z:Type}{F:α->z->Prop}:∀{xs:List α}{ys:List z},Paired F xs ys->xs.length=ys.length
 |_,_,.nil=>rfl
 |_,_,.cons _ t=>by rw[Oq,Oq,kW t]
theorem Ir{C:Addr}(F:cq K "put" "Store.put" Hf f fd)(T:Txt K mg C)(U:↥Md 2 C "refuse_free" (ip C)) :
  ↥aG 3 f fd ["self","n","cells"] (zj K C):=by
 show F.eL JY (λac A outer s H vs Q E hr h=>?_);let#[p,ow,co,c,M,os,pg,n,ns,rfl,S,mw,mc,mt,ab,am,hl,R,hq,k]:=h;let#[#[dx,h1],L,cs,I,O]:=id S;show#[_,aj (aV (pm (pv 0) T.cl U hr az (aa (pv 1) ag)))
  (ar (qd (cJ ff (by rfl) T.list eF (aa (pv 2) ag)) (tN (aH (pv 0) rfl) (pv 1) set_list))),?_]
 show#[0,p,dx,0,h1,aS _ _ ak ak,0,p,ow,co,M,os,pg,n,rfl,S,hl,R,?_];let#[h0,hj,hn,en]:=pq R;generalize n.toNat=j at *;subst en;let ao:=kW O;show#[0,c,0,.inl hq,λl J=>?_];let G:∀{b:Addr}{o:HO},H b=some o->b≠l:=λe=>av e J;show#[0,p,C,dx,_,0,by rw[ai (G h1)];show h1,T.cl,T.nC,uq _ _,0,co,cs,j,j,1,by rw[ai (G I)];show I,3]
 .unfold wY;rw[WY af,WY af];simp
 .let hM:¬ M l:=λz=>mt l z J;show k _ #[#[dx,by rw[ai (jR h1 I),ai (G h1)];show h1],by rw[ai ab,ai (G L)];show L,#[_,ae,iu mc (kK #[hM,ae] j (nU J O))]] λb o e hb=>?_;rw[ai (λz=>hb (.inr z)),ai (G e)];show e
theorem NK:aD ["self","n"] ["self"] (au Dr):=L2.bL
theorem N7(os:List Int):Ha (.int 0) (os.map V.int)=decide ((0:Int)∈os):=by
 unfold Ha;rw[List.any_map,Rg,List.any_eq_true,decide_eq_true_iff];constructor
 .rintro⟨x,hx,e⟩;let z:x=0:=by
   have:(x==(0:Int))=true:=e;simpa using this
  subst z;show hx
 .intro h;show#[(0),h,rfl]
theorem EV{C:Addr}(F:cq K "take" "Store.take" Dr f fd)(T:Txt K mg C):↥aG 1 f fd ["self"] (wZ C):=by
 show F.eL NK (λac A outer s H vs Q E hr h=>?_);let#[p,ow,co,M,os,pg,rfl,S,mw,mc,mt,ab,am,hl,k0,k1]:=h;let#[#[dx,h1],I,cs,R,hp]:=id S;let#[u8,m8,r8]:=T.pc;let hs:=HC;show#[_,aj (bJ (aJ iW ah (aH (pv 0) rfl) (by with_unfolding_all rfl)) (ar (aO hU)) aR)
  (aj (cV 1 NK.nd (jn Po Ts PySem.F.type_list_index CL (aH (pv 0) rfl) (aa ah ag)))
  (aj (qd ah (tN (aH (pv 0) rfl) (pv 1) set_list))
  (aj (qd (aA pS (cm (aa ah ag)) (bO (by rfl) m8 r8)) (tN (aH (pv 0) rfl) (pv 1) set_list))
  (ar (aO (pv 1)))))),?_]
 show#[0,p,C,dx,_,0,h1,T.cl,T.nO,gW _ _,ow,0,.inl (bA.of I),rfl,fX _,0,?_];change if (!Ha (.int 0) (os.map V.int))=true then _ else _
 rw[N7];cases c:(0:Int)∈os
 .rw[decide_eq_true c];show bw ?_;let hj:os.idxOf 0<os.length:=Pz.mpr c;let ao:=kW hp;show#[0,p,C,dx,_,0,h1,T.cl,T.nO,gW _ _,.inl #[5,bA.of I],ow,os,(0),1,I,c,?_];let k2:=k1 c;generalize os.idxOf 0=j at *;show#[0,p,C,dx,_,0,h1,T.cl,T.nO,gW _ _,0,ow,_,j,j,1,I,3]
  .unfold wY;rw[ti,WY af,WY af];simp
  .show#[aq,λl L=>?_];let U:l≠ow:=λz=>(by rwa[z,ae]at L);rw[ai U]at L;show#[l,(8),0,rfl,ae,af,af,by rw[Pu];omega,λq G=>?_];let ql:q≠l:=λz=>(by rwa[z,ae]at G);rw[ai ql]at G;let qw:q≠ow:=λz=>(by rwa[z,ae]at G);rw[ai qw]at G;let J:∀{b:Addr}{o:HO},H b=some o->b≠l:=λe=>av e L;let O:∀{b:Addr}{o:HO},H b=some o->b≠q:=λe=>av e G;show#[0,p,C,dx,_,0,by rw[ai (O h1),ai (J h1),ai (jR h1 I)];show h1,T.cl,T.nC,uq _ _,0,co,cs,j,j,1,by rw[ai (O R),ai (J R),ai (D0 ab)];show R,3]
   .unfold wY;rw[WY af,WY af];simp
   .show#[0,?_];let hM:¬ M q:=λz=>mt q z G;show k2 _ #[#[dx,by rw[ai (jR h1 R),ai (O h1),ai (J h1),ai (jR h1 I)];show h1],?_,#[_,ae,iu mc (kK #[hM,by rw[ae];rfl] j (nU (by rw[ai ql,ai qw];show G) (nU (by rw[ai U];show L) (iu mw hp))))]] λb o e hb=>?_
    .rw[ai ab,ai (O I),ai (J I),ae,map_set]
    .rw[ai (λz=>hb (.inr z)),ai (O e),ai (J e),ai (λz=>hb (.inl z))];show e
 .rw[decide_eq_false c];show k0 c
theorem MW:aD ["self","n"] ["self","n"] (au BO):=L2.bL
theorem FI{C:Addr}(F:cq K "more" "Store.more" BO f fd)(T:Txt K mg C)(O:↥Md 2 C "refuse_free" (ip C)) :
  ↥aG 3 f fd ["self","n"] (uQ C):=by
 show F.eL MW (λac A outer s H vs Q E hr h=>?_);let#[p,ow,co,M,os,pg,n,rfl,S,L,mc,U,hl,J,k]:=h;let#[#[dx,h1],G,cs,ab,R]:=id S;show#[_,aj (aV (pm (pv 0) T.cl O hr az (aa (pv 1) ag)))
  (ar (yO (aH (pv 0) rfl) (pv 1) (vV) ah Ie set_list)),?_]
 show#[0,p,dx,0,h1,aS _ _ ak ak,0,p,ow,co,M,os,pg,n,rfl,S,hl,J,?_];let#[h0,I,hn,en]:=pq J;generalize n.toNat=j at *;subst en;show#[0,p,C,dx,_,0,h1,T.cl,T.nO,gW _ _,0,ow,_,j,.int (os.getD j 0),1,bA.of G,oW (by rw[Od,ON I];simp[I]),_,0,rfl,ow,_,j,j,1,G,3]
 .unfold wY;rw[ti,WY af,WY af];simp
 .rw[yt I]at k;show k _ #[#[dx,by rw[ai (jR h1 G)];show h1],?_,#[cs,by rw[ai (D0 U)];show ab,iu L R]] λb o e hb=>?_
  .rw[ae,map_set]
  .rw[ai (λz=>hb (.inl z))];show e
theorem Mb:aD ["self"] ["self"] (au CG):=L2.bL
theorem Fb{C:Addr}(F:cq K "free" "Store.free" CG f fd)(T:Txt K mg C):↥aG 1 f fd ["self"] (uv C):=by
 show F.eL Mb (λG A outer s H vs Q E I h=>?_);let#[p,ow,co,M,os,pg,rfl,S,k]:=h;let#[#[dx,h1],z,_]:=id S;show#[_,ar (aO (jn Po PySem.F.slot_list_count PySem.F.type_list_count Cs (aH (pv 0) rfl) (aa ah ag))),?_];show#[0,p,C,dx,_,0,h1,T.cl,T.nO,gW _ _,.inl #[5,bA.of z],ow,os,(0),1,z,k]
end St
namespace Tb
open PySem L2
def top(i:Nat):OB:=PySem.Challenge.pw_ownroom_k90_whole_paged_as_plain.main.body.getD i (.Pass #[(0),(0),(0),(0)])
abbrev oa:OB:=top 29
abbrev jD:OB:=inClass (top 30) 0
abbrev HU:OB:=inClass (top 30) 1
abbrev Hg:OB:=inClass (top 30) 2
abbrev xj:OB:=inClass (top 30) 3
abbrev xO:OB:=inClass (top 30) 4
theorem aw{H:Hp}{l:Addr}{X:HO}(h:H l=none):aQ H (upd H l X):=λb o e=>by rw[ai (av e h)];show e
def Off(B:WZ)(H H':Hp):Prop:=∀b o,H b=some o->¬ B b->H' b=some o
section
variable{α:Type}
def look(l:List (Int×α))(k:Int):Option α:=(l.find? λx=>decide (x.1=k)).map (·.2)
def dk(f:α->V)(l:List (Int×α)):List (Key×V):=l.map λx=>(Ot x.1,f x.2)
def aW(l:List (Int×α))(k:Int)(a:α):List (Int×α):=l.map λx=>if x.1=k then(k,a)else x
def bh(l:List (Int×α))(k:Int):List (Int×α):=l.filter λx=>decide (x.1≠k)
theorem ix(k:Int):look ([]:List (Int×α)) k=none:=rfl
theorem aK(x:Int×α)(l:List (Int×α))(k:Int):look (x::l) k=if x.1=k then some x.2 else look l k:=by
 unfold look;rw[RN];cases h:x.1=k
 .rw[decide_eq_true h,WY h];rfl
 .rw[decide_eq_false h,WX h]
theorem cW(f:α->V)(k:Int):∀l:List (Int×α),gq (dk f l) (Ot k)=(look l k).map f
 | []=>rfl
 |x::l=>by
  let z:=cW f k l;change gq ((Ot x.1,f x.2)::dk f l) (Ot k)=_;rw[aK];cases h:x.1=k
  .rw[WY h,lS (by rw[h])];rfl
  .rw[WX h,lG (λe=>h (Vu e)),z]
theorem aI{l:List (Int×α)}{k:Int}{a:α}(h:look l k=some a):(k,a)∈l:=by
 unfold look at h;let#[x,hx,e]:=wh.mp h;let h1:=List.mem_of_find?_eq_some hx;let h2:x.1=k:=‹List.find?_some hx›;rw[<-h2, <-e];show h1
theorem bW{l:List (Int×α)}{k:Int}(h:look l k=none):¬ k∈l.map (·.1):=by
 unfold look at h;rw[T8,List.find?_eq_none]at h;rintro m;let#[x,hx,e]:=Ol.mp m;show h x hx (decide_eq_true e)
theorem cD{l:List (Int×α)}{k:Int}{a:α}(F:(l.map (·.1)).Nodup)(h:(k,a)∈l):look l k=some a:=by
 induction l with
 |nil=>cases h
 |cons x l I =>
  rw[aK];let#[G,z]:=Oo.mp (show(x.1::l.map (·.1)).Nodup from F);rcases vr.mp h with e|m
  .rw[<-e,WY rfl]
  .have:¬ x.1=k:=λe=>G (e▸Ol.mpr #[_,m,rfl]);rw[WX this];show I z m
theorem Hh(f:α->V)(l:List (Int×α))(k:Int):((dk f l).any λz=>decide (z.1=Ot k))=(look l k).isSome:=by
 rw[lI,cW];cases look l k<;>rfl
theorem eJ{f:α->V}{l:List (Int×α)}{k:Int}{a:α}(h:look l k=none):putK (dk f l) (Ot k) (f a)=dk f (l++[(k,a)]):=by
 rw[Bq _ (by rw[cW,h];rfl)];unfold dk;rw[Ou];rfl
theorem jv{f:α->V}{l:List (Int×α)}{k:Int}{a b:α}(h:look l k=some b):putK (dk f l) (Ot k) (f a)=dk f (aW l k a):=by
 unfold putK;rw[WY (by rw[Hh,h];rfl)];unfold dk aW;rw[Pt,Pt];congr 1;funext x;change(if (Ot x.1:Key)=Ot k then((Ot x.1:Key),f a)else(Ot x.1,f x.2))=((Ot (if x.1=k then(k,a)else x).1:Key),f (if x.1=k then(k,a)else x).2);cases e:x.1=k
 .rw[WY (by rw[e]),WY e,e]
 .rw[WX (λz=>e (Vu z)),WX e]
theorem ir(f:α->V)(l:List (Int×α))(k:Int):qX (dk f l) (Ot k)=dk f (bh l k):=by
 unfold qX dk bh;rw[Wa];congr 1;congr 1;funext x;change decide (¬ (Ot x.1:Key)=Ot k)=decide (¬ x.1=k);cases e:x.1=k
 .rw[e];simp
 .simp[e]
theorem bU{l:List (Int×α)}{k:Int}{a:α}(j:Int)(h:look l k=none):look (l++[(k,a)]) j=if j=k then some a else look l j:=by
 induction l with
 |nil =>
  change look [(k,a)] j=_;rw[aK,ix];cases e:j=k
  .rw[WY e,WY e.symm]
  .rw[WX e,WX (D0 e)]
 |cons x l G =>
  rw[aK]at h;cases e:x.1=k
  .rw[WY e]at h;cases h
  .rw[WX e]at h;change look (x::(l++[(k,a)])) j=_;rw[aK,aK,G h];cases F:x.1=j
   .rw[WY F,WY F,WX (λz=>e (F.trans z))]
   .rw[WX F,WX F]
theorem cp{l:List (Int×α)}{k:Int}{a b:α}(j:Int)(h:look l k=some b):look (aW l k a) j=if j=k then some a else look l j:=by
 induction l with
 |nil=>cases h
 |cons x l G =>
  rw[aK]at h;change look ((if x.1=k then(k,a)else x)::aW l k a) j=_;cases e:x.1=k
  .rw[WY e,aK,aK];cases F:j=k
   .rw[WY F.symm,WY F]
   .rw[WX (D0 F),WX F,WX (λz=>F (z.symm.trans e))];clear G h
    induction l with
    |nil=>rfl
    |cons y l G =>
     change look ((if y.1=k then(k,a)else y)::aW l k a) j=_;cases I:y.1=k
     .rw[WY I,aK,aK,WX (D0 F),WX (λz=>F (z.symm.trans I)),G]
     .rw[WX I,aK,aK,G]
  .rw[WX e]at h;rw[WX e,aK,aK,G h];cases F:x.1=j
   .rw[WY F,WY F,WX (λz=>e (F.trans z))]
   .rw[WX F,WX F]
theorem cA(l:List (Int×α))(k j:Int):look (bh l k) j=if j=k then none else look l j:=by
 induction l with
 |nil =>
  change look [] j=if j=k then none else look [] j
  rw[ix];split<;>rfl
 |cons x l G =>
  unfold bh at *;rw[PV];cases e:x.1=k
  .rw[WX (by simp[e]),G,aK];cases F:j=k
   .rw[WY F,WY F]
   .rw[WX F,WX F,WX (λz=>F (z.symm.trans e))]
  .rw[WY (by simp[e]),aK,aK,G];cases F:x.1=j
   .rw[WY F,WY F,WX (λz=>e (F.trans z))]
   .rw[WX F,WX F]
theorem gP(l:List (Int×α))(k:Int)(a:α):(aW l k a).map (·.1)=l.map (·.1):=by
 unfold aW;rw[Pt];congr 1;funext x;change(if x.1=k then(k,a)else x).1=x.1;cases e:x.1=k
 .rw[WY e,e]
 .rw[WX e]
theorem lZ(l:List (Int×α))(k:Int):(bh l k).map (·.1)=(l.map (·.1)).filter λx=>decide (x≠k):=by
 unfold bh;rw[Wa];rfl
theorem jV(l:List (Int×α))(k:Int)(a:α):(aW l k a).length=l.length:=by unfold aW;rw[ti]
theorem mem_set{l:List (Int×α)}{k:Int}{a:α}{x:Int×α}(h:x∈aW l k a):x=(k,a)\/(x∈l/\x.1≠k):=by
 unfold aW at h;let#[y,z,e]:=Ol.mp h;cases c:y.1=k
 .rw[WY c]at e;show .inl e.symm
 .rw[WX c]at e;subst e;show .inr #[z,c]
theorem dz{l:List (Int×α)}{k:Int}{x:Int×α}(h:x∈bh l k):x∈l/\x.1≠k:=by
 unfold bh at h;let#[h1,h2]:=PB.mp h;show#[h1,of_decide_eq_true h2]
theorem ie(f:α->V)(l:List (Int×α)):(dk f l).length=l.length:=by unfold dk;rw[ti]
theorem oX{l:List (Int×α)}{k:Int}{a:α}(J:(l.map (·.1)).Nodup)(h:look l k=some a):(bh l k).length+1=l.length:=by
 induction l with
 |nil=>cases h
 |cons x l L =>
  let#[I,F]:=Oo.mp (show(x.1::l.map (·.1)).Nodup from J);rw[aK]at h;unfold bh at *;rw[PV];cases e:x.1=k
  .rw[WX (by simp[e])];have:l.filter (λx=>decide (x.1≠k))=l:=by
    rw[SK];intro y G;have:y.1≠k:=λz=>I (by rw[e, <-z];show Ol.mpr #[_,G,rfl]);simpa using this
   rw[this,Oq]
  .rw[WX e]at h;rw[WY ‹e›,Oq,Oq,L F h]
end
abbrev wW:=List (Int×(Addr×List V))
abbrev ll:=List (Int×(Addr×wW))
def fS:Addr×List V->V:=λx=>.ref x.1
def fF:Addr×wW->V:=λx=>.ref x.1
def CB:V->Bool
 |.int _=>true
 |.str _=>true
 |_=>false
def qP(xs:List V):Bool:=xs.all CB&&decide (xs.length<1000)
theorem FO{xs:List V}(h:qP xs=true):xs.all CB=true:=(Uy.mp h).1
theorem EZ{xs:List V}(h:qP xs=true):xs.length<1000:=of_decide_eq_true (Uy.mp h).2
def fW(fs:Addr):List (Str×V):=bu "first_step" (.ref fs) []
theorem mW(fs:Addr):(fW fs).lookup ("first_step" : Str)=some (.ref fs):=by
 unfold fW;rw[aF,WY rfl]
theorem aS(fs:Addr){m:Str}(h:¬ m = "first_step"):(fW fs).lookup m=none:=by
 unfold fW;rw[aF,WX h]
 all_goals rfl
structure jd(H:Hp)(k:Int)(sec:wW):Prop where
 ht:∀y∈sec,H y.2.1=some (.tup y.2.2)/\qP y.2.2=true/\y.1/8=k/\0<=y.1/\y.1<64
 ns:(sec.map (·.1)).Nodup
 ne:sec≠[]
structure TabAt(C:Addr)(H:Hp)(p fs:Addr)(tb:ll):Prop where
 ob:∃dx,H p=some (.ins C dx (fW fs))
 hf:H fs=some (.dK (dk fF tb))
 hd:∀x∈tb,H x.2.1=some (.dK (dk fS x.2.2))
 hs:∀x∈tb,jd H x.1 x.2.2
 nk:(tb.map (·.1)).Nodup
 na:∀x∈tb,∀y∈tb,x.2.1=y.2.1->x.1=y.1
 nf:∀x∈tb,x.2.1≠fs
def dW(tb:ll)(q:Int):Option (List V):=(look tb (q/8)).bind λx=>(look x.2 q).map (·.2)
def gk(fs:Addr)(tb:ll):Addr->Prop:=λb=>b=fs\/∃x∈tb,b=x.2.1
theorem jd.keep{H H':Hp}{k:Int}{F:wW}(S:jd H k F)(h:∀b xs,H b=some (.tup xs)->H' b=some (.tup xs)):jd H' k F :=
 #[λy z=>#[h _ _ (S.ht y z).1,(S.ht y z).2],S.ns,S.ne]
theorem TabAt.same{C:Addr}{H H':Hp}{p fs:Addr}{tb:ll}(T:TabAt C H p fs tb)(s:aQ H H'):TabAt C H' p fs tb:=by
 let#[#[dx,h1],h2,I,z,F,J,G]:=T;show#[#[dx,s _ _ h1],s _ _ h2,λx hx=>s _ _ (I x hx),λx hx=>(z x hx).keep λb xs e=>s _ _ e,F,J,G]
theorem TabAt.put{C:Addr}{H H':Hp}{p fs d:Addr}{tb:ll}{k:Int}{F sec':wW}(T:TabAt C H p fs tb)(J:look tb k=some (d,F))(o:Off (· = d) H H')(hd:H' d=some (.dK (dk fS sec')))(S:jd H' k sec'):TabAt C H' p fs (aW tb k (d,sec')):=by
 let#[#[dx,h1],h2,h3,h4,R,h6,L]:=T;let G:=aI J;let U:=h3 _ G;let O:∀x∈tb,x.1≠k->x.2.1≠d:=λx hx hk e=>hk (h6 x hx _ G e);let same:dk fF (aW tb k (d,sec'))=dk fF tb:=by
  let e:=jv (f:=fF) (a:=(d,sec')) J;rw[<-e];let e2:=jv (f:=fF) (a:=(d,F)) J;let e3:fF (d,sec')=fF (d,F):=rfl;rw[e3,e2];unfold dk aW;rw[Pt];show OV λx hx=>?_;change((Ot (if x.1=k then(k,(d,F))else x).1:Key),fF (if x.1=k then(k,(d,F))else x).2)=(Ot x.1,fF x.2);cases c:x.1=k
  .rw[WY c,c];have:look tb k=some x.2:=cD R (by rw[<-c];show hx);rw[J]at this;rw[<-DD this]
  .rw[WX c]
 show#[#[dx,o _ _ h1 (cM h1 U (by intro z;cases z))],by rw[same];show o _ _ h2 (D0 (L _ G)),λx hx=>?_,λx hx=>?_,by rw[gP];show R,λx hx y I e=>?_,λx hx=>?_]
 .rcases mem_set hx with rfl|⟨hx,c⟩
  .show hd
  .show o _ _ (h3 x hx) (O x hx c)
 .rcases mem_set hx with rfl|⟨hx,c⟩
  .show S
  .show(h4 x hx).keep λb xs e=>o _ _ e (cM e U (by intro z;cases z))
 .rcases mem_set hx with rfl|⟨hx,c⟩<;>rcases mem_set I with rfl|⟨I,c'⟩
  .rfl
  .show absurd e.symm (O y I c')
  .show absurd e (O x hx c)
  .show h6 x hx y I e
 .rcases mem_set hx with rfl|⟨hx,c⟩
  .show(L _ G:d≠fs)
  .show L x hx
theorem TabAt.add{C:Addr}{H H':Hp}{p fs d:Addr}{tb:ll}{k:Int}{sec':wW}(T:TabAt C H p fs tb)(hl:look tb k=none)(G:H d=none)(o:Off (· = fs) H H')(R:H' fs=some (.dK (dk fF (tb++[(k,(d,sec'))]))))(hd:H' d=some (.dK (dk fS sec')))(S:jd H' k sec') :
  TabAt C H' p fs (tb++[(k,(d,sec'))]):=by
 let#[#[dx,h1],h2,J,O,U,h6,I]:=T;let L:∀x∈tb,x.2.1≠d:=λx hx=>av (J x hx) G;let ab:d≠fs:=λe=>(by rwa[e,h2]at G);show#[#[dx,o _ _ h1 (cM h1 h2 (by intro z;cases z))],R,λx hx=>?_,λx hx=>?_,?_,λx hx y F e=>?_,λx hx=>?_]
 .rcases By.mp hx with hx|hx
  .show o _ _ (J x hx) (I x hx)
  .rw[t6.mp hx];show hd
 .rcases By.mp hx with hx|hx
  .show(O x hx).keep λb xs e=>o _ _ e (cM e h2 (by intro z;cases z))
  .rw[t6.mp hx];show S
 .rw[Ou];show lC U (bW hl)
 .rcases By.mp hx with hx|hx<;>rcases By.mp F with F|F
  .show h6 x hx y F e
  .rw[t6.mp F]at e;show absurd e (L x hx)
  .rw[t6.mp hx]at e;show absurd e.symm (L y F)
  .rw[t6.mp hx,t6.mp F]
 .rcases By.mp hx with hx|hx
  .show I x hx
  .rw[t6.mp hx];show ab
theorem TabAt.del{C:Addr}{H H':Hp}{p fs d:Addr}{tb:ll}{k:Int}{U:wW}(T:TabAt C H p fs tb)(hl:look tb k=some (d,U))(o:Off (λb=>b=d\/b=fs) H H')(R:H' fs=some (.dK (dk fF (bh tb k)))):TabAt C H' p fs (bh tb k):=by
 let#[#[dx,h1],h2,J,O,S,L,I]:=T;let F:=aI hl;let G:=J _ F;show#[#[dx,o _ _ h1 λz=>z.elim (cM h1 G (by intro z;cases z)) (cM h1 h2 (by intro z;cases z))],R,λx hx=>?_,λx hx=>?_,?_,λx hx y hy e=>L x (dz hx).1 y (dz hy).1 e,λx hx=>I x (dz hx).1]
 .let#[hx,c]:=dz hx;show o _ _ (J x hx) λz=>z.elim (λe=>c (L x hx _ F e)) (I x hx)
 .let#[hx,c]:=dz hx;show(O x hx).keep λb xs e=>o _ _ e λz=>z.elim (cM e G (by intro z;cases z)) (cM e h2 (by intro z;cases z))
 .rw[lZ];show S.filter _
theorem EN:∀(n:Nat)(a:Int)(l:List Int),l.Nodup->(∀x∈l,a<=x/\x<a+n)->l.length<=n
 |0,a,l,_,h=>by
  cases l with
  |nil=>show G0 _
  |cons x r=>have:=h x OF;omega
 |n+1,a,l,z,h=>by
  let L:=EN n a (l.filter λx=>decide (x≠a+n)) (z.filter _) λx hx=>by
   let#[h1,h2]:=PB.mp hx;let R:=h x h1;let O:x≠a+n:=of_decide_eq_true h2;omega
  let e:(l.filter λx=>decide (x≠a+n)).length+1>=l.length:=by
   clear L h
   induction l with
   |nil=>simp
   |cons x r I =>
    let#[F,J]:=Oo.mp z;rw[PV];cases c:x=a+n
    .rw[WX (by simp[c])];have:r.filter (λx=>decide (x≠a+n))=r:=by
      rw[SK];intro y G;have:y≠a+n:=λe=>F (by rw[c, <-e];show G);simpa using this
     rw[this];simp
    .rw[WY ‹c›];have:=I J;rw[Oq,Oq];omega
  omega
theorem jd.len{H:Hp}{k:Int}{z:wW}(S:jd H k z):z.length<=64:=by
 have:=EN 64 0 (z.map (·.1)) S.ns λx hx=>by
  let#[y,F,rfl]:=Ol.mp hx;have:=S.ht y F;omega
 rwa [ti]at this
theorem TabAt.kb{C:Addr}{H:Hp}{p fs:Addr}{tb:ll}(T:TabAt C H p fs tb):∀x∈tb,0<=x.1/\x.1<8:=λx hx=>by
 let S:=T.hs x hx;cases e:x.2.2 with
 |nil=>show absurd e S.ne
 |cons y r =>
  have:=S.ht y (by rw[e];show OF);omega
theorem TabAt.len{C:Addr}{H:Hp}{p fs:Addr}{tb:ll}(T:TabAt C H p fs tb):tb.length<=8:=by
 have:=EN 8 0 (tb.map (·.1)) T.nk λx hx=>by
  let#[y,z,rfl]:=Ol.mp hx;have:=T.kb y z;omega
 rwa [ti]at this
theorem TabAt.vP{C:Addr}{H:Hp}{p fs:Addr}{tb:ll}(T:TabAt C H p fs tb){q:Int}(h:dW tb q≠none):0<=q/\q<64:=by
 unfold dW at h;cases e:look tb (q/8)with
 |none=>rw[e]at h;show absurd rfl h
 |some a =>
  rw[e,RO]at h;cases z:look a.2 q with
  |none=>rw[z]at h;show absurd rfl h
  |some b =>
   have:=(T.hs _ (aI e)).ht _ (aI z);omega
end Tb
namespace L2
open PySem PySem.Spec PyProof.Rows
section
variable{X:Cx}
theorem rN{α z:Type}(f:α->z):∀(l:List α)(i:Nat),(l.map f).eraseIdx i=(l.eraseIdx i).map f
 | [],_=>rfl
 |_::_,0=>rfl
 |a::l,i+1=>by
  change f a::(l.map f).eraseIdx i=f a::(l.eraseIdx i).map f;rw[rN f l i]
inductive yQ(x:V)(vs:List V)(H:Hp)(Q:VK):Prop
 |mk(l:Addr)(ns:List Int)(k:Int)(_:x=.ref l)(_:vs=[.int k])(_:H l=some (.lst (ns.map V.int)))(_:k∈ns)(_:Q .bB (upd H l (.lst ((ns.erase k).map V.int))))
theorem sv:Gh X "list.remove" yQ:=by
 intros x vs v us Q I rx rv h;let#[l,G,k,rfl,rfl,L,O,q]:=h;cases rx;let#[u,rfl,U]:=rv.one;let#[t,rfl]:=U;let#[z,its,n,r,R,e]:=I.oG L;let hi:=intsAre_of r;let ac:=hi.length;let am:=R;rw[ti]at R z;let hs:=HC;let J:G.idxOf k<G.length:=Pz.mpr O;show QD Tv #[_,e,rfl] PySem.F.entry_list_remove (PySem.F.args_list_remove_2 _ _)
  (MeetsSeq.list_remove l its.toArray n (.int k t) (WM k) (λy hy=>eq_isInt k t hi y ‹hy›) (G.idxOf k) (by simpa[ac]using J) ?_ ?_ (by rw[BY];omega)) #[e,?_]
 .change WM k its[G.idxOf k]=true;rw[V8 k hi _ af J];simpa using SH J
 .intro j ab S;change WM k its[j]=false;rw[V8 k hi j ‹ab› af];show ne_of_lt_idxOf S _
 .show#[.bB,_,I.B1 (its':=its.eraseIdx (G.idxOf k)) L e ?_ ?_ ?_,?_,q]
  .change its.toArray.eraseIdxIfInBounds _=(its.eraseIdx _).toArray;rw[RD]
  .rw[List.erase_eq_eraseIdx_of_idxOf rfl, <-rN];show r.eraseIdx _
  .rw[ti];have:=List.length_erase_of_mem O;omega
  .trivial
end
def kG(K:Om)(H:Hp)(a:Addr)(xs:List V):Prop:=H a=some (.tup xs)\/bM K (λ_=>none) a xs
theorem kG.sq{K:Om}{H:Hp}{a:Addr}{xs:List V}(h:kG K H a xs):bM K H a xs:=by
 rcases h with h|h
 .show bM.of h
 .rcases h with h|h
  .rcases h with h|⟨o,h⟩
   .cases h
   .cases h
  .show .inr h
theorem kG.keep{K:Om}{H H':Hp}{a:Addr}{xs:List V}(h:kG K H a xs)(s:∀o,H a=some o->H' a=some o):kG K H' a xs:=by
 rcases h with h|h
 .show .inl (s _ h)
 .show .inr h
theorem kG.off{K:Om}{H H':Hp}{a:Addr}{xs:List V}(h:kG K H a xs)(s:H a=some (.tup xs)->H' a=some (.tup xs)):kG K H' a xs:=by
 rcases h with h|h
 .show .inl (s h)
 .show .inr h
theorem AG{X:Cx}:fq X (.builtin "isinstance") (λxs H Q=>(∃x n t b,xs=[x,.ty n]/\mC X.K H x t/\Qj X.K t (.type n)=some b/\Q (.bl b) H)\/∃a ys,xs=[.ref a,.ty "tuple"]/\bM X.K H a ys/\Q (.bl true) H):=by
 intros xs us Q I r h;rcases h with h|⟨a,ys,rfl,J,q⟩
 .show fm pins s σ H xs us Q I r h
 .let#[u,c,rfl,G,F]:=vals2 r;obtain rfl:c=Value.type "tuple" := F;cases(show u=Value.ref a from G);let#[its,_,#[o,h1,h2,_],_]:=I.tuple J;show Rh kitx_tuple I.kh #[o,h1,h2] (Ih _) (λz=>nomatch z) λtk=>#[.bl true,H,I.tok _,rfl,q]
end L2
namespace Tb
open PySem L2
structure Ec(mg:W9):Prop where
 xn:mg "isinstance" = none
 tuple:mg "tuple" = none
 list:mg "list" = none
 dict:mg "dict" = none
 len:mg "len" = none
 sorted:mg "sorted" = none
def BC:V->Bool
 |.int _=>true
 |.str _=>true
 |.bB=>true
 |_=>false
inductive uO(vs:List V)(H:Hp)(Q:VK)(e:XK):Prop
 |mk(v:_)(_:vs=[v])(_:BC v=true)(_:Q v H)
def lh(K:Om):Sp:=λvs H Q _=>(∃v,vs=[v]/\BC v=true/\Q v H)\/∃(a:Addr)(xs:List V),vs=[.ref a]/\kG K H a xs/\qP xs=true/\∀H' l,aQ H H'->H l=none->H' l=some (.tup xs)->Q (.ref l) H'
theorem Fh:∀{v:V},CB v=true->BC v=true
 |.int _,_=>rfl
 |.str _,_=>rfl
theorem LI:aD ["value","copied","key"] ["value"] (au oa):=L2.bL
theorem BH(F:cq K "own_copy" "own_copy" oa f fd)(T:Ec mg):↥aG 1 f fd ["value"] uO:=by
 show F.eL LI (λG A outer s H vs Q E I h=>?_);let#[v,rfl,z,k]:=h;show#[_,(aj (bJ (fE (a9 fm (by rfl) T.xn bE (aa (pv 0) (aa (f6 (v:=.ty "tuple") (by rfl) T.tuple qR rfl) ag)))) (ar fz) aR)
  (aj (bJ (fE (a9 fm (by rfl) T.xn bE (aa (pv 0) (aa (f6 (v:=.ty "list") (by rfl) T.list eF rfl) ag)))) (ar fz) aR)
  (aj (bJ (fE (a9 fm (by rfl) T.xn bE (aa (pv 0) (aa (f6 (v:=.ty "dict") (by rfl) T.dict yW rfl) ag)))) (aj fz
  (aj fz
  (ar fz))) aR)
  (ar (aO (pv 0)))))),?_]
 cases v with
 |int i=>show#[0,.int i,"tuple",_,false,rfl,.int i,CD _,false,rfl,bw #[0,.int i,"list",_,false,rfl,.int i,Cu _,false,rfl,bw #[0,.int i,"dict",_,false,rfl,.int i,DJ _,false,rfl,bw #[0,k]]]]
 |str i=>show#[0,.str i,"tuple",_,false,rfl,.str i,Cc _,false,rfl,bw #[0,.str i,"list",_,false,rfl,.str i,Dx _,false,rfl,bw #[0,.str i,"dict",_,false,rfl,.str i,Bn _,false,rfl,bw #[0,k]]]]
 |bB=>show#[0,.bB,"tuple",_,false,rfl,.bB,Di _,false,rfl,bw #[0,.bB,"list",_,false,rfl,.bB,BG _,false,rfl,bw #[0,.bB,"dict",_,false,rfl,.bB,BP _,false,rfl,bw #[0,k]]]]
 |_=>cases z
theorem uf(F:cq K "own_copy" "own_copy" oa f fd)(T:Ec mg)(R:↥Df 1 "own_copy" uO):↥aG 2 f fd ["value"] (lh K):=by
 show F.ok LI (λvs H Q E h=>?_) (λam A outer s H vs Q E hr h=>?_)
 .rcases h with⟨v,rfl,_⟩|⟨a,xs,rfl,_⟩
  .rfl
  .rfl
 .show#[_,(aj (bJ (fE (a9 AG (by rfl) T.xn bE (aa (pv 0) (aa (f6 (v:=.ty "tuple") (by rfl) T.tuple qR rfl) ag)))) (ar (aO (cJ rH (by rfl) T.tuple qR (aa (lF (cl:=[]) (caps:=[]) #[rfl,ak,ak,rfl,by kernel_rfl,by intro p I;simp at I,by kernel_rfl,by intro p I;simp at I,ak] rfl (Io (pv 0)) (λ_ _ _ _=>j6) (λ_ _ _ _=>(pc R hr az (aa (pv 0) ag)))) ag)))) aR)
   (aj (bJ (fE (a9 fm (by rfl) T.xn bE (aa (pv 0) (aa (f6 (v:=.ty "list") (by rfl) T.list eF rfl) ag)))) (ar fz) aR)
   (aj (bJ (fE (a9 fm (by rfl) T.xn bE (aa (pv 0) (aa (f6 (v:=.ty "dict") (by rfl) T.dict yW rfl) ag)))) (aj fz
   (aj fz
   (ar fz))) aR)
   (ar (aO (pv 0)))))),?_]
  rcases h with⟨v,rfl,S,k⟩|⟨a,xs,rfl,J,L,k⟩
  .cases v with
   |int i=>show#[0,.inl #[.int i,"tuple",_,false,rfl,.int i,CD _,false,rfl,bw #[0,.int i,"list",_,false,rfl,.int i,Cu _,false,rfl,bw #[0,.int i,"dict",_,false,rfl,.int i,DJ _,false,rfl,bw #[0,k]]]]]
   |str i=>show#[0,.inl #[.str i,"tuple",_,false,rfl,.str i,Cc _,false,rfl,bw #[0,.str i,"list",_,false,rfl,.str i,Dx _,false,rfl,bw #[0,.str i,"dict",_,false,rfl,.str i,Bn _,false,rfl,bw #[0,k]]]]]
   |bB=>show#[0,.inl #[.bB,"tuple",_,false,rfl,.bB,Di _,false,rfl,bw #[0,.bB,"list",_,false,rfl,.bB,BG _,false,rfl,bw #[0,.bB,"dict",_,false,rfl,.bB,BP _,false,rfl,bw #[0,k]]]]]
   |_=>cases S
  .let hs:=HC;let hx:=FO L;let hn:=EZ L;show#[0,.inr #[a,xs,rfl,J.sq,true,rfl,eO ?_]];show#[0,a,rfl,#[xs,J.sq],?_];show Au (xs:=xs) (λi ys H'=>H'=H/\ys=xs.take i) #[1] (λi ys H' _ p=>by rw[p.1];show J.sq) (λi x ys H' hi p=>?_) (λys H' p l hl=>?_)
   .let#[rfl,rfl]:=p;let#[O,ac]:=sN.mp hi;show#[0,x,rfl,Fh (PL.mp hx x (ac▸Qt O)),?_,4]
    .rw[Oz];omega
    .rw[Wb,hi];rfl
   .let#[rfl,rfl]:=p;rw[Ph];show#[l,xs,rfl,.inl #[bA.of ae,λl2 G=>?_]];let U:l2≠l:=λz=>(by rwa[z,ae]at G);let ab:H' l2=none:=(by rw[ai U]at G;show G);show k _ l2 ((aw hl).trans (aw G)) ab ae
structure Txt(K:Om)(mg:W9)(C:Addr):Prop where
 cl:oE K C
 nF:cZ K C "first_step"
 sp:∃u,mg "STEP_PAGES" = some u/\RelV (.int 8) u
def JX(H:Hp)(v:V):Option (List V)->Prop
 |none=>v=.bB
 |some xs=>∃t,v=.ref t/\H t=some (.tup xs)
inductive gu(C:Addr)(v:List V)(H:Hp)(Q:VK)(e:XK):Prop
 |mk(p dx:Addr)(_:v=[.ref p])(_:H p=some (.ins C dx []))(_:∀(fs:Addr)(H':Hp),H fs=none->TabAt C H' p fs []->Off (· = p) H H'->Q .bB H')
inductive sA(C:Addr)(vs:List V)(H:Hp)(Q:VK)(e:XK):Prop
 |mk(p fs:Addr)(tb:ll)(q:Int)(_:vs=[.ref p,.int q])(_:TabAt C H p fs tb)(_:∀H' v,aQ H H'->JX H' v (dW tb q)->Q v H')
inductive wc(K:Om)(C:Addr)(v:List V)(H:Hp)(Q:VK)(e:XK):Prop
 |mk(p fs t:Addr)(tb:ll)(q:Int)(xs:List V)(_:v=[.ref p,.int q,.ref t])(_:TabAt C H p fs tb)(_:0<=q)(_:q<64)(_:kG K H t xs)(_:qP xs=true)(_:∀H' tb',TabAt C H' p fs tb'->(∀j,dW tb' j=if j=q then some xs else dW tb j)->Off (gk fs tb) H H'->(∀b,gk fs tb' b->gk fs tb b\/H b=none)->Q .bB H')
inductive uD(C:Addr)(v:List V)(H:Hp)(Q:VK)(e:XK):Prop
 |mk(p fs:Addr)(tb:ll)(q:Int)(_:v=[.ref p,.int q])(_:TabAt C H p fs tb)(_:∀H' tb',TabAt C H' p fs tb'->(∀j,dW tb' j=if j=q then none else dW tb j)->(tb'.length=tb.length\/tb'.length+1=tb.length)->Off (gk fs tb) H H'->(∀b,gk fs tb' b->gk fs tb b\/H b=none)->Q .bB H')
def gS(tb:ll):List Int:=tb.flatMap λx=>x.2.2.map (·.1)
inductive d9(C:Addr)(v:List V)(H:Hp)(Q:VK)(e:XK):Prop
 |mk(p fs:Addr)(tb:ll)(_:v=[.ref p])(_:TabAt C H p fs tb)(_:∀H' l (ns:List Int),aQ H H'->H l=none->H' l=some (.lst (ns.map V.int))->ns.Perm (gS tb)->ns.Pairwise (· <= ·)->Q (.ref l) H')
theorem vU{C:Addr}{H:Hp}{p fs:Addr}{tb:ll}(T:TabAt C H p fs tb)(q:Int):q∈gS tb↔dW tb q≠none:=by
 unfold gS;rw[RP];constructor
 .rintro⟨x,hx,G⟩;let#[y,F,rfl]:=Ol.mp G;let S:=T.hs x hx;unfold dW;rw[(S.ht y F).2.2.1,cD T.nk hx,RO,cD S.ns F];simp
 .intro h;unfold dW at h;cases e:look tb (q/8)with
  |none=>rw[e]at h;show absurd rfl h
  |some a =>
   rw[e,RO]at h;cases z:look a.2 q with
   |none=>rw[z]at h;show absurd rfl h
   |some b=>show#[_,aI e,Ol.mpr #[_,aI z,rfl]]
theorem mD{C:Addr}{H:Hp}{p fs:Addr}{tb:ll}(T:TabAt C H p fs tb):(gS tb).Nodup:=by
 let hs:=T.hs;let O:=T.nk;clear T
 induction tb with
 |nil=>show Pk
 |cons x r ih =>
  let#[S,U]:=Oo.mp (show(x.1::r.map (·.1)).Nodup from O);change(x.2.2.map (·.1)++gS r).Nodup;rw[Pf];show#[(hs x OF).ns,ih (λy F=>hs y (OH _ F)) U,λa ha b G e=>S ?_];let#[y,F,rfl]:=Ol.mp ha;let#[z,J,G]:=RP.mp G;let#[I,R,rfl]:=Ol.mp G;let a1:=((hs x OF).ht y F).2.2.1;let a2:=((hs z (OH _ J)).ht I R).2.2.1;let L:y.1=I.1:=e;rw[<-a1,L,a2];show Ol.mpr #[z,J,rfl]
theorem vJ{C:Addr}{H:Hp}{p fs:Addr}{tb:ll}(T:TabAt C H p fs tb)(i:Nat):(gS (tb.take i)).length<=64:=by
 let h1:(gS tb).length<=64:=EN 64 0 (gS tb) (mD T) λx hx=>by
  have:=T.vP ((vU T x).mp hx);omega
 let h2:(gS (tb.take i)).length<=(gS tb).length:=by
  conv=>rhs;rw[<-P1 i tb]
  unfold gS;rw[Sl,Oj];omega
 omega
theorem vM{tb:ll}{q:Int}{d:Addr}{z:wW}(h:look tb (q/8)=some (d,z)):dW tb q=(look z q).map (·.2):=by
 unfold dW;rw[h,RO]
theorem wk{tb:ll}{q:Int}(h:look tb (q/8)=none):dW tb q=none:=by
 unfold dW;rw[h];rfl
theorem rP{tb:ll}{k q:Int}{d:Addr}{z sec':wW}{o:Option (Addr×List V)}(F:look tb k=some (d,z))(G:q/8=k)(h:∀j,look sec' j=if j=q then o else look z j)(j:Int) :
  dW (aW tb k (d,sec')) j=if j=q then o.map (·.2)else dW tb j:=by
 unfold dW;rw[cp (j/8) F];cases c:j/8=k
 .rw[WY c,RO,h j,c,F,RO];cases e:j=q
  .rw[WY e,WY e]
  .rw[WX e,WX e]
 .rw[WX c,WX (λe=>c (by rw[e];show G))]
theorem AJ{tb:ll}{k q:Int}{d:Addr}{sec':wW}{o:Option (Addr×List V)}(z:look tb k=none)(F:q/8=k)(h:∀j,look sec' j=if j=q then o else none)(j:Int) :
  dW (tb++[(k,(d,sec'))]) j=if j=q then o.map (·.2)else dW tb j:=by
 unfold dW;rw[bU (j/8) z];cases c:j/8=k
 .rw[WY c,RO,h j,c,z];cases e:j=q
  .rw[WY e,WY e]
  .rw[WX e,WX e];rfl
 .rw[WX c,WX (λe=>c (by rw[e];show F))]
theorem AR{tb:ll}{k q:Int}{d:Addr}{z:wW}(G:look tb k=some (d,z))(F:q/8=k)(h:∀j,j≠q->look z j=none)(j:Int) :
  dW (bh tb k) j=if j=q then none else dW tb j:=by
 unfold dW;rw[cA];cases c:j/8=k
 .rw[WY c,c,G];cases e:j=q
  .rw[WY e];rfl
  .rw[WX e,RO,h j e];rfl
 .rw[WX c,WX (λe=>c (by rw[e];show F))]
theorem Fj{H:Hp}{k q:Int}{G:wW}{l:Addr}{xs:List V}(S:jd H k G)(L:H l=some (.tup xs))(hx:qP xs=true)(I:q/8=k)(J:0<=q)(h1:q<64) :
  ∃sec',putK (dk fS G) (Ot q) (.ref l)=dk fS sec'/\(∀j,look sec' j=if j=q then some (l,xs)else look G j)/\jd H k sec':=by
 cases e:look G q with
 |none =>
  show#[G++[(q,(l,xs))],eJ (f:=fS) (a:=(l,xs)) e,λj=>bU j e,λy F=>?_,?_,by simp]
  .rcases By.mp F with F|F
   .show S.ht y F
   .rw[t6.mp F];show#[L,hx,I,J,h1]
  .rw[Ou];show lC S.ns (bW e)
 |some b =>
  show#[aW G q (l,xs),jv (f:=fS) (a:=(l,xs)) e,λj=>cp j e,λy F=>?_,3]
  .rcases mem_set F with rfl|⟨F,_⟩
   .show#[L,hx,I,J,h1]
   .show S.ht y F
  .rw[gP];show S.ns
  .intro z;have:=jV G q (l,xs);rw[z]at this;show S.ne (Pd.mp this.symm)
theorem js{B:WZ}{H H' z:Hp}(s:aQ H H')(o:Off B H' z):Off B H z:=λb u e F=>o b u (s b u e) F
theorem uj{B:WZ}{H:Hp}{a:Addr}{X:HO}(h:B a):Off B H (upd H a X):=λb u e F=>by rw[ai (λz=>F (by rw[z];show h))];show e
theorem Off.mono{B F:WZ}{H H':Hp}(o:Off B H H')(h:∀b,B b->F b):Off F H H':=λb u e G=>o b u e λz=>G (h b z)
theorem Hu{C:Addr}{H:Hp}{p fs:Addr}{tb:ll}(T:TabAt C H p fs tb):(dk fF tb).length<sizeLine:=by
 let h:=T.len;let hs:=HC;rw[ie];omega
theorem HI{H:Hp}{k:Int}{z:wW}(S:jd H k z):(dk fS z).length<sizeLine:=by
 let h:=S.len;let hs:=HC;rw[ie];omega
theorem yS{fs d:Addr}{tb:ll}{k:Int}{F sec':wW}(z:(k,(d,F))∈tb){b:Addr}(h:gk fs (aW tb k (d,sec')) b):gk fs tb b:=by
 rcases h with h|⟨x,hx,h⟩
 .show .inl h
 .rcases mem_set hx with rfl|⟨hx,_⟩
  .show .inr #[_,z,h]
  .show .inr #[x,hx,h]
theorem ES{fs:Addr}{tb:ll}{k:Int}{b:Addr}(h:gk fs (bh tb k) b):gk fs tb b:=by
 rcases h with h|⟨x,hx,h⟩
 .show .inl h
 .show .inr #[x,(dz hx).1,h]
theorem m5(tb:ll)(k:Int):gq (dk fF tb) (Ot k)=(look tb k).map fF:=cW fF k tb
theorem xw(z:wW)(k:Int):gq (dk fS z) (Ot k)=(look z k).map fS:=cW fS k z
theorem Mc:aD ["self"] ["self"] (au jD):=L2.bL
theorem mj{C:Addr}(F:cq K "__init__" "Table.__init__" jD f fd)(T:Txt K mg C):↥aG 1 f fd ["self"] (gu C):=by
 show F.eL Mc (λJ A outer s H vs Q E L h=>?_);let#[p,dx,rfl,G,k]:=h;show#[_,(ar (fV (pv 0) fG rfl)),?_];intro fs z;let np:p≠fs:=av G z;show#[0,p,C,dx,[],rfl,by rw[ai np];show G,T.cl,T.nF,aq,?_];show k fs _ z #[#[dx,by rw[ae];rfl],by rw[ai (D0 np),ae];rfl,λx hx=>(Oh hx).elim,λx hx=>(Oh hx).elim,.nil,λx hx=>(Oh hx).elim,λx hx=>(Oh hx).elim] λb u e I=>?_;rw[ai I,ai (av e z)];show e
theorem NR:aD ["self","page","second"] ["self","page"] (au HU):=L2.bL
theorem IP{C:Addr}(F:cq K "get" "Table.get" HU f fd)(T:Txt K mg C)(R:↥Df 2 "own_copy" (lh K)):↥aG 3 f fd ["self","page"] (sA C):=by
 let#[u8,S,U]:=T.sp;show F.eL NR (λac A outer s H vs Q E J h=>?_);let#[p,fs,tb,q,rfl,TT,k]:=h;let#[dx,h1]:=TT.ob;show#[_,(aj (cV 2 NR.nd (wg (de J) (aH (pv 0) rfl) (aA bo (pv 1) (bO (by rfl) S U)) fG #[1,1]))
  (ar (aO (pc R J az (aa (B7 (de J) (pv 2) (pv 1) #[1,1]) ag))))),?_]
 show#[0,p,C,dx,_,.ref fs,rfl,h1,T.cl,T.nF,mW fs,fs,rfl,.inl #[_,.inl TT.hf],0,_,0,rfl,#[aq,aq],λe O=>?_];let z:=aw (X:=.dK []) O;let G:=TT.same z;show#[_,fb.k (k:=.inl (q/8)) G.hf,?_];rw[m5];cases c:look tb (q/8)with
 |none =>
  show#[0,e,rfl,.inl #[_,.inl ae],0,_,fb.k (k:=.inl q) ae,.inl #[.bB,1,k _ _ z ?_]];rw[wk c];rfl
 |some a =>
  let#[d,ab]:=a;let L:=aI c;let hd:=G.hd _ L;show#[0,d,rfl,.inl #[_,.inl hd],0,_,fb.k (k:=.inl q) hd,?_];rw[xw];let le:=vM c;cases I:look ab q with
  |none =>
   show .inl #[.bB,1,k _ _ z ?_];rw[le,I];rfl
  |some b =>
   let#[t,xs]:=b;let hs:=(G.hs _ L).ht _ (aI I);show .inr #[t,xs,rfl,.inl hs.1,hs.2.1,λH' l s' am hl=>k _ _ (z.trans s') ?_];rw[le,I];show#[l,rfl,hl]
theorem LL:aD ["self","page","entry","second"] ["self","page","entry"] (au Hg):=L2.bL
theorem Hb{C:Addr}(F:cq K "lay" "Table.lay" Hg f fd)(T:Txt K mg C)(GC:↥Df 2 "own_copy" (lh K)):↥aG 3 f fd ["self","page","entry"] (wc K C):=by
 let#[u8,m8,r8]:=T.sp;show F.eL LL (λap A outer s H vs Q E hr h=>?_);let#[p,fs,t,tb,q,xs,rfl,TT,q0,q1,ht,hx,k]:=h;let#[dx,h1]:=TT.ob;show#[_,(aj (cV 3 LL.nd (DT (aH (pv 0) rfl) (aA bo (pv 1) (bO (by rfl) m8 r8)) fG #[1,1]))
  (ar (fZ (de hr) (pv 3) (pv 1) (pc GC hr az (aa (pv 2) ag)) rfl))),?_]
 show#[0,p,C,dx,_,.ref fs,rfl,h1,T.cl,T.nF,mW fs,fs,rfl,.inl #[_,.inl TT.hf],0,_,0,rfl,#[aq,aq],λe L=>?_];let U:=aw (X:=.dK []) L;let T1:=TT.same U;show#[_,.inl (q/8),T1.hf,rfl,Hu T1,λv G=>?_,λG=>?_]
 .rw[m5]at G;cases c:look tb (q/8)with
  |none=>rwa[c]at G
  |some a =>
   let#[d,ao]:=a;rw[c]at G;obtain rfl:V.ref d=v:=DD G;let O:=aI c;show#[0,.inr #[t,xs,rfl,ht.keep λo e=>U _ _ e,hx,λH2 l s2 ac S=>?_]];let R:=T1.same s2;let#[sec',e1,e2,S']:=Fj (R.hs _ O) S hx rfl q0 q1;let hd:=R.hd _ O;show#[0,0,d,0,kL.k (k:=.inl q) hd (HI (R.hs _ O)),?_];rw[e1];let J:Off (· = d) H2 (upd H2 d (.dK (dk fS sec'))):=uj rfl;show k _ _ (R.put c J ae (S'.keep λb ys I=>J _ _ I (cM I hd (by intro z;cases z)))) (λj=>rP c rfl e2 j) (js (U.trans s2) (J.mono λb z=>.inr #[_,O,z])) λb z=>.inl (yS O z)
 .rw[m5]at G;let c:look tb (q/8)=none:=by
   cases c:look tb (q/8)with
   |none=>rfl
   |some a=>rwa[c]at G
  let ep:putK (dk fF tb) (Ot (q/8)) (.ref e)=dk fF (tb++[(q/8,(e,[]))]):=eJ (f:=fF) (a:=(e,[])) c;rw[ep];let ef:e≠fs:=λz=>av TT.hf L z.symm;let hE:upd (upd H e (.dK [])) fs (.dK (dk fF (tb++[(q/8,(e,[]))]))) e=some (.dK []):=(by rw[ai ef,ae]);let o1:Off (· = fs) H (upd (upd H e (.dK [])) fs (.dK (dk fF (tb++[(q/8,(e,[]))])))):=λb u I hb=>(by rw[ai hb,ai (av I L)];show I);show#[0,.inr #[t,xs,rfl,ht.off λe=>o1 _ _ e (cM e TT.hf (by intro z;cases z)),hx,λH2 l s2 ac S=>?_]];let ab:=s2 _ _ hE;show#[0,0,e,0,kL.k (k:=.inl q) ab aq,?_];let e1:putK ([]:List (Key×V)) (Ot q) (.ref l)=dk fS [(q,(l,xs))]:=rfl;rw[e1];let J:Off (· = e) H2 (upd H2 e (.dK (dk fS [(q,(l,xs))]))):=uj rfl;let oA:Off (· = fs) H (upd H2 e (.dK (dk fS [(q,(l,xs))]))):=λb u I hb=>J b u (s2 _ _ (o1 b u I hb)) (av I L);let am:(upd H2 e (.dK (dk fS [(q,(l,xs))]))) l=some (.tup xs):=J _ _ S (cM S ab (by intro z;cases z));show k _ _ (TT.add (sec':=[(q,(l,xs))]) c L oA ?_ ae #[λy hy=>?_,?_,by simp]) (λj=>AJ (o:=some (l,xs)) c rfl (λj=>?_) j) (oA.mono λb z=>.inl z) λb z=>?_
  rotate_left 4
  .rcases z with z|⟨x,hx,z⟩
   .show .inl (.inl z)
   .rcases By.mp hx with hx|hx
    .show .inl (.inr #[x,hx,z])
    .rw[t6.mp hx]at z;rw[z];show .inr L
  .show J _ _ (s2 _ _ ae) (D0 ef) |>.trans ?_;unfold dk;rw[Ou,Ou];rfl
  .rw[t6.mp hy];show#[am,hx,rfl,q0,q1]
  .simp
  .rw[aK,ix];cases z:j=q
   .rw[WY z,WY z.symm]
   .rw[WX z,WX (D0 z)]
theorem Nt:aD ["self","page","k","second"] ["self","page"] (au xj):=L2.bL
theorem CJ{C:Addr}(F:cq K "clear" "Table.clear" xj f fd)(T:Txt K mg C)(TP:Ec mg):↥aG 1 f fd ["self","page"] (uD C):=by
 let#[u8,m8,r8]:=T.sp;let U:=T;show F.eL Nt (λao A outer s H vs Q E hr h=>?_);let#[p,fs,tb,q,rfl,TT,k]:=h;let#[dx,h1]:=TT.ob;replace T:=TP;show#[_,(aj (cV 2 Nt.nd (aA bo (pv 1) (bO (by rfl) m8 r8)))
  (aj (cV 3 Nt.nd (wg (de hr) (aH (pv 0) rfl) (pv 2) fG #[1,1]))
  (aj (bJ (nN (jQ (de hr) (pv 1) (pv 3))) (ar sV) aR)
  (aj (aV (iw (pv 3) (pv 1) #[1,1]))
  (ar (bJ (aJ cK (a9 mY (by rfl) T.len boot_len (aa (pv 3) ag)) ah (aP _)) (ar (aV (iw (aH (pv 0) rfl) (pv 2) #[1,1]))) aR)))))),?_]
 show#[0,_,0,rfl,#[aq,aq],?_];show#[0,p,C,dx,_,.ref fs,rfl,h1,U.cl,U.nF,mW fs,fs,rfl,.inl #[_,.inl TT.hf],0,λe he=>?_];let J:=aw (X:=.dK []) he;let I:=TT.same J;show#[_,fb.k (k:=.inl (q/8)) I.hf,?_];rw[m5];cases c:look tb (q/8)with
 |none =>
  show#[0,0,e,0,fb.k (k:=.inl q) ae,true,rfl,eO ?_];show k _ _ I (λj=>?_) (.inl rfl) (js J λb u O _=>O) λb z=>.inl z;cases z:j=q
  .rw[WY z,z];show wk c
  .rw[WX z]
 |some a =>
  let#[d,G]:=a;let L:=aI c;let hd:=I.hd _ L;let S:=I.hs _ L;show#[0,0,d,0,fb.k (k:=.inl q) hd,?_];rw[xw];cases c2:look G q with
  |none =>
   show#[true,rfl,eO ?_];show k _ _ I (λj=>?_) (.inl rfl) (js J λb u O _=>O) λb z=>.inl z;cases z:j=q
   .rw[WY z,z,vM c,c2];rfl
   .rw[WX z]
  |some b =>
   show#[false,rfl,bw ?_];show#[0,d,rfl,.inl #[_,.inl hd],0,_,.inl q,fS b,hd,rfl,by rw[xw,c2];rfl,?_];rw[ir];show#[0,d,0,ae,4];let R:Off (· = d) (upd H e (.dK [])) (upd (upd H e (.dK [])) d (.dK (dk fS (bh G q)))):=uj rfl;cases z:bh G q=[]
   .let n0:decide (V.int ((dk fS (bh G q)).length:Nat)=V.int 0)=true:=(by rw[z];rfl);rw[n0];show#[true,rfl,eO ?_];let ac:d≠fs:=TT.nf _ L;let ab:(upd (upd H e (.dK [])) d (.dK (dk fS (bh G q)))) fs=some (.dK (dk fF tb)):=R _ _ I.hf (D0 ac);let am:(upd (upd H e (.dK [])) d (.dK (dk fS (bh G q)))) p=some (.ins C dx (fW fs)):=R _ _ (J _ _ h1) (cM (J _ _ h1) hd (by intro z;cases z));show#[0,p,C,dx,_,.ref fs,rfl,am,U.cl,U.nF,mW fs,fs,rfl,.inl #[_,.inl ab],0,_,.inl (q/8),fF (d,G),ab,rfl,by rw[m5,c];rfl,?_];rw[ir];let o3:Off (λb=>b=d\/b=fs) (upd H e (.dK [])) (upd (upd (upd H e (.dK [])) d (.dK (dk fS (bh G q)))) fs (.dK (dk fF (bh tb (q/8))))):=λb u O hb=>by
     rw[ai λz=>hb (.inr z),ai λz=>hb (.inl z)];show O
    show k _ _ (I.del c o3 ae) (λj=>AR c rfl (λj hj=>?_) j) (.inr ?_) (js J (o3.mono λb z=>z.elim (λz=>.inr #[_,L,z]) .inl)) λb z=>.inl (ES z)
    .have:=cA G q j;rw[z,ix,WX hj]at this;show this.symm
    .show oX TT.nk c
   .let n0:decide (V.int ((dk fS (bh G q)).length:Nat)=V.int 0)=false:=decide_eq_false λy=>by
     injection y with y;rw[ie]at y;show z (Pd.mp af)
    rw[n0];show#[false,rfl,bw ?_];let S2:jd (upd (upd H e (.dK [])) d (.dK (dk fS (bh G q)))) (q/8) (bh G q):=#[λy hy=>?_,?_,z]
    .show k _ _ (I.put c R ae S2) (λj=>rP c rfl (λj=>cA G q j) j) (.inl (jV _ _ _)) (js J (R.mono λb z=>.inr #[_,L,z])) λb z=>.inl (yS L z)
    .let y2:=S.ht y (dz hy).1;show#[R _ _ y2.1 (cM y2.1 hd (by intro z;cases z)),y2.2]
    .rw[lZ];show S.ns.filter _
theorem JY:aD ["self","found","k"] ["self"] (au xO):=L2.bL
theorem DF{C:Addr}(F:cq K "pages" "Table.pages" xO f fd)(L:Txt K mg C)(T:Ec mg):↥aG 1 f fd ["self"] (d9 C):=by
 show F.eL JY (λas A outer s H vs Q E hr h=>?_);let#[p,fs,tb,rfl,TT,k]:=h;let#[dx,h1]:=TT.ob;let G:=TT.hf;let hs:=HC;show#[_,(aj (cV 1 JY.nd (cm ag))
  (aj (y0 (dh Ow rfl (oO (aH (pv 0) rfl)) (nD 2 JY.nd) (ar (aV (jn Po Qf RQ (yc rfl) (pv 1) (aa (hJ (de hr) (aH (pv 0) rfl) (pv 2) cB) ag))))))
  (ar (aO (a9 uK (by rfl) T.sorted zS (aa (pv 1) ag)))))),?_]
 let S:∀o U,H fs≠some (.frz o U):=λo U z=>(by rwa[G]at z);show#[aq,λl J=>?_];let sl:=aw (X:=.lst []) J;let O:l≠fs:=λz=>av G J z.symm;let ap:p≠l:=av h1 J;let am:p≠fs:=cM h1 G (by intro z;cases z);show#[0,p,C,dx,_,.ref fs,rfl,sl _ _ h1,L.cl,L.nF,mW fs,fs,0,sl _ _ G,S,λo=>?_];show vG (kvs:=dk fF tb) (λi σ H'=>H'=upd (upd H l (.lst ((gS (tb.take i)).map V.int))) fs (.frz o (.dK (dk fF tb)))/\∃v,σ=#v[.ref p,.ref l,v]) #[rfl,0] (λi σ H' _ h=>by rw[h.1,ae]) (λi k v σ H' hi h=>?_) (λσ H' h=>?_)
 .let#[rfl,v',rfl]:=h;unfold dk at hi;rw[Od]at hi;cases e:tb[i]? with
  |none=>rwa[e]at hi
  |some x =>
   rw[e]at hi;let#[rfl,rfl]:=WL (DD hi);let hx:x∈tb:=NC e;let hd:=TT.hd x hx;let dl:x.2.1≠l:=av hd J;let df:x.2.1≠fs:=TT.nf x hx;let aB:i<tb.length:=(sN.mp e).1;let EN:=vJ TT i;let bx:=(TT.hs x hx).len;let eH:(upd (upd H l (.lst ((gS (tb.take i)).map V.int))) fs (.frz o (.dK (dk fF tb)))) l=some (.lst ((gS (tb.take i)).map V.int)):=(by rw[ai O,ae]);show#[0,.inl #[5,bA.of eH],0,p,C,dx,_,.ref fs,rfl,by rw[ai am,ai ap];show h1,L.cl,L.nF,mW fs,0,fs,.ref x.2.1,rfl,.inl #[dk fF tb,.inl x.1,.inr #[o,ae],4],l,x.2.1,_,dk fS x.2.2,1,eH,by rw[ai df,ai dl];show hd,3]
   .rw[m5,cD TT.nk hx];rfl
   .rw[ti,ie];omega
   .show#[?_,0];rw[Wb,e];funext b;cases z:b=l
    .rw[z,ae,ai O,ae];let ek:(dk fS x.2.2).map (λkv=>kV kv.1)=(x.2.2.map (·.1)).map V.int:=by
      unfold dk;rw[Pt,Pt];rfl
     rw[ek, <-Ou];unfold gS;rw[Sl];simp
    .rw[ai z];cases R:b=fs
     .rw[R,ae,ae]
     .rw[ai R,ai R,ai z,ai z]
 .let#[rfl,v',rfl]:=h;show#[fs,o,_,ae,S,?_];rw[ie,Ph];let e0:upd (upd (upd H l (.lst ((gS tb).map V.int))) fs (.frz o (.dK (dk fF tb)))) fs (.dK (dk fF tb))=upd H l (.lst ((gS tb).map V.int)):=by
   funext b;cases z:b=fs
   .rw[z,ae,ai (D0 O)];show G.symm
   .rw[ai z,ai z]
  rw[e0];let EN:=vJ TT tb.length;rw[Ph]at EN;let ab:=aw (X:=.lst ((gS tb).map V.int)) J;show#[0,l,gS tb,rfl,bA.of ae,mD TT,af,λl2 ao I hp hs=>?_];let ac:l2≠l:=λz=>(by rwa[z,ae]at I);show k _ l2 ao (ab.trans (aw I)) (by rw[ai ac]at I;show I) ae hp hs
end Tb
namespace Rm
open PySem L2
def top(i:Nat):OB:=PySem.Challenge.pw_ownroom_k90_whole_paged_as_plain.main.body.getD i (.Pass #[(0),(0),(0),(0)])
abbrev iU:OB:=top 20
abbrev jY:OB:=top 21
abbrev uJ:OB:=top 22
abbrev oZ:OB:=top 23
abbrev ma:OB:=top 24
abbrev tL:OB:=top 25
abbrev C9:OB:=top 26
theorem aw{H:Hp}{l:Addr}{X:HO}(h:H l=none):aQ H (upd H l X):=λb o e=>by rw[ai (av e h)];show e
theorem FG{H H':Hp}{l:Addr}{X:HO}(s:aQ H H')(h:H l=none):aQ H (upd H' l X):=λb o e=>by rw[ai (av e h)];show s b o e
structure qm(K:Om)(mg:W9)(x:Str)(C:Addr):Prop where
 IV:mg x=some (.ref C)
 IG:excIn K C CU "ValueError.__new__" = true
structure Def(K:Om)(mg:W9)(x:Str)(f:Addr)(fd:t7)(ps:List Str):Prop where
 mg:mg x=some (.ref f)
 kp:Sy K (.ref f)=true
 b:Binds K fd ps []
structure vA(mg:W9):Prop where
 vP:∃u,mg "ROOM_PAGES" = some u/\RelV (.int 64) u
 cells:∃u,mg "PAGE_CELLS" = some u/\RelV (.int 8) u
 list:mg "list" = none
 range:mg "range" = none
 len:mg "len" = none
def aX(p m:Int):Prop:=m<1\/p<0\/64<p+m
def aE(p m:Int):List Int:=(Rj m.toNat).map λk:Nat=>p+k
inductive di(v:List V)(H:Hp)(Q:VK)(e:XK):Prop
 |mk(p m:Int)(_:v=[.int p,.int m])(_:¬ aX p m)(_:∀(H':Hp)(l:Addr),aQ H H'->H l=none->H' l=some (.lst ((aE p m).map V.int))->Q (.ref l) H')
theorem jx(q:Int):∀z:List Int,Ha (.int q) (z.map V.int)=decide (q∈z)
 | []=>rfl
 |m::z=>by
  let F:=jx q z;unfold Ha at F ⊢;rw[PN,Us,F];cases e:q=m
  .rw[e];simp[pA]
  .let G:m≠q:=D0 e;simp[pA,e,G]
inductive iE(v:List V)(H:Hp)(Q:VK)(e:XK):Prop
 |mk(a b:Addr)(ms ps:List Int)(_:v=[.ref a,.ref b])(_:H a=some (.lst (ms.map V.int)))(_:H b=some (.lst (ps.map V.int)))(_:(∀q∈ps,q∈ms))(_:Q .bB H)
theorem JN:aD ["page","many"] ["page","many"] (au iU):=L2.bL
theorem uc(F:cq K "pages_from" "pages_from" iU f fd)(T:vA mg):↥aG 1 f fd ["page","many"] di:=by
 let#[am,O,ab]:=T.vP;show F.eL JN (λac A outer s H vs Q E hr h=>?_);let#[p,m,rfl,G,kQ]:=h;let hs:=HC;let d1:¬ m<1:=λz=>G (.inl z);let R:¬ p<0:=λz=>G (.inr (.inl z));let S:¬ 64<p+m:=λz=>G (.inr (.inr z));show#[_,(aj (bJ (PW.pt (lU (aJ gO (pv 1) ah (aP _)) (lU (aJ gO (pv 0) ah (aP _)) (kS (aJ oy (aA bR (pv 0) (pv 1)) (bO (by rfl) O ab) (aP _)))))) dJ aR)
  (ar (aO (cJ (pX rfl) (by rfl) T.list eF (aa (cJ Aw (by rfl) T.range CO (aa (pv 0) (aa (aA bR (pv 0) (pv 1)) ag))) ag))))),?_]
 show oK λ_ ji L=>?_;clear ji;show#[0,_,0,rfl,0,?_];show fN (λc=>absurd (of_decide_eq_true c) d1) (λ_=>?_);show#[0,_,0,rfl,0,?_];show fN (λc=>absurd (of_decide_eq_true c) R) (λ_=>?_);show#[0,0,_,0,5,0,rfl,0,?_];show rD (λc=>absurd (of_decide_eq_true c) S) (λ_=>L _ ?_);show#[0,0,0,_,0,rfl,p,p+m,rfl,λpr U=>?_];let I:=aw (X:=.rng p (p+m)) U;show#[pr,p,m.toNat,rfl,by rw[ae,Ri af],af,af,af,λl J=>?_];show kQ _ l (I.trans (aw J)) (I.free J) ?_;rw[ae];unfold aE;rw[Pt];rfl
theorem EW:aD ["mapped","pages","page"] ["mapped","pages"] (au jY):=L2.bL
theorem u9(F:cq K "refuse_unmapped" "refuse_unmapped" jY f fd):↥aG 1 f fd ["mapped","pages"] iE:=by
 show F.eL EW (λR A outer s H vs Q E U h=>?_);let#[a,b,S,ps,rfl,L,z,G,J]:=h;show#[_,(ar (dh Ow rfl (dQ (pv 1)) (nD 2 EW.nd) (ar (bJ (aJ iW (pv 2) (pv 0) (by with_unfolding_all rfl)) dJ aR)))),?_];show#[0,b,rfl,#[_,bA.of z],?_];show dg (K:=K) (a:=b) (xs:=ps.map V.int) (λi σ H2=>∃v2:Option V,σ=#v[.ref a,.ref b,v2]/\H2=H) #[0,rfl] (λi σ H2 _ O=>by let#[_,_,e]:=O;rw[e];show bA.of z) ?_ ?_
 .rintro i x σ H2 hx ⟨v2,rfl,rfl⟩;rw[Od]at hx;let#[q,I,rfl]:=wh.mp hx;show#[0,0,a,0,.inl (bA.of L),rfl,fX _,0,?_];rw[jx,decide_eq_true (G q (NC I))];show bw #[0,rfl]
 .rintro σ H2 ⟨v2,rfl,rfl⟩;show J
theorem iy{p m:Int}(h:¬ aX p m):∀q∈aE p m,0<=q/\q<64/\q.natAbs.log2<1920:=λq F=>by
 unfold aE at F;let#[k,G,rfl]:=Ol.mp F;rw[Sr]at G;let h1:¬ m<1:=λz=>h (.inl z);let h2:¬ p<0:=λz=>h (.inr (.inl z));let L:¬ 64<p+m:=λz=>h (.inr (.inr z));show#[af,af,?_];cases z:(p+(k:Int)).natAbs=0
 .rw[z];decide
 .rw[WC z];let J:(p+(k:Int)).natAbs<64:=af;let I:(64:Nat)<2^1920:=ak;omega
inductive gA(v:List V)(H:Hp)(Q:VK)(e:XK):Prop
 |mk(a:Addr)(ms:List Int)(p m:Int)(_:v=[.ref a,.int p,.int m])(_:H a=some (.lst (ms.map V.int)))(_:¬ aX p m)(_:(∀q∈aE p m,¬ q∈ms))(_:∀(H':Hp)(l:Addr),aQ H H'->H l=none->H' l=some (.lst ((aE p m).map V.int))->Q (.ref l) H')
inductive gi(v:List V)(H:Hp)(Q:VK)(e:XK):Prop
 |mk(a:Addr)(ms:List Int)(p m:Int)(_:v=[.ref a,.int p,.int m])(_:H a=some (.lst (ms.map V.int)))(_:¬ aX p m)(_:(∀q∈aE p m,q∈ms))(_:∀(H':Hp)(l:Addr),aQ H H'->H l=none->H' l=some (.lst ((aE p m).map V.int))->Q (.ref l) H')
def ed(ad:Int):Int:=ad/8
def dB(ad n:Int):Int:=(ad+n-1)/8-ad/8+1
def bq(ad n:Int)(z:List Int):Prop:=n<0\/(0<n/\(aX (ed ad) (dB ad n)\/¬ ∀q∈aE (ed ad) (dB ad n),q∈z))
def aC(ad n:Int):List Int:=if n=0 then[]else aE (ed ad) (dB ad n)
inductive dN(v:List V)(H:Hp)(Q:VK)(e:XK):Prop
 |mk(a:Addr)(ms:List Int)(ad n:Int)(_:v=[.ref a,.int ad,.int n])(_:H a=some (.lst (ms.map V.int)))(_:¬ bq ad n ms)(_:∀(H':Hp)(l:Addr),aQ H H'->H l=none->H' l=some (.lst ((aC ad n).map V.int))->Q (.ref l) H')
theorem x6:aD ["mapped","page","many","pages","wanted"] ["mapped","page","many"] (au uJ):=L2.bL
theorem lO(F:cq K "pages_to_map" "pages_to_map" uJ f fd)(R:↥Df 1 "pages_from" di):↥aG 2 f fd ["mapped","page","many"] gA:=by
 show F.eL x6 (λac A outer s H vs Q E S h=>?_);let#[a,ms,p,m,rfl,ha,U,hn,L]:=h;show#[_,(aj (cV 3 x6.nd (pc R S az (aa (pv 1) (aa (pv 2) ag))))
  (aj (dh Ow rfl (dQ (pv 3)) (nD 4 x6.nd) (ar (bJ (aJ rO (pv 4) (pv 0) (by with_unfolding_all rfl)) dJ aR)))
  (ar (aO (pv 3))))),?_]
 show#[0,0,p,m,rfl,U,λH1 l I J z=>?_];show#[0,l,rfl,#[_,bA.of z],?_];show dg (K:=K) (a:=l) (xs:=(aE p m).map V.int) (λi σ H2=>∃G:Option V,σ=#v[.ref a,.int p,.int m,.ref l,G]/\H2=H1) #[0,rfl] (λi σ H2 _ O=>by let#[_,_,e]:=O;rw[e];show bA.of z) ?_ ?_
 .rintro i x σ H2 hx ⟨G,rfl,rfl⟩;rw[Od]at hx;let#[q,ab,rfl]:=wh.mp hx;show#[0,0,a,0,.inl (bA.of (I _ _ ha)),rfl,fX _,0,?_];rw[jx,decide_eq_false (hn q (NC ab))];show bw #[0,rfl]
 .rintro σ H2 ⟨G,rfl,rfl⟩;show#[0,L _ l I J z]
theorem C8:aD ["mapped","page","many","pages"] ["mapped","page","many"] (au oZ):=L2.bL
theorem jW(F:cq K "pages_to_drop" "pages_to_drop" oZ f fd)(O:↥Df 1 "pages_from" di)(J:↥Df 1 "refuse_unmapped" iE):↥aG 2 f fd ["mapped","page","many"] gi:=by
 show F.eL C8 (λab A outer s H vs Q E z h=>?_);let#[a,R,p,m,rfl,ha,S,U,kQ]:=h;show#[_,(aj (cV 3 C8.nd (pc O z az (aa (pv 1) (aa (pv 2) ag))))
  (aj (aV (pc J z az (aa (pv 0) (aa (pv 3) ag))))
  (ar (aO (pv 3))))),?_]
 show#[0,0,p,m,rfl,S,λH1 l I L G=>?_];show#[0,0,a,l,R,aE p m,rfl,I _ _ ha,G,U,#[0,kQ _ l I L G]]
theorem qH:aD ["mapped","address","many","first","last","pages"] ["mapped","address","many"] (au ma):=L2.bL
theorem iJ(F:cq K "pages_of_cells" "pages_of_cells" ma f fd)(T:vA mg)(GP:↥Df 1 "pages_from" di)(GU:↥Df 1 "refuse_unmapped" iE):↥aG 2 f fd ["mapped","address","many"] dN:=by
 let#[u8,J,L]:=T.cells;show F.eL qH (λab A outer s H vs Q E hr h=>?_);let#[a,U,ad,n,rfl,ha,G,O]:=h;show#[_,(aj (bJ (aJ cK (pv 2) ah (aP _)) (ar (aO (cm ag))) aR)
  (aj (bJ (aJ gO (pv 2) ah (aP _)) dJ aR)
  (aj (cV 3 qH.nd (aA bo (pv 1) (bO (by rfl) J L)))
  (aj (cV 4 qH.nd (aA bo (aA mQ (aA bR (pv 1) (pv 2)) ah) (bO (by rfl) J L)))
  (aj (cV 5 qH.nd (pc GP hr az (aa (pv 3) (aa (aA bR (aA mQ (pv 4) (pv 3)) ah) ag))))
  (aj (aV (pc GU hr az (aa (pv 0) (aa (pv 5) ag))))
  (ar (aO (pv 5))))))))),?_]
 show#[0,rfl,0,?_];show fN (λc=>?_) (λc=>?_)
 .let e:n=0:=V.int.inj (of_decide_eq_true c);show#[aq,λl hl=>?_];show O _ l (aw hl) hl ?_;rw[ae];unfold aC;rw[WY e];rfl
 let ne:¬ n=0:=λz=>c (decide_eq_true (by rw[z]));let nn:¬ n<0:=λz=>G (.inl z);let S:0<n:=af;let np:¬ aX (ed ad) (dB ad n):=λz=>G (.inr #[S,.inl z]);let ni:∀q∈aE (ed ad) (dB ad n),q∈U:=Ox λz=>G (.inr #[S,.inr z]);show#[0,_,0,rfl,0,?_];show fN (λc'=>absurd (of_decide_eq_true c') nn) (λ_=>?_);show#[0,_,0,rfl,#[aq,aq],0,0,_,0,5,0,5,0,rfl,#[aq,aq],?_];show#[0,0,0,_,0,5,0,rfl,ed ad,dB ad n,rfl,np,λH1 l R nl I=>?_];show#[0,0,a,l,U,aE (ed ad) (dB ad n),rfl,R _ _ ha,I,ni,#[0,O _ l R nl ?_]];unfold aC;rw[WX ne];show I
theorem zk{ws:List Int}{s n:Nat}:jk (ws.map V.int) (some (s:Int)) (some ((s:Int)+(n:Int)))=((ws.drop s).take n).map V.int:=by
 unfold jk;rw[ti,HT.oS,show((s:Int)+(n:Int))=((s+n:Nat):Int)by push_cast;rfl,HT.oS, <-Wn, <-Wd];congr 1;cases h:s<=ws.length
 .rw[Ta h];cases h2:s+n<=ws.length
  .rw[Ta h2,show s+n-s=n by omega]
  .rw[So af,O8 (by rw[P7];omega),O8 (by rw[P7];omega)]
 .rw[So af,So af,QL (G0 _),QL af];simp
theorem tq{ws:List Int}{s:Nat}:jk (ws.map V.int) none (some (s:Int))=(ws.take s).map V.int:=by
 unfold jk;rw[ti,HT.oS,show HT.uY ws.length 0 none=0 from rfl,V4,Nat.sub_zero, <-Wd];congr 1;cases h:s<=ws.length
 .rw[Ta h]
 .rw[So af,O8 (G0 _),O8 af]
theorem Am{ws:List Int}{s:Nat}:jk (ws.map V.int) (some (s:Int)) none=(ws.drop s).map V.int:=by
 unfold jk;rw[ti,HT.oS,show HT.uY ws.length ws.length none=ws.length from rfl, <-Wn, <-Wd];congr 1;cases h:s<=ws.length
 .rw[Ta h,O8 (by rw[P7];omega)]
 .rw[So af,QL (G0 _),QL af];simp
theorem eR{K:Om}{H H':Hp}{a:Addr}{xs:List V}(h:bA K H a xs)(s:∀o,H a=some o->H' a=some o):bA K H' a xs:=by
 rcases h with(h|⟨o,h⟩)|h
 .show .inl (.inl (s _ h))
 .show .inl (.inr #[o,s _ h])
 .show .inr h
theorem xy{α z:Type}{F G:α->z->Prop}(h:∀x y,F x y->G x y):∀{xs:List α}{ys:List z},Paired F xs ys->Paired G xs ys
 |_,_,.nil=>.nil
 |_,_,.cons q t=>.cons (h _ _ q) (xy h t)
theorem xP{α z:Type}{F:α->z->Prop}{xs G:List α}{ys I:List z}(p:Paired F xs ys)(h:Paired F G I):Paired F (xs++G) (ys++I):=by
 induction p with
 |nil=>show h
 |cons q _ J=>show .cons q J
theorem yE{α z:Type}{F:α->z->Prop}{x:α}{xs:List α}{ys:List z}(p:Paired F xs ys)(h:x∈xs):∃y,F x y:=by
 induction p with
 |nil=>cases h
 |cons q _ G =>
  rcases vr.mp h with e|h
  .show#[_,e▸q]
  .show G h
inductive mi(v:List V)(H:Hp)(Q:VK)(e:XK):Prop
 |mk(a:Addr)(ws:List Int)(ad:Int)(n:Nat)(_:v=[.ref a,.int ad,.int n])(_:H a=some (.lst (ws.map V.int)))(_:∀(H':Hp)(l:Addr),aQ H H'->H l=none->H' l=some (.lst (((ws.drop (ad%8).toNat).take n).map V.int))->Q (.ref l) H')
def eg(ws:List Int)(s:Nat)(cs:List Int):List Int:=ws.take s++cs++ws.drop (s+cs.length)
def fJ(k:Nat)(ws:List Int):List (List Int):=(Rj k).map λi=>(ws.drop (8*i)).take 8
inductive sX(K:Om)(v:List V)(H:Hp)(Q:VK)(e:XK):Prop
 |mk (a c:Addr) (ws cs:List Int) (ad:Int) (k:Nat) (_:v=[.ref a,.int ad,.ref c]) (_:H a=some (.lst (ws.map V.int))) (_:bA K H c (cs.map V.int)) (_:ws.length<=600) (_:cs.length<=600) (_:k<=64) (_:(eg ws (ad%8).toNat cs).length=8*k) (_:∀(H':Hp)(l:Addr)(rs:List Addr),aQ H H'->H l=none->H' l=some (.lst (rs.map V.ref))->Paired (λr (row:List Int)=>H' r=some (.lst (row.map V.int))) rs (fJ k (eg ws (ad%8).toNat cs))->(∀r∈rs,H r=none)->rs.Nodup->Q (.ref l) H'):sX K v H Q e
theorem Mz:∀k:Nat,k<65->Builtin.Range.small 0 (8*(k:Int)) 8=true/\Builtin.Range.rangeSize 0 (8*(k:Int)) 8=(k:Int)/\Builtin.divisionGoesByPylong (8*(k:Int)-0) 8=false:=ak
theorem JF:aD ["whole","address","many","start"] ["whole","address","many"] (au tL):=L2.bL
theorem rR(F:cq K "run_within" "run_within" tL f fd)(T:vA mg):↥aG 1 f fd ["whole","address","many"] mi:=by
 let#[U,I,J]:=T.cells;show F.eL JF (λR A outer s H vs Q E S h=>?_);let#[a,ws,ad,n,rfl,L,k]:=h;show#[_,(aj (cV 3 JF.nd (aA bC (pv 1) (bO (by rfl) I J)))
  (ar (aO (gL iR (pv 0) (gE (pv 3)) (gE (aA bR (pv 3) (pv 2))))))),?_]
 show#[0,_,0,rfl,IH,?_];let G:=Pj ad (show(8:Int)≠0 by decide);show#[0,0,ad%8,rfl,0,0,_,0,rfl,ad%8+n,rfl,a,0,bA.of L,λl z=>?_];let e:ad%8=((ad%8).toNat:Int):=(Ri G).symm;let O:jk (ws.map V.int) (some (ad%8)) (some (ad%8+n))=((ws.drop (ad%8).toNat).take n).map V.int:=by
  rw[e];show zk
 show k _ l (aw z) z (by rw[ae,O])
theorem HW:aD ["whole","address","cells","start","changed"] ["whole","address","cells"] (au C9):=L2.bL
theorem zl(F:cq K "pages_with" "pages_with" C9 f fd)(T:vA mg):↥aG 1 f fd ["whole","address","cells"] (sX K):=by
 let#[u8,m8,r8]:=T.cells;show F.eL HW (λa5 A outer s H vs Q E hr h=>?_);let#[a,c,ws,cs,ad,j,rfl,ha,hc,hw,a6,hj,aB,k]:=h;let hs:=HC;show#[_,(aj (cV 3 HW.nd (aA bC (pv 1) (bO (by rfl) m8 r8)))
  (aj (cV 4 HW.nd (aA xU (aA xU (gL iR (pv 0) mx (gE (pv 3))) (cJ ff (by rfl) T.list eF (aa (pv 2) ag))) (gL iR (pv 0) (gE (aA bR (pv 3) (a9 bS (by rfl) T.len boot_len (aa (pv 2) ag)))) mx)))
  (ar (aO (lF (cl:=[("changed",s⁻¹+1)]) (caps:=[("changed",4)]) #[rfl,ak,ak,rfl,by kernel_rfl,by intro p G;simp only[vr,Oh,or_false]at G;rcases G with rfl<;>first|rfl|show#[rfl,.inl rfl,.inl rfl]|show#[rfl,.inl rfl,.inr rfl],by kernel_rfl,by intro p G;simp only[vr,Oh,or_false]at G;rcases G with rfl<;>first|rfl|show#[rfl,.inl rfl,.inl rfl]|show#[rfl,.inl rfl,.inr rfl],ak] rfl (AK (by rfl) T.range (aa ah (aa (a9 bS (by rfl) T.len boot_len (aa (pv 4) ag)) (aa (bO (by rfl) m8 r8) ag)))) (λ_ _ _ _=>j6) (λ_ _ _ _=>(gL (show Mi _ (Iy K)from iR) (pv 1) (gE (pv 0)) (gE (aA bR (pv 0) (bO (by rfl) m8 r8)))))))))),?_]
 show iT λ_ jt=>?_;show#[0,_,0,rfl,IH,?_];let m0:=Pj ad (show(8:Int)≠0 by decide);let e:ad%8=((ad%8).toNat:Int):=(Ri m0).symm;show jt _ _ ?_;change dF _ _ _ [some (V.ref a),some (.int ad),some (.ref c),some (.int (ad%8)),none] H;rw[e];generalize (ad%8).toNat=st at *;clear e m0;show iT λ_ jt=>?_;show#[0,0,(st:Int),rfl,a,0,bA.of ha,λO aT=>?_];rw[tq];let s1:=aw (X:=.lst ((ws.take st).map V.int)) aT;let e1:(upd H O (.lst ((ws.take st).map V.int))) O=some (.lst ((ws.take st).map V.int)):=ae;show#[0,c,0,.inl (eR hc (s1 _)),λl2 a4=>?_];let s2:=aw (X:=.lst (cs.map V.int)) a4;show#[O,l2,_,0,rfl,s2 _ _ e1,ae,by rw[ti,ti,Oz];omega,λS a3=>?_];rw[<-Ou];let s3:=aw (X:=.lst ((ws.take st++cs).map V.int)) a3;let S3:=(s1.trans s2).trans s3;let e3:(upd (upd (upd H O (.lst ((ws.take st).map V.int))) l2 (.lst (cs.map V.int))) S (.lst ((ws.take st++cs).map V.int))) S=some (.lst ((ws.take st++cs).map V.int)):=ae;generalize upd (upd (upd H O (.lst ((ws.take st).map V.int))) l2 (.lst (cs.map V.int))) S (.lst ((ws.take st++cs).map V.int))=H3 at *;show#[0,0,0,c,0,.inl (eR hc (S3 _)),_,0,rfl,0,a,0,bA.of (S3 _ _ ha),λR a0=>?_];rw[show((st:Int)+((cs.map V.int).length:Nat))=((st+cs.length:Nat):Int)by rw[ti];push_cast;rfl,Am];let s4:=aw (X:=.lst ((ws.drop (st+cs.length)).map V.int)) a0;show#[S,R,_,0,rfl,s4 _ _ e3,ae,by rw[ti,ti,Oj,Oz,P7];omega,λJ as=>?_];rw[<-Ou,show ws.take st++cs++ws.drop (st+cs.length)=eg ws st cs from rfl];let S5:aQ H (upd (upd H3 R (.lst ((ws.drop (st+cs.length)).map V.int))) J (.lst ((eg ws st cs).map V.int))):=(S3.trans s4).trans (aw as);let e5:(upd (upd H3 R (.lst ((ws.drop (st+cs.length)).map V.int))) J (.lst ((eg ws st cs).map V.int))) J=some (.lst ((eg ws st cs).map V.int)):=ae;generalize upd (upd H3 R (.lst ((ws.drop (st+cs.length)).map V.int))) J (.lst ((eg ws st cs).map V.int))=H5 at *;generalize eg ws st cs=sp at *;let#[r1,r2,r3]:=Mz j af;show jt _ _ (L6 λ_ jr=>?_);show#[0,J,0,.inl (bA.of e5),(0),8*(j:Int),(8),j,by rw[ti,aB];push_cast;rfl,r1,r2,aq,r3,?_];show tj (lo:=0) (st:=8) (n:=j) (λi ys U=>∃I:List Addr,EI (ys=I.map V.ref) (I.length=i) (Paired (λr (am:List Int)=>U r=some (.lst (am.map V.int))) I (fJ i sp)) (aQ H5 U) ((∀r∈I,H5 r=none)) I.Nodup) #[[],1,.nil,aQ.refl _,(λ_ h=>nomatch h),Pk] ?_ ?_
 .rintro i ys U hi ⟨I,rfl,ac,G,L,hn,nd⟩;show#[0,0,0,0,_,0,rfl,0,J,0,bA.of (L _ _ e5),λr ab=>?_];rw[show(0+(i:Int)*8)=((8*i:Nat):Int)by push_cast;omega,show(((8*i:Nat):Int)+8)=((8*i:Nat):Int)+((8:Nat):Int)from rfl,zk];let sr:=aw (X:=.lst (((sp.drop (8*i)).take 8).map V.int)) ab;show#[by rw[ti];omega,I++[r],by rw[Ou];rfl,by rw[Oj,ac];rfl,?_,L.trans sr,λx hx=>?_,?_]
  .unfold fJ at G ⊢;rw[List.range_succ,Ou];show xP (xy (λx y h=>sr _ _ h) G) (.cons ae .nil)
  .rcases By.mp hx with hx|hx
   .show hn x hx
   .rw[t6.mp hx];show L.free ab
  .show Pf.mpr #[nd,Oo.mpr #[by simp,Pk],λx hx y hy=>?_];rw[t6.mp hy];intro z;let#[am,ao]:=yE G hx;rwa[z,ab]at ao
 .rintro ys U ⟨I,rfl,ac,G,L,hn,nd⟩ l6 ap;let s7:=aw (X:=.lst (I.map V.ref)) ap;show jr _ _ (k _ l6 I ((S5.trans L).trans s7) ((S5.trans L).free ap) ae (xy (λx y h=>s7 _ _ h) G) (λr h=>S5.free (hn r h)) nd)
end Rm
namespace Pg
def upd{α:Type}(f:Bool->α)(b:Bool)(v:α):Bool->α:=λc=>if c=b then v else f c
def eT{α:Type}(f:Int->α)(k:Int)(v:α):Int->α:=λj=>if j=k then v else f j
theorem ae{α:Type}{f:Bool->α}{b:Bool}{v:α}:upd f b v b=v:=WY rfl
theorem bj{α:Type}{f:Bool->α}{b c:Bool}{v:α}(h:c≠b):upd f b v c=f c:=WX h
theorem bD{α:Type}{f:Int->α}{b:Int}{v:α}:eT f b v b=v:=WY rfl
theorem aM{α:Type}{f:Int->α}{b c:Int}{v:α}(h:c≠b):eT f b v c=f c:=WX h
structure PS where
 ow:Bool->List Int
 co:Bool->List (Option (List Int))
 pl:Int->Option (Bool×Nat)
 ls:Int
 inf:List Int
def Vw(s:PS)(k:Int)(cs:List Int)(c:Int):Prop:=∃b n,s.pl k=some (b,n)/\(s.co b)[n]?=some (some cs)/\(s.ow b)[n]?=some c
structure Good(s:PS):Prop where
 rg:∀k p,s.pl k=some p->1<=k/\k<=s.ls
 va:∀k b n,s.pl k=some (b,n)->∃cs c,(s.co b)[n]?=some (some cs)/\(s.ow b)[n]?=some c/\1<=c/\cs.length=8
 inj:∀k j p,s.pl k=some p->s.pl j=some p->k=j
 on:∀b n c,(s.ow b)[n]?=some c->c=0\/∃k,s.pl k=some (b,n)
 ln:∀b,(s.co b).length=(s.ow b).length
 nd:s.inf.Nodup
 fi:∀k,k∈s.inf↔∃n,s.pl k=some (true,n)
def yX(s:PS)(b:Bool)(k:Int)(cs:List Int)(c:Int):PS :=
 { ow:=upd s.ow b ((s.ow b).set ((s.ow b).idxOf 0) c),co:=upd s.co b ((s.co b).set ((s.ow b).idxOf 0) (some cs)),pl:=eT s.pl k (some (b,(s.ow b).idxOf 0)),ls:=s.ls,inf:=if b=true then s.inf++[k]else s.inf }
def rJ(s:PS)(k:Int)(b:Bool)(n:Nat):PS :=
 { ow:=upd s.ow b ((s.ow b).set n 0),co:=s.co,pl:=eT s.pl k none,ls:=s.ls,inf:=s.inf.erase k }
def cL(s:PS)(b:Bool)(n:Nat)(c:Int):PS:={ s with ow:=upd s.ow b ((s.ow b).set n c) }
def write(s:PS)(b:Bool)(n:Nat)(cs:List Int):PS:={ s with co:=upd s.co b ((s.co b).set n (some cs)) }
theorem xb{l:List Int}(h:(0:Int)∈l):l[l.idxOf 0]?=some 0:=by
 let z:l.idxOf 0<l.length:=Pz.mpr h;rw[ON z,SH z]
theorem xG{l:List Int}(h:(0:Int)∈l):l.idxOf 0<l.length:=Pz.mpr h
section
variable{s:PS}{b:Bool}{k:Int}{cs:List Int}{c:Int}{n:Nat}
theorem yT(G:Good s)(h:(0:Int)∈s.ow b):∀j,s.pl j≠some (b,(s.ow b).idxOf 0):=by
 intro j e;let#[cs,c,_,h2,z,_]:=G.va _ _ _ e;rwa[xb h]at h2;omega
theorem pW(G:Good s)(h0:(0:Int)∈s.ow b)(hk:s.pl k=none)(h1:1<=k)(h2:k<=s.ls)(h3:1<=c)(h4:cs.length=8):Good (yX s b k cs c):=by
 let hl:=xG h0;let U:=yT G h0;let ac:(s.ow b).idxOf 0<(s.co b).length:=(by rw[G.ln b];show hl);show#[3,3,3,?_]
 .intro j p e;cases I:j=k
  .subst I;show#[h1,h2]
  .show G.rg j p (by rw[<-e];show(aM I).symm)
 .intro j F O e;cases I:j=k
  .subst I;let e:some (b,(s.ow b).idxOf 0)=some (F,O):=(by rw[<-e];show bD.symm);cases e;show#[cs,c,3,h3,h4]
   .change(upd s.co b _ b)[_]?=_;rw[ae,OR ac]
   .change(upd s.ow b _ b)[_]?=_;rw[ae,OR hl]
  .let L:s.pl j=some (F,O):=(by rw[<-e];show(aM I).symm);let#[ab,c',e1,e2,e3,e4]:=G.va _ _ _ L;show#[ab,c',3,e3,e4]
   .change(upd s.co b _ F)[_]?=_;cases z:F=b
    .subst z;rw[ae,OI (λq=>U j (by rw[L,q]))];show e1
    .rw[bj z];show e1
   .change(upd s.ow b _ F)[_]?=_;cases z:F=b
    .subst z;rw[ae,OI (λq=>U j (by rw[L,q]))];show e2
    .rw[bj z];show e2
 .intro j R p e J;cases I:j=k
  .by_cases S:R=k
   .rw[I,S]
   .subst I;let e:some (b,(s.ow b).idxOf 0)=some p:=(by rw[<-e];show bD.symm);let J:s.pl R=some p:=(by rw[<-J];show(aM S).symm);show absurd (J.trans e.symm) (U R)
  .let L:s.pl j=some p:=(by rw[<-e];show(aM I).symm);cases S:R=k
   .subst S;let J:some (b,(s.ow b).idxOf 0)=some p:=(by rw[<-J];show bD.symm);show absurd (L.trans J.symm) (U j)
   .let J:s.pl R=some p:=(by rw[<-J];show(aM S).symm);show G.inj _ _ _ L J
 .intro F O c' e;let e:(upd s.ow b ((s.ow b).set ((s.ow b).idxOf 0) c) F)[O]?=some c':=e;cases z:F=b
  .subst z;cases en:(s.ow F).idxOf 0=O
   .show .inr #[k,by change eT s.pl k _ k=_;rw[bD,en]]
   .rw[ae,OI en]at e;rcases G.on _ _ _ e with h|⟨j,h⟩
    .show .inl h
    .show .inr #[j,?_];change eT s.pl k _ j=_;rw[aM (λq=>by rwa[q,hk]at h)];show h
  .rw[bj z]at e;rcases G.on _ _ _ e with h|⟨j,h⟩
   .show .inl h
   .show .inr #[j,?_];change eT s.pl k _ j=_;rw[aM (λq=>by rwa[q,hk]at h)];show h
 .intro F;change(upd s.co b _ F).length=(upd s.ow b _ F).length;cases z:F=b
  .subst z;rw[ae,ae,Pa,Pa];show G.ln _
  .rw[bj z,bj z];show G.ln _
 .change(if b=true then s.inf++[k]else s.inf).Nodup;cases z:b=true
  .rw[WY z];show Pf.mpr #[G.nd,by simp,?_];intro x hx y hy e;rw[t6]at hy;subst hy;subst e;let#[m,hm]:=(G.fi x).mp hx;rwa[hk]at hm
  .rw[WX z];show G.nd
 .intro j;change j∈(if b=true then s.inf++[k]else s.inf)↔∃m,eT s.pl k (some (b,(s.ow b).idxOf 0)) j=some (true,m);cases I:j=k
  .subst I;rw[bD];cases z:b=true
   .subst z;rw[WY rfl];show#[λ_=>#[0],λ_=>by simp]
   .rw[WX z,G.fi];show#[λ⟨m,h⟩=>(by rwa[hk]at h),λ⟨m,h⟩=>(by cases h;show absurd rfl z)]
  .rw[aM I, <-G.fi];cases z:b=true
   .rw[WY z];simp[I]
   .rw[WX z]
theorem pV(z:(0:Int)∈s.ow b)(G:Good s):Vw (yX s b k cs c) k cs c:=by
 show#[b,(s.ow b).idxOf 0,bD,3]
 .change(upd s.co b _ b)[_]?=_;rw[ae,OR (by rw[G.ln b];show xG z)]
 .change(upd s.ow b _ b)[_]?=_;rw[ae,OR (xG z)]
theorem mL(G:Good s)(h0:(0:Int)∈s.ow b){j:Int}(R:j≠k){S:List Int}{c':Int}:Vw (yX s b k cs c) j S c'↔Vw s j S c':=by
 let U:=yT G h0;let A:∀z F,s.pl j=some (z,F)->((yX s b k cs c).co z)[F]?=(s.co z)[F]?/\((yX s b k cs c).ow z)[F]?=(s.ow z)[F]?:=by
  intro z F e;change(upd s.co b _ z)[F]?=_/\(upd s.ow b _ z)[F]?=_;cases O:z=b
  .subst O;have:(s.ow z).idxOf 0≠F:=λq=>U j (by rw[e,q]);rw[ae,ae,OI this,OI this];show#[1]
  .rw[bj O,bj O];show#[1]
 constructor
 .rintro⟨z,F,I,J,L⟩;let I:s.pl j=some (z,F):=(by rw[<-I];show(aM R).symm);show#[z,F,I,by rw[<-(A _ _ I).1];show J,by rw[<-(A _ _ I).2];show L]
 .rintro⟨z,F,I,J,L⟩;show#[z,F,(aM R).trans I,by rw[(A _ _ I).1];show J,by rw[(A _ _ I).2];show L]
theorem lD(G:Good s)(L:s.pl k=some (b,n)):Good (rJ s k b n):=by
 let#[ac,c0,g1,g2,_,_]:=G.va _ _ _ L;let hn:n<(s.ow b).length:=(sN.mp g2).1;let O:∀{j p},(rJ s k b n).pl j=some p->j≠k/\s.pl j=some p:=by
  intro j p e;cases I:j=k
  .subst I;let J:(none:Option (Bool×Nat))=some p:=(by rw[<-e];show bD.symm);cases J
  .show#[I,by rw[<-e];show(aM I).symm]
 show#[3,3,3,?_]
 .intro j p e;show G.rg j p (O e).2
 .intro j F R e;let#[I,J]:=O e;let#[ab,c',e1,U,e3,e4]:=G.va _ _ _ J;show#[ab,c',e1,?_,e3,e4];change(upd s.ow b _ F)[_]?=_;cases z:F=b
  .subst z;rw[ae,OI (λq=>I (G.inj _ _ _ J (by rw[L,q])))];show U
  .rw[bj z];show U
 .intro j j' p e e';show G.inj _ _ _ (O e).2 (O e').2
 .intro F R c' e;let e:(upd s.ow b ((s.ow b).set n 0) F)[R]?=some c':=e;cases z:F=b
  .subst z;cases S:n=R
   .subst S;rwa[ae,OR hn]at e;show .inl rfl
   .rw[ae,OI S]at e;rcases G.on _ _ _ e with h|⟨j,h⟩
    .show .inl h
    .show .inr #[j,?_];change eT s.pl k _ j=_;rw[aM (λq=>by rwa[q,L]at h;show S rfl)];show h
  .rw[bj z]at e;rcases G.on _ _ _ e with h|⟨j,h⟩
   .show .inl h
   .show .inr #[j,?_];change eT s.pl k _ j=_;rw[aM (λq=>by rwa[q,L]at h;show z rfl)];show h
 .intro F;change(s.co F).length=(upd s.ow b _ F).length;cases z:F=b
  .subst z;rw[ae,Pa];show G.ln _
  .rw[bj z];show G.ln _
 .show G.nd.erase k
 .intro j;change j∈s.inf.erase k↔∃m,eT s.pl k none j=some (true,m);rw[Rf G.nd,G.fi];cases I:j=k
  .subst I;rw[bD];show#[λh=>absurd rfl h.1,λ⟨m,h⟩=>by cases h]
  .rw[aM I];show#[λh=>h.2,λh=>#[I,h]]
theorem jT(G:Good s)(U:s.pl k=some (b,n)){j:Int}(J:j≠k){S:List Int}{c':Int}:Vw (rJ s k b n) j S c'↔Vw s j S c':=by
 let A:∀z F,s.pl j=some (z,F)->((rJ s k b n).ow z)[F]?=(s.ow z)[F]?:=by
  intro z F e;change(upd s.ow b _ z)[F]?=_;cases R:z=b
  .subst R;rw[ae,OI (λq=>J (G.inj _ _ _ e (by rw[U,q])))]
  .rw[bj R]
 constructor
 .rintro⟨z,F,I,L,O⟩;let I:s.pl j=some (z,F):=(by rw[<-I];show(aM J).symm);show#[z,F,I,L,by rw[<-A _ _ I];show O]
 .rintro⟨z,F,I,L,O⟩;show#[z,F,(aM J).trans I,L,by rw[A _ _ I];show O]
theorem vf(G:Good s)(z:s.pl k=some (b,n)):(0:Int)∈(rJ s k b n).ow b:=by
 let#[O,J,L,F,_,_]:=G.va _ _ _ z;let I:n<(s.ow b).length:=(sN.mp F).1;change(0:Int)∈upd s.ow b _ b;rw[ae];show NC (OR I)
theorem lH(G:Good s)(R:s.pl k=some (b,n))(U:1<=c):Good (cL s b n c):=by
 let#[ac,c0,g1,g2,_,g4]:=G.va _ _ _ R;let hn:n<(s.ow b).length:=(sN.mp g2).1;show#[G.rg,?_,G.inj,3,G.nd,G.fi]
 .intro j z I e;let#[ab,c',e1,O,S,e4]:=G.va j z I e;let A:∃L,(upd s.ow b ((s.ow b).set n c) z)[I]?=some L/\1<=L:=by
   cases F:z=b
   .subst F;rw[ae];cases J:n=I
    .subst J;show#[c,OR hn,U]
    .rw[OI J];show#[c',O,S]
   .rw[bj F];show#[c',O,S]
  let#[L,a1,a2]:=A;show#[ab,L,e1,a1,a2,e4]
 .intro z I c' e;let e:(upd s.ow b ((s.ow b).set n c) z)[I]?=some c':=e;cases F:z=b
  .subst F;rw[ae]at e;cases J:n=I
   .subst J;show .inr #[k,R]
   .rw[OI J]at e;show G.on _ _ _ e
  .rw[bj F]at e;show G.on _ _ _ e
 .intro z;change(s.co z).length=(upd s.ow b _ z).length;cases F:z=b
  .subst F;rw[ae,Pa];show G.ln _
  .rw[bj F];show G.ln _
theorem kM(G:Good s)(z:s.pl k=some (b,n)){I:Int}(h:Vw s k cs I):Vw (cL s b n c) k cs c:=by
 let#[O,R,F,J,L]:=h;rwa[z]at F;show#[b,n,z,J,?_];change(upd s.ow b _ b)[_]?=_;rw[ae,OR (sN.mp L).1]
theorem eU(G:Good s)(U:s.pl k=some (b,n)){j:Int}(S:j≠k){R:List Int}{c':Int}:Vw (cL s b n c) j R c'↔Vw s j R c':=by
 let A:∀z F,s.pl j=some (z,F)->((cL s b n c).ow z)[F]?=(s.ow z)[F]?:=by
  intro z F e;change(upd s.ow b _ z)[F]?=_;cases O:z=b
  .subst O;rw[ae,OI (λq=>S (G.inj _ _ _ e (by rw[U,q])))]
  .rw[bj O]
 constructor
 .rintro⟨z,F,I,J,L⟩;show#[z,F,I,J,by rw[<-A _ _ I];show L]
 .rintro⟨z,F,I,J,L⟩;show#[z,F,I,J,by rw[A _ _ I];show L]
theorem yK(G:Good s)(hk:s.pl k=some (b,n))(U:cs.length=8):Good (write s b n cs):=by
 let#[ab,c0,g1,g2,_,g4]:=G.va _ _ _ hk;let hn:n<(s.co b).length:=(sN.mp g1).1;show#[G.rg,?_,G.inj,G.on,?_,G.nd,G.fi]
 .intro j z J e;let#[R,c',L,e2,e3,S]:=G.va j z J e;let A:∃I,(upd s.co b ((s.co b).set n (some cs)) z)[J]?=some (some I)/\I.length=8:=by
   cases F:z=b
   .subst F;rw[ae];cases O:n=J
    .subst O;show#[cs,OR hn,U]
    .rw[OI O];show#[R,L,S]
   .rw[bj F];show#[R,L,S]
  let#[I,a1,a2]:=A;show#[I,c',a1,e2,e3,a2]
 .intro z;change(upd s.co b _ z).length=(s.ow z).length;cases F:z=b
  .subst F;rw[ae,Pa];show G.ln _
  .rw[bj F];show G.ln _
theorem Ei(G:Good s)(z:s.pl k=some (b,n)){I:List Int}(h:Vw s k I c):Vw (write s b n cs) k cs c:=by
 let#[O,R,F,J,L]:=h;rwa[z]at F;show#[b,n,z,?_,L];change(upd s.co b _ b)[_]?=_;rw[ae,OR (sN.mp J).1]
theorem jF(G:Good s)(U:s.pl k=some (b,n)){j:Int}(S:j≠k){R:List Int}{c':Int}:Vw (write s b n cs) j R c'↔Vw s j R c':=by
 let A:∀z F,s.pl j=some (z,F)->((write s b n cs).co z)[F]?=(s.co z)[F]?:=by
  intro z F e;change(upd s.co b _ z)[F]?=_;cases O:z=b
  .subst O;rw[ae,OI (λq=>S (G.inj _ _ _ e (by rw[U,q])))]
  .rw[bj O]
 constructor
 .rintro⟨z,F,I,J,L⟩;show#[z,F,I,by rw[<-A _ _ I];show J,L]
 .rintro⟨z,F,I,J,L⟩;show#[z,F,I,by rw[A _ _ I];show J,L]
end
end Pg
namespace Pg
theorem sum_set{l:List Int}{n:Nat}{x y:Int}(h:l[n]?=some x):(l.set n y).sum=l.sum-x+y:=by
 induction l generalizing n with
 |nil=>cases h
 |cons a l z =>
  cases n with
  |zero =>
   cases h;change(y::l).sum=_;simp only[Qx];omega
  |succ n =>
   let h:l[n]?=some x:=h;change(a::l.set n y).sum=_;simp only[Qx,z h];omega
def all(s:PS):Int:=(s.ow true).sum+(s.ow false).sum
theorem um{ow:Bool->List Int}{b:Bool}{n:Nat}{x y:Int}(h:(ow b)[n]?=some x) :
  (upd ow b ((ow b).set n y) true).sum+(upd ow b ((ow b).set n y) false).sum=(ow true).sum+(ow false).sum-x+y:=by
 cases b
 .rw[bj aq,ae,sum_set h];omega
 .rw[ae,bj aq,sum_set h];omega
section
variable{s s':PS}{b:Bool}{k:Int}{cs:List Int}{c:Int}{n:Nat}
theorem tK(z:(0:Int)∈s.ow b):all (yX s b k cs c)=all s+c:=by
 have:=um (ow:=s.ow) (y:=c) (xb z);unfold all yX;dsimp only;omega
theorem uV{z:Int}(h:(s.ow b)[n]?=some z):all (rJ s k b n)=all s-z:=by
 have:=um (ow:=s.ow) (y:=0) h;unfold all rJ;dsimp only;omega
theorem nX{z:Int}(h:(s.ow b)[n]?=some z):all (cL s b n c)=all s-z+c:=by
 have:=um (ow:=s.ow) (y:=c) h;unfold all cL;dsimp only;omega
theorem eV{f:Bool->List Int}{n:Nat}{x:Int}(z:Bool):(upd f b ((f b).set n x) z).length=(f z).length:=by
 cases e:z=b
 .subst e;rw[ae,Pa]
 .rw[bj e]
structure Kept(s s':PS)(k:Int):Prop where
 ot:∀j cs' c',j≠k->(Vw s' j cs' c'↔Vw s j cs' c')
 ln:∀b,(s'.ow b).length=(s.ow b).length
 fr:(0:Int)∈s'.ow true->(0:Int)∈s.ow true/\∀j m,j≠k->s.pl j=some (true,m)->s'.pl j=some (true,m)
theorem BJ{l:List Int}{n:Nat}{x:Int}(hx:x≠0)(h:(0:Int)∈l.set n x):(0:Int)∈l:=by
 rcases SR h with h|h
 .show h
 .show absurd h.symm hx
theorem zZ(G:Good s)(F:(0:Int)∈s.ow true)(I:1<=c):Kept s (yX s true k cs c) k :=
 #[λj J c' z=>mL G F z,λb=>eV b,λh=>#[F,λj m z e=>(aM z).trans e]]
def out(s:PS)(k0:Int)(F:Nat)(G:List Int)(z:Int):PS:=yX (rJ s k0 true F) false k0 G z
theorem wt(G:Good s){k0:Int}{z:Nat}{I:List Int}{F:Int}(J:s.pl k0=some (true,z))(hv:Vw s k0 I F)(hf:(0:Int)∈s.ow false) :
  Good (out s k0 z I F)/\Vw (out s k0 z I F) k0 I F/\(∀j S c',j≠k0->(Vw (out s k0 z I F) j S c'↔Vw s j S c'))/\(0:Int)∈(out s k0 z I F).ow true/\all (out s k0 z I F)=all s /\
  (∀b,((out s k0 z I F).ow b).length=(s.ow b).length)/\(∀j,j≠k0->(out s k0 z I F).pl j=s.pl j):=by
 let#[b',n',U,e2,e3]:=hv;rwa[J]at U;let#[ab,c9,a1,a2,a3,a4]:=G.va _ _ _ J;rwa[e2]at a1;rwa[e3]at a2;let R:=lD G J;let O:(0:Int)∈(rJ s k0 true z).ow false:=by
  show(bj (f:=s.ow) (v:=(s.ow true).set z 0) (show false≠true by decide)).symm▸hf
 let hn:(rJ s k0 true z).pl k0=none:=bD;let hr:=G.rg _ _ J;show#[pW R O hn hr.1 hr.2 a3 a4,pV O R,3,3,?_]
 .intro j S c' L;show(mL R O L).trans (jT G J L)
 .show(bj (f:=(rJ s k0 true z).ow) (b:=false) (v:=((rJ s k0 true z).ow false).set (((rJ s k0 true z).ow false).idxOf 0) F) (show true≠false by decide)).symm▸vf G J
 .change all (yX _ _ _ _ _)=_;rw[tK O,uV e3];omega
 .intro b;show(eV (f:=(rJ s k0 true z).ow) b).trans (eV b)
 .intro j L;show(aM L).trans (aM L)
inductive BI(s:PS)(k:Int)(cs:List Int)(c:Int):PS->Prop
 |free:(0:Int)∈s.ow true->BI s k cs c (yX s true k cs c)
 |full {k0:Int}{r:List Int}{n0:Nat}{cs0:List Int}{c0:Int}:¬ (0:Int)∈s.ow true->(0:Int)∈s.ow false->s.inf=k0::r->s.pl k0=some (true,n0)->Vw s k0 cs0 c0->BI s k cs c (yX (out s k0 n0 cs0 c0) true k cs c)
structure NN(s:PS)(k:Int)(cs:List Int)(c:Int)(s':PS):Prop where
 good:Good s'
 vw:Vw s' k cs c
 fr:∃m,s'.pl k=some (true,m)
 kept:Kept s s' k
 ls:s'.ls=s.ls
 al:all s'=all s+c
theorem Gk(G:Good s)(S:s.pl k=none)(h1:1<=k)(h2:k<=s.ls)(h3:1<=c)(h4:cs.length=8)(h:BI s k cs c s'):NN s k cs c s':=by
 cases h with
 |free U=>show#[pW G U S h1 h2 h3 h4,pV U G,#[_,bD],zZ G U h3,rfl,tK U]
 | @full k0 r z I F nf hf hi hp hv =>
  let#[g1,g2,g3,R,g5,g6,g7]:=wt G hp hv hf;let ac:k≠k0:=λe=>(by rwa[e,hp]at S);let ao:(out s k0 z I F).pl k=none:=(by rw[g7 k ac];show S);show#[pW g1 R ao h1 h2 h3 h4,pV R g1,#[_,bD],#[3,?_],4]
  .intro j ab c' hj;rw[mL g1 R hj];cases e:j=k0
   .subst e;constructor
    .intro hw;let#[x1,x2,y1,y2,y3]:=hw;let#[z1,z2,J,O,L]:=g2;rwa[y1]at J;rwa[y2]at O;rwa[y3]at L;show hv
    .intro hw;let#[x1,x2,y1,y2,y3]:=hw;let#[z1,z2,J,O,L]:=hv;rwa[y1]at J;rwa[y2]at O;rwa[y3]at L;show g2
   .show g3 j ab c' e
  .intro b;show(eV (f:=(out s k0 z I F).ow) b).trans (g6 b)
  .intro h;exfalso;apply nf;let h:(0:Int)∈upd (out s k0 z I F).ow true (((out s k0 z I F).ow true).set (((out s k0 z I F).ow true).idxOf 0) c) true:=h;rw[ae]at h;let e1:(out s k0 z I F).ow true=(s.ow true).set z 0:=by
    show(bj (f:=(rJ s k0 true z).ow) (b:=false) (v:=((rJ s k0 true z).ow false).set (((rJ s k0 true z).ow false).idxOf 0) F) (show true≠false by decide)).trans (show upd s.ow true ((s.ow true).set z 0) true=_ from ae)
   rw[e1]at h;let#[i,am,e]:=RB h;let hl:i<(s.ow true).length:=‹am›;let hz:(0:Int)∈(s.ow true).set z 0:=e1▸R;let e0:((s.ow true).set z 0).idxOf 0=z:=by
    let q:=xb hz;cases en:z=((s.ow true).set z 0).idxOf 0
    .show en.symm
    .rw[OI en]at q;show absurd (NC q) nf
   rw[Vs]at e;split at e
   .omega
   .rename_i ne;rw[Vs]at e;split at e
    .rename_i e2;show absurd (e0.trans e2) ne
    .show e▸Qt hl
  .rw[tK R,g5]
theorem JV(G:Good s)(R:(0:Int)∈s.ow true\/(0:Int)∈s.ow false)(U:s.ow true≠[]):((0:Int)∈s.ow true)\/(¬ (0:Int)∈s.ow true/\(0:Int)∈s.ow false/\∃k0 r z J F,s.inf=k0::r/\s.pl k0=some (true,z)/\Vw s k0 J F):=by
 cases h:(0:Int)∈s.ow true
 .show .inl h
 .show .inr #[h,R.resolve_left h,?_];let L:0<(s.ow true).length:=List.length_pos_iff.mpr U;let S:(s.ow true)[0]?=some (s.ow true)[0]:=ON L;rcases G.on _ _ _ S with e|⟨j,e⟩
  .show absurd (e▸Qt L) h
  .let O:j∈s.inf:=(G.fi j).mpr #[_,e];cases hi:s.inf with
   |nil=>rwa[hi]at O
   |cons k0 r =>
    let#[z,I]:=(G.fi k0).mp (by rw[hi];show OF);let#[J,F,a1,a2,_,_]:=G.va _ _ _ I;show#[k0,r,z,J,F,rfl,I,true,z,I,a1,a2]
end
end Pg
namespace Pg
section
variable{s s':PS}{b:Bool}{k:Int}{cs:List Int}{c:Int}{n:Nat}
theorem Vw.one{G:List Int}{c':Int}(h:Vw s k cs c)(h':Vw s k G c'):G=cs/\c'=c:=by
 let#[S,R,L,J,O]:=h;let#[z1,U,I,F,z]:=h';rwa[L]at I;rwa[J]at F;rwa[O]at z;show#[1]
theorem Good.vw(G:Good s)(h:Vw s k cs c):1<=c/\cs.length=8:=by
 let#[U,S,J,I,O]:=h;let#[ab,c',F,z,L,R]:=G.va _ _ _ J;rwa[I]at F;rwa[O]at z;show#[L,R]
def used(s:PS)(k:Int):PS:={ s with inf:=s.inf.erase k++[k] }
theorem Aa(G:Good s)(F:s.pl k=some (true,n)):Good (used s k):=by
 show#[G.rg,G.va,G.inj,G.on,G.ln,3]
 .show Pf.mpr #[G.nd.erase k,by simp,?_];intro x hx y z e;rw[t6]at z;subst z;subst e;show((Rf G.nd).mp hx).1 rfl
 .intro j;change j∈s.inf.erase k++[k]↔_;rw[By,t6,Rf G.nd,G.fi];constructor
  .rintro(h|h)
   .show h.2
   .subst h;show#[n,F]
  .intro h;cases e:j=k
   .show .inr e
   .show .inl #[e,h]
inductive FE(s:PS)(k:Int):PS->Prop
 |here {n:Nat}:s.pl k=some (true,n)->FE s k (used s k)
 |away {n:Nat}{cs:List Int}{c:Int}{s':PS}:s.pl k=some (false,n)->Vw s k cs c->BI (rJ s k false n) k cs c s'->FE s k s'
structure NX(s:PS)(k:Int)(s':PS):Prop where
 good:Good s'
 vw:∀j cs c,Vw s' j cs c↔Vw s j cs c
 fr:∃m,s'.pl k=some (true,m)
 kept:Kept s s' k
 ls:s'.ls=s.ls
 al:all s'=all s
theorem rT(G:Good s)(h:FE s k s'):NX s k s':=by
 cases h with
 |here z=>show#[Aa G z,λ_ _ _=>Iff.rfl,#[_,z],#[λ_ _ _ _=>Iff.rfl,λ_=>rfl,λh=>#[h,λ_ _ _ e=>e]],1]
 | @away n cs c _ z F hb =>
  let GR:=lD G z;let S:=G.rg _ _ z;let R:=G.vw F;let B:=Gk GR (show eT s.pl k none k=none from bD) S.1 S.2 R.1 R.2 hb;let e3:(s.ow false)[n]?=some c:=by
   let#[x1,x2,O,y2,y3]:=F;rwa[z]at O;show y3
  show#[B.good,?_,B.fr,#[3,?_],B.ls,?_]
  .intro j L c';cases e:j=k
   .subst e;constructor
    .intro h;let#[I,J]:=B.vw.one h;subst I;subst J;show F
    .intro h;let#[I,J]:=F.one h;subst I;subst J;show B.vw
   .show(B.kept.ot j L c' e).trans (jT G z e)
  .intro j L c' e;show(B.kept.ot j L c' e).trans (jT G z e)
  .intro b;show(B.kept.ln b).trans (eV b)
  .intro h;let#[a1,a2]:=B.kept.fr h;let U:(rJ s k false n).ow true=s.ow true:=bj (f:=s.ow) (v:=(s.ow false).set n 0) (show true≠false by decide);show#[U▸a1,λj m e hj=>a2 j m e ((aM e).trans hj)]
  .rw[B.al,uV e3];omega
def next(s:PS):PS:={ s with ls:=s.ls+1 }
theorem rX(G:Good s):Good (next s):=#[λk p h=>by have:=G.rg k p h;show#[this.1,by change k<=s.ls+1;omega],G.va,G.inj,G.on,G.ln,G.nd,G.fi]
theorem gH(G:Good s):s.pl (s.ls+1)=none:=by
 cases h:s.pl (s.ls+1)with
 |none=>rfl
 |some p=>have:=G.rg _ _ h;omega
theorem m7(G:Good s)(F:0<=s.ls)(z:cs.length=8)(h:BI (next s) (s.ls+1) cs 1 s'):NN (next s) (s.ls+1) cs 1 s' :=
 Gk (rX G) (gH G) af (Pp _) (Pp _) z h
inductive Gm(s:PS)(k:Int):PS->Prop
 |more {b:Bool}{n:Nat}{cs:List Int}{c:Int}:s.pl k=some (b,n)->Vw s k cs c->1<c->Gm s k (cL s b n (c-1))
 |last {b:Bool}{n:Nat}{cs:List Int}:s.pl k=some (b,n)->Vw s k cs 1->Gm s k (rJ s k b n)
theorem vR(F:s.pl k=some (b,n))(I:Vw s k cs c):(s.ow b)[n]?=some c:=by
 let#[L,J,z,O,G]:=I;rwa[F]at z;show G
structure NY(s:PS)(k:Int)(c:Int)(s':PS):Prop where
 good:Good s'
 ot:∀j cs' c',j≠k->(Vw s' j cs' c'↔Vw s j cs' c')
 me:∀cs' c',Vw s' k cs' c'↔(1<c/\c'=c-1/\Vw s k cs' c)
 pl:∀j,j≠k->s'.pl j=s.pl j
 ln:∀b,(s'.ow b).length=(s.ow b).length
 ls:s'.ls=s.ls
 al:all s'=all s-1
 kept:1<c->Kept s s' k
theorem zm(G:Good s)(J:Vw s k cs c)(h:Gm s k s'):NY s k c s':=by
 cases h with
 | @more b n ab U z S hc =>
  let#[I,L]:=J.one S;subst I;subst L;let R:=vR z J;show#[lH G z af,λj O c' F=>eU G z F,?_,λ_ _=>rfl,λb=>eV b,rfl,3]
  .intro O c';let W:=kM (c:=U-1) G z J;constructor
   .intro h;let#[I,L]:=W.one h;subst I;subst L;show#[hc,rfl,J]
   .rintro⟨_,q,h⟩;let#[I,L]:=J.one h;subst I;subst q;show W
  .rw[nX R];omega
  .intro _;show#[λj O c' F=>eU G z F,λb=>eV b,λh=>#[?_,λ_ _ _ e=>e]];let h:(0:Int)∈upd s.ow b ((s.ow b).set n (U-1)) true:=h;cases e:true=b
   .subst e;rw[ae]at h;show BJ af h
   .rw[bj e]at h;show h
 | @last b n ab z S =>
  let#[I,L]:=J.one S;subst I;subst L;let R:=vR z J;show#[lD G z,λj O c' F=>jT G z F,?_,λ_ F=>aM F,λb=>eV b,4,λh=>absurd h aq]
  .intro O c';constructor
   .rintro⟨x1,x2,y1,_,_⟩;let y9:(none:Option (Bool×Nat))=some (x1,x2):=(by rw[<-y1];show bD.symm);cases y9
   .rintro⟨q,_,_⟩;show absurd q aq
  .rw[uV R]
theorem DU(G:Good s)(z:s.pl k=some (b,n))(F:Vw s k cs c):Good (cL s b n (c+1))/\Vw (cL s b n (c+1)) k cs (c+1)/\all (cL s b n (c+1))=all s+1:=by
 have:=G.vw F;show#[lH G z af,kM G z F,?_];rw[nX (vR z F)];omega
end
end Pg
namespace Pg
abbrev Ent:=Option Int
def full(es:List Ent):Int:=(es.countP (·.isSome):Nat)
structure RI(s:PS)(es:List Ent):Prop where
 good:Good s
 l0:0<=s.ls
 ne:s.ow true≠[]
 is:∀k,some k∈es->∃cs c,Vw s k cs c
 ct:∀k cs c,Vw s k cs c->c=(es.count (some k):Nat)
 al:all s=full es
 rm:es.length<=(s.ow true).length+(s.ow false).length
section
variable{s s':PS}{es r:List Ent}{k:Int}{cs:List Int}{c:Int}
theorem RI.perm{z:List Ent}(R:RI s es)(p:es.Perm z):RI s z :=
 #[R.good,R.l0,R.ne,λk h=>R.is k (p.mem_iff.mpr h),λk cs c h=>by rw[<-p.count_eq];show R.ct k cs c h,by rw[R.al];unfold full;rw[p.countP_eq],by rw[<-p.length_eq];show R.rm]
theorem jO:full (none::es)=full es:=by unfold full;rw[List.countP_cons_of_neg (by simp)]
theorem iA:full (some k::es)=full es+1:=by unfold full;rw[List.countP_cons_of_pos (by simp)];simp
theorem zD:full es<=es.length:=by unfold full;exact_mod_cast List.countP_le_length
theorem kJ{j:Int}:(none::es).count (some j)=es.count (some j):=Uk (by simp)
theorem eW:(some k::es).count (some k)=es.count (some k)+1:=List.count_cons_self
theorem gh{j:Int}(h:j≠k):(some k::es).count (some j)=es.count (some j):=Uk ‹D0 h›
theorem RI.lay(R:RI s es)(h:es.length<(s.ow true).length+(s.ow false).length):RI s (none::es):=
 #[R.good,R.l0,R.ne,λk h=>R.is k ‹h›,λk cs c h=>by rw[kJ];show R.ct k cs c h,by rw[jO];show R.al,h]
theorem RI.bare(R:RI s (none::es)):RI s es :=
 #[R.good,R.l0,R.ne,λk h=>R.is k ‹h›,λk cs c h=>by rw[<-kJ];show R.ct k cs c h,by rw[<-jO];show R.al,S6 R.rm]
theorem RI.leave(R:RI s (some k::es))(G:Vw s k cs c)(h:Gm s k s'):RI s' es:=by
 let L:=zm R.good G h;let J:=R.ct _ _ _ G;rw[eW]at J;show#[L.good,by rw[L.ls];show R.l0,3,3,?_]
 .intro e;have:=L.ln true;rw[e]at this;show R.ne (Pd.mp this.symm)
 .intro j F;cases e:j=k
  .subst e;have:0<es.count (some j):=P2.mpr F;show#[cs,c-1,(L.me cs (c-1)).mpr #[af,rfl,G]]
  .let#[z,c',q]:=R.is j (OH _ F);show#[z,c',(L.ot j z c' e).mpr q]
 .intro j z c' F;cases e:j=k
  .subst e;let#[U,S,O]:=(L.me z c').mp F;omega
  .rw[<-gh e];show R.ct j z c' ((L.ot j z c' e).mp F)
 .let I:=R.al;rw[iA]at I;rw[L.al,I];omega
 .rw[L.ln,L.ln];show S6 R.rm
theorem RI.share{b:Bool}{n:Nat}(R:RI s es)(F:s.pl k=some (b,n))(I:Vw s k cs c)(h:es.length<(s.ow true).length+(s.ow false).length):RI (cL s b n (c+1)) (some k::es):=by
 let#[g,v,a]:=DU R.good F I;let J:=R.ct _ _ _ I;show#[g,R.l0,3,3,?_]
 .intro e;have:=eV (f:=s.ow) (b:=b) (n:=n) (x:=c+1) true;let e:upd s.ow b ((s.ow b).set n (c+1)) true=[]:=e;rw[e]at this;show R.ne (Pd.mp this.symm)
 .intro j z;cases e:j=k
  .subst e;show#[cs,c+1,v]
  .let#[G,c',q]:=R.is j (by simpa[e]using z);show#[G,c',(eU R.good F e).mpr q]
 .intro j G c' z;cases e:j=k
  .subst e;let#[_,q]:=v.one z;rw[eW];omega
  .rw[gh e];show R.ct j G c' ((eU R.good F e).mp z)
 .rw[a,iA,R.al]
 .change es.length+1<=(upd s.ow b _ true).length+(upd s.ow b _ false).length;rw[eV,eV];show h
theorem RI.Gu(R:RI s es)(h:FE s k s'):RI s' es:=by
 let F:=rT R.good h;show#[F.good,by rw[F.ls];show R.l0,3,?_,by rw[F.al];show R.al,by rw[F.kept.ln,F.kept.ln];show R.rm]
 .intro e;have:=F.kept.ln true;rw[e]at this;show R.ne (Pd.mp this.symm)
 .intro j z;let#[cs,c,q]:=R.is j z;show#[cs,c,(F.vw j cs c).mpr q]
 .intro j cs c z;show R.ct j cs c ((F.vw j cs c).mp z)
theorem RI.fill(R:RI s (none::r))(J:cs.length=8)(h:BI (next s) (s.ls+1) cs 1 s'):RI s' (some (s.ls+1)::r):=by
 let B:=m7 R.good R.l0 J h;let no:r.count (some (s.ls+1))=0:=by
  apply T9;intro q;let#[z,c',L,O,G,_]:=R.is _ (OH _ (P2.mp q));rwa[gH R.good]at G
 show#[B.good,by rw[B.ls];change 0<=s.ls+1;have:=R.l0;omega,3,3,?_]
 .intro e;have:=B.kept.ln true;rw[e]at this;show R.ne (Pd.mp this.symm)
 .intro j F;cases e:j=s.ls+1
  .subst e;show#[cs,(1),B.vw]
  .let#[z,c',q]:=R.is j (by simpa[e]using F);show#[z,c',(B.kept.ot j z c' e).mpr q]
 .intro j z c' F;cases e:j=s.ls+1
  .subst e;let#[_,q]:=B.vw.one F;rw[eW,no,q];rfl
  .rw[gh e, <-kJ];show R.ct j z c' ((B.kept.ot j z c' e).mp F)
 .let I:=R.al;rw[jO]at I;rw[B.al,iA, <-I];rfl
 .rw[B.kept.ln,B.kept.ln];show R.rm
theorem lW{l:List Int}(h:∀x∈l,1<=x):(l.length:Int)<=l.sum:=by
 induction l with
 |nil=>show Pp _
 |cons a l z =>
  let h1:=h a OF;let h2:=z λx hx=>h x (OH _ hx);rw[Qx,Oq];omega
theorem Good.pos(G:Good s){b:Bool}(h:¬ (0:Int)∈s.ow b):∀x∈s.ow b,1<=x:=by
 intro x hx;let#[n,z]:=Uz hx;rcases G.on _ _ _ z with e|⟨j,e⟩
 .show absurd (e▸hx) h
 .let#[cs,c,_,a2,F,_]:=G.va _ _ _ e;rwa[z]at a2;show F
theorem RI.room(R:RI s (none::r)):(0:Int)∈s.ow true\/(0:Int)∈s.ow false:=by
 cases h1:(0:Int)∈s.ow true
 .show .inl h1
 .by_cases h2:(0:Int)∈s.ow false
  .show .inr h2
  .exfalso;let a1:=lW (R.good.pos h1);let a2:=lW (R.good.pos h2);let z:=R.al;rw[jO]at z;let G:=zD (es:=r);let F:=R.rm;rw[Oq]at F;unfold all at z;omega
theorem wa{l:List Int}(h:∀x∈l,1<=x){n:Nat}{c:Int}(z:l[n]?=some c):(l.length:Int)+c-1<=l.sum:=by
 induction l generalizing n with
 |nil=>cases z
 |cons a l F =>
  let h2:∀x∈l,1<=x:=λx hx=>h x (OH _ hx);let h1:=h a OF;cases n with
  |zero =>
   cases z;have:=lW h2;rw[Qx,Oq];omega
  |succ n =>
   have:=F h2 (show l[n]?=some c from z);rw[Qx,Oq];omega
theorem RI.KY(R:RI s es)(G:Vw s k cs c)(L:1<c):(0:Int)∈s.ow true\/(0:Int)∈s.ow false:=by
 cases h1:(0:Int)∈s.ow true
 .show .inl h1
 .by_cases h2:(0:Int)∈s.ow false
  .show .inr h2
  .exfalso;let a1:=lW (R.good.pos h1);let a2:=lW (R.good.pos h2);let F:=R.al;let I:=zD (es:=es);let J:=R.rm;unfold all at F;let#[b,n,_,_,z]:=G;cases b
   .have:=wa (R.good.pos h2) z;omega
   .have:=wa (R.good.pos h1) z;omega
end
end Pg
namespace Pg
def Bg(s:PS)(e:Ent)(cs:List Int):Prop:=match e with
 |none=>cs=replicate 8 0
 |some k=>∃c,Vw s k cs c
def aQ(es:List Ent)(s s':PS):Prop:=∀e∈es,∀cs,Bg s e cs->Bg s' e cs
theorem aQ.refl{es:List Ent}{s:PS}:aQ es s s:=λ_ _ _ h=>h
section
variable{s s':PS}{es r:List Ent}{k:Int}{cs:List Int}{c:Int}
theorem RI.yH(R:RI s (some k::es))(z:Vw s k cs c)(h:Gm s k s'):aQ es s s':=by
 let L:=zm R.good z h;let I:=R.ct _ _ _ z;rw[eW]at I;intro e G S q;cases e with
 |none=>show q
 |some j =>
  let#[c',q]:=q;cases F:j=k
  .subst F;let#[O,J]:=z.one q;subst O;subst J;have:0<es.count (some j):=P2.mpr G;show#[c'-1,(L.me _ _).mpr #[af,rfl,z]]
  .show#[c',(L.ot j _ _ F).mpr q]
theorem yz{b:Bool}{n:Nat}(G:Good s)(F:s.pl k=some (b,n))(I:Vw s k cs c):aQ es s (cL s b n (c+1)):=by
 intro e L O q;cases e with
 |none=>show q
 |some j =>
  let#[c',q]:=q;cases z:j=k
  .subst z;let#[J,R]:=I.one q;subst J;show#[c+1,kM G F I]
  .show#[c',(eU G F z).mpr q]
theorem xv(G:Good s)(h:FE s k s'):aQ es s s':=by
 intro e z F q;cases e with
 |none=>show q
 |some j =>
  let#[c',q]:=q;show#[c',((rT G h).vw _ _ _).mpr q]
theorem RI.AZ(R:RI s (none::r))(F:cs.length=8)(h:BI (next s) (s.ls+1) cs 1 s'):aQ r s s':=by
 let B:=m7 R.good R.l0 F h;intro e I O q;cases e with
 |none=>show q
 |some j =>
  let#[c',q]:=q;let G:j≠s.ls+1:=by
   intro e;let#[L,J,z,_]:=q;rwa[e,gH R.good]at z
  show#[c',(B.kept.ot _ _ _ G).mpr q]
theorem RI.part{s1 s2:PS}{ab:List Int}{I:Int}(R:RI s (some k::r))(O:Vw s k ab I)(hc:1<I)(h4:cs.length=8)(hB:BI (next s) (s.ls+1) cs 1 s1)(hL:Gm s1 k s2) :
  RI s2 (some (s.ls+1)::r)/\aQ r s s2/\Bg s2 (some (s.ls+1)) cs/\(∃m,s2.pl (s.ls+1)=some (true,m))/\s2.ls=s.ls+1 /\
  ((0:Int)∈s2.ow true->(0:Int)∈s.ow true/\∀j m,s.pl j=some (true,m)->s2.pl j=some (true,m))/\(∀b,(s2.ow b).length=(s.ow b).length):=by
 let B:=m7 R.good R.l0 h4 hB;let S:=gH R.good;let kn:k≠s.ls+1:=by
  intro e;let#[x1,x2,F,_]:=O;rwa[e,S]at F
 let U:Vw s1 k ab I:=(B.kept.ot _ _ _ kn).mpr O;let L:=zm B.good U hL;let K:=L.kept hc;let am:=R.ct _ _ _ O;rw[eW]at am;let no:r.count (some (s.ls+1))=0:=by
  apply T9;intro q;let#[J,c',x1,x2,F,_]:=R.is _ (OH _ (P2.mp q));rwa[S]at F
 let vn:Vw s2 (s.ls+1) cs 1:=(L.ot _ _ _ (D0 kn)).mpr B.vw;let ln:∀b,(s2.ow b).length=(s.ow b).length:=λb=>(L.ln b).trans (B.kept.ln b);show#[#[L.good,3,3,3],?_,#[(1),vn],3,?_,ln]
 .rw[L.ls,B.ls];change 0<=s.ls+1;have:=R.l0;omega
 .intro e;have:=ln true;rw[e]at this;show R.ne (Pd.mp this.symm)
 .intro j G;cases e:j=s.ls+1
  .subst e;show#[cs,(1),vn]
  .let G:some j∈r:=(by simpa[e]using G);cases z:j=k
   .subst z;show#[ab,I-1,(L.me _ _).mpr #[hc,rfl,U]]
   .let#[J,c',q]:=R.is j (OH _ G);show#[J,c',(L.ot _ _ _ z).mpr ((B.kept.ot _ _ _ e).mpr q)]
 .intro j J c' G;cases e:j=s.ls+1
  .subst e;let#[_,q]:=vn.one G;rw[eW,no,q];rfl
  .rw[gh e];cases z:j=k
   .subst z;let#[q1,q2,q3]:=(L.me _ _).mp G;omega
   .rw[<-gh z];show R.ct j J c' ((B.kept.ot _ _ _ e).mp ((L.ot _ _ _ z).mp G))
 .let h9:=R.al;rw[iA]at h9;rw[L.al,B.al,iA, <-h9];change all s+1-1=all s;omega
 .rw[ln,ln];show R.rm
 .intro e he J q;cases e with
  |none=>show q
  |some j =>
   let#[c',q]:=q;let ej:j≠s.ls+1:=by
    intro e;let#[x1,x2,F,_]:=q;rwa[e,S]at F
   cases z:j=k
   .subst z;let#[q1,q2]:=O.one q;subst q1;show#[I-1,(L.me _ _).mpr #[hc,rfl,U]]
   .show#[c',(L.ot _ _ _ z).mpr ((B.kept.ot _ _ _ ej).mpr q)]
 .let#[m,hm]:=B.fr;show#[m,(L.pl _ (D0 kn)).trans hm]
 .rw[L.ls,B.ls];rfl
 .intro h;let#[a1,a2]:=K.fr h;let#[b1,b2]:=B.kept.fr a1;show#[b1,?_];intro j m e;let ej:j≠s.ls+1:=(by intro q;rwa[q,S]at e);let e1:=b2 j m ej e;cases z:j=k
  .subst z;cases hL with
   |more hk ac ao=>show e1
   |last hk ac =>
    have:=(U.one ac).2;omega
  .show a2 j m z e1
theorem RI.write{G:PS}{m:Nat}(R:RI s (some k::r)){U:List Int}(hv:Vw s k U 1)(h4:cs.length=8)(S:FE s k G)(I:G.pl k=some (true,m)) :
  RI (write G true m cs) (some k::r)/\aQ r s (write G true m cs)/\Bg (write G true m cs) (some k) cs:=by
 let F:=rT R.good S;let z:=R.Gu S;let ab:Vw G k U 1:=(F.vw _ _ _).mpr hv;let ac:=R.ct _ _ _ hv;rw[eW]at ac;let no:¬ some k∈r:=λh=>(by have:0<r.count (some k):=P2.mpr h;omega);let O:=Ei (cs:=cs) z.good I ab;show#[#[yK z.good I h4,z.l0,z.ne,3,z.al,z.rm],?_,#[(1),O]]
 .intro j J;cases e:j=k
  .subst e;show#[cs,(1),O]
  .let#[L,c',q]:=z.is j J;show#[L,c',(jF z.good I e).mpr q]
 .intro j L c' J;cases e:j=k
  .subst e;let#[_,q]:=O.one J;rw[q];show z.ct _ _ _ ab
  .show z.ct j L c' ((jF z.good I e).mp J)
 .intro e he L q;cases e with
  |none=>show q
  |some j =>
   let#[c',q]:=q;let ek:j≠k:=λe=>no (e▸he);show#[c',(jF z.good I ek).mpr ((F.vw _ _ _).mpr q)]
end
end Pg
namespace St
open PySem L2
abbrev C6:OB:=top 12
abbrev ur:OB:=top 13
theorem aU.keep{C p ow co:Addr}{M:WZ}{os:List Int}{pg:List (Option (List Int))}{H H':Hp}(S:aU C H M p ow co os pg)(h:Off (λ_=>False) H H'):aU C H' M p ow co os pg:=by
 let#[#[dx,h1],G,cs,F,I]:=S;show#[#[dx,h _ _ h1 id],h _ _ G id,cs,h _ _ F id,j4 h (λ_ z=>z.elim) I]
theorem dw{H:Hp}{l:Addr}{o:HO}(h:H l=none):Off (λ_=>False) H (upd H l o):=by
 intro b o' e _;rw[ai (λz=>by rwa[z,h]at e)];show e
theorem gX{os:List Int}{n:Nat}{x:Int}(h:n<os.length):fB (os.set n x) n=x:=by
 unfold fB;rw[WX (by rw[Pa];omega)];simp[h]
theorem gz{os:List Int}{n:Nat}{x:Int}(h:os[n]?=some x):fB os n=x:=by
 let#[h1,h2]:=sN.mp h;unfold fB;rw[WX af];simp[h1,h2]
theorem EY{os:List Int}{n:Nat}{x:Int}(h:os[n]?=some x):os.set n x=os:=by
 let#[h1,h2]:=sN.mp h;rw[<-h2];show List.set_getElem_self h1
inductive tf(C:Addr)(v:List V)(H:Hp)(Q:VK)(e:XK):Prop
 |mk (p ow co:Addr) (M:WZ) (os:List Int) (pg:List (Option (List Int))) (n:Nat) (ns:List Int) (c:Nat) (_:v=[.ref p,.int n]) (_:aU C H M p ow co os pg) (_:M ow) (_:M co) (_:(∀b,M b->H b≠none)) (_:ow≠co) (_:os.length<=60) (_:os[n]?=some (c:Int)) (_:1<=c) (_:c<=1000) (_:pg[n]?=some (some ns)) (_:∀(H':Hp)(t l:Addr),H t=none->H' t=some (.tup [.ref l,.int c])->¬ M l->H' l=some (.lst (ns.map V.int))->aU C H' M p ow co (os.set n 0) pg->Off (λb=>b=ow\/b=co) H H'->Q (.ref t) H'):tf C v H Q e
theorem Lp:aD ["store","n","moved"] ["store","n"] (au C6):=L2.bL
theorem F8{C:Addr}(F:cq K "lift" "lift" C6 f fd)(T:Txt K mg C)(GE:↥Md 3 C "cells" (gx C))(GC:↥Md 1 C "count" (iM C))(GL:↥Md 3 C "less" (sY C)) :
  ↥aG 4 f fd ["store","n"] (tf C):=by
 show F.eL Lp (λaT A outer s H vs Q E R h=>?_);let#[p,ow,co,M,os,pg,n,G,c,rfl,S,mw,mc,mt,am,U,hn,c1,c2,hg,k]:=h;let#[#[dx,h1],hw,cs,a0,hp]:=id S;let#[nl,_]:=sN.mp hn;let hc:fB os n≠0:=(by rw[gz hn];omega);show#[_,(aj (cV 2 Lp.nd (eM (aa (pm (pv 0) T.cl GE R az (aa (pv 1) ag)) (aa (pm (pv 0) T.cl GC R az (aa (pv 1) ag)) ag))))
  (aj (wj Ow (aJ oy (pm (pv 0) T.cl GC R az (aa (pv 1) ag)) ah (aP _)) (ar (aV (pm (pv 0) T.cl GL R az (aa (pv 1) ag)))))
  (ar (aO (pv 2))))),?_]
 show#[0,p,dx,0,h1,aS _ _ ak ak,0,p,ow,co,M,os,pg,n,G,rfl,S,U,hc,hg,?_];intro l fl;let O:=S.keep (dw (o:=.lst (G.map V.int)) fl);let aB:upd H l (.lst (G.map V.int)) l=some (.lst (G.map V.int)):=ae;let O1:Off (λb=>b=ow\/b=co) H (upd H l (.lst (G.map V.int))):=λb o e _=>dw fl b o e id;generalize upd H l (.lst (G.map V.int))=H1 at *;let#[as,ao]:=O.ob;show#[0,p,as,0,ao,aS _ _ ak ak,0,p,ow,co,M,os,pg,n,rfl,O,U,?_];rw[gz hn];show#[gF,λt I=>?_];let S2:=O.keep (dw (o:=.tup [.ref l,.int c]) I);let ht:upd H1 t (.tup [.ref l,.int c]) t=some (.tup [.ref l,.int c]):=ae;let ap:upd H1 t (.tup [.ref l,.int c]) l=some (.lst (G.map V.int)):=dw I l _ aB id;let O2:Off (λb=>b=ow\/b=co) H (upd H1 t (.tup [.ref l,.int c])):=λb o e z=>dw I b o (O1 b o e z) id;let nM:¬ M l:=λz=>mt l z fl;let fH:H t=none:=by
  cases e:H t with
  |none=>rfl
  |some o =>
   exfalso;cases z:t=ow\/t=co
   .rcases z with z|z
    .subst z;rwa[O.hw]at I
    .subst z;let#[_,q,_]:=O.hc;rwa[q]at I
   .rw[O1 t o e z]at I;cases I
 generalize upd H1 t (.tup [.ref l,.int c])=H2 at *;show#[λm σ H3=>∃c':Nat,m=c'/\σ=#v[.ref p,.int n,.ref t]/\aU C H3 M p ow co (os.set n c') pg/\H3 t=some (.tup [.ref l,.int c])/\H3 l=some (.lst (G.map V.int))/\Off (λb=>b=ow\/b=co) H H3,
  #[c,c,1,by rw[EY hn];show S2,ht,ap,O2],?_]
 rintro m σ H3 ⟨c',rfl,rfl,J,L,l3,O3⟩;let#[ab,h3]:=J.ob;show#[0,p,ab,0,h3,aS _ _ ak ak,0,p,ow,co,M,_,pg,n,rfl,J,by rw[Pa];show U,?_];rw[gX nl];show#[_,0,rfl,0,?_];cases z:(0:Int)<m
 .rw[decide_eq_true z];show#[λac H'=>ac=#v[.ref p,.int n,.ref t]/\aU C H' M p ow co (os.set n (m-1:Nat)) pg/\H' t=some (.tup [.ref l,.int c])/\H' l=some (.lst (G.map V.int))/\Off (λb=>b=ow\/b=co) H H',3]
  .rintro ac H' ⟨a1,a2,a3,a4,a5⟩;show#[m-1,af,m-1,rfl,a1,a2,a3,a4,a5]
  .show#[0,p,ab,0,h3,aS _ _ ak ak,0,p,ow,co,M,_,pg,n,rfl,J,mw,mc,am,by rw[Pa];show U,by rw[gX nl];omega,?_];intro H4 S4 O4;rw[gX nl,show(n:Int).toNat=n from P6 n,Vi]at S4;show#[rfl,3,3]
   .let e:((m-1:Nat):Int)=(m:Int)-1:=af;rw[e];show S4
   .show O4 _ _ L λq=>?_;rcases q with q|q
    .subst q;rwa[J.hw]at L
    .subst q;let#[_,y,_]:=J.hc;rwa[y]at L
   .show O4 _ _ l3 λq=>?_;rcases q with q|q
    .show nM (q▸mw)
    .show nM (q▸mc)
   .intro b o e q;show O4 b o (O3 b o e q) q
 .rw[decide_eq_false z];let e:m=0:=af;subst e;show#[0,k H3 t l fH L nM l3 J O3]
theorem sD{C p ow co:Addr}{M:WZ}{os:List Int}{pg:List (Option (List Int))}{H H':Hp}(S:aU C H' M p ow co os pg)(h:Off (λb=>b=ow\/b=co) H H')(mt:∀b,M b->H b≠none):∀b,M b->H' b≠none:=by
 intro b G e;cases z:b=ow\/b=co
 .rcases z with z|z
  .subst z;rwa[S.hw]at e
  .subst z;let#[_,q,_]:=S.hc;rwa[q]at e
 .cases F:H b with
  |none=>show mt b G F
  |some o=>rwa[h b o F z]at e
inductive mq(C:Addr)(v:List V)(H:Hp)(Q:VK)(e:XK):Prop
 |mk (p ow co t l:Addr) (M:WZ) (os:List Int) (pg:List (Option (List Int))) (ns:List Int) (c:Nat) (_:v=[.ref p,.ref t]) (_:aU C H M p ow co os pg) (_:M ow) (_:M co) (_:(∀b,M b->H b≠none)) (_:ow≠co) (_:os.length=pg.length) (_:os.length<=60) (_:(0:Int)∈os) (_:H t=some (.tup [.ref l,.int c])) (_:H l=some (.lst (ns.map V.int))) (_:¬ M l) (_:1<=c) (_:c<=1000) (_:∀H':Hp,aU C H' M p ow co (os.set (os.idxOf 0) c) (pg.set (os.idxOf 0) (some ns))->Off (λb=>b=ow\/b=co) H H'->Q (.int (os.idxOf 0:Nat)) H'):mq C v H Q e
theorem Av:aD ["store","moved","n"] ["store","moved"] (au ur):=L2.bL
theorem AX{C:Addr}(F:cq K "settle" "settle" ur f fd)(T:Txt K mg C)(GT:↥Md 1 C "take" (wZ C))(GP:↥Md 3 C "put" (zj K C))(GC:↥Md 1 C "count" (iM C))(GM:↥Md 3 C "more" (uQ C)) :
  ↥aG 4 f fd ["store","moved"] (mq C):=by
 show F.eL Av (λa0 A outer s H vs Q E O h=>?_);let#[p,ow,co,t,l,M,os,pg,ns,c,rfl,S,J,mc,mt,ab,ao,R,h0,G,aT,nM,c1,c2,k]:=h;let#[dx,h1]:=S.ob;let I:os.idxOf 0<os.length:=Pz.mpr h0;show#[_,(aj (cV 2 Av.nd (qB (pv 0) T.cl GT O az))
  (aj (aV (pm (pv 0) T.cl GP O az (aa (pv 2) (aa (aL aN (pv 1) ah cB) ag))))
  (aj (wj Ow (aJ gO (pm (pv 0) T.cl GC O az (aa (pv 2) ag)) (aL aN (pv 1) ah cB) (aP _)) (ar (aV (pm (pv 0) T.cl GM O az (aa (pv 2) ag)))))
  (ar (aO (pv 2)))))),?_]
 show#[0,p,dx,0,h1,aS _ _ ak ak,p,ow,co,M,os,pg,rfl,S,J,mc,mt,ab,ao,R,λz=>absurd h0 z,λ_ H1 S1 U=>?_];generalize os.idxOf 0=j at *;let#[aB,as]:=S1.ob;let nt:¬ (t=ow\/t=co):=λq=>by
  rcases q with q|q
  .subst q;rwa[S.hw]at G
  .subst q;let#[_,y,_]:=S.hc;rwa[y]at G
 let ap:¬ (l=ow\/l=co):=λq=>by
  rcases q with q|q
  .show nM (q▸J)
  .show nM (q▸mc)
 let t1:=U _ _ G nt;let l1:=U _ _ aT ap;show#[0,p,aB,0,as,aS _ _ ak ak,0,0,t,_,(0),0,rfl,bM.of t1,rfl,p,ow,co,l,M,2,_,ns,rfl,S1,J,mc,sD S1 U mt,ab,by rw[Pa,Pa];show ao,by rw[Pa];show R,by rw[gX I];decide,bA.of l1,?_];intro H2 S2 O2;rw[show(j:Int).toNat=j from P6 j,Vi]at S2;show#[λm σ H3=>∃c':Nat,m+c'=c/\1<=c'/\σ=#v[.ref p,.ref t,.int j]/\aU C H3 M p ow co (os.set j c') (pg.set j (some ns))/\H3 t=some (.tup [.ref l,.int c])/\Off (λb=>b=ow\/b=co) H H3,
  #[c-1,(1),af,G0 _,rfl,S2,O2 _ _ t1 nt,λb o e q=>O2 b o (U b o e q) q],?_]
 rintro m σ H3 ⟨c',em,p1,rfl,L,t3,O3⟩;let#[ac,h3]:=L.ob;show#[0,p,ac,0,h3,aS _ _ ak ak,0,p,ow,co,M,2,j,rfl,L,by rw[Pa];show R,?_];rw[gX I];show#[0,t,_,(1),0,rfl,bM.of t3,5,0,rfl,0,?_];cases z:(c':Int)<c
 .rw[decide_eq_true z];show#[λam H'=>am=#v[.ref p,.ref t,.int j]/\aU C H' M p ow co (os.set j (c'+1:Nat)) (pg.set j (some ns))/\H' t=some (.tup [.ref l,.int c])/\Off (λb=>b=ow\/b=co) H H',3]
  .rintro am H' ⟨a1,a2,a3,a4⟩;show#[m-1,af,c'+1,af,af,a1,a2,a3,a4]
  .show#[0,p,ac,0,h3,aS _ _ ak ak,0,p,ow,co,M,2,j,rfl,L,J,mc,ab,by rw[Pa];show R,by rw[gX I];omega,?_];intro H4 S4 O4;rw[gX I,show(j:Int).toNat=j from P6 j,Vi]at S4;show#[rfl,S4,O4 _ _ t3 nt,λb o e q=>O4 b o (O3 b o e q) q]
 .rw[decide_eq_false z];let e:c'=c:=af;subst e;show#[0,k H3 L O3]
structure PA where
 pg:Addr
 fp:Addr
 fo:Addr
 fc:Addr
 sp:Addr
 so:Addr
 sc:Addr
 pd:Addr
 il:Addr
def dt(A:PA)(n:Int):List (Str×V):=bu "in_frames" (.ref A.il) (bu "last_sheet" (.int n) (bu "places" (.ref A.pd) (bu "slots" (.ref A.sp) (bu "frames" (.ref A.fp) []))))
abbrev Hc:=List (Int×Addr×Bool×Nat)
def uX(x:Addr×Bool×Nat):V:=.ref x.1
def nJ(b:Bool)(n:Nat):List V:=[.str (if b=true then "frame" else "slot"),.int n]
structure bZ(C CS:Addr)(H:Hp)(M:WZ)(A:PA)(s:Pg.PS):Prop where
 ob:∃dx,H A.pg=some (.ins C dx (dt A s.ls))
 fr:aU CS H M A.fp A.fo A.fc (s.ow true) (s.co true)
 sl:aU CS H M A.sp A.so A.sc (s.ow false) (s.co false)
 il:H A.il=some (.lst (s.inf.map V.int))
 le:∀b,(s.ow b).length<=60
 pd:∃l:Hc,H A.pd=some (.dK (Tb.dk uX l))/\(l.map (·.1)).Nodup/\(∀x∈l,H x.2.1=some (.tup (nJ x.2.2.1 x.2.2.2)))/\(∀k,(Tb.look l k).map (·.2)=s.pl k)/\l.length<=1000
structure uw(K:Om)(mg:W9)(C:Addr):Prop where
 cl:oE K C
 nF:cZ K C "frames"
 nS:cZ K C "slots"
 nP:cZ K C "places"
 nL:cZ K C "last_sheet"
 nI:cZ K C "in_frames"
 list:mg "list" = none
abbrev yI:OB:=inClass (top 14) 9
inductive mr(C CS:Addr)(v:List V)(H:Hp)(Q:VK)(e:XK):Prop
 |mk(M:WZ)(A:PA)(s:Pg.PS)(k:Int)(b:Bool)(n:Nat)(_:v=[.ref A.pg,.int k])(_:bZ C CS H M A s)(_:s.pl k=some (b,n))(_:∀t,H t=some (.tup (nJ b n))->Q (.ref t) H)
theorem sH(A:PA)(n:Int):(dt A n).lookup ("places" : Str)=some (.ref A.pd):=by
 unfold dt;rw[aF,WX ak,aF,WX ak,aF,WY rfl]
theorem Nu:aD ["self","sheet"] ["self","sheet"] (au yI):=L2.bL
theorem Ey{C CS:Addr}(F:cq K "place" "Paging.place" yI f fd)(T:uw K mg C):↥aG 1 f fd ["self","sheet"] (mr C CS):=by
 show F.eL Nu (λab A outer s H vs Q E O h=>?_);let#[M,z,s',k,b,n,rfl,G,R,q]:=h;let#[dx,h1]:=G.ob;let#[l,hd,nd,S,U,_]:=G.pd;show#[_,(aj (bJ (nN (jQ (de O) (pv 1) (aH (pv 0) rfl))) dJ aR)
  (ar (aO (hJ (de O) (aH (pv 0) rfl) (pv 1) cB)))),?_]
 obtain⟨x,hx,ex⟩:∃x,Tb.look l k=some x/\x.2=(b,n):=by
  have:=U k;rw[R]at this;show wh.mp this
 let J:fb H z.pd (.int k) (some (uX x)):=by
  let I:=fb.k (k:=Ot k) hd;rw[Tb.cW,hx]at I;show I
 let L:=S _ (Tb.aI hx);show#[0,0,z.pg,C,dx,_,0,h1,T.cl,T.nP,sH _ _,z.pd,0,J,0,?_];show bw #[0,z.pg,C,dx,_,0,h1,T.cl,T.nP,sH _ _,0,z.pd,uX x,rfl,J,q x.1 ?_];rw[show x.2.1=b by rw[ex],show x.2.2=n by rw[ex]]at L;show L
abbrev mK:OB:=inClass (top 14) 10
abbrev qr:OB:=inClass (top 14) 11
inductive eB(C CS:Addr)(v:List V)(H:Hp)(Q:VK)(e:XK):Prop
 |mk(M:WZ)(A:PA)(s:Pg.PS)(k:Int)(b:Bool)(n:Nat)(_:v=[.ref A.pg,.int k])(_:bZ C CS H M A s)(_:s.pl k=some (b,n))(_:Q (.int n) H)
def PA.st(A:PA)(b:Bool):Addr:=if b=true then A.fp else A.sp
inductive gI(C CS:Addr)(v:List V)(H:Hp)(Q:VK)(e:XK):Prop
 |mk(M:WZ)(A:PA)(s:Pg.PS)(k:Int)(b:Bool)(n:Nat)(_:v=[.ref A.pg,.int k])(_:bZ C CS H M A s)(_:s.pl k=some (b,n))(_:Q (.ref (A.st b)) H)
theorem dq(A:PA)(n:Int){m:Str}(h1:¬ m = "in_frames")(h2:¬ m = "last_sheet")(G:¬ m = "places")(z:¬ m = "slots")(F:¬ m = "frames"):(dt A n).lookup m=none:=by
 unfold dt;rw[aF,WX h1,aF,WX h2,aF,WX G,aF,WX z,aF,WX F]
 all_goals rfl
theorem su(A:PA)(n:Int):(dt A n).lookup ("frames" : Str)=some (.ref A.fp):=by
 unfold dt;rw[aF,WX ak,aF,WX ak,aF,WX ak,aF,WX ak,aF,WY rfl]
theorem zx(A:PA)(n:Int):(dt A n).lookup ("slots" : Str)=some (.ref A.sp):=by
 unfold dt;rw[aF,WX ak,aF,WX ak,aF,WX ak,aF,WY rfl]
theorem Mj:aD ["self","sheet"] ["self","sheet"] (au mK):=L2.bL
theorem vt{C CS:Addr}(F:cq K "number_of" "Paging.number_of" mK f fd)(T:uw K mg C)(L:↥Md 1 C "place" (mr C CS)):↥aG 2 f fd ["self","sheet"] (eB C CS):=by
 show F.eL Mj (λR A outer s H vs Q E J h=>?_);let#[M,z,s',k,b,n,rfl,G,I,q]:=h;let#[dx,h1]:=G.ob;show#[_,(ar (aO (aL aN (pm (pv 0) T.cl L J az (aa (pv 1) ag)) ah cB))),?_];show#[0,z.pg,dx,0,h1,dq _ _ ak ak ak ak ak,0,M,z,s',k,b,n,rfl,G,I,λt O=>?_];show#[t,_,(1),0,rfl,bM.of O,rfl,q]
theorem MA:aD ["self","sheet"] ["self","sheet"] (au qr):=L2.bL
theorem yf{C CS:Addr}(F:cq K "store_of" "Paging.store_of" qr f fd)(T:uw K mg C)(L:↥Md 1 C "place" (mr C CS)):↥aG 2 f fd ["self","sheet"] (gI C CS):=by
 show F.eL MA (λR A outer s H vs Q E J h=>?_);let#[M,z,s',k,b,n,rfl,G,I,q]:=h;let#[dx,h1]:=G.ob;show#[_,(aj (bJ (aJ cK (aL aN (pm (pv 0) T.cl L J az (aa (pv 1) ag)) ah cB) br (aP _)) (ar (aO (aH (pv 0) rfl))) aR)
  (ar (aO (aH (pv 0) rfl)))),?_]
 show#[0,z.pg,dx,0,h1,dq _ _ ak ak ak ak ak,0,M,z,s',k,b,n,rfl,G,I,λt O=>?_];show#[t,_,(0),0,rfl,bM.of O,1,0,?_];cases b with
 |true=>show eO #[0,z.pg,C,dx,_,0,h1,T.cl,T.nF,su _ _,q]
 |false=>show bw #[0,z.pg,C,dx,_,0,h1,T.cl,T.nS,zx _ _,q]
abbrev tM:OB:=inClass (top 14) 12
abbrev tm:OB:=inClass (top 14) 4
def PA.ow(A:PA)(b:Bool):Addr:=if b=true then A.fo else A.so
def PA.co(A:PA)(b:Bool):Addr:=if b=true then A.fc else A.sc
theorem bZ.st{C CS:Addr}{H:Hp}{M:WZ}{A:PA}{s:Pg.PS}(G:bZ C CS H M A s)(b:Bool):aU CS H M (A.st b) (A.ow b) (A.co b) (s.ow b) (s.co b):=by
 cases b
 .show G.sl
 .show G.fr
inductive qK(C CS:Addr)(v:List V)(H:Hp)(Q:VK)(e:XK):Prop
 |mk(M:WZ)(A:PA)(s:Pg.PS)(k:Int)(cs:List Int)(c:Int)(_:v=[.ref A.pg,.int k])(_:bZ C CS H M A s)(_:Pg.Vw s k cs c)(_:Q (.int c) H)
inductive qQ(C CS:Addr)(v:List V)(H:Hp)(Q:VK)(e:XK):Prop
 |mk(M:WZ)(A:PA)(s:Pg.PS)(k:Int)(cs:List Int)(c:Int)(_:v=[.ref A.pg,.int k])(_:bZ C CS H M A s)(_:Pg.Vw s k cs c)(_:c≠0)(_:∀l,H l=none->Q (.ref l) (upd H l (.lst (cs.map V.int))))
theorem MJ:aD ["self","sheet"] ["self","sheet"] (au tM):=L2.bL
theorem Ap{C CS:Addr}(F:cq K "count" "Paging.count" tM f fd)(T:uw K mg C)(TS:Txt K mg CS)(R:↥Md 2 C "store_of" (gI C CS))(ab:↥Md 2 C "number_of" (eB C CS))(L:↥Md 1 CS "count" (iM CS)):↥aG 3 f fd ["self","sheet"] (qK C CS):=by
 show F.eL MJ (λac A outer s H vs Q E I h=>?_);let#[M,z,s',k,cs,c,rfl,G,#[b,n,J,am,U],q]:=h;let#[dx,h1]:=G.ob;let S:=G.st b;let#[O,h2]:=S.ob;show#[_,(ar (aO (pm (pm (pv 0) T.cl R I az (aa (pv 1) ag)) TS.cl L I az (aa (pm (pv 0) T.cl ab I az (aa (pv 1) ag)) ag)))),?_];show#[0,z.pg,dx,0,h1,dq _ _ ak ak ak ak ak,0,M,z,s',k,b,n,rfl,G,J,?_];show#[_,O,0,h2,aS _ _ ak ak,?_];show#[0,z.pg,dx,0,h1,dq _ _ ak ak ak ak ak,0,M,z,s',k,b,n,rfl,G,J,?_];show#[2,_,M,2,n,rfl,S,G.le b,?_];rw[gz U];show q
theorem DN:aD ["self","sheet"] ["self","sheet"] (au tm):=L2.bL
theorem An{C CS:Addr}(F:cq K "cells" "Paging.cells" tm f fd)(T:uw K mg C)(TS:Txt K mg CS)(O:↥Md 2 C "store_of" (gI C CS))(ac:↥Md 2 C "number_of" (eB C CS))(GE:↥Md 3 CS "cells" (gx CS)):↥aG 4 f fd ["self","sheet"] (qQ C CS):=by
 show F.eL DN (λam A outer s H vs Q E I h=>?_);let#[M,z,s',k,cs,c,rfl,G,#[b,n,J,ab,U],R,q]:=h;let#[dx,h1]:=G.ob;let S:=G.st b;let#[L,h2]:=S.ob;show#[_,(ar (aO (pm (pm (pv 0) T.cl O I az (aa (pv 1) ag)) TS.cl GE I az (aa (pm (pv 0) T.cl ac I az (aa (pv 1) ag)) ag)))),?_];show#[0,z.pg,dx,0,h1,dq _ _ ak ak ak ak ak,0,M,z,s',k,b,n,rfl,G,J,?_];show#[_,L,0,h2,aS _ _ ak ak,?_];show#[0,z.pg,dx,0,h1,dq _ _ ak ak ak ak ak,0,M,z,s',k,b,n,rfl,G,J,?_];show#[2,_,M,2,n,cs,rfl,S,G.le b,by rw[gz U];show R,by rw[show(n:Int).toNat=n from P6 n];show ab,q]
theorem aU.off{C p ow co:Addr}{B M:WZ}{os:List Int}{pg:List (Option (List Int))}{H H':Hp}(S:aU C H M p ow co os pg)(h:Off B H H')(O:∀b,B b->M b)(z:¬ B p)(I:¬ B ow)(F:¬ B co):aU C H' M p ow co os pg:=by
 let#[#[dx,h1],J,cs,G,L]:=S;show#[#[dx,h _ _ h1 z],h _ _ J I,cs,h _ _ G F,j4 h O L]
structure PA.Ok(A:PA)(M:WZ):Prop where
 ds:[A.pg,A.fp,A.fo,A.fc,A.sp,A.so,A.sc,A.pd,A.il].Nodup
 mm:∀x∈[A.pg,A.fp,A.fo,A.fc,A.sp,A.so,A.sc,A.pd,A.il],M x
def PA.own(A:PA):Addr->Prop:=λb=>b∈[A.pg,A.fo,A.fc,A.so,A.sc,A.pd,A.il]
abbrev uW:OB:=inClass (top 14) 8
theorem wI{α:Type}{l:List α}(h:l.Nodup)(i j:Nat){a b:α}(hi:l[i]?=some a)(I:l[j]?=some b)(J:i≠j):a≠b:=by
 let#[h1,G]:=sN.mp hi;let#[h2,F]:=sN.mp I;let q:=PX.mp h;rcases Nat.lt_or_gt_of_ne J with z|z
 .rw[<-G, <-F];show q i j h1 h2 z
 .rw[<-G, <-F];show D0 (q j i h2 h1 z)
theorem jC{a b c:Addr}(h1:a≠b)(h2:a≠c):¬ (a=b\/a=c):=λz=>z.elim h1 h2
theorem Kw{M:WZ}{a b:Addr}(h1:M a)(h2:M b):∀c,c=a\/c=b->M c:=λc z=>z.elim (λe=>by rw[e];show h1) λe=>by rw[e];show h2
theorem in1{M:WZ}{a:Addr}(h1:M a):∀c,c=a->M c:=λc e=>by rw[e];show h1
section
variable{A:PA}{M:WZ}
theorem PA.Ok.n(ok:A.Ok M)(i j:Nat){a b:Addr}(hi:[A.pg,A.fp,A.fo,A.fc,A.sp,A.so,A.sc,A.pd,A.il][i]?=some a)(z:[A.pg,A.fp,A.fo,A.fc,A.sp,A.so,A.sc,A.pd,A.il][j]?=some b)(F:i≠j):a≠b:=wI ok.ds i j hi z F
theorem PA.Ok.m(ok:A.Ok M)(i:Nat){a:Addr}(hi:[A.pg,A.fp,A.fo,A.fc,A.sp,A.so,A.sc,A.pd,A.il][i]?=some a):M a:=ok.mm a (NC hi)
theorem PA.gy(i:Nat){a:Addr}(hi:[A.pg,A.fo,A.fc,A.so,A.sc,A.pd,A.il][i]?=some a):A.own a:=NC hi
theorem PA.Ok.own(ok:A.Ok M):∀b,A.own b->M b:=by
 intro b h;unfold PA.own at h;simp only[vr,Oh,or_false]at h;rcases h with h|h|h|h|h|h|h<;>rw[h]
 .show ok.m 0 rfl
 .show ok.m 2 rfl
 .show ok.m 3 rfl
 .show ok.m 5 rfl
 .show ok.m 6 rfl
 .show ok.m 7 rfl
 .show ok.m 8 rfl
theorem bZ.alive{C CS:Addr}{H H':Hp}{s:Pg.PS}(G:bZ C CS H' M A s)(o:Off A.own H H')(mt:∀b,M b->H b≠none):∀b,M b->H' b≠none:=by
 intro b L e;cases z:A.own b
 .unfold PA.own at z;simp only[vr,Oh,or_false]at z;let#[dx,h1]:=G.ob;let#[_,J,_]:=G.fr.hc;let#[_,O,_]:=G.sl.hc;let#[l,I,_]:=G.pd;rcases z with z|z|z|z|z|z|z<;>rw[z]at e
  .rw[h1]at e;cases e
  .rw[G.fr.hw]at e;cases e
  .rw[J]at e;cases e
  .rw[G.sl.hw]at e;cases e
  .rw[O]at e;cases e
  .rw[I]at e;cases e
  .rw[G.il]at e;cases e
 .cases F:H b with
  |none=>show mt b L F
  |some o'=>rwa[o b o' F z]at e
theorem bZ.keep{C CS:Addr}{H H':Hp}{s:Pg.PS}(G:bZ C CS H M A s)(h:Off (λ_=>False) H H'):bZ C CS H' M A s:=by
 let#[dx,h1]:=G.ob;let#[l,hd,I,z,J,F]:=G.pd;show#[#[dx,h _ _ h1 id],G.fr.keep h,G.sl.keep h,h _ _ G.il id,G.le,#[l,h _ _ hd id,I,λx hx=>h _ _ (z x hx) id,J,F]]
theorem bZ.p5{C CS:Addr}{H:Hp}{s:Pg.PS}(G:bZ C CS H M A s)(ok:A.Ok M)(r:List Int):bZ C CS (upd H A.il (.lst (r.map V.int))) M A { s with inf:=r }:=by
 let o:Off (· = A.il) H (upd H A.il (.lst (r.map V.int))):=λb o e z=>(by rw[ai z];show e);let#[dx,h1]:=G.ob;let#[l,hd,J,F,L,I]:=G.pd;show#[#[dx,o _ _ h1 (ok.n 0 8 rfl rfl aq)],G.fr.off o (in1 (ok.m 8 rfl)) (ok.n 1 8 rfl rfl aq) (ok.n 2 8 rfl rfl aq) (ok.n 3 8 rfl rfl aq),G.sl.off o (in1 (ok.m 8 rfl)) (ok.n 4 8 rfl rfl aq) (ok.n 5 8 rfl rfl aq) (ok.n 6 8 rfl rfl aq),ae,G.le,
  #[l,o _ _ hd (ok.n 7 8 rfl rfl aq),J,λx hx=>o _ _ (F x hx) (cM (F x hx) G.il (by intro z;cases z)),L,I]]
theorem bZ.Jg{C CS:Addr}{H:Hp}{s s':Pg.PS}(G:bZ C CS H M A s)(z:s'.ow=s.ow)(F:s'.co=s.co)(R:s'.ls=s.ls)(I:s'.inf=s.inf)(J:∀j,s'.pl j=s.pl j):bZ C CS H M A s':=by
 let#[l,hd,S,L,U,O]:=G.pd;show#[by rw[R];show G.ob,by rw[z,F];show G.fr,by rw[z,F];show G.sl,by rw[I];show G.il,by rw[z];show G.le,#[l,hd,S,L,λj=>by rw[J];show U j,O]]
theorem Fw{H:Hp}{l:Hc}{f:Int->Option (Bool×Nat)}{k:Int}{t:Addr}{b:Bool}{n:Nat}(J:(l.map (·.1)).Nodup)(G:∀x∈l,H x.2.1=some (.tup (nJ x.2.2.1 x.2.2.2)))(L:∀j,(Tb.look l j).map (·.2)=f j)(R:l.length<=999\/(f k≠none/\l.length<=1000))(F:H t=some (.tup (nJ b n))) :
  ∃z:Hc,putK (Tb.dk uX l) (Ot k) (.ref t)=Tb.dk uX z/\(z.map (·.1)).Nodup/\(∀x∈z,H x.2.1=some (.tup (nJ x.2.2.1 x.2.2.2)))/\(∀j,(Tb.look z j).map (·.2)=Pg.eT f k (some (b,n)) j)/\z.length<=1000:=by
 let I:∀z:Hc,(∀j,Tb.look z j=if j=k then some (t,b,n)else Tb.look l j)->∀j,(Tb.look z j).map (·.2)=Pg.eT f k (some (b,n)) j:=by
  intro z h j;rw[h j];cases e:j=k
  .rw[WY e,e,Pg.bD];rfl
  .rw[WX e,Pg.aM e];show L j
 cases e:Tb.look l k with
 |none =>
  let O:f k=none:=(by rw[<-L k,e];rfl);show#[l++[(k,(t,b,n))],Tb.eJ (f:=uX) (a:=(t,b,n)) e,?_,λx hx=>?_,I _ λj=>Tb.bU j e,?_]
  .rw[Ou];show lC J (Tb.bW e)
  .rcases By.mp hx with hx|hx
   .show G x hx
   .rw[t6.mp hx];show F
  .rw[Oj,Pu];rcases R with h|h
   .omega
   .show absurd O h.1
 |some y =>
  show#[Tb.aW l k (t,b,n),Tb.jv (f:=uX) (a:=(t,b,n)) e,by rw[Tb.gP];show J,λx hx=>?_,I _ λj=>Tb.cp j e,?_]
  .rcases Tb.mem_set hx with rfl|⟨hx,_⟩
   .show F
   .show G x hx
  .rw[Tb.jV];omega
theorem bZ.Dn{C CS t:Addr}{H:Hp}{s:Pg.PS}{l:Hc}{f:Int->Option (Bool×Nat)}{k:Int}{b:Bool}{n:Nat}(ok:A.Ok M)
  (L:∃dx,H A.pg=some (.ins C dx (dt A s.ls))) (R:aU CS H M A.fp A.fo A.fc (s.ow true) (s.co true)) (sl:aU CS H M A.sp A.so A.sc (s.ow false) (s.co false)) (U:H A.il=some (.lst (s.inf.map V.int))) (le:∀b,(s.ow b).length<=60)
  (hd:H A.pd=some (.dK (Tb.dk uX l))) (nd:(l.map (·.1)).Nodup) (ht:∀x∈l,H x.2.1=some (.tup (nJ x.2.2.1 x.2.2.2))) (hl:∀j,(Tb.look l j).map (·.2)=f j) (ac:l.length<=999\/(f k≠none/\l.length<=1000)) (ab:H t=some (.tup (nJ b n))) (O:∀j,s.pl j=Pg.eT f k (some (b,n)) j) :
  bZ C CS (upd H A.pd (.dK (putK (Tb.dk uX l) (Ot k) (.ref t)))) M A s:=by
 let o:Off (· = A.pd) H (upd H A.pd (.dK (putK (Tb.dk uX l) (Ot k) (.ref t)))):=λb o e z=>(by rw[ai z];show e);let#[I,J,e2,F,S,G]:=Fw (k:=k) nd ht hl ac ab;let#[dx,h1]:=L;show#[#[dx,o _ _ h1 (ok.n 0 7 rfl rfl aq)],R.off o (in1 (ok.m 7 rfl)) (ok.n 1 7 rfl rfl aq) (ok.n 2 7 rfl rfl aq) (ok.n 3 7 rfl rfl aq),sl.off o (in1 (ok.m 7 rfl)) (ok.n 4 7 rfl rfl aq) (ok.n 5 7 rfl rfl aq) (ok.n 6 7 rfl rfl aq),o _ _ U (ok.n 8 7 rfl rfl aq),le,
  #[I,by rw[ae,J],e2,λx hx=>o _ _ (F x hx) (cM (F x hx) hd (by intro z;cases z)),λj=>by rw[O j];show S j,G]]
theorem oX{α:Type}{k:Int}:∀{l:List (Int×α)},(l.map (·.1)).Nodup->l.length<=(Tb.bh l k).length+1
 | [],_=>OJ _
 |x::r,h=>by
  let#[G,z]:=Oo.mp (show(x.1::r.map (·.1)).Nodup from h);let I:=oX (k:=k) z;unfold Tb.bh at I ⊢;rw[PV];cases c:x.1=k
  .rw[WX (by simp[c])];have:r.filter (λx=>decide (x.1≠k))=r:=by
    rw[SK];intro y F;have:y.1≠k:=λe=>G (by rw[c, <-e];show Ol.mpr #[y,F,rfl]);simpa using this
   rw[this,Oq];show G0 _
  .rw[WY ‹c›,Oq,Oq];omega
theorem E6{s:Pg.PS}(G:Pg.Good s)(le:∀b,(s.ow b).length<=60){l:Hc}(S:(l.map (·.1)).Nodup)(z:∀x∈l,s.pl x.1=some x.2.2):l.length<=120:=by
 let lt:∀x∈l,x.2.2.2<60:=λx hx=>by
  let#[cs,c,_,h2,_,_]:=G.va x.1 x.2.2.1 x.2.2.2 (z x hx);let h3:=(sN.mp h2).1;let U:=le x.2.2.1;omega
 have:=Tb.EN 120 0 (l.map λx=>if x.2.2.1=true then(x.2.2.2:Int)else 60+(x.2.2.2:Int)) ?_ ?_
 .rwa [ti]at this
 .show QR.mpr ((QR.mp S).imp_of_mem ?_);intro a b J L O e;let h1:=lt a J;let h2:=lt b L;show O (G.inj a.1 b.1 b.2.2 ?_ (z b L));rw[z a J];congr 1;let e:(if a.2.2.1=true then(a.2.2.2:Int)else 60+(a.2.2.2:Int))=if b.2.2.1=true then(b.2.2.2:Int)else 60+(b.2.2.2:Int):=e
  show V1 ?_ ?_
  .rcases I:a.2.2.1 with _|_<;>rcases F:b.2.2.1 with _|_
   .rfl
   .rw[I,F,WX aq,WY rfl]at e;omega
   .rw[I,F,WY rfl,WX aq]at e;omega
   .rfl
  .split at e<;>split at e<;>omega
 .intro x hx;let#[y,R,rfl]:=Ol.mp hx;let h1:=lt y R;split<;>omega
theorem yZ{s:Pg.PS}(G:Pg.Good s)(le:(s.ow true).length<=60):s.inf.length<=60:=by
 have:=Tb.EN 60 0 (s.inf.map λk=>match s.pl k with|some p=>(p.2:Int)|none=>0) ?_ ?_
 .rwa [ti]at this
 .show QR.mpr (G.nd.imp_of_mem ?_);intro a b L O I e;let#[n,z]:=(G.fi a).mp L;let#[m,F]:=(G.fi b).mp O;rw[z,F]at e;let e:(n:Int)=m:=e;let e:n=m:=af;subst e;show I (G.inj _ _ _ z F)
 .intro x hx;let#[y,J,rfl]:=Ol.mp hx;let#[n,z]:=(G.fi y).mp J;let#[cs,c,_,h2,_,_]:=G.va _ _ _ z;let R:=(sN.mp h2).1;rw[z];change 0<=(n:Int)/\(n:Int)<0+(60:Nat);omega
inductive qv(C CS:Addr)(v:List V)(H:Hp)(Q:VK)(e:XK):Prop
 |mk(M:WZ)(A:PA)(s:Pg.PS)(k:Int)(n:Nat)(cs:List Int)(c:Nat)(_:v=[.ref A.pg,.int k])(_:bZ C CS H M A s)(_:A.Ok M)(_:(∀b,M b->H b≠none))(_:s.pl k=some (true,n))(_:Pg.Vw s k cs c)(_:¬ k∈s.inf)(_:(0:Int)∈s.ow false)(_:(∀b,(s.co b).length=(s.ow b).length))(_:1<=c)(_:c<=1000)(_:∀H':Hp,bZ C CS H' M A (Pg.out s k n cs c)->Off A.own H H'->Q .bB H')
theorem Ka:aD ["self","sheet","moved"] ["self","sheet"] (au uW):=L2.bL
theorem yg{C CS:Addr}(F:cq K "put_out" "Paging.put_out" uW f fd)(T:uw K mg C)(am:↥Df 4 "lift" (tf CS))(ap:↥Df 4 "settle" (mq CS))(a7:↥Md 2 C "number_of" (eB C CS)):↥aG 5 f fd ["self","sheet"] (qv C CS):=by
 show F.eL Ka (λba A outer s H vs Q E O h=>?_);let#[M,I,s',k,n,cs,c,rfl,G,ok,mt,S,hv,ni,h0,a0,c1,c2,q]:=h;let#[dx,h1]:=G.ob;let#[b',n',e1,e2,e3]:=hv;rwa[S]at e1;let#[l,hd,nd,L,hl,a8]:=G.pd;let hs:=HC;show#[_,(aj (cV 2 Ka.nd (pc am O az (aa (aH (pv 0) rfl) (aa (pm (pv 0) T.cl a7 O az (aa (pv 1) ag)) ag))))
  (ar (fZ (de O) (aH (pv 0) rfl) (pv 1) (eM (aa br (aa (pc ap O az (aa (aH (pv 0) rfl) (aa (pv 2) ag))) ag))) rfl))),?_]
 show#[0,I.pg,C,dx,_,0,h1,T.cl,T.nF,su _ _,?_];show#[0,I.pg,dx,0,h1,dq _ _ ak ak ak ak ak,0,M,I,s',k,true,n,rfl,G,S,?_];show#[I.fp,I.fo,I.fc,M,2,n,cs,c,rfl,G.fr,ok.m 2 rfl,ok.m 3 rfl,mt,ok.n 2 3 rfl rfl aq,G.le true,e3,c1,c2,e2,?_];intro H1 t l0 ft ac nl ao S1 R;let a5:=R _ _ h1 (jC (ok.n 0 2 rfl rfl aq) (ok.n 0 3 rfl rfl aq));let ab:=G.sl.off R (Kw (ok.m 2 rfl) (ok.m 3 rfl)) (jC (ok.n 4 2 rfl rfl aq) (ok.n 4 3 rfl rfl aq)) (jC (ok.n 5 2 rfl rfl aq) (ok.n 5 3 rfl rfl aq)) (jC (ok.n 6 2 rfl rfl aq) (ok.n 6 3 rfl rfl aq));show#[0,I.pg,C,dx,_,0,a5,T.cl,T.nS,zx _ _,0,I.sp,I.so,I.sc,t,l0,M,2,cs,c,rfl,ab,ok.m 5 rfl,ok.m 6 rfl,sD S1 R mt,ok.n 5 6 rfl rfl aq,(a0 false).symm,G.le false,h0,ac,ao,nl,c1,c2,?_];intro H2 S2 O2;show#[gF,λu U=>?_];let aT:=(S1.off O2 (Kw (ok.m 5 rfl) (ok.m 6 rfl)) (jC (ok.n 1 5 rfl rfl aq) (ok.n 1 6 rfl rfl aq)) (jC (ok.n 2 5 rfl rfl aq) (ok.n 2 6 rfl rfl aq)) (jC (ok.n 3 5 rfl rfl aq) (ok.n 3 6 rfl rfl aq))).keep (dw (o:=.tup (nJ false ((s'.ow false).idxOf 0))) U);let as:=S2.keep (dw (o:=.tup (nJ false ((s'.ow false).idxOf 0))) U);let J:∀b o,H b=some o->¬ (b=I.fo\/b=I.fc)->¬ (b=I.so\/b=I.sc)->upd H2 u (.tup (nJ false ((s'.ow false).idxOf 0))) b=some o:=λb o e z1 z2=>dw U b o (O2 b o (R b o e z1) z2) id;let hu:upd H2 u (.tup (nJ false ((s'.ow false).idxOf 0))) u=some (.tup (nJ false ((s'.ow false).idxOf 0))):=ae;let kd:=J _ _ hd (jC (ok.n 7 2 rfl rfl aq) (ok.n 7 3 rfl rfl aq)) (jC (ok.n 7 5 rfl rfl aq) (ok.n 7 6 rfl rfl aq));let ko:=J _ _ h1 (jC (ok.n 0 2 rfl rfl aq) (ok.n 0 3 rfl rfl aq)) (jC (ok.n 0 5 rfl rfl aq) (ok.n 0 6 rfl rfl aq));let ki:=J _ _ G.il (jC (ok.n 8 2 rfl rfl aq) (ok.n 8 3 rfl rfl aq)) (jC (ok.n 8 5 rfl rfl aq) (ok.n 8 6 rfl rfl aq));let aB:=G.fr.hw;let a4:=G.sl.hw;let#[_,a6,_]:=G.fr.hc;let#[_,a3,_]:=G.sl.hc;let kt:∀x∈l,upd H2 u (.tup (nJ false ((s'.ow false).idxOf 0))) x.2.1=some (.tup (nJ x.2.2.1 x.2.2.2)):=λx hx=>J _ _ (L x hx) (jC (cM (L x hx) aB (by intro z;cases z)) (cM (L x hx) a6 (by intro z;cases z))) (jC (cM (L x hx) a4 (by intro z;cases z)) (cM (L x hx) a3 (by intro z;cases z)));change Dw K _ _ _ (upd H2 u (.tup (nJ false ((s'.ow false).idxOf 0)))) _;generalize upd H2 u (.tup (nJ false ((s'.ow false).idxOf 0)))=H3 at *;show#[0,I.pg,C,dx,_,0,ko,T.cl,T.nP,sH _ _,0,I.pd,0,kL.k (k:=Ot k) kd (by rw[Tb.ie];omega),?_];show q _ (bZ.Dn (s:=Pg.out s' k n cs c) (f:=s'.pl) (b:=false) (n:=(s'.ow false).idxOf 0) ok #[dx,ko] aT as ?_ ?_ kd nd kt hl (.inr #[by rw[S];simp,a8]) hu ?_) ?_
 .change H3 I.il=some (.lst ((s'.inf.erase k).map V.int));rw[QN ni];show ki
 .intro b;cases b
  .change(WN _ _ _).length<=60;rw[Pa];show G.le false
  .change(WN _ _ _).length<=60;rw[Pa];show G.le true
 .intro j;cases e:j=k
  .subst e;show Pg.bD.trans Pg.bD.symm
  .show(Pg.aM e).trans ((Pg.aM e).trans (Pg.aM e).symm)
 .intro b o e z;rw[ai (λy=>z (by rw[y];show PA.gy 5 rfl))];show J b o e (λy=>z (y.elim (λy=>by rw[y];show PA.gy 1 rfl) λy=>by rw[y];show PA.gy 2 rfl)) (λy=>z (y.elim (λy=>by rw[y];show PA.gy 3 rfl) λy=>by rw[y];show PA.gy 4 rfl))
abbrev qZ:OB:=inClass (top 14) 7
inductive j8(C CS:Addr)(v:List V)(H:Hp)(Q:VK)(e:XK):Prop
 |mk(M:WZ)(A:PA)(s:Pg.PS)(k:Int)(t l:Addr)(cs:List Int)(c:Nat)(_:v=[.ref A.pg,.int k,.ref t])(_:bZ C CS H M A s)(_:A.Ok M)(_:(∀b,M b->H b≠none))(_:Pg.Good { s with pl:=Pg.eT s.pl k none })(_:((0:Int)∈s.ow true\/(0:Int)∈s.ow false))(_:s.ow true≠[])(_:(∀b,∀x∈s.ow b,x<=1000))(_:H t=some (.tup [.ref l,.int c]))(_:H l=some (.lst (cs.map V.int)))(_:¬ M l)(_:1<=c)(_:c<=1000)(_:∀(H':Hp)(s':Pg.PS),Pg.BI { s with pl:=Pg.eT s.pl k none } k cs c s'->bZ C CS H' M A s'->Off A.own H H'->Q .bB H')
theorem wN(A:PA)(n:Int):(dt A n).lookup ("in_frames" : Str)=some (.ref A.il):=by
 unfold dt;rw[aF,WY rfl]
theorem Nn:aD ["self","sheet","moved"] ["self","sheet","moved"] (au qZ):=L2.bL
theorem vv{C CS:Addr}(F:cq K "bring_in" "Paging.bring_in" qZ f fd)(T:uw K mg C)(TS:Txt K mg CS)(GF:↥Md 1 CS "free" (uv CS))(bc:↥Md 5 C "put_out" (qv C CS))(a8:↥Df 4 "settle" (mq CS)):↥aG 6 f fd ["self","sheet","moved"] (j8 C CS):=by
 show F.eL Nn (λbz A outer s H vs Q E hr h=>?_);let#[M,I,s',k,t,l0,cs,c,rfl,G,ok,mt,gd,hf,hn,hb,L,bl,nl,c1,c2,q]:=h;let#[dx,h1]:=G.ob;let#[a4,h2]:=G.fr.ob;let hs:=HC;let a6:¬ I.own l0:=λz=>nl (ok.own _ z);show#[_,(aj (bJ (aJ cK (qB (aH (pv 0) rfl) TS.cl GF hr az) ah (aP _)) (ar (aV (pm (pv 0) T.cl bc hr az (aa (jn Po PySem.F.slot_list_pop PySem.F.type_list_pop Dg (aH (pv 0) rfl) (aa ah ag)) ag)))) aR)
  (aj (fZ (de hr) (aH (pv 0) rfl) (pv 1) (eM (aa br (aa (pc a8 hr az (aa (aH (pv 0) rfl) (aa (pv 2) ag))) ag))) rfl)
  (ar (aV (jn Po Tg Th sI (aH (pv 0) rfl) (aa (pv 1) ag)))))),?_]
 show share (λσ H9=>JB λ(J s2:Pg.PS)=>JW (σ=#v[.ref I.pg,.int k,.ref t]) (bZ C CS H9 M I J) (s2.ow=J.ow) (s2.co=J.co) (s2.ls=J.ls) (s2.inf=J.inf) ((∀j,j≠k->s2.pl j=J.pl j)) (Pg.Good s2) ((0:Int)∈s2.ow true) (Pg.BI { s' with pl:=Pg.eT s'.pl k none } k cs c (Pg.yX s2 true k cs c)) (Off I.own H H9)) (λu' ap=>?A) ?B
 case A =>
  show#[0,I.pg,C,dx,_,0,h1,T.cl,T.nF,su _ _,I.fp,a4,0,h2,aS _ _ ak ak,I.fp,I.fo,I.fc,M,_,0,G.fr,rfl,0,?_];show fN (λz'=>?_) (λz'=>?_)
  rotate_left
  .let z:(0:Int)∈s'.ow true:=Ox λn=>z' (by rw[UU.mpr n];simp);show ap _ _ #[s', { s' with pl:=Pg.eT s'.pl k none },rfl,G,1,1,λj hj=>Pg.aM hj,gd,z,.free z,λb o e _=>e]
  .let z:¬ (0:Int)∈s'.ow true:=UU.mp (by
    have:(((s'.ow true).count 0:Nat):Int)=0:=‹z'›;omega)
   rcases Pg.JV gd hf hn with h|⟨_,ao,k0,r,n0,as,c0,hi,S,ab⟩
   .show absurd h z
   .let bm:k0≠k:=λe=>by
     let S:Pg.eT s'.pl k none k0=some (true,n0):=S;rwa[e,Pg.bD]at S
    let hi:s'.inf=k0::r:=hi;let bH:=(gd.vw ab).1;let#[og,_,_,bn,_,_,bV]:=Pg.wt gd S ab ao;let#[b1,n1,e1,e2,e3]:=id ab;rwa[S]at e1;let aB:s'.pl k0=some (true,n0):=(by rw[<-S];show(Pg.aM bm).symm);let bY:=hb true c0 (NC e3);obtain⟨aT,rfl⟩:∃c':Nat,c0=c':=#[c0.toNat,af];let R:=gd.nd;let R:s'.inf.Nodup:=R;rw[hi]at R;let#[n1,n2]:=Oo.mp R;let O:=G.p5 ok r;let O1:Off I.own H (upd H I.il (.lst (r.map V.int))):=λb o e z=>(by rw[ai (λy=>z (by rw[y];show PA.gy 6 rfl))];show e);let am:=G.il;rw[hi]at am;show#[0,I.pg,dx,0,h1,dq _ _ ak ak ak ak ak,0,I.pg,C,dx,_,0,h1,T.cl,T.nI,wN _ _,.inl #[5,bA.of am],I.il,_,(0),(0),.int k0,1,am,aq,aq,SV (Pp _) (by rw[ti,Oq];omega),4];show#[M,I,_,k0,n0,as,aT,rfl,O,ok,O.alive O1 mt,aB,#[true,n0,aB,e2,e3],n1,ao,gd.ln,af,af,λH2 G2 O2=>?_];show ap _ _ #[_,Pg.out { s' with pl:=Pg.eT s'.pl k none } k0 n0 as aT,rfl,G2,1,rfl,3,og,bn,.full z ao hi S ab,λb o e y=>O2 b o (O1 b o e y) y]
    .change s'.inf.erase k0=r.erase k0;rw[hi,List.erase_cons_head,QN n1]
    .intro j hj;cases e:j=k0
     .subst e;show Pg.bD.trans Pg.bD.symm
     .show(Pg.aM e).trans ((Pg.aM e).trans ((Pg.aM hj).trans ((Pg.aM e).trans (Pg.aM e)).symm))
 case B =>
  rintro σ H9 ⟨J,s2,rfl,O,U,w2,w3,w4,w5,g2,z0,a0,O1⟩;let#[ac,h3]:=O.ob;let a7:H9 t=some (.tup [.ref l0,.int c]):=O1 _ _ L λy=>by
   let#[_,q1,_]:=G.fr.hc;let#[_,q2,_]:=G.sl.hc;let#[_,q3,_]:=G.pd;let q4:=G.fr.hw;let q5:=G.sl.hw;let q6:=G.il;unfold PA.own at y;simp only[vr,Oh,or_false]at y;rcases y with y|y|y|y|y|y|y<;>rw[y]at L
   .rw[h1]at L;cases L
   .rw[q4]at L;cases L
   .rw[q1]at L;cases L
   .rw[q5]at L;cases L
   .rw[q2]at L;cases L
   .rw[q3]at L;cases L
   .rw[q6]at L;cases L
  let bx:=O1 _ _ bl a6;let#[l,hd,R,ht,hl,b0]:=O.pd;let a3:l.length<=999:=by
   let a1:=oX (k:=k) R;let a2:=E6 g2 (λb=>by rw[U];show O.le b) (l:=Tb.bh l k) (by rw[Tb.lZ];show R.filter _) λx hx=>by
    let#[hx,a5]:=Tb.dz hx;have:=hl x.1;rw[Tb.cD R hx]at this;rw[w5 x.1 a5, <-this];rfl
   omega
  rw[U]at z0;let bf:(J.co true).length=(J.ow true).length:=(by rw[<-U, <-w2];show g2.ln true);show#[0,I.pg,C,ac,_,0,h3,T.cl,T.nF,su _ _,0,I.fp,I.fo,I.fc,t,l0,M,2,cs,c,rfl,O.fr,ok.m 2 rfl,ok.m 3 rfl,O.alive O1 mt,ok.n 2 3 rfl rfl aq,bf.symm,O.le true,z0,a7,bx,nl,c1,c2,?_];intro H2 S2 O2;show#[gF,λu fu=>?_];let be:=S2.keep (dw (o:=.tup (nJ true ((J.ow true).idxOf 0))) fu);let ba:=(O.sl.off O2 (Kw (ok.m 2 rfl) (ok.m 3 rfl)) (jC (ok.n 4 2 rfl rfl aq) (ok.n 4 3 rfl rfl aq)) (jC (ok.n 5 2 rfl rfl aq) (ok.n 5 3 rfl rfl aq)) (jC (ok.n 6 2 rfl rfl aq) (ok.n 6 3 rfl rfl aq))).keep (dw (o:=.tup (nJ true ((J.ow true).idxOf 0))) fu);let kp:∀b o,H9 b=some o->¬ (b=I.fo\/b=I.fc)->upd H2 u (.tup (nJ true ((J.ow true).idxOf 0))) b=some o:=λb o e z1=>dw fu b o (O2 b o e z1) id;let hu:upd H2 u (.tup (nJ true ((J.ow true).idxOf 0))) u=some (.tup (nJ true ((J.ow true).idxOf 0))):=ae;let kd:=kp _ _ hd (jC (ok.n 7 2 rfl rfl aq) (ok.n 7 3 rfl rfl aq));let ko:=kp _ _ h3 (jC (ok.n 0 2 rfl rfl aq) (ok.n 0 3 rfl rfl aq));let ki:=kp _ _ O.il (jC (ok.n 8 2 rfl rfl aq) (ok.n 8 3 rfl rfl aq));let bd:=O.fr.hw;let#[_,bv,_]:=O.fr.hc;let kt:∀x∈l,upd H2 u (.tup (nJ true ((J.ow true).idxOf 0))) x.2.1=some (.tup (nJ x.2.2.1 x.2.2.2)):=λx hx=>kp _ _ (ht x hx) (jC (cM (ht x hx) bd (by intro z;cases z)) (cM (ht x hx) bv (by intro z;cases z)));change Dw K _ _ _ (upd H2 u (.tup (nJ true ((J.ow true).idxOf 0)))) _;generalize upd H2 u (.tup (nJ true ((J.ow true).idxOf 0)))=H3 at *;show#[0,I.pg,C,ac,_,0,ko,T.cl,T.nP,sH _ _,0,I.pd,0,kL.k (k:=Ot k) kd (by rw[Tb.ie];omega),?_];let G4:=bZ.Dn (C:=C) (CS:=CS) (s:={ Pg.yX J true k cs c with inf:=J.inf }) (f:=J.pl) (k:=k) (b:=true) (n:=(J.ow true).idxOf 0) ok #[ac,ko] be ba ki (λb=>by
   cases b
   .show O.le false
   .change(WN _ _ _).length<=60;rw[Pa];show O.le true) kd R kt hl (.inl a3) hu (λj=>rfl)
  let O4:Off I.own H (upd H3 I.pd (.dK (putK (Tb.dk uX l) (Ot k) (.ref u)))):=λb o e z=>by
   rw[ai (λy=>z (by rw[y];show PA.gy 5 rfl))];show kp b o (O1 b o e z) (λy=>z (y.elim (λy=>by rw[y];show PA.gy 1 rfl) λy=>by rw[y];show PA.gy 2 rfl))
  generalize upd H3 I.pd (.dK (putK (Tb.dk uX l) (Ot k) (.ref u)))=H4 at *;let#[bi,h4]:=G4.ob;let bI:J.inf.length<=60:=(by rw[<-w4];show yZ g2 (by rw[U];show O.le true));show#[0,I.pg,C,bi,_,0,h4,T.cl,T.nI,wN _ _,.inl #[5,bA.of G4.il],0,I.il,_,.int k,1,G4.il,by rw[ti];change J.inf.length<_;omega,?_];let G5:=G4.p5 ok (J.inf++[k]);rw[Ou]at G5;show q _ _ a0 (G5.Jg ?_ ?_ w3 ?_ ?_) λb o e z=>by
   rw[ai (λy=>z (by rw[y];show PA.gy 6 rfl))];show O4 b o e z
  .change Pg.upd s2.ow true _=Pg.upd J.ow true _;rw[U]
  .change Pg.upd s2.co true _=Pg.upd J.co true _;rw[U,w2]
  .change s2.inf++[k]=J.inf++[k];rw[w4]
  .intro j;change Pg.eT s2.pl k _ j=Pg.eT J.pl k _ j;cases e:j=k
   .rw[e,Pg.bD,Pg.bD,U]
   .rw[Pg.aM e,Pg.aM e];show w5 j e
end
end St
namespace Pg
theorem wb{α:Type}{f:Bool->α}{b:Bool}:upd f b (f b)=f:=by
 funext c;cases e:c=b
 .rw[e,ae]
 .rw[bj e]
theorem zW{α:Type}{f:Int->α}{k:Int}{v:α}(h:f k=v):eT f k v=f:=by
 funext c;cases e:c=k
 .rw[e,bD,h]
 .rw[aM e]
theorem xN{s:PS}(G:Good s):({ next s with pl:=eT (next s).pl (s.ls+1) none }:PS)=next s:=by
 let e:eT s.pl (s.ls+1) none=s.pl:=zW (gH G);change PS.mk s.ow s.co (eT s.pl (s.ls+1) none) (s.ls+1) s.inf=PS.mk s.ow s.co s.pl (s.ls+1) s.inf;rw[e]
theorem zy{s:PS}{k:Int}{n:Nat}(G:Good s)(F:s.pl k=some (false,n)):¬ k∈s.inf:=λh=>by
 let#[m,z]:=(G.fi k).mp h;rwa[F]at z
theorem xu{s:PS}{k:Int}{n:Nat}(G:Good s)(z:s.pl k=some (false,n)):({ cL s false n 0 with pl:=eT (cL s false n 0).pl k none }:PS)=rJ s k false n:=by
 change PS.mk (upd s.ow false ((s.ow false).set n 0)) s.co (eT s.pl k none) s.ls s.inf=PS.mk (upd s.ow false ((s.ow false).set n 0)) s.co (eT s.pl k none) s.ls (s.inf.erase k);rw[QN (zy G z)]
def Cb(s:PS):Prop:=∀b,∀x∈s.ow b,x<=1000
theorem IS{ow:Bool->List Int}{b:Bool}{n:Nat}{x:Int}(h:∀b,∀x∈ow b,x<=1000)(hx:x<=1000):∀c,∀y∈upd ow b ((ow b).set n x) c,y<=1000:=by
 intro c y z;cases e:c=b
 .rw[e,ae]at z;rcases SR z with h' |h'
  .show h b y h'
  .rw[h'];show hx
 .rw[bj e]at z;show h c y z
end Pg
namespace Pg
theorem RI.cb{s:PS}{es:List Ent}(R:RI s es)(le:∀b,(s.ow b).length<=60):Cb s:=by
 intro b x hx;let#[n,z]:=Uz hx;rcases R.good.on b n x z with e|⟨k,F⟩
 .omega
 .let#[cs,c,h1,h2,_,_]:=R.good.va _ _ _ F;rwa[z]at h2;let L:=R.ct k cs x #[b,n,F,h1,z];let I:=List.count_le_length (a:=some k) (l:=es);let G:=R.rm;let O:=le true;let J:=le false;omega
end Pg
namespace St
open PySem L2
section
variable{A:PA}{M:WZ}
theorem Cz(A:PA)(n:Int):(dt A n).lookup ("last_sheet" : Str)=some (.int n):=by
 unfold dt;rw[aF,WX ak,aF,WY rfl]
theorem DZ(A:PA)(n:Int):dt A n=([("frames",.ref A.fp),("slots",.ref A.sp),("places",.ref A.pd),("last_sheet",.int n),("in_frames",.ref A.il)]:List (Str×V)):=by
 let S:¬ (("frames" : Str) = "slots"):=ak;let J:¬ (("frames" : Str) = "places"):=ak;let O:¬ (("frames" : Str) = "last_sheet"):=ak;let U:¬ (("frames" : Str) = "in_frames"):=ak;let F:¬ (("slots" : Str) = "places"):=ak;let L:¬ (("slots" : Str) = "last_sheet"):=ak;let G:¬ (("slots" : Str) = "in_frames"):=ak;let R:¬ (("places" : Str) = "last_sheet"):=ak;let I:¬ (("places" : Str) = "in_frames"):=ak;let z:¬ (("last_sheet" : Str) = "in_frames"):=ak;unfold dt;simp only[bu,WX S,WX J,WX O,WX U,WX F,WX L,WX G,WX R,WX I,WX z]
theorem IA(A:PA)(n m:Int):bu "last_sheet" (.int m) (dt A n)=dt A m:=by
 let F:¬ (("frames" : Str) = "last_sheet"):=ak;let z:¬ (("slots" : Str) = "last_sheet"):=ak;let G:¬ (("places" : Str) = "last_sheet"):=ak;rw[DZ,DZ];simp only[bu,WX F,WX z,WX G,if_true]
theorem bZ.La{C CS dx:Addr}{H:Hp}{s:Pg.PS}(G:bZ C CS H M A s)(ok:A.Ok M)(n:Int):bZ C CS (upd H A.pg (.ins C dx (dt A n))) M A { s with ls:=n }:=by
 let o:Off (· = A.pg) H (upd H A.pg (.ins C dx (dt A n))):=λb o e z=>(by rw[ai z];show e);let#[O,h1]:=G.ob;let#[l,hd,J,F,L,I]:=G.pd;show#[#[dx,ae],G.fr.off o (in1 (ok.m 0 rfl)) (ok.n 1 0 rfl rfl aq) (ok.n 2 0 rfl rfl aq) (ok.n 3 0 rfl rfl aq),G.sl.off o (in1 (ok.m 0 rfl)) (ok.n 4 0 rfl rfl aq) (ok.n 5 0 rfl rfl aq) (ok.n 6 0 rfl rfl aq),o _ _ G.il (ok.n 8 0 rfl rfl aq),G.le,
  #[l,o _ _ hd (ok.n 7 0 rfl rfl aq),J,λx hx=>o _ _ (F x hx) (cM (F x hx) h1 (by intro z;cases z)),L,I]]
theorem bZ.Gp{C CS:Addr}{H H':Hp}{s:Pg.PS}(G:bZ C CS H M A s)(ok:A.Ok M)(b:Bool){os:List Int}{pg:List (Option (List Int))}(S:aU CS H' M (A.st b) (A.ow b) (A.co b) os pg)(o:Off (λx=>x=A.ow b\/x=A.co b) H H')(hl:os.length<=60):bZ C CS H' M A { s with ow:=Pg.upd s.ow b os,co:=Pg.upd s.co b pg }:=by
 let#[I,h1]:=G.ob;let#[l,hd,R,F,J,L]:=G.pd;let le:∀c,(Pg.upd s.ow b os c).length<=60:=λc=>by
  cases e:c=b
  .rw[e,Pg.ae];show hl
  .rw[Pg.bj e];show G.le c
 let hw:=(G.st b).hw;let#[_,U,_]:=(G.st b).hc;let O:∀x∈l,H' x.2.1=some (.tup (nJ x.2.2.1 x.2.2.2)):=λx hx=>o _ _ (F x hx) (jC (cM (F x hx) hw (by intro z;cases z)) (cM (F x hx) U (by intro z;cases z)));cases b
 .show#[#[I,o _ _ h1 (jC (ok.n 0 5 rfl rfl aq) (ok.n 0 6 rfl rfl aq))],G.fr.off o (Kw (ok.m 5 rfl) (ok.m 6 rfl)) (jC (ok.n 1 5 rfl rfl aq) (ok.n 1 6 rfl rfl aq)) (jC (ok.n 2 5 rfl rfl aq) (ok.n 2 6 rfl rfl aq)) (jC (ok.n 3 5 rfl rfl aq) (ok.n 3 6 rfl rfl aq)),S,o _ _ G.il (jC (ok.n 8 5 rfl rfl aq) (ok.n 8 6 rfl rfl aq)),le,
   #[l,o _ _ hd (jC (ok.n 7 5 rfl rfl aq) (ok.n 7 6 rfl rfl aq)),R,O,J,L]]
 .show#[#[I,o _ _ h1 (jC (ok.n 0 2 rfl rfl aq) (ok.n 0 3 rfl rfl aq))],S,G.sl.off o (Kw (ok.m 2 rfl) (ok.m 3 rfl)) (jC (ok.n 4 2 rfl rfl aq) (ok.n 4 3 rfl rfl aq)) (jC (ok.n 5 2 rfl rfl aq) (ok.n 5 3 rfl rfl aq)) (jC (ok.n 6 2 rfl rfl aq) (ok.n 6 3 rfl rfl aq)),o _ _ G.il (jC (ok.n 8 2 rfl rfl aq) (ok.n 8 3 rfl rfl aq)),le,
   #[l,o _ _ hd (jC (ok.n 7 2 rfl rfl aq) (ok.n 7 3 rfl rfl aq)),R,O,J,L]]
theorem bZ.Dh{C CS:Addr}{H H':Hp}{s:Pg.PS}(G:bZ C CS H M A s)(ok:A.Ok M)(b:Bool){os:List Int}(S:aU CS H' M (A.st b) (A.ow b) (A.co b) os (s.co b))(o:Off (λx=>x=A.ow b\/x=A.co b) H H')(z:os.length<=60):bZ C CS H' M A { s with ow:=Pg.upd s.ow b os }:=
 (G.Gp ok b S o z).Jg rfl Pg.wb.symm rfl rfl λ_=>rfl
theorem bZ.KJ{C CS:Addr}{H H':Hp}{s:Pg.PS}(G:bZ C CS H M A s)(ok:A.Ok M)(b:Bool){pg:List (Option (List Int))}(S:aU CS H' M (A.st b) (A.ow b) (A.co b) (s.ow b) pg)(o:Off (λx=>x=A.ow b\/x=A.co b) H H'):bZ C CS H' M A { s with co:=Pg.upd s.co b pg }:=
 (G.Gp ok b S o (G.le b)).Jg Pg.wb.symm rfl rfl rfl λ_=>rfl
theorem PA.ng(b:Bool):∀x,x=A.ow b\/x=A.co b->A.own x:=by
 intro x h;cases b
 .rcases h with h|h<;>rw[h]
  .show PA.gy 3 rfl
  .show PA.gy 4 rfl
 .rcases h with h|h<;>rw[h]
  .show PA.gy 1 rfl
  .show PA.gy 2 rfl
theorem PA.Ok.mo(ok:A.Ok M)(b:Bool):M (A.ow b):=ok.own _ (PA.ng b _ (.inl rfl))
theorem PA.Ok.mc(ok:A.Ok M)(b:Bool):M (A.co b):=ok.own _ (PA.ng b _ (.inr rfl))
theorem PA.Ok.oc(ok:A.Ok M)(b:Bool):A.ow b≠A.co b:=by
 cases b
 .show ok.n 5 6 rfl rfl aq
 .show ok.n 2 3 rfl rfl aq
theorem Off.mono{B F:WZ}{H H':Hp}(o:Off B H H')(h:∀b,B b->F b):Off F H H':=λb u e z=>o b u e λy=>z (h b y)
theorem Off.trans{B:WZ}{H H' F:Hp}(o:Off B H H')(o':Off B H' F):Off B H F:=λb u e z=>o' b u (o b u e z) z
theorem Off.wr{B:WZ}{H:Hp}{a:Addr}{o:HO}(h:B a):Off B H (upd H a o):=λb u e z=>by rw[ai (λy=>z (by rw[y];show h))];show e
theorem Off.new{B:WZ}{H:Hp}{a:Addr}{o:HO}(h:H a=none):Off B H (upd H a o):=λb u e z=>dw h b u e id
theorem bZ.HV{C CS:Addr}{H:Hp}{s:Pg.PS}{l:Hc}(G:bZ C CS H M A s)(ok:A.Ok M)(k:Int)(hd:H A.pd=some (.dK (Tb.dk uX l)))(J:(l.map (·.1)).Nodup)(F:∀x∈l,H x.2.1=some (.tup (nJ x.2.2.1 x.2.2.2)))(L:∀j,(Tb.look l j).map (·.2)=s.pl j)(I:l.length<=1000) :
  bZ C CS (upd H A.pd (.dK (Tb.dk uX (Tb.bh l k)))) M A { s with pl:=Pg.eT s.pl k none }:=by
 let o:Off (· = A.pd) H (upd H A.pd (.dK (Tb.dk uX (Tb.bh l k)))):=λb o e z=>(by rw[ai z];show e);let#[dx,h1]:=G.ob;show#[#[dx,o _ _ h1 (ok.n 0 7 rfl rfl aq)],G.fr.off o (in1 (ok.m 7 rfl)) (ok.n 1 7 rfl rfl aq) (ok.n 2 7 rfl rfl aq) (ok.n 3 7 rfl rfl aq),G.sl.off o (in1 (ok.m 7 rfl)) (ok.n 4 7 rfl rfl aq) (ok.n 5 7 rfl rfl aq) (ok.n 6 7 rfl rfl aq),o _ _ G.il (ok.n 8 7 rfl rfl aq),G.le,
  #[Tb.bh l k,ae,by rw[Tb.lZ];show J.filter _,λx hx=>?_,λj=>?_,Oy (RE _ _) I]]
 .let hx:=(Tb.dz hx).1;show o _ _ (F x hx) (cM (F x hx) hd (by intro z;cases z))
 .rw[Tb.cA];change _=Pg.eT s.pl k none j;cases e:j=k
  .rw[WY e,e,Pg.bD];rfl
  .rw[WX e,Pg.aM e];show L j
end
theorem KA{D:Ends}{σ:St}{H:Hp}(h:D.nx σ H):zA D σ H:=h
abbrev mR:OB:=inClass (top 14) 1
abbrev yw:OB:=inClass (top 14) 2
abbrev xf:OB:=inClass (top 14) 3
abbrev uz:OB:=inClass (top 14) 5
abbrev xJ:OB:=inClass (top 14) 6
structure JD(C CS:Addr)(H:Hp)(M:WZ)(A:PA)(s:Pg.PS):Prop where
 at_:bZ C CS H M A s
 ok:A.Ok M
 mt:∀b,M b->H b≠none
 gd:Pg.Good s
 ne:s.ow true≠[]
 cb:Pg.Cb s
 l0:0<=s.ls
inductive iX(K:Om)(C CS:Addr)(v:List V)(H:Hp)(Q:VK)(e:XK):Prop
 |mk(M:WZ)(A:PA)(s:Pg.PS)(ca:Addr)(cs:List Int)(_:v=[.ref A.pg,.ref ca])(_:JD C CS H M A s)(_:((0:Int)∈s.ow true\/(0:Int)∈s.ow false))(_:bA K H ca (cs.map V.int))(_:ca≠A.pg)(_:cs.length=8)(_:∀(H':Hp)(s':Pg.PS),Pg.BI (Pg.next s) (s.ls+1) cs 1 s'->bZ C CS H' M A s'->Off A.own H H'->Q (.int (s.ls+1)) H')
inductive ph(C CS:Addr)(v:List V)(H:Hp)(Q:VK)(e:XK):Prop
 |mk(M:WZ)(A:PA)(s:Pg.PS)(k:Int)(cs:List Int)(c:Int)(_:v=[.ref A.pg,.int k])(_:JD C CS H M A s)(_:Pg.Vw s k cs c)(_:∀(H':Hp)(s':Pg.PS),Pg.FE s k s'->bZ C CS H' M A s'->Off A.own H H'->Q .bB H')
inductive uU(C CS:Addr)(v:List V)(H:Hp)(Q:VK)(e:XK):Prop
 |mk(M:WZ)(A:PA)(s:Pg.PS)(k:Int)(b:Bool)(n:Nat)(cs:List Int)(c:Int)(_:v=[.ref A.pg,.int k])(_:JD C CS H M A s)(_:s.pl k=some (b,n))(_:Pg.Vw s k cs c)(_:∀H':Hp,bZ C CS H' M A (Pg.cL s b n (c+1))->Off A.own H H'->Q .bB H')
inductive oM(C CS:Addr)(v:List V)(H:Hp)(Q:VK)(e:XK):Prop
 |mk(M:WZ)(A:PA)(s:Pg.PS)(k:Int)(cs:List Int)(c:Int)(_:v=[.ref A.pg,.int k])(_:bZ C CS H M A s)(_:A.Ok M)(_:(∀b,M b->H b≠none))(_:Pg.Good s)(_:Pg.Vw s k cs c)(_:∀(H':Hp)(s':Pg.PS),Pg.Gm s k s'->bZ C CS H' M A s'->Off A.own H H'->Q .bB H')
inductive qS(C CS:Addr)(v:List V)(H:Hp)(Q:VK)(e:XK):Prop
 |mk(M:WZ)(A:PA)(s:Pg.PS)(k:Int)(ca:Addr)(cs0:List Int)(c0:Int)(cs:List Int)(_:v=[.ref A.pg,.int k,.ref ca])(_:JD C CS H M A s)(_:Pg.Vw s k cs0 c0)(_:H ca=some (.lst (cs.map V.int)))(_:¬ A.own ca)(_:cs.length=8)(_:(1<c0->(0:Int)∈s.ow true\/(0:Int)∈s.ow false))(_:(1<c0->∀(H':Hp)(s1 s2:Pg.PS),Pg.BI (Pg.next s) (s.ls+1) cs 1 s1->Pg.Gm s1 k s2->bZ C CS H' M A s2->Off A.own H H'->Q (.int (s.ls+1)) H'))(_:(c0=1->∀(H':Hp)(s1:Pg.PS)(m:Nat),Pg.FE s k s1->s1.pl k=some (true,m)->bZ C CS H' M A (Pg.write s1 true m cs)->Off A.own H H'->Q (.int k) H'))
theorem Mx:aD ["self","cells"] ["self","cells"] (au mR):=L2.bL
theorem uA{C CS:Addr}(F:cq K "new_sheet" "Paging.new_sheet" mR f fd)(T:uw K mg C)(TS:Txt K mg CS)(GF:↥Md 1 CS "free" (uv CS))(am:↥Md 6 C "bring_in" (j8 C CS)):↥aG 7 f fd ["self","cells"] (iX K C CS):=by
 show F.eL Mx (λa5 A outer s H vs Q E O h=>?_);let#[M,I,s',ca,cs,rfl,R,U,as,a0,h8,q]:=h;let G:=R.at_;let ok:=R.ok;let#[dx,h1]:=G.ob;let#[aB,h2]:=G.fr.ob;let#[aT,h3]:=G.sl.ob;let hs:=HC;show#[_,(aj (bJ (aJ cK (aA bR (qB (aH (pv 0) rfl) TS.cl GF O az) (qB (aH (pv 0) rfl) TS.cl GF O az)) ah (aP _)) dJ aR)
  (aj (AV (pv 0) ah Iw)
  (aj (aV (pm (pv 0) T.cl am O az (aa (aH (pv 0) rfl) (aa (eM (aa (cJ ff (by rfl) T.list eF (aa (pv 1) ag)) (aa ah ag))) ag))))
  (ar (aO (aH (pv 0) rfl)))))),?_]
 show#[0,I.pg,C,dx,_,0,h1,T.cl,T.nF,su _ _,I.fp,aB,0,h2,aS _ _ ak ak,I.fp,I.fo,I.fc,M,_,0,G.fr,?_];show#[0,I.pg,C,dx,_,0,h1,T.cl,T.nS,zx _ _,I.sp,aT,0,h3,aS _ _ ak ak,I.sp,I.so,I.sc,M,_,0,G.sl,_,0,1,0,?_];show fN (λz=>?_) (λ_=>?_)
 .exfalso;let z:(((s'.ow true).count 0:Nat):Int)+(((s'.ow false).count 0:Nat):Int)=0:=‹z›;rcases U with h|h
  .have:=P2.mpr h;omega
  .have:=P2.mpr h;omega
 show#[0,I.pg,C,dx,_,0,h1,T.cl,T.nL,Cz _ _,_,0,rfl,dx,_,h1,by rw[DZ];change 5<1000;decide,?_];rw[IA];let G1:=G.La (dx:=dx) ok (s'.ls+1);let O1:Off I.own H (upd H I.pg (.ins C dx (dt I (s'.ls+1)))):=Off.wr (PA.gy 0 rfl);let ap:bA K (upd H I.pg (.ins C dx (dt I (s'.ls+1)))) ca (cs.map V.int):=Rm.eR as λo e=>(by rw[ai a0];show e);let ab:=G1.alive O1 R.mt;let ac:upd H I.pg (.ins C dx (dt I (s'.ls+1))) I.pg=some (.ins C dx (dt I (s'.ls+1))):=ae;generalize upd H I.pg (.ins C dx (dt I (s'.ls+1)))=H1 at *;show#[0,I.pg,dx,0,ac,dq _ _ ak ak ak ak ak,0,I.pg,C,dx,_,0,ac,T.cl,T.nL,Cz _ _,0,ca,0,.inl ap,λl S=>?_];show#[gF,λt J=>?_];let O2:Off I.own H1 (upd (upd H1 l (.lst (cs.map V.int))) t (.tup [.ref l,.int 1])):=(Off.new S).trans (Off.new J);let a4:t≠l:=λe=>(by rwa[e,ae]at J);let ht:upd (upd H1 l (.lst (cs.map V.int))) t (.tup [.ref l,.int 1]) t=some (.tup [.ref l,.int 1]):=ae;let hl:upd (upd H1 l (.lst (cs.map V.int))) t (.tup [.ref l,.int 1]) l=some (.lst (cs.map V.int)):=(by rw[ai (D0 a4),ae]);let G2:bZ C CS (upd (upd H1 l (.lst (cs.map V.int))) t (.tup [.ref l,.int 1])) M I { s' with ls:=s'.ls+1 }:=(G1.keep (dw S)).keep (dw J);generalize upd (upd H1 l (.lst (cs.map V.int))) t (.tup [.ref l,.int 1])=H2 at *;let es:=Pg.xN R.gd;show#[M,I,Pg.next s',s'.ls+1,t,l,cs,(1),rfl,G2,ok,G2.alive O2 ab,by rw[es];show Pg.rX R.gd,U,R.ne,R.cb,ht,hl,λz=>ab l z S,G0 _,aq,λH3 s3 L G3 O3=>?_];rw[es]at L;let#[a3,h4]:=G3.ob;let ao:s3.ls=s'.ls+1:=(Pg.m7 R.gd R.l0 h8 L).ls;show#[0,I.pg,C,a3,_,0,h4,T.cl,T.nL,Cz _ _,?_];rw[ao];show q H3 s3 L G3 ((O1.trans O2).trans O3)
theorem JZ:aD ["self","sheet","place"] ["self","sheet"] (au xJ):=L2.bL
theorem Ci{C CS:Addr}(F:cq K "fetch" "Paging.fetch" xJ f fd)(T:uw K mg C)(aB:↥Md 1 C "place" (mr C CS))(ac:↥Md 6 C "bring_in" (j8 C CS))(as:↥Df 4 "lift" (tf CS)):↥aG 7 f fd ["self","sheet"] (ph C CS):=by
 show F.eL JZ (λaT A outer s H vs Q E U h=>?_);let#[M,z,s',k,cs,c,rfl,R,S,q]:=h;let G:=R.at_;let ok:=R.ok;let hc:=(R.gd.vw S).1;let#[b,n,J,e2,e3]:=id S;let#[dx,h1]:=G.ob;let hs:=HC;show#[_,(aj (cV 2 JZ.nd (pm (pv 0) T.cl aB U az (aa (pv 1) ag)))
  (aj (bJ (aJ cK (aL aN (pv 2) ah cB) br (aP _)) (aj (aV (jn Po Tv Ti sv (aH (pv 0) rfl) (aa (pv 1) ag)))
  (aj (aV (jn Po Tg Th sI (aH (pv 0) rfl) (aa (pv 1) ag)))
  (ar sV))) aR)
  (ar (aV (pm (pv 0) T.cl ac U az (aa (pv 1) (aa (pc as U az (aa (aH (pv 0) rfl) (aa (aL aN (pv 2) ah cB) ag))) ag))))))),?_]
 show#[0,z.pg,dx,0,h1,dq _ _ ak ak ak ak ak,0,M,z,s',k,b,n,rfl,G,J,λt ht=>?_];show#[0,t,_,(0),0,rfl,bM.of ht,1,0,?_];cases b with
 |true =>
  show eO ?_;let hi:k∈s'.inf:=(R.gd.fi k).mpr #[n,J];show#[0,z.pg,C,dx,_,0,h1,T.cl,T.nI,wN _ _,.inl #[5,bA.of G.il],0,z.il,s'.inf,k,1,G.il,hi,?_];let I:=G.p5 ok (s'.inf.erase k);let O:Off z.own H (upd H z.il (.lst ((s'.inf.erase k).map V.int))):=Off.wr (PA.gy 6 rfl);generalize upd H z.il (.lst ((s'.inf.erase k).map V.int))=H1 at *;let#[ap,h2]:=I.ob;let hl:=yZ R.gd (G.le true);let a3:(s'.inf.erase k).length<=s'.inf.length:=List.length_erase_le;show#[0,z.pg,C,ap,_,0,h2,T.cl,T.nI,wN _ _,.inl #[5,bA.of I.il],0,z.il,_,.int k,1,I.il,by rw[ti];change(s'.inf.erase k).length<_;omega,?_];let L:=I.p5 ok (s'.inf.erase k++[k]);rw[Ou]at L;show q _ _ (.here J) L (O.trans (Off.wr (PA.gy 6 rfl)))
 |false =>
  show bw ?_;obtain⟨c',rfl⟩:∃c':Nat,c=c':=#[c.toNat,af];let a4:=R.cb false _ (NC e3);show#[0,z.pg,dx,0,h1,dq _ _ ak ak ak ak ak,0,0,z.pg,C,dx,_,0,h1,T.cl,T.nS,zx _ _,0,t,_,(1),0,rfl,bM.of ht,4];show#[z.sp,z.so,z.sc,M,2,n,cs,c',rfl,G.sl,ok.m 5 rfl,ok.m 6 rfl,R.mt,ok.n 5 6 rfl rfl aq,G.le false,e3,af,af,e2,?_];intro H1 t1 l1 a0 ao nl am S1 O;let I:=G.Dh ok false S1 O (by rw[Pa];show G.le false);let ab:Off z.own H H1:=O.mono (PA.ng false);let es:=Pg.xu R.gd J;show#[M,z,Pg.cL s' false n 0,k,t1,l1,cs,c',rfl,I,ok,I.alive ab R.mt,by rw[es];show Pg.lD R.gd J,.inr (Pg.vf R.gd J),R.ne,Pg.IS R.cb aq,ao,am,nl,af,af,λH2 s2 hb L O2=>?_];rw[es]at hb;show q _ _ (.away J S hb) L (ab.trans O2)
theorem LU:aD ["self","sheet"] ["self","sheet"] (au yw):=L2.bL
theorem Ek{C CS:Addr}(F:cq K "share" "Paging.share" yw f fd)(T:uw K mg C)(TS:Txt K mg CS)(ac:↥Md 2 C "store_of" (gI C CS))(am:↥Md 2 C "number_of" (eB C CS))(GM:↥Md 3 CS "more" (uQ CS)):↥aG 4 f fd ["self","sheet"] (uU C CS):=by
 show F.eL LU (λao A outer s H vs Q E J h=>?_);let#[M,z,s',k,b,n,cs,c,rfl,R,I,L,q]:=h;let G:=R.at_;let ok:=R.ok;let hc:=(R.gd.vw L).1;let U:=Pg.vR I L;let#[dx,h1]:=G.ob;let S:=G.st b;let#[ab,h2]:=S.ob;show#[_,(ar (aV (pm (pm (pv 0) T.cl ac J az (aa (pv 1) ag)) TS.cl GM J az (aa (pm (pv 0) T.cl am J az (aa (pv 1) ag)) ag)))),?_];show#[0,z.pg,dx,0,h1,dq _ _ ak ak ak ak ak,0,M,z,s',k,b,n,rfl,G,I,?_];show#[_,ab,0,h2,aS _ _ ak ak,?_];show#[0,z.pg,dx,0,h1,dq _ _ ak ak ak ak ak,0,M,z,s',k,b,n,rfl,G,I,?_];show#[2,_,M,2,n,rfl,S,ok.mo b,ok.mc b,ok.oc b,G.le b,by rw[gz U];omega,λH1 O O1=>?_];rw[gz U,show(n:Int).toNat=n from P6 n]at O;show q H1 (G.Dh ok b O O1 (by rw[Pa];show G.le b)) (O1.mono (PA.ng b))
theorem Jc:aD ["self","sheet","store","n"] ["self","sheet"] (au xf):=L2.bL
theorem Dy{C CS:Addr}(F:cq K "leave" "Paging.leave" xf f fd)(T:uw K mg C)(TS:Txt K mg CS)(as:↥Md 2 C "store_of" (gI C CS))(aT:↥Md 2 C "number_of" (eB C CS))(GL:↥Md 3 CS "less" (sY CS))(GC:↥Md 1 CS "count" (iM CS)):↥aG 4 f fd ["self","sheet"] (oM C CS):=by
 show F.eL Jc (λa0 A outer s H vs Q E O h=>?_);let#[M,I,s',k,cs,c,rfl,G,ok,mt,gd,U,q]:=h;let hc:=(gd.vw U).1;let#[b,n,J,e2,e3]:=id U;let#[nl,_]:=sN.mp e3;let#[dx,h1]:=G.ob;let S:=G.st b;let#[ap,h2]:=S.ob;show#[_,(aj (cV 2 Jc.nd (pm (pv 0) T.cl as O az (aa (pv 1) ag)))
  (aj (cV 3 Jc.nd (pm (pv 0) T.cl aT O az (aa (pv 1) ag)))
  (aj (aV (pm (pv 2) TS.cl GL O az (aa (pv 3) ag)))
  (aj (bJ (aJ oy (pm (pv 2) TS.cl GC O az (aa (pv 3) ag)) ah (aP _)) (ar sV) aR)
  (aj (bJ (aJ cK (aL aN (hJ (de O) (aH (pv 0) rfl) (pv 1) cB) ah cB) br (aP _)) (ar (aV (jn Po Tv Ti sv (aH (pv 0) rfl) (aa (pv 1) ag)))) aR)
  (ar (aV (iw (aH (pv 0) rfl) (pv 1) #[1,1])))))))),?_]
 show#[0,I.pg,dx,0,h1,dq _ _ ak ak ak ak ak,0,M,I,s',k,b,n,rfl,G,J,?_];show#[0,I.pg,dx,0,h1,dq _ _ ak ak ak ak ak,0,M,I,s',k,b,n,rfl,G,J,?_];show#[0,_,ap,0,h2,aS _ _ ak ak,0,2,_,M,2,n,rfl,S,ok.mo b,ok.mc b,ok.oc b,G.le b,by rw[gz e3];omega,λH1 S1 O1=>?_];rw[gz e3,show(n:Int).toNat=n from P6 n]at S1;let L:=G.Dh ok b S1 O1 (by rw[Pa];show G.le b);let ab:Off I.own H H1:=O1.mono (PA.ng b);let#[aB,h3]:=S1.ob;show#[0,_,aB,0,h3,aS _ _ ak ak,0,2,_,M,2,n,rfl,S1,by rw[Pa];show G.le b,?_];rw[gX nl];show#[_,0,rfl,0,?_];cases z:(0:Int)<c-1
 .rw[decide_eq_true z];show q _ _ (.more J U af) L ab
 .rw[decide_eq_false z];let ec:c=1:=af;subst ec;show bw (KA ?_);let#[am,h4]:=L.ob;let#[l,hd,nd,ht,R,hn]:=L.pd;obtain⟨x,hx,ex⟩:∃x,Tb.look l k=some x/\x.2=(b,n):=by
   let h9:(Tb.look l k).map (·.2)=some (b,n):=(R k).trans J;show wh.mp h9
  let hg:fb H1 I.pd (.int k) (some (uX x)):=by
   let q9:=fb.k (k:=Ot k) hd;rw[Tb.cW,hx]at q9;show q9
  let hm:=ht _ (Tb.aI hx);rw[show x.2.1=b by rw[ex],show x.2.2=n by rw[ex]]at hm;dsimp only;show share (λσ H9=>σ=#v[.ref I.pg,.int k,.ref (I.st b),.int n]/\bZ C CS H9 M I { Pg.cL s' b n 0 with inf:=s'.inf.erase k }/\Off I.own H H9) (λu' ac=>?A) ?B
  case A =>
   show#[0,I.pg,C,am,_,0,h4,T.cl,T.nP,sH _ _,0,I.pd,uX x,rfl,hg,x.1,_,(0),0,rfl,bM.of hm,1,0,?_];cases b with
   |true =>
    show eO ?_;let hi:k∈s'.inf:=(gd.fi k).mpr #[n,J];show#[0,I.pg,C,am,_,0,h4,T.cl,T.nI,wN _ _,.inl #[5,bA.of L.il],0,I.il,s'.inf,k,1,L.il,hi,?_];show ac _ _ #[rfl,L.p5 ok (s'.inf.erase k),ab.trans (Off.wr (PA.gy 6 rfl))]
   |false =>
    show bw ?_;show ac _ _ #[4,ab];rw[QN (Pg.zy gd J)];show L
  case B =>
   rintro σ H9 ⟨rfl,G9,O9⟩;let#[ao,h5]:=G9.ob;let#[l,hd,nd,ht,R,hn]:=G9.pd;obtain⟨x,hx,ex⟩:∃x,Tb.look l k=some x/\x.2=(b,n):=by
    let h9:(Tb.look l k).map (·.2)=some (b,n):=(R k).trans J;show wh.mp h9
   show#[0,I.pg,C,ao,_,0,h5,T.cl,T.nP,sH _ _,I.pd,rfl,.inl #[_,.inl hd],0,_,Ot k,uX x,hd,rfl,by rw[Tb.cW,hx];rfl,?_];rw[Tb.ir];show q _ _ (.last J U) (G9.HV ok k hd nd ht R hn) (O9.trans (Off.wr (PA.gy 5 rfl)))
theorem Lm:aD ["self","sheet","cells","made"] ["self","sheet","cells"] (au uz):=L2.bL
theorem zY{C CS:Addr}(F:cq K "change" "Paging.change" uz f fd)(T:uw K mg C)(TS:Txt K mg CS)(a4:↥Md 3 C "count" (qK C CS))(as:↥Md 7 C "new_sheet" (iX K C CS))(aT:↥Md 4 C "leave" (oM C CS))(a5:↥Md 7 C "fetch" (ph C CS))(a6:↥Md 2 C "number_of" (eB C CS))(GP:↥Md 3 CS "put" (zj K CS)):↥aG 8 f fd ["self","sheet","cells"] (qS C CS):=by
 show F.eL Lm (λa7 A outer s H vs Q E U h=>?_);let#[M,I,s',k,ca,ac,O,cs,rfl,R,L,ao,am,h8,hf,q1,q2]:=h;let G:=R.at_;let ok:=R.ok;let hc:=(R.gd.vw L).1;let#[dx,h1]:=G.ob;show#[_,(aj (bJ (aJ oy (pm (pv 0) T.cl a4 U az (aa (pv 1) ag)) ah (aP _)) (aj (cV 3 Lm.nd (pm (pv 0) T.cl as U az (aa (pv 2) ag)))
  (aj (aV (pm (pv 0) T.cl aT U az (aa (pv 1) ag)))
  (ar (aO (pv 3))))) aR)
  (aj (aV (pm (pv 0) T.cl a5 U az (aa (pv 1) ag)))
  (aj (aV (pm (aH (pv 0) rfl) TS.cl GP U az (aa (pm (pv 0) T.cl a6 U az (aa (pv 1) ag)) (aa (pv 2) ag))))
  (ar (aO (pv 1)))))),?_]
 show#[0,I.pg,dx,0,h1,dq _ _ ak ak ak ak ak,0,M,I,s',k,ac,O,rfl,G,L,?_];show#[_,0,rfl,0,?_];cases z:(1:Int)<O
 .rw[decide_eq_true z];show#[0,I.pg,dx,0,h1,dq _ _ ak ak ak ak ak,0,M,I,s',ca,cs,rfl,R,hf z,bA.of ao,λe=>am (by rw[e];show PA.gy 0 rfl),h8,λH1 s1 hb J S=>?_];let#[ab,h2]:=J.ob;let B:=Pg.m7 R.gd R.l0 h8 hb;let kn:k≠s'.ls+1:=by
   intro e;let#[x1,x2,y1,_]:=L;rwa[e,Pg.gH R.gd]at y1
  show#[0,I.pg,ab,0,h2,dq _ _ ak ak ak ak ak,0,M,I,s1,k,ac,O,rfl,J,ok,J.alive S R.mt,B.good,(B.kept.ot _ _ _ kn).mpr L,λH2 s2 hl G2 O2=>?_];show#[0,q1 z H2 s1 s2 hb hl G2 (S.trans O2)]
 .rw[decide_eq_false z];let ec:O=1:=af;show#[0,I.pg,dx,0,h1,dq _ _ ak ak ak ak ak,0,M,I,s',k,ac,O,rfl,R,L,λH1 s1 ap J S=>?_];let FF:=Pg.rT R.gd ap;let#[m,hm]:=FF.fr;let a0:=(FF.vw k ac O).mpr L;let e3:=Pg.vR hm a0;let#[ab,h2]:=J.ob;let#[a3,h3]:=J.fr.ob;let aB:=S _ _ ao am;show#[0,I.pg,C,ab,_,0,h2,T.cl,T.nF,su _ _,I.fp,a3,0,h3,aS _ _ ak ak,?_];show#[0,I.pg,ab,0,h2,dq _ _ ak ak ak ak ak,0,M,I,s1,k,true,m,rfl,J,hm,?_];show#[0,I.fp,I.fo,I.fc,ca,M,2,m,cs,rfl,J.fr,ok.m 2 rfl,ok.m 3 rfl,J.alive S R.mt,ok.n 2 3 rfl rfl aq,(FF.good.ln true).symm,J.le true,by rw[gz e3];omega,bA.of aB,λH2 S2 O2=>?_];rw[show(m:Int).toNat=m from P6 m]at S2;show#[0,q2 ec H2 s1 m ap hm (J.KJ ok true S2 O2) (S.trans (O2.mono (PA.ng true)))]
end St
namespace Tb
open PySem L2
section
variable{α:Type}
theorem E4{l:List (Int×α)}{k:Int}(h:¬ k∈l.map (·.1)):bh l k=l:=by
 unfold bh;rw[SK];intro y z;have:y.1≠k:=λe=>h (Ol.mpr #[y,z,e]);simpa using this
theorem nG{k:Int}{a:α}:∀{l:List (Int×α)},(l.map (·.1)).Nodup->look l k=some a->l.Perm ((k,a)::bh l k)
 | [],_,h=>by cases h
 |x::r,I,h=>by
  let#[G,F]:=Oo.mp (show(x.1::r.map (·.1)).Nodup from I);rw[aK]at h;cases c:x.1=k
  .rw[WY c]at h;let e:x=(k,a):=V1 c (DD h);let z:bh (x::r) k=r:=by
    change filter _ (x::r)=r;rw[PV,WX (by simp[c])];show E4 (c▸G)
   rw[z,e]
  .rw[WX c]at h;let z:bh (x::r) k=x::bh r k:=by
    change filter _ (x::r)=_;rw[PV,WY ‹c›];rfl
   rw[z];show((nG F h).cons x).trans (List.Perm.swap _ _ _)
theorem zv(l:List (Int×α))(k:Int)(a:α):bh (aW l k a) k=bh l k:=by
 induction l with
 |nil=>rfl
 |cons x r z =>
  change filter _ ((if x.1=k then(k,a)else x)::aW r k a)=filter _ (x::r);cases c:x.1=k
  .rw[WY c,PV,WX (by simp),PV,WX (by simp[c])];show z
  .rw[WX c,PV,WY ‹c›,PV,WY ‹c›];congr 1
theorem nu{l:List (Int×α)}{k:Int}(z:(l.map (·.1)).Nodup):((bh l k).map (·.1)).Nodup:=z.sublist (Q4 _ RC)
theorem Ji{l:List (Int×α)}{k:Int}{a:α}(z:(l.map (·.1)).Nodup):(((k,a)::bh l k).map (·.1)).Nodup:=by
 show Oo.mpr #[λh=>?_,nu z];let#[y,F,e]:=Ol.mp h;have:=(PB.mp F).2;simp at this;show this e
theorem qU{l:List (Int×α)}{k:Int}{x:Int×α}(h:x∈l)(z:x.1≠k):x∈bh l k:=PB.mpr #[h,by simpa using z]
theorem Im{f:α->V}{l:List (Int×α)}{k:Int}{a b:α}(z:(l.map (·.1)).Nodup)(h:look l k=some b)(e:f a=f b):dk f (aW l k a)=dk f l:=by
 unfold dk aW;rw[Pt];show OV λx hx=>?_;change((Ot (if x.1=k then(k,a)else x).1:Key),f (if x.1=k then(k,a)else x).2)=(Ot x.1,f x.2);cases c:x.1=k
 .have:look l k=some x.2:=cD z (by rw[<-c];show hx);rw[h]at this;rw[WY c,c,e,DD this]
 .rw[WX c]
theorem mf(l:List (Int×α))(k j:Int)(a:α):look ((k,a)::bh l k) j=if j=k then some a else look l j:=by
 rw[aK,cA];cases c:j=k
 .rw[WY c.symm,WY c]
 .rw[WX (D0 c),WX c,WX c]
end
theorem TabAt.off{B:WZ}{C:Addr}{H H':Hp}{p fs:Addr}{tb:ll}(T:TabAt C H p fs tb)(o:Off B H H')(J:¬ B p)(z:∀b,gk fs tb b->¬ B b)(I:∀b xs,H b=some (.tup xs)->¬ B b):TabAt C H' p fs tb:=by
 let#[#[dx,h1],h2,O,F,G,R,L]:=T;show#[#[dx,o _ _ h1 J],o _ _ h2 (z _ (.inl rfl)),λx hx=>o _ _ (O x hx) (z _ (.inr #[x,hx,rfl])),λx hx=>(F x hx).keep λb xs e=>o _ _ e (I b xs e),G,R,L]
theorem TabAt.dK{C:Addr}{H:Hp}{p fs:Addr}{tb:ll}(T:TabAt C H p fs tb){b:Addr}(h:gk fs tb b):∃kvs,H b=some (.dK kvs):=by
 rcases h with h|⟨x,hx,h⟩
 .show#[_,by rw[h];show T.hf]
 .show#[_,by rw[h];show T.hd x hx]
end Tb
namespace St
open PySem L2
structure TD where
 p:Addr
 fs:Addr
 tb:Tb.ll
 t:List (Int×Pg.Ent)
abbrev bF:=List (Int×TD)
def fR(x:TD):V:=.ref x.p
def Ar:Pg.Ent->List V
 |none=>[.str "blank"]
 |some k=>[.str "sheet",.int k]
def TD.gk(x:TD):Addr->Prop:=Tb.gk x.fs x.tb
structure dZ(CT:Addr)(H:Hp)(x:TD):Prop where
 at_:Tb.TabAt CT H x.p x.fs x.tb
 nd:(x.t.map (·.1)).Nodup
 lk:∀q,Tb.dW x.tb q=(Tb.look x.t q).map Ar
def vx(t:List (Int×Pg.Ent)):List Pg.Ent:=t.map (·.2)
def ents(W:bF):List Pg.Ent:=W.flatMap λx=>vx x.2.t
theorem jZ{W:bF}{t:Int}{x:TD}(z:(W.map (·.1)).Nodup)(h:Tb.look W t=some x):(ents W).Perm (vx x.t++ents (Tb.bh W t)):=(Tb.nG z h).flatMap_right _
theorem jE{W:bF}{t:Int}{x y:TD}(z:(W.map (·.1)).Nodup)(h:Tb.look W t=some x):(ents (Tb.aW W t y)).Perm (vx y.t++ents (Tb.bh W t)):=by
 have:=jZ (W:=Tb.aW W t y) (t:=t) (x:=y) (by rw[Tb.gP];show z) (by rw[Tb.cp t h,WY rfl])
 rwa [Tb.zv]at this
theorem wy{t:List (Int×Pg.Ent)}{q:Int}{e:Pg.Ent}(z:(t.map (·.1)).Nodup)(h:Tb.look t q=some e):(vx t).Perm (e::vx (Tb.bh t q)):=(Tb.nG z h).map _
def gv(pg:Addr)(t:Int)(rd:Addr):List (Str×V):=bu "rooms" (.ref rd) (bu "total" (.int t) (bu "paging" (.ref pg) []))
section
variable(pg:Addr)(t:Int)(rd:Addr)
theorem cN:(gv pg t rd).lookup ("rooms" : Str)=some (.ref rd):=by
 unfold gv;rw[aF,WY rfl]
theorem Fz:(gv pg t rd).lookup ("total" : Str)=some (.int t):=by
 unfold gv;rw[aF,WX ak,aF,WY rfl]
theorem rY:(gv pg t rd).lookup ("paging" : Str)=some (.ref pg):=by
 unfold gv;rw[aF,WX ak,aF,WX ak,aF,WY rfl]
theorem iD{m:Str}(h1:¬ m = "rooms")(h2:¬ m = "total")(z:¬ m = "paging"):(gv pg t rd).lookup m=none:=by
 unfold gv;rw[aF,WX h1,aF,WX h2,aF,WX z]
 all_goals rfl
end
def bK(s:Pg.PS):Int:=((s.ow true).length+(s.ow false).length:Nat)
theorem yx{s s':Pg.PS}(h:∀b,(s'.ow b).length=(s.ow b).length):bK s'=bK s:=by
 unfold bK;rw[h,h]
structure CA where
 C:Addr
 P:Addr
 S:Addr
 T:Addr
structure RA where
 A:PA
 rp:Addr
 rd:Addr
structure ay(c:CA)(H:Hp)(M:WZ)(a:RA)(s:Pg.PS)(W:bF):Prop where
 ob:∃dx,H a.rp=some (.ins c.C dx (gv a.A.pg (bK s) a.rd))
 pg:bZ c.P c.S H M a.A s
 ok:a.A.Ok M
 mt:∀b,M b->H b≠none
 hd:H a.rd=some (.dK (Tb.dk fR W))
 nd:(W.map (·.1)).Nodup
 tb:∀x∈W,dZ c.T H x.2
 dm:∀x∈W,∀b,x.2.gk b->M b/\¬ a.A.own b/\b≠a.rd
 np:∀x∈W,¬ a.A.own x.2.p
 dj:∀x∈W,∀y∈W,x.1≠y.1->∀b,x.2.gk b->¬ y.2.gk b
 EM:M a.rd
 Bf:¬ a.A.own a.rd
 zb:¬ a.A.own a.rp
def RA.own(a:RA)(W:bF):Addr->Prop:=λb=>a.A.own b\/b=a.rd\/∃x∈W,x.2.gk b
structure Step(H:Hp)(M O:WZ)(H':Hp)(M' O':WZ):Prop where
 off:Off O H H'
 mm:∀b,M b->¬ O b->M' b
 mn:∀b,M' b->M b\/H b=none
 on:∀b,O' b->O b\/H b=none
 mt:∀b,M b->H b≠none
 om:∀b,O b->M b
theorem Step.gone{H H':Hp}{M O M' F:WZ}(a:Step H M O H' M' F){b:Addr}(h:H' b=none):O b\/H b=none:=by
 cases e:H b with
 |none=>show .inr rfl
 |some u =>
  cases z:O b
  .show .inl z
  .rw[a.off b u e z]at h;cases h
theorem Step.trans{H H' J:Hp}{M O M' F I G:WZ}(a:Step H M O H' M' F)(b:Step H' M' F J I G):Step H M O J I G:=by
 show#[λx o e z=>b.off x o (a.off x o e z) λy=>?_,λx h z=>b.mm x (a.mm x h z) λy=>?_,λx h=>?_,λx h=>?_,a.mt,a.om]
 .rcases a.on x y with y|y
  .show z y
  .rw[e]at y;cases y
 .rcases a.on x y with y|y
  .show z y
  .show a.mt x h y
 .rcases b.mn x h with h|h
  .show a.mn x h
  .rcases a.gone h with h|h
   .show .inl (a.om x h)
   .show .inr h
 .rcases b.on x h with h|h
  .show a.on x h
  .show a.gone h
theorem dE.grow{M M':WZ}{H:Hp}(h:∀b,M' b->M b\/H b=none):∀{v:V}{x:Option (List Int)},dE H M v x->dE H M' v x
 |.bB,none,_=>trivial
 |.ref a,some F,⟨h1,h2⟩=>#[λz=>(h a z).elim h1 λe=>(by rwa[h2]at e),h2]
theorem aU.grow{C p ow co:Addr}{M M':WZ}{os:List Int}{pg:List (Option (List Int))}{H:Hp}(S:aU C H M p ow co os pg)(h:∀b,M' b->M b\/H b=none):aU C H M' p ow co os pg:=by
 let#[h1,G,cs,F,I]:=S;show#[h1,G,cs,F,Paired.Cr I λ_ _ z=>z.grow h]
section
variable{A:PA}{M M' B:WZ}{H H':Hp}
theorem bZ.iV{C CS:Addr}{s:Pg.PS}(G:bZ C CS H M A s):∀b xs,H b=some (.tup xs)->¬ A.own b:=by
 intro b xs e y;let#[dx,h1]:=G.ob;let#[_,O,_]:=G.fr.hc;let#[_,L,_]:=G.sl.hc;let#[_,I,_]:=G.pd;let z:=G.fr.hw;let J:=G.sl.hw;let F:=G.il;unfold PA.own at y;simp only[vr,Oh,or_false]at y;rcases y with y|y|y|y|y|y|y<;>rw[y]at e
 .rw[h1]at e;cases e
 .rw[z]at e;cases e
 .rw[O]at e;cases e
 .rw[J]at e;cases e
 .rw[L]at e;cases e
 .rw[I]at e;cases e
 .rw[F]at e;cases e
theorem aU.less{C p ow co:Addr}{M M':WZ}{os:List Int}{pg:List (Option (List Int))}{H:Hp}(S:aU C H M p ow co os pg)(h:∀b,M' b->M b):aU C H M' p ow co os pg:=S.grow λb z=>.inl (h b z)
theorem bZ.move{C CS:Addr}{s:Pg.PS}(G:bZ C CS H M A s)(o:Off B H H')(L:∀b,B b->M b)(J:∀b,M' b->M b\/H b=none)(F:∀b,A.own b->¬ B b)(O:¬ B A.fp)(R:¬ B A.sp)(nt:∀b xs,H b=some (.tup xs)->¬ B b):bZ C CS H' M' A s:=by
 let#[dx,h1]:=G.ob;let#[l,hd,nd,I,S,U]:=G.pd;show#[#[dx,o _ _ h1 (F _ (PA.gy 0 rfl))],((G.fr.grow (M':=λb=>M b\/M' b) λb z=>z.elim .inl (J b)).off o (λb z=>.inl (L b z)) O (F _ (PA.gy 1 rfl)) (F _ (PA.gy 2 rfl))).less λb z=>.inr z,
  ((G.sl.grow (M':=λb=>M b\/M' b) λb z=>z.elim .inl (J b)).off o (λb z=>.inl (L b z)) R (F _ (PA.gy 3 rfl)) (F _ (PA.gy 4 rfl))).less λb z=>.inr z,o _ _ G.il (F _ (PA.gy 6 rfl)),G.le,
  #[l,o _ _ hd (F _ (PA.gy 5 rfl)),nd,λx hx=>o _ _ (I x hx) (nt _ _ (I x hx)),S,U]]
variable{c:CA}{a:RA}{s s':Pg.PS}{W:bF}{t:Int}{x y:TD}
theorem ay.LB{es:List Pg.Ent}(R:ay c H M a s W)(z:Pg.RI s es):JD c.P c.S H M a.A s:=#[R.pg,R.ok,R.mt,z.good,z.ne,z.cb R.pg.le,z.l0]
theorem dZ.off(T:dZ c.T H x)(o:Off B H H')(G:¬ B x.p)(z:∀b,x.gk b->¬ B b)(F:∀b xs,H b=some (.tup xs)->¬ B b):dZ c.T H' x:=#[T.at_.off o G z F,T.nd,T.lk]
theorem ay.mX(R:ay c H M a s W)(G:bZ c.P c.S H' M a.A s')(o:Off a.A.own H H')(F:∀b,(s'.ow b).length=(s.ow b).length):ay c H' M a s' W:=by
 let#[dx,h1]:=R.ob;show#[#[dx,by rw[yx F];show o _ _ h1 R.zb],G,R.ok,G.alive o R.mt,o _ _ R.hd R.Bf,R.nd,λx hx=>(R.tb x hx).off o (R.np x hx) (λb z=>(R.dm x hx b z).2.1) R.pg.iV,R.dm,R.np,R.dj,R.EM,R.Bf,R.zb]
theorem ay.dv(R:ay c H M a s W):∀b,a.own W b->M b:=λb h=>by
 rcases h with h|h|⟨x,hx,h⟩
 .show R.ok.own b h
 .rw[h];show R.EM
 .show(R.dm x hx b h).1
theorem ay.refl(R:ay c H M a s W):Step H M (a.own W) H M (a.own W):=#[λ_ _ e _=>e,λ_ h _=>h,λ_ h=>.inl h,λ_ h=>.inl h,R.mt,R.dv]
theorem ay.iZ(R:ay c H M a s W)(e:aQ H H'):Step H M (a.own W) H' M (a.own W):=#[λb o h _=>e b o h,λ_ h _=>h,λ_ h=>.inl h,λ_ h=>.inl h,R.mt,R.dv]
theorem ay.Ld(R:ay c H M a s W)(G:bZ c.P c.S H' M a.A s')(o:Off a.A.own H H'):Step H M (a.own W) H' M (a.own W):=
 #[o.mono λ_ z=>.inl z,λ_ h _=>h,λ_ h=>.inl h,λ_ h=>.inl h,R.mt,R.dv]
theorem ay.same(R:ay c H M a s W)(e:aQ H H'):ay c H' M a s W:=by
 let#[dx,h1]:=R.ob;show#[#[dx,e _ _ h1],R.pg.keep (λb o h _=>e b o h),R.ok,λb F z=>?_,e _ _ R.hd,R.nd,λx hx=>#[(R.tb x hx).at_.same e,(R.tb x hx).nd,(R.tb x hx).lk],R.dm,R.np,R.dj,R.EM,R.Bf,R.zb];cases h:H b with
 |none=>show R.mt b F h
 |some o=>rwa[e b o h]at z
theorem ay.Hl(R:ay c H M a s W)(o:Off B H H')(F:∀b,B b->M b/\¬ a.own W b)(L:∀b,B b->(∃xs,H b=some (.lst xs))\/∃kvs,H b=some (.dK kvs))(hM:∀b,M' b->M b\/H b=none)(I:∀b,M b->¬ B b->M' b)(mt:∀b,M' b->H' b≠none):ay c H' M' a s W:=by
 let#[dx,h1]:=R.ob;let G:∀{b C dx fs},H b=some (.ins C dx fs)->¬ B b:=λe z=>by
  rcases L _ z with⟨_,h⟩|⟨_,h⟩
  .rw[e]at h;cases h
  .rw[e]at h;cases h
 let S:∀b xs,H b=some (.tup xs)->¬ B b:=λb xs e z=>by
  rcases L _ z with⟨_,h⟩|⟨_,h⟩
  .rw[e]at h;cases h
  .rw[e]at h;cases h
 let#[ac,J]:=R.pg.fr.ob;let#[am,O]:=R.pg.sl.ob;show#[#[dx,o _ _ h1 (G h1)],R.pg.move o (λb z=>(F b z).1) hM (λb z y=>(F b y).2 (.inl z)) (G J) (G O) S,#[R.ok.ds,λb z=>I b (R.ok.mm b z) λq=>?_],mt,o _ _ R.hd (λz=>(F _ z).2 (.inr (.inl rfl))),R.nd,λx hx=>?_,λx hx b z=>#[I b (R.dm x hx b z).1 λq=>(F b q).2 (.inr (.inr #[x,hx,z])),(R.dm x hx b z).2],R.np,R.dj,I _ R.EM (λz=>(F _ z).2 (.inr (.inl rfl))),R.Bf,R.zb]
 .simp only[vr,Oh,or_false]at z;rcases z with z|z|z|z|z|z|z|z|z<;>rw[z]at q
  .show(F _ q).2 (.inl (PA.gy 0 rfl))
  .show G J q
  .show(F _ q).2 (.inl (PA.gy 1 rfl))
  .show(F _ q).2 (.inl (PA.gy 2 rfl))
  .show G O q
  .show(F _ q).2 (.inl (PA.gy 3 rfl))
  .show(F _ q).2 (.inl (PA.gy 4 rfl))
  .show(F _ q).2 (.inl (PA.gy 5 rfl))
  .show(F _ q).2 (.inl (PA.gy 6 rfl))
 .let#[ab,U]:=(R.tb x hx).at_.ob;show(R.tb x hx).off o (G U) (λb z y=>(F b y).2 (.inr (.inr #[x,hx,z]))) S
theorem ay.ye(R:ay c H M a s W)(hx:Tb.look W t=some x)(ep:y.p=x.p)(T:dZ c.T H' y)(o:Off x.gk H H')(hn:∀b,y.gk b->x.gk b\/H b=none):ay c H' (λb=>(M b/\¬ x.gk b)\/y.gk b) a s (Tb.aW W t y):=by
 let J:=Tb.aI hx;let X:=R.tb _ J;let dK:∀{b},x.gk b->∃kvs,H b=some (.dK kvs):=λz=>X.at_.dK z;let I:=R.dm _ J;let L:∀{b C dx fs},H b=some (.ins C dx fs)->¬ x.gk b:=λe z=>by
  let#[_,h]:=dK z;rwa[e]at h
 let nt:∀b xs,H b=some (.tup xs)->¬ x.gk b:=λb xs e z=>by
  let#[_,h]:=dK z;rwa[e]at h
 let#[dx,h1]:=R.ob;let#[aT,f1]:=R.pg.fr.ob;let#[as,f2]:=R.pg.sl.ob;let hM:∀b,(M b/\¬ x.gk b)\/y.gk b->M b\/H b=none:=λb z=>z.elim (λz=>.inl z.1) λz=>(hn b z).elim (λz=>.inl (I b z).1) .inr;show#[#[dx,o _ _ h1 (L h1)],R.pg.move o (λb z=>(I b z).1) hM (λb z y=>(I b y).2.1 z) (L f1) (L f2) nt,#[R.ok.ds,λb z=>.inl #[R.ok.mm b z,λq=>?_]],λb z e=>?_,?_,by rw[Tb.gP];show R.nd,λG F=>?_,λG F b z=>?_,λG F=>?_,λx1 ab x2 U ac b O S=>?_,.inl #[R.EM,λq=>(I _ q).2.2 rfl],R.Bf,R.zb]
 .simp only[vr,Oh,or_false]at z;rcases z with z|z|z|z|z|z|z|z|z<;>rw[z]at q
  .show(I _ q).2.1 (PA.gy 0 rfl)
  .show L f1 q
  .show(I _ q).2.1 (PA.gy 1 rfl)
  .show(I _ q).2.1 (PA.gy 2 rfl)
  .show L f2 q
  .show(I _ q).2.1 (PA.gy 3 rfl)
  .show(I _ q).2.1 (PA.gy 4 rfl)
  .show(I _ q).2.1 (PA.gy 5 rfl)
  .show(I _ q).2.1 (PA.gy 6 rfl)
 .rcases z with z|z
  .cases e2:H b with
   |none=>show R.mt b z.1 e2
   |some u=>rwa[o b u e2 z.2]at e
  .let#[_,h]:=T.at_.dK z;rwa[e]at h
 .rw[Tb.Im R.nd hx (show V.ref y.p=V.ref x.p by rw[ep])];show o _ _ R.hd λz=>(I _ z).2.2 rfl
 .rcases Tb.mem_set F with rfl|⟨F,ne⟩
  .show T
  .let#[aB,h3]:=(R.tb G F).at_.ob;show(R.tb G F).off o (L h3) (λb z z'=>R.dj G F _ J ne b z z') nt
 .rcases Tb.mem_set F with rfl|⟨F,ne⟩
  .show#[.inr z,?_];rcases hn b z with z|z
   .show(I b z).2
   .show#[λq=>R.mt b (R.ok.own b q) z,λq=>by rwa[q,R.hd]at z]
  .show#[.inl #[(R.dm G F b z).1,λq=>R.dj G F _ J ne b z q],(R.dm G F b z).2]
 .rcases Tb.mem_set F with rfl|⟨F,ne⟩
  .change ¬ a.A.own y.p;rw[ep];show R.np _ J
  .show R.np G F
 .let am:∀G∈W,G.1≠t->∀b,G.2.gk b->¬ y.gk b:=λG F ne b O S=>by
   rcases hn b S with z|z
   .show R.dj G F _ J ne b O z
   .let#[_,h]:=(R.tb G F).at_.dK O;rwa[z]at h
  rcases Tb.mem_set ab with rfl|⟨ab,ao⟩<;>rcases Tb.mem_set U with rfl|⟨U,ap⟩
  .show ac rfl
  .show am x2 U ap b S O
  .show am x1 ab ao b O S
  .show R.dj x1 ab x2 U ac b O S
theorem ay.tH(R:ay c H M a s W)(hx:Tb.look W t=some x)(o:Off x.gk H H')(I:∀b,y.gk b->x.gk b\/H b=none):Step H M (a.own W) H' (λb=>(M b/\¬ x.gk b)\/y.gk b) (a.own (Tb.aW W t y)):=by
 let F:=Tb.aI hx;show#[o.mono λb z=>.inr (.inr #[_,F,z]),λb z q=>.inl #[z,λw=>q (.inr (.inr #[_,F,w]))],λb z=>z.elim (λz=>.inl z.1) λz=>(I b z).elim (λz=>.inl (R.dm _ F b z).1) .inr,λb z=>?_,R.mt,R.dv];rcases z with z|z|⟨J,G,z⟩
 .show .inl (.inl z)
 .show .inl (.inr (.inl z))
 .rcases Tb.mem_set G with rfl|⟨G,ne⟩
  .show(I b z).elim (λz=>.inl (.inr (.inr #[_,F,z]))) .inr
  .show .inl (.inr (.inr #[J,G,z]))
theorem ay.J3(R:ay c H M a s W){W':bF}(U:(W'.map (·.1)).Nodup)(tb:∀x∈W',dZ c.T H x.2)(G:∀x∈W',∀b,x.2.gk b->M b/\¬ a.A.own b/\b≠a.rd)(np:∀x∈W',¬ a.A.own x.2.p)(O:∀x∈W',∀y∈W',x.1≠y.1->∀b,x.2.gk b->¬ y.2.gk b) :
  ay c (upd H a.rd (.dK (Tb.dk fR W'))) M a s W':=by
 let o:Off (· = a.rd) H (upd H a.rd (.dK (Tb.dk fR W'))):=λb o e z=>(by rw[ai z];show e);let F:∀{b C dx fs},H b=some (.ins C dx fs)->¬ b=a.rd:=λe z=>(by rwa[z,R.hd]at e);let I:∀b xs,H b=some (.tup xs)->¬ b=a.rd:=λb xs e z=>(by rwa[z,R.hd]at e);let al:∀b,upd H a.rd (.dK (Tb.dk fR W')) b=none->H b=none:=λb e=>by
  cases z:b=a.rd
  .rw[z,ae]at e;cases e
  .rw[ai z]at e;show e
 let#[dx,h1]:=R.ob;let#[ac,J]:=R.pg.fr.ob;let#[am,S]:=R.pg.sl.ob;show#[#[dx,o _ _ h1 (F h1)],R.pg.move o (λb z=>by rw[z];show R.EM) (λb z=>.inl z) (λb z y=>R.Bf (y▸z)) (F J) (F S) I,R.ok,λb L e=>R.mt b L (al b e),ae,U,λx hx=>?_,G,np,O,R.EM,R.Bf,R.zb];let#[ab,h3]:=(tb x hx).at_.ob;show(tb x hx).off o (F h3) (λb z y=>(G x hx b z).2.2 y) I
theorem ay.Dl(R:ay c H M a s W)(O:Tb.look W t=none)(T:dZ c.T H y)(F:∀b,y.gk b->M b/\¬ a.own W b)(np:¬ a.A.own y.p):ay c (upd H a.rd (.dK (Tb.dk fR (W++[(t,y)])))) M a s (W++[(t,y)]):=by
 show R.J3 ?_ (λx hx=>?_) (λx hx=>?_) (λx hx=>?_) (λL h1 J h2 ne b I G=>?_)
 .rw[Ou];show lC R.nd (Tb.bW O)
 .rcases By.mp hx with hx|hx
  .show R.tb x hx
  .rw[t6.mp hx];show T
 .rcases By.mp hx with hx|hx
  .show R.dm x hx
  .rw[t6.mp hx];show λb z=>#[(F b z).1,λq=>(F b z).2 (.inl q),λq=>(F b z).2 (.inr (.inl q))]
 .rcases By.mp hx with hx|hx
  .show R.np x hx
  .rw[t6.mp hx];show np
 .rcases By.mp h1 with h1|h1<;>rcases By.mp h2 with h2|h2
  .show R.dj L h1 J h2 ne b I G
  .rw[t6.mp h2]at G;show(F b G).2 (.inr (.inr #[L,h1,I]))
  .rw[t6.mp h1]at I;show(F b I).2 (.inr (.inr #[J,h2,G]))
  .show ne (by rw[t6.mp h1,t6.mp h2])
theorem ay.IW(R:ay c H M a s W)(t:Int):ay c (upd H a.rd (.dK (Tb.dk fR (Tb.bh W t)))) M a s (Tb.bh W t):=
 R.J3 (Tb.nu R.nd) (λx hx=>R.tb x (Tb.dz hx).1) (λx hx=>R.dm x (Tb.dz hx).1) (λx hx=>R.np x (Tb.dz hx).1) (λx hx y z=>R.dj x (Tb.dz hx).1 y (Tb.dz z).1)
end
end St
namespace L2
open PySem PySem.Spec PyProof.Rows
def M9(K:Om):R2:=λx y H Q=>∃p q xs ys,x=.ref p/\y=.ref q/\bM K H p xs/\bM K H q ys/\xs.all gg=true/\ys.all gg=true/\Q (.bl (!kI xs ys)) H
section
variable{X:Cx}
theorem xi(hu:X.A.units<Rr):mF X (Px .NotEq) (M9 X.K):=by
 intros x y v u Q I rx ry h;let#[p,q,xs,ys,rfl,rfl,hx,hy,fx,fy,U]:=h;cases rx;cases ry;let#[its,r,pl,hz]:=I.tuple hx;let#[J,G,ac,ao]:=I.tuple hy;let hl:=r.length;let ab:=G.length;show Wi (e:=λj=>pA (xs.getD j .bB) (ys.getD j .bB)) pl ac hu (λj h1 h2=>?_) _ _ _ _ #[.bl (!kI xs ys),H,I,?_,U]
 .rw[BY]at h1 h2;let z:j<xs.length:=af;let F:j<ys.length:=af;let#[a,ea,R]:=r.get (i:=j) (x:=xs[j]) (by simp[z]);let#[b,O,rb]:=G.get (i:=j) (x:=ys[j]) (by simp[F]);let#[_,L]:=sN.mp ea;let#[_,am]:=sN.mp O;let S:xs.getD j .bB=xs[j]:=(by simp[z]);let g2:ys.getD j .bB=ys[j]:=(by simp[F]);change TM _ _ its.toArray[j] J.toArray[j] (pA (xs.getD j .bB) (ys.getD j .bB));let a1:its.toArray[j]=a:=‹L›;let a2:J.toArray[j]=b:=‹am›;rw[S,g2,a1,a2];show uL R rb (PL.mp fx _ (Qt z)) (PL.mp fy _ (Qt F))
 .change Value.bool _=Value.bool _;rw[BY,BY, <-hl, <-ab,sL]
end
end L2
namespace St
open PySem L2
abbrev oN:OB:=top 17
abbrev pz:OB:=top 18
abbrev uI:OB:=top 19
abbrev pG:OB:=inClass (top 33) 1
abbrev pb:OB:=inClass (top 33) 2
abbrev yR:OB:=inClass (top 33) 3
abbrev tQ:OB:=inClass (top 33) 4
abbrev tI:OB:=inClass (top 33) 5
abbrev tY:OB:=inClass (top 33) 6
abbrev sR:OB:=inClass (top 33) 7
abbrev yJ:OB:=inClass (top 33) 8
abbrev tR:OB:=inClass (top 33) 11
abbrev tU:OB:=inClass (top 33) 12
abbrev ui:OB:=inClass (top 33) 13
structure rj(K:Om)(mg:W9)(c:CA):Prop where
 cl:oE K c.C
 nP:cZ K c.C "paging"
 nT:cZ K c.C "total"
 nR:cZ K c.C "rooms"
 bl:∃aB,mg "BLANK" = some (.ref aB)/\bM K (λ_=>none) aB [.str "blank"]
 pc:∃u,mg "PAGE_CELLS" = some u/\RelV (.int 8) u
 len:mg "len" = none
 sum:mg "sum" = none
 zip:mg "zip" = none
def Cv(s:Pg.PS)(W:bF)(cv:W6):Prop:=∀t x,Tb.look W t=some x->∀q e,Tb.look x.t q=some e->Pg.Bg s e (cv t q)
theorem pM{W:bF}{t q:Int}{x:TD}{e:Pg.Ent}(hx:Tb.look W t=some x)(z:Tb.look x.t q=some e):e∈ents W :=
 RP.mpr #[(t,x),Tb.aI hx,Ol.mpr #[(q,e),Tb.aI z,rfl]]
theorem Cv.next{s s':Pg.PS}{W W':bF}{cv:W6}(h:Cv s W cv)(hs:Pg.aQ (ents W') s s')(G:∀t z,Tb.look W' t=some z->∃x,Tb.look W t=some x/\∀q e,Tb.look z.t q=some e->Tb.look x.t q=some e):Cv s' W' cv:=by
 intro t z hx q e F;let#[x,h1,h2]:=G t z hx;show hs e (pM hx F) _ (h t x h1 q e (h2 q e F))
theorem Cv.keep{s s':Pg.PS}{W:bF}{cv:W6}(h:Cv s W cv)(hs:Pg.aQ (ents W) s s'):Cv s' W cv:=h.next hs λt x hx=>#[x,hx,λ_ _ e=>e]
theorem jP{W:bF}{t:Int}{x y:TD}(h:Tb.look W t=some x):Tb.look (Tb.aW W t y) t=some y:=by rw[Tb.cp t h,WY rfl]
theorem set_set{W:bF}{t:Int}{x y:TD}:Tb.aW (Tb.aW W t x) t y=Tb.aW W t y:=by
 unfold Tb.aW;rw[Pt];show OV λz _=>?_;change(if (if z.1=t then(t,x)else z).1=t then(t,y)else(if z.1=t then(t,x)else z))=if z.1=t then(t,y)else z
 cases c:z.1=t
 .rw[WY c,WY rfl,WY c]
 .simp only[WX c]
theorem cY{W:bF}{t:Int}{x:TD}(F:(W.map (·.1)).Nodup)(h:Tb.look W t=some x):Tb.aW W t x=W:=by
 unfold Tb.aW
 conv=>rhs;rw[<-WO W]
 show OV λz G=>?_;change(if z.1=t then(t,x)else z)=z;cases c:z.1=t
 .have:=Tb.cD F G;rw[c,h]at this;rw[WY c,DD this, <-c]
 .rw[WX c]
theorem z6{W:bF}{t q:Int}{x y:TD}{e:Pg.Ent}(z:(W.map (·.1)).Nodup)(hx:Tb.look W t=some x)(nx:(x.t.map (·.1)).Nodup)(F:Tb.look x.t q=some e)(G:y.t=Tb.bh x.t q):(ents W).Perm (e::ents (Tb.aW W t y)):=by
 show(jZ z hx).trans (((wy nx F).append_right _).trans ?_);rw[<-G];show((jE z hx).symm).cons e
theorem Bo{W:bF}{t q:Int}{x y:TD}{e:Pg.Ent}(F:(W.map (·.1)).Nodup)(hx:Tb.look W t=some x)(z:y.t=(q,e)::Tb.bh x.t q):(ents (Tb.aW W t y)).Perm (e::(vx (Tb.bh x.t q)++ents (Tb.bh W t))):=by
 show(jE F hx).trans ?_;rw[z];show List.Perm.refl _
theorem dZ.mem{c:CA}{H:Hp}{x:TD}(T:dZ c.T H x){z:List Int}(p:z.Perm (Tb.gS x.tb))(q:Int):q∈z↔Tb.look x.t q≠none:=by
 rw[p.mem_iff,Tb.vU T.at_,T.lk];cases Tb.look x.t q<;>simp
theorem dZ.pg{c:CA}{H:Hp}{x:TD}(T:dZ c.T H x){q:Int}(h:Tb.look x.t q≠none):0<=q/\q<64:=T.at_.vP (by
 rw[T.lk];cases e:Tb.look x.t q with
 |none=>show absurd e h
 |some _=>simp)
inductive bP(v:List V)(H:Hp)(Q:VK)(e:XK):Prop
 |mk(a:Addr)(W:bF)(t:Int)(x:TD)(_:v=[.ref a,.int t])(_:H a=some (.dK (Tb.dk fR W)))(_:Tb.look W t=some x)(_:Q (.ref x.p) H)
inductive eE(v:List V)(H:Hp)(Q:VK)(e:XK):Prop
 |mk(a:Addr)(W:bF)(t:Int)(_:v=[.ref a,.int t])(_:H a=some (.dK (Tb.dk fR W)))(_:Tb.look W t=none)(_:Q .bB H)
inductive f9(v:List V)(H:Hp)(Q:VK)(e:XK):Prop
 |mk(h t:Int)(_:v=[.int h,.int t])(_:¬ t<h)(_:Q .bB H)
inductive fC(c:CA)(v:List V)(H:Hp)(Q:VK)(e:XK):Prop
 |mk(M:WZ)(a:RA)(s:Pg.PS)(W:bF)(cv:W6)(t:Int)(x:TD)(lp:Addr)(ps:List Int)(_:v=[.ref a.rp,.ref x.p,.ref lp])(_:ay c H M a s W)(_:Pg.RI s (ents W))(_:Cv s W cv)(_:Tb.look W t=some x)(_:H lp=some (.lst (ps.map V.int)))(_:¬ M lp)(_:ps.Nodup)(_:(∀q∈ps,Tb.look x.t q≠none))(_:∀(H':Hp)(M':WZ)(s':Pg.PS)(y:TD),ay c H' M' a s' (Tb.aW W t y)->Pg.RI s' (ents (Tb.aW W t y))->Cv s' (Tb.aW W t y) cv->(∀q,Tb.look y.t q=if q∈ps then none else Tb.look x.t q)->Step H M (a.own W) H' M' (a.own (Tb.aW W t y))->(∀b,(s'.ow b).length=(s.ow b).length)->Q .bB H')
inductive kX(c:CA)(v:List V)(H:Hp)(Q:VK)(e:XK):Prop
 |mk(M:WZ)(a:RA)(s:Pg.PS)(W:bF)(cv:W6)(t p m:Int)(x:TD)(_:v=[.ref a.rp,.int t,.int p,.int m])(_:ay c H M a s W)(_:Pg.RI s (ents W))(_:Cv s W cv)(_:Tb.look W t=some x)(_:¬ Rm.aX p m)(_:(∀q∈Rm.aE p m,Tb.look x.t q≠none))(_:∀(H':Hp)(M':WZ)(s':Pg.PS)(y:TD),ay c H' M' a s' (Tb.aW W t y)->Pg.RI s' (ents (Tb.aW W t y))->Cv s' (Tb.aW W t y) cv->(∀q,Tb.look y.t q=if q∈Rm.aE p m then none else Tb.look x.t q)->Step H M (a.own W) H' M' (a.own (Tb.aW W t y))->(∀b,(s'.ow b).length=(s.ow b).length)->Q .bB H')
inductive p8(c:CA)(v:List V)(H:Hp)(Q:VK)(e:XK):Prop
 |mk(M:WZ)(a:RA)(s:Pg.PS)(W:bF)(cv:W6)(t:Int)(x:TD)(_:v=[.ref a.rp,.int t])(_:ay c H M a s W)(_:Pg.RI s (ents W))(_:Cv s W cv)(_:Tb.look W t=some x)(_:∀(H':Hp)(M':WZ)(s':Pg.PS),ay c H' M' a s' (Tb.bh W t)->Pg.RI s' (ents (Tb.bh W t))->Cv s' (Tb.bh W t) cv->Step H M (a.own W) H' M' (a.own (Tb.bh W t))->(∀b,(s'.ow b).length=(s.ow b).length)->Q .bB H')
inductive lP(c:CA)(v:List V)(H:Hp)(Q:VK)(e:XK):Prop
 |mk(M:WZ)(a:RA)(s:Pg.PS)(W:bF)(t:Int)(_:v=[.ref a.rp,.int t])(_:ay c H M a s W)(_:Tb.look W t=none)(_:W.length<=1000)(_:∀(H':Hp)(M':WZ)(y:TD),y.t=[]->ay c H' M' a s (W++[(t,y)])->Step H M (a.own W) H' M' (a.own (W++[(t,y)]))->Q .bB H')
theorem mZ{α:Type}{f:α->V}{H:Hp}{a:Addr}{l:List (Int×α)}{t:Int}(h:H a=some (.dK (Tb.dk f l))):fb H a (.int t) ((Tb.look l t).map f):=by
 let q:=fb.k (k:=Ot t) h;rw[Tb.cW]at q;show q
theorem KL:aD ["rooms","task"] ["rooms","task"] (au oN):=L2.bL
theorem jX(F:cq K "room_of" "room_of" oN f fd):↥aG 1 f fd ["rooms","task"] bP:=by
 show F.eL KL (λJ A outer s H vs Q E G h=>?_);let#[a,W,t,x,rfl,I,hx,k]:=h;show#[_,(aj (bJ (nN (jQ (de G) (pv 1) (pv 0))) dJ aR)
  (ar (aO (hJ (de G) (pv 0) (pv 1) cB)))),?_]
 let z:=mZ (t:=t) I;rw[hx]at z;show#[0,0,a,0,z,0,bw #[0,0,a,fR x,rfl,z,k]]
theorem KU:aD ["rooms","task"] ["rooms","task"] (au pz):=L2.bL
theorem kg(F:cq K "refuse_second_room" "refuse_second_room" pz f fd):↥aG 1 f fd ["rooms","task"] eE:=by
 show F.eL KU (λJ A outer s H vs Q E G h=>?_);let#[a,W,t,rfl,I,hx,k]:=h;show#[_,(ar (bJ (nN (Ex (de G) (pv 1) (pv 0))) dJ aR)),?_];let z:=mZ (t:=t) I;rw[hx]at z;show#[0,0,a,0,z,0,bw k]
theorem Ko:aD ["held","total"] ["held","total"] (au uI):=L2.bL
theorem mE(F:cq K "refuse_above" "refuse_above" uI f fd):↥aG 1 f fd ["held","total"] f9:=by
 show F.eL Ko (λG A outer s H vs Q E I h=>?_);let#[h,t,rfl,z,k]:=h;show#[_,(ar (bJ (aJ oy (pv 0) (pv 1) (aP _)) dJ aR)),?_];show#[0,0,_,0,rfl,0,?_];show fN (λc=>absurd (of_decide_eq_true c) z) (λc=>k)
theorem ID:aD ["self","table","pages","page","entry"] ["self","table","pages"] (au tR):=L2.bL
theorem rq{c:CA}(F:cq K "leave_pages" "Rooms.leave_pages" tR f fd)(T:rj K mg c)(TT:Tb.Txt K mg c.T)(TP:uw K mg c.P)(GG:↥Md 3 c.T "get" (Tb.sA c.T))(GK:↥Md 1 c.T "clear" (Tb.uD c.T))(ba:↥Md 4 c.P "leave" (oM c.P c.S)):↥aG 5 f fd ["self","table","pages"] (fC c):=by
 let#[aB,mB,sB]:=T.bl;let rB:RelV (.ref aB) (.ref aB):=rfl;show F.eL ID (λb3 A outer s H vs Q E hr h=>?_);let#[M,a,s',W,cv,t,x,lp,ps,rfl,R,ri,bz,hx,a6,bH,bm,bv,q]:=h;show#[_,(ar (dh Ow rfl (dQ (pv 2)) (nD 3 ID.nd) (aj (cV 4 ID.nd (pm (pv 1) TT.cl GG hr az (aa (pv 3) ag)))
  (aj (aV (pm (pv 1) TT.cl GK hr az (aa (pv 3) ag)))
  (ar (bJ (aJ (xi hr.mG) (pv 4) (bO (by rfl) mB rB) (aP _)) (ar (aV (pm (aH (pv 0) rfl) TP.cl ba hr az (aa (aL aN (pv 4) ah cB) ag)))) aR)))))),?_]
 let bx:¬ a.own W lp:=λz=>bH (R.dv lp z);show#[0,lp,rfl,#[_,bA.of a6],?_];show dg (K:=K) (a:=lp) (xs:=ps.map V.int) (λi σ H2=>FT λ(v3 v4:Option V)(M2:WZ)(s2:Pg.PS)(y:TD)=>Ng (σ=#v[.ref a.rp,.ref y.p,.ref lp,v3,v4]) (ay c H2 M2 a s2 (Tb.aW W t y)) (Pg.RI s2 (ents (Tb.aW W t y))) (Cv s2 (Tb.aW W t y) cv) ((∀q,Tb.look y.t q=if q∈ps.take i then none else Tb.look x.t q)) (Step H M (a.own W) H2 M2 (a.own (Tb.aW W t y))) (∀b,(s2.ow b).length=(s'.ow b).length))
  #[2,M,s',x,rfl,by rw[cY R.nd hx];show R,by rw[cY R.nd hx];show ri,by rw[cY R.nd hx];show bz,λq=>by simp,by rw[cY R.nd hx];show R.refl,λ_=>rfl] (λi σ H2 _ z0=>by let#[_,_,_,_,_,_,_,_,_,_,st,_]:=z0;show bA.of (st.off _ _ a6 bx)) ?_ ?_
 .rintro i u σ H2 hu ⟨v3,v4,M2,s2,y,rfl,R2,as,ao,ac,aT,ap⟩;rw[Od]at hu;let#[p,hp,rfl]:=wh.mp hu;let bc:=NC hp;let#[hi,b4]:=sN.mp hp;let bY:¬ p∈ps.take i:=λz=>by
   let#[j,hj,e]:=RB z;rw[Q3]at e;rw[Oz]at hj;show wI bm j i (ON af) hp af e
  let am:=jP (y:=y) hx;obtain⟨e,he⟩:∃e,Tb.look y.t p=some e:=by
   rw[ac p,WX bY];cases z:Tb.look x.t p with
   |none=>show absurd z (bv p bc)
   |some e=>show#[e,rfl]
  let T2:=R2.tb _ (Tb.aI am);let#[bn,ht]:=T2.at_.ob;show#[0,y.p,bn,0,ht,Tb.aS _ ak,0,y.p,y.fs,y.tb,p,rfl,T2.at_,λH3 v s3 J=>?_];rw[T2.lk,he]at J;let#[tt,rfl,a0]:=J;let R3:=R2.same s3;let T3:=R3.tb _ (Tb.aI am);let#[bV,be]:=T3.at_.ob;show#[0,y.p,bV,0,be,Tb.aS _ ak,0,y.p,y.fs,y.tb,p,rfl,T3.at_,λH4 I T4 l4 _ o4 n4=>?_];let bi:dZ c.T H4 #[y.p,y.fs,I,Tb.bh y.t p]:=#[T4,Tb.nu T3.nd,λj=>by
   rw[l4 j,Tb.cA];cases z:j=p
   .rw[WY z,WY z];rfl
   .rw[WX z,WX z];show T3.lk j]
  let G:=R3.ye (y:=#[y.p,y.fs,I,Tb.bh y.t p]) am rfl bi o4 n4;let S4:=aT.trans ((R2.iZ s3).trans (R3.tH (y:=#[y.p,y.fs,I,Tb.bh y.t p]) am o4 n4));let pe:=z6 (y:=#[y.p,y.fs,I,Tb.bh y.t p]) R2.nd am T2.nd he rfl;rw[set_set]at G S4 pe;let ab:=as.perm pe;let a3:∀j,Tb.look (Tb.bh y.t p) j=if j∈ps.take (i+1)then none else Tb.look x.t j:=λj=>by
   rw[Tb.cA,ac j,OY,hp];cases z:j=p
   .rw[WY z,WY (by rw[z];simp)]
   .rw[WX z];cases O:j∈ps.take i
    .rw[WY O,WY (Pc _ O)]
    .rw[WX O,WX (by simp[z,O])]
  let a5:∀t' x',Tb.look (Tb.aW W t #[y.p,y.fs,I,Tb.bh y.t p]) t'=some x'->∃a7,Tb.look (Tb.aW W t y) t'=some a7/\∀q e,Tb.look x'.t q=some e->Tb.look a7.t q=some e:=by
   intro t' x' h';rw[Tb.cp t' hx]at h' ⊢;cases z:t'=t
   .rw[WY z]at h' ⊢;cases h';show#[y,rfl,λq e U=>?_];let U:Tb.look (Tb.bh y.t p) q=some e:=U;rw[Tb.cA]at U;cases O:q=p
    .rw[WY O]at U;cases U
    .rw[WX O]at U;show U
   .rw[WX z]at h' ⊢;show#[x',h',λ_ _ h=>h]
  let bf:¬ y.gk tt:=λz=>by
   let#[_,h]:=T3.at_.dK z;rwa[a0]at h
  let a4:=o4 _ _ a0 bf;show#[0,tt,aB,_,0,rfl,bM.of a4,kG.sq (.inr sB),?_];cases e with
  |none =>
   show#[1,0,bw ?_];show#[2,_,s2,#[y.p,y.fs,I,Tb.bh y.t p],rfl,G,ab.bare,ao.next Pg.aQ.refl a5,a3,S4,ap]
  |some k =>
   show#[1,0,eO ?_];let#[bI,bd]:=G.ob;let#[a8,b0]:=G.pg.ob;let#[cs,cc,J]:=ab.is k OF;show#[0,a.rp,c.C,bI,_,0,bd,T.cl,T.nP,rY _ _ _,a.A.pg,a8,0,b0,dq _ _ ak ak ak ak ak,0,tt,_,(1),0,rfl,bM.of a4,5,a.A,s2,k,cs,cc,rfl,G.pg,G.ok,G.mt,ab.good,J,λH5 s5 le G5 O5=>?_];let L:=Pg.zm ab.good J le;show#[2,_,s5,#[y.p,y.fs,I,Tb.bh y.t p],rfl,G.mX G5 O5 L.ln,ab.leave J le,ao.next (ab.yH J le) a5,a3,S4.trans (G.Ld G5 O5),λb=>(L.ln b).trans (ap b)]
 .rintro σ H2 ⟨v3,v4,M2,s2,y,rfl,R2,as,ao,ac,aT,ap⟩;rw[ti,Ph]at ac;show q H2 M2 s2 y R2 as ao ac aT ap
theorem rE:aD ["self","task","page","many","table"] ["self","task","page","many"] (au tQ):=L2.bL
theorem uu{c:CA}(F:cq K "drop" "Rooms.drop" tQ f fd)(T:rj K mg c)(TT:Tb.Txt K mg c.T)(GR:↥Df 1 "room_of" bP)(GD:↥Df 2 "pages_to_drop" Rm.gi)(ao:↥Md 1 c.T "pages" (Tb.d9 c.T))(ab:↥Md 5 c.C "leave_pages" (fC c)):↥aG 6 f fd ["self","task","page","many"] (kX c):=by
 show F.eL rE (λa7 A outer s H vs Q E I h=>?_);let#[M,a,s',W,cv,t,p,m,x,rfl,R,ri,aB,hx,G,L,q]:=h;let#[dx,U]:=R.ob;let J:=R.tb _ (Tb.aI hx);let#[a5,ht]:=J.at_.ob;let b1:¬ m<1:=λz=>G (.inl z);let b2:¬ p<0:=λz=>G (.inr (.inl z));let b3:¬ 64<p+m:=λz=>G (.inr (.inr z));show#[_,(aj (cV 4 rE.nd (pc GR I az (aa (aH (pv 0) rfl) (aa (pv 1) ag))))
  (ar (aV (pm (pv 0) T.cl ab I az (aa (pv 4) (aa (pc GD I az (aa (qB (pv 4) TT.cl ao I az) (aa (pv 2) (aa (pv 3) ag)))) ag)))))),?_]
 show#[0,a.rp,c.C,dx,_,0,U,T.cl,T.nR,cN _ _ _,0,a.rd,W,t,x,rfl,R.hd,hx,?_];show#[0,a.rp,dx,0,U,iD _ _ _ ak ak ak,0,0,x.p,a5,0,ht,Tb.aS _ ak,x.p,x.fs,x.tb,rfl,J.at_,λH1 l1 ns O a8 as pm ba=>?_];show#[0,0,l1,ns,p,m,rfl,as,G,λq hq=>(J.mem pm q).mpr (L q hq),λH2 l2 s2 ac a0=>?_]
 .let S:=O.trans s2;show#[M,a,s',W,cv,t,x,l2,Rm.aE p m,rfl,R.same S,ri,aB,hx,a0,λz=>R.mt _ z (O.free ac),?_,L,λH3 M3 s3 y R3 a4 ap a6 a3 am=>q H3 M3 s3 y R3 a4 ap a6 ((R.iZ S).trans a3) am];unfold Rm.aE;show QR.mpr (Tw.imp ?_);intro i j aT e;show aT af
theorem z9:aD ["self","task","table"] ["self","task"] (au pb):=L2.bL
theorem z7{c:CA}(F:cq K "close" "Rooms.close" pb f fd)(T:rj K mg c)(TT:Tb.Txt K mg c.T)(GR:↥Df 1 "room_of" bP)(am:↥Md 1 c.T "pages" (Tb.d9 c.T))(ab:↥Md 5 c.C "leave_pages" (fC c)):↥aG 6 f fd ["self","task"] (p8 c):=by
 show F.eL z9 (λa8 A outer s H vs Q E U h=>?_);let#[M,a,s',W,cv,t,x,rfl,R,ri,as,hx,q]:=h;let#[dx,ho]:=R.ob;let I:=R.tb _ (Tb.aI hx);let#[a4,ht]:=I.at_.ob;show#[_,(aj (cV 2 z9.nd (pc GR U az (aa (aH (pv 0) rfl) (aa (pv 1) ag))))
  (aj (aV (pm (pv 0) T.cl ab U az (aa (pv 2) (aa (qB (pv 2) TT.cl am U az) ag))))
  (ar (aV (iw (aH (pv 0) rfl) (pv 1) #[1,1]))))),?_]
 show#[0,a.rp,c.C,dx,_,0,ho,T.cl,T.nR,cN _ _ _,0,a.rd,W,t,x,rfl,R.hd,hx,?_];show#[0,a.rp,dx,0,ho,iD _ _ _ ak ak ak,0,0,x.p,a4,0,ht,Tb.aS _ ak,x.p,x.fs,x.tb,rfl,I.at_,λH1 l1 ns s1 a3 ap pm ba=>?_];show#[M,a,s',W,cv,t,x,l1,ns,rfl,R.same s1,ri,as,hx,ap,λz=>R.mt _ z a3,pm.nodup_iff.mpr (Tb.mD I.at_),λq hq=>(I.mem pm q).mp hq,λH3 M3 s3 y G a0 ao a5 aT ac=>?_];let a7:=jP (y:=y) hx;let ey:y.t=[]:=by
  cases e:y.t with
  |nil=>rfl
  |cons z r =>
   exfalso;let h1:=a5 z.1;rw[e,Tb.aK,WY rfl]at h1;cases S:z.1∈ns
   .rw[WY S]at h1;cases h1
   .rw[WX S]at h1;show S ((I.mem pm z.1).mpr (by rw[<-h1];simp))
 let#[aB,a6]:=G.ob;show#[0,a.rp,c.C,aB,_,0,a6,T.cl,T.nR,cN _ _ _,a.rd,rfl,.inl #[_,.inl G.hd],0,_,Ot t,fR y,G.hd,rfl,by rw[Tb.cW,a7];rfl,?_];let R4:=G.IW t;rw[Tb.ir];rw[Tb.zv]at R4 ⊢;let L:=jE (y:=y) R.nd hx;rw[ey]at L;let L:(ents (Tb.aW W t y)).Perm (ents (Tb.bh W t)):=L;show q _ M3 s3 R4 (a0.perm L) (ao.next Pg.aQ.refl λt' J h'=>?_) (((R.iZ s1).trans aT).trans ?_) ac
 .rw[Tb.cA]at h';cases z:t'=t
  .rw[WY z]at h';cases h'
  .rw[WX z]at h';show#[J,by rw[Tb.cp t' hx,WX z];show h',λ_ _ h=>h]
 .show#[Off.wr (.inr (.inl rfl)),λ_ h _=>h,λ_ h=>.inl h,λb z=>.inl ?_,G.mt,G.dv];rcases z with z|z|⟨J,O,z⟩
  .show .inl z
  .show .inr (.inl z)
  .let#[O,ne]:=Tb.dz O;show .inr (.inr #[J,?_,z]);unfold Tb.aW;show Ol.mpr #[J,O,by rw[WX ne]]
theorem FP:aD ["self","task"] ["self","task"] (au pG):=L2.bL
theorem Ak{f fI:Addr}{fd dI:t7}{c:CA}(F:cq K "begin" "Rooms.begin" pG f fd)(T:rj K mg c)(MK:Mk K c.T fI)(am:mg "Table" = some (.ref c.T))(GS:↥Df 1 "refuse_second_room" eE)(GI:↥aG 1 fI dI ["self"] (Tb.gu c.T))(bI:Binds K dI ["self"] []):↥aG 3 f fd ["self","task"] (lP c):=by
 show F.eL FP (λas A outer s H vs Q E O h=>?_);let#[M,a,s',W,t,rfl,R,S,hl,q]:=h;let#[dx,ho]:=R.ob;let hs:=HC;show#[_,(aj (aV (pc GS O az (aa (aH (pv 0) rfl) (aa (pv 1) ag))))
  (ar (fZ (de O) (aH (pv 0) rfl) (pv 1) (wC MK GI (O.mono aq) (by rfl) am bI .nil az) rfl))),?_]
 show#[0,a.rp,c.C,dx,_,0,ho,T.cl,T.nR,cN _ _ _,0,a.rd,W,t,rfl,R.hd,S,?_];show λp ap np ab aB=>#[p,ap,rfl,ae,λfs H1 U T1 off=>#[4]];let L:aQ H H1:=λb u e=>off b u (by rw[ai (av e np),ai (av e ab)];show e) (av e np);let I:H fs=none:=by
  cases e:H fs with
  |none=>rfl
  |some u=>rwa[ai (av e np),ai (av e ab),e]at U
 let J:=R.Hl (H':=H1) (B:=λ_=>False) (M':=λb=>M b\/b=fs) (λb o e _=>L b o e) (λb z=>z.elim) (λb z=>z.elim) (λb z=>z.elim .inl λz=>.inr (by rw[z];show I)) (λb z _=>.inl z) (λb z e=>z.elim (λz=>(R.same L).mt b z e) λz=>by rwa[z,T1.hf]at e)
 .let#[ao,ac]:=J.ob;show#[0,a.rp,c.C,ao,_,0,ac,T.cl,T.nR,cN _ _ _,0,a.rd,0,kL.k (k:=Ot t) J.hd (by rw[Tb.ie];omega),?_];rw[show(V.ref p)=fR #[p,fs,[],[]]from rfl,Tb.eJ S];let TI:dZ c.T H1 #[p,fs,[],[]]:=#[T1,Pk,λq=>rfl];let dd:∀b,(TD.mk p fs [] []).gk b->b=fs:=λb z=>by
   rcases z with z|⟨_,hx,_⟩
   .show z
   .cases hx
  let R2:=J.Dl S TI (λb z=>#[.inr (dd b z),λy=>?_]) (λy=>?_)
  .show q _ _ #[p,fs,[],[]] rfl R2 #[?_,λb z _=>.inl z,λb z=>z.elim .inl λz=>.inr (by rw[z];show I),λb z=>?_,R.mt,R.dv]
   .intro b o e z;rw[ai (λy=>z (.inr (.inl y)))];show L _ _ e
   .rcases z with z|z|⟨x',G,z⟩
    .show .inl (.inl z)
    .show .inl (.inr (.inl z))
    .rcases By.mp G with G|G
     .show .inl (.inr (.inr #[x',G,z]))
     .rw[t6.mp G]at z;rw[dd b z];show .inr I
  .rw[dd b z]at y;show R.mt _ (R.dv _ y) I
  .show R.mt _ (R.ok.own _ y) np
theorem mS:OO "sum" = some (.builtin "sum"):=ak
inductive j7(c:CA)(v:List V)(H:Hp)(Q:VK)(e3:XK):Prop
 |mk(M:WZ)(a:RA)(s:Pg.PS)(W:bF)(tt:Addr)(e:Pg.Ent)(cs:List Int)(_:v=[.ref a.rp,.ref tt])(_:ay c H M a s W)(_:Pg.Good s)(_:H tt=some (.tup (Ar e)))(_:Pg.Bg s e cs)(_:∀(H':Hp)(l:Addr),aQ H H'->H l=none->H' l=some (.lst (cs.map V.int))->Q (.ref l) H')
inductive jA(c:CA)(v:List V)(H:Hp)(Q:VK)(e3:XK):Prop
 |mk(M:WZ)(a:RA)(s:Pg.PS)(W:bF)(tt ca:Addr)(e:Pg.Ent)(r:List Pg.Ent)(cs:List Int)(_:v=[.ref a.rp,.ref tt,.ref ca])(_:ay c H M a s W)(_:Pg.RI s (e::r))(_:H tt=some (.tup (Ar e)))(_:H ca=some (.lst (cs.map V.int)))(_:¬ M ca)(_:cs.length=8)(_:∀(H':Hp)(s':Pg.PS)(k:Int),ay c H' M a s' W->Pg.RI s' (some k::r)->Pg.aQ r s s'->Pg.Bg s' (some k) cs->Step H M (a.own W) H' M (a.own W)->(∀b,(s'.ow b).length=(s.ow b).length)->Q (.int k) H')
def heldW(W:bF):Int:=(W.map λx=>(x.2.t.length:Int)).sum
theorem qD:∀W:bF,heldW W=((ents W).length:Int)
 | []=>rfl
 |x::W=>by
  let z:=qD W;unfold heldW at z ⊢;rw[PN,Qx,z];change _=(((vx x.2.t++ents W).length:Nat):Int);rw[Oj];unfold vx;rw[ti];omega
inductive gY(c:CA)(v:List V)(H:Hp)(Q:VK)(e:XK):Prop
 |mk(M:WZ)(a:RA)(s:Pg.PS)(W:bF)(_:v=[.ref a.rp])(_:ay c H M a s W)(_:W.length<=1000)(_:∀H',aQ H H'->Q (.int (ents W).length) H')
def jc(cv:W6)(t:Int)(ps:List Int):Int->Int->List Int:=λt' q=>if t'=t/\q∈ps then replicate 8 0 else cv t' q
inductive xg(c:CA)(v:List V)(H:Hp)(Q:VK)(e:XK):Prop
 |mk(M:WZ)(a:RA)(s:Pg.PS)(W:bF)(cv:W6)(t p m:Int)(x:TD)(_:v=[.ref a.rp,.int t,.int p,.int m])(_:ay c H M a s W)(_:Pg.RI s (ents W))(_:Cv s W cv)(_:W.length<=1000)(_:Tb.look W t=some x)(_:¬ Rm.aX p m)(_:(∀q∈Rm.aE p m,Tb.look x.t q=none))(_:(ents W).length+m<=bK s)(_:∀(H':Hp)(M':WZ)(y:TD),ay c H' M' a s (Tb.aW W t y)->Pg.RI s (ents (Tb.aW W t y))->Cv s (Tb.aW W t y) (jc cv t (Rm.aE p m))->(∀q,Tb.look y.t q=if q∈Rm.aE p m then some none else Tb.look x.t q)->Step H M (a.own W) H' M' (a.own (Tb.aW W t y))->Q .bB H')
theorem dZ.len{c:CA}{H:Hp}{x:TD}(T:dZ c.T H x){z:List Int}(p:z.Perm (Tb.gS x.tb)):z.length=x.t.length:=by
 let h:z.Perm (x.t.map (·.1)):=by
  rw[SM (p.nodup_iff.mpr (Tb.mD T.at_)) T.nd];intro q;rw[T.mem p q];constructor
  .intro h;cases e:Tb.look x.t q with
   |none=>show absurd e h
   |some v=>show Ol.mpr #[_,Tb.aI e,rfl]
  .intro h e;show Tb.bW e h
 rw[h.length_eq,ti]
theorem qV{p m:Int}(h:¬ Rm.aX p m):((Rm.aE p m).length:Int)=m:=by
 have:¬ m<1:=λz=>h (.inl z);unfold Rm.aE;rw[ti,Qg];omega
theorem sj(p m:Int):(Rm.aE p m).Nodup:=by
 unfold Rm.aE;show QR.mpr (Tw.imp ?_);intro i j z e;show z af
theorem Bd{cv:W6}{t:Int}:jc cv t []=cv:=by
 funext t' q;unfold jc;rw[WX (by simp)]
theorem vX{cv:W6}{t t' q p:Int}{l:List Int}(h:¬ (t'=t/\q=p)):jc cv t (l++[p]) t' q=jc cv t l t' q:=by
 unfold jc;cases z:t'=t/\q∈l
 .rw[WY z,WY #[z.1,Pc _ z.2]]
 .rw[WX z,WX (λy=>by
   rcases By.mp y.2 with w|w
   .show z #[y.1,w]
   .show h #[y.1,t6.mp w])]
theorem Ai:aD ["self","entry"] ["self","entry"] (au tU):=L2.bL
theorem kH{c:CA}(F:cq K "cells_of" "Rooms.cells_of" tU f fd)(T:rj K mg c)(TP:uw K mg c.P)(Kg:↥Md 4 c.P "cells" (qQ c.P c.S)):↥aG 5 f fd ["self","entry"] (j7 c):=by
 let#[G,mB,sB]:=T.bl;let#[u8,m8,r8]:=T.pc;let rB:RelV (.ref G) (.ref G):=rfl;show F.eL Ai (λam A outer s H vs Q E O h=>?_);let#[M,a,s',W,tt,e,cs,rfl,R,gd,U,z,q]:=h;let hs:=HC;show#[_,(aj (bJ (aJ (De O.mG) (pv 1) (bO (by rfl) mB rB) (aP _)) (ar (aO (aA pS (cm (aa ah ag)) (bO (by rfl) m8 r8)))) aR)
  (ar (aO (pm (aH (pv 0) rfl) TP.cl Kg O az (aa (aL aN (pv 1) ah cB) ag))))),?_]
 show#[0,tt,G,_,0,rfl,bM.of U,kG.sq (.inr sB),?_];cases e with
 |none =>
  show#[1,0,eO ?_];show#[aq,λl1 ab=>?_];show#[l1,(8),0,rfl,ae,af,af,by rw[Pu];omega,λl2 L=>?_];let J:=Tb.aw (X:=.lst [V.int 0]) ab;let s2:=Tb.aw (X:=.lst ((replicate (8:Int).toNat [V.int 0]).flatten)) L;let z:cs=replicate 8 0:=z;show q _ l2 (J.trans s2) (J.free L) ?_;rw[ae,z];rfl
 |some k =>
  show#[1,0,bw ?_];let#[cc,I]:=z;let#[dx,ho]:=R.ob;let#[ac,h2]:=R.pg.ob;show#[0,a.rp,c.C,dx,_,0,ho,T.cl,T.nP,rY _ _ _,a.A.pg,ac,0,h2,dq _ _ ak ak ak ak ak,0,tt,_,(1),0,rfl,bM.of U,rfl,M,a.A,s',k,cs,cc,rfl,R.pg,I,?_,λl hl=>q _ l (Tb.aw hl) hl ae];have:=(gd.vw I).1;omega
theorem Mh:aD ["self","entry","cells"] ["self","entry","cells"] (au ui):=L2.bL
theorem uh{c:CA}(F:cq K "sheet_with" "Rooms.sheet_with" ui f fd)(T:rj K mg c)(TP:uw K mg c.P)(as:↥Md 7 c.P "new_sheet" (iX K c.P c.S))(aT:↥Md 8 c.P "change" (qS c.P c.S)):↥aG 9 f fd ["self","entry","cells"] (jA c):=by
 let#[aB,mB,sB]:=T.bl;let rB:RelV (.ref aB) (.ref aB):=rfl;show F.eL Mh (λa8 A outer s H vs Q E hr h=>?_);let#[M,a,s',W,tt,ca,e,r,cs,rfl,R,G,ht,ac,ap,L,q]:=h;let ab:¬ a.A.own ca:=λz=>ap (R.ok.own _ z);let#[dx,ho]:=R.ob;let#[am,h2]:=R.pg.ob;show#[_,(aj (bJ (aJ (De hr.mG) (pv 1) (bO (by rfl) mB rB) (aP _)) (ar (aO (pm (aH (pv 0) rfl) TP.cl as hr az (aa (pv 2) ag)))) aR)
  (ar (aO (pm (aH (pv 0) rfl) TP.cl aT hr az (aa (aL aN (pv 1) ah cB) (aa (pv 2) ag)))))),?_]
 show#[0,tt,aB,_,0,rfl,bM.of ht,kG.sq (.inr sB),?_];cases e with
 |none =>
  show#[1,0,eO ?_];show#[0,a.rp,c.C,dx,_,0,ho,T.cl,T.nP,rY _ _ _,a.A.pg,am,0,h2,dq _ _ ak ak ak ak ak,0,M,a.A,s',ca,cs,rfl,R.LB G,G.room,bA.of ac,λe=>ab (by rw[e];show PA.gy 0 rfl),L,λH1 s1 O I J=>?_];let B:=Pg.m7 G.good G.l0 L O;show q H1 s1 _ (R.mX I J B.kept.ln) (G.fill L O) (G.AZ L O) #[(1),B.vw] (R.Ld I J) B.kept.ln
 |some k =>
  show#[1,0,bw ?_];let#[a0,c0,U]:=G.is k OF;show#[0,a.rp,c.C,dx,_,0,ho,T.cl,T.nP,rY _ _ _,a.A.pg,am,0,h2,dq _ _ ak ak ak ak ak,0,tt,_,(1),0,rfl,bM.of ht,rfl,0,M,a.A,s',k,ca,a0,c0,cs,rfl,R.LB G,U,ac,ab,L,λz=>G.KY U z,λz H1 s1 s2 O hl I J=>?_,λz H1 s1 m ao hm I J=>?_]
  .let#[a1,a2,a3,a4,a5,a6,a7]:=G.part U z L O hl;show q H1 s2 _ (R.mX I J a7) a1 a2 a3 (R.Ld I J) a7
  .subst z;let#[a1,a2,a3]:=G.write U L ao hm;let FF:=Pg.rT G.good ao;show q H1 _ k (R.mX I J FF.kept.ln) a1 a2 a3 (R.Ld I J) FF.kept.ln
theorem Hi:aD ["self"] ["self"] (au yJ):=L2.bL
theorem vS{c:CA}(F:cq K "held" "Rooms.held" yJ f fd)(T:rj K mg c)(TT:Tb.Txt K mg c.T)(as:↥Md 1 c.T "pages" (Tb.d9 c.T)):↥aG 2 f fd ["self"] (gY c):=by
 show F.eL Hi (λa4 A outer s H vs Q E hr h=>?_);let#[M,a,s',W,rfl,R,lw,k]:=h;let hs:=HC;let#[dx,h1]:=R.ob;show#[_,(ar (aO (a9 (lu rfl) (by rfl) T.sum mS (aa (zF (lF (cl:=[("self",s⁻¹+1)]) (caps:=[("self",0)]) #[rfl,ak,ak,rfl,by kernel_rfl,by intro p I;simp only[vr,Oh,or_false]at I;rcases I with rfl<;>first|rfl|show#[rfl,.inl rfl,.inl rfl]|show#[rfl,.inl rfl,.inr rfl],by kernel_rfl,by intro p I;simp only[vr,Oh,or_false]at I;rcases I with rfl<;>first|rfl|show#[rfl,.inl rfl,.inl rfl]|show#[rfl,.inl rfl,.inr rfl],ak] rfl (oO (aH (pv 0) rfl)) (λ_ _ _ _=>j6) (λ_ _ _ _=>(a9 (show fq _ _ (y4 K)from AA) (by rfl) T.len boot_len (aa (qB (hJ (de hr) (show PE _ _ (Dw K _ "rooms")from aH (pv 1) rfl) (pv 0) cB) TT.cl as hr az) ag))))) ag)))),?_];let hn:∀(o:Obj) u',H a.rd≠some (.frz o u'):=λo u' z=>(by rwa[R.hd]at z);show#[0,a.rp,c.C,dx,_,0,h1,T.cl,T.nR,cN _ _ _,a.rd,0,R.hd,hn,λo=>?_];let ao:a.rp≠a.rd:=λz=>(by rwa[z,R.hd]at h1);let S:Off (· = a.rd) H (upd H a.rd (.frz o (.dK (Tb.dk fR W)))):=Off.wr rfl;let L:(upd H a.rd (.frz o (.dK (Tb.dk fR W)))) a.rd=some (.frz o (.dK (Tb.dk fR W))):=ae;let ap:=S _ _ h1 ao;let a0:∀x∈W,dZ c.T (upd H a.rd (.frz o (.dK (Tb.dk fR W)))) x.2:=λx hx=>by
  let#[a3,h3]:=(R.tb x hx).at_.ob;show(R.tb x hx).off S (λz=>by rwa[z,R.hd]at h3) (λb z=>(R.dm x hx b z).2.2) (λb xs e z=>by rwa[z,R.hd]at e)
 show qW (a:=a.rd) (o:=o) (kvs:=Tb.dk fR W) (λi ys H2=>ys=((W.take i).map λx=>(x.2.t.length:Int)).map V.int/\aQ (upd H a.rd (.frz o (.dK (Tb.dk fR W)))) H2) #[rfl,λ_ _ e=>e] (λi zs H2 _ ⟨_,e⟩=>e _ _ L) ?_ ?_
 .rintro i kk v zs H2 hk ⟨rfl,G⟩;let ab:(W.map λx:Int×TD=>((Ot x.1:Key),fR x.2))[i]?=some (kk,v):=hk;rw[Od]at ab;let#[x,hx,e]:=wh.mp ab;cases e;let hm:=NC hx;let hi:i<W.length:=(sN.mp hx).1;let aT:Tb.look W x.1=some x.2:=Tb.cD R.nd hm;let hg:fb H2 a.rd (.int x.1) (some (fR x.2)):=.inl #[Tb.dk fR W,Ot x.1,.inr #[o,G _ _ L],rfl,by rw[Tb.cW,aT];rfl];let TX:=a0 x hm;let U:=TX.at_.same G;let#[aB,ht]:=U.ob;show#[0,a.rp,c.C,dx,_,0,G _ _ ap,T.cl,T.nR,cN _ _ _,0,a.rd,fR x.2,rfl,hg,x.2.p,aB,0,ht,Tb.aS _ ak,x.2.p,x.2.fs,x.2.tb,rfl,U,λH3 l ns s3 fl J pm a5=>?_];show#[l,0,.inl (bA.of J),3,G.trans s3]
  .rw[ti,ti,Oz];omega
  .rw[ti,TX.len pm,OY,hx,Ou,Ou];rfl
 .rintro zs H2 ⟨rfl,G⟩ l J;let ac:=G _ _ L;let am:l≠a.rd:=λz=>(by rwa[z,ac]at J);show#[a.rd,o,Tb.dk fR W,by rw[ai (D0 am)];show ac,hn,l,(W.map λx=>(x.2.t.length:Int)),rfl,bA.of ?_,?_]
  .rw[ai am,ae,Tb.ie,Ph]
  .let e9:=qD W;unfold heldW at e9;rw[e9];show k _ λb u e=>?_;cases z:b=a.rd
   .rw[z,ae, <-e,z,R.hd]
   .let O:H2 b=some u:=G _ _ (S _ _ e z);rw[ai z,ai (λy=>by rwa[y,J]at O)];show O
theorem oJ:aD ["self","task","page","many","table","pages","wanted"] ["self","task","page","many"] (au yR):=L2.bL
theorem EX{c:CA}(F:cq K "map" "Rooms.map" yR f fd)(T:rj K mg c)(TT:Tb.Txt K mg c.T)(GR:↥Df 1 "room_of" bP)(GM:↥Df 2 "pages_to_map" Rm.gA)(GA:↥Df 1 "refuse_above" f9)(bx:↥Md 1 c.T "pages" (Tb.d9 c.T))(GH:↥Md 2 c.C "held" (gY c))(GL:↥Md 3 c.T "lay" (Tb.wc K c.T)):↥aG 4 f fd ["self","task","page","many"] (xg c):=by
 let#[aB,mB,sB]:=T.bl;let rB:RelV (.ref aB) (.ref aB):=rfl;show F.eL oJ (λb5 A outer s H vs Q E O h=>?_);let#[M,a,s',W,cv,t,p,m,x,rfl,R,ri,bV,lw,hx,L,a4,a8,q]:=h;let#[dx,ho]:=R.ob;let TX:=R.tb _ (Tb.aI hx);let#[bf,ht]:=TX.at_.ob;let b1:¬ m<1:=λz=>L (.inl z);let b2:¬ p<0:=λz=>L (.inr (.inl z));let b3:¬ 64<p+m:=λz=>L (.inr (.inr z));let pl:=qV L;show#[_,(aj (cV 4 oJ.nd (pc GR O az (aa (aH (pv 0) rfl) (aa (pv 1) ag))))
  (aj (cV 5 oJ.nd (pc GM O az (aa (qB (pv 4) TT.cl bx O az) (aa (pv 2) (aa (pv 3) ag)))))
  (aj (aV (pc GA O az (aa (aA bR (qB (pv 0) T.cl GH O az) (a9 bS (by rfl) T.len boot_len (aa (pv 5) ag))) (aa (aH (pv 0) rfl) ag))))
  (ar (dh Ow rfl (dQ (pv 5)) (nD 6 oJ.nd) (ar (aV (pm (pv 4) TT.cl GL O az (aa (pv 6) (aa (bO (by rfl) mB rB) ag)))))))))),?_]
 show#[0,a.rp,c.C,dx,_,0,ho,T.cl,T.nR,cN _ _ _,0,a.rd,W,t,x,rfl,R.hd,hx,?_];show#[0,x.p,bf,0,ht,Tb.aS _ ak,x.p,x.fs,x.tb,rfl,TX.at_,λH1 l1 ns s1 b7 a7 pm b8=>?_];show#[0,0,l1,ns,p,m,rfl,a7,L,λz h1 h2=>absurd (a4 z h1) ((TX.mem pm z).mp h2),λH2 l2 s2 bv bY=>?_];let S2:=s1.trans s2;let R2:=R.same S2;let#[ba,bc]:=R2.ob;show#[0,a.rp,ba,0,bc,iD _ _ _ ak ak ak,M,a,s',W,rfl,R2,lw,λH3 s3=>?_];let a0:=s3 _ _ bY;let R3:=R2.same s3;let#[bd,bi]:=R3.ob;show#[0,l2,0,.inl (bA.of a0),_,0,rfl,0,a.rp,c.C,bd,_,0,bi,T.cl,T.nT,Fz _ _ _,_,0,3]
 .rw[ti,pl];omega
 let S3:=S2.trans s3;let bm:¬ M l2:=λz=>R.mt _ z (s1.free bv);let bH:¬ a.own W l2:=λz=>bm (R.dv l2 z);show#[0,l2,rfl,#[_,bA.of a0],?_];show dg (K:=K) (a:=l2) (xs:=(Rm.aE p m).map V.int) (λi σ H4=>Nf λ(v6:Option V)(M4:WZ)(y:TD)=>Ng (σ=#v[.ref a.rp,.int t,.int p,.int m,.ref y.p,.ref l2,v6]) (ay c H4 M4 a s' (Tb.aW W t y)) (Pg.RI s' (ents (Tb.aW W t y))) ((ents (Tb.aW W t y)).length=(ents W).length+i) (Cv s' (Tb.aW W t y) (jc cv t ((Rm.aE p m).take i))) ((∀q,Tb.look y.t q=if q∈(Rm.aE p m).take i then some none else Tb.look x.t q)) (Step H3 M (a.own W) H4 M4 (a.own (Tb.aW W t y))))
  #[_,M,x,rfl,by rw[cY R.nd hx];show R3,by rw[cY R.nd hx];show ri,by rw[cY R.nd hx];rfl,by rw[cY R.nd hx,Vo,Bd];show bV,λq=>by simp,by rw[cY R.nd hx];show R3.refl] (λi σ H4 _ z0=>by let#[_,_,_,_,_,_,_,_,_,st]:=z0;show bA.of (st.off _ _ a0 bH)) ?_ ?_
 .rintro i u σ H4 hu ⟨v6,M4,y,rfl,R4,aT,as,ab,ao,a3⟩;rw[Od]at hu;let#[G,U,rfl]:=wh.mp hu;let a5:=NC U;let#[hi,b6]:=sN.mp U;let b4:¬ G∈(Rm.aE p m).take i:=λz=>by
   let#[j,hj,e]:=RB z;rw[Q3]at e;rw[Oz]at hj;show wI (sj p m) j i (ON af) U af e
  let ap:=jP (y:=y) hx;let T4:=R4.tb _ (Tb.aI ap);let#[a6,bz]:=T4.at_.ob;let be:Tb.look y.t G=none:=(by rw[ao,WX b4];show a4 G a5);let#[r1,r2,_]:=Rm.iy L G a5;show#[0,y.p,a6,0,bz,Tb.aS _ ak,0,y.p,y.fs,aB,y.tb,G,[.str "blank"],rfl,T4.at_,r1,r2,.inr sB,rfl,λH5 ac T5 l5 o5 n5=>?_];let bI:dZ c.T H5 #[y.p,y.fs,ac,(G,none)::y.t]:=#[T5,Oo.mpr #[Tb.bW be,T4.nd],λj=>by
   rw[l5 j,Tb.aK];cases z:j=G
   .rw[WY z,WY z.symm];rfl
   .rw[WX z,WX (D0 z)];show T4.lk j]
  let R5:=R4.ye (y:=#[y.p,y.fs,ac,(G,none)::y.t]) ap rfl bI o5 n5;let S5:=a3.trans (R4.tH (y:=#[y.p,y.fs,ac,(G,none)::y.t]) ap o5 n5);let pe:(ents (Tb.aW W t #[y.p,y.fs,ac,(G,none)::y.t])).Perm (none::ents (Tb.aW W t y)):=(jE R.nd hx).trans ((jE (y:=y) R.nd hx).symm.cons none);rw[set_set]at R5 S5;let bn:(ents (Tb.aW W t y)).length<(s'.ow true).length+(s'.ow false).length:=by
   rw[as];unfold bK at a8;omega
  show#[2,#[y.p,y.fs,ac,(G,none)::y.t],rfl,R5,(aT.lay bn).perm pe.symm,by rw[pe.length_eq,Oq,as];omega,3,S5]
  .intro S b0 am q e J;rw[Tb.cp S hx]at am;rw[OY,U];cases z:S=t
   .rw[WY z]at am;cases am;let J:Tb.look ((G,none)::y.t) q=some e:=J;rw[Tb.aK]at J;cases I:G=q
    .rw[WY I]at J;cases J;change jc cv t _ S q=_;unfold jc;rw[WY #[z,by rw[<-I];simp]]
    .rw[WX I]at J;rw[show(some G).toList=[G]from rfl,vX (λh=>I h.2.symm)];show ab S y (by rw[z];show ap) q e J
   .rw[WX z]at am;rw[show(some G).toList=[G]from rfl,vX (λh=>z h.1)];show ab S b0 (by rw[Tb.cp S hx,WX z];show am) q e J
  .intro j;change Tb.look ((G,none)::y.t) j=_;rw[Tb.aK,ao j,OY,U];cases z:G=j
   .rw[WY z,WY (by rw[<-z];simp)]
   .rw[WX z];cases I:j∈(Rm.aE p m).take i
    .rw[WY I,WY (Pc _ I)]
    .rw[WX I,WX (by simp[D0 z,I])]
 .rintro σ H4 ⟨v6,M4,y,rfl,R4,aT,as,ab,ao,a3⟩;rw[ti,Ph]at ab ao;show q H4 M4 y R4 aT ab ao ((R.iZ S3).trans a3)
end St
namespace Rm
theorem dy{ad n:Int}{F:List Int}(h:¬ bq ad n F):(aC ad n).length<=64/\∀q∈aC ad n,q∈F:=by
 unfold aC;cases e:n=0
 .rw[WY e];show#[OJ _,λ_ h=>nomatch h]
 .rw[WX e];let G:0<n:=by
   have:¬ n<0:=λz=>h (.inl z);omega
  let h1:¬ aX (ed ad) (dB ad n):=λz=>h (.inr #[G,.inl z]);let h2:∀q∈aE (ed ad) (dB ad n),q∈F:=Ox λz=>h (.inr #[G,.inr z]);show#[?_,h2];unfold aE;rw[ti,Qg];let a1:¬ ed ad<0:=λz=>h1 (.inr (.inl z));let a2:¬ 64<ed ad+dB ad n:=λz=>h1 (.inr (.inr z));omega
theorem zL{ad n:Int}{I G:List Int}(h:∀q,q∈I->q∈G)(F:bq ad n G):bq ad n I:=by
 rcases F with F|⟨h1,h2⟩
 .show .inl F
 .show .inr #[h1,h2.imp id λz y=>z λq J=>h q (y q J)]
end Rm
namespace St
open PySem L2
def dY(f:Xa)(ps:List Int):List Int:=(ps.map f).flatten
theorem gG{f:Xa}{ps:List Int}{i:Nat}{q:Int}(h:ps[i]?=some q):dY f (ps.take (i+1))=dY f (ps.take i)++f q:=by
 unfold dY;rw[OY,h,Ou,UI];simp
theorem Bg.len{s:Pg.PS}{e:Pg.Ent}{cs:List Int}(G:Pg.Good s)(h:Pg.Bg s e cs):cs.length=8:=by
 cases e with
 |none=>rw[show cs=replicate 8 0 from h];simp
 |some k=>let#[c,h]:=h;show(G.vw h).2
inductive uB(c:CA)(v:List V)(H:Hp)(Q:VK)(e:XK):Prop
 |mk(M:WZ)(a:RA)(s:Pg.PS)(W:bF)(cv:W6)(t ad:Int)(n:Nat)(x:TD)(_:v=[.ref a.rp,.int t,.int ad,.int n])(_:ay c H M a s W)(_:Pg.RI s (ents W))(_:Cv s W cv)(_:Tb.look W t=some x)(_:n<=600)(_:¬ Rm.bq ad n (x.t.map (·.1)))(_:∀(H':Hp)(M':WZ)(s':Pg.PS)(l:Addr),ay c H' M' a s' W->Pg.RI s' (ents W)->Cv s' W cv->Step H M (a.own W) H' M' (a.own W)->(∀b,(s'.ow b).length=(s.ow b).length)->H l=none->H' l=some (.lst ((((dY (cv t) (Rm.aC ad n)).drop (ad%8).toNat).take n).map V.int))->(∀o,ay c (upd H' l o) M' a s' W/\Step H M (a.own W) (upd H' l o) M' (a.own W))->Q (.ref l) H')
section
variable{c:CA}{H H':Hp}{M M' B:WZ}{a:RA}{s s':Pg.PS}{W:bF}{t:Int}{x y:TD}
theorem nameQ{i:Nat}{v:V}{σ:L2.St}{H:Hp}{Q:L2.St->Hp->Prop}(h:Q (σ.set i (some v)) H):sF i v σ H Q:=h
theorem ay.NF(R:ay c H M a s W){l:Addr}{xs ys:List V}(G:H l=some (.lst xs))(F:M l)(no:¬ a.own W l):ay c (upd H l (.lst ys)) M a s W :=
 R.Hl (B:=(· = l)) (Off.wr rfl) (λb z=>by rw[z];show#[F,no]) (λb z=>.inl #[xs,by rw[z];show G]) (λb z=>.inl z) (λb z _=>z) (λb z e=>by
  cases q:b=l
  .rw[q,ae]at e;cases e
  .rw[ai q]at e;show R.mt b z e)
theorem ay.Km(R:ay c H M a s W){l:Addr}{o:HO}(F:H l=none):ay c (upd H l o) (λb=>M b\/b=l) a s W :=
 R.Hl (B:=λ_=>False) (λb u e _=>dw F b u e id) (λb z=>z.elim) (λb z=>z.elim) (λb z=>z.elim .inl λz=>.inr (by rw[z];show F)) (λb z _=>.inl z) (λb z e=>by
  cases q:b=l
  .rw[q,ae]at e;cases e
  .rw[ai q]at e;show z.elim (λz=>R.mt b z e) q)
theorem dZ.keys(T:dZ c.T H x)(q:Int):q∈x.t.map (·.1)↔Tb.look x.t q≠none:=by
 constructor
 .intro h e;show Tb.bW e h
 .intro h;cases e:Tb.look x.t q with
  |none=>show absurd e h
  |some v=>show Ol.mpr #[_,Tb.aI e,rfl]
theorem tu:aD ["self","task","address","many","table","whole","page","entry"] ["self","task","address","many"] (au tI):=L2.bL
theorem CF{c:CA}(F:cq K "peek" "Rooms.peek" tI f fd)(T:rj K mg c)(TT:Tb.Txt K mg c.T)(TP:uw K mg c.P)(GR:↥Df 1 "room_of" bP)(GO:↥Df 2 "pages_of_cells" Rm.dN)(bm:↥Df 1 "run_within" Rm.mi)(bn:↥Md 1 c.T "pages" (Tb.d9 c.T))(GG:↥Md 3 c.T "get" (Tb.sA c.T))(bY:↥Md 7 c.P "fetch" (ph c.P c.S))(Jo:↥Md 5 c.C "cells_of" (j7 c)):↥aG 8 f fd ["self","task","address","many"] (uB c):=by
 let#[aB,mB,sB]:=T.bl;let rB:RelV (.ref aB) (.ref aB):=rfl;show F.eL tu (λcC A outer s H vs Q E hr h=>?_);let#[M,a,s',W,cv,t,ad,n,x,rfl,R,ri,bv,hx,n6,hb,q]:=h;let hs:=HC;let#[dx,ho]:=R.ob;let TX:=R.tb _ (Tb.aI hx);let#[c1,c2]:=Rm.dy hb;show#[_,(aj (cV 4 tu.nd (pc GR hr az (aa (aH (pv 0) rfl) (aa (pv 1) ag))))
  (aj (cV 5 tu.nd (cm ag))
  (aj (dh Ow rfl (dQ (pc GO hr az (aa (qB (pv 4) TT.cl bn hr az) (aa (pv 2) (aa (pv 3) ag))))) (nD 6 tu.nd) (aj (cV 7 tu.nd (pm (pv 4) TT.cl GG hr az (aa (pv 6) ag)))
  (aj (bJ (aJ (xi hr.mG) (pv 7) (bO (by rfl) mB rB) (aP _)) (ar (aV (pm (aH (pv 0) rfl) TP.cl bY hr az (aa (aL aN (pv 7) ah cB) ag)))) aR)
  (ar (aV (jn Po Qf RQ nH (pv 5) (aa (pm (pv 0) T.cl Jo hr az (aa (pv 7) ag)) ag)))))))
  (ar (aO (pc bm hr az (aa (pv 5) (aa (pv 2) (aa (pv 3) ag))))))))),?_]
 show#[0,a.rp,c.C,dx,_,0,ho,T.cl,T.nR,cN _ _ _,0,a.rd,W,t,x,rfl,R.hd,hx,?_];show#[aq,λG O=>?_];let R1:=R.Km (o:=.lst []) O;let s1:aQ H (upd H G (.lst [])):=Tb.aw O;let ba:upd H G (.lst []) G=some (.lst []):=ae;generalize upd H G (.lst [])=H1 at *;let a3:¬ a.own W G:=λz=>R.mt _ (R.dv _ z) O;let a8:=R1.tb _ (Tb.aI hx);let#[bV,ht]:=a8.at_.ob;show#[0,x.p,bV,0,ht,Tb.aS _ ak,x.p,x.fs,x.tb,rfl,a8.at_,λH2 l2 ns s2 cr b7 pm cw=>?_];let bi:∀{z},z∈x.t.map (·.1)->z∈ns:=λ{z} h=>(TX.mem pm z).mpr ((TX.keys z).mp h);show#[0,0,l2,ns,ad,n,rfl,b7,λh=>hb (Rm.zL (λz hz=>bi hz) h),λH3 l3 s3 bf bd=>?_];let S3:=s2.trans s3;let R3:=R1.same S3;let b5:=S3 _ _ ba;let a0:H1 l3=none:=s2.free bf;let b3:¬ a.own W l3:=λz=>R1.mt _ (R1.dv _ z) a0;let b8:l3≠G:=λz=>(by rwa[z,ba]at a0);show#[l3,rfl,#[_,bA.of bd],?_];show dg (K:=K) (a:=l3) (xs:=(Rm.aC ad n).map V.int) (λi σ H4=>Nf λ(v6 v7:Option V)(I:Pg.PS)=>Lw (σ=#v[.ref a.rp,.int t,.int ad,.int n,.ref x.p,.ref G,v6,v7]) (ay c H4 (λb=>M b\/b=G) a I W) (Pg.RI I (ents W)) (Cv I W cv) (H4 G=some (.lst ((dY (cv t) ((Rm.aC ad n).take i)).map V.int))) ((dY (cv t) ((Rm.aC ad n).take i)).length=8*i) (Off (λb=>a.own W b\/b=G) H3 H4) (∀b,(I.ow b).length=(s'.ow b).length))
  #[2,s',rfl,R3,ri,bv,b5,rfl,λ_ _ e _=>e,λ_=>rfl] (λi σ H4 _ z0=>by let#[_,_,_,_,_,_,_,_,_,o4,_]:=z0;show bA.of (o4 _ _ bd λz=>z.elim b3 b8)) ?_ ?_
 .rintro i u σ H4 hu ⟨v6,v7,I,rfl,R4,U,am,ao,bI,o4,ac⟩;rw[Od]at hu;let#[p,hp,rfl]:=wh.mp hu;let ce:=NC hp;let#[hi,ci]:=sN.mp hp;let T4:=R4.tb _ (Tb.aI hx);let#[ca,b0]:=T4.at_.ob;obtain⟨e,he⟩:∃e,Tb.look x.t p=some e:=by
   cases z:Tb.look x.t p with
   |none=>show absurd z ((TX.keys p).mp (c2 p ce))
   |some e=>show#[e,rfl]
  show#[0,x.p,ca,0,b0,Tb.aS _ ak,0,x.p,x.fs,x.tb,p,rfl,T4.at_,λH5 v s5 hv=>?_];rw[T4.lk,he]at hv;let#[tt,rfl,ab]:=hv;let L:=R4.same s5;let a5:=s5 _ _ ao;show nameQ ?_;dsimp only;show share (λσ H6=>∃J:Pg.PS,Lw (σ=#v[.ref a.rp,.int t,.int ad,.int n,.ref x.p,.ref G,.int p,.ref tt]) (ay c H6 (λb=>M b\/b=G) a J W) (Pg.RI J (ents W)) (Cv J W cv) (H6 tt=some (.tup (Ar e))) (H6 G=some (.lst ((dY (cv t) ((Rm.aC ad n).take i)).map V.int))) (Off (λb=>a.own W b\/b=G) H3 H6) (∀b,(J.ow b).length=(s'.ow b).length)) (λu' bc=>?A) ?B
  case A =>
   show#[0,tt,aB,_,0,rfl,bM.of ab,kG.sq (.inr sB),?_];cases e with
   |none =>
    show#[1,0,bw ?_];show bc _ _ #[I,rfl,L,U,am,ab,a5,λb o e z=>s5 _ _ (o4 b o e z),ac]
   |some k =>
    show#[1,0,eO ?_];let#[bH,ch]:=L.ob;let#[aT,b4]:=L.pg.ob;let#[cs,cc,hv]:=U.is k (pM hx he);show#[0,a.rp,c.C,bH,_,0,ch,T.cl,T.nP,rY _ _ _,a.A.pg,aT,0,b4,dq _ _ ak ak ak ak ak,0,tt,_,(1),0,rfl,bM.of ab,5,a.A,I,k,cs,cc,rfl,L.LB U,hv,λH6 J fe G6 O6=>?_];let FF:=Pg.rT U.good fe;show bc _ _ #[J,rfl,L.mX G6 O6 FF.kept.ln,U.Gu fe,am.keep (Pg.xv U.good fe),O6 _ _ ab (L.pg.iV _ _ ab),O6 _ _ a5 (λz=>a3 (.inl z)),λb o e z=>O6 _ _ (s5 _ _ (o4 b o e z)) (λy=>z (.inl (.inl y))),λb=>(FF.kept.ln b).trans (ac b)]
  case B =>
   rintro σ H6 ⟨J,rfl,R6,as,a7,cg,a4,o6,b6⟩;let#[aT,bx]:=R6.ob;let a6:=a7 t x hx p e he;let c8:=Bg.len as.good a6;show#[0,.inl #[5,bA.of a4],0,a.rp,aT,0,bx,iD _ _ _ ak ak ak,0,_,a,J,W,tt,e,cv t p,rfl,R6,as.good,cg,a6,λH7 l7 s7 f7 h7=>?_];let R7:=R6.same s7;let be:=s7 _ _ a4;show#[G,l7,_,0,rfl,be,h7,by rw[ti,ti];omega,?_];rw[<-Ou, <-gG hp];show#[2,J,rfl,R7.NF be (.inr rfl) a3,as,a7,ae,by rw[gG hp,Oj];omega,λb o e z=>by rw[ai (λy=>z (.inr y))];show s7 _ _ (o6 b o e z),b6]
 .rintro σ H4 ⟨v6,v7,I,rfl,R4,U,am,ao,bI,o4,ac⟩;rw[ti,Ph]at ao;show#[0,0,0,G,_,ad,n,rfl,ao,λH5 l5 s5 ap bz=>?_];let L:=R4.same s5;let oA:Off (a.own W) H H5:=λb o e z=>s5 _ _ (o4 _ _ (S3 _ _ (s1 _ _ e)) λy=>y.elim z λy=>by rwa[y,O]at e);let so:∀o,aQ H4 (upd H5 l5 o):=λo b u e=>(by rw[ai (av e ap)];show s5 _ _ e);let oB:∀{Hx},aQ H4 Hx->Off (a.own W) H Hx:=λsx b o e z=>sx _ _ (o4 _ _ (S3 _ _ (s1 _ _ e)) λy=>y.elim z λy=>by rwa[y,O]at e);show q H5 _ I l5 L U am #[oA,λb z _=>.inl z,λb z=>z.elim .inl λz=>.inr (by rw[z];show O),λb z=>.inl z,R.mt,R.dv] ac ?_ bz λo=>#[R4.same (so o),oB (so o),λb z _=>.inl z,λb z=>z.elim .inl λz=>.inr (by rw[z];show O),λb z=>.inl z,R.mt,R.dv];cases z:H l5 with
  |none=>rfl
  |some o =>
   exfalso;cases w:a.own W l5
   .show R4.mt _ (R4.dv _ w) ap
   .have:=o4 _ _ (S3 _ _ (s1 _ _ z)) λy=>y.elim w λy=>(by rwa[y,O]at z);rwa[ap]at this
end
end St
namespace Rm
theorem iG{ad:Int}{cs ws:List Int}{G:List Int}(h:¬ bq ad cs.length G)(F:ws.length=8*(aC ad cs.length).length):(eg ws (ad%8).toNat cs).length=8*(aC ad cs.length).length:=by
 unfold eg;rw[Oj,Oj,Oz,P7];cases e:((cs.length:Nat):Int)=0
 .have:aC ad cs.length=[]:=(by unfold aC;rw[WY e]);rw[this]at F ⊢;let I:ws.length=0:=F;let J:cs.length=0:=af;rw[I,J];simp
 .let O:(aC ad cs.length).length=(dB ad cs.length).toNat:=by
   unfold aC;rw[WX e];unfold aE;rw[ti,Qg]
  let L:0<((cs.length:Nat):Int):=af;let h1:¬ aX (ed ad) (dB ad cs.length):=λz=>h (.inr #[L,.inl z]);let h2:¬ dB ad cs.length<1:=λz=>h1 (.inl z);rw[O]at F ⊢;unfold dB at *;omega
theorem yi{k:Nat}{ws:List Int}(h:ws.length=8*k):∀z∈fJ k ws,z.length=8:=by
 intro z F;unfold fJ at F;let#[i,hi,rfl]:=Ol.mp F;have:=Sr.mp hi;rw[Oz,P7,h];omega
end Rm
namespace St
open PySem L2
def gn(cv:W6)(t:Int)(l:List (Int×List Int)):Int->Int->List Int:=λt' q=>if t'=t then(Tb.look l q).getD (cv t' q)else cv t' q
theorem xR{cv:W6}{t:Int}:gn cv t []=cv:=by
 funext t' q;unfold gn;cases z:t'=t
 .rw[WY z];rfl
 .rw[WX z]
theorem wu{cv:W6}{t t' q:Int}{l:List (Int×List Int)}{p:Int}{r:List Int}:gn cv t ((p,r)::l) t' q=if t'=t/\q=p then r else gn cv t l t' q:=by
 unfold gn;cases z:t'=t
 .rw[WY z,WY z,Tb.aK];cases F:p=q
  .rw[WY F,WY #[z,F.symm]];rfl
  .rw[WX F,WX (λh=>F h.2.symm)]
 .rw[WX z,WX z,WX (λh=>z h.1)]
def jq(f:Xa)(ad:Int)(cs:List Int):List (List Int):=Rm.fJ (Rm.aC ad cs.length).length (Rm.eg (dY f (Rm.aC ad cs.length)) (ad%8).toNat cs)
inductive uk(K:Om)(c:CA)(v:List V)(H:Hp)(Q:VK)(e:XK):Prop
 |mk(M:WZ)(a:RA)(s:Pg.PS)(W:bF)(cv:W6)(t ad:Int)(ca:Addr)(cs:List Int)(x:TD)(_:v=[.ref a.rp,.int t,.int ad,.ref ca])(_:ay c H M a s W)(_:Pg.RI s (ents W))(_:Cv s W cv)(_:Tb.look W t=some x)(_:bA K H ca (cs.map V.int))(_:cs.length<=500)(_:¬ Rm.bq ad cs.length (x.t.map (·.1)))(_:∀(H':Hp)(M':WZ)(s':Pg.PS)(y:TD),ay c H' M' a s' (Tb.aW W t y)->Pg.RI s' (ents (Tb.aW W t y))->Cv s' (Tb.aW W t y) (gn cv t (((Rm.aC ad cs.length).zip (jq (cv t) ad cs)).reverse))->(∀q,¬ q∈Rm.aC ad cs.length->Tb.look y.t q=Tb.look x.t q)->(∀q∈Rm.aC ad cs.length,∃k,Tb.look y.t q=some (some k))->Step H M (a.own W) H' M' (a.own (Tb.aW W t y))->(∀b,(s'.ow b).length=(s.ow b).length)->Q .bB H')
theorem sS(ad n:Int):(Rm.aC ad n).Nodup:=by
 unfold Rm.aC;cases e:n=0
 .rw[WY e];show Pk
 .rw[WX e];show sj _ _
theorem ox{α z:Type}{F:α->z->Prop}:∀{xs:List α}{ys:List z}{i:Nat}{x:α},Paired F xs ys->xs[i]?=some x->∃y,ys[i]?=some y/\F x y
 |_,_,_,_,.nil,e=>by simp at e
 |_,_,0,_,.cons r _,e=>by simp at e;subst e;show#[0,r]
 |_,_,i+1,x,.cons _ t,e=>by
  let#[u,h1,h2]:=ox (i:=i) (x:=x) t ‹e›;show#[u,by simpa using h1,h2]
theorem jh:aD ["self","task","address","cells","table","pages","whole","page","changed"] ["self","task","address","cells"] (au tY):=L2.bL
theorem B2{c:CA}(F:cq K "poke" "Rooms.poke" tY f fd)(T:rj K mg c)(TT:Tb.Txt K mg c.T)(GR:↥Df 1 "room_of" bP)(GO:↥Df 2 "pages_of_cells" Rm.dN)(dR:↥Df 1 "pages_with" (Rm.sX K))(dd:↥Md 1 c.T "pages" (Tb.d9 c.T))(GG:↥Md 3 c.T "get" (Tb.sA c.T))(GL:↥Md 3 c.T "lay" (Tb.wc K c.T))(Jo:↥Md 5 c.C "cells_of" (j7 c))(dj:↥Md 9 c.C "sheet_with" (jA c)):↥aG 10 f fd ["self","task","address","cells"] (uk K c):=by
 show F.eL jh (λef A outer s H vs Q E L h=>?_);let#[M,a,s',W,cv,t,ad,ca,cs,x,rfl,R,ri,bY,hx,bz,n6,hb,q]:=h;let hs:=HC;let#[dx,ho]:=R.ob;let TX:=R.tb _ (Tb.aI hx);let#[d1,ht]:=TX.at_.ob;let#[c1,c2]:=Rm.dy hb;show#[_,(aj (cV 4 jh.nd (pc GR L az (aa (aH (pv 0) rfl) (aa (pv 1) ag))))
  (aj (cV 5 jh.nd (pc GO L az (aa (qB (pv 4) TT.cl dd L az) (aa (pv 2) (aa (a9 bS (by rfl) T.len boot_len (aa (pv 3) ag)) ag)))))
  (aj (cV 6 jh.nd (cm ag))
  (aj (dh Ow rfl (dQ (pv 5)) (nD 7 jh.nd) (ar (aV (jn Po Qf RQ nH (pv 6) (aa (pm (pv 0) T.cl Jo L az (aa (pm (pv 4) TT.cl GG L az (aa (pv 7) ag)) ag)) ag)))))
  (ar (dh Ow rfl (Cg (by rfl) T.zip (aa (pv 5) (aa (pc dR L az (aa (pv 6) (aa (pv 2) (aa (pv 3) ag)))) ag))) (tF rfl (gf (nD 7 jh.nd) (gf (nD 8 jh.nd) pC))) (ar (aV (pm (pv 4) TT.cl GL L az (aa (pv 7) (aa (eM (aa br (aa (pm (pv 0) T.cl dj L az (aa (pm (pv 4) TT.cl GG L az (aa (pv 7) ag)) (aa (pv 8) ag))) ag))) ag))))))))))),?_]
 show#[0,a.rp,c.C,dx,_,0,ho,T.cl,T.nR,cN _ _ _,0,a.rd,W,t,x,rfl,R.hd,hx,?_];show#[0,x.p,d1,0,ht,Tb.aS _ ak,x.p,x.fs,x.tb,rfl,TX.at_,λH1 l1 ns s1 ei dM pm ej=>?_];let bi:∀{z},z∈x.t.map (·.1)->z∈ns:=λ{z} h=>(TX.mem pm z).mpr ((TX.keys z).mp h);show#[0,0,ca,0,.inl (Rm.eR bz (s1 _)),l1,ns,ad,cs.length,by rw[ti];rfl,dM,λh=>hb (Rm.zL (λz hz=>bi hz) h),λH2 l2 s2 db be=>?_];generalize eP:Rm.aC ad cs.length=ps at *;let dC:ps.Nodup:=(by rw[<-eP];show sS _ _);let S2:=s1.trans s2;let R2:=R.same S2;show#[aq,λG a6=>?_];let R3:=R2.Km (o:=.lst []) a6;let s3:aQ H2 (upd H2 G (.lst [])):=Tb.aw a6;let c5:upd H2 G (.lst []) G=some (.lst []):=ae;generalize upd H2 G (.lst [])=H3 at *;let a5:H G=none:=S2.free a6;let c3:¬ a.own W G:=λz=>R.mt _ (R.dv _ z) a5;let bn:=s3 _ _ be;let d0:H l2=none:=s1.free db;let c7:¬ a.own W l2:=λz=>R.mt _ (R.dv _ z) d0;let b4:l2≠G:=λz=>(by rwa[z,a6]at be);let cg:∀p∈ps,∃e,Tb.look x.t p=some e:=λp as=>by
  cases z:Tb.look x.t p with
  |none=>show absurd z ((TX.keys p).mp (c2 p as))
  |some e=>show#[e,rfl]
 show#[0,l2,rfl,#[_,bA.of bn],?_];show dg (K:=K) (a:=l2) (xs:=ps.map V.int) (λi σ H4=>∃v7:Option V,Jw (σ=#v[.ref a.rp,.int t,.int ad,.ref ca,.ref x.p,.ref l2,.ref G,v7,none]) (ay c H4 (λb=>M b\/b=G) a s' W) (H4 G=some (.lst ((dY (cv t) (ps.take i)).map V.int))) ((dY (cv t) (ps.take i)).length=8*i) (Off (· = G) H3 H4))
  #[0,R3,c5,rfl,λ_ _ e _=>e] (λi σ H4 _ z0=>by let#[_,_,_,_,_,o4]:=z0;show bA.of (o4 _ _ bn b4)) ?_ ?_
 .rintro i u σ H4 hu ⟨v7,rfl,U,ap,a7,o4⟩;rw[Od]at hu;let#[p,J,rfl]:=wh.mp hu;let as:=NC J;let#[hi,cT]:=sN.mp J;let T4:=U.tb _ (Tb.aI hx);let#[dL,d7]:=T4.at_.ob;let#[dm,dT]:=U.ob;let#[e,he]:=cg p as;let cc:=bY t x hx p e he;let c8:=Bg.len ri.good cc;show#[0,.inl #[5,bA.of ap],0,a.rp,dm,0,dT,iD _ _ _ ak ak ak,0,x.p,dL,0,d7,Tb.aS _ ak,0,x.p,x.fs,x.tb,p,rfl,T4.at_,λH5 v s5 hv=>?_];rw[T4.lk,he]at hv;let#[tt,rfl,ba]:=hv;show#[_,a,s',W,tt,e,cv t p,rfl,U.same s5,ri.good,ba,cc,λH7 l7 s7 f7 h7=>?_];let S7:=s5.trans s7;let R7:=U.same S7;let cC:=S7 _ _ ap;show#[G,l7,_,0,rfl,cC,h7,by rw[ti,ti];omega,?_];rw[<-Ou, <-gG J];show#[0,R7.NF cC (.inr rfl) c3,ae,by rw[gG J,Oj];omega,λb o e z=>by rw[ai z];show S7 _ _ (o4 b o e z)]
 .rintro σ H4 ⟨v7,rfl,U,ap,a7,o4⟩;rw[ti,Ph]at ap a7;let c0:bA K H4 ca (cs.map V.int):=Rm.eR bz λo e=>o4 _ _ (s3 _ _ (S2 _ _ e)) (λz=>by rwa[z,a5]at e);let dV:=o4 _ _ bn b4;let bm:=Rm.iG hb (ws:=dY (cv t) ps) (by rw[eP];show a7);rw[eP]at bm;show#[0,0,0,0,G,ca,_,cs,ad,ps.length,rfl,ap,c0,by rw[a7];omega,af,c1,bm,λH5 l5 rs s5 dl b5 a4 c6 eh=>?_];let R5:=U.same s5;let cQ:=s5 _ _ dV;let bI:rs.length=ps.length:=by
   rw[a4.length];unfold Rm.fJ;rw[ti,Qg]
  let h8:=Rm.yi bm;generalize eC:Rm.fJ ps.length (Rm.eg (dY (cv t) ps) (ad%8).toNat cs)=ch at a4 h8;let dS:ch.length=ps.length:=(by rw[<-a4.length,bI]);let ec:jq (cv t) ad cs=ch:=(by unfold jq;rw[eP];show eC);let dI:Step H M (a.own W) H5 (λb=>M b\/b=G) (a.own W):=#[λb o e z=>s5 _ _ (o4 _ _ (s3 _ _ (S2 _ _ e)) (λy=>by rwa[y,a5]at e)),λb z _=>.inl z,λb z=>z.elim .inl λz=>.inr (by rw[z];show a5),λb z=>.inl z,R.mt,R.dv];let ci:∀r∈rs,¬ (M r\/r=G):=λr L z=>U.mt r z (c6 r L);let ee:∀{l},H4 l=none->¬ a.own W l:=λh z=>U.mt _ (U.dv _ z) h;show#[l2,l5,rfl,#[_,bA.of cQ],#[_,bA.of b5],?_];show zg (K:=K) (a:=l2) (b:=l5) (xs:=ps.map V.int) (ys:=rs.map V.ref) (λi σ H6=>FT λ(v7 v8:Option V)(M6:WZ)(s6:Pg.PS)(y:TD)=>Lw (σ=#v[.ref a.rp,.int t,.int ad,.ref ca,.ref y.p,.ref l2,.ref G,v7,v8]) (ay c H6 M6 a s6 (Tb.aW W t y)) (Pg.RI s6 (ents (Tb.aW W t y))) (Cv s6 (Tb.aW W t y) (gn cv t (((ps.zip ch).take i).reverse))) ((∀q,¬ q∈ps.take i->Tb.look y.t q=Tb.look x.t q)) ((∀q∈ps.take i,∃k,Tb.look y.t q=some (some k))) (Step H5 (λb=>M b\/b=G) (a.own W) H6 M6 (a.own (Tb.aW W t y))) (∀b,(s6.ow b).length=(s'.ow b).length))
   #[2,_,s',x,rfl,by rw[cY R.nd hx];show R5,by rw[cY R.nd hx];show ri,by rw[cY R.nd hx,Vo];change Cv s' W (gn cv t []);rw[xR];show bY,λ_ _=>rfl,λq hq=>by simp at hq,by rw[cY R.nd hx];show R5.refl,λ_=>rfl] (by rw[ti,ti,bI]) (λi σ H6 _ z0=>by
    let#[_,_,_,_,_,_,_,_,_,_,_,st,_]:=z0;show#[bA.of (st.off _ _ cQ c7),bA.of (st.off _ _ b5 (ee dl))]) ?_ ?_
  .rintro i u v σ H6 z hu hv hz ⟨v7,v8,M6,s6,y,rfl,R6,bf,a0,a3,a8,aB,bd⟩;rw[Od]at hu hv;let#[p,J,rfl]:=wh.mp hu;let#[r,cw,rfl]:=wh.mp hv;let bv:r∈rs:=NC cw;let as:=NC J;let#[hi,cT]:=sN.mp J;let#[am,cS,bV]:=ox a4 cw;let dA:=h8 am (NC cS);let dp:¬ p∈ps.take i:=λz=>by
    let#[j,I,e]:=RB z;rw[Q3]at e;rw[Oz]at I;show wI dC j i (ON af) J af e
   let dD:=aB.off _ _ bV (λw=>ci r bv (R5.dv _ w));let da:¬ M6 r:=λw=>(aB.mn r w).elim (ci r bv) λw=>(by rwa[bV]at w);let sT:=Tb.aw (X:=.tup [.int p,.ref r]) hz;show#[z,[.int p,.ref r],rfl,bM.of ae,rfl,.int p,[.ref r],rfl,.ref r,[],1,?_];let R7:=R6.same sT;let S7:=aB.trans (R6.iZ sT);let d3:=sT _ _ dD;generalize upd H6 z (.tup [.int p,.ref r])=H7 at *;let ac:=jP (y:=y) hx;let T7:=R7.tb _ (Tb.aI ac);let#[bH,bx]:=T7.at_.ob;let#[d4,d2]:=R7.ob;let#[e,b6]:=cg p as;let he:Tb.look y.t p=some e:=(a3 p dp).trans b6;show#[0,y.p,bH,0,bx,Tb.aS _ ak,0,0,a.rp,d4,0,d2,iD _ _ _ ak ak ak,0,y.p,bH,0,bx,Tb.aS _ ak,0,y.p,y.fs,y.tb,p,rfl,T7.at_,λH8 v s8 hv=>?_];rw[T7.lk,he]at hv;let#[tt,rfl,ba]:=hv;let R8:=R7.same s8;let S8:=S7.trans (R7.iZ s8);let pe:(ents (Tb.aW W t y)).Perm (e::(vx (Tb.bh y.t p)++ents (Tb.bh (Tb.aW W t y) t))):=(jZ R7.nd ac).trans ((wy T7.nd he).append_right _);show#[0,M6,a,s6,Tb.aW W t y,tt,r,e,_,am,rfl,R8,bf.perm pe,ba,s8 _ _ d3,da,dA,λH9 s9 k R9 dr b8 dO d5 c9=>?_];show#[gF,λu fu=>?_];let sU:=Tb.aw (X:=.tup [.str "sheet",.int k]) fu;let bc:=R9.same sU;let dH:=(S8.trans d5).trans (R9.iZ sU);let ea:upd H9 u (.tup [.str "sheet",.int k]) u=some (.tup [.str "sheet",.int k]):=ae;let dn:=bc.tb _ (Tb.aI ac);let#[g1,g2]:=TX.pg (q:=p) (by rw[b6];simp);show#[y.p,y.fs,u,y.tb,p,[.str "sheet",.int k],rfl,dn.at_,g1,g2,.inl ea,rfl,λc4 ao d6 d8 b3 ce=>?_];let TI:dZ c.T c4 #[y.p,y.fs,ao,(p,some k)::Tb.bh y.t p]:=#[d6,Tb.Ji T7.nd,λj=>by
    rw[d8 j,Tb.mf];cases w:j=p
    .rw[WY w,WY w];rfl
    .rw[WX w,WX w];show T7.lk j]
   let b0:=bc.ye (y:=#[y.p,y.fs,ao,(p,some k)::Tb.bh y.t p]) ac rfl TI b3 ce;let cP:=dH.trans (bc.tH (y:=#[y.p,y.fs,ao,(p,some k)::Tb.bh y.t p]) ac b3 ce);let b7:=Bo (y:=#[y.p,y.fs,ao,(p,some k)::Tb.bh y.t p]) (e:=some k) (q:=p) R7.nd ac rfl;rw[set_set]at b0 cP b7;let eb:(ps.zip ch)[i]?=some (p,am):=by
    rw[List.getElem?_zip_eq_some];show#[J,cS]
   show#[2,_,s9,#[y.p,y.fs,ao,(p,some k)::Tb.bh y.t p],rfl,b0,dr.perm b7.symm,3,?_,cP,λb=>(c9 b).trans (bd b)]
   .intro ab bl aT q O S;rw[OY,eb,show(some (p,am)).toList=[(p,am)]from rfl,Rx,show([(p,am)]:List (Int×List Int)).reverse=[(p,am)]from rfl,List.singleton_append,wu];rw[Tb.cp ab hx]at aT;let cr:∀{O},O∈vx (Tb.bh y.t p)\/O∈ents (Tb.bh (Tb.aW W t y) t)->O∈vx (Tb.bh y.t p)++ents (Tb.bh (Tb.aW W t y) t):=λh=>By.mpr h;cases w:ab=t
    .rw[WY w]at aT;cases aT;let S:Tb.look ((p,some k)::Tb.bh y.t p) q=some O:=S;rw[Tb.mf]at S;cases w2:q=p
     .rw[WY w2]at S;cases S;rw[WY #[w,w2]];show dO
     .rw[WX w2]at S;rw[WX (λh=>w2 h.2)];show b8 O (cr (.inl ?_)) _ (a0 ab y (by rw[w];show ac) q O S);show Ol.mpr #[(q,O),Tb.qU (Tb.aI S) w2,rfl]
    .rw[WX w]at aT;rw[WX (λh=>w h.1)];let h2:Tb.look (Tb.aW W t y) ab=some bl:=(by rw[Tb.cp ab hx,WX w];show aT);show b8 O (cr (.inr ?_)) _ (a0 ab bl h2 q O S);show RP.mpr #[(ab,bl),Tb.qU (Tb.aI h2) w,Ol.mpr #[(q,O),Tb.aI S,rfl]]
   .intro j I;rw[OY,J]at I;let w:j≠p:=λw=>I (by rw[w];simp);change Tb.look ((p,some k)::Tb.bh y.t p) j=_;rw[Tb.mf,WX w];show a3 j λh=>I (Pc _ h)
   .intro j I;change ∃k',Tb.look ((p,some k)::Tb.bh y.t p) j=some (some k');rw[Tb.mf];cases w:j=p
    .rw[WY w];show#[k,rfl]
    .rw[WX w];rw[OY,J]at I;rcases By.mp I with I|I
     .show a8 j I
     .show absurd ‹I› w
  .rintro σ H6 ⟨v7,v8,M6,s6,y,rfl,R6,bf,a0,a3,a8,aB,bd⟩;rw[ti,Ph]at a3 a8;rw[ti,O8 (by rw[List.length_zip,dS];omega), <-ec]at a0;show q H6 M6 s6 y R6 bf a0 a3 a8 (dI.trans aB) bd
def tD(cv:W6)(t o:Int):Int->Int->List Int:=λt' q=>if t'=o then cv t q else cv t' q
inductive tX(c:CA)(v:List V)(H:Hp)(Q:VK)(e:XK):Prop
 |mk(M:WZ)(a:RA)(s:Pg.PS)(W:bF)(cv:W6)(t o:Int)(x:TD)(_:v=[.ref a.rp,.int t,.int o])(_:ay c H M a s W)(_:Pg.RI s (ents W))(_:Cv s W cv)(_:W.length<=1000)(_:Tb.look W t=some x)(_:Tb.look W o=none)(_:(ents W).length+x.t.length<=bK s)(_:∀(H':Hp)(M':WZ)(s':Pg.PS)(y:TD),(∀q,Tb.look y.t q=Tb.look x.t q)->ay c H' M' a s' (W++[(o,y)])->Pg.RI s' (ents (W++[(o,y)]))->Cv s' (W++[(o,y)]) (tD cv t o)->Step H M (a.own W) H' M' (a.own (W++[(o,y)]))->(∀b,(s'.ow b).length=(s.ow b).length)->Q .bB H')
theorem pO(W:bF)(o:Int)(y:TD):ents (W++[(o,y)])=ents W++vx y.t:=by
 unfold ents;rw[Sl];simp
theorem p9:aD ["self","task","other","table","pages","copied","page","entry"] ["self","task","other"] (au sR):=L2.bL
theorem Dd{f fI:Addr}{fd dI:t7}{c:CA}(F:cq K "copy" "Rooms.copy" sR f fd)(T:rj K mg c)(TT:Tb.Txt K mg c.T)(TP:uw K mg c.P)(MK:Mk K c.T fI)(cr:mg "Table" = some (.ref c.T))(GR:↥Df 1 "room_of" bP)(GS:↥Df 1 "refuse_second_room" eE)(GA:↥Df 1 "refuse_above" f9)(GI:↥aG 1 fI dI ["self"] (Tb.gu c.T))(bI:Binds K dI ["self"] [])(cg:↥Md 1 c.T "pages" (Tb.d9 c.T))(GH:↥Md 2 c.C "held" (gY c))(GG:↥Md 3 c.T "get" (Tb.sA c.T))(GL:↥Md 3 c.T "lay" (Tb.wc K c.T))(b6:↥Md 4 c.P "share" (uU c.P c.S)):↥aG 5 f fd ["self","task","other"] (tX c):=by
 let#[aB,mB,sB]:=T.bl;let rB:RelV (.ref aB) (.ref aB):=rfl;show F.eL p9 (λdD A outer s H vs Q E O h=>?_);let#[M,a,s',W,cv,t,o,x,rfl,R,ri,ch,lw,hx,a4,c4,q]:=h;let hs:=HC;let#[dx,ho]:=R.ob;let TX:=R.tb _ (Tb.aI hx);let#[c8,ht]:=TX.at_.ob;show#[_,(aj (cV 3 p9.nd (pc GR O az (aa (aH (pv 0) rfl) (aa (pv 1) ag))))
  (aj (aV (pc GS O az (aa (aH (pv 0) rfl) (aa (pv 2) ag))))
  (aj (cV 4 p9.nd (qB (pv 3) TT.cl cg O az))
  (aj (aV (pc GA O az (aa (aA bR (qB (pv 0) T.cl GH O az) (a9 bS (by rfl) T.len boot_len (aa (pv 4) ag))) (aa (aH (pv 0) rfl) ag))))
  (aj (cV 5 p9.nd (wC MK GI (O.mono aq) (by rfl) cr bI .nil az))
  (aj (dh Ow rfl (dQ (pv 4)) (nD 6 p9.nd) (aj (cV 7 p9.nd (pm (pv 3) TT.cl GG O az (aa (pv 6) ag)))
  (aj (aV (pm (pv 5) TT.cl GL O az (aa (pv 6) (aa (pv 7) ag))))
  (ar (bJ (aJ (xi O.mG) (pv 7) (bO (by rfl) mB rB) (aP _)) (ar (aV (pm (aH (pv 0) rfl) TP.cl b6 O az (aa (aL aN (pv 7) ah cB) ag)))) aR)))))
  (ar (fZ (de O) (aH (pv 0) rfl) (pv 2) (pv 5) rfl)))))))),?_]
 show#[0,a.rp,c.C,dx,_,0,ho,T.cl,T.nR,cN _ _ _,0,a.rd,W,t,x,rfl,R.hd,hx,?_];show#[0,a.rp,c.C,dx,_,0,ho,T.cl,T.nR,cN _ _ _,0,a.rd,W,o,rfl,R.hd,a4,?_];show#[0,x.p,c8,0,ht,Tb.aS _ ak,x.p,x.fs,x.tb,rfl,TX.at_,λH1 l1 ns s1 dp c2 pm dH=>?_];let R1:=R.same s1;let dm:ns.length=x.t.length:=TX.len pm;let#[cC,ci]:=R1.ob;show#[0,a.rp,cC,0,ci,iD _ _ _ ak ak ak,M,a,s',W,rfl,R1,lw,λH2 s2=>?_];let R2:=R1.same s2;let bc:=s2 _ _ c2;let#[c5,c7]:=R2.ob;show#[0,l1,0,.inl (bA.of bc),_,0,rfl,0,a.rp,c.C,c5,_,0,c7,T.cl,T.nT,Fz _ _ _,_,0,by rw[ti,dm];omega,?_];let S2:=s1.trans s2;show λp cT np bn dC=>#[p,cT,rfl,ae,λfs H3 bV T3 off=>#[4]];let s3:aQ H2 H3:=λb u e=>off b u (by rw[ai (av e np),ai (av e bn)];show e) (av e np);let a3:H2 fs=none:=by
  cases e:H2 fs with
  |none=>rfl
  |some u=>rwa[ai (av e np),ai (av e bn),e]at bV
 let bf:H fs=none:=S2.free a3;let b7:H p=none:=S2.free np;let R3:=R2.Hl (H':=H3) (B:=λ_=>False) (M':=λb=>M b\/b=fs) (λb o e _=>s3 b o e) (λb z=>z.elim) (λb z=>z.elim) (λb z=>z.elim .inl λz=>.inr (by rw[z];show a3)) (λb z _=>.inl z) (λb z e=>z.elim (λz=>(R2.same s3).mt b z e) λz=>by rwa[z,T3.hf]at e);let bH:=s3 _ _ bc;let dl:¬ a.own W l1:=λz=>R.mt _ (R.dv _ z) dp;let db:Step H M (a.own W) H3 (λb=>M b\/b=fs) (a.own W):=#[λb o e _=>s3 _ _ (S2 _ _ e),λb z _=>.inl z,λb z=>z.elim .inl λz=>.inr (by rw[z];show bf),λb z=>.inl z,R.mt,R.dv];let dd:∀b,(TD.mk p fs [] []).gk b->b=fs:=λb z=>by
  rcases z with z|⟨_,hx,_⟩
  .show z
  .cases hx
 let dr:ns.Nodup:=pm.nodup_iff.mpr (Tb.mD TX.at_);show#[0,l1,rfl,#[_,bA.of bH],?_];show dg (K:=K) (a:=l1) (xs:=ns.map V.int) (λi σ H4=>FT λ(v6 v7:Option V)(U:WZ)(I:Pg.PS)(y:TD)=>JK (σ=#v[.ref a.rp,.int t,.int o,.ref x.p,.ref l1,.ref y.p,v6,v7]) (ay c H4 U a I W) (dZ c.T H4 y) ((∀b,y.gk b->U b/\¬ a.own W b/\H b=none/\b≠l1)) (¬ a.A.own y.p) ((∀q,Tb.look y.t q=if q∈ns.take i then Tb.look x.t q else none)) (Pg.RI I (vx y.t++ents W)) (y.t.length=i) (Cv I W cv) ((∀q e,Tb.look y.t q=some e->Pg.Bg I e (cv t q))) (Step H M (a.own W) H4 U (a.own W)) (H4 l1=some (.lst (ns.map V.int))) (∀b,(I.ow b).length=(s'.ow b).length))
  #[2,_,s',#[p,fs,[],[]],rfl,R3,#[T3,Pk,λq=>rfl],λb z=>?_,λz=>R.mt _ (R.ok.own _ z) b7,λq=>by simp[Tb.ix],ri,rfl,ch,λq e h=>(by cases h),db,bH,λ_=>rfl] (λi σ H4 _ z0=>by let#[_,_,_,_,_,_,_,_,_,_,_,_,_,_,_,_,h,_]:=z0;show bA.of h) ?_ ?_
 .rw[dd b z];show#[.inr rfl,λw=>R.mt _ (R.dv _ w) bf,bf,λw=>by rwa[w,bc]at a3]
 .rintro i u σ H4 hu ⟨v6,v7,U,I,y,rfl,R4,T4,L,as,aT,ac,a5,ap,a7,am,be,ao⟩;rw[Od]at hu;let#[G,hp,rfl]:=wh.mp hu;let c3:=NC hp;let#[hi,dA]:=sN.mp hp;let cQ:¬ G∈ns.take i:=λz=>by
   let#[j,hj,e]:=RB z;rw[Q3]at e;rw[Oz]at hj;show wI dr j i (ON af) hp af e
  obtain⟨e,he⟩:∃e,Tb.look x.t G=some e:=by
   cases z:Tb.look x.t G with
   |none=>show absurd z ((TX.mem pm G).mp c3)
   |some e=>show#[e,rfl]
  let ce:Tb.look y.t G=none:=(by rw[aT,WX cQ]);let X4:=R4.tb _ (Tb.aI hx);let#[c1,dj]:=X4.at_.ob;show#[0,x.p,c1,0,dj,Tb.aS _ ak,0,x.p,x.fs,x.tb,G,rfl,X4.at_,λH5 v s5 hv=>?_];rw[X4.lk,he]at hv;let#[tt,rfl,ba]:=hv;let R5:=R4.same s5;let T5:dZ c.T H5 y:=#[T4.at_.same s5,T4.nd,T4.lk];let#[cS,dn]:=T5.at_.ob;let#[g1,g2]:=TX.pg (q:=G) (by rw[he];simp);let b8:Tb.qP (Ar e)=true:=(by cases e<;>rfl);show#[0,y.p,cS,0,dn,Tb.aS _ ak,0,0,y.p,y.fs,tt,y.tb,G,Ar e,rfl,T5.at_,g1,g2,.inl ba,b8,λH6 ab T6 l6 o6 n6=>?_];let ca:¬ y.gk tt:=λz=>by
   let#[_,h]:=T5.at_.dK z;rwa[ba]at h
  let bx:=o6 _ _ ba ca;let a8:dZ c.T H6 #[y.p,y.fs,ab,(G,e)::y.t]:=#[T6,Oo.mpr #[Tb.bW ce,T4.nd],λj=>by
   rw[l6 j,Tb.aK];cases z:j=G
   .rw[WY z,WY z.symm];rfl
   .rw[WX z,WX (D0 z)];show T4.lk j]
  let bY:∀{b},H5 b=none->¬ a.own W b/\H b=none:=λ{b} h=>by
   let no:¬ a.own W b:=λz=>R5.mt _ (R5.dv _ z) h;show#[no,((am.trans (R4.iZ s5)).gone h).resolve_left no]
  let R6:=R5.Hl (H':=H6) (B:=y.gk) (M':=λb=>(U b/\¬ y.gk b)\/(TD.mk y.p y.fs ab ((G,e)::y.t)).gk b) o6 (λb z=>#[(L b z).1,(L b z).2.1]) (λb z=>.inr (T5.at_.dK z)) (λb z=>z.elim (λz=>.inl z.1) λz=>(n6 b z).elim (λz=>.inl (L b z).1) .inr) (λb z w=>.inl #[z,w]) (λb z w=>by
   rcases z with z|z
   .cases e2:H5 b with
    |none=>show R5.mt b z.1 e2
    |some u=>rwa[o6 b u e2 z.2]at w
   .let#[_,h]:=a8.at_.dK z;rwa[w]at h)
  let a6:∀b,(TD.mk y.p y.fs ab ((G,e)::y.t)).gk b->((U b/\¬ y.gk b)\/(TD.mk y.p y.fs ab ((G,e)::y.t)).gk b)/\¬ a.own W b/\H b=none/\b≠l1:=λb z=>by
   rcases n6 b z with w|w
   .show#[.inr z,(L b w).2]
   .show#[.inr z,(bY w).1,(bY w).2,λy=>by rwa[y,s5 _ _ be]at w]
  let bd:=am.trans (R4.iZ s5);let bv:Step H M (a.own W) H6 (λb=>(U b/\¬ y.gk b)\/(TD.mk y.p y.fs ab ((G,e)::y.t)).gk b) (a.own W):=#[λb o e z=>o6 _ _ (bd.off b o e z) (λw=>by rwa[(L b w).2.2.1]at e),λb z w=>.inl #[bd.mm b z w,λy=>R.mt b z (L b y).2.2.1],λb z=>z.elim (λz=>bd.mn b z.1) λz=>.inr (a6 b z).2.2.1,λb z=>.inl z,R.mt,R.dv];let b5:=o6 _ _ (s5 _ _ be) λz=>(L _ z).2.2.2 rfl;let b3:∀j,Tb.look ((G,e)::y.t) j=if j∈ns.take (i+1)then Tb.look x.t j else none:=λj=>by
   rw[Tb.aK,aT j,OY,hp];cases z:G=j
   .rw[WY z, <-z,WY (by simp),he]
   .rw[WX z];cases z2:j∈ns.take i
    .rw[WY z2,WY (Pc _ z2)]
    .rw[WX z2,WX (by simp[D0 z,z2])]
  let b4:(vx y.t++ents W).length<(I.ow true).length+(I.ow false).length:=by
   let e1:(vx y.t).length=i:=(by unfold vx;rw[ti];show a5);rw[Oj,e1,ao,ao];unfold bK at c4;omega
  let bz:=ap t x hx G e he;show#[0,tt,aB,_,0,rfl,bM.of bx,kG.sq (.inr sB),?_];cases e with
  |none =>
   show#[1,0,bw ?_];show#[2,_,I,#[y.p,y.fs,ab,(G,none)::y.t],rfl,R6,a8,a6,as,b3,ac.lay b4,by rw[Oq,a5],ap,λj J h'=>?_,bv,b5,ao];let h':Tb.look ((G,none)::y.t) j=some J:=h';rw[Tb.aK]at h';cases z:G=j
   .rw[WY z]at h';cases h';rw[<-z];show bz
   .rw[WX z]at h';show a7 j J h'
  |some k =>
   show#[1,0,eO ?_];let#[c9,c0]:=R6.ob;let#[da,cP]:=R6.pg.ob;let#[cs,cc,hv]:=ac.is k (Of _ (pM hx he));let#[b0,n0,hk,_,_]:=id hv;show#[0,a.rp,c.C,c9,_,0,c0,T.cl,T.nP,rY _ _ _,a.A.pg,da,0,cP,dq _ _ ak ak ak ak ak,0,tt,_,(1),0,rfl,bM.of bx,5,a.A,I,k,b0,n0,cs,cc,rfl,R6.LB ac,hk,hv,λH7 G7 O7=>?_];let sm:=λJ=>Pg.yz (es:=[J]) ac.good hk hv J (t6.mpr rfl);let bm:∀b,((Pg.cL I b0 n0 (cc+1)).ow b).length=(I.ow b).length:=λb=>Pg.eV b;show#[2,2,#[y.p,y.fs,ab,(G,some k)::y.t],rfl,R6.mX G7 O7 bm,a8.off O7 as (λb z w=>(a6 b z).2.1 (.inl w)) R6.pg.iV,a6,as,b3,ac.share hk hv b4,by rw[Oq,a5],ap.keep λJ _=>sm J,λj J h'=>?_,bv.trans (R6.Ld G7 O7),O7 _ _ b5 (λz=>dl (.inl z)),λb=>(bm b).trans (ao b)];let h':Tb.look ((G,some k)::y.t) j=some J:=h';rw[Tb.aK]at h';cases z:G=j
   .rw[WY z]at h';cases h';rw[<-z];show sm _ _ bz
   .rw[WX z]at h';show sm _ _ (a7 j J h')
 .rintro σ H4 ⟨v6,v7,U,I,y,rfl,R4,T4,L,as,aT,ac,a5,ap,a7,am,be,ao⟩;rw[ti,Ph]at aT;let hy:∀j,Tb.look y.t j=Tb.look x.t j:=λj=>by
   rw[aT j];cases z:j∈ns
   .rw[WY z]
   .rw[WX z];cases w:Tb.look x.t j with
    |none=>rfl
    |some e=>show absurd ((TX.mem pm j).mpr (by rw[w];simp)) z
  let#[cw,c6]:=R4.ob;show#[0,0,a.rp,c.C,cw,_,0,c6,T.cl,T.nR,cN _ _ _,0,a.rd,0,kL.k (k:=Ot o) R4.hd (by rw[Tb.ie];omega),?_];rw[show(V.ref y.p)=fR y from rfl,Tb.eJ a4];let R5:=R4.Dl a4 T4 (λb z=>#[(L b z).1,(L b z).2.1]) as;show q _ U I y hy R5 (by rw[pO];show ac.perm Q0) ?_ #[?_,am.mm,am.mn,λb z=>?_,R.mt,R.dv] ao
  .intro t' x' h' j J bi;rw[Tb.bU t' a4]at h';unfold tD;cases z:t'=o
   .rw[WY z]at h' ⊢;cases h';show a7 j J bi
   .rw[WX z]at h' ⊢;show ap t' x' h' j J bi
  .intro b u e z;rw[ai (λw=>z (.inr (.inl w)))];show am.off b u e z
  .rcases z with z|z|⟨x',a0,z⟩
   .show .inl (.inl z)
   .show .inl (.inr (.inl z))
   .rcases By.mp a0 with a0|a0
    .show .inl (.inr (.inr #[x',a0,z]))
    .rw[t6.mp a0]at z;show .inr (L b z).2.2.1
end St
namespace L2
open PySem PySem.Spec PyProof.Rows
section
variable{X:Cx}{CX:rk}{k j:Nat}{C:Addr}{sp:Sp}{E:XK}{x m:Str}{p pos apos:Q5}{e o:OE}{es:List OE}{ta:TE}{t:TA}
theorem uS(F:Df X.prog X.w X.K X.mg X.base (cI X.prog X.w) k x sp)(O:bp j X.A)(J:PA X.nK (e::es) t)(hex:X.ex=[]:=by rfl)(R:Gl X x:=by rfl)(I:k<=j:=by decide)
  (G:(x==("__debug__" : Str))=false:=by decide) (z:starEach (e::es) X.env=(false,eval e X.env)::starEach es X.env:=by rfl) (L:(backTo pos (starEach es X.env)).any (·.1)=false:=by rfl) :
  EG X (.Call (.Name x p) (e::es) [] pos) (Cw sp [] t):=by
 let#[f,fd,_,g,b,q,r]:=F;show cy g (O.mono I) hex R q r b .nil J G z L
def Fv:pJ:=λ_ _ _ _=>False
theorem bg{sts:List OB}:oH X sts Fv:=λ_ _ _ _ _ _ _ h=>h.elim
end
theorem sQ{a b:Str}{n m:Nat}(h:a.length<=n)(k:b.length<=m):(a++b).length<=n+m:=by rw[len_app];omega
end L2
namespace Rm
open PySem L2
theorem li{n:Int}(h:n.natAbs.log2<1920):(toString n:Str).length<=2000:=by have:=Gf h;omega
theorem G8:(Str.empty:Str).length<=0:=G0 _
inductive fj(CP:Addr)(v:List V)(H:Hp)(Q:VK)(e:XK):Prop
 |mk(p m:Int)(_:v=[.int p,.int m])(_:p.natAbs.log2<1920)(_:m.natAbs.log2<1920)(_:aX p m)(_:e (.ref CP) none H)
inductive gT(CP:Addr)(v:List V)(H:Hp)(Q:VK)(e:XK):Prop
 |mk(a b:Addr)(ms ps:List Int)(_:v=[.ref a,.ref b])(_:H a=some (.lst (ms.map V.int)))(_:H b=some (.lst (ps.map V.int)))(_:∀q∈ps,q.natAbs.log2<1920)(_:¬ ∀q∈ps,q∈ms)(_:e (.ref CP) none H)
inductive lq(CP CT:Addr)(v:List V)(H:Hp)(Q:VK)(e:XK):Prop
 |mk(a:Addr)(ms:List Int)(p m:Int)(C:Addr)(_:v=[.ref a,.int p,.int m])(_:H a=some (.lst (ms.map V.int)))(_:p.natAbs.log2<1920)(_:m.natAbs.log2<1920)(_:(aX p m/\C=CP)\/(¬ aX p m/\(∃q∈aE p m,q∈ms)/\C=CT))(_:∀H',aQ H H'->e (.ref C) none H')
inductive ke(CP:Addr)(v:List V)(H:Hp)(Q:VK)(e:XK):Prop
 |mk(a:Addr)(ms:List Int)(p m:Int)(_:v=[.ref a,.int p,.int m])(_:H a=some (.lst (ms.map V.int)))(_:p.natAbs.log2<1920)(_:m.natAbs.log2<1920)(_:aX p m\/¬ ∀q∈aE p m,q∈ms)(_:∀H',aQ H H'->e (.ref CP) none H')
inductive gK(CP:Addr)(v:List V)(H:Hp)(Q:VK)(e:XK):Prop
 |mk(a:Addr)(ms:List Int)(ad n:Int)(_:v=[.ref a,.int ad,.int n])(_:H a=some (.lst (ms.map V.int)))(_:n.natAbs.log2<1920)(_:(ed ad).natAbs.log2<1920)(_:(dB ad n).natAbs.log2<1920)(_:bq ad n ms)(_:∀H',aQ H H'->e (.ref CP) none H')
theorem rF{CP:Addr}(F:cq K "pages_from" "pages_from" iU f fd)(T:vA mg)(XP:qm K mg "NoPage" CP):⇑aG 1 f fd ["page","many"] (fj CP):=by
 let#[am,ab,U]:=T.vP;show F.gD JN (λac A outer s H vs Q E hr h=>?_);let#[p,m,rfl,I,J,nb,kE]:=h;show#[_,(ax (cG (PW.pt (lU (aJ gO (pv 1) ah (aP _)) (lU (aJ gO (pv 0) ah (aP _)) (kS (aJ oy (aA bR (pv 0) (pv 1)) (bO (by rfl) ab U) (aP _)))))) (bt (fU rfl XP.IV XP.IG rfl rfl (aa (iH (cF (lY (pv 1)) (cF br (cF (lY (pv 0)) (cF br kZ))))) ag))) bN)
  bg),?_]
 let S:(Str.ofString " from ").length<=6:=ak;let c2:(Str.ofString " on are no pages of a room").length<=26:=ak;let L:=sQ G8 (li J);let O:=sQ L S;let R:=sQ O (li I);let g4:=sQ R c2;let hs:=HC;show zd λQQ ji je=>?_;let G:QQ true H:=ji _ #[0,m,rfl,J,0,af,0,af,0,p,rfl,I,0,af,0,af,af,yq,kE];show#[0,_,0,rfl,0,?_];show fN (λc=>G) (λc=>?_);show#[0,_,0,rfl,0,?_];show fN (λc'=>G) (λc'=>?_);show#[0,0,_,0,5,0,rfl,0,?_];show rD (λc''=>G) (λc''=>?_);rcases nb with z|z|z
 .show absurd (decide_eq_true z) c
 .show absurd (decide_eq_true z) c'
 .show absurd (decide_eq_true z) c''
theorem uo{CP:Addr}(F:cq K "refuse_unmapped" "refuse_unmapped" jY f fd)(XP:qm K mg "NoPage" CP):⇑aG 1 f fd ["mapped","pages"] (gT CP):=by
 show F.gD EW (λab A outer s H vs Q E z h=>?_);let#[a,b,J,ps,rfl,ha,I,U,nb,R]:=h;let hs:=HC;show#[_,(bt (zG rfl rfl rfl (dQ (pv 1)) (nD 2 EW.nd) (bt (cG (aJ iW (pv 2) (pv 0) (by with_unfolding_all rfl)) (bt (fU rfl XP.IV XP.IG rfl rfl (aa (iH (cF br (cF (lY (pv 2)) (cF br kZ)))) ag))) bN)))),?_];show#[0,b,rfl,#[_,bA.of I],?_];show sg (K:=K) (a:=b) (xs:=ps.map V.int) (λi σ H2=>∃v2:Option V,σ=#v[.ref a,.ref b,v2]/\H2=H/\∀q∈ps.take i,q∈J) #[0,rfl,(λ_ h=>nomatch h)] (λi σ H2 _ z0=>by let#[_,_,e,_]:=z0;rw[e];show bA.of I) ?_ ?_
 .rintro i x σ H2 hx ⟨v2,rfl,rfl,G⟩;rw[Od]at hx;let#[q,L,rfl]:=wh.mp hx;let O:=U q (NC L);let c1:(Str.ofString "page ").length<=5:=ak;let c2:(Str.ofString " is not mapped").length<=14:=ak;let S:=sQ G8 c1;let g2:=sQ S (li O);let g3:=sQ g2 c2;show#[0,0,a,0,.inl (bA.of ha),rfl,fX _,0,?_];rw[jx];cases h:q∈J
  .rw[decide_eq_true h];show bw #[0,rfl,λr z=>?_];rw[OY,L]at z;rcases By.mp z with z|z
   .show G r z
   .have:r=q:=‹z›;rw[this];show h
  .rw[decide_eq_false h];show eO #[0,af,0,q,rfl,O,0,af,0,af,af,yq,R]
 .rintro σ H2 ⟨v2,rfl,rfl,G⟩;rw[ti,Ph]at G;show absurd G nb
theorem AY{CP CT:Addr}(F:cq K "pages_to_map" "pages_to_map" uJ f fd)(XK:qm K mg "Taken" CT)(GP:↥Df 1 "pages_from" di)(GX:⇑Df 1 "pages_from" (fj CP)):⇑aG 2 f fd ["mapped","page","many"] (lq CP CT):=by
 show F.gD x6 (λam A outer s H vs Q E z h=>?_);let#[a,S,p,m,C,rfl,ha,hp,hm,G,O]:=h;let hs:=HC;rcases G with⟨G,rfl⟩|⟨G,⟨q0,ac,ab⟩,rfl⟩
 .show#[_,(ax (rh 3 x6.nd (uS GX z (aa (pv 1) (aa (pv 2) ag)))) bg),?_];show#[0,0,p,m,rfl,hp,hm,G,O H (aQ.refl H)]
 show#[_,(ax (dP (cV 3 x6.nd (pc GP z az (aa (pv 1) (aa (pv 2) ag)))))
  (ax (zG rfl rfl rfl (dQ (pv 3)) (nD 4 x6.nd) (bt (cG (aJ rO (pv 4) (pv 0) (by with_unfolding_all rfl)) (bt (fU rfl XK.IV XK.IG rfl rfl (aa (iH (cF br (cF (lY (pv 4)) (cF br kZ)))) ag))) bN)))
  bg)),?_]
 show#[0,0,p,m,rfl,G,λH1 l R nl L=>?_];show#[0,l,rfl,#[_,bA.of L],?_];show sg (K:=K) (a:=l) (xs:=(aE p m).map V.int) (λi σ H2=>∃J:Option V,σ=#v[.ref a,.int p,.int m,.ref l,J]/\H2=H1/\∀q∈(aE p m).take i,¬ q∈S) #[0,rfl,(λ_ h=>nomatch h)] (λi σ H2 _ z0=>by let#[_,_,e,_]:=z0;rw[e];show bA.of L) ?_ ?_
 .rintro i x σ H2 hx ⟨J,rfl,rfl,I⟩;rw[Od]at hx;let#[q,U,rfl]:=wh.mp hx;let hl:=(iy G q (NC U)).2.2;let c1:(Str.ofString "page ").length<=5:=ak;let c2:(Str.ofString " is mapped").length<=10:=ak;let g1:=sQ G8 c1;let g2:=sQ g1 (li hl);let g3:=sQ g2 c2;show#[0,0,a,0,.inl (bA.of (R _ _ ha)),rfl,fX _,0,?_];rw[jx];by_cases h':q∈S
  .rw[decide_eq_true h'];show eO #[0,af,0,q,rfl,hl,0,af,0,af,af,yq,O _ R]
  .rw[decide_eq_false h'];show bw #[0,rfl,λr z=>?_];rw[OY,U]at z;rcases By.mp z with z|z
   .show I r z
   .have:r=q:=‹z›;rw[this];show h'
 .rintro σ H2 ⟨J,rfl,rfl,I⟩;rw[ti,Ph]at I;show absurd ab (I q0 ac)
theorem xW{CP:Addr}(F:cq K "pages_to_drop" "pages_to_drop" oZ f fd)(R:↥Df 1 "pages_from" di)(O:⇑Df 1 "pages_from" (fj CP))(L:⇑Df 1 "refuse_unmapped" (gT CP)):⇑aG 2 f fd ["mapped","page","many"] (ke CP):=by
 show F.gD C8 (λac A outer s H vs Q E G h=>?_);let#[a,S,p,m,rfl,ha,hp,U,hc,I]:=h;cases z:aX p m
 .show#[_,(ax (rh 3 C8.nd (uS O G (aa (pv 1) (aa (pv 2) ag)))) bg),?_];show#[0,0,p,m,rfl,hp,U,z,I H (aQ.refl H)]
 show#[_,(ax (dP (cV 3 C8.nd (pc R G az (aa (pv 1) (aa (pv 2) ag)))))
  (ax (dG (uS L G (aa (pv 0) (aa (pv 3) ag)))) bg)),?_]
 show#[0,0,p,m,rfl,z,λH1 l J nl ab=>?_];show#[0,0,a,l,S,aE p m,rfl,J _ _ ha,ab,λq hq=>(iy z q hq).2.2,hc.resolve_left z,I _ J]
theorem vO{CP:Addr}(F:cq K "pages_of_cells" "pages_of_cells" ma f fd)(T:vA mg)(XP:qm K mg "NoPage" CP)(GP:↥Df 1 "pages_from" di)(GX:⇑Df 1 "pages_from" (fj CP))(GU:⇑Df 1 "refuse_unmapped" (gT CP)):⇑aG 2 f fd ["mapped","address","many"] (gK CP):=by
 let#[u8,L,O]:=T.cells;show F.gD qH (λac A outer s H vs Q E S h=>?_);let#[a,ms,ad,n,rfl,ha,hn,hf,hc,I,R]:=h;let hs:=HC;let ne:¬ V.int n=V.int 0:=λz=>by
  have:n=0:=V.int.inj z;rcases I with b|⟨b,_⟩<;>omega
 cases J:n<0
 .show#[_,(ax (cG (aJ cK (pv 2) ah (aP _)) bg bN)
   (ax (cG (aJ gO (pv 2) ah (aP _)) (bt (fU rfl XP.IV XP.IG rfl rfl (aa (iH (cF (lY (pv 2)) (cF br kZ))) ag))) bN)
   bg)),?_]
  let c1:(Str.ofString " is no count of cells").length<=21:=ak;let g1:=sQ G8 (li hn);let g2:=sQ g1 c1;show zd λ_ ji G=>My (IY rfl) Jt rfl ne (G _ ?_);show#[0,_,0,rfl,0,?_];show fN (λ_=>?_) (λz=>absurd (decide_eq_true J) z);show#[0,n,rfl,hn,0,af,0,af,af,yq,R H (aQ.refl H)]
 let#[n0,I]:=I.resolve_left J;cases z:aX (ed ad) (dB ad n)
 .show#[_,(ax (cG (aJ cK (pv 2) ah (aP _)) bg bN)
   (ax (cG (aJ gO (pv 2) ah (aP _)) bg bN)
   (ax (dP (cV 3 qH.nd (aA bo (pv 1) (bO (by rfl) L O))))
   (ax (dP (cV 4 qH.nd (aA bo (aA mQ (aA bR (pv 1) (pv 2)) ah) (bO (by rfl) L O))))
   (ax (rh 5 qH.nd (uS GX S (aa (pv 3) (aa (aA bR (aA mQ (pv 4) (pv 3)) ah) ag)))) bg))))),?_]
  show zd λ_ ji G=>My (IY rfl) Jt rfl ne (G _ ?_);show#[0,_,0,rfl,0,?_];show fN (λy=>absurd (of_decide_eq_true y) J) (λ_=>?_);show#[0,_,0,rfl,#[aq,aq],0,0,_,0,5,0,5,0,rfl,#[aq,aq],?_];show#[0,0,0,_,0,5,0,rfl,ed ad,dB ad n,rfl,hf,hc,z,R H (aQ.refl H)]
 .show#[_,(ax (cG (aJ cK (pv 2) ah (aP _)) bg bN)
   (ax (cG (aJ gO (pv 2) ah (aP _)) bg bN)
   (ax (dP (cV 3 qH.nd (aA bo (pv 1) (bO (by rfl) L O))))
   (ax (dP (cV 4 qH.nd (aA bo (aA mQ (aA bR (pv 1) (pv 2)) ah) (bO (by rfl) L O))))
   (ax (dP (cV 5 qH.nd (pc GP S az (aa (pv 3) (aa (aA bR (aA mQ (pv 4) (pv 3)) ah) ag)))))
   (ax (dG (uS GU S (aa (pv 0) (aa (pv 5) ag)))) bg)))))),?_]
  show zd λ_ ji G=>My (IY rfl) Jt rfl ne (G _ ?_);show#[0,_,0,rfl,0,?_];show fN (λy=>absurd (of_decide_eq_true y) J) (λ_=>?_);show#[0,_,0,rfl,#[aq,aq],0,0,_,0,5,0,5,0,rfl,#[aq,aq],?_];show#[0,0,0,_,0,5,0,rfl,ed ad,dB ad n,rfl,z,λH1 l U nl ab=>?_];show#[0,0,a,l,ms,aE (ed ad) (dB ad n),rfl,U _ _ ha,ab,λq hq=>(iy z q hq).2.2,I.resolve_left z,R _ U]
end Rm
namespace L2
open PySem PySem.Spec PyProof.Rows
section
variable{X:Cx}{CX:rk}{k:Nat}{C:Addr}{sp:Sp}{m:Str}{p pos apos:Q5}{e o tg:OE}{es:List OE}{te ta:TE}{tx:Ed}{t:St->Hp->(Value->Hp->Prop)->Prop}
def Ly(X:Cx)(es:List OE)(t:St->Hp->(Value->Hp->Prop)->Prop):Prop :=
 ∀(pos:Q5)(pins:W7)(s:se)(σ:St)(H:Hp)(R:Value->Hp->Prop),~~~H s->t σ H R->↑(VH (backTo pos (starEach es X.env))) (λ_ _=>False) (XP X pins λz cls H'=>z=σ/\R cls H') s
def Ib(tx:Ed):St->Hp->(Value->Hp->Prop)->Prop:=λσ H R=>tx σ H (λ_ _=>False) R
theorem EP.no{pins:W7}{σ:St}{u:Value}{s:se}(h:EP X pins σ (λ_ _=>False) u s):False:=by
 let#[_,_,_,_,q]:=h;show q
theorem Du(F:EG X e tx)(hs:starEach (e::es) X.env=(false,eval e X.env)::starEach es X.env:=by rfl):Ly X (e::es) (Ib tx):=by
 intro pos pins s σ H R I h;rw[hs];change wpAny _ _ (VH ((false,eval e X.env)::backTo pos (starEach es X.env))) _ _ s;show Calls.spliced_cons (OL (F pins s σ H _ R I h) (λ_ _ z=>z.no.elim) λ_ _ z=>z)
theorem En(J:PE X.nK e te)(G:Ly X es t)(hs:starEach (e::es) X.env=(false,eval e X.env)::starEach es X.env:=by rfl):Ly X (e::es) (λσ H R=>te σ H λ_ H1=>t σ H1 R):=by
 intro pos pins s σ H R I h;rw[hs];change wpAny _ _ (VH ((false,eval e X.env)::backTo pos (starEach es X.env))) _ _ s;show Calls.spliced_cons (nx (J pins s σ H _ (I.gR _) h) λu O z=>?_);let#[x,H1,L,S,F]:=z;show OL (G pos pins O σ H1 R L.cu F) (λ_ _ z=>z.elim) λ_ _ z=>z
theorem AE{pl:Sem Bool}(L:PE X.nK o ta)(c:oE X.K C)(F:Md X.prog X.w X.K X.mg X.base CX k C m sp)(ha:Ly X (e::es) t)
  (S:starEach (e::es) X.env=(false,eval e X.env)::starEach es X.env:=by rfl) (ab:(backTo pos (starEach es X.env)).any (·.1)=false:=by rfl)
  (U:eval (.Call (.Attribute o m apos) (e::es) [] pos) X.env=(do
   let ov <-eval o X.env
   TB apos.atName
   let (f,first) <-Rp [ov] (RH ov m pl)
   Uo pos f first (backTo pos (starEach (e::es) X.env)) (Sa pos (Qy [] X.env))):=by rfl) :
  EG X (.Call (.Attribute o m apos) (e::es) [] pos) (λσ H _ R=>ta σ H λx H1=>∃a dx fs,x=.ref a/\H1 a=some (.ins C dx fs)/\fs.lookup m=none/\t σ H1 R):=by
 let#[f,fd,_,g,b,J]:=F;intros Q R I h;show Te (pl:=pl) (nx (L pins s σ H _ (I.gR _) h) λu O z=>?_) U;let#[x,H1,G,rx,a,dx,fs,ex,ea,l,q]:=z;subst ex;obtain rfl:u=Value.ref a:=rx;show iI G.cu ea c J l ?_;show RL (first:=[.ref a]) (h₀:=X.base) I.ok.mod.CH J.kp (OL (ha pos pins O σ H1 R G.cu q) (λ_ _ z=>z.elim) λ_ _ z=>z) S ab
theorem Cn{body:List OB}(F:EG X e tx)(hs:∀x,QO e X.env x=pure x:=by intro _;rfl):BZ X (.For tg e body [] pos) (λ_ R σ H=>tx σ H (λ_ _=>False) (R σ)):=by
 intros D R I h;show Wr (OL (F pins s σ H _ _ I h) (λ_ _ z=>z.no.elim) λ_ _ z=>z.at) hs
end
end L2
namespace St
open PySem L2
structure XA where
 nt:Addr
 np:Addr
 nr:Addr
 tk:Addr
def lg(n:Int):Prop:=n.natAbs.log2<1920
theorem Ij{n:Int}(h1 : -1000000<=n)(h2:n<=1000000):lg n:=by
 unfold lg;cases z:n.natAbs=0
 .rw[z];decide
 .rw[WC z];show Rt (show n.natAbs<=1000000 by omega) (OD (show 1000000<2^20 by decide) (Nat.pow_le_pow_right aq aq))
inductive eG(CN:Addr)(v:List V)(H:Hp)(Q:VK)(e:XK):Prop
 |mk(a:Addr)(W:bF)(t:Int)(_:v=[.ref a,.int t])(_:H a=some (.dK (Tb.dk fR W)))(_:lg t)(_:Tb.look W t=none)(_:e (.ref CN) none H)
inductive iB(CT:Addr)(v:List V)(H:Hp)(Q:VK)(e:XK):Prop
 |mk(a:Addr)(W:bF)(t:Int)(x:TD)(_:v=[.ref a,.int t])(_:H a=some (.dK (Tb.dk fR W)))(_:lg t)(_:Tb.look W t=some x)(_:e (.ref CT) none H)
inductive jw(CR:Addr)(v:List V)(H:Hp)(Q:VK)(e:XK):Prop
 |mk(h t:Int)(_:v=[.int h,.int t])(_:h<=1000000)(_:0<=t)(_:t<h)(_:e (.ref CR) none H)
def K8(xa:XA)(W:bF)(tt t p m:Int)(C:Addr):Prop :=
 (Tb.look W t=none/\C=xa.nt)\/∃x,Tb.look W t=some x/\((Rm.aX p m/\C=xa.np)\/(¬ Rm.aX p m/\(∃q∈Rm.aE p m,Tb.look x.t q≠none)/\C=xa.tk)\/(¬ Rm.aX p m/\(∀q∈Rm.aE p m,Tb.look x.t q=none)/\tt<(ents W).length+m/\C=xa.nr))
def IL(xa:XA)(W:bF)(t p m:Int)(C:Addr):Prop :=
 (Tb.look W t=none/\C=xa.nt)\/∃x,Tb.look W t=some x/\(Rm.aX p m\/∃q∈Rm.aE p m,Tb.look x.t q=none)/\C=xa.np
def II(xa:XA)(W:bF)(tt t o:Int)(C:Addr):Prop :=
 (Tb.look W t=none/\C=xa.nt)\/∃x,Tb.look W t=some x/\((Tb.look W o≠none/\C=xa.tk)\/(Tb.look W o=none/\tt<(ents W).length+x.t.length/\(ents W).length+x.t.length<=900000/\C=xa.nr))
def zr(xa:XA)(W:bF)(t ad n:Int)(C:Addr):Prop :=
 (Tb.look W t=none/\C=xa.nt)\/∃x,Tb.look W t=some x/\Rm.bq ad n (x.t.map (·.1))/\C=xa.np
inductive m9(c:CA)(xa:XA)(v:List V)(H:Hp)(Q:VK)(e:XK):Prop
 |mk(M:WZ)(a:RA)(s:Pg.PS)(W:bF)(t:Int)(x:TD)(_:v=[.ref a.rp,.int t])(_:ay c H M a s W)(_:lg t)(_:Tb.look W t=some x)(_:e (.ref xa.tk) none H)
inductive nW(c:CA)(xa:XA)(v:List V)(H:Hp)(Q:VK)(e:XK):Prop
 |mk(M:WZ)(a:RA)(s:Pg.PS)(W:bF)(t:Int)(_:v=[.ref a.rp,.int t])(_:ay c H M a s W)(_:lg t)(_:Tb.look W t=none)(_:e (.ref xa.nt) none H)
inductive sW(c:CA)(xa:XA)(v:List V)(H:Hp)(Q:VK)(e:XK):Prop
 |mk(M:WZ)(a:RA)(s:Pg.PS)(W:bF)(t p m:Int)(C:Addr)(_:v=[.ref a.rp,.int t,.int p,.int m])(_:ay c H M a s W)(_:W.length<=1000)(_:(ents W).length<=900000)(_:lg t)(_:lg p)(_:lg m)(_:K8 xa W (bK s) t p m C)(_:∀(H':Hp),aQ H H'->e (.ref C) none H')
inductive qf(c:CA)(xa:XA)(v:List V)(H:Hp)(Q:VK)(e:XK):Prop
 |mk(M:WZ)(a:RA)(s:Pg.PS)(W:bF)(t p m:Int)(C:Addr)(_:v=[.ref a.rp,.int t,.int p,.int m])(_:ay c H M a s W)(_:lg t)(_:lg p)(_:lg m)(_:IL xa W t p m C)(_:∀(H':Hp),aQ H H'->e (.ref C) none H')
inductive qN(c:CA)(xa:XA)(v:List V)(H:Hp)(Q:VK)(e:XK):Prop
 |mk(M:WZ)(a:RA)(s:Pg.PS)(W:bF)(t o:Int)(C:Addr)(_:v=[.ref a.rp,.int t,.int o])(_:ay c H M a s W)(_:W.length<=1000)(_:lg t)(_:lg o)(_:II xa W (bK s) t o C)(_:∀(H':Hp),aQ H H'->e (.ref C) none H')
inductive qu(c:CA)(xa:XA)(v:List V)(H:Hp)(Q:VK)(e:XK):Prop
 |mk(M:WZ)(a:RA)(s:Pg.PS)(W:bF)(t ad n:Int)(C:Addr)(_:v=[.ref a.rp,.int t,.int ad,.int n])(_:ay c H M a s W)(_:lg t)(_:lg n)(_:lg (Rm.ed ad))(_:lg (Rm.dB ad n))(_:zr xa W t ad n C)(_:∀(H':Hp),aQ H H'->e (.ref C) none H')
inductive p6(K:Om)(c:CA)(xa:XA)(v:List V)(H:Hp)(Q:VK)(e:XK):Prop
 |mk(M:WZ)(a:RA)(s:Pg.PS)(W:bF)(t ad:Int)(ca:Addr)(cs:List Int)(C:Addr)(_:v=[.ref a.rp,.int t,.int ad,.ref ca])(_:ay c H M a s W)(_:bA K H ca (cs.map V.int))(_:lg t)(_:lg cs.length)(_:lg (Rm.ed ad))(_:lg (Rm.dB ad cs.length))(_:zr xa W t ad cs.length C)(_:∀(H':Hp),aQ H H'->e (.ref C) none H')
theorem x8{CN:Addr}(F:cq K "room_of" "room_of" oN f fd)(z:Rm.qm K mg "NoTask" CN):⇑aG 1 f fd ["rooms","task"] (eG CN):=by
 show F.gD KL (λU A outer s H vs Q E J h=>?_);let#[a,W,t,rfl,S,G,e,L]:=h;let hs:=HC;show#[_,(ax (cG (nN (jQ (de J) (pv 1) (pv 0))) (bt (fU rfl z.IV z.IG rfl rfl (aa (iH (cF (lY (pv 1)) (cF br kZ))) ag))) bN) bg),?_];let R:(Str.ofString " has no room").length<=12:=ak;let O:=sQ Rm.G8 (Rm.li G);let g2:=sQ O R;let I:=mZ (t:=t) S;rw[e]at I;show#[0,0,a,0,I,0,eO #[0,t,rfl,G,0,af,0,af,af,yq,L]]
theorem yp{CT:Addr}(F:cq K "refuse_second_room" "refuse_second_room" pz f fd)(XK:Rm.qm K mg "Taken" CT):⇑aG 1 f fd ["rooms","task"] (iB CT):=by
 show F.gD KU (λS A outer s H vs Q E I h=>?_);let#[a,W,t,x,rfl,R,z,e,J]:=h;let hs:=HC;show#[_,(bt (cG (nN (Ex (de I) (pv 1) (pv 0))) (bt (fU rfl XK.IV XK.IG rfl rfl (aa (iH (cF (lY (pv 1)) (cF br kZ))) ag))) bN)),?_];let O:(Str.ofString " has a room").length<=11:=ak;let L:=sQ Rm.G8 (Rm.li z);let U:=sQ L O;let G:=mZ (t:=t) R;rw[e]at G;show#[0,0,a,0,G,0,eO #[0,t,rfl,z,0,af,0,af,af,yq,J]]
theorem Ab{CR:Addr}(F:cq K "refuse_above" "refuse_above" uI f fd)(XR:Rm.qm K mg "NoRoom" CR):⇑aG 1 f fd ["held","total"] (jw CR):=by
 show F.gD Ko (λS A outer s H vs Q E U h=>?_);let#[h,t,rfl,b1,b2,c,L]:=h;let hs:=HC;show#[_,(bt (cG (aJ oy (pv 0) (pv 1) (aP _)) (bt (fU rfl XR.IV XR.IG rfl rfl (aa (iH (cF (lY (pv 0)) (cF br (cF (lY (pv 1)) kZ)))) ag))) bN)),?_];let G:lg h:=Ij af af;let I:lg t:=Ij af af;let R:(Str.ofString " pages are more than ").length<=21:=ak;let O:=sQ Rm.G8 (Rm.li G);let J:=sQ O R;let g3:=sQ J (Rm.li I);show#[0,0,_,0,rfl,0,?_];show fN (λc=>?_) (λz=>absurd (decide_eq_true c) z);show#[0,h,rfl,G,0,af,0,af,0,t,rfl,I,0,af,af,yq,L]
theorem xt{c:CA}{xa:XA}(F:cq K "begin" "Rooms.begin" pG f fd)(T:rj K mg c)(z:⇑Df 1 "refuse_second_room" (iB xa.tk)):⇑aG 2 f fd ["self","task"] (m9 c xa):=by
 show F.gD FP (λL A outer s H vs Q E G h=>?_);let#[M,a,s',W,t,x,rfl,R,I,hx,q]:=h;let#[dx,J]:=R.ob;show#[_,(ax (dG (uS z G (aa (aH (pv 0) rfl) (aa (pv 1) ag)))) bg),?_];show#[0,a.rp,c.C,dx,_,0,J,T.cl,T.nR,cN _ _ _,0,a.rd,W,t,x,rfl,R.hd,I,hx,q]
theorem yA{c:CA}{xa:XA}(F:cq K "close" "Rooms.close" pb f fd)(T:rj K mg c)(I:⇑Df 1 "room_of" (eG xa.nt)):⇑aG 2 f fd ["self","task"] (nW c xa):=by
 show F.gD z9 (λL A outer s H vs Q E z h=>?_);let#[M,a,s',W,t,rfl,R,G,hx,q]:=h;let#[dx,J]:=R.ob;show#[_,(ax (rh 2 z9.nd (uS I z (aa (aH (pv 0) rfl) (aa (pv 1) ag)))) bg),?_];show#[0,a.rp,c.C,dx,_,0,J,T.cl,T.nR,cN _ _ _,0,a.rd,W,t,rfl,R.hd,G,hx,q]
theorem Ef{c:CA}{xa:XA}(F:cq K "map" "Rooms.map" yR f fd)(T:rj K mg c)(TT:Tb.Txt K mg c.T)(a5:⇑Df 1 "room_of" (eG xa.nt))(GR:↥Df 1 "room_of" bP)(GM:↥Df 2 "pages_to_map" Rm.gA)(ap:⇑Df 2 "pages_to_map" (Rm.lq xa.np xa.tk))(GA:⇑Df 1 "refuse_above" (jw xa.nr))(ao:↥Md 1 c.T "pages" (Tb.d9 c.T))(GH:↥Md 2 c.C "held" (gY c)):⇑aG 4 f fd ["self","task","page","many"] (sW c xa):=by
 show F.gD oJ (λa8 A outer s H vs Q E G h=>?_);let#[M,a,s',W,t,p,m,C,rfl,R,lw,le,lt,lp,lm,L,q]:=h;let#[dx,ho]:=R.ob;rcases L with⟨hx,rfl⟩|⟨x,hx,L⟩
 .show#[_,(ax (rh 4 oJ.nd (uS a5 G (aa (aH (pv 0) rfl) (aa (pv 1) ag)))) bg),?_];show#[0,a.rp,c.C,dx,_,0,ho,T.cl,T.nR,cN _ _ _,0,a.rd,W,t,rfl,R.hd,lt,hx,q H (aQ.refl H)]
 let J:=R.tb _ (Tb.aI hx);let#[ac,ht]:=J.at_.ob;cases am:¬ Rm.aX p m/\∀z∈Rm.aE p m,Tb.look x.t z=none
 .let#[I,ab]:=am;obtain⟨ba,rfl⟩:bK s'<(ents W).length+m/\C=xa.nr:=by
   rcases L with⟨z,_⟩|⟨_,⟨z,z1,z2⟩,_⟩|⟨_,_,z⟩
   .show absurd z I
   .show absurd (ab z z1) z2
   .show z
  let b1:¬ m<1:=λz=>I (.inl z);let b2:¬ p<0:=λz=>I (.inr (.inl z));let b3:¬ 64<p+m:=λz=>I (.inr (.inr z));let pl:=qV I;show#[_,(ax (dP (cV 4 oJ.nd (pc GR G az (aa (aH (pv 0) rfl) (aa (pv 1) ag)))))
   (ax (dP (cV 5 oJ.nd (pc GM G az (aa (qB (pv 4) TT.cl ao G az) (aa (pv 2) (aa (pv 3) ag))))))
   (ax (dG (uS GA G (aa (aA bR (qB (pv 0) T.cl GH G az) (a9 bS (by rfl) T.len boot_len (aa (pv 5) ag))) (aa (aH (pv 0) rfl) ag))))
   bg))),?_]
  show#[0,a.rp,c.C,dx,_,0,ho,T.cl,T.nR,cN _ _ _,0,a.rd,W,t,x,rfl,R.hd,hx,?_];show#[0,x.p,ac,0,ht,Tb.aS _ ak,x.p,x.fs,x.tb,rfl,J.at_,λH1 O ns U a6 S pm a7=>?_];show#[0,0,O,ns,p,m,rfl,S,I,λz h1 h2=>absurd (ab z h1) ((J.mem pm z).mp h2),λH2 l2 s2 bc a4=>?_];let S2:=U.trans s2;let R2:=R.same S2;let#[as,aB]:=R2.ob;show#[0,a.rp,as,0,aB,iD _ _ _ ak ak ak,M,a,s',W,rfl,R2,lw,λH3 s3=>?_];let a3:=s3 _ _ a4;let R3:=R2.same s3;let#[aT,a0]:=R3.ob;show#[0,l2,0,.inl (bA.of a3),_,0,rfl,0,a.rp,c.C,aT,_,0,a0,T.cl,T.nT,Fz _ _ _,_,0,3,?_,q H3 (S2.trans s3)]
  .rw[ti,pl];omega
  .unfold bK;omega
  .rw[ti,pl];omega
 .show#[_,(ax (dP (cV 4 oJ.nd (pc GR G az (aa (aH (pv 0) rfl) (aa (pv 1) ag)))))
   (ax (rh 5 oJ.nd (uS ap G (aa (qB (pv 4) TT.cl ao G az) (aa (pv 2) (aa (pv 3) ag))))) bg)),?_]
  show#[0,a.rp,c.C,dx,_,0,ho,T.cl,T.nR,cN _ _ _,0,a.rd,W,t,x,rfl,R.hd,hx,?_];show#[0,x.p,ac,0,ht,Tb.aS _ ak,x.p,x.fs,x.tb,rfl,J.at_,λH1 O ns U a6 S pm a7=>?_];show#[0,0,O,ns,p,m,C,rfl,S,lp,lm,?_,λH2 s2=>q H2 (U.trans s2)];rcases L with z|⟨z,⟨y,y1,y2⟩,z2⟩|⟨z,z1,_⟩
  .show .inl z
  .show .inr #[z,#[y,y1,(J.mem pm y).mpr y2],z2]
  .show absurd #[z,z1] am
theorem Ax{c:CA}{xa:XA}(F:cq K "drop" "Rooms.drop" tQ f fd)(T:rj K mg c)(TT:Tb.Txt K mg c.T)(ac:⇑Df 1 "room_of" (eG xa.nt))(GR:↥Df 1 "room_of" bP)(am:⇑Df 2 "pages_to_drop" (Rm.ke xa.np))(U:↥Md 1 c.T "pages" (Tb.d9 c.T))(S:↥Md 5 c.C "leave_pages" (fC c)):⇑aG 3 f fd ["self","task","page","many"] (qf c xa):=by
 show F.gD rE (λap A outer s H vs Q E G h=>?_);let#[M,a,s',W,t,p,m,C,rfl,R,lt,lp,lm,L,q]:=h;let#[dx,I]:=R.ob;rcases L with⟨hx,rfl⟩|⟨x,hx,L,rfl⟩
 .show#[_,(ax (rh 4 rE.nd (uS ac G (aa (aH (pv 0) rfl) (aa (pv 1) ag)))) bg),?_];show#[0,a.rp,c.C,dx,_,0,I,T.cl,T.nR,cN _ _ _,0,a.rd,W,t,rfl,R.hd,lt,hx,q H (aQ.refl H)]
 let J:=R.tb _ (Tb.aI hx);let#[ao,ht]:=J.at_.ob;show#[_,(ax (dP (cV 4 rE.nd (pc GR G az (aa (aH (pv 0) rfl) (aa (pv 1) ag)))))
  (bt (dG (AE (pv 0) T.cl S (En (pv 4) (Du (uS am G (aa (qB (pv 4) TT.cl U G az) (aa (pv 2) (aa (pv 3) ag)))))))))),?_]
 show#[0,a.rp,c.C,dx,_,0,I,T.cl,T.nR,cN _ _ _,0,a.rd,W,t,x,rfl,R.hd,hx,?_];show#[0,a.rp,dx,0,I,iD _ _ _ ak ak ak,0,0,x.p,ao,0,ht,Tb.aS _ ak,x.p,x.fs,x.tb,rfl,J.at_,λH1 l1 ns s1 as ab pm aB=>?_];show#[0,0,l1,ns,p,m,rfl,ab,lp,lm,?_,λH2 s2=>q H2 (s1.trans s2)];rcases L with z|⟨y,y1,O⟩
 .show .inl z
 .show .inr λz=>(J.mem pm y).mp (z y y1) O
theorem zO{c:CA}{xa:XA}(F:cq K "copy" "Rooms.copy" sR f fd)(T:rj K mg c)(TT:Tb.Txt K mg c.T)(aT:⇑Df 1 "room_of" (eG xa.nt))(U:↥Df 1 "room_of" bP)(a5:⇑Df 1 "refuse_second_room" (iB xa.tk))(GS:↥Df 1 "refuse_second_room" eE)(GA:⇑Df 1 "refuse_above" (jw xa.nr))(ab:↥Md 1 c.T "pages" (Tb.d9 c.T))(GH:↥Md 2 c.C "held" (gY c)):⇑aG 5 f fd ["self","task","other"] (qN c xa):=by
 show F.gD p9 (λa6 A outer s H vs Q E z h=>?_);let#[M,a,s',W,t,o,C,rfl,R,lw,lt,lo,rf,q]:=h;let#[dx,G]:=R.ob;rcases rf with⟨hx,rfl⟩|⟨x,hx,⟨ap,rfl⟩|⟨ac,a7,le,rfl⟩⟩
 .show#[_,(ax (rh 3 p9.nd (uS aT z (aa (aH (pv 0) rfl) (aa (pv 1) ag)))) bg),?_];show#[0,a.rp,c.C,dx,_,0,G,T.cl,T.nR,cN _ _ _,0,a.rd,W,t,rfl,R.hd,lt,hx,q H (aQ.refl H)]
 .let#[y,hy]:=Option.ne_none_iff_exists'.mp ap;show#[_,(ax (dP (cV 3 p9.nd (pc U z az (aa (aH (pv 0) rfl) (aa (pv 1) ag)))))
   (ax (dG (uS a5 z (aa (aH (pv 0) rfl) (aa (pv 2) ag)))) bg)),?_]
  show#[0,a.rp,c.C,dx,_,0,G,T.cl,T.nR,cN _ _ _,0,a.rd,W,t,x,rfl,R.hd,hx,?_];show#[0,a.rp,c.C,dx,_,0,G,T.cl,T.nR,cN _ _ _,0,a.rd,W,o,y,rfl,R.hd,lo,hy,q H (aQ.refl H)]
 let L:=R.tb _ (Tb.aI hx);let#[a0,ht]:=L.at_.ob;show#[_,(ax (dP (cV 3 p9.nd (pc U z az (aa (aH (pv 0) rfl) (aa (pv 1) ag)))))
  (ax (dP (aV (pc GS z az (aa (aH (pv 0) rfl) (aa (pv 2) ag)))))
  (ax (dP (cV 4 p9.nd (qB (pv 3) TT.cl ab z az)))
  (ax (dG (uS GA z (aa (aA bR (qB (pv 0) T.cl GH z az) (a9 bS (by rfl) T.len boot_len (aa (pv 4) ag))) (aa (aH (pv 0) rfl) ag))))
  bg)))),?_]
 show#[0,a.rp,c.C,dx,_,0,G,T.cl,T.nR,cN _ _ _,0,a.rd,W,t,x,rfl,R.hd,hx,?_];show#[0,a.rp,c.C,dx,_,0,G,T.cl,T.nR,cN _ _ _,0,a.rd,W,o,rfl,R.hd,ac,?_];show#[0,x.p,a0,0,ht,Tb.aS _ ak,x.p,x.fs,x.tb,rfl,L.at_,λH1 l1 ns S a8 am pm ba=>?_];let I:=R.same S;let O:ns.length=x.t.length:=L.len pm;let#[aB,ao]:=I.ob;show#[0,a.rp,aB,0,ao,iD _ _ _ ak ak ak,M,a,s',W,rfl,I,lw,λH3 J=>?_];let a4:=J _ _ am;let R3:=I.same J;let#[as,a3]:=R3.ob;show#[0,l1,0,.inl (bA.of a4),_,0,rfl,0,a.rp,c.C,as,_,0,a3,T.cl,T.nT,Fz _ _ _,_,0,3,?_,q H3 (S.trans J)]
 .rw[ti,O];omega
 .unfold bK;omega
 .rw[ti,O];omega
theorem Ej{H:Hp}{c:CA}{x:TD}{ad n:Int}{I:List Int}(G:dZ c.T H x)(pm:I.Perm (Tb.gS x.tb))(h:Rm.bq ad n (x.t.map (·.1))):Rm.bq ad n I:=by
 rcases h with z|⟨z,F|F⟩
 .show .inl z
 .show .inr #[z,.inl F]
 .show .inr #[z,.inr λy=>F λq J=>(G.keys q).mpr ((G.mem pm q).mp (y q J))]
theorem zP{c:CA}{xa:XA}(F:cq K "peek" "Rooms.peek" tI f fd)(T:rj K mg c)(TT:Tb.Txt K mg c.T)(ac:⇑Df 1 "room_of" (eG xa.nt))(GR:↥Df 1 "room_of" bP)(ao:⇑Df 2 "pages_of_cells" (Rm.gK xa.np))(U:↥Md 1 c.T "pages" (Tb.d9 c.T)):⇑aG 3 f fd ["self","task","address","many"] (qu c xa):=by
 show F.gD tu (λap A outer s H vs Q E z h=>?_);let#[M,a,s',W,t,ad,n,C,rfl,R,lt,ln,lf,lc,I,q]:=h;let#[dx,J]:=R.ob;rcases I with⟨hx,rfl⟩|⟨x,hx,I,rfl⟩
 .show#[_,(ax (rh 4 tu.nd (uS ac z (aa (aH (pv 0) rfl) (aa (pv 1) ag)))) bg),?_];show#[0,a.rp,c.C,dx,_,0,J,T.cl,T.nR,cN _ _ _,0,a.rd,W,t,rfl,R.hd,lt,hx,q H (aQ.refl H)]
 show#[_,(ax (dP (cV 4 tu.nd (pc GR z az (aa (aH (pv 0) rfl) (aa (pv 1) ag)))))
  (ax (dP (cV 5 tu.nd (cm ag)))
  (ax (Cn (uS ao z (aa (qB (pv 4) TT.cl U z az) (aa (pv 2) (aa (pv 3) ag))))) bg))),?_]
 show#[0,a.rp,c.C,dx,_,0,J,T.cl,T.nR,cN _ _ _,0,a.rd,W,t,x,rfl,R.hd,hx,?_];show#[aq,λwl O=>?_];let L:aQ H (upd H wl (.lst [])):=Tb.aw O;let S:=R.same L;let G:=S.tb _ (Tb.aI hx);let#[am,ht]:=G.at_.ob;show#[0,x.p,am,0,ht,Tb.aS _ ak,x.p,x.fs,x.tb,rfl,G.at_,λH1 l1 ns s2 as ab pm aB=>?_];show#[0,0,l1,ns,ad,n,rfl,ab,ln,lf,lc,Ej G pm I,λH2 s3=>q H2 (L.trans (s2.trans s3))]
theorem Ao{c:CA}{xa:XA}(F:cq K "poke" "Rooms.poke" tY f fd)(T:rj K mg c)(TT:Tb.Txt K mg c.T)(ac:⇑Df 1 "room_of" (eG xa.nt))(GR:↥Df 1 "room_of" bP)(ao:⇑Df 2 "pages_of_cells" (Rm.gK xa.np))(L:↥Md 1 c.T "pages" (Tb.d9 c.T)):⇑aG 3 f fd ["self","task","address","cells"] (p6 K c xa):=by
 show F.gD jh (λap A outer s H vs Q E z h=>?_);let#[M,a,s',W,t,ad,ca,cs,C,rfl,R,ab,lt,ln,O,lc,I,q]:=h;let#[dx,J]:=R.ob;rcases I with⟨hx,rfl⟩|⟨x,hx,I,rfl⟩
 .show#[_,(ax (rh 4 jh.nd (uS ac z (aa (aH (pv 0) rfl) (aa (pv 1) ag)))) bg),?_];show#[0,a.rp,c.C,dx,_,0,J,T.cl,T.nR,cN _ _ _,0,a.rd,W,t,rfl,R.hd,lt,hx,q H (aQ.refl H)]
 let G:=R.tb _ (Tb.aI hx);let#[am,ht]:=G.at_.ob;show#[_,(ax (dP (cV 4 jh.nd (pc GR z az (aa (aH (pv 0) rfl) (aa (pv 1) ag)))))
  (ax (rh 5 jh.nd (uS ao z (aa (qB (pv 4) TT.cl L z az) (aa (pv 2) (aa (a9 bS (by rfl) T.len boot_len (aa (pv 3) ag)) ag))))) bg)),?_]
 show#[0,a.rp,c.C,dx,_,0,J,T.cl,T.nR,cN _ _ _,0,a.rd,W,t,x,rfl,R.hd,hx,?_];show#[0,x.p,am,0,ht,Tb.aS _ ak,x.p,x.fs,x.tb,rfl,G.at_,λH1 S ns s2 as U pm aB=>?_];show#[0,0,ca,0,.inl (Rm.eR ab (s2 _)),S,ns,ad,cs.length,by rw[ti];rfl,U,ln,O,lc,Ej G pm I,λH2 s3=>q H2 (s2.trans s3)]
end St
namespace Pr
open PySem L2 Rm Tb
def top(i:Nat):OB:=Rm.top i
abbrev Def:=Rm.Def
abbrev bp:=List (Int×Addr×List Int)
def fP(x:Addr×List Int):V:=.ref x.1
abbrev wV(R:bp):List (Key×V):=dk fP R
abbrev bF:=List (Int×Addr×bp)
def fR(x:Addr×bp):V:=.ref x.1
abbrev wX(W:bF):List (Key×V):=dk fR W
abbrev Off:=Tb.Off
abbrev aw{H:Hp}{l:Addr}{X:HO}(h:H l=none):aQ H (upd H l X):=Tb.aw h
structure cj(H:Hp)(a:Addr)(R:bp):Prop where
 hd:H a=some (.dK (wV R))
 hr:∀x∈R,H x.2.1=some (.lst (x.2.2.map V.int))/\x.2.2.length=8
 nd:(R.map (·.1)).Nodup
 rg:∀x∈R,0<=x.1/\x.1<64
structure jg(H:Hp)(a:Addr)(W:bF):Prop where
 hd:H a=some (.dK (wX W))
 rm:∀x∈W,cj H x.2.1 x.2.2
 nd:(W.map (·.1)).Nodup
 sp:(W.map (·.2.1)).Nodup
 ne:∀x∈W,x.2.1≠a
theorem cj.same{H H':Hp}{a:Addr}{R:bp}(r:cj H a R)(s:aQ H H'):cj H' a R:=#[s _ _ r.hd,λx hx=>#[s _ _ (r.hr x hx).1,(r.hr x hx).2],r.nd,r.rg]
theorem jg.same{H H':Hp}{a:Addr}{W:bF}(r:jg H a W)(s:aQ H H'):jg H' a W:=#[s _ _ r.hd,λx hx=>(r.rm x hx).same s,r.nd,r.sp,r.ne]
theorem cj.off{B:WZ}{H H':Hp}{a:Addr}{R:bp}(r:cj H a R)(o:Off B H H')(n:¬ B a)(z:∀b xs,H b=some (.lst xs)->¬ B b):cj H' a R :=
 #[o _ _ r.hd n,λx hx=>#[o _ _ (r.hr x hx).1 (z _ _ (r.hr x hx).1),(r.hr x hx).2],r.nd,r.rg]
theorem Oa:¬ (("total" : Str) = "rooms"):=ak
def fW(t:Int)(a:Addr):List (Str×V):=bu "rooms" (.ref a) (bu "total" (.int t) [])
theorem fY(t:Int)(a:Addr):(fW t a).lookup ("rooms" : Str)=some (.ref a):=by
 unfold fW;rw[aF,WY rfl]
theorem D6(t:Int)(a:Addr):(fW t a).lookup ("total" : Str)=some (.int t):=by
 unfold fW;rw[aF,WX Oa,aF,WY rfl]
theorem aS(t:Int)(a:Addr){m:Str}(h1:¬ m = "rooms")(h2:¬ m = "total"):(fW t a).lookup m=none:=by
 unfold fW;rw[aF,WX h1,aF,WX h2];rfl
structure cR(C:Addr)(H:Hp)(p a:Addr)(t:Int)(W:bF):Prop where
 ob:∃dx,H p=some (.ins C dx (fW t a))
 R:jg H a W
theorem cR.same{C:Addr}{H H':Hp}{p a:Addr}{t:Int}{W:bF}(r:cR C H p a t W)(s:aQ H H'):cR C H' p a t W:=let ⟨dx,h⟩:=r.ob;#[#[dx,s _ _ h],r.R.same s]
structure Txt(K:Om)(mg:W9)(C:Addr):Prop where
 cl:oE K C
 nT:cZ K C "total"
 nR:cZ K C "rooms"
 len:mg "len" = none
 list:mg "list" = none
 sum:mg "sum" = none
 zip:mg "zip" = none
abbrev jD:OB:=inClass (top 35) 0
abbrev yD:OB:=inClass (top 35) 1
abbrev xB:OB:=inClass (top 35) 2
abbrev Js:OB:=inClass (top 35) 3
abbrev C1:OB:=inClass (top 35) 4
abbrev DE:OB:=inClass (top 35) 5
abbrev DV:OB:=inClass (top 35) 6
abbrev oa:OB:=inClass (top 35) 7
abbrev C5:OB:=inClass (top 35) 8
inductive bP(CN:Addr)(vs:List V)(H:Hp)(Q:VK)(E:XK):Prop
 |mk(a:Addr)(W:bF)(t:Int)(_:vs=[.ref a,.int t])(_:H a=some (.dK (wX W)))(_:t.natAbs.log2<1920)(_:(look W t=none->E (.ref CN) none H))(_:(∀x,look W t=some x->Q (.ref x.1) H))
inductive eE(CT:Addr)(vs:List V)(H:Hp)(Q:VK)(E:XK):Prop
 |mk(a:Addr)(W:bF)(t:Int)(_:vs=[.ref a,.int t])(_:H a=some (.dK (wX W)))(_:t.natAbs.log2<1920)(_:((∃x,look W t=some x)->E (.ref CT) none H))(_:(look W t=none->Q .bB H))
inductive f9(CR:Addr)(vs:List V)(H:Hp)(Q:VK)(E:XK):Prop
 |mk(h t:Int)(_:vs=[.int h,.int t])(_:h<=1000000)(_:0<=t)(_:(t<h->E (.ref CR) none H))(_:(¬ t<h->Q .bB H))
theorem mZ{α:Type}{f:α->V}{H:Hp}{a:Addr}{l:List (Int×α)}{t:Int}(h:H a=some (.dK (dk f l))):fb H a (.int t) ((look l t).map f):=by
 let q:=fb.k (k:=Ot t) h;rw[cW]at q;show q
theorem fQ{α:Type}(f:α->V)(l:List (Int×α)):(dk f l).length=l.length:=by unfold dk;rw[ti]
inductive gu(C:Addr)(v:List V)(H:Hp)(Q:VK)(e:XK):Prop
 |mk(p dx:Addr)(t:Int)(_:v=[.ref p,.int t])(_:H p=some (.ins C dx []))(_:∀(H':Hp)(a:Addr),H a=none->cR C H' p a t []->Off (· = p) H H'->Q .bB H')
inductive kl(C CT:Addr)(vs:List V)(H:Hp)(Q:VK)(E:XK):Prop
 |mk(p a:Addr)(bK t:Int)(W:bF)(_:vs=[.ref p,.int t])(_:cR C H p a bK W)(_:t.natAbs.log2<1920)(_:W.length<=1000)(_:((∃x,look W t=some x)->E (.ref CT) none H))(_:(look W t=none->∀(H':Hp)(r:Addr),H r=none->cR C H' p a bK (W++[(t,r,[])])->Off (· = a) H H'->Q .bB H'))
theorem w6{C CT:Addr}{H:Hp}{Q:V->Hp->Prop}{E}(p a:Addr)(bK t:Int)(W:bF)(h1:cR C H p a bK W)(h2:t.natAbs.log2<1920)(G:W.length<=1000)(z:((∃x,look W t=some x)->E (.ref CT) none H))(F:(look W t=none->∀(H':Hp)(r:Addr),H r=none->cR C H' p a bK (W++[(t,r,[])])->Off (· = a) H H'->Q .bB H')):kl C CT [.ref p,.int t] H Q E:=#[p,a,bK,t,W,rfl,h1,h2,G,z,F]
inductive uR(C CN:Addr)(vs:List V)(H:Hp)(Q:VK)(E:XK):Prop
 |mk(p a:Addr)(bK t:Int)(W:bF)(_:vs=[.ref p,.int t])(_:cR C H p a bK W)(_:t.natAbs.log2<1920)(_:(look W t=none->E (.ref CN) none H))(_:((∃x,look W t=some x)->∀H',cR C H' p a bK (bh W t)->Off (· = a) H H'->Q .bB H'))
theorem ij{H:Hp}{a b C dx:Addr}{kvs:List (Key×V)}{fs:List (Str×V)}(h:H a=some (.dK kvs))(h':H b=some (.ins C dx fs)):a≠b:=cM h h' (by intro z;cases z)
theorem cX{H:Hp}{a b:Addr}{kvs:List (Key×V)}{xs:List V}(h:H a=some (.dK kvs))(h':H b=some (.lst xs)):a≠b:=cM h h' (by intro z;cases z)
theorem cj.upd{H:Hp}{a b:Addr}{R:bp}{o:HO}(r:cj H b R)(n:b≠a)(h:∃kvs,H a=some (.dK kvs)):cj (upd H a o) b R:=by
 let#[kvs,h]:=h;show#[by rw[ai n];show r.hd,λx hx=>#[by rw[ai (D0 (cX h (r.hr x hx).1))];show(r.hr x hx).1,(r.hr x hx).2],r.nd,r.rg]
inductive gA(CP CT:Addr)(vs:List V)(H:Hp)(Q:VK)(E:XK):Prop
 |mk(a:Addr)(ms:List Int)(p m:Int)(_:vs=[.ref a,.int p,.int m])(_:H a=some (.lst (ms.map V.int)))(_:p.natAbs.log2<1920)(_:m.natAbs.log2<1920)(_:(aX p m->∀H',aQ H H'->E (.ref CP) none H'))(_:(¬ aX p m->(∃q∈aE p m,q∈ms)->∀H',aQ H H'->E (.ref CT) none H'))(_:(¬ aX p m->(∀q∈aE p m,¬ q∈ms)->∀(H':Hp)(l:Addr),aQ H H'->H l=none->H' l=some (.lst ((aE p m).map V.int))->Q (.ref l) H'))
inductive gi(CP:Addr)(vs:List V)(H:Hp)(Q:VK)(E:XK):Prop
 |mk(a:Addr)(ms:List Int)(p m:Int)(_:vs=[.ref a,.int p,.int m])(_:H a=some (.lst (ms.map V.int)))(_:p.natAbs.log2<1920)(_:m.natAbs.log2<1920)(_:(aX p m\/(¬ ∀q∈aE p m,q∈ms)->∀H',aQ H H'->E (.ref CP) none H'))(_:(¬ aX p m->(∀q∈aE p m,q∈ms)->∀(H':Hp)(l:Addr),aQ H H'->H l=none->H' l=some (.lst ((aE p m).map V.int))->Q (.ref l) H'))
inductive dN(CP:Addr)(vs:List V)(H:Hp)(Q:VK)(E:XK):Prop
 |mk(a:Addr)(ms:List Int)(ad n:Int)(_:vs=[.ref a,.int ad,.int n])(_:H a=some (.lst (ms.map V.int)))(_:n.natAbs.log2<1920)(_:(ed ad).natAbs.log2<1920)(_:(dB ad n).natAbs.log2<1920)(_:(bq ad n ms->∀H',aQ H H'->E (.ref CP) none H'))(_:(¬ bq ad n ms->∀(H':Hp)(l:Addr),aQ H H'->H l=none->H' l=some (.lst ((aC ad n).map V.int))->Q (.ref l) H'))
end Pr
namespace L2
open PySem PySem.Spec PyProof.Rows
theorem aG.or{P:vu}{w:Oe}{K:Om}{mg:W9}{base:Heap}{CX:rk}{k:Nat}{f:Addr}{fd:t7}{ps:List Str}{sp I:Sp}(F:aG P w K mg base CX k f fd ps sp)(G:aG P w K mg base CX k f fd ps I):aG P w K mg base CX k f fd ps (λvs H Q E=>sp vs H Q E\/I vs H Q E):=
 #[λvs H Q E h=>h.elim (F.len vs H Q E) (G.len vs H Q E),λA outer s H args us vs Q E L z O J hs=>hs.elim (F.run A outer s H args us vs Q E L z O J) (G.run A outer s H args us vs Q E L z O J)]
end L2
namespace Pr
open PySem L2 Rm Tb
def Ny(x:Addr×bp):St.TD:=#[x.1,(0),[],[]]
theorem yN(W:bF):dk St.fR (W.map λx=>(x.1,Ny x.2))=wX W:=by unfold wX dk;rw[Pt];rfl
theorem zf(W:bF)(t:Int):look (W.map λx=>(x.1,Ny x.2)) t=(look W t).map Ny:=by
 induction W with
 |nil=>rfl
 |cons x W z =>
  rw[PN,aK,aK,z];cases e:x.1=t
  .rw[WY e,WY e];rfl
  .rw[WX e,WX e]
section
variable{CN CT CR CP:Addr}{ps:List Str}
theorem jX(F:↥aG 1 f fd ps St.bP)(G:⇑aG 1 f fd ps (St.eG CN)):⇑aG 1 f fd ps (bP CN):=(F.cx.or G).imp λvs H Q E h=>by
 let#[a,W,t,rfl,I,O,J,L]:=h;let z:=zf W t;cases e:look W t with
 |none=>rw[e]at z;show .inr #[a,_,t,rfl,by rw[yN];show I,O,z,J e]
 |some x=>rw[e]at z;show .inl #[a,_,t,0,by rw[yN];show I,z,L x e]
theorem kg(F:↥aG 1 f fd ps St.eE)(G:⇑aG 1 f fd ps (St.iB CT)):⇑aG 1 f fd ps (eE CT):=(F.cx.or G).imp λvs H Q E h=>by
 let#[a,W,t,rfl,I,O,J,L]:=h;let z:=zf W t;cases e:look W t with
 |none=>rw[e]at z;show .inl #[a,_,t,rfl,by rw[yN];show I,z,L e]
 |some x=>rw[e]at z;show .inr #[a,_,t,0,by rw[yN];show I,O,z,J #[x,e]]
theorem mE(F:↥aG 1 f fd ps St.f9)(G:⇑aG 1 f fd ps (St.jw CR)):⇑aG 1 f fd ps (f9 CR):=(F.cx.or G).imp λvs H Q E h=>by
 let#[h,t,rfl,z,I,J,L]:=h;cases c:t<h
 .show .inr #[h,t,rfl,z,I,c,J c]
 .show .inl #[h,t,rfl,c,L c]
theorem lO(F:↥aG 2 f fd ps Rm.gA)(G:⇑aG 2 f fd ps (Rm.lq CP CT)):⇑aG 2 f fd ps (gA CP CT):=(F.cx.or G).imp λvs H Q E h=>by
 let#[a,I,p,m,rfl,L,R,O,S,U,kQ]:=h;cases c:aX p m
 .show .inr #[a,I,p,m,CP,rfl,L,R,O,.inl #[c,rfl],S c]
 .by_cases d:∃q∈aE p m,q∈I
  .show .inr #[a,I,p,m,CT,rfl,L,R,O,.inr #[c,d,rfl],U c d]
  .show .inl #[a,I,p,m,rfl,L,c,λq J z=>d #[q,J,z],kQ c λq J z=>d #[q,J,z]]
theorem jW(F:↥aG 2 f fd ps Rm.gi)(G:⇑aG 2 f fd ps (Rm.ke CP)):⇑aG 2 f fd ps (gi CP):=(F.cx.or G).imp λvs H Q E h=>by
 let#[a,I,p,m,rfl,J,S,L,O,R]:=h;cases c:aX p m\/¬ ∀q∈aE p m,q∈I
 .show .inr #[a,I,p,m,rfl,J,S,L,c,O c]
 .show .inl #[a,I,p,m,rfl,J,λz=>c (.inl z),Ox λz=>c (.inr z),R (λz=>c (.inl z)) (Ox λz=>c (.inr z))]
theorem iJ(F:↥aG 2 f fd ps Rm.dN)(G:⇑aG 2 f fd ps (Rm.gK CP)):⇑aG 2 f fd ps (dN CP):=(F.cx.or G).imp λvs H Q E h=>by
 let#[a,z,ad,n,rfl,I,L,h1,h2,J,O]:=h;cases c:bq ad n z
 .show .inr #[a,z,ad,n,rfl,I,L,h1,h2,c,J c]
 .show .inl #[a,z,ad,n,rfl,I,c,O c]
theorem FP:aD ["self","task"] ["self","task"] (au yD):=L2.bL
theorem Cy{f C CT fS:Addr}{fd U:t7}(F:cq K "begin" "PlainRooms.begin" yD f fd)(T:Txt K mg C)
  (GS:⇑aG 1 fS U ["rooms","task"] (eE CT)) (L:Def K mg "refuse_second_room" fS U ["rooms","task"]):⇑aG 2 f fd ["self","task"] (kl C CT):=by
 show F.gD FP (λam A outer s H vs Q E hr h=>?_);let#[p,a,bK,t,W,rfl,D,ht,lw,kE,kQ]:=h;let hs:=HC;let#[dx,h1]:=id D.ob;show#[_,(ax (dG (cy GS (hr.mono aq) rfl (by rfl) L.mg L.kp L.b .nil (aa (aH (pv 0) rfl) (aa (pv 1) ag))))
  (iS (ar (fZ (de hr) (aH (pv 0) rfl) (pv 1) fG rfl)))),?_]
 show#[0,p,C,dx,_,0,h1,T.cl,T.nR,fY _ _,0,a,W,t,rfl,D.R.hd,ht,kE,λS=>?_];intro r G;let J:=aw (X:=.dK []) G;let I:=D.same J;let er:(upd H r (.dK [])) r=some (.dK []):=ae;let ab:r≠a:=D0 (av D.R.hd G);show#[0,p,C,dx,_,0,J _ _ h1,T.cl,T.nR,fY _ _,0,a,0,kL.k (k:=Ot t) I.R.hd (by rw[fQ];omega),?_];rw[show(V.ref r)=fR (r,([]:bp))from rfl,eJ S];generalize upd H r (.dK [])=H1 at *;let ac:H1 p=some (.ins C dx (fW bK a)):=J _ _ h1;show kQ S _ r G #[#[dx,by rw[ai (D0 (ij I.R.hd ac))];show ac],ae,λx hx=>?_,3,λx hx=>?_] (λb o e nb=>by rw[ai nb];show J _ _ e)
 .rcases By.mp hx with hx|hx
  .show(I.R.rm x hx).upd (D.R.ne x hx) #[_,I.R.hd]
  .rw[t6.mp hx];show#[by rw[ai ab];show er,(λ_ h=>nomatch h),Pk,(λ_ h=>nomatch h)]
 .rw[Ou];show Pf.mpr #[D.R.nd,Oo.mpr #[by simp,Pk],λx hx y O=>by
   have:y=t:=‹O›;rw[this];rintro rfl;show bW S hx]
 .rw[Ou];show Pf.mpr #[D.R.sp,Oo.mpr #[by simp,Pk],λx hx y O=>by
   have:y=r:=‹O›;rw[this];rintro rfl;let#[z,hz,e]:=Ol.mp hx;have:=(D.R.rm z hz).hd;rwa[e,G]at this]
 .rcases By.mp hx with hx|hx
  .show D.R.ne x hx
  .rw[t6.mp hx];show ab
theorem z9:aD ["self","task"] ["self","task"] (au xB):=L2.bL
theorem DY{f C CN J:Addr}{fd I:t7}(F:cq K "close" "PlainRooms.close" xB f fd)(T:Txt K mg C)
  (GR:⇑aG 1 J I ["rooms","task"] (bP CN)) (G:Def K mg "room_of" J I ["rooms","task"]):⇑aG 2 f fd ["self","task"] (uR C CN):=by
 show F.gD z9 (λab A outer s H vs Q E S h=>?_);let#[p,a,bK,t,W,rfl,D,ht,L,O]:=h;let#[dx,h1]:=id D.ob;show#[_,(ax (dG (cy GR (S.mono aq) rfl (by rfl) G.mg G.kp G.b .nil (aa (aH (pv 0) rfl) (aa (pv 1) ag))))
  (iS (ar (aV (iw (aH (pv 0) rfl) (pv 1) #[1,1]))))),?_]
 show#[0,p,C,dx,_,0,h1,T.cl,T.nR,fY _ _,0,a,W,t,rfl,D.R.hd,ht,L,λx hx=>?_];show#[0,p,C,dx,_,0,h1,T.cl,T.nR,fY _ _,a,rfl,.inl #[_,.inl D.R.hd],0,_,Ot t,fR x,D.R.hd,rfl,by rw[cW,hx];rfl,?_];rw[ir];let sub:∀y∈bh W t,y∈W:=λy z=>(PB.mp z).1;show O #[x,hx] _ #[#[dx,by rw[ai (D0 (ij D.R.hd h1))];show h1],ae,λy z=>(D.R.rm y (sub y z)).upd (D.R.ne y (sub y z)) #[_,D.R.hd],3,λy z=>D.R.ne y (sub y z)] (λb o e U=>by rw[ai U];show e)
 .show D.R.nd.sublist (Q4 _ RC)
 .show D.R.sp.sublist (Q4 _ RC)
end
theorem mS:OO "sum" = some (.builtin "sum"):=ak
abbrev kY:OB:=top 36
def heldW(W:bF):Int:=((W.map λx=>(x.2.2.length:Int))).sum
inductive ju(C:Addr)(v:List V)(H:Hp)(Q:VK)(e:XK):Prop
 |mk(p a:Addr)(bK:Int)(W:bF)(_:v=[.ref p])(_:cR C H p a bK W)(_:W.length<=1000)(_:∀H',aQ H H'->Q (.int (heldW W)) H')
theorem AH{C:Addr}{H:Hp}{Q:V->Hp->Prop}{E0}(p a:Addr)(bK:Int)(W:bF)(h1:cR C H p a bK W)(h2:W.length<=1000)(z:∀H',aQ H H'->Q (.int (heldW W)) H'):ju C [.ref p] H Q E0:=#[p,a,bK,W,rfl,h1,h2,z]
def cellsOf(R:bp)(ps:List Int):List Int:=(ps.map λq=>((look R q).map (·.2)).getD []).flatten
inductive gx(v:List V)(H:Hp)(Q:VK)(e:XK):Prop
 |mk(a b:Addr)(R:bp)(ps:List Int)(_:v=[.ref a,.ref b])(_:cj H a R)(_:H b=some (.lst (ps.map V.int)))(_:ps.length<=64)(_:(∀q∈ps,∃x,look R q=some x))(_:∀(H':Hp)(l:Addr),aQ H H'->H l=none->H' l=some (.lst ((cellsOf R ps).map V.int))->Q (.ref l) H')
theorem Hi:aD ["self"] ["self"] (au C5):=L2.bL
theorem Fs{C:Addr}(F:cq K "held" "PlainRooms.held" C5 f fd)(T:Txt K mg C):↥aG 1 f fd ["self"] (ju C):=by
 show F.eL Hi (λap A outer s H vs Q E hr h=>?_);let#[p,a,bK,W,rfl,D,lw,k]:=h;let hs:=HC;let#[dx,h1]:=id D.ob;show#[_,(ar (aO (a9 (lu rfl) (by rfl) T.sum mS (aa (zF (lF (cl:=[("self",s⁻¹+1)]) (caps:=[("self",0)]) #[rfl,ak,ak,rfl,by kernel_rfl,by intro p G;simp only[vr,Oh,or_false]at G;rcases G with rfl<;>first|rfl|show#[rfl,.inl rfl,.inl rfl]|show#[rfl,.inl rfl,.inr rfl],by kernel_rfl,by intro p G;simp only[vr,Oh,or_false]at G;rcases G with rfl<;>first|rfl|show#[rfl,.inl rfl,.inl rfl]|show#[rfl,.inl rfl,.inr rfl],ak] rfl (oO (aH (pv 0) rfl)) (λ_ _ _ _=>j6) (λ_ _ _ _=>(a9 mY (by rfl) T.len boot_len (aa (hJ (de hr) (show PE _ _ (Dw K _ "rooms")from aH (pv 1) rfl) (pv 0) cB) ag))))) ag)))),?_];let hn:∀(o:Obj) S,H a≠some (.frz o S):=λo S z=>(by rwa[D.R.hd]at z);show#[0,p,C,dx,_,0,h1,T.cl,T.nR,fY _ _,a,0,D.R.hd,hn,λo=>?_];let ab:p≠a:=D0 (ij D.R.hd h1);let I:(upd H a (.frz o (.dK (wX W)))) a=some (.frz o (.dK (wX W))):=ae;let am:(upd H a (.frz o (.dK (wX W)))) p=some (.ins C dx (fW bK a)):=(by rw[ai ab];show h1);show qW (a:=a) (o:=o) (kvs:=wX W) (λi ys H2=>ys=((W.take i).map λx=>(x.2.2.length:Int)).map V.int/\H2=upd H a (.frz o (.dK (wX W)))) #[1] (λi zs H2 _ ⟨_,e⟩=>by rw[e];show I) ?_ ?_
 .rintro i kk v zs H2 hk ⟨rfl,rfl⟩;let U:(W.map λx:Int×Addr×bp=>((Ot x.1:Key),fR x.2))[i]?=some (kk,v):=hk;rw[Od]at U;let#[x,hx,e]:=wh.mp U;cases e;let O:=NC hx;let hi:i<W.length:=(sN.mp hx).1;let ac:look W x.1=some x.2:=cD D.R.nd O;let hg:fb (upd H a (.frz o (.dK (wX W)))) a (.int x.1) (some (fR x.2)):=.inl #[wX W,Ot x.1,.inr #[o,I],rfl,by rw[cW,ac];rfl];let ao:(upd H a (.frz o (.dK (wX W)))) x.2.1=some (.dK (wV x.2.2)):=(by rw[ai (D.R.ne x O)];show(D.R.rm x O).hd);show#[0,p,C,dx,_,0,am,T.cl,T.nR,fY _ _,0,a,fR x.2,rfl,hg,x.2.1,0,ao,3,rfl]
  .rw[ti,ti,Oz];omega
  .rw[OY,hx,Ou,Ou,fQ];rfl
 .rintro zs H2 ⟨rfl,rfl⟩ l J;let L:l≠a:=λz=>(by rwa[z,I]at J);show#[a,o,wX W,by rw[ai (D0 L)];show I,hn,l,(W.map λx=>(x.2.2.length:Int)),rfl,bA.of ?_,?_]
  .rw[ai L,ae,fQ,Ph]
  .show k _ λb u e=>?_;cases z:b=a
   .rw[z,ae, <-e,z,D.R.hd]
   .rw[ai z,ai (λy=>by
     rw[y]at e;rw[ai L]at J;rwa[J]at e),ai z]
    show e
theorem Jl:aD ["room","pages","cells","page"] ["room","pages"] (au kY):=L2.bL
theorem kH(F:cq K "cells_of_pages" "cells_of_pages" kY f fd):↥aG 1 f fd ["room","pages"] gx:=by
 show F.eL Jl (λac A outer s H vs Q E hr h=>?_);let#[a,b,R,ps,rfl,ha,U,lp,ab,k]:=h;let hs:=HC;show#[_,(aj (cV 2 Jl.nd (cm ag))
  (aj (dh Ow rfl (dQ (pv 1)) (nD 3 Jl.nd) (ar (aV (jn Po Qf RQ nH (pv 2) (aa (hJ (de hr) (pv 0) (pv 3) cB) ag)))))
  (ar (aO (pv 2))))),?_]
 show#[aq,λl I=>?_];let s0:=aw (X:=.lst []) I;show#[0,b,rfl,#[_,bA.of (s0 _ _ U)],?_];show dg (K:=K) (a:=b) (xs:=ps.map V.int) (λi σ H2=>∃G:Option V,σ=#v[.ref a,.ref b,.ref l,G]/\H2 l=some (.lst ((cellsOf R (ps.take i)).map V.int))/\(cellsOf R (ps.take i)).length<=8*i/\aQ H H2) #[0,ae,G0 _,s0] (λi σ H2 _ z0=>by let#[_,_,_,_,s2]:=z0;show bA.of (s2 _ _ U)) ?_ ?_
 .rintro i x σ H2 hx ⟨G,rfl,h2,lc,s2⟩;let hi:i<ps.length:=(by simpa using(sN.mp hx).1);rw[Od]at hx;let#[q,O,rfl]:=wh.mp hx;let#[y,z]:=ab q (NC O);let J:=ha.same s2;let hg:=mZ (t:=q) J.hd;rw[z]at hg;let#[rr,L]:=J.hr (q,y) (aI z);let S:cellsOf R (ps.take (i+1))=cellsOf R (ps.take i)++y.2:=by
   unfold cellsOf;rw[OY,O,Ou,UI];simp[z]
  show#[0,.inl #[5,bA.of h2],0,0,a,fP y,rfl,hg,l,y.1,_,0,rfl,h2,rr,by rw[ti,ti];have:y.2.length=8:=L;omega,?_];show#[0,3,FG s2 I]
  .rw[ae,S,Ou]
  .rw[S,Oj];have:y.2.length=8:=L;omega
 .rintro σ H2 ⟨G,rfl,h2,lc,s2⟩;rw[ti,Ph]at h2;show#[0,k H2 l s2 I h2]
def du(R:bp):List Int:=R.map (·.1)
theorem oV(R:bp):((wV R).map λz=>kV z.1)=(du R).map V.int:=by
 unfold wV dk du;rw[Pt,Pt];rfl
theorem kj{R:bp}{q:Int}(h:q∈du R):∃x,look R q=some x:=by
 cases e:look R q with
 |some x=>show#[x,rfl]
 |none=>show absurd h (bW e)
def Et(R:bp)(ad n:Int):List Int:=((cellsOf R (aC ad n)).drop (ad%8).toNat).take n.toNat
theorem dy{ad n:Int}{F:List Int}(h:¬ bq ad n F):(aC ad n).length<=64/\∀q∈aC ad n,q∈F:=by
 unfold aC;cases e:n=0
 .rw[WY e];show#[OJ _,λ_ h=>nomatch h]
 .rw[WX e];let G:0<n:=by
   have:¬ n<0:=λz=>h (.inl z);omega
  let h1:¬ aX (ed ad) (dB ad n):=λz=>h (.inr #[G,.inl z]);let h2:∀q∈aE (ed ad) (dB ad n),q∈F:=Ox λz=>h (.inr #[G,.inr z]);show#[?_,h2];unfold aE;rw[ti,Qg];let a1:¬ ed ad<0:=λz=>h1 (.inr (.inl z));let a2:¬ 64<ed ad+dB ad n:=λz=>h1 (.inr (.inr z));omega
inductive yk(C CN CP:Addr)(vs:List V)(H:Hp)(Q:VK)(E:XK):Prop
 |mk(p a:Addr)(bK t ad n:Int)(W:bF)(_:vs=[.ref p,.int t,.int ad,.int n])(_:cR C H p a bK W)(_:t.natAbs.log2<1920)(_:n.natAbs.log2<1920)(_:(ed ad).natAbs.log2<1920)(_:(dB ad n).natAbs.log2<1920)(_:(∀x∈W,x.2.2.length<=1000))(_:(look W t=none->E (.ref CN) none H))(_:(∀x,look W t=some x->bq ad n (du x.2)->∀H',aQ H H'->E (.ref CP) none H'))(_:(∀x,look W t=some x->¬ bq ad n (du x.2)->∀(H':Hp)(l:Addr),aQ H H'->H l=none->H' l=some (.lst ((Et x.2 ad n).map V.int))->Q (.ref l) H'))
theorem DN:aD ["self","task","address","many","room","pages"] ["self","task","address","many"] (au DE):=L2.bL
theorem FC{f C CN CP ao fO ab am:Addr}{fd dR dO dC ac:t7}(F:cq K "peek" "PlainRooms.peek" DE f fd)(T:Txt K mg C)
  (GR:⇑aG 1 ao dR ["rooms","task"] (bP CN)) (I:Def K mg "room_of" ao dR ["rooms","task"])
  (GO:⇑aG 2 fO dO ["mapped","address","many"] (dN CP)) (S:Def K mg "pages_of_cells" fO dO ["mapped","address","many"])
  (GC:↥aG 1 ab dC ["room","pages"] gx) (J:Def K mg "cells_of_pages" ab dC ["room","pages"])
  (as:↥aG 1 am ac ["whole","address","many"] mi) (O:Def K mg "run_within" am ac ["whole","address","many"]):⇑aG 3 f fd ["self","task","address","many"] (yk C CN CP):=by
 show F.gD DN (λa5 A outer s H vs Q E G h=>?_);let#[p,a,bK,t,ad,n,W,rfl,D,ht,hn,hf,hc,a3,kN,kP,kQ]:=h;let#[dx,h1]:=id D.ob;show#[_,(ax (rh 4 DN.nd (cy GR (G.mono aq) rfl (by rfl) I.mg I.kp I.b .nil (aa (aH (pv 0) rfl) (aa (pv 1) ag))))
  (ax (rh 5 DN.nd (cy GO (G.mono aq) rfl (by rfl) S.mg S.kp S.b .nil (aa (cJ (iK rfl) (by rfl) T.list eF (aa (pv 4) ag)) (aa (pv 2) (aa (pv 3) ag)))))
  (iS (ar (aO (eK as (G.mono aq) (by rfl) O.mg O.kp O.b .nil az (aa (eK GC (G.mono aq) (by rfl) J.mg J.kp J.b .nil az (aa (pv 4) (aa (pv 5) ag))) (aa (pv 2) (aa (pv 3) ag))))))))),?_]
 show lE λ_ L=>?_;show#[0,p,C,dx,_,0,h1,T.cl,T.nR,fY _ _,0,a,W,t,rfl,D.R.hd,ht,kN,λx hx=>?_];let hm:=aI hx;let rm:=D.R.rm _ hm;show L _ _ (lE λ_ L=>?_);show#[0,x.1,0,rm.hd,by rw[fQ];show a3 _ hm,λl1 ap=>?_];rw[oV];let s1:=aw (X:=.lst ((du x.2).map V.int)) ap;show#[0,0,l1,du x.2,ad,n,rfl,ae,hn,hf,hc,λh H2 s2=>kP x hx h H2 (s1.trans s2),λh H2 l2 s2 a7 a4=>?_];let#[c1,c2]:=dy h;let U:=s1.trans s2;let n0:0<=n:=Int.not_lt.mp λz=>h (.inl z);show L _ _ ?_;show#[0,0,x.1,l2,x.2,aC ad n,rfl,rm.same U,a4,c1,λq hq=>kj (c2 q hq),λH3 l3 s3 a6 aT=>?_];show#[0,0,l3,_,ad,n.toNat,by rw[Ri n0];rfl,aT,λH4 l4 s4 a0 aB=>?_];show kQ x hx h H4 l4 ((U.trans s3).trans s4) ((U.trans s3).free a0) aB
theorem mP{α:Type}(l:List (Int×α))(k:Int)(a:α):(aW l k a).map (·.1)=l.map (·.1):=by
 unfold aW;rw[Pt];apply OV;intro x _;change(if x.1=k then(k,a)else x).1=x.1;cases e:x.1=k
 .rw[WY e,e]
 .rw[WX e]
theorem gJ{α:Type}{l:List (Int×α)}{k:Int}{a:α}{y:Int×α}(h:y∈aW l k a):y=(k,a)\/(y∈l/\y.1≠k):=by
 unfold aW at h;let#[x,hx,e]:=Ol.mp h;cases z:x.1=k
 .rw[WY z]at e;show .inl e.symm
 .rw[WX z]at e;rw[<-e];show .inr #[hx,z]
theorem zV{W:bF}{t:Int}{r:Addr}{R z:bp}(F:(W.map (·.1)).Nodup)(h:look W t=some (r,R)):(aW W t (r,z)).map (·.2.1)=W.map (·.2.1):=by
 unfold aW;rw[Pt];apply OV;intro x hx;change(if x.1=t then(t,(r,z))else x).2.1=x.2.1;cases e:x.1=t
 .rw[WY e];have:look W x.1=some x.2:=cD F (by show hx);rw[e,h]at this;rw[<-DD this]
 .rw[WX e]
theorem jg.lK{H H':Hp}{a r:Addr}{W:bF}{t:Int}{R I:bp}(D:jg H a W)(h:look W t=some (r,R))(o:Off (· = r) H H')(rm:cj H' r I):jg H' a (aW W t (r,I)):=by
 let F:=aI h;let hr:H r=some (.dK (wV R)):=(D.rm _ F).hd;show#[?_,λy J=>?_,by rw[mP];show D.nd,by rw[zV D.nd h];show D.sp,λy J=>?_]
 .let e1:=o _ _ D.hd (D0 (D.ne _ F));rw[e1];congr 2;unfold wX dk aW;rw[Pt];apply OV;intro x hx;change((Ot x.1:Key),fR x.2)=((Ot (if x.1=t then(t,(r,I))else x).1:Key),fR (if x.1=t then(t,(r,I))else x).2);cases e:x.1=t
  .have:look W x.1=some x.2:=cD D.nd hx;rw[e,h]at this;let e2:x.2=(r,R):=(DD this).symm;rw[WY e,e,e2];rfl
  .rw[WX e]
 .rcases gJ J with e|⟨G,ny⟩
  .rw[e];show rm
  .show(D.rm y G).off o (λz=>?_) (λb xs S z=>?_)
   .apply ny;let hp:y=(t,r,R):=by
     let n1:=D.sp;let#[i,hi,L]:=P8.mp G;let#[j,U,O]:=P8.mp F;have:i=j:=by
      let q1:(W.map (·.2.1))[i]'(by rw[ti];show hi)=(W.map (·.2.1))[j]'(by rw[ti];show U):=by
       rw[Tx,Tx,L,O];show z
      show(Ul n1).mp q1
     subst this;rw[<-L,O]
    rw[hp]
   .rw[z,hr]at S;cases S
 .rcases gJ J with e|⟨G,_⟩
  .rw[e];change r≠a;show D.ne _ F
  .show D.ne y G
theorem cR.lK{C:Addr}{H H':Hp}{p a r:Addr}{bK t:Int}{W:bF}{R z:bp}(D:cR C H p a bK W)(h:look W t=some (r,R))(o:Off (· = r) H H')(F:cj H' r z):cR C H' p a bK (aW W t (r,z)):=by
 let#[dx,h1]:=D.ob;let G:H r=some (.dK (wV R)):=(D.R.rm _ (aI h)).hd;show#[#[dx,o _ _ h1 (D0 (ij G h1))],D.R.lK h o F]
def gB(R:bp)(ps:List Int):bp:=ps.foldl bh R
inductive kX(C CN CP:Addr)(vs:List V)(H:Hp)(Q:VK)(E:XK):Prop
 |mk(p a:Addr)(bK t pg m:Int)(W:bF)(_:vs=[.ref p,.int t,.int pg,.int m])(_:cR C H p a bK W)(_:t.natAbs.log2<1920)(_:pg.natAbs.log2<1920)(_:m.natAbs.log2<1920)(_:(∀x∈W,x.2.2.length<=1000))(_:(look W t=none->E (.ref CN) none H))(_:(∀x,look W t=some x->(aX pg m\/¬ ∀q∈aE pg m,q∈du x.2)->∀H',aQ H H'->E (.ref CP) none H'))(_:(∀x,look W t=some x->¬ aX pg m->(∀q∈aE pg m,q∈du x.2)->∀H',cR C H' p a bK (aW W t (x.1,gB x.2 (aE pg m)))->Off (· = x.1) H H'->Q .bB H'))
theorem jJ(p m:Int):(aE p m).Nodup:=by
 unfold aE;show WW _ (λa b (h:a≠b)=>?_) Tw;omega
theorem cA{R:bp}{k q:Int}(h:q≠k):look (bh R k) q=look R q:=by
 induction R with
 |nil=>rfl
 |cons x R F =>
  unfold bh at F ⊢;rw[PV];cases e:x.1=k
  .rw[WX (by simp[e]),F,aK,WX (λz=>h (z.symm.trans e))]
  .rw[WY (by simp[e]),aK,aK,F]
theorem cj.del{H:Hp}{r:Addr}{R:bp}{k:Int}(F:cj H r R):cj (L2.upd H r (.dK (wV (bh R k)))) r (bh R k):=by
 let sub:∀y∈bh R k,y∈R:=λy z=>(PB.mp z).1;show#[ae,λy z=>#[by rw[ai (D0 (cX F.hd (F.hr y (sub y z)).1))];show(F.hr y (sub y z)).1,(F.hr y (sub y z)).2],F.nd.sublist (Q4 _ RC),λy z=>F.rg y (sub y z)]
theorem rE:aD ["self","task","page","many","room","pages","dropped"] ["self","task","page","many"] (au C1):=L2.bL
theorem uu{f C CN CP aT fD:Addr}{fd dR dD:t7}(F:cq K "drop" "PlainRooms.drop" C1 f fd)(T:Txt K mg C)
  (GR:⇑aG 1 aT dR ["rooms","task"] (bP CN)) (O:Def K mg "room_of" aT dR ["rooms","task"])
  (GD:⇑aG 2 fD dD ["mapped","page","many"] (gi CP)) (S:Def K mg "pages_to_drop" fD dD ["mapped","page","many"]):⇑aG 3 f fd ["self","task","page","many"] (kX C CN CP):=by
 show F.gD rE (λa7 A outer s H vs Q E hr h=>?_);let#[p,a,bK,t,pg,m,W,rfl,D,ht,a5,a6,a4,kN,kP,kQ]:=h;let#[dx,h1]:=id D.ob;show#[_,(ax (rh 4 rE.nd (cy GR (hr.mono aq) rfl (by rfl) O.mg O.kp O.b .nil (aa (aH (pv 0) rfl) (aa (pv 1) ag))))
  (ax (rh 5 rE.nd (cy GD (hr.mono aq) rfl (by rfl) S.mg S.kp S.b .nil (aa (cJ (iK rfl) (by rfl) T.list eF (aa (pv 4) ag)) (aa (pv 2) (aa (pv 3) ag)))))
  (iS (ar (dh Ow rfl (dQ (pv 5)) (nD 6 rE.nd) (ar (aV (iw (pv 4) (pv 6) #[1,1])))))))),?_]
 show lE λ_ jt=>?_;show#[0,p,C,dx,_,0,h1,T.cl,T.nR,fY _ _,0,a,W,t,rfl,D.R.hd,ht,kN,λx hx=>?_];let hm:=aI hx;let rm:=D.R.rm _ hm;show jt _ _ (lE λ_ jt=>?_);show#[0,x.1,0,rm.hd,by rw[fQ];show a4 _ hm,λl1 a0=>?_];rw[oV];let s1:=aw (X:=.lst ((du x.2).map V.int)) a0;show#[0,0,l1,du x.2,pg,m,rfl,ae,a5,a6,λh H2 s2=>kP x hx h H2 (s1.trans s2),λh aB H2 l2 s2 a8 ab=>?_];let S2:=s1.trans s2;show jt _ _ (HF λ_ jb=>?_);show#[0,l2,rfl,#[_,bA.of ab],?_];show dg (K:=K) (a:=l2) (xs:=(aE pg m).map V.int) (λi σ H3=>∃U:Option V,σ=#v[.ref p,.int t,.int pg,.int m,.ref x.1,.ref l2,U]/\cj H3 x.1 (gB x.2 ((aE pg m).take i))/\Off (· = x.1) H2 H3/\(∀q∈(aE pg m).drop i,∃y,look (gB x.2 ((aE pg m).take i)) q=some y))
  #[0,rm.same S2,(λb o e _=>e),λq J=>kj (aB q J)] (λi σ H3 _ z0=>by let#[_,_,_,I,_]:=z0;show bA.of (I _ _ ab (D0 (cX (rm.same S2).hd ab)))) ?_ ?_
 .rintro i y σ H3 hy ⟨U,rfl,G,I,as⟩;rw[Od]at hy;let#[q,J,rfl]:=wh.mp hy;let hi:=(sN.mp J).1;let ac:(aE pg m).drop i=q::(aE pg m).drop (i+1):=by
   rw[P9 hi,(sN.mp J).2]
  let#[z,hz]:=as q (by rw[ac];show OF ..);let a3:(aE pg m).take (i+1)=(aE pg m).take i++[q]:=(by rw[OY,J];rfl);let ap:gB x.2 ((aE pg m).take (i+1))=bh (gB x.2 ((aE pg m).take i)) q:=by
   unfold gB;rw[a3,Vj];rfl
  let am:((aE pg m).drop i).Nodup:=(jJ pg m).sublist (Rw _ _);rw[ac]at am;show jb _ _ _ ?_;show#[0,x.1,rfl,.inl #[_,.inl G.hd],0,_,Ot q,fP z,G.hd,rfl,by rw[cW,hz];rfl,?_];rw[ir];show#[0,by rw[ap];show G.del,λb o e L=>by rw[ai L];show I _ _ e L,λq' ao=>?_];rw[ap,cA (λz=>(Oo.mp am).1 (by rw[<-z];show ao))];show as q' (by rw[ac];show OH _ ao)
 .rintro σ H3 ⟨U,rfl,G,I,_⟩;rw[ti,Ph]at G;let O3:Off (· = x.1) H H3:=λb o e L=>I _ _ (S2 _ _ e) L;show kQ x hx h aB H3 (D.lK hx O3 G) O3
theorem rep1{α:Type}(x:α)(n:Nat):(replicate n [x]).flatten=replicate n x:=by
 induction n with
 |zero=>rfl
 |succ n z=>rw[PQ,QY,z,PQ];rfl
def z8:List Int:=replicate 8 0
inductive B4(C CN CP CT CR:Addr)(vs:List V)(H:Hp)(Q:VK)(E:XK):Prop
 |mk(p a:Addr)(bK t pg m:Int)(W:bF)(_:vs=[.ref p,.int t,.int pg,.int m])(_:cR C H p a bK W)(_:t.natAbs.log2<1920)(_:pg.natAbs.log2<1920)(_:m.natAbs.log2<1920)(_:W.length<=1000)(_:(∀x∈W,x.2.2.length<=64))(_:0<=bK)(_:(look W t=none->E (.ref CN) none H))(_:(∀x,look W t=some x->aX pg m->∀H',aQ H H'->E (.ref CP) none H'))(_:(∀x,look W t=some x->¬ aX pg m->(∃q∈aE pg m,q∈du x.2)->∀H',aQ H H'->E (.ref CT) none H'))(_:(∀x,look W t=some x->¬ aX pg m->(∀q∈aE pg m,¬ q∈du x.2)->bK<heldW W+m->∀H',aQ H H'->E (.ref CR) none H'))(_:(∀x,look W t=some x->¬ aX pg m->(∀q∈aE pg m,¬ q∈du x.2)->¬ bK<heldW W+m->∀(H':Hp)(N:bp),N.map (·.1)=aE pg m->(∀y∈N,y.2.2=z8/\H y.2.1=none)->cR C H' p a bK (aW W t (x.1,x.2++N))->Off (· = x.1) H H'->Q .bB H'))
theorem zo{W:bF}(h:∀x∈W,x.2.2.length<=64):0<=heldW W/\heldW W<=64*W.length:=by
 unfold heldW
 induction W with
 |nil=>show#[Pp _,Pp _]
 |cons x W F =>
  let h1:=h x (OF ..);let#[I,G]:=F λy z=>h y (OH _ z);rw[PN,Qx,Oq]
  push_cast
  omega
theorem iz{n:Int}(h1 : -100000<=n)(h2:n<=100000):n.natAbs.log2<1920:=by
 cases z:n.natAbs=0
 .rw[z];decide
 .rw[WC z];let G:n.natAbs<=100000:=af;let F:(100000:Nat)<2^1920:=ak;omega
theorem cj.add{H:Hp}{r c:Addr}{R:bp}{q:Int}{G:List Int}(F:cj H r R)(I:H c=some (.lst (G.map V.int)))(J:G.length=8)(L:look R q=none)(S:0<=q)(O:q<64):cj (L2.upd H r (.dK (wV (R++[(q,c,G)])))) r (R++[(q,c,G)]):=by
 show#[ae,λy z=>?_,?_,λy z=>?_]
 .rcases By.mp z with z|z
  .show#[by rw[ai (D0 (cX F.hd (F.hr y z).1))];show(F.hr y z).1,(F.hr y z).2]
  .rw[t6.mp z];show#[by rw[ai (D0 (cX F.hd I))];show I,J]
 .rw[Ou];show Pf.mpr #[F.nd,Oo.mpr #[by simp,Pk],λx hx y z=>by
   have:y=q:=‹z›;rw[this];rintro rfl;show bW L hx]
 .rcases By.mp z with z|z
  .show F.rg y z
  .rw[t6.mp z];show#[S,O]
theorem wK{α:Type}{l:List (Int×α)}{k:Int}(h:¬ k∈l.map (·.1)):look l k=none:=by
 cases e:look l k with
 |none=>rfl
 |some x=>show absurd (Ol.mpr #[_,aI e,rfl]) h
theorem E5:aD ["self","task","page","many","room","pages","wanted"] ["self","task","page","many"] (au Js):=L2.bL
theorem Ht{f C CN CP CT CR aT fM fA fH:Addr}{fd dR dM dA dH:t7}(F:cq K "map" "PlainRooms.map" Js f fd)(T:Txt K mg C)(TS:vA mg)
  (GR:⇑aG 1 aT dR ["rooms","task"] (bP CN)) (DR:Def K mg "room_of" aT dR ["rooms","task"])
  (GM:⇑aG 2 fM dM ["mapped","page","many"] (gA CP CT)) (DM:Def K mg "pages_to_map" fM dM ["mapped","page","many"])
  (GA:⇑aG 1 fA dA ["held","total"] (f9 CR)) (DA:Def K mg "refuse_above" fA dA ["held","total"])
  (GH:↥aG 1 fH dH ["self"] (ju C)) (bH:Binds K dH ["self"] []) (mH:Meth K C "held" fH):⇑aG 3 f fd ["self","task","page","many"] (B4 C CN CP CT CR):=by
 let#[u8,m8,r8]:=TS.cells;show F.gD E5 (λbc A outer s H vs Q E S h=>?_);let#[p,a,bK,t,pg,m,W,rfl,D,ht,a8,ba,lw,ao,a6,kN,kP,kT,kR,kQ]:=h;let hs:=HC;let#[dx,h1]:=id D.ob;let a7:(fW bK a).lookup ("held" : Str)=none:=aS _ _ ak ak;show#[_,(ax (rh 4 E5.nd (cy GR (S.mono aq) rfl (by rfl) DR.mg DR.kp DR.b .nil (aa (aH (pv 0) rfl) (aa (pv 1) ag))))
  (ax (rh 5 E5.nd (cy GM (S.mono aq) rfl (by rfl) DM.mg DM.kp DM.b .nil (aa (cJ (iK rfl) (by rfl) T.list eF (aa (pv 4) ag)) (aa (pv 2) (aa (pv 3) ag)))))
  (ax (dG (cy GA (S.mono aq) rfl (by rfl) DA.mg DA.kp DA.b .nil (aa (aA bR (qO (pv 0) T.cl mH GH (S.mono aq) bH .nil az) (a9 bS (by rfl) T.len boot_len (aa (pv 5) ag))) (aa (aH (pv 0) rfl) ag))))
  (iS (ar (dh Ow rfl (dQ (pv 5)) (nD 6 E5.nd) (ar (fZ (de S) (pv 4) (pv 6) (aA pS (cm (aa ah ag)) (bO (by rfl) m8 r8)) rfl)))))))),?_]
 show lE λ_ U=>?_;show#[0,p,C,dx,_,0,h1,T.cl,T.nR,fY _ _,0,a,W,t,rfl,D.R.hd,ht,kN,λx hx=>?_];let hm:=aI hx;let rm:=D.R.rm _ hm;show U _ _ (lE λ_ U=>?_);show#[0,x.1,0,rm.hd,by rw[fQ];have:=ao _ hm;let e:x.2.length<=64:=this;omega,λl1 a5=>?_];rw[oV];let s1:=aw (X:=.lst ((du x.2).map V.int)) a5;show#[0,0,l1,du x.2,pg,m,rfl,ae,a8,ba,λh H2 s2=>kP x hx h H2 (s1.trans s2),λh h' H2 s2=>kT x hx h h' H2 (s1.trans s2),λh am H2 l2 s2 bf a3=>?_];let S2:=s1.trans s2;let lp:(aE pg m).length=m.toNat:=(by unfold aE;rw[ti,Qg]);let m1:¬ m<1:=λz=>h (.inl z);let m2:¬ pg<0:=λz=>h (.inr (.inl z));let m3:¬ 64<pg+m:=λz=>h (.inr (.inr z));let#[bd,be]:=zo ao;let D2:=D.same S2;show U _ _ (BU λ_ U=>?_);show#[0,p,dx,0,S2 _ _ h1,a7,p,a,bK,W,rfl,D2,lw,λH3 s3=>?_];let O:=S2.trans s3;show#[0,l2,0,.inl (bA.of (s3 _ _ a3)),_,0,rfl,0,p,C,dx,_,0,O _ _ h1,T.cl,T.nT,D6 _ _,heldW W+m,bK,?_,af,a6,λz=>kR x hx h am z H3 O,λz=>?_]
 .change[V.int (heldW W+(((aE pg m).map V.int).length:Nat)),V.int bK]=_;rw[ti,lp,Ri af]
 .let a4:=rm.same O;let ac:=s3 _ _ a3;show U _ _ (HF λ_ jb=>?_);show#[0,l2,rfl,#[_,bA.of ac],?_];show dg (K:=K) (a:=l2) (xs:=(aE pg m).map V.int) (λi σ H4=>∃(v6:Option V)(N:bp),σ=#v[.ref p,.int t,.int pg,.int m,.ref x.1,.ref l2,v6]/\cj H4 x.1 (x.2++N)/\N.map (·.1)=(aE pg m).take i/\(∀y∈N,y.2.2=z8/\H y.2.1=none)/\Off (· = x.1) H3 H4)
   #[_,[],rfl,by rw[QS];show a4,rfl,(λ_ h=>nomatch h),λb o e _=>e] (λi σ H4 _ z0=>by let#[_,_,_,_,_,_,J]:=z0;show bA.of (J _ _ ac (D0 (cX a4.hd ac)))) ?_ ?_
  .rintro i y σ H4 I ⟨v6,N,rfl,r4,L,hz,J⟩;rw[Od]at I;let#[q,hq,rfl]:=wh.mp I;let as:=NC hq;let#[q0,q1,_]:=iy h q as;let hi:=(sN.mp hq).1;let bl:N.length=i:=by
    have:=congrArg Qz L;rw[ti,Oz]at this;omega
   let a0:look (x.2++N) q=none:=wK λz=>by
    rw[Ou]at z;rcases By.mp z with z|z
    .show am q as z
    .rw[L]at z;let#[j,hj,ej]:=P8.mp z;rw[Oz]at hj;rw[Q3]at ej;have:=(Ul (jJ pg m)).mp (ej.trans (sN.mp hq).2.symm);omega
   show jb _ _ _ ?_;show#[aq,λz1 aB=>#[z1,(8),0,rfl,ae,af,af,by rw[Pu];omega,λG ap=>?_]];rw[rep1 (V.int 0)];let sz:=(aw (X:=.lst [V.int 0]) aB).trans (aw (X:=.lst (replicate ((8:Int)).toNat (V.int 0))) ap);let ez:(upd (upd H4 z1 (.lst [V.int 0])) G (.lst (replicate ((8:Int)).toNat (V.int 0)))) G=some (.lst (z8.map V.int)):=(by rw[ae];unfold z8;rw[UT];rfl);let n2:H G=none:=by
    cases e:H G with
    |none=>rfl
    |some u =>
     let ab:=(aw (X:=.lst [V.int 0]) aB).free ap;cases e2:G=x.1
     .rw[e2,r4.hd]at ab;cases ab
     .rw[J _ _ (O _ _ e) e2]at ab;cases ab
   generalize upd (upd H4 z1 (.lst [V.int 0])) G (.lst (replicate ((8:Int)).toNat (V.int 0)))=H5 at *;let r5:=r4.same sz;let bi:x.2.length<=64:=ao _ hm;show#[0,0,x.1,0,kL.k (k:=Ot q) r5.hd (by rw[fQ,Oj];omega),?_];rw[show(V.ref G)=fP (G,z8)from rfl,eJ a0];show#[_,N++[(q,G,z8)],rfl,by rw[<-OP];show r5.add ez rfl a0 q0 q1,?_,λy I=>?_,λb o e nb=>by rw[ai nb];show sz _ _ (J _ _ e nb)]
   .rw[Ou,L,OY,hq];rfl
   .rcases By.mp I with I|I
    .show hz y I
    .rw[t6.mp I];show#[rfl,n2]
  .rintro σ H4 ⟨v6,N,rfl,r4,L,hz,J⟩;rw[ti,Ph]at L;let O4:Off (· = x.1) H H4:=λb o e nb=>J _ _ (O _ _ e) nb;show kQ x hx h am z H4 N L hz (D.lK hx O4 r4) O4
def con(R:bp):List (Int×List Int):=R.map λx=>(x.1,x.2.2)
def jG(c:List (Int×List Int))(ps:List Int)(z:List (List Int)):List (Int×List Int):=(ps.zip z).foldl (λc x=>aW c x.1 x.2) c
def Em(R:bp)(ad:Int)(cs:List Int):List (Int×List Int):=jG (con R) (aC ad cs.length) (fJ (aC ad cs.length).length (eg (cellsOf R (aC ad cs.length)) (ad%8).toNat cs))
inductive yr(K:Om)(C CN CP:Addr)(vs:List V)(H:Hp)(Q:VK)(E:XK):Prop
 |mk(p a c:Addr)(bK t ad:Int)(cs:List Int)(W:bF)(_:vs=[.ref p,.int t,.int ad,.ref c])(_:cR C H p a bK W)(_:bA K H c (cs.map V.int))(_:cs.length<=500)(_:t.natAbs.log2<1920)(_:(ed ad).natAbs.log2<1920)(_:(dB ad cs.length).natAbs.log2<1920)(_:(∀x∈W,x.2.2.length<=1000))(_:(look W t=none->E (.ref CN) none H))(_:(∀x,look W t=some x->bq ad cs.length (du x.2)->∀H',aQ H H'->E (.ref CP) none H'))(_:(∀x,look W t=some x->¬ bq ad cs.length (du x.2)->∀(H':Hp)(R':bp),con R'=Em x.2 ad cs->(∀y∈R',y∈x.2\/H y.2.1=none)->cR C H' p a bK (aW W t (x.1,R'))->Off (· = x.1) H H'->Q .bB H'))
theorem sG{H:Hp}{a:Addr}{R:bp}(F:cj H a R):∀{ps:List Int},(∀q∈ps,∃x,look R q=some x)->(cellsOf R ps).length=8*ps.length
 | [],_=>rfl
 |q::ps,h=>by
  let#[x,hx]:=h q (OF ..);let z:=sG F (ps:=ps) λy G=>h y (OH _ G);unfold cellsOf at z ⊢;rw[PN,QY,Oj,z,hx,Oq];have:x.2.length=8:=(F.hr (q,x) (aI hx)).2;simp only[map_some,Option.getD_some];omega
theorem iG{ad:Int}{cs ws:List Int}{G:List Int}(h:¬ bq ad cs.length G)(F:ws.length=8*(aC ad cs.length).length):(eg ws (ad%8).toNat cs).length=8*(aC ad cs.length).length:=by
 unfold eg;rw[Oj,Oj,Oz,P7];cases e:((cs.length:Nat):Int)=0
 .have:aC ad cs.length=[]:=(by unfold aC;rw[WY e]);rw[this]at F ⊢;let I:ws.length=0:=F;let J:cs.length=0:=af;rw[I,J];simp
 .let O:(aC ad cs.length).length=(dB ad cs.length).toNat:=by
   unfold aC;rw[WX e];unfold aE;rw[ti,Qg]
  let L:0<((cs.length:Nat):Int):=af;let h1:¬ aX (ed ad) (dB ad cs.length):=λz=>h (.inr #[L,.inl z]);let h2:¬ dB ad cs.length<1:=λz=>h1 (.inl z);rw[O]at F ⊢;unfold dB at *;omega
theorem Fn{R:bp}{q:Int}{c:Addr}{z:List Int}:con (aW R q (c,z))=aW (con R) q z:=by
 unfold con aW;rw[Pt,Pt];apply OV;intro x _;change((if x.1=q then(q,(c,z))else x).1,(if x.1=q then(q,(c,z))else x).2.2)=if x.1=q then(q,z)else(x.1,x.2.2)
 cases e:x.1=q
 .rw[WY e,WY e]
 .rw[WX e,WX e]
theorem cj.put{H:Hp}{r c:Addr}{R:bp}{q:Int}{G:List Int}(z:cj H r R)(J:H c=some (.lst (G.map V.int)))(L:G.length=8)(O:∃x,look R q=some x):cj (L2.upd H r (.dK (wV (aW R q (c,G))))) r (aW R q (c,G)):=by
 let#[x,hx]:=O;show#[ae,λy I=>?_,by rw[mP];show z.nd,λy I=>?_]
 .rcases gJ I with e|⟨F,_⟩
  .rw[e];show#[by rw[ai (D0 (cX z.hd J))];show J,L]
  .show#[by rw[ai (D0 (cX z.hd (z.hr y F).1))];show(z.hr y F).1,(z.hr y F).2]
 .rcases gJ I with e|⟨F,_⟩
  .rw[e];show z.rg (q,x) (aI hx)
  .show z.rg y F
theorem yi{k:Nat}{ws:List Int}(h:ws.length=8*k):∀z∈fJ k ws,z.length=8:=by
 intro z F;unfold fJ at F;let#[i,hi,rfl]:=Ol.mp F;have:=Sr.mp hi;rw[Oz,P7,h];omega
theorem vW{c:List (Int×List Int)}:∀{ps:List Int}{z:List (List Int)},(jG c ps z).map (·.1)=c.map (·.1):=by
 intro ps z;unfold jG;generalize ps.zip z=l
 induction l generalizing c with
 |nil=>rfl
 |cons x l F=>rw[VB,F,mP]
theorem iO{α z:Type}{F:α->z->Prop}{G:List α}{bs:List z}(h:Paired F G bs):∀{i:Nat}{a:α},G[i]?=some a->∃b,bs[i]?=some b/\F a b:=by
 induction h with
 |nil=>intro i a e;simp at e
 |cons h1 h2 L =>
  intro i a e;cases i with
  |zero=>simp at e;subst e;show#[0,h1]
  |succ i=>simp at e;let#[b,I,J]:=L e;show#[b,by simpa using I,J]
theorem AD{R:bp}{q:Int}:(∃x,look R q=some x)↔q∈du R:=#[λ⟨x,h⟩=>Ol.mpr #[_,aI h,rfl],kj]
theorem jh:aD ["self","task","address","cells","room","pages","whole","page","changed"] ["self","task","address","cells"] (au DV):=L2.bL
theorem FL{f C CN CP a8 fO a0 bc:Addr}{fd dR dO dC bd:t7}(F:cq K "poke" "PlainRooms.poke" DV f fd)(T:Txt K mg C)
  (GR:⇑aG 1 a8 dR ["rooms","task"] (bP CN)) (DR:Def K mg "room_of" a8 dR ["rooms","task"])
  (GO:⇑aG 2 fO dO ["mapped","address","many"] (dN CP)) (DO:Def K mg "pages_of_cells" fO dO ["mapped","address","many"])
  (GC:↥aG 1 a0 dC ["room","pages"] gx) (DC:Def K mg "cells_of_pages" a0 dC ["room","pages"])
  (bn:↥aG 1 bc bd ["whole","address","cells"] (sX K)) (ap:Def K mg "pages_with" bc bd ["whole","address","cells"]):⇑aG 3 f fd ["self","task","address","cells"] (yr K C CN CP):=by
 show F.gD jh (λb3 A outer s H vs Q E S h=>?_);let#[p,a,c,bK,t,ad,cs,W,rfl,D,hc,lc,ht,hf,bx,a7,kN,kP,kQ]:=h;let hs:=HC;let#[dx,h1]:=id D.ob;show#[_,(ax (rh 4 jh.nd (cy GR (S.mono aq) rfl (by rfl) DR.mg DR.kp DR.b .nil (aa (aH (pv 0) rfl) (aa (pv 1) ag))))
  (ax (rh 5 jh.nd (cy GO (S.mono aq) rfl (by rfl) DO.mg DO.kp DO.b .nil (aa (cJ (iK rfl) (by rfl) T.list eF (aa (pv 4) ag)) (aa (pv 2) (aa (a9 bS (by rfl) T.len boot_len (aa (pv 3) ag)) ag)))))
  (iS (aj (cV 6 jh.nd (eK GC (S.mono aq) (by rfl) DC.mg DC.kp DC.b .nil az (aa (pv 4) (aa (pv 5) ag))))
  (ar (dh Ow rfl (Cg (by rfl) T.zip (aa (pv 5) (aa (eK bn (S.mono aq) (by rfl) ap.mg ap.kp ap.b .nil az (aa (pv 6) (aa (pv 2) (aa (pv 3) ag)))) ag))) (tF rfl (gf (nD 7 jh.nd) (gf (nD 8 jh.nd) pC))) (ar (fZ (de S) (pv 4) (pv 7) (pv 8) rfl)))))))),?_]
 show lE λ_ U=>?_;show#[0,p,C,dx,_,0,h1,T.cl,T.nR,fY _ _,0,a,W,t,rfl,D.R.hd,ht,kN,λx hx=>?_];let hm:=aI hx;let rm:=D.R.rm _ hm;show U _ _ (lE λ_ U=>?_);show#[0,x.1,0,rm.hd,by rw[fQ];show a7 _ hm,λl1 bm=>?_];rw[oV];let s1:=aw (X:=.lst ((du x.2).map V.int)) bm;show#[0,0,c,0,.inl (eR hc (s1 _)),l1,du x.2,ad,cs.length,by rw[ti];rfl,ae,iz af af,hf,bx,λh H2 s2=>kP x hx h H2 (s1.trans s2),λh H2 l2 s2 b6 ba=>?_];let#[c1,c2]:=dy h;let S2:=s1.trans s2;let a4:∀q∈aC ad cs.length,∃y,look x.2 q=some y:=λq hq=>kj (c2 q hq);show U _ _ (iT λ_ U=>?_);show#[0,0,x.1,l2,x.2,aC ad cs.length,rfl,rm.same S2,ba,c1,a4,λH3 l3 s3 b4 bH=>?_];let S3:=S2.trans s3;let lw:=sG rm a4;show U _ _ (HF λ_ jb=>?_);show#[0,0,0,0,l3,c,cellsOf x.2 (aC ad cs.length),cs,ad,(aC ad cs.length).length,rfl,bH,eR hc (S3 _),by rw[lw];omega,af,c1,iG h lw,λH4 l4 rs s4 b7 as ac bz b5=>?_];let S4:=S3.trans s4;let am:=rm.same S4;let ao:=(s3.trans s4) _ _ ba;let aB:rs.length=(aC ad cs.length).length:=by
  rw[ac.length];unfold fJ;rw[ti,Qg]
 generalize eC:fJ (aC ad cs.length).length (eg (cellsOf x.2 (aC ad cs.length)) (ad%8).toNat cs)=ch at ac;let h8:∀ab∈ch,ab.length=8:=by
  rw[<-eC];show yi (iG h lw)
 show#[l2,l4,rfl,#[_,bA.of ao],#[_,bA.of as],?_];show zg (K:=K) (a:=l2) (b:=l4) (xs:=(aC ad cs.length).map V.int) (ys:=rs.map V.ref) (λi σ G=>∃(v7 v8:Option V)(I:bp),σ=#v[.ref p,.int t,.int ad,.ref c,.ref x.1,.ref l2,.ref l3,v7,v8]/\cj G x.1 I/\con I=jG (con x.2) ((aC ad cs.length).take i) (ch.take i)/\(∀y∈I,y∈x.2\/H y.2.1=none)/\Off (· = x.1) H4 G)
  #[2,x.2,rfl,am,rfl,λy O=>.inl O,λb o e _=>e] (by rw[ti,ti,aB]) (λi σ G _ z0=>by let#[_,_,_,_,_,_,_,J]:=z0;show#[bA.of (J _ _ ao (D0 (cX am.hd ao))),bA.of (J _ _ as (D0 (cX am.hd as)))]) ?_ ?_
 .rintro i u v σ G z hu hv hz ⟨v7,v8,I,rfl,r5,L,aT,J⟩;rw[Od]at hu hv;let#[q,hq,rfl]:=wh.mp hu;let#[r,a6,rfl]:=wh.mp hv;let bi:r∈rs:=NC a6;let bl:=NC hq;let#[ab,be,a5]:=iO ac a6;let b0:=h8 ab (NC be);let sT:=aw (X:=.tup [.int q,.ref r]) hz;let r6:=r5.same sT;let bf:G r=some (.lst (ab.map V.int)):=J _ _ a5 (D0 (cX am.hd a5));let bI:=sT _ _ bf;let a3:(du I)=du x.2:=by
   let e1:(con I).map (·.1)=(con x.2).map (·.1):=(by rw[L,vW]);unfold con at e1;rw[Pt,Pt]at e1;show e1
  let bV:∃y,look I q=some y:=AD.mpr (by rw[a3];show c2 q bl);let#[y,O]:=bV;show#[z,[.int q,.ref r],rfl,bM.of ae,rfl,.int q,[.ref r],rfl,.ref r,[],1,?_];generalize upd G z (.tup [.int q,.ref r])=H6 at *;show jb _ _ _ ?_;show#[0,0,0,x.1,0,kL.k (k:=Ot q) r6.hd (by rw[fQ];have:=congrArg Qz a3;unfold du at this;rw[ti,ti]at this;rw[this];have:=a7 _ hm;let e:x.2.length<=1000:=this;omega),?_];rw[show(V.ref r)=fP (r,ab)from rfl,jv O];show#[2,0,r6.put bI b0 #[y,O],?_,λy O=>?_,λb o e nb=>by rw[ai nb];show sT _ _ (J _ _ e nb)]
  .rw[Fn,L];unfold jG;rw[OY,OY,hq,be,List.zip_append (by rw[Oz,Oz, <-ac.length,aB]),Vj];rfl
  .rcases gJ O with e|⟨bY,_⟩
   .rw[e];show .inr (S3.free (bz r bi))
   .show aT y bY
 .rintro σ G ⟨v7,v8,I,rfl,r5,L,aT,J⟩;rw[ti,Ph]at L;let bv:ch.length=(aC ad cs.length).length:=(by rw[<-ac.length,aB]);rw[<-bv,Ph, <-eC]at L;let O5:Off (· = x.1) H G:=λb o e nb=>J _ _ (S4 _ _ e) nb;show kQ x hx h G I L aT (D.lK hx O5 r5) O5
inductive lh(C CN CT CR:Addr)(vs:List V)(H:Hp)(Q:VK)(E:XK):Prop
 |mk(p a:Addr)(bK t o:Int)(W:bF)(_:vs=[.ref p,.int t,.int o])(_:cR C H p a bK W)(_:t.natAbs.log2<1920)(_:o.natAbs.log2<1920)(_:W.length<=1000)(_:(∀x∈W,x.2.2.length<=64))(_:0<=bK)(_:(look W t=none->E (.ref CN) none H))(_:(∀x,look W t=some x->(∃y,look W o=some y)->E (.ref CT) none H))(_:(∀x,look W t=some x->look W o=none->bK<heldW W+x.2.length->∀H',aQ H H'->E (.ref CR) none H'))(_:(∀x,look W t=some x->look W o=none->¬ bK<heldW W+x.2.length->∀(H':Hp)(r:Addr)(N:bp),H r=none->con N=con x.2->(∀y∈N,H y.2.1=none)->cR C H' p a bK (W++[(o,r,N)])->Off (· = a) H H'->Q .bB H'))
theorem cR.Fy{C:Addr}{H H1:Hp}{p a r:Addr}{bK o:Int}{W:bF}{N:bp}(D:cR C H p a bK W)(U:look W o=none)(s:aQ H H1)(I:H r=none)(O:cj H1 r N):cR C (L2.upd H1 a (.dK (wX (W++[(o,r,N)])))) p a bK (W++[(o,r,N)]):=by
 let#[dx,h1]:=id D.ob;let F:=D.same s;let J:=s _ _ h1;let L:r≠a:=D0 (av D.R.hd I);show#[#[dx,by rw[ai (D0 (ij F.R.hd J))];show J],ae,λx hx=>?_,3,λx hx=>?_]
 .rcases By.mp hx with hx|hx
  .show(F.R.rm x hx).upd (D.R.ne x hx) #[_,F.R.hd]
  .rw[t6.mp hx];show O.upd L #[_,F.R.hd]
 .rw[Ou];show Pf.mpr #[D.R.nd,Oo.mpr #[by simp,Pk],λx hx y G=>by
   have:y=o:=‹G›;rw[this];rintro rfl;show bW U hx]
 .rw[Ou];show Pf.mpr #[D.R.sp,Oo.mpr #[by simp,Pk],λx hx y G=>by
   have:y=r:=‹G›;rw[this];rintro rfl;let#[z,S,e]:=Ol.mp hx;have:=(D.R.rm z S).hd;rwa[e,I]at this]
 .rcases By.mp hx with hx|hx
  .show D.R.ne x hx
  .rw[t6.mp hx];show L
theorem LS:aD ["self","total"] ["self","total"] (au jD):=L2.bL
theorem mj{C:Addr}(F:cq K "__init__" "PlainRooms.__init__" jD f fd)(T:Txt K mg C):↥aG 1 f fd ["self","total"] (gu C):=by
 show F.eL LS (λR A outer s H vs Q E S h=>?_);let#[p,dx,t,rfl,O,k]:=h;show#[_,(aj (fV (pv 0) (pv 1) rfl)
  (ar (fV (pv 0) fG rfl))),?_]
 show#[0,0,p,C,dx,[],rfl,O,T.cl,T.nT,aq,?_];intro a G;let I:p≠a:=λz=>(by rwa[<-z,ae]at G);let J:H a=none:=(by rw[ai (D0 I)]at G;show G);show#[0,p,C,dx,0,by rw[ai I,ae],T.cl,T.nR,by change 1<1000;decide,?_];show k _ a J #[#[dx,ae],#[?_,(λ_ h=>nomatch h),Pk,Pk,(λ_ h=>nomatch h)]] λb o e L=>?_
 .rw[ai (D0 I),ae];rfl
 .rw[ai L,ai (av e J),ai L];show e
theorem Ai:aD ["self","task","other","room","copied","page"] ["self","task","other"] (au oa):=L2.bL
theorem uf{f C CN CT CR a0 fS fA fH:Addr}{fd dR dS dA dH:t7}(F:cq K "copy" "PlainRooms.copy" oa f fd)(T:Txt K mg C)
  (GR:⇑aG 1 a0 dR ["rooms","task"] (bP CN)) (DR:Def K mg "room_of" a0 dR ["rooms","task"])
  (GS:⇑aG 1 fS dS ["rooms","task"] (eE CT)) (DS:Def K mg "refuse_second_room" fS dS ["rooms","task"])
  (GA:⇑aG 1 fA dA ["held","total"] (f9 CR)) (DA:Def K mg "refuse_above" fA dA ["held","total"])
  (GH:↥aG 1 fH dH ["self"] (ju C)) (bH:Binds K dH ["self"] []) (mH:Meth K C "held" fH):⇑aG 2 f fd ["self","task","other"] (lh C CN CT CR):=by
 show F.gD Ai (λba A outer s H vs Q E hr h=>?_);let#[p,a,bK,t,o,W,rfl,D,ht,ho,lw,aT,a4,kN,kT,kR,kQ]:=h;let hs:=HC;let#[dx,h1]:=id D.ob;let a7:(fW bK a).lookup ("held" : Str)=none:=aS _ _ ak ak;show#[_,(ax (rh 3 Ai.nd (cy GR (hr.mono aq) rfl (by rfl) DR.mg DR.kp DR.b .nil (aa (aH (pv 0) rfl) (aa (pv 1) ag))))
  (ax (dG (cy GS (hr.mono aq) rfl (by rfl) DS.mg DS.kp DS.b .nil (aa (aH (pv 0) rfl) (aa (pv 2) ag))))
  (ax (dG (cy GA (hr.mono aq) rfl (by rfl) DA.mg DA.kp DA.b .nil (aa (aA bR (qO (pv 0) T.cl mH GH (hr.mono aq) bH .nil az) (a9 mY (by rfl) T.len boot_len (aa (pv 3) ag))) (aa (aH (pv 0) rfl) ag))))
  (iS (aj (cV 4 Ai.nd fG)
  (aj (y0 (dh Ow rfl (oO (pv 3)) (nD 5 Ai.nd) (ar (fZ (de hr) (pv 4) (pv 5) (cJ ff (by rfl) T.list eF (aa (hJ (de hr) (pv 3) (pv 5) cB) ag)) rfl))))
  (ar (fZ (de hr) (aH (pv 0) rfl) (pv 2) (pv 4) rfl)))))))),?_]
 show lE λ_ I=>?_;show#[0,p,C,dx,_,0,h1,T.cl,T.nR,fY _ _,0,a,W,t,rfl,D.R.hd,ht,kN,λx hx=>?_];let hm:=aI hx;let O:=D.R.rm _ hm;let be:x.2.length<=64:=aT _ hm;let#[bc,bd]:=zo aT;show I _ _ (BU λ_ I=>?_);show#[0,p,C,dx,_,0,h1,T.cl,T.nR,fY _ _,0,a,W,o,rfl,D.R.hd,ho,kT x hx,λhn=>?_];show I _ _ (BU λ_ I=>?_);show#[0,p,dx,0,h1,a7,p,a,bK,W,rfl,D,lw,λH3 s3=>?_];let U:=s3;let e3:=s3 _ _ O.hd;show#[0,x.1,0,e3,_,0,rfl,0,p,C,dx,_,0,U _ _ h1,T.cl,T.nT,D6 _ _,heldW W+x.2.length,bK,?_,af,a4,λz=>kR x hx hn z H3 U,λz=>?_]
 .change[V.int (heldW W+((wV x.2).length:Nat)),V.int bK]=_;rw[fQ]
 show I _ _ (iT λ_ I=>?_);intro r ab;let sr:=aw (X:=.dK []) ab;let S4:=U.trans sr;let ao:=O.same S4;let er:(upd H3 r (.dK [])) r=some (.dK []):=ae;generalize upd H3 r (.dK [])=H4 at *;let aB:∀(o:Obj) u',H x.1≠some (.frz o u'):=λo u' z=>(by rwa[O.hd]at z);let ap:r≠x.1:=D0 (av e3 ab);show I _ _ (Kd λ_ I=>?_);show#[0,x.1,0,ao.hd,aB,λob=>?_];show vG (kvs:=wV x.2) (λi σ G=>∃(v5:Option V)(N:bp),σ=#v[.ref p,.int t,.int o,.ref x.1,.ref r,v5]/\cj G r N/\con N=(con x.2).take i/\(∀y∈N,H y.2.1=none)/\G x.1=some (.frz ob (.dK (wV x.2)))/\Off (λb=>b=r\/b=x.1) H4 G)
  #[_,[],rfl,#[by rw[ai ap];show er,(λ_ h=>nomatch h),Pk,(λ_ h=>nomatch h)],rfl,(λ_ h=>nomatch h),ae,λb o e nb=>by rw[ai (λz=>nb (.inr z))];show e] (λi σ G _ z0=>by let#[_,_,_,_,_,_,J,_]:=z0;show J) ?_ ?_
 .rintro i kk v σ G hk ⟨v5,N,rfl,L,c5,f5,J,o5⟩;let as:(x.2.map λy:Int×Addr×List Int=>((Ot y.1:Key),fP y.2))[i]?=some (kk,v):=hk;rw[Od]at as;let#[y,S,e]:=wh.mp as;cases e;let am:=NC S;let hi:i<x.2.length:=(sN.mp S).1;let a6:look x.2 y.1=some y.2:=cD O.nd am;let hg:fb G x.1 (.int y.1) (some (fP y.2)):=.inl #[wV x.2,Ot y.1,.inr #[ob,J],rfl,by rw[cW,a6];rfl];let#[ac,a8]:=ao.hr y am;let a5:G y.2.1=some (.lst (y.2.2.map V.int)):=o5 _ _ ac (λq=>q.elim (λq=>by rwa[q,er]at ac) (λq=>by rwa[q,ao.hd]at ac));let hN:look N y.1=none:=wK λq=>by
   let e1:N.map (·.1)=(x.2.map (·.1)).take i:=by
    have:=congrArg (List.map (·.1)) c5;unfold con at this;rw[Pt,Wd,Pt]at this;show this
   rw[e1]at q;let#[j,hj,ej]:=P8.mp q;rw[Oz,ti]at hj;rw[Q3]at ej;let ei:(x.2.map (·.1))[i]'(by rw[ti];show hi)=y.1:=by
    rw[Tx,(sN.mp S).2]
   have:=(Ul O.nd).mp (ej.trans ei.symm);omega
  let lN:N.length=i:=by
   have:=congrArg Qz c5;unfold con at this;rw[ti,Oz,ti]at this;omega
  show#[0,0,x.1,0,hg,y.2.1,0,.inl (bA.of a5),λl hl=>?_];let sl:=aw (X:=.lst (y.2.2.map V.int)) hl;let el:(upd G l (.lst (y.2.2.map V.int))) l=some (.lst (y.2.2.map V.int)):=ae;let a3:l≠x.1:=D0 (av J hl);let r6:=L.same sl;let h6:=sl _ _ J;let nl:H l=none:=by
   cases e:H l with
   |none=>rfl
   |some u =>
    let e4:=S4 _ _ e;cases q:l=r
    .rw[q]at e;rwa[U.free ab]at e
    .rw[o5 _ _ e4 (λz=>z.elim q a3)]at hl;cases hl
  generalize upd G l (.lst (y.2.2.map V.int))=H6 at *;show#[0,0,r,0,kL.k (k:=Ot y.1) r6.hd (by rw[fQ];omega),?_];rw[show(V.ref l)=fP (l,y.2.2)from rfl,eJ hN];show#[_,N++[(y.1,l,y.2.2)],rfl,r6.add el a8 hN (O.rg y am).1 (O.rg y am).2,?_,λz hz=>?_,by rw[ai (D0 ap)];show h6,λb o e nb=>by rw[ai (λz=>nb (.inl z))];show sl _ _ (o5 _ _ e nb)]
  .rw[OY, <-c5];unfold con;rw[Od,S,Ou];rfl
  .rcases By.mp hz with hz|hz
   .show f5 z hz
   .rw[t6.mp hz];show nl
 .rintro σ G ⟨v5,N,rfl,L,c5,f5,J,o5⟩;show#[x.1,ob,_,J,aB,?_];rw[fQ,O8 (show(con x.2).length<=x.2.length by unfold con;rw[ti];show G0 _)]at c5;let sZ:aQ H (upd G x.1 (.dK (wV x.2))):=λb u e=>by
   cases q:b=x.1
   .rw[q,ae, <-e,q,O.hd]
   .rw[ai q];show o5 _ _ (S4 _ _ e) (λz=>z.elim (λz=>by rwa[z,U.free ab]at e) q)
  let r6:cj (upd G x.1 (.dK (wV x.2))) r N:=#[by rw[ai ap];show L.hd,λy S=>#[by rw[ai (λz=>by let q:=(L.hr y S).1;rwa[z,J]at q)];show(L.hr y S).1,(L.hr y S).2],L.nd,L.rg];generalize upd G x.1 (.dK (wV x.2))=H6 at *;show I _ _ _ ?_;show#[0,0,p,C,dx,_,0,sZ _ _ h1,T.cl,T.nR,fY _ _,0,a,0,kL.k (k:=Ot o) (sZ _ _ D.R.hd) (by rw[fQ];omega),?_];rw[show(V.ref r)=fR (r,N)from rfl,eJ hn];show kQ x hx hn z _ r N (U.free ab) c5 f5 (D.Fy hn sZ (U.free ab) r6) λb o e nb=>by rw[ai nb];show sZ _ _ e
def fg(W:bF):List (Int×List (Int×List Int)):=W.map λx=>(x.1,con x.2.2)
def Fq(W:bF)(c:Addr):Prop:=∃x∈W,∃y∈x.2.2,y.2.1=c
theorem p4{α z:Type}(g:α->z)(k:Int):∀l:List (Int×α),look (l.map λx=>(x.1,g x.2)) k=(look l k).map g
 | []=>rfl
 |x::l=>by
  rw[PN,aK,aK,p4 g k l];cases e:x.1=k
  .rw[WY e,WY e];rfl
  .rw[WX e,WX e]
theorem B6{R:bp}{q:Int}:look (con R) q=(look R q).map (·.2):=p4 _ _ _
theorem nj{W:bF}{t:Int}:look (fg W) t=(look W t).map λx=>con x.2:=p4 (λx:Addr×bp=>con x.2) _ _
theorem B9{α z:Type}(g:α->z)(k:Int)(a:α)(l:List (Int×α)):(aW l k a).map (λx=>(x.1,g x.2))=aW (l.map λx=>(x.1,g x.2)) k (g a):=by
 unfold aW;rw[Pt,Pt];apply OV;intro x _;change((if x.1=k then(k,a)else x).1,g (if x.1=k then(k,a)else x).2)=if x.1=k then(k,g a)else(x.1,g x.2)
 cases e:x.1=k
 .rw[WY e,WY e]
 .rw[WX e,WX e]
theorem qy{W:bF}{t:Int}{r:Addr}{R:bp}:fg (aW W t (r,R))=aW (fg W) t (con R):=B9 (λx:Addr×bp=>con x.2) _ _ _
theorem vZ{α z:Type}(g:α->z)(k:Int)(l:List (Int×α)):(bh l k).map (λx=>(x.1,g x.2))=bh (l.map λx=>(x.1,g x.2)) k:=by
 unfold bh;rw[Wa];rfl
theorem C4{W:bF}{t:Int}:fg (bh W t)=bh (fg W) t:=vZ (λx:Addr×bp=>con x.2) _ _
theorem FJ{R:bp}{t:Int}:con (bh R t)=bh (con R) t:=vZ (λx:Addr×List Int=>x.2) _ _
theorem qx{W:bF}:(fg W).length=W.length:=ti ..
theorem lJ{R:bp}:(con R).length=R.length:=ti ..
theorem CZ{R:bp}:(con R).map (·.1)=du R:=by unfold con;rw[Pt];rfl
theorem Dt{W:bF}:heldW W=((fg W).map λx=>(x.2.length:Int)).sum:=by
 unfold heldW fg;rw[Pt];congr 1;apply OV;intro x _;change((x.2.2.length:Nat):Int)=(((con x.2.2).length:Nat):Int);rw[lJ]
theorem jg.zQ{B:WZ}{H H':Hp}{a:Addr}{W:bF}(R:jg H a W)(o:Off B H H')(F:¬ B a)(I:∀x∈W,¬ B x.2.1)(G:∀x∈W,∀y∈x.2.2,¬ B y.2.1):jg H' a W :=
 #[o _ _ R.hd F,λx hx=>#[o _ _ (R.rm x hx).hd (I x hx),λy z=>#[o _ _ ((R.rm x hx).hr y z).1 (G x hx y z),((R.rm x hx).hr y z).2],(R.rm x hx).nd,(R.rm x hx).rg],R.nd,R.sp,R.ne]
theorem cR.zQ{B:WZ}{C:Addr}{H H':Hp}{p a:Addr}{bK:Int}{W:bF}(D:cR C H p a bK W)(o:Off B H H')(np:¬ B p)(z:¬ B a)(G:∀x∈W,¬ B x.2.1)(F:∀x∈W,∀y∈x.2.2,¬ B y.2.1):cR C H' p a bK W :=
 let ⟨dx,h⟩:=D.ob;#[#[dx,o _ _ h np],D.R.zQ o z G F]
theorem jg.lst{H:Hp}{a:Addr}{W:bF}(D:jg H a W){c:Addr}(h:Fq W c):∃xs,H c=some (.lst xs):=by
 let#[x,hx,y,z,rfl]:=h;show#[_,((D.rm x hx).hr y z).1]
variable{C:Addr}{H H':Hp}{p a b:Addr}{bK:Int}{W Z:bF}{t:Int}
abbrev uT:OB:=top 38
abbrev yd:OB:=top 39
abbrev BW:OB:=top 40
abbrev B0:OB:=top 41
abbrev qt:OB:=top 42
abbrev pK:OB:=top 43
abbrev BN:OB:=top 44
abbrev LJ:OB:=top 45
abbrev jo:OB:=top 46
abbrev zN:OB:=top 47
abbrev BK:OB:=top 48
abbrev HL:OB:=top 52
structure wd(mg:W9):Prop where
 range:mg "range" = none
 enumerate:mg "enumerate" = none
 sum:mg "sum" = none
 int:mg "int" = none
 xn:mg "isinstance" = none
 min:mg "min" = none
 list:mg "list" = none
 len:mg "len" = none
 dict:mg "dict" = none
 bool:mg "bool" = none
 sorted:mg "sorted" = none
inductive gC where
 |noTask|noPage|noRoom|taken
 deriving DecidableEq
def wordOf:gC->Str
 |.noTask => "NoTask" |.noPage => "NoPage" |.noRoom => "NoRoom" |.taken => "Taken"
def jK(a b c d:Addr):gC->Addr
 |.noTask=>a|.noPage=>b|.noRoom=>c|.taken=>d
abbrev Wc:=List (Int×List (Int×List Int))
inductive gM where
 |begin(t:Int)
 |close(t:Int)
 |map(t pg m:Int)
 |drop(t pg m:Int)
 |peek(t ad n:Int)
 |hV(t ad:Int)(cs:List Int)
 |copy(t o:Int)
def gr(H:Hp)(d:Addr):gM->Prop
 |.begin t=>H d=some (.tup [.str "begin",.int t])
 |.close t=>H d=some (.tup [.str "close",.int t])
 |.map t pg m=>H d=some (.tup [.str "map",.int t,.int pg,.int m])
 |.drop t pg m=>H d=some (.tup [.str "drop",.int t,.int pg,.int m])
 |.peek t ad n=>H d=some (.tup [.str "peek",.int t,.int ad,.int n])
 |.hV t ad cs=>∃c,H d=some (.tup [.str "poke",.int t,.int ad,.ref c])/\H c=some (.lst (cs.map V.int))
 |.copy t o=>H d=some (.tup [.str "copy",.int t,.int o])
def kindOf:gM->Str
 |.begin _ => "begin" |.close _ => "close" |.map .. => "map" |.drop .. => "drop" |.peek .. => "peek" |.hV .. => "poke" |.copy .. => "copy"
theorem gr.kind{H:Hp}{d:Addr}{D:gM}(h:gr H d D):∃(r:List V),H d=some (.tup (.str (kindOf D)::r)):=by
 cases D with
 |hV t ad cs=>let#[c,h1,h2]:=h;show#[_,h1]
 |_=>show#[_,h]
def eQ(r:List (Int×List Int)):List Int:=r.map (·.1)
def lV(c:Wc):Int:=(c.map λx=>(x.2.length:Int)).sum
def mU(r:List (Int×List Int))(ps:List Int):List Int:=(ps.map λq=>(look r q).getD []).flatten
def wG(r:List (Int×List Int))(ad n:Int):List Int:=((mU r (aC ad n)).drop (ad%8).toNat).take n.toNat
def vc(r:List (Int×List Int))(ad:Int)(cs:List Int):List (Int×List Int):=jG r (aC ad cs.length) (fJ (aC ad cs.length).length (eg (mU r (aC ad cs.length)) (ad%8).toNat cs))
def qI(r:List (Int×List Int))(ps:List Int):List (Int×List Int):=ps.foldl bh r
theorem r9(R:bp)(ps:List Int):cellsOf R ps=mU (con R) ps:=by
 unfold cellsOf mU;congr 1;apply OV;intro q _;rw[B6]
theorem Eb(R:bp)(ad n:Int):Et R ad n=wG (con R) ad n:=by unfold Et wG;rw[r9]
theorem Bv(R:bp)(ad:Int)(cs:List Int):Em R ad cs=vc (con R) ad cs:=by unfold Em vc;rw[r9]
theorem CC(ps:List Int):∀R:bp,con (gB R ps)=qI (con R) ps:=by
 induction ps with
 |nil=>intro R;rfl
 |cons q ps z=>intro R;change con (gB (bh R q) ps)=qI (bh (con R) q) ps;rw[z,FJ]
abbrev Lo(n:Int):Prop:=n.natAbs.log2<1920
def Due(bK:Int)(c:Wc):gM->gC->Prop
 |.begin t,X=>(∃r,look c t=some r)/\X=.taken
 |.map t pg m,X=>(look c t=none/\X=.noTask)\/∃r,look c t=some r/\((aX pg m/\X=.noPage)\/(¬ aX pg m/\(∃q∈aE pg m,q∈eQ r)/\X=.taken)\/(¬ aX pg m/\(∀q∈aE pg m,¬ q∈eQ r)/\bK<lV c+m/\X=.noRoom))
 |.drop t pg m,X=>(look c t=none/\X=.noTask)\/∃r,look c t=some r/\(aX pg m\/¬ ∀q∈aE pg m,q∈eQ r)/\X=.noPage
 |.peek t ad n,X=>(look c t=none/\X=.noTask)\/∃r,look c t=some r/\bq ad n (eQ r)/\X=.noPage
 |.hV t ad cs,X=>(look c t=none/\X=.noTask)\/∃r,look c t=some r/\bq ad cs.length (eQ r)/\X=.noPage
 |.close t,X=>look c t=none/\X=.noTask
 |.copy t o,X=>(look c t=none/\X=.noTask)\/∃r,look c t=some r/\(((∃y,look c o=some y)/\X=.taken)\/(look c o=none/\bK<lV c+r.length/\X=.noRoom))
def Good(bK:Int)(c:Wc):gM->Wc->Prop
 |.begin t,c'=>look c t=none/\c'=c++[(t,[])]
 |.close t,c'=>(∃r,look c t=some r)/\c'=bh c t
 |.map t pg m,c'=>∃r,look c t=some r/\¬ aX pg m/\(∀q∈aE pg m,¬ q∈eQ r)/\¬ bK<lV c+m/\c'=aW c t (r++(aE pg m).map λq=>(q,z8))
 |.drop t pg m,c'=>∃r,look c t=some r/\¬ aX pg m/\(∀q∈aE pg m,q∈eQ r)/\c'=aW c t (qI r (aE pg m))
 |.peek t ad n,c'=>∃r,look c t=some r/\¬ bq ad n (eQ r)/\c'=c
 |.hV t ad cs,c'=>∃r,look c t=some r/\¬ bq ad cs.length (eQ r)/\c'=aW c t (vc r ad cs)
 |.copy t o,c'=>∃r,look c t=some r/\look c o=none/\¬ bK<lV c+r.length/\c'=c++[(o,r)]
def Tells(c:Wc)(D:gM)(v:V)(H H':Hp):Prop:=match D with
 |.peek t ad n=>∃(l:Addr)(r:List (Int×List Int)),v=.ref l/\look c t=some r/\H l=none/\H' l=some (.lst ((wG r ad n).map V.int))
 |_=>v=.bB
def Lg:gM->Prop
 |.begin t=>Lo t
 |.close t=>Lo t
 |.map t pg m=>Lo t/\Lo pg/\Lo m
 |.drop t pg m=>Lo t/\Lo pg/\Lo m
 |.peek t ad n=>Lo t/\Lo n/\Lo (ed ad)/\Lo (dB ad n)
 |.hV t ad cs=>Lo t/\cs.length<=500/\Lo (ed ad)/\Lo (dB ad cs.length)
 |.copy t o=>Lo t/\Lo o
structure Sz(c:Wc)(bK:Int):Prop where
 ln:c.length<=1000
 lm:∀x∈c,x.2.length<=64
 lt:0<=bK
theorem Sz.wz{W:bF}{bK:Int}(s:Sz (fg W) bK):W.length<=1000/\∀x∈W,x.2.2.length<=64:=by
 show#[by rw[<-qx];show s.ln,λx hx=>?_];have:=s.lm (x.1,con x.2.2) (Ol.mpr #[x,hx,rfl]);rw[<-lJ];show this
theorem qh(W:bF):heldW W=lV (fg W):=Dt
def Kt(H H':Hp):Prop:=∀b o,H b=some o->(∀kvs,o≠.dK kvs)->H' b=some o
theorem Kt.tup{H H':Hp}(k:Kt H H'){l:Addr}{xs:List V}(h:H l=some (.tup xs)):H' l=some (.tup xs):=k _ _ h (by intro _ z;cases z)
structure cU(a:Addr)(H:Hp)(W:bF)(H':Hp)(W':bF):Prop where
 off:Off (λb=>b=a\/∃x∈W,x.2.1=b) H H'
 rows:∀c,Fq W' c->Fq W c\/H c=none
 yP:∀x∈W',(∃y∈W,y.2.1=x.2.1)\/H x.2.1=none
theorem cU.same{a:Addr}{H H':Hp}{W:bF}(s:aQ H H'):cU a H W H' W:=#[λb u e _=>s _ _ e,λc h=>.inl h,λx hx=>.inl #[x,hx,rfl]]
theorem cU.post{a:Addr}{H H' z:Hp}{W W':bF}(S:cU a H W H' W')(s:aQ H' z):cU a H W z W':=#[λb u e n=>s _ _ (S.off _ _ e n),S.rows,S.yP]
theorem cU.kt{C p a:Addr}{bK:Int}{H H':Hp}{W W':bF}(S:cU a H W H' W')(D:cR C H p a bK W):Kt H H':=λb u e n=>S.off _ _ e λq=>by
 rcases q with q|⟨x,hx,q⟩
 .rw[q,D.R.hd]at e;show n _ (DD e).symm
 .rw[<-q,(D.R.rm x hx).hd]at e;show n _ (DD e).symm
theorem Hj{W:bF}{t:Int}(h:look (fg W) t=none):look W t=none:=by
 rw[nj]at h;show T8.mp h
theorem iQ{W:bF}{t:Int}(h:look W t=none):look (fg W) t=none:=by rw[nj,h];rfl
theorem eI{R:bp}:eQ (con R)=du R:=CZ
theorem Ac(x:Int):FZ (x%2147483647) (x%2147483647):=by
 let z:=Pj x (show(2147483647:Int)≠0 by decide);let F:=OW x (show(0:Int)<2147483647 by decide);show .inl #[af,af]
theorem oY{n:Int}(I : -(10^60)<n)(h1:n<10^60):n.natAbs.log2<1920:=by
 cases z:n.natAbs=0
 .rw[z];decide
 .rw[WC z];let G:n.natAbs<10^60:=af;let F:(10:Nat)^60<2^1920:=ak;omega
theorem gp{xs:List Int}{i:Int}(F:0<=i)(h1:i<xs.length):∃q∈xs,xC (xs.map V.int) i=some (.int q):=by
 let z:i.toNat<xs.length:=af;show#[xs[i.toNat],Qt z,?_];unfold xC wY;rw[ti,WY F,WY h1];change(xs.map V.int)[i.toNat]?=_;rw[Od,ON z];rfl
inductive qe(v:List V)(H:Hp)(Q:VK)(e:XK):Prop
 |mk(c j:Int)(d:Bool)(_:v=[.int c,.int j,.bl d])(_:∀n:Int,Q (.int n) H)
inductive sM(v:List V)(H:Hp)(Q:VK)(e:XK):Prop
 |mk(c:Int)(_:v=[.int c])(_:∀(k3 k4:Int)(H':Hp)(l:Addr),3<=k3->k3<=11->12<=k4->k4<10^60->aQ H H'->H l=none->H' l=some (.lst ([1,2,k3,k4].map V.int))->Q (.ref l) H')
theorem J4:aD ["_law_cell","_law_k","_law_digits","_law_once"] ["_law_cell","_law_k","_law_digits"] (au uT):=L2.bL
theorem Az(F:cq K "_law_number" "_law_number" uT f fd):↥aG 1 f fd ["_law_cell","_law_k","_law_digits"] qe:=by
 show F.eL J4 (λz A outer s H vs Q E G h=>?_);let#[c,j,d,rfl,k]:=h;show#[_,(aj (bJ (fE (pv 2)) (ar (aO (aA bC (pv 0) (aA hZ ah ah)))) aR)
  (aj (cV 3 J4.nd (aA bC (aA mI (aA bR (aA bR (aA bC (pv 0) (aA hZ ah ah)) (aA mI ah (pv 1))) ah) ah) ah))
  (ar (aO (aA bR (aA mI (pv 3) ah) (aA bC (aA mI (pv 3) (pv 3)) ah)))))),?_]
 show#[0,d,4];show fN (λe=>?_) (λe=>?_)
 .show#[0,_,0,rfl,#[aq,aq,aq],_,0,rfl,(by change(0:Int)<10^60;decide),k _]
 .show#[0,_,0,rfl,#[aq,aq,aq],_,0,rfl,(by change(0:Int)<10^40;decide),0,_,0,rfl,.inl #[aq,aq],_,0,5,0,5,0,rfl,.inr #[aq,aq],_,0,rfl,(by change(0:Int)<2147483647;decide),?_];show#[0,_,0,rfl,.inr #[aq,aq],0,0,_,0,rfl,Ac _,_,0,rfl,(by change(0:Int)<2147483629;decide),_,0,rfl,k _]
theorem NH:(10:Int)^Tc 59=100000000000000000000000000000000000000000000000000000000000:=aq
theorem Iz:(10:Int)^Tc 40=10000000000000000000000000000000000000000:=aq
theorem Mp:(10:Int)^Tc 55=10000000000000000000000000000000000000000000000000000000:=aq
theorem MZ:(10:Int)^Tc 50=100000000000000000000000000000000000000000000000000:=aq
theorem EL:(10:Int)^60=1000000000000000000000000000000000000000000000000000000000000:=aq
theorem M8:aD ["_law_cell"] ["_law_cell"] (au yd):=L2.bL
theorem DK(F:cq K "_law_tasks" "_law_tasks" yd f fd):↥aG 1 f fd ["_law_cell"] sM:=by
 show F.eL M8 (λI A outer s H vs Q E J h=>?_);let#[c,rfl,k]:=h;show#[_,(ar (aO (cm (aa ah (aa ah (aa (aA bR ah (aA bC (pv 0) ah)) (aa (aA bR (aA hZ ah ah) (aA bC (pv 0) (aA hZ ah ah))) ag))))))),?_];let L:=Pj c (show(9:Int)≠0 by decide);let a1:=OW c (show(0:Int)<9 by decide);let z:=Pj c (show(10:Int)^Tc 40≠0 by decide);let b1:=OW c (show(0:Int)<(10:Int)^Tc 40 by decide);show#[0,_,0,rfl,(by change(0:Int)<9;decide),_,0,5,0,rfl,#[aq,aq,aq],0,_,0,rfl,#[aq,aq,aq],_,0,rfl,(by change(0:Int)<10^Tc 40;decide),_,0,rfl,mV,λl G=>k (3+c%9) ((10:Int)^Tc 59+c%(10:Int)^Tc 40) _ l af af ?_ ?_ (aw G) G ae]
 .rw[NH,Iz];rw[Iz]at z b1;omega
 .rw[NH,EL,Iz];rw[Iz]at z b1;omega
structure NS(P:vu)(w:Oe)(K:Om)(mg:W9)(base:Heap)(C:Addr)(cl4:gC->Addr) where
 (fBe fCl fMp fDr fPe fPk fCo fH:Addr)
 (dBe dCl dMp dDr dPe dPk dCo dH:t7)
 cl:oE K C
 J9:⇑aG 2 fBe dBe ["self","task"] (kl C (cl4 .taken))
 Nd:Binds K dBe ["self","task"] []
 Nv:Meth K C "begin" fBe
 MF:⇑aG 2 fCl dCl ["self","task"] (uR C (cl4 .noTask))
 MU:Binds K dCl ["self","task"] []
 MO:Meth K C "close" fCl
 Ma:⇑aG 3 fMp dMp ["self","task","page","many"] (B4 C (cl4 .noTask) (cl4 .noPage) (cl4 .taken) (cl4 .noRoom))
 MV:Binds K dMp ["self","task","page","many"] []
 LO:Meth K C "map" fMp
 Mg:⇑aG 3 fDr dDr ["self","task","page","many"] (kX C (cl4 .noTask) (cl4 .noPage))
 Ml:Binds K dDr ["self","task","page","many"] []
 Mf:Meth K C "drop" fDr
 Kg:⇑aG 3 fPe dPe ["self","task","address","many"] (yk C (cl4 .noTask) (cl4 .noPage))
 NB:Binds K dPe ["self","task","address","many"] []
 LQ:Meth K C "peek" fPe
 Nh:⇑aG 3 fPk dPk ["self","task","address","cells"] (yr K C (cl4 .noTask) (cl4 .noPage))
 MX:Binds K dPk ["self","task","address","cells"] []
 Nx:Meth K C "poke" fPk
 Jo:⇑aG 2 fCo dCo ["self","task","other"] (lh C (cl4 .noTask) (cl4 .taken) (cl4 .noRoom))
 LV:Binds K dCo ["self","task","other"] []
 LW:Meth K C "copy" fCo
 GH:↥aG 1 fH dH ["self"] (ju C)
 bH:Binds K dH ["self"] []
 mH:Meth K C "held" fH
theorem ks_ne{a b:Str}(h:¬ a=b):¬ V.str a=V.str b:=λz=>h (V.str.inj z)
section
variable{o pg m ad n:Int}{cs:List Int}{X:gC}
theorem vF{x:Addr×bp}(h:look W t=some x):look (fg W) t=some (con x.2):=by rw[nj,h];rfl
theorem cU.set{x:Addr×bp}{J:bp}(h:look W t=some x)(o:Off (· = x.1) H H')(L:∀y∈J,y∈x.2\/H y.2.1=none):cU a H W H' (aW W t (x.1,J)):=by
 show#[λb u e n=>o _ _ e λq=>n (.inr #[_,aI h,q.symm]),λc O=>?_,λz F=>?_]
 .let#[z,F,y,G,rfl]:=O;rcases gJ F with e|⟨I,_⟩
  .rw[e]at G;rcases L y G with q|q
   .show .inl #[_,aI h,y,q,rfl]
   .show .inr q
  .show .inl #[z,I,y,G,rfl]
 .rcases gJ F with e|⟨I,_⟩
  .rw[e];show .inl #[_,aI h,rfl]
  .show .inl #[z,I,rfl]
theorem cU.add{r:Addr}{N:bp}(L:H r=none)(I:∀y∈N,H y.2.1=none)(of:Off (· = a) H H'):cU a H W H' (W++[(o,r,N)]):=by
 show#[λb u e n=>of _ _ e λq=>n (.inl q),λc J=>?_,λz F=>?_]
 .let#[z,F,y,G,rfl]:=J;rcases By.mp F with h|h
  .show .inl #[z,h,y,G,rfl]
  .rw[t6.mp h]at G;show .inr (I y G)
 .rcases By.mp F with h|h
  .show .inl #[z,h,rfl]
  .rw[t6.mp h];show .inr L
theorem cU.del(of:Off (· = a) H H'):cU a H W H' (bh W t):=by
 let sub:∀y∈bh W t,y∈W:=λy G=>(PB.mp G).1;show#[λb u e n=>of _ _ e λq=>n (.inl q),λc ⟨z,F,y,G,e⟩=>.inl #[z,sub z F,y,G,e],λz F=>.inl #[z,sub z F,rfl]]
theorem oq:∀{ps:List Int}{R:bp}{y:Int×Addr×List Int},y∈gB R ps->y∈R
 | [],_,_,h=>h
 |q::ps,R,y,h=>(PB.mp (oq (ps:=ps) (R:=bh R q) h)).1
theorem M7{N:bp}(z:N.map (·.1)=aE pg m)(G:∀y∈N,y.2.2=z8):con N=(aE pg m).map λq=>(q,z8):=by
 unfold con;rw[show N.map (λy=>(y.1,y.2.2))=N.map (λy=>(y.1,z8))from OV λy F=>by rw[G y F], <-z,Pt];rfl
theorem Fu{R N:bp}:con (R++N)=con R++con N:=by unfold con;rw[Ou]
theorem qL{W:bF}{t:Int}{r:Addr}{R:bp}:fg (W++[(t,r,R)])=fg W++[(t,con R)]:=by unfold fg;rw[Ou];rfl
end
inductive Jj(C:Addr)(cl4:gC->Addr)(vs:List V)(H:Hp)(Q:VK)(E:XK):Prop
 |mk(p a d:Addr)(bK:Int)(W:bF)(D:gM)(_:vs=[.ref p,.ref d])(_:cR C H p a bK W)(_:gr H d D)(_:Lg D)(_:Sz (fg W) bK)(_:(∀X,Due bK (fg W) D X->∀H',aQ H H'->E (.ref (cl4 X)) none H'))(_:(∀(H':Hp)(W':bF)(v:V),Good bK (fg W) D (fg W')->cR C H' p a bK W'->cU a H W H' W'->Tells (fg W) D v H H'->(∀l,v=.ref l->¬ Fq W' l)->Q v H'))
theorem J2:aD ["_law_rooms","_law_deed_here"] ["_law_rooms","_law_deed_here"] (au LJ):=L2.bL
theorem J5{f C:Addr}{ac:gC->Addr}{fd:t7}(F:cq K "_law_do" "_law_do" LJ f fd)(M:NS P w K mg base C ac) :
  ⇑aG 4 f fd ["_law_rooms","_law_deed_here"] (Jj C ac):=by
 show F.gD J2 (λap A outer s H vs Q E hr h=>?_);let#[p,a,d,bK,W,D,rfl,O,hd,lg,sz,I,kQ]:=h;show#[_,(ax (cG (aJ cK (aL aN (pv 1) ah cB) br (aP _)) (bt (dU (cO (pv 0) M.cl M.Nv M.J9 (hr.mono aq) rfl M.Nd .nil (aa (aL aN (pv 1) ah cB) ag)))) bN)
  (ax (cG (aJ cK (aL aN (pv 1) ah cB) br (aP _)) (bt (dU (cO (pv 0) M.cl M.MO M.MF (hr.mono aq) rfl M.MU .nil (aa (aL aN (pv 1) ah cB) ag)))) bN)
  (ax (cG (aJ cK (aL aN (pv 1) ah cB) br (aP _)) (bt (dU (cO (pv 0) M.cl M.LO M.Ma (hr.mono aq) rfl M.MV .nil (aa (aL aN (pv 1) ah cB) (aa (aL aN (pv 1) ah cB) (aa (aL aN (pv 1) ah cB) ag)))))) bN)
  (ax (cG (aJ cK (aL aN (pv 1) ah cB) br (aP _)) (bt (dU (cO (pv 0) M.cl M.Mf M.Mg (hr.mono aq) rfl M.Ml .nil (aa (aL aN (pv 1) ah cB) (aa (aL aN (pv 1) ah cB) (aa (aL aN (pv 1) ah cB) ag)))))) bN)
  (ax (cG (aJ cK (aL aN (pv 1) ah cB) br (aP _)) (bt (dU (cO (pv 0) M.cl M.LQ M.Kg (hr.mono aq) rfl M.NB .nil (aa (aL aN (pv 1) ah cB) (aa (aL aN (pv 1) ah cB) (aa (aL aN (pv 1) ah cB) ag)))))) bN)
  (ax (cG (aJ cK (aL aN (pv 1) ah cB) br (aP _)) (bt (dU (cO (pv 0) M.cl M.Nx M.Nh (hr.mono aq) rfl M.MX .nil (aa (aL aN (pv 1) ah cB) (aa (aL aN (pv 1) ah cB) (aa (aL aN (pv 1) ah cB) ag)))))) bN)
  (bt (dU (cO (pv 0) M.cl M.LW M.Jo (hr.mono aq) rfl M.LV .nil (aa (aL aN (pv 1) ah cB) (aa (aL aN (pv 1) ah cB) ag))))))))))),?_]
 let#[dx,h1]:=id O.ob;let no:∀m:Str,¬ m = "rooms" -> ¬ m = "total" -> (fW bK a).lookup m=none:=λm=>aS _ _;let hk:∀x∈W,x.2.2.length<=1000:=λx hx=>Oy (sz.wz.2 x hx) aq;cases D with
 |begin t =>
  let hd:H d=some (.tup [.str "begin",.int t]):=hd;show#[0,d,2,.str "begin",1,bM.of hd,1,0,?_];rw[decide_eq_true rfl];show eO ?_;show#[0,p,dx,0,h1,no "begin" ak ak,0,d,2,.int t,1,bM.of hd,rfl,p,a,bK,t,W,rfl,O,lg,sz.wz.1,λ⟨x,hx⟩=>I .taken #[#[_,vF hx],rfl] _ (aQ.refl _),λhn H1 r ab L J=>kQ H1 _ _ #[iQ hn,qL] L (cU.add ab (λ_ h=>nomatch h) J) rfl (λ_ h=>by cases h)]
 |close t =>
  let hd:H d=some (.tup [.str "close",.int t]):=hd;show#[0,d,2,.str "close",1,bM.of hd,1,0,?_];rw[decide_eq_false (show ¬ V.str "close" = V.str "begin" from ks_ne ak)];show bw ?_;show#[0,d,2,.str "close",1,bM.of hd,1,0,?_];rw[decide_eq_true rfl];show eO ?_;show#[0,p,dx,0,h1,no "close" ak ak,0,d,2,.int t,1,bM.of hd,rfl,p,a,bK,t,W,rfl,O,lg,λe=>I .noTask #[iQ e,rfl] _ (aQ.refl _),λ⟨x,hx⟩ H1 L J=>kQ H1 _ _ #[#[_,vF hx],C4] L (cU.del J) rfl (λ_ h=>by cases h)]
 |map t pg m =>
  let hd:H d=some (.tup [.str "map",.int t,.int pg,.int m]):=hd;let#[S,g2,g3]:=lg;show#[0,d,2,.str "map",1,bM.of hd,1,0,?_];rw[decide_eq_false (show ¬ V.str "map" = V.str "begin" from ks_ne ak)];show bw ?_;show#[0,d,2,.str "map",1,bM.of hd,1,0,?_];rw[decide_eq_false (show ¬ V.str "map" = V.str "close" from ks_ne ak)];show bw ?_;show#[0,d,2,.str "map",1,bM.of hd,1,0,?_];rw[decide_eq_true rfl];show eO ?_;show#[0,p,dx,0,h1,no "map" ak ak,0,d,2,.int t,1,bM.of hd,rfl,0,d,2,.int pg,1,bM.of hd,rfl,0,d,2,.int m,1,bM.of hd,rfl,p,a,bK,t,pg,m,W,rfl,O,S,g2,g3,sz.wz.1,sz.wz.2,sz.lt,λe=>I .noTask (.inl #[iQ e,rfl]) _ (aQ.refl _),λx hx z H1 G=>I .noPage (.inr #[_,vF hx,.inl #[z,rfl]]) _ G,λx hx z U H1 G=>I .taken (.inr #[_,vF hx,.inr (.inl #[z,by rw[eI];show U,rfl])]) _ G,λx hx z U ht H1 G=>I .noRoom (.inr #[_,vF hx,.inr (.inr #[z,by rw[eI];show U,by rw[<-qh];show ht,rfl])]) _ G,λx hx z U ht H1 N hN hz L J=>kQ H1 _ _ #[_,vF hx,z,by rw[eI];show U,by rw[<-qh];show ht,by rw[qy,Fu,M7 hN λy hy=>(hz y hy).1]] L (cU.set hx J λy hy=>(By.mp hy).elim .inl λh=>.inr (hz y h).2) rfl (λ_ h=>by cases h)]
 |drop t pg m =>
  let hd:H d=some (.tup [.str "drop",.int t,.int pg,.int m]):=hd;let#[S,g2,g3]:=lg;show#[0,d,2,.str "drop",1,bM.of hd,1,0,?_];rw[decide_eq_false (show ¬ V.str "drop" = V.str "begin" from ks_ne ak)];show bw ?_;show#[0,d,2,.str "drop",1,bM.of hd,1,0,?_];rw[decide_eq_false (show ¬ V.str "drop" = V.str "close" from ks_ne ak)];show bw ?_;show#[0,d,2,.str "drop",1,bM.of hd,1,0,?_];rw[decide_eq_false (show ¬ V.str "drop" = V.str "map" from ks_ne ak)];show bw ?_;show#[0,d,2,.str "drop",1,bM.of hd,1,0,?_];rw[decide_eq_true rfl];show eO ?_;show#[0,p,dx,0,h1,no "drop" ak ak,0,d,2,.int t,1,bM.of hd,rfl,0,d,2,.int pg,1,bM.of hd,rfl,0,d,2,.int m,1,bM.of hd,rfl,p,a,bK,t,pg,m,W,rfl,O,S,g2,g3,hk,λe=>I .noTask (.inl #[iQ e,rfl]) _ (aQ.refl _),λx hx z H1 G=>I .noPage (.inr #[_,vF hx,by rw[eI];show z,rfl]) _ G,λx hx z U H1 L J=>kQ H1 _ _ #[_,vF hx,z,by rw[eI];show U,by rw[qy,CC]] L (cU.set hx J λy hy=>.inl (oq hy)) rfl (λ_ h=>by cases h)]
 |peek t ad n =>
  let hd:H d=some (.tup [.str "peek",.int t,.int ad,.int n]):=hd;let#[S,g2,g3,g4]:=lg;show#[0,d,2,.str "peek",1,bM.of hd,1,0,?_];rw[decide_eq_false (show ¬ V.str "peek" = V.str "begin" from ks_ne ak)];show bw ?_;show#[0,d,2,.str "peek",1,bM.of hd,1,0,?_];rw[decide_eq_false (show ¬ V.str "peek" = V.str "close" from ks_ne ak)];show bw ?_;show#[0,d,2,.str "peek",1,bM.of hd,1,0,?_];rw[decide_eq_false (show ¬ V.str "peek" = V.str "map" from ks_ne ak)];show bw ?_;show#[0,d,2,.str "peek",1,bM.of hd,1,0,?_];rw[decide_eq_false (show ¬ V.str "peek" = V.str "drop" from ks_ne ak)];show bw ?_;show#[0,d,2,.str "peek",1,bM.of hd,1,0,?_];rw[decide_eq_true rfl];show eO ?_;show#[0,p,dx,0,h1,no "peek" ak ak,0,d,2,.int t,1,bM.of hd,rfl,0,d,2,.int ad,1,bM.of hd,rfl,0,d,2,.int n,1,bM.of hd,rfl,p,a,bK,t,ad,n,W,rfl,O,S,g2,g3,g4,hk,λe=>I .noTask (.inl #[iQ e,rfl]) _ (aQ.refl _),λx hx z H1 G=>I .noPage (.inr #[_,vF hx,by rw[eI];show z,rfl]) _ G,λx hx z H1 l1 G am ao=>kQ H1 W _ #[_,vF hx,by rw[eI];show z,rfl] (O.same G) (cU.same G) #[l1,0,vF hx,am,by rw[<-Eb];show ao] (λl e ha=>by let#[xs,e2]:=O.R.lst ha;cases e;rwa[am]at e2)]
 |hV t ad cs =>
  let#[c,hd,U]:=hd;let#[S,g2,g3,g4]:=lg;show#[0,d,2,.str "poke",1,bM.of hd,1,0,?_];rw[decide_eq_false (show ¬ V.str "poke" = V.str "begin" from ks_ne ak)];show bw ?_;show#[0,d,2,.str "poke",1,bM.of hd,1,0,?_];rw[decide_eq_false (show ¬ V.str "poke" = V.str "close" from ks_ne ak)];show bw ?_;show#[0,d,2,.str "poke",1,bM.of hd,1,0,?_];rw[decide_eq_false (show ¬ V.str "poke" = V.str "map" from ks_ne ak)];show bw ?_;show#[0,d,2,.str "poke",1,bM.of hd,1,0,?_];rw[decide_eq_false (show ¬ V.str "poke" = V.str "drop" from ks_ne ak)];show bw ?_;show#[0,d,2,.str "poke",1,bM.of hd,1,0,?_];rw[decide_eq_false (show ¬ V.str "poke" = V.str "peek" from ks_ne ak)];show bw ?_;show#[0,d,2,.str "poke",1,bM.of hd,1,0,?_];rw[decide_eq_true rfl];show eO ?_;show#[0,p,dx,0,h1,no "poke" ak ak,0,d,2,.int t,1,bM.of hd,rfl,0,d,2,.int ad,1,bM.of hd,rfl,0,d,2,.ref c,1,bM.of hd,rfl,p,a,c,bK,t,ad,cs,W,rfl,O,bA.of U,g2,S,g3,g4,hk,λe=>I .noTask (.inl #[iQ e,rfl]) _ (aQ.refl _),λx hx z H1 G=>I .noPage (.inr #[_,vF hx,by rw[eI];show z,rfl]) _ G,λx hx z H1 R' hR hf L J=>kQ H1 _ _ #[_,vF hx,by rw[eI];show z,by rw[qy,hR,Bv]] L (cU.set hx J hf) rfl (λ_ h=>by cases h)]
 |copy t o =>
  let hd:H d=some (.tup [.str "copy",.int t,.int o]):=hd;let#[S,g2]:=lg;show#[0,d,2,.str "copy",1,bM.of hd,1,0,?_];rw[decide_eq_false (show ¬ V.str "copy" = V.str "begin" from ks_ne ak)];show bw ?_;show#[0,d,2,.str "copy",1,bM.of hd,1,0,?_];rw[decide_eq_false (show ¬ V.str "copy" = V.str "close" from ks_ne ak)];show bw ?_;show#[0,d,2,.str "copy",1,bM.of hd,1,0,?_];rw[decide_eq_false (show ¬ V.str "copy" = V.str "map" from ks_ne ak)];show bw ?_;show#[0,d,2,.str "copy",1,bM.of hd,1,0,?_];rw[decide_eq_false (show ¬ V.str "copy" = V.str "drop" from ks_ne ak)];show bw ?_;show#[0,d,2,.str "copy",1,bM.of hd,1,0,?_];rw[decide_eq_false (show ¬ V.str "copy" = V.str "peek" from ks_ne ak)];show bw ?_;show#[0,d,2,.str "copy",1,bM.of hd,1,0,?_];rw[decide_eq_false (show ¬ V.str "copy" = V.str "poke" from ks_ne ak)];show bw ?_;show#[0,p,dx,0,h1,no "copy" ak ak,0,d,2,.int t,1,bM.of hd,rfl,0,d,2,.int o,1,bM.of hd,rfl,p,a,bK,t,o,W,rfl,O,S,g2,sz.wz.1,sz.wz.2,sz.lt,λe=>I .noTask (.inl #[iQ e,rfl]) _ (aQ.refl _),λx hx ⟨y,hy⟩=>I .taken (.inr #[_,vF hx,.inl #[#[_,vF hy],rfl]]) _ (aQ.refl _),λx hx z ht H1 G=>I .noRoom (.inr #[_,vF hx,.inr #[iQ z,by rw[lJ, <-qh];show ht,rfl]]) _ G,λx hx z ht H1 r N ab hN hf L J=>kQ H1 _ _ #[_,vF hx,iQ z,by rw[lJ, <-qh];show ht,by rw[qL,hN]] L (cU.add ab hf J) rfl (λ_ h=>by cases h)]
end Pr
namespace L2
open PySem PySem.Spec PyProof.Rows
theorem rG:entryFor table "proto.unchain" = some Builtin.«proto.unchain» := entryFor_of_fast (by kernel_rfl)
section
variable{prog:vu}{A:Ov}{E:W8}{s:se}
theorem xH{h e:Addr}{z:Obj}{F:Xb}{Q:W8}(G:s.heap.get? h=some z)(J:z.data=.fields F)(I:F[2]?=some .none)(q:Q .none s) :
  wpAny (model prog w) A (runValue (.builtin "proto.unchain" #[[.ref e,.ref h,.ref h,.bool false],[]])) Q E s:=by
 show wpAny_runValue (codeAny_builtin rG ?_);unfold Builtin.«proto.unchain»;show tp (QB G J I ?_);rw[WY (show(Value.none==Value.none)=true from rfl)];show wpAny_pure q
theorem Ce{α:Type}{h e:Addr}{F I:Obj}{G vs:Xb}{Q:α->se->Prop}(J:A.handled=some (.ref h))(ne:h≠e)(L:s.heap.get? h=some F)(O:F.data=.fields G)(R:G[2]?=some .none)
  (z:s.heap.get? e=some I) (hd:I.data=.fields vs) (h2:2<vs.size) (q:E (.ref e) { s with heap:=s.heap.update e (Obj.mapFields (·.setIfInBounds 2 (.ref h))) }):wpAny (model prog w) A (raiseNew (.ref e):Sem α) Q E s:=by
 unfold raiseNew;show tp (wpAny_handled ?_);rw[J];dsimp only;rw[WY (show(Value.ref h != Value.ref e)=true from by simpa using ne)];show tp (P5 (xH L O R ?_));unfold updateField;show tp (tp (wpAny_load z ?_));rw[hd];dsimp only;rw[WY h2];show wpAny_update z (wpAny_throw q)
theorem qA{α:Type}{hx:Addr}{F:Obj}{G:Xb}{Q:α->se->Prop}(I:A.handled=some (.ref hx))(z:s.heap.get? hx=some F)(O:F.data=.fields G)(J:G[2]?=some .none)
  (q:∀h' e,(∀b o,s.heap.get? b=some o->h'.get? b=some o)->(∃o,h'.get? e=some o/\o.cls=.type "StopIteration")->E (.ref e) { s with heap:=h' }) :
  wpAny (model prog w) A (newExc (.type "StopIteration") []>>=λx=>(raiseNew x:Sem α)) Q E s:=by
 show tp ?_;unfold newExc newTuple;show tp (wpAny_newObj_type (?_:wpAny _ _ _ _ _ _) (by size_fits));show tp (m:=firstArgMember _ _) (wpAny_of_eq (a:=Value.none) (by first|rfl|(unfold firstArgMember;rfl)) ?_);show wpAny_newObj_type ?_ (by size_fits);let k1:∀b o,s.heap.get? b=some o->(s.heap.push { cls:=Value.type "tuple",dict:=none,data:=Data.seq ([]:Xc).toArray }).get? b=some o:=λb o e=>Heap.get?_push_of_some _ e;let lt:=Heap.lt_size z;show Ce (e:=(s.heap.push _).objs.size) I (by rw[Heap.size_push];show Pb (Rb lt)) (Heap.get?_push_of_some _ (Heap.get?_push_of_some _ z)) O J (Heap.get?_push_size _ rfl) rfl (by simp[ownMembersOf]) (q _ _ (λb o e=>?_) ?_)
 .let L:=Heap.lt_size e;rw[Heap.get?_update_other _ _ (by rw[Heap.size_push];show U5 (Rb L))];show Heap.get?_push_of_some _ (Heap.get?_push_of_some _ e)
 .show#[_,Heap.get?_update_self _ (Heap.get?_push_size _ rfl) (Obj.isFreed_of_fields (Obj.data_mapFields rfl _)),Obj.cls_mapFields _ _]
theorem oi{it l hx:Addr}{i:Nat}{items:Xb}{J:Obj}{L:Xb}{Q:Option Value->se->Prop}(O:A.handled=some (.ref hx))(R:s.heap.get? hx=some J)(U:J.data=.fields L)(hc:L[2]?=some .none)(nx:it≠hx)
  (G:s.heap.IsListIter it l i) (hl:s.heap.IsList l items) (hn:items[i]?=none) (q:∀h',Heap.ExtBut it s.heap h'->Q none { s with heap:=h' }):wpAny (model prog w) A (pyNext (.ref it)) Q E s:=by
 let#[ob,z,cb,F]:=id G;let#[ol,gl,cl,nl,dl]:=hl;unfold pyNext;show tp (RV (Tz (name:=Str.ofString "__next__") G.typeIs UW (Tq UW G.typeIs entry_listiter_next (?_:wpAny _ _ _ _ _ _) (args_listiter_next _))));show(tp (QB z F (x:=.ref l) rfl ?_):wpAny _ _ (Wu (.ref it) 0>>=_) _ _ s);rw[WX (show ¬ ((Value.ref l==Value.none)=true)from IF)];show(tp (QB z F (x:=.int i 0) rfl ?_):wpAny _ _ (Wu (.ref it) 1>>=_) _ _ s);show(tp (wpAny_seqItems gl dl ?_):wpAny _ _ (seqItems? (.ref l)>>=_) _ _ s);simp only[P6,hn];show tp (QC (tp (wpAny_setField z F (by simp) ?_)));let I:Heap.SameBut it s.heap (s.heap.update it (Obj.mapFields (·.setIfInBounds 0 Value.none))):=Heap.SameBut.update ..;show qA (A:=A.in1) O ((I.2 hx (D0 nx)).trans R) U hc λh' e keep ⟨o,ho,co⟩=>?_;show tp (Vt (T := "StopIteration") (b:=true) #[o,ho,co] isSubtype_stop ?_);show wpAny_pure (q h' λb u nb S=>keep b u ((I.2 b nb).trans S))
theorem tE{it hx:Addr}{x left step:Int}{G:Obj}{I:Xb}{Q:Option Value->se->Prop}(J:A.handled=some (.ref hx))(L:s.heap.get? hx=some G)(R:G.data=.fields I)(S:I[2]?=some .none)
  (z:Rk s.heap it x left step) (U:left<=0) (q:∀h',Heap.ExtBut it s.heap h'->Q none { s with heap:=h' }):wpAny (model prog w) A (pyNext (.ref it)) Q E s:=by
 let ty:s.TypeIs (.ref it) "range_iterator" := #[_,z,rfl];unfold pyNext;show tp (RV (Tz (name:=Str.ofString "__next__") ty F.slot_range_iterator_next (Tq F.slot_range_iterator_next ty F.entry_range_iterator_next (?_:wpAny _ _ _ _ _ _) (F.args_range_iterator_next_1 _))));show(tp (QB z rfl (x:=Vl x) rfl ?_):wpAny _ _ (Wu (.ref it) 0>>=_) _ _ s);show(tp (QB z rfl (x:=Vl left) rfl ?_):wpAny _ _ (Wu (.ref it) 1>>=_) _ _ s);show(tp (QB z rfl (x:=Vl step) rfl ?_):wpAny _ _ (Wu (.ref it) 2>>=_) _ _ s);show(?_:wpAny _ _ (if left<=0 then _ else _) _ _ s);rw[WY U];show tp (QC ?_);show tp ?_;show qA (A:=A.in1) J L R S λh' e keep ⟨o,ho,co⟩=>?_;show tp (Vt (T := "StopIteration") (b:=true) #[o,ho,co] isSubtype_stop ?_);show wpAny_pure (q h' λb u nb O=>keep b u O)
end
def xq(e:Addr)(cls:Value):HO:=.ext λh=>∃o vs,h.get? e=some o/\o.cls=cls/\o.data=.fields vs/\vs[2]?=some .none
theorem KN{P:vu}{w:Oe}{H:Hp}{h:Heap}{e:Addr}{cls:Value}(x:∃o vs,h.get? e=some o/\o.cls=cls/\o.data=.fields vs/\vs[2]?=some .none):ck P w H h e (xq e cls):=
 #[x,let ⟨o,_,z,_⟩:=x;#[o,z],λh1 h2 ⟨o,vs,z,F⟩ k=>#[o,vs,k o z,F]]
theorem Inv.zz{X:Cx}{pins:W7}{σ:St}{H:Hp}{s:se}{e:Addr}{cls:Value}(I: ~~~H s)(h:H e=some (xq e cls)):∃o vs,s.heap.get? e=some o/\o.cls=cls/\o.data=.fields vs/\vs[2]?=some .none:=by
 let#[p,_]:=(show ck X.prog X.w H s.heap e (xq e cls)from I.bV e _ h);show p
structure zq(hx:Addr)(xc:Value)(P:vu)(w:Oe)(K:Om)(tg:OE)(J:It)(fp:List Addr)(it:Addr)(tn:Nat->Heap->Prop):Prop where
 mem:it∈fp
 obj:∀i h,tn i h->∀b∈fp,∃o,h.get? b=some o/\∀v,o.data≠.cell v
 keep:∀i h h',tn i h->(∀b∈fp,∀o,h.get? b=some o->h'.get? b=some o)->tn i h'
 item:∀(X:Cx),X.prog=P->X.w=w->X.K=K->X.A.handled=some (.ref hx)->∀(i:Nat)(pins:W7)(s:se)(σ:St)(H:Hp)(E:W8),H hx=some (xq hx xc)->~~~H s->(∀b∈fp,fK X pins H b)->tn i s.heap->J.go i H ->
  wpAny (model P w) X.A (pyNext (.ref it)) (λr s1=>∃u,r=some u /\
   wpAny (model P w) X.A (Sg tg (.ref it) u) (λ_ s2=>∃x H',~~~H' s2/\RelV x u/\J.EH i H x H'/\tn (i+1) s2.heap/\∀b∈fp,H' b=none) E s1) E s
 done:∀(X:Cx),X.prog=P->X.w=w->X.K=K->X.A.handled=some (.ref hx)->∀(i:Nat)(pins:W7)(s:se)(σ:St)(H:Hp)(E:W8),H hx=some (xq hx xc)->~~~H s->(∀b∈fp,fK X pins H b)->tn i s.heap->J.stop i H ->
  wpAny (model P w) X.A (pyNext (.ref it)) (λr s1=>r=none/\~~~H s1) E s
 self:∀(A:Ov)(i:Nat)(s:se)(Q:W8)(E:W8),tn i s.heap->Q (.ref it) s->wpAny (model P w) A (Wx (.ref it)) Q E s
theorem xY{hx:Addr}{xc:Value}{P:vu}{w:Oe}{K:Om}{tg:OE}(a it:Addr):zq hx xc P w K tg (EK K a) [it] it (λi h=>h.IsListIter it a i) where
 mem:=(iC (P:=P) (w:=w) (K:=K) (tg:=tg) a it).mem
 obj:=(iC (P:=P) (w:=w) (K:=K) (tg:=tg) a it).obj
 keep:=(iC (P:=P) (w:=w) (K:=K) (tg:=tg) a it).keep
 item:=by
  intro X hP O J hA i pins s σ H E L I F st S;subst hP O J;let#[xs,x,G,hi]:=S;let#[its,rv,pl,hz]:=I.list G;let#[u,hu,ru]:=rv.get hi;let#[z,R,g2,g3,g4,g5]:=F it (by simp);show Rq st pl.isList (x:=u) ‹hu› λhN stN ab=>?_;let IN: ~~~H { s with heap:=hN }:=I.turned (t':=s.toks) (λb o nb e=>(ab.2 b nb).trans e) z R g3 g4 g5;let#[o,U,co,od]:=id stN;show#[u,rfl,qM (s:={ s with heap:=hN }) U co od aq #[x,H,IN,ru,#[rfl,λys hy=>by rw[I.jM hy G];show hi],stN,λb hb=>(F b hb).1]]
 done:=by
  intro X hP O J hA i pins s σ H E L I F st S;subst hP O J;let#[xs,G,hi]:=S;let#[its,rv,pl,hz]:=I.list G;let#[z,R,g2,g3,g4,g5]:=F it (by simp);let#[o,vs,U,_,od,oc]:=I.zz L;let hl:=rv.length;show oi hA U od oc (λe=>by rwa[e,L]at z) st pl.isList (by simp;omega) λhN eN=>#[rfl,I.turned (t':=s.toks) (λb o nb e=>eN b o nb e) z R g3 g4 g5]
 self:=(iC (P:=P) (w:=w) (K:=K) (tg:=tg) a it).self
theorem vE{hx:Addr}{xc:Value}{P:vu}{w:Oe}{K:Om}{tg:OE}(it:Addr)(lo:Int)(n:Nat):zq hx xc P w K tg (EF lo n) [it] it (λi h=>Rk h it (lo+(i:Nat)*1) ((n:Int)-(i:Nat)) 1) where
 mem:=(gN (P:=P) (w:=w) (K:=K) (tg:=tg) it lo n).mem
 obj:=(gN (P:=P) (w:=w) (K:=K) (tg:=tg) it lo n).obj
 keep:=(gN (P:=P) (w:=w) (K:=K) (tg:=tg) it lo n).keep
 item:=by
  intro X S J G hA i pins s σ H E hX I z st O;subst S J G;let am:i<n:=O;let#[g0,L,g2,g3,R,g5]:=z it (by simp);show wpAny_pyNext_range_item st af λF stN ac=>?_;let IN: ~~~H { s with heap:=F,toks:=s.toks+1 }:=I.turned (t':=s.toks+1) (λb o U e=>(ac.2 b U).trans e) g0 L g3 R g5;let e1:lo+((i+1:Nat):Int)*1=lo+(i:Int)*1+1:=af;let e2:(n:Int)-((i+1:Nat):Int)=(n:Int)-(i:Int)-1:=af;let ab:Rk F it (lo+((i+1:Nat):Int)*1) ((n:Int)-((i+1:Nat):Int)) 1:=(by rw[e1,e2];show stN);show#[0,qM (s:={ s with heap:=F,toks:=s.toks+1 }) (n := "range_iterator") ab rfl rfl aq #[.int (lo+i),H,IN,#[s.toks,?_],#[1],ab,λb hb=>(z b hb).1]];rw[Int.mul_one]
 done:=by
  intro X S J G hA i pins s σ H E hX I z st O;subst S J G;let am:n<=i:=O;let#[g0,L,g2,g3,R,g5]:=z it (by simp);let#[o,vs,eo,_,od,oc]:=I.zz hX;show tE hA eo od oc st af λF eN=>#[rfl,I.turned (t':=s.toks) (λb o U e=>eN b o U e) g0 L g3 R g5]
 self:=(gN (P:=P) (w:=w) (K:=K) (tg:=tg) it lo n).self
def ME(hx:Addr)(xc:Value)(X:Cx)(pins:W7)(σ:St)(tg:OE)(R:It->Hp->Prop)(F:Value)(s2:se):Prop :=
 ∃(it:Addr)(fp:List Addr)(z:Nat->Heap->Prop)(J:It)(H':Hp),F=.ref it/\~~~H' s2/\zq hx xc X.prog X.w X.K tg J fp it z/\z 0 s2.heap/\(∀b∈fp,fK X pins H' b)/\R J H'
def Mm(hx:Addr)(xc:Value)(X:Cx)(tg iter:OE)(wi:TI):Prop :=
 ∀(pins:W7)(s:se)(σ:St)(H:Hp)(R:It->Hp->Prop),~~~H s->wi σ H R ->
  ↑(eval iter X.env) (λv z=>↑(Wx v) (ME hx xc X pins σ tg R) X.xe z) X.xe s
theorem EB{hx:Addr}{xc:Value}{X:Cx}{tg l:OE}{tl:TE}(L:PE X l tl):Mm hx xc X tg l (Gq X.K tl):=by
 intros R I h;show b9 (L pins s σ H _ I h) λv F ⟨x,H1,z,G,a,e,⟨xs,J⟩,q⟩=>?_;subst e;cases G;let#[its,U,pl,S]:=z.list J;show U6 pl.isList #[F⁻¹,[F⁻¹],2,H1,rfl,z.kept (t':=F.toks) λb o e=>Heap.get?_push_of_some _ e,xY a _,#[_,Heap.get?_push_size _ rfl,1],λb O=>?_,q];obtain rfl:b=F⁻¹:=‹O›;show z.kD (G0 _) (z.bV.fresh (G0 _))
def Ja(hx:Addr)(xc:Value)(caps:List (Str×Nat))(wi:TI)(tt:TT)(te:TE):TE:=λσ H Q=>wi σ H λJ H1 =>
 ∃W:Nat->Nat->List V->Hp->Prop,(∃m,W 0 m [] H1)/\(∀i m ys H,W i m ys H->H hx=some (xq hx xc))/\ja caps tt te σ J (λys H2=>∀p,H2 p=none->Q (.ref p) (upd H2 p (.lst ys))) W
section
variable{X:Cx}{scope:RY}{cl:List (Str×Addr)}{t:Str}{caps:List (Str×Nat)}{elt iter:OE}{ifs:List OE}{px pos:Q5}{wi:TI}{tt:TT}{te:TE}
theorem wm{hx:Addr}{xc:Value}{pins:W7}{σ:St}{H:Hp}{s:se}{J:It}{fp:List Addr}{it:Addr}{tn:Nat->Heap->Prop}{W:Nat->Nat->List V->Hp->Prop}{QE:List V->Hp->Prop}{E:W8}{RR:Value->Addr->VS->se->Prop}{m0:Nat}
  (K:ku X scope cl t caps) (hA:X.A.handled=some (.ref hx))
  (ht:∀C s₀ H₀ ex,Jy (kU X (eS t caps) scope cl C s₀ H₀ ex) ifs tt) (he:∀C s₀ H₀ ex,PE (kU X (eS t caps) scope cl C s₀ H₀ ex) elt te)
  (I: ~~~H s) (T:zq hx xc X.prog X.w X.K (.Name t px) J fp it tn) (st:tn 0 s.heap) (U:∀b∈fp,fK X pins H b) (w0:W 0 m0 [] H) (hW:ja caps tt te σ J QE W) (bl:∀i m ys H,W i m ys H->H hx=some (xq hx xc))
  (bz:∀D C ys H' s' m,H' D=none->~~~(upd H' D (.lst ys)) s'->s'.heap.Ns C m->fK X pins (upd H' D (.lst ys)) C->QE ys H'->RR (.ref D) C (.ok .next) s') :
  ↑(newList []) (λbv ac=>↑(newFunctionEnv scope X.env.globals cl [] X.env.qual none .none (some X.env)) (λbd b3 =>
   QV (model X.prog X.w) X.A (.compStart (.ListComp elt [#[.Name t px,iter,ifs,(0)]] scope pos) 0 (.ref it) bv { bd with scope:=relabel scope X.env }) (RR bv bd.locals) b3) E ac) E s:=by
 show wpAny_newObj_type (Uw K.BS (by intro y hy;simp at hy) (λam a0 ap=>?_) K.kind);dsimp only at a0 ap ⊢;generalize aT:s.heap.push { cls:=.type "list",dict:=none,data:=.seq ([]:Xc).toArray }=H2 at a0 ap ⊢;let hC:H2.objs.size=s⁻¹+1:=(by rw[<-aT,Heap.size_push]);let ao:s⁻¹≠H2.objs.size:=(by rw[hC];show Pb (RJ _));let as:s⁻¹<=H2.objs.size:=(by rw[hC];show RT _);let below:∀b,b<s⁻¹->b≠H2.objs.size:=λb G=>(by rw[hC];show Pb (Rb G));let bf:∀b o,s.heap.get? b=some o->am.get? b=some o:=λb o e=>ap.extBut b o (below b (Heap.lt_size e)) (Heap.get?_push_of_some _ (aT▸Heap.get?_push_of_some _ e));let bx:am.get? s⁻¹=some { cls:=.type "list",data:=.seq ([]:Xc).toArray }:=ap.extBut _ _ ao (Heap.get?_push_of_some _ (aT▸Heap.get?_push_size _ rfl));let ho:∀b∈fp,b<s⁻¹:=λb G=>let ⟨_,e,_⟩:=T.obj 0 _ st b G;Heap.lt_size e;let bc:s⁻¹∉fp:=λhm=>Qh _ (ho _ hm);let a8:tn 0 am:=T.keep 0 _ _ st λb _ o e=>bf b o e;let b6:s⁻¹∉q8 X.stack:=λz=>by
  rcases vr.mp (I.qY _ z)with e|e
  .show absurd (e▸I.lt) (Qh _)
  .show I.HM (G0 _) e
 let bY:∀x c,cl.lookup x=some c->c≠s⁻¹:=λx c e z=>by
  let#[v,q]:=I.cell x c (K.look e);show absurd (z▸q.lt) (Qh _)
 let a7:∀{pl:W7}{L:Hp},(∀b∈fp,L b=none)->(∀p∈pl,p.1∉fp)->∀b∈fp,fK (kU X (eS t caps) scope cl H2.objs.size s H fp) pl L b:=λ{pl L} hn S b G =>
  #[hn b G,below b (ho b G),(MN I K U ho as).wD b G,.inl G,λx c e=>(U b G).2.2.2.2.1 x c (K.look e),λp bI z=>by
   let b0:p∈pl:=bI;show S p b0 (z▸G)]
 let be:∀ac:se,ac={ s with heap:=am,toks:=s.toks+([]:List (Str×Value)).length } ->
   QV (model X.prog X.w) X.A (.compLoop (.ListComp elt [#[.Name t px,iter,ifs,(0)]] scope pos) 0 (.ref it) (.ref s⁻¹) (Tr scope cl H2.objs.size X.env)) (RR (.ref s⁻¹) H2.objs.size) ac:=by
  rintro ac rfl;show codeAny_loop rfl (λn s'=>∃i ys its O L v0,Inv (kU X (eS t caps) scope cl H2.objs.size s H fp) [] (gj caps σ v0) L s'/\tn i s'.heap/\(∀b∈fp,L b=none)/\L s⁻¹=none /\
   s'.heap.get? s⁻¹=some { cls:=.type "list",data:=.seq its.toArray O }/\Vals ys its/\ys.length<=sizeLine/\W i n ys L) (λn s' hI=>?_) m0
   #[(0),[],[],(0),H,none,K7 I K U ho as bf a0,a8,λb G=>(U b G).1,I.bV.fresh (G0 _),bx,.nil,OJ _,w0]
  let#[i,ys,its,O,L,v0,I3,bi,ba,aB,e3,r3,z3,w3]:=hI;change wpAny _ X.A ((compTurn (.ListComp elt [#[.Name t px,iter,ifs,(0)]] scope pos) 0 (.ref it) (.ref s⁻¹) (Tr scope cl H2.objs.size X.env)).onRaise (λx=>do noteFrame x (Tr scope cl H2.objs.size X.env);theTreesLotGoes x)) _ _ s';show wpAny_noted ?_;rw[compTurn_list];let bm:Inv (kU X (eS t caps) scope cl H2.objs.size s H fp) [(s⁻¹, { cls:=.type "list",data:=.seq its.toArray O })] (gj caps σ v0) L s':=I3.j5 λp S=>by
   let ep:p=(s⁻¹, { cls:=.type "list",data:=.seq its.toArray O }):=‹S›;subst ep;show#[e3,aB,ao,b6,λv z=>by cases(show Data.seq its.toArray O=Data.cell v from z)]
  let pD:∀p∈[((s⁻¹:Addr),({ cls:=.type "list",data:=.seq its.toArray O }:Obj))],p.1∉fp:=λp S=>by
   let ep:p=(s⁻¹, { cls:=.type "list",data:=.seq its.toArray O }):=‹S›;subst ep;show bc
  rcases hW i n ys L w3 with⟨bH,q⟩|⟨go,N,hN,step⟩
  .show tp (Q6 (tp (b9 (T.done (kU X (eS t caps) scope cl H2.objs.size s H fp) rfl rfl rfl hA i _ s' _ L _ (bl _ _ _ _ w3) bm (a7 ba pD) bi bH) λr s4 ⟨hr,I4⟩=>?_)));subst hr;show wpAny_pure ?_;let I5: ~~~L s4:=I.zE (ch:=fp) I4.os I4.base I4.bV I4.bare λb G=>#[(U b G).2.2.2.1,(U b G).2.1,(U b G).2.2.2.2.1,(U b G).2.2.2.2.2];let e4:=(I4.pin _ (Of _ OF)).1;let fD:fK X pins L s⁻¹:=I.kD (G0 _) aB;let I6:=I5.GQ fD e4 r3 z3;let#[m,hn,_]:=I4.loc;show bz _ _ ys L s4 m aB I6 hn (I.kD as ?_) q;rw[ai (D0 ao)];show I4.free
  .show tp (Q6 (tp (b9 (T.item (kU X (eS t caps) scope cl H2.objs.size s H fp) rfl rfl rfl hA i _ s' _ L _ (bl _ _ _ _ w3) bm (a7 ba pD) bi go) λr s4 ⟨u,hr,h4⟩=>?_)));subst hr;show tp (b9 h4 λ_ s5 ⟨x,H5,I5,r5,y5,a5,b5⟩=>?_);let b7:=(I5.pin _ (Of _ OF)).2.1;let b4:=I5.pinned (a7 b5 pD) (T.obj _ _ a5);let nK:∀{α:Type}{tr:Sem α}{Q:α->se->Prop}{E':W8}{R:se},↑tr Q (λ_ _=>False) R->↑tr Q E' R:=λh=>OL h (λ_ _ z=>z) λ_ _ z=>z.elim;show tp (SU (gc (X:=kU X (eS t caps) scope cl H2.objs.size s H fp) (i:=0) (x:=t) b4 K.nd rfl (.inl (QT K.Lz)) r5 (λs6 I6=>?_) (.inr (QT K.Lz))));let e0:(gj caps σ v0).set 0 (some x)=gj caps σ (some x):=rfl;rw[e0]at I6;show tp (nK (b9 (ht _ _ _ _ _ s6 _ H5 _ I6 (step x H5 y5)) λok s7 ⟨H7,I7,q7⟩=>?_));let bn:∀{ab:St}{H':Hp}{R:se},Inv (kU X (eS t caps) scope cl H2.objs.size s H fp) ([(s⁻¹, { cls:=.type "list",data:=.seq its.toArray O })]++kC fp s5.heap) ab H' R ->
     R.heap.get? s⁻¹=some { cls:=.type "list",data:=.seq its.toArray O }/\H' s⁻¹=none/\tn (i+1) R.heap/\(∀b∈fp,H' b=none):=λ{ab H' R} Ix=>by
    let a:=Ix.pin _ (Of _ (Pc _ OF));show#[a.1,a.2.1,T.keep _ _ _ a5 λb G o e=>(Ix.pin (b,o) (Of _ (Of _ (eD G e)))).1,λb G=>?_];let#[o,e,d]:=T.obj _ _ a5 b G;show(Ix.pin (b,o) (Of _ (Of _ (eD G e)))).2.1
   let bare:∀{pl:W7}{ab:St}{H':Hp}{R:se},Inv (kU X (eS t caps) scope cl H2.objs.size s H fp) pl ab H' R->Inv (kU X (eS t caps) scope cl H2.objs.size s H fp) [] ab H' R:=λIx=>Ix.j5 λp S=>absurd S (by simp);cases ok with
   |false =>
    rw[WX IF]at q7;let#[m',hm,w7]:=hN _ _ q7;let#[a1,a2,a3,a4]:=bn I7;show wpAny_pure #[rfl,m',hm,i+1,ys,its,O,H7,some x,bare I7,a3,a4,a2,a1,r3,z3,w7]
   |true =>
    rw[WY rfl]at q7;show tp (tp (nK (b9 (he _ _ _ _ _ s7 _ H7 _ I7 q7) λy s8 ⟨yv,H8,I8,r8,b8,n8⟩=>?_)));let#[m',hm,w8]:=hN _ _ n8;let#[a1,a2,a3,a4]:=bn I8;let ca:=r3.length;show tp (QD F.slot_list_append #[_,a1,rfl] F.entry_list_append (F.args_list_append_2 _ _) (Vy s⁻¹ its.toArray O y (by rw[BY];omega)) #[a1,?_]);obtain⟨a6,q⟩:∃a6:Nat,(s8.heap.update s⁻¹ (Obj.mapSeq (·.push y))).get? s⁻¹=some { cls:=.type "list",data:=.seq (its++[y]).toArray a6 }:=by
     let q:=QZ a1 (·.push y);let ea:its.toArray.push y=(its++[y]).toArray:=(by simp);rw[ea]at q;show#[_,q]
    let I9:Inv (kU X (eS t caps) scope cl H2.objs.size s H fp) [] (gj caps σ (some x)) H8 { s8 with heap:=s8.heap.update s⁻¹ (Obj.mapSeq (·.push y)) }:=
     (bare I8).turned (t':=s8.toks) (λb o G e=>(Heap.get?_update_other _ _ (D0 G)).trans e) a2 ao (.inr (G0 _)) bY (λp S=>absurd (show p∈([]:W7)from S) (by simp))
    show wpAny_pure (wpAny_pure #[rfl,m',hm,i+1,ys++[yv],its++[y],a6,H8,some x,I9,T.keep _ _ _ a3 λb G o e=>(Heap.get?_update_other _ _ (show s⁻¹≠b from λz=>bc (by rw[z];show G))).trans e,a4,a2,q,r3.append (.cons r8 .nil),?_,w8])
    .rw[Oj,Pu];omega
 show TV (be _ rfl) (T.self _ 0 _ _ _ a8 (be _ rfl))
theorem vC{hx:Addr}{xc:Value}(K:ku X scope cl t caps)(hA:X.A.handled=some (.ref hx))(hi:Mm hx xc X (.Name t px) iter wi)
  (ht:∀C s₀ H₀ ex,Jy (kU X (eS t caps) scope cl C s₀ H₀ ex) ifs tt) (z:∀C s₀ H₀ ex,PE (kU X (eS t caps) scope cl C s₀ H₀ ex) elt te)
  (hs:∀x,QO iter X.env x=pure x:=by intro _;rfl):PE X (.ListComp elt [#[.Name t px,iter,ifs,(0)]] scope pos) (Ja hx xc caps wi tt te):=by
 intros Q I h;rw[eval_ListComp];show Tf (use:=none) rfl hs K.Ki K.kind K.names (b9 (hi pins s σ H _ I h) λv s1 h1=>b9 h1 λao s2 h2=>?_);let#[it,fp,tn,J,H2,e,F,T,ac,f2,W,#[m0,G],ab,R]:=h2;subst e;show wm (RR:=λU C=>compPost (model X.prog X.w) X.A X.xe none (EP X pins σ Q) U C) K hA ht z F T ac f2 G R ab ?_;intro D C ys H' s' m hD L hn hC q;show#[m,hn,λh' am=>?_];let#[O,c1,c2,c3,c4,c5]:=hC;show#[.ref D,_,L.turned (t':=s'.toks) (λb o S e=>(am.2 b S).trans e) O c1 c3 c4 c5,rfl,q D hD]
end
theorem jB{X:Cx}:fq X (.builtin "isinstance") (λxs H Q=>∃(e C:Addr)(c:V)(cv:Value)(b:Bool),xs=[.ref e,c]/\((∃D,c=.ref D/\cv=.ref D)\/∃n,c=.ty n/\cv=.type n)/\PySem.W.Ad X.K C/\H e=some (xq e (.ref C))/\Qj X.K (.ref C) cv=some b/\Q (.bl b) H):=by
 intros xs us Q I r h;let#[e,C,c,cv,b,rfl,S,xc,G,hk,q]:=h;let#[u,L,rfl,O,F]:=vals2 r;obtain rfl:u=Value.ref e:=O;let R:L=cv:=by
  rcases S with⟨D,rfl,rfl⟩|⟨n,rfl,rfl⟩
  .show F
  .show F
 subst R;let#[o,vs,J,U,_]:=I.zz G;show Rh (PySem.W.Br xc) I.kh #[o,J,U] hk (λz=>nomatch z) λtk=>#[.bl b,H,I.tok _,rfl,q]
theorem vN{prog:vu}{w:Oe}{A:Ov}{hx:Addr}{O:Obj}{R:Xb}(S:A.handled=some (.ref hx))(ab:O.data=.fields R)(hc:R[2]?=some .none)(it l:Addr)(U:l≠it)(nx:it≠hx)(items:Xb) :
  Walks prog w A it [it,l,hx] [it] items.size (λi v=>items[i]?=some v) (λi h=>h.IsListIter it l i/\h.IsList l items/\h.get? hx=some O) where
 sub:=λb F=>by simp at F;simp[F]
 frame:=λ_ _ _ st J=>#[st.1.at λo e=>J it (by simp) o e,st.2.1.at λo e=>J l (by simp) o e,J hx (by simp) _ st.2.2]
 item:=λi s Q E hi st G=>by
  show Rq st.1 st.2.1 (x:=items[i]) (by simp[hi]) λL ac I=>?_;show G _ L s.toks (by simp[hi]) #[ac,st.2.1.extBut I.extBut U,(I.2 hx (D0 nx)).trans st.2.2] λb o F e=>I.extBut b o (λz=>F (by simp[z])) e
 done:=λs Q E st G=>oi S st.2.2 ab hc nx st.1 st.2.1 (by simp) λL eN=>G L s.toks λb o F e=>eN b o (λz=>F (by simp[z])) e
 self:=λ_ _ _ _ st G=>Ub st.1 G
theorem Aj{X:Cx}{hx:Addr}{xc:Value}(hA:X.A.handled=some (.ref hx)):fq X (.builtin "sum") (λxs H Q=>∃(p:Addr)(F:List Int),xs=[.ref p]/\bA X.K H p (F.map V.int)/\H hx=some (xq hx xc)/\Q (.int F.sum) H):=by
 intros xs us Q I r h;let#[p,F,rfl,hp,hX,q]:=h;let#[u,rfl,ru]:=vals1 r;cases ru;let#[its,rv,pl,hz]:=I.list hp;let S:=intsAre_of rv;let hn:=S.numsOf;let#[ys,e]:=S.allInts.items;let U:=pl.isList;rw[e]at U;let#[o,vs,R,_,od,oc]:=I.zz hX;show call_sum_walkG (iter_intList U λs2 e2 st L ac=>?_);subst e2;let O:=Heap.lt_size R;show#[2,2,2,numAt ys,rfl,vN (A:=X.A.in1) hA od oc _ p ac (U5 O) (intItems ys),#[st.1,st.2,Heap.get?_push_of_some _ R],λb G=>?_,(λ_ _=>intItems_at),λh' tk t' hk=>?_]
 .rcases vr.mp G with z|G
  .show L b (by simp[z])
  .rcases vr.mp G with z|G
   .show L b (by simp[z])
   .rw[t6.mp G];change hx<(s.heap.push _).objs.size;rw[Heap.size_push];show Rb O
 .let hs:preSum (numAt ys) ys.size=F.sum:=by
   rw[preSum_eq,O8 (by simp), <-nums_intItems, <-e];rw[show its.toArray.toList=its from rfl,hn]
  let ab:(intItems ys).size=ys.size:=(by simp[intItems]);show#[.int F.sum,H,I.kept λb o J=>hk b o (λhm=>?_) (Heap.get?_push_of_some _ J),#[_,by rw[ab,hs]],q];show absurd (t6.mp hm▸Heap.lt_size J) (Qh _)
theorem xM{hx:Addr}{xc:Value}{X:Cx}{tg a:OE}{ta:TA}{p pos:Q5}(U:Gl X "range")(hm:X.mg "range" = none)(ha:PA X [a] ta)(hs:starEach [a] X.env=[(false,eval a X.env)]:=by rfl):Mm hx xc X tg (.Call (.Name "range" p) [a] [] pos) (Gy ta):=by
 intros R I h;show Call_ (jm I U hm VQ (Pq (b9 (ha pos pins s σ H _ I h) λus z ⟨vs,H1,O,r1,j,e,G,q2,q⟩=>?_) hs rfl));subst e;cases r1 with
 |cons r rr =>
  cases rr;let#[t,rfl]:=r;show call_range_1 (Sv (Vv ..) (Wq af af G q2) ?_);let F: ~~~H1 _:=O.kept (t':=z.toks+1+1) λb o e=>Heap.get?_push_of_some { cls:=Value.type "range",data:=Data.fields ([Value.int 0 z.toks,Value.int j t,Value.int 1 (z.toks+1)].toArray) } e;show#[_,[_],2,H1,rfl,F.kept (t':=z.toks+1+1) λb o e=>Heap.get?_push_of_some _ e,vE _ 0 j.toNat,?_,λb S=>?_,q]
  .let L:(0:Int)+((0:Nat):Int)*1=0:=(by simp);let e2:((j.toNat:Nat):Int)-((0:Nat):Int)=Builtin.Range.rangeSize 0 j 1:=(by rw[UK];split<;>omega);rw[L,e2];show Heap.get?_push_size _ rfl
  .let J:=t6.mp S;subst J;show F.kD (G0 _) (F.bV.fresh (G0 _))
structure qJ(hx:Addr)(k:Nat)(A:Ov):Prop where
 hd:A.handled=some (.ref hx)
 dp:A.depth+3*k+5<Um
 un:A.units+16*k+200<Rr
theorem qJ.deeper{hx:Addr}{k:Nat}{A:Ov}(r:qJ hx (k+1) A)(env:SN):qJ hx k (A.deeper env):=
 #[r.hd,by have:=r.dp;change A.depth+1+3*k+5<_;omega,by have:=r.un;change A.units+3+16*k+200<_;omega]
theorem bp.hand{k:Nat}{A:Ov}(r:bp k A)(hx:Addr):qJ hx k (A.mark (some (.ref hx))):=#[rfl,r.dp,r.un]
structure wF(hx:Addr)(P:vu)(w:Oe)(K:Om)(mg:W9)(base:Heap)(k:Nat)(f:Addr)(fd:t7)(ps:List Str)(sp:Sp):Prop where
 len:∀vs H Q E,sp vs H Q E->vs.length=ps.length
 run:∀(A:Ov)(outer:List SN)(s:se)(H:Hp)(args:Args)(us:Xc)(vs:List V)(Q:VK),qJ hx k A->uP P w K mg base A outer s H->UC s fd args (ps.zip us)->Vals vs us->sp vs H Q E0 ->
  QV (model P w) A (.call (.ref f) args) (CR aY outer P w H s Q E0) s
def JA(hx:Addr)(P:vu)(w:Oe)(K:Om)(mg:W9)(base:Heap)(N:List Str)(qual:Str)(scope:RY)(f:Addr)(cd:Value)(A:Ov)(outer:List SN)(s:se)(H:Hp):Cx :=
 (rA aY P w K mg base N qual scope f cd { A with handled:=none } outer s H E0).hand hx
theorem Kn{hx:Addr}{P:vu}{w:Oe}{K:Om}{mg:W9}{base:Heap}{N:List Str}{qual:Str}{scope:RY}{f:Addr}{cd:Value}{A:Ov}{outer:List SN}{s:se}{H:Hp}(h:A.handled=some (.ref hx)) :
  (JA hx P w K mg base N qual scope f cd A outer s H).A=A.deeper (RM qual scope s⁻¹ f cd):=by
 let#[a,b,c,d,e]:=A;obtain rfl:a=some (.ref hx):=h;rfl
section
variable{hx:Addr}
theorem cq.N9{x qual:Str}{st:OB}{f:Addr}{fd:t7}{N ps:List Str}{k:Nat}{sp:Sp}(F:cq K x qual st f fd)(S:aD N ps (au st))(len:∀vs H Q E,sp vs H Q E->vs.length=ps.length)
  (ap:∀(L:Value)(A:Ov)(outer:List SN)(s:se)(H:Hp)(vs:List V)(Q:VK),qJ hx k (JA hx P w K mg base N qual (au st) f L A outer s H).A->sp vs H Q E0 ->
   ∃t,uZ (JA hx P w K mg base N qual (au st) f L A outer s H).nK (dX st) t/\t { nx:=λ_ H'=>Q .bB H',rt:=Q } (start N vs) H):wF hx P w K mg base (k+1) f fd ps sp:=by
 let#[oc,od,kV,a0,pm,an,L,ct,aT,rfl,lk,ao]:=F.ex;show#[len,λA outer s H args us vs Q hr G hb r ab=>?_];let hl:=len _ _ _ _ ab;let KX:K.In s.heap:=G.mod.CH.keeps λb o e=>(G.bs b o e).1;let as:s.heap.NoLimit:=G.mod.nolimit.keeps λb o e=>(G.bs b o e).1;let aB:∀y∈ps.zip us,(au st).names.lookup y.1=some .local\/((au st).names.lookup y.1=some .cell/\((Vm (s⁻¹+1) (au st).names []).lookup y.1).isSome=true):=λy hy=>by
  rcases S.par y.1 (TH (show(y.1,y.2)∈ps.zip us from hy)).1 with z|z
  .show .inl z
  .show .inr #[z,Uq _ _ _ (.inl z)]
 show Ue (by have:=hr.dp;omega) (KX _ _ lk) rfl S.co S.gen rfl (codeRec_of KX ao) (hb _ _ _ _ ?_);show SA S.kind aB λenv he U x=>?_;subst he;show#[as.keeps x.toInCall.keep,codeAny_func ?_];let eA:=Kn (P:=P) (w:=w) (K:=K) (mg:=mg) (base:=base) (N:=N) (qual:=qual) (scope:=au st) (f:=f) (cd:=L) (outer:=outer) (s:=s) (H:=H) hr.hd;let#[t,ht,hq]:=ap L A outer s H vs Q (by rw[eA];show hr.deeper _) ab;let e1:uP P w K mg base { A with handled:=none } outer s H:=#[G.frames,G.mod,G.bs,G.Be,G.km,G.EJ,G.bV,G.bare];let I:Inv (JA hx P w K mg base N qual (au st) f L A outer s H) [] (start N vs) H U:=(rZ (CX:=aY) (E:=E0) (A:={ A with handled:=none }) S rfl e1 hl r x).hand hx;let run:=ht [] U (start N vs) H _ (I.gR _) hq;let ac:wpAny (model P w) (JA hx P w K mg base N qual (au st) f L A outer s H).A (execs (dX st) (RM qual (au st) s⁻¹ f L)) _ _ U:=run;rw[eA]at ac;show OL ac (λfl s' hs=>?_) λe s' hs=>hs.elim;let am:∀{R:St}{H':Hp}{v:V}{u:Value},Inv (JA hx P w K mg base N qual (au st) f L A outer s H).nK [] R H' s'->RelV v u->Q v H'->CE outer P w H s Q u s' :=
  λJ O q=>#[2,J.os,J.bare,J.base,J.bV,O,q]
 cases fl with
 |ret u=>let#[v,R,H',J,O,q]:=hs;show am J O q
 |next=>let#[R,H',J,q]:=hs;show am (v:=V.bB) (u:=Value.none) J rfl q
 |brk=>let#[_,_,_,q]:=hs;show OS q
 |cont=>let#[_,_,_,q]:=hs;show OS q
variable{X:Cx}{k:Nat}{ps:List Str}{sp:Sp}{x:Str}{p pos:Q5}{e:OE}{es:List OE}{t:TA}
theorem wL(F:wF hx X.prog X.w X.K X.mg X.base k f fd ps sp)(hr:qJ hx k X.A)(S:Gl X x)(hm:X.mg x=some (.ref f))(U:Sy X.K (.ref f)=true)(hb:Binds X.K fd ps [])
  (ha:PA X (e::es) t) (ac:(x==("__debug__" : Str))=false:=by decide) (he:starEach (e::es) X.env=(false,eval e X.env)::starEach es X.env:=by rfl) (ab:(backTo pos (starEach es X.env)).any (·.1)=false:=by rfl) :
  PE X (.Call (.Name x p) (e::es) [] pos) (DP sp [] E0 t):=by
 intros Q I h;show PZ (gZ I S hm ?_ ac);show RL (h₀:=X.base) I.ok.mod.CH U (b9 (ha pos pins s σ H _ I h) λus O ⟨vs,H1,J,r,q⟩=>#[J.kh,?_]) he ab;let R:sp vs H1 Q E0:=by
  let z:sp (vs++[]) H1 Q E0:=q;rw[QS]at z;show z
 let hl:us.length=ps.length:=(by rw[<-r.length];show F.len _ _ _ _ R);let L:=hb O us J.kh (by rw[QS];show hl);rw[QS]at L;show RK (QW (F.run X.A X.stack O H1 #[us,[]] us vs Q hr J.ET L r R) λres s2 G=>?_);cases res with
 |error e=>show OS G
 |ok fl =>
  cases fl with
  |ret u=>show J.after G
  |next=>show OS G
  |brk=>show OS G
  |cont=>show OS G
variable{pins:W7}{σ:St}{H:Hp}{s:se}
theorem Inv.HQ{e:Addr}{cls:Value}(I: ~~~H s)(n:Eu X pins H e)(x:∃o vs,s.heap.get? e=some o/\o.cls=cls/\o.data=.fields vs/\vs[2]?=some .none): ~~~(upd H e (xq e cls)) s:=by
 let ne:∀b o,H b=some o->b≠e:=λb o q=>av q n.free;show#[I.ok,I.os,I.bare,#[I.base.keep,I.base.slot,λb o q O hx=>?_,I.base.there,λb xs q=>?_,λb o u q=>?_,λb ps q=>?_],I.loc,I.cell,?_,λy c q=>?_,λp F=>?_,λb u q=>?_,I.len]
 .rw[ai (λz=>by rwa[z,n.old]at q)];show I.base.free b o q O hx
 .let z:=I.base.pH b xs q;rw[ai (ne _ _ z)];show z
 .let z:=I.base.oz b o u q;rw[ai (ne _ _ z)];show z
 .let#[J,z]:=I.base.qk b ps q;show#[J,by rw[ai (ne _ _ z)];show z]
 .rw[ai (D0 n.loc)];show I.free
 .rw[ai (n.cell y c q)];show I.gw y c q
 .let#[a1,a2,L]:=I.pin p F;show#[a1,by rw[ai (n.pin p F)];show a2,L]
 .by_cases G:b=e
  .subst G;rwa[ae]at q;show KN x
  .rw[ai G]at q;show(I.bV b u q).jl (λ_ _ _ z=>z) (λc z=>by rw[ai (ne _ _ z)];show z) λc xs z=>by rw[ai (ne _ _ z)];show z
end
def Lf(K:Om)(C:Addr)(i:Nat)(tb:pJ)(ts:Addr->TS):TS:=λD σ H=>tb D (λz cls H'=>WD K cls (.ref C)=some true/\∀e,H' e=none->ts e (Lr i D) (z.set i (some (.ref e))) (upd H' e (xq e cls))) σ H
section
variable{X:Cx}{C:Addr}{i:Nat}{x n:Str}{np hpos pos:Q5}{body suite:List OB}{b₀:OB}{tb:pJ}{ts:Addr->TS}
theorem y8(hex:X.ex=[])(ba:X.stack=X.env::X.outer)(hf:X.env.frame=some X.env.locals)(hg:Gl X x)(hm:X.mg x=some (.ref C))(hN:X.N.Nodup)(hi:X.N[i]?=some n)(U:X.env.scope.names.lookup n=some .local)
  (hb:oH X body tb) (hs:∀e,uZ (X.hand e).nK (b₀::suite) (ts e)) (hd:(x==("__debug__" : Str))=false:=by decide) :
  PS X (.Try body [.ExceptHandler (some (.Name x np)) (some n) (b₀::suite) hpos] [] [] pos) (Lf X.K C i tb ts):=by
 intros D I h;show wpAny_Try_except (OL (hb pins s σ H D _ I h) (λf R q=>?_) λv R hx=>?_)
 .cases f with
  |next=>show Qa q
  |ret v=>show q
  |brk=>show q
  |cont=>show q
 let#[e,cls,a0,B,bf,H1,rfl,fl,c2,be,new,a8,hk]:=hx;let jl:B.StaysIn R.heap:=by
  rcases fl with z|z|⟨_,_,z⟩
  .show z.1
  .show z.1
  .show z.1
 let I1:=be.now jl;let ao:=I1.ok.frames;rw[ba]at fl ao;let a5:=I1.ok;show pU ao hf fl c2 λh4 held aT c4=>?_;show ER held c4 λh5 ac a7 c5=>?_;let ap:=aT.trans a7;let I5:=(be h5 R.toks ac.1 ap).hand e;let#[ob,a3,a4]:=ac.there;show wpAny_handleBy_cons (codeAny_handlers_test (gZ (X:=X.hand e) I5 hg hm ?_ hd)) (by intro q;cases q);let LT:UG (model X.prog X.w) h5 (UQ (.ref e)) cls:=a4▸(VF a3).andThen .now;show(PySem.W.exm_one I5.kh LT a8).here (s:={ R with heap:=h5 }) ?_;show codeAny_handlers_suite_as ?_;show EA ac c5 λh6 am a6 c6=>?_;let I6:=be h6 R.toks am.1 (ap.trans a6);let as:=(I6.HQ (cls:=cls) new (by
  let#[o1,g1,g2]:=am.there;let#[o2,vs,g3,g4,g5]:=c6;obtain rfl:o1=o2:=DD (g1.symm.trans g3);show#[o1,vs,g1,g2,g4,g5])).hand e
 show gc (X:=X.hand e) (v:=.ref e) as hN hi (.inl U) rfl (λs7 I7=>?_) (.inr U);show nx (hs e pins s7 _ _ _ (I7.gR _) (hk e new.free)) λf s8 hq=>?_;let S:∀{J:St}{G:Hp}{Q:se->Prop},Inv (X.hand e).nK pins J G s8->(∀L,Inv X pins (J.set i none) G L->Q L) ->
   ↑(do U4 X.env n .none;unbindBehindTheSuite X.env n hpos) (λ_ L=>Q L) X.xe s8:=λ{J G Q} F k=>by
  let ab:Inv X pins J G s8:=(F.cu).Ip a5;let#[m,hn,bd]:=ab.loc;show wpAny_nameGoes_keeps U hn (by rw[ab.ok.kind];rfl) λh' v aB bc=>k _ (ab.unset hN hi U hn bd aB bc)
 cases f with
 |next =>
  let#[J,G,F,q]:=hq;show S F λL O=>#[2,O,q]
 |brk =>
  let#[J,G,F,q]:=hq;show S F λL O=>#[2,O,q]
 |cont =>
  let#[J,G,F,q]:=hq;show S F λL O=>#[2,O,q]
 |ret u =>
  let#[v,J,G,F,rv,q]:=hq;show S F λL O=>#[v,2,O,rv,q]
end
theorem wq{hx:Addr}{xc:Value}{caps:List (Str×Nat)}{tt:TT}{te:TE}{σ:St}{H:Hp}{lo:Int}{n:Nat}{F:List V->Hp->Prop}(Pv:Nat->List V->Hp->Prop)(I:Pv 0 [] H)(G:∀i ys H,Pv i ys H->H hx=some (xq hx xc))
  (hs:∀i ys H,i<n->Pv i ys H->tt (gj caps σ (some (.int (lo+i)))) H λb H2=>if b=true then te (gj caps σ (some (.int (lo+i)))) H2 (λy H3=>ys.length<sizeLine/\Pv (i+1) (ys++[y]) H3)else Pv (i+1) ys H2)
  (hd:∀ys H,Pv n ys H->F ys H):∃W:Nat->Nat->List V->Hp->Prop,(∃m,W 0 m [] H)/\(∀i m ys H,W i m ys H->H hx=some (xq hx xc))/\ja caps tt te σ (EF lo n) F W:=by
 show#[λi m ys H=>m=n-i/\i<=n/\Pv i ys H,#[n,by simp,OJ _,I],λi m ys H q=>G i ys H q.2.2,?_];rintro i m ys H ⟨rfl,hi,p⟩;cases z:i<n
 .show .inr #[z,Pv (i+1),λL H' J=>#[n-(i+1),af,rfl,z,J],λx H' y=>?_];let#[e,y]:=y;subst e y;show hs i ys _ z p
 .let e:i=n:=af;subst e;show .inl #[G0 _,hd ys H p]
theorem yn{hx:Addr}{xc:Value}{K:Om}{a:Addr}{xs:List V}{caps:List (Str×Nat)}{tt:TT}{te:TE}{σ:St}{H:Hp}{z:List V->Hp->Prop}(Pv:Nat->List V->Hp->Prop)(I:Pv 0 [] H)(G:∀i ys H,Pv i ys H->H hx=some (xq hx xc))(J:∀i ys H,i<=xs.length->Pv i ys H->bA K H a xs)
  (hs:∀i x ys H,xs[i]?=some x->Pv i ys H->tt (gj caps σ (some x)) H λb H2=>if b=true then te (gj caps σ (some x)) H2 (λy H3=>ys.length<sizeLine/\Pv (i+1) (ys++[y]) H3)else Pv (i+1) ys H2)
  (hd:∀ys H,Pv xs.length ys H->z ys H):∃W:Nat->Nat->List V->Hp->Prop,(∃m,W 0 m [] H)/\(∀i m ys H,W i m ys H->H hx=some (xq hx xc))/\ja caps tt te σ (EK K a) z W:=by
 show#[λi m ys H=>m=xs.length-i/\i<=xs.length/\Pv i ys H,#[xs.length,by simp,OJ _,I],λi m ys H q=>G i ys H q.2.2,?_];rintro i m ys H ⟨rfl,hi,p⟩;let q:=J i ys H hi p;cases F:i<xs.length
 .show .inr #[#[xs,xs[i],q,by simp[F]],Pv (i+1),λO H' L=>#[xs.length-(i+1),af,rfl,F,L],λx H' y=>?_];let#[e,y]:=y;subst e;show hs i x ys _ (y xs q) p
 .let e:i=xs.length:=af;subst e;show .inl #[#[xs,q,G0 _],hd ys H p]
end L2
namespace Pr
open PySem L2 Rm Tb
theorem Kv:OO "ValueError" = some (.type "ValueError"):=ak
structure NO(K:Om)(mg:W9)(cl4:gC->Addr):Prop where
 xc:∀X,PySem.W.Ad K (cl4 X)
 ve:mg "ValueError" = none
 NU:∀X,Qj K (.ref (cl4 X)) (.type "ValueError")=some true
 LG:∀X,mg (wordOf X)=some (.ref (cl4 X))
 LK:∀X Y,Qj K (.ref (cl4 X)) (.ref (cl4 Y))=some (decide (X=Y))
def kb(X:gC):List Bool:=[decide (X=.noTask),decide (X=.noPage),decide (X=.noRoom),decide (X=.taken)]
def HZ:gC->Nat
 |.noTask=>0|.noPage=>1|.noRoom=>2|.taken=>3
def mM:List V:=[.str "NoTask",.str "NoPage",.str "NoRoom",.str "Taken"]
theorem IC(X:gC):((kb X).map λb=>if b=true then(1:Int)else 0).sum=1:=by cases X<;>rfl
theorem K6(X:gC):∀i:Nat,i<4->xC ((kb X).map V.bl) (0+(i:Int))=some (.bl (decide (i=HZ X))):=by
 intro i hi
 match i,hi with
 |0,_=>cases X<;>rfl
 |1,_=>cases X<;>rfl
 |2,_=>cases X<;>rfl
 |3,_=>cases X<;>rfl
theorem IB{σ:St}{H:Hp}{Q:Bool->Hp->Prop}(h:Q true H):vb σ H Q:=h
theorem Cj{k:Str}{r:List V}:xC (V.str k::r) 0=some (.str k):=by
 unfold xC wY;rw[WY aq,WY (by rw[Oq];omega)];rfl
theorem Cd(X:gC):xC mM (0+((HZ X:Nat):Int))=some (.str (wordOf X)):=by cases X<;>rfl
inductive tW(cl4:gC->Addr)(hx:Addr)(v:List V)(H:Hp)(Q:VK)(e:XK):Prop
 |mk(X:gC)(_:v=[.ref hx])(_:H hx=some (xq hx (.ref (cl4 X))))(_:∀H',aQ H H'->Q (.str (wordOf X)) H')
inductive kO(C:Addr)(vs:List V)(H:Hp)(Q:VK)(e:XK):Prop
 |mk(p a d:Addr)(bK:Int)(W:bF)(D:gM)(_:vs=[.ref p,.ref d])(_:cR C H p a bK W)(_:gr H d D)(_:Lg D)(_:Sz (fg W) bK)(_:(∀X,Due bK (fg W) D X->∀(H':Hp)(T:Addr),aQ H H'->H' T=some (.tup [.bB,.str (wordOf X)])->Q (.ref T) H'))(_:(∀(H':Hp)(W':bF)(T:Addr)(v:V),Good bK (fg W) D (fg W')->cR C H' p a bK W'->cU a H W H' W'->Tells (fg W) D v H H'->(∀l,v=.ref l->¬ Fq W' l)->H' T=some (.tup [v,.str ""])->Q (.ref T) H'))
theorem Tells.bB{c:Wc}{D:gM}{v:V}{H H':Hp}(h:Tells c D v H H')(n:¬ V.str (kindOf D)=V.str "peek"):v=.bB:=by
 cases D with
 |peek t ad z=>show absurd rfl n
 |_=>show h
theorem Tells.same{c:Wc}{D:gM}{v:V}{H H' z:Hp}(h:Tells c D v H H')(s:aQ H' z):Tells c D v H z:=by
 cases D with
 |peek t ad G=>let#[l,r,e,h1,h2,F]:=h;show#[l,r,e,h1,h2,s _ _ F]
 |_=>show h
theorem Fo:aD ["_law_caught","_law_kinds","_law_words"] ["_law_caught"] (au jo):=L2.bL
theorem Fg{f e:Addr}{I:gC->Addr}{fd:t7}(F:cq K "_law_word" "_law_word" jo f fd)(T:wd mg)(G:NO K mg I):wF e P w K mg base 1 f fd ["_law_caught"] (tW I e):=by
 show F.N9 Fo (λvs H Q E h=>?_) (λba A outer s H vs Q hr h=>?_)
 .let#[X,rfl,_]:=h;rfl
 .let#[X,rfl,R,k]:=h;let hs:=HC;let ab:(au jo).names.lookup ("isinstance" : Str)=some NameKind.globalImplicit:=ak;let a6:(au jo).names.lookup ("NoPage" : Str)=some NameKind.globalImplicit:=ak;let a7:(au jo).names.lookup ("NoTask" : Str)=some NameKind.globalImplicit:=ak;let aB:(au jo).names.lookup ("Taken" : Str)=some NameKind.globalImplicit:=ak;let a4:(au jo).names.lookup ("NoRoom" : Str)=some NameKind.globalImplicit:=ak;let ap:(au jo).names.lookup ("sum" : Str)=some NameKind.globalImplicit:=ak;let a8:(au jo).names.lookup ("ValueError" : Str)=some NameKind.globalImplicit:=ak;let a0:(au jo).names.lookup ("range" : Str)=some NameKind.globalImplicit:=ak;show#[_,(aj (cV 1 Fo.nd (cm (aa (a9 jB ab T.xn bE (aa (pv 0) (aa (bO (v:=.ref (I .noTask)) a7 (G.LG .noTask) rfl) ag))) (aa (a9 jB ab T.xn bE (aa (pv 0) (aa (bO (v:=.ref (I .noPage)) a6 (G.LG .noPage) rfl) ag))) ag))))
   (aj (cV 1 Fo.nd (aA xU (pv 1) (cm (aa (a9 jB ab T.xn bE (aa (pv 0) (aa (bO (v:=.ref (I .noRoom)) a4 (G.LG .noRoom) rfl) ag))) (aa (a9 jB ab T.xn bE (aa (pv 0) (aa (bO (v:=.ref (I .taken)) aB (G.LG .taken) rfl) ag))) ag)))))
   (aj (cV 2 Fo.nd (cm (aa br (aa br (aa br (aa br ag))))))
   (aj (bJ (PW.pt (lU (aJ sJ (a9 (Aj (xc:=.ref (I X)) hr.hd) ap T.sum mS (aa (vC (hx:=e) (xc:=.ref (I X)) (cl:=[]) (caps:=[]) #[rfl,ak,ak,rfl,by kernel_rfl,by intro p J;simp at J,by kernel_rfl,by intro p J;simp at J,ak] hr.hd (EB (pv 1)) (λ_ _ _ _=>j6) (λ_ _ _ _=>(cJ Ag (by rfl) T.int BF (aa (pv 0) ag)))) ag)) ah (aP _)) (kS (qq (fE (a9 jB ab T.xn bE (aa (pv 0) (aa (f6 (v:=.ty "ValueError") a8 G.ve Kv rfl) ag)))))))) (ar (aO br)) aR)
   (ar (aO (aL bT (vC (hx:=e) (xc:=.ref (I X)) (cl:=[("_law_words",s⁻¹+2),("_law_kinds",s⁻¹+1)]) (caps:=[("_law_kinds",1),("_law_words",2)]) #[rfl,ak,ak,rfl,by kernel_rfl,by intro p J;simp only[vr,Oh,or_false]at J;rcases J with rfl|rfl<;>first|rfl|show#[rfl,.inl rfl,.inl rfl]|show#[rfl,.inl rfl,.inr rfl],by kernel_rfl,by intro p J;simp only[vr,Oh,or_false]at J;rcases J with rfl|rfl<;>first|rfl|show#[rfl,.inl rfl,.inl rfl]|show#[rfl,.inl rfl,.inr rfl],ak] hr.hd (xM a0 T.range (aa ah ag)) (λ_ _ _ _=>EU (fE (aL (show KW _ (DB K)from bT) (pv 1) (pv 0) cB))) (λ_ _ _ _=>(aL (show KW _ (DB K)from bT) (pv 2) (pv 0) cB))) ah cB))))))),?_]
  show Kd λ_ O=>?_;show#[0,e,2,_,0,.inl #[0,rfl],G.xc X,R,G.LK X .noTask,0,e,2,_,0,.inl #[0,rfl],G.xc X,R,G.LK X .noPage,gF,λS as=>?_];let s0:=aw (X:=.lst [.bl (decide (X=.noTask)),.bl (decide (X=.noPage))]) as;let e0:(upd H S (.lst [.bl (decide (X=.noTask)),.bl (decide (X=.noPage))])) S=some (.lst [.bl (decide (X=.noTask)),.bl (decide (X=.noPage))]):=ae;show O _ _ _ ?_;change dF _ _ _ [some (V.ref e),some (.ref S),none] (upd H S (.lst [.bl (decide (X=.noTask)),.bl (decide (X=.noPage))]));generalize upd H S (.lst [.bl (decide (X=.noTask)),.bl (decide (X=.noPage))])=H0 at *;show Kd λ_ O=>?_;show#[0,0,e,2,_,0,.inl #[0,rfl],G.xc X,s0 _ _ R,G.LK X .noRoom,0,e,2,_,0,.inl #[0,rfl],G.xc X,s0 _ _ R,G.LK X .taken,gF,λa1 ao=>?_];let u1:=aw (X:=.lst [.bl (decide (X=.noRoom)),.bl (decide (X=.taken))]) ao;show#[S,a1,_,0,rfl,u1 _ _ e0,ae,mV,λL ac=>?_];let v1:=aw (X:=.lst ((kb X).map V.bl)) ac;let e1:(upd (upd H0 a1 (.lst [.bl (decide (X=.noRoom)),.bl (decide (X=.taken))])) L (.lst ((kb X).map V.bl))) L=some (.lst ((kb X).map V.bl)):=ae;let s1:=s0.trans (u1.trans v1);show O _ _ _ ?_;change dF _ _ _ [some (V.ref e),some (.ref L),none] (upd (upd H0 a1 (.lst [.bl (decide (X=.noRoom)),.bl (decide (X=.taken))])) L (.lst ((kb X).map V.bl)));generalize upd (upd H0 a1 (.lst [.bl (decide (X=.noRoom)),.bl (decide (X=.taken))])) L (.lst ((kb X).map V.bl))=H1 at *;clear u1 v1 ao ac;show Kd λ_ O=>?_;show#[mV,λw0 a5=>?_];let t0:=aw (X:=.lst mM) a5;let f0:(upd H1 w0 (.lst mM)) w0=some (.lst mM):=ae;show O _ _ _ ?_;change dF _ _ _ [some (V.ref e),some (.ref L),some (.ref w0)] (upd H1 w0 (.lst mM));let e2:=t0 _ _ e1;let s2:=s1.trans t0;generalize upd H1 w0 (.lst mM)=H2 at *;show Kh λ_ _ _ _ je O=>?_;show#[0,L,rfl,#[_,bA.of e2],?_];show yn (K:=K) (a:=L) (xs:=(kb X).map V.bl) (λi ys U=>ys=(((kb X).take i).map λb=>if b=true then(1:Int)else 0).map V.int/\U=H2) #[1] (λi ys U ⟨_,q⟩=>by rw[q];show s2 _ _ R) (λi ys U _ ⟨_,q⟩=>by rw[q];show bA.of e2) ?_ ?_
  .rintro i x ys U hx ⟨rfl,rfl⟩;rw[Od]at hx;let#[b,hb,rfl]:=wh.mp hx;show IB ?_;show eO ?_;show#[0,.inr #[b,rfl,3,rfl]]
   .rw[ti,ti,Oz];have:(kb X).length=4:=rfl;omega
   .rw[OY,hb,Ou,Ou];rfl
  .rintro ys U ⟨rfl,rfl⟩ l7 aT;let ek:(kb X).take ((kb X).map V.bl).length=kb X:=rfl;rw[ek];let s7:=aw (X:=.lst (((kb X).map λb=>if b=true then(1:Int)else 0).map V.int)) aT;show#[l7,((kb X).map λb=>if b=true then(1:Int)else 0),rfl,bA.of ae,(s2.trans s7) _ _ R,rfl,0,?_];rw[IC,decide_eq_true rfl];let am:=(s2.trans s7) _ _ R;let e7:=s7 _ _ e2;let f7:=s7 _ _ f0;let S7:=s2.trans s7;generalize upd U l7 (.lst (((kb X).map λb=>if b=true then(1:Int)else 0).map V.int))=H8 at *;show bw ?_;show#[0,e,2,_,true,rfl,.inr #[0,rfl],G.xc X,am,G.NU X,true,rfl,bw (je _ _ _ (O _ _ _ ?_))];show#[0,aq,aq,?_];show wq (lo:=0) (n:=4) (λi ys H9=>ys=(if HZ X<i then[.str (wordOf X)]else[])/\H9=H8) #[1] (λi ys H9 ⟨_,q⟩=>by rw[q];show am) ?_ ?_
   .rintro i ys H9 hi ⟨rfl,rfl⟩;show#[0,0,L,2,0,rfl,bA.of e7,K6 X i hi,0,?_];show fN (λc=>?_) (λc=>?_)
    .let ei:i=HZ X:=of_decide_eq_true c;show#[0,0,w0,2,0,rfl,bA.of f7,by rw[ei];show Cd X,3,rfl]
     .split<;>simp<;>omega
     .rw[WX af,WY af];rfl
    .let ei:¬ i=HZ X:=λz=>c (decide_eq_true z);show#[?_,rfl];cases q:HZ X<i
     .rw[WY q,WY af]
     .rw[WX q,WX af]
   .rintro ys H9 ⟨rfl,rfl⟩ l9 a3;let e9:(if HZ X<4 then[V.str (wordOf X)]else[])=[V.str (wordOf X)]:=(by cases X<;>rfl);rw[e9];show#[l9,2,.str (wordOf X),1,bA.of ae,rfl,k _ (S7.trans (aw a3))]
theorem lR:aD ["_law_rooms","_law_deed_here","_law_told_here","_law_word_here","e"] ["_law_rooms","_law_deed_here"] (au zN):=L2.bL
theorem FR{f C CK ao ap:Addr}{G:gC->Addr}{fd am ac:t7}(F:cq K "_law_told" "_law_told" zN f fd)(aT:mg "KernelError" = some (.ref CK))(hx:∀X,WD K (.ref (G X)) (.ref CK)=some true)
  (as:⇑aG 4 ao am ["_law_rooms","_law_deed_here"] (Jj C G)) (I:Def K mg "_law_do" ao am ["_law_rooms","_law_deed_here"])
  (aB:∀hx:Addr,wF hx P w K mg base 1 ap ac ["_law_caught"] (tW G hx)) (J:Def K mg "_law_word" ap ac ["_law_caught"]):↥aG 5 f fd ["_law_rooms","_law_deed_here"] (kO C):=by
 show F.eL lR (λa0 A outer s H vs Q E hr h=>?_);let#[p,a,d,bK,W,D,rfl,U,hd,lg,sz,O,S]:=h;let hs:=HC;show#[_,(aj (cV 2 lR.nd hU)
  (aj (cV 3 lR.nd br)
  (aj (y8 rfl rfl rfl rfl aT lR.nd (i:=4) rfl rfl (bt (rh 2 lR.nd (cy as (hr.mono aq) rfl (by rfl) I.mg I.kp I.b .nil (aa (pv 0) (aa (pv 1) ag))))) (λ_=>(ar (cV 3 lR.nd (wL (aB _) ((hr.mono aq).hand _) (by rfl) J.mg J.kp J.b (aa (pv 4) ag))))))
  (aj (bJ (aJ sJ (aL aN (pv 1) ah cB) br (aP _)) (ar (cV 2 lR.nd hU)) aR)
  (ar (aO (eM (aa (pv 2) (aa (pv 3) ag))))))))),?_]
 let#[kr,hk]:=hd.kind;show#[0,0,p,a,d,bK,W,D,rfl,U,hd,lg,sz,λX ab H1 s1=>#[hx X,λe he=>?_],λH1 W' v g R st tl nv=>?_]
 .show#[0,X,rfl,ae,λH2 s2=>?_];let L:=(s1.trans (aw he)).trans s2;show#[0,d,2,.str (kindOf D),1,bM.of (L _ _ hk),Cj,rfl,0,?_];show fN (λ_=>?_) (λ_=>?_)
  .show#[0,0,gF,λT z=>O X ab _ T (L.trans (aw z)) ae]
  .show#[0,0,gF,λT z=>O X ab _ T (L.trans (aw z)) ae]
 .let k1:=st.kt U;show#[0,d,2,.str (kindOf D),1,bM.of (k1.tup hk),Cj,rfl,0,?_];show fN (λc=>?_) (λc=>?_)
  .let ev:v=.bB:=tl.bB ‹c›;subst ev;show#[0,0,gF,λT z=>S _ W' T .bB g (R.same (aw z)) (st.post (aw z)) (tl.same (aw z)) (λ_ h=>by cases h) ae]
  .show#[0,0,gF,λT z=>S _ W' T v g (R.same (aw z)) (st.post (aw z)) (tl.same (aw z)) nv ae]
inductive pP(v:List V)(H:Hp)(Q:VK)(e:XK):Prop
 |mk(r:Int)(_:v=[.int r])(_:∀(n:Int)(H':Hp),aQ H H' -> -100000000000000000000000000000000000000000000000000000000000<n->n<100000000000000000000000000000000000000000000000000000000000->Q (.int n) H')
theorem Mt:aD ["_law_rest"] ["_law_rest"] (au BW):=L2.bL
theorem Fe(F:cq K "_law_page" "_law_page" BW f fd):↥aG 1 f fd ["_law_rest"] pP:=by
 show F.eL Mt (λR A outer s H vs Q E S h=>?_);let#[c,rfl,k]:=h;show#[_,(aj (bJ (aJ cK (aA bC (pv 0) ah) ah (aP _)) (ar (aO (aL bT (cm (aa (rS nE ah) (aa ah (aa (rS nE (aA hZ ah ah)) (aa (aA hZ ah ah) ag))))) (aA bC (aA bo (pv 0) ah) ah) cB))) aR)
  (ar (aO (aL bT (cm (aa (aA bC (aA bo (pv 0) ah) ah) (aa (aA bC (aA bo (pv 0) ah) ah) ag))) (aA bC (pv 0) ah) cB)))),?_]
 show#[0,_,0,rfl,(by change(0:Int)<16;decide),rfl,0,?_];show fN (λ_=>?_) (λ_=>?_)
 .let J:=Pj (c/16) (show(4:Int)≠0 by decide);let O:=OW (c/16) (show(0:Int)<4 by decide);let#[q,z,I]:=gp (xs:=[-1,64, -((10:Int)^Tc 50),(10:Int)^Tc 55]) J O;show#[0,_,0,rfl,#[aq,aq,aq],0,_,0,rfl,#[aq,aq,aq],mV,λl L=>#[0,_,0,rfl,#[aq,aq],_,0,rfl,Dk,l,2,.int q,1,bA.of ae,I,?_]];have G : -100000000000000000000000000000000000000000000000000000000000<q/\q<100000000000000000000000000000000000000000000000000000000000:=by
   try rw[Mp]at z
   try rw[MZ]at z
   try rw[Iz]at z
   rcases vr.mp z with e|z
   .omega
   rcases vr.mp z with e|z
   .omega
   rcases vr.mp z with e|z
   .omega
   have:=t6.mp z;omega
  show k q _ (aw L) G.1 G.2
 .let J:=Pj c (show(2:Int)≠0 by decide);let O:=OW c (show(0:Int)<2 by decide);let#[q,z,I]:=gp (xs:=[c/16%6,c/16%64]) J O;show#[0,_,0,rfl,#[aq,aq],_,0,rfl,(by change(0:Int)<6;decide),0,_,0,rfl,#[aq,aq],_,0,rfl,(by change(0:Int)<64;decide),gF,λl L=>#[0,_,0,rfl,EC,l,2,.int q,1,bA.of ae,I,?_]];have G : -100000000000000000000000000000000000000000000000000000000000<q/\q<100000000000000000000000000000000000000000000000000000000000:=by
   rcases vr.mp z with e|z
   .omega
   have:=t6.mp z;omega
  show k q _ (aw L) G.1 G.2
theorem oJ:aD ["_law_rest"] ["_law_rest"] (au B0):=L2.bL
theorem Ft(F:cq K "_law_many" "_law_many" B0 f fd):↥aG 1 f fd ["_law_rest"] pP:=by
 show F.eL oJ (λR A outer s H vs Q E S h=>?_);let#[c,rfl,k]:=h;show#[_,(aj (bJ (aJ cK (aA bC (pv 0) ah) ah (aP _)) (ar (aO (aL bT (cm (aa ah (aa (rS nE ah) (aa ah (aa ah (aa (aA hZ ah ah) (aa (rS nE (aA hZ ah ah)) ag))))))) (aA bC (aA bo (pv 0) ah) ah) cB))) aR)
  (ar (aO (aL bT (cm (aa ah (aa (aA bR ah (aA bC (aA bo (pv 0) ah) ah)) (aa (aA bR ah (aA bC (aA bo (pv 0) ah) ah)) ag)))) (aA bC (pv 0) ah) cB)))),?_]
 show#[0,_,0,rfl,(by change(0:Int)<16;decide),rfl,0,?_];show fN (λ_=>?_) (λ_=>?_)
 .let J:=Pj (c/16) (show(6:Int)≠0 by decide);let O:=OW (c/16) (show(0:Int)<6 by decide);let#[q,z,I]:=gp (xs:=[0, -1,64,65,(10:Int)^Tc 55, -((10:Int)^Tc 40)]) J O;show#[0,_,0,rfl,#[aq,aq,aq],_,0,rfl,#[aq,aq,aq],0,MC,λl L=>#[0,_,0,rfl,#[aq,aq],_,0,rfl,(by change(0:Int)<6;decide),l,2,.int q,1,bA.of ae,I,?_]];have G : -100000000000000000000000000000000000000000000000000000000000<q/\q<100000000000000000000000000000000000000000000000000000000000:=by
   try rw[Mp]at z
   try rw[MZ]at z
   try rw[Iz]at z
   rcases vr.mp z with e|z
   .omega
   rcases vr.mp z with e|z
   .omega
   rcases vr.mp z with e|z
   .omega
   rcases vr.mp z with e|z
   .omega
   rcases vr.mp z with e|z
   .omega
   have:=t6.mp z;omega
  show k q _ (aw L) G.1 G.2
 .let J:=Pj c (show(3:Int)≠0 by decide);let O:=OW c (show(0:Int)<3 by decide);let#[q,z,I]:=gp (xs:=[1,1+c/16%3,1+c/16%12]) J O;show#[0,_,0,rfl,#[aq,aq],_,0,rfl,Iv,_,0,rfl,0,_,0,rfl,#[aq,aq],_,0,rfl,(by change(0:Int)<12;decide),_,0,rfl,Lb,λl L=>#[0,_,0,rfl,Iv,l,2,.int q,1,bA.of ae,I,?_]];have G : -100000000000000000000000000000000000000000000000000000000000<q/\q<100000000000000000000000000000000000000000000000000000000000:=by
   rcases vr.mp z with e|z
   .omega
   rcases vr.mp z with e|z
   .omega
   have:=t6.mp z;omega
  show k q _ (aw L) G.1 G.2
theorem Mn:aD ["_law_rest"] ["_law_rest"] (au qt):=L2.bL
theorem xZ(F:cq K "_law_address" "_law_address" qt f fd):↥aG 1 f fd ["_law_rest"] pP:=by
 show F.eL Mn (λR A outer s H vs Q E S h=>?_);let#[c,rfl,k]:=h;show#[_,(aj (bJ (aJ cK (aA bC (pv 0) ah) ah (aP _)) (ar (aO (aL bT (cm (aa (rS nE ah) (aa ah (aa ah (aa (rS nE (aA hZ ah ah)) (aa (aA hZ ah ah) ag)))))) (aA bC (aA bo (pv 0) ah) ah) cB))) aR)
  (ar (aO (aL bT (cm (aa (aA bC (aA bo (pv 0) ah) ah) (aa (aA bC (aA bo (pv 0) ah) ah) ag))) (aA bC (pv 0) ah) cB)))),?_]
 show#[0,_,0,rfl,(by change(0:Int)<16;decide),rfl,0,?_];show fN (λ_=>?_) (λ_=>?_)
 .let J:=Pj (c/16) (show(5:Int)≠0 by decide);let O:=OW (c/16) (show(0:Int)<5 by decide);let#[q,z,I]:=gp (xs:=[-1,512,511, -((10:Int)^Tc 50),(10:Int)^Tc 55]) J O;show#[0,_,0,rfl,#[aq,aq,aq],0,_,0,rfl,#[aq,aq,aq],KS,λl L=>#[0,_,0,rfl,#[aq,aq],_,0,rfl,(by change(0:Int)<5;decide),l,2,.int q,1,bA.of ae,I,?_]];have G : -100000000000000000000000000000000000000000000000000000000000<q/\q<100000000000000000000000000000000000000000000000000000000000:=by
   try rw[Mp]at z
   try rw[MZ]at z
   try rw[Iz]at z
   rcases vr.mp z with e|z
   .omega
   rcases vr.mp z with e|z
   .omega
   rcases vr.mp z with e|z
   .omega
   rcases vr.mp z with e|z
   .omega
   have:=t6.mp z;omega
  show k q _ (aw L) G.1 G.2
 .let J:=Pj c (show(2:Int)≠0 by decide);let O:=OW c (show(0:Int)<2 by decide);let#[q,z,I]:=gp (xs:=[c/16%48,c/16%512]) J O;show#[0,_,0,rfl,#[aq,aq],_,0,rfl,(by change(0:Int)<48;decide),0,_,0,rfl,#[aq,aq],_,0,rfl,(by change(0:Int)<512;decide),gF,λl L=>#[0,_,0,rfl,EC,l,2,.int q,1,bA.of ae,I,?_]];have G : -100000000000000000000000000000000000000000000000000000000000<q/\q<100000000000000000000000000000000000000000000000000000000000:=by
   rcases vr.mp z with e|z
   .omega
   have:=t6.mp z;omega
  show k q _ (aw L) G.1 G.2
inductive nh(v:List V)(H:Hp)(Q:VK)(e:XK):Prop
 |mk(r:Int)(_:v=[.int r])(_:∀(cs:List Int)(H':Hp)(l:Addr),cs.length<=64->aQ H H'->H l=none->H' l=some (.lst (cs.map V.int))->Q (.ref l) H')
def zu(H H':Hp)(d:Addr):gM->Prop
 |.hV t ad cs=>∃c,H' d=some (.tup [.str "poke",.int t,.int ad,.ref c])/\H' c=some (.lst (cs.map V.int))/\H c=none
 |D=>gr H' d D
def GY:gM->Prop
 |.hV _ _ cs=>cs.length<=64
 |_=>True
inductive xm(v:List V)(H:Hp)(Q:VK)(e:XK):Prop
 |mk(n:Int)(l:Addr)(ts:List Int)(_:v=[.int n,.ref l])(_:H l=some (.lst (ts.map V.int)))(_:ts.length=4)(_:(∀t∈ts,Lo t))(_:∀(D:gM)(H':Hp)(d:Addr),aQ H H'->H d=none->zu H H' d D->Lg D->GY D->Q (.ref d) H')
theorem qg{n:Int}(z : -100000000000000000000000000000000000000000000000000000000000<n)(h1:n<100000000000000000000000000000000000000000000000000000000000):Lo n:=oY (by rw[EL];omega) (by rw[EL];omega)
theorem pL{ad n:Int}(F : -100000000000000000000000000000000000000000000000000000000000<ad)(a1:ad<100000000000000000000000000000000000000000000000000000000000)(z : -100000000000000000000000000000000000000000000000000000000000<n)(G:n<100000000000000000000000000000000000000000000000000000000000):Lo (ed ad)/\Lo (dB ad n):=by
 unfold ed dB;show#[oY (by rw[EL];omega) (by rw[EL];omega),oY (by rw[EL];omega) (by rw[EL];omega)]
theorem HK{A B G:Prop}(f:A->B)(a:A)(k:B->G):G:=k (f a)
theorem Li:aD ["_law_rest","_law_many_here"] ["_law_rest"] (au pK):=L2.bL
theorem yo(F:cq K "_law_cells" "_law_cells" pK f fd)(T:wd mg):↥aG 1 f fd ["_law_rest"] nh:=by
 show F.eL Li (λac A outer s H vs Q E hr h=>?_);let#[r,rfl,k]:=h;let hs:=HC;show#[_,(aj (cV 1 Li.nd (aL bT (cm (aa ah (aa (aA bR ah (aA bC (aA bo (pv 0) ah) ah)) (aa ah (aa (aA bR ah (aA bC (aA bo (pv 0) ah) ah)) (aa (aL bT (cm (aa ah (aa ah ag))) (aA bC (aA bo (pv 0) ah) ah) cB) ag)))))) (aA bC (pv 0) ah) cB))
  (ar (aO (lF (cl:=[("_law_rest",s⁻¹+1)]) (caps:=[("_law_rest",0)]) #[rfl,ak,ak,rfl,by kernel_rfl,by intro p G;simp only[vr,Oh,or_false]at G;rcases G with rfl<;>first|rfl|show#[rfl,.inl rfl,.inl rfl]|show#[rfl,.inl rfl,.inr rfl],by kernel_rfl,by intro p G;simp only[vr,Oh,or_false]at G;rcases G with rfl<;>first|rfl|show#[rfl,.inl rfl,.inl rfl]|show#[rfl,.inl rfl,.inr rfl],ak] rfl (jU (by rfl) T.range (aa (pv 1) ag)) (λ_ _ _ _=>j6) (λ_ _ _ _=>(aA bC (aA bR (aA bo (pv 1) ah) (aA mI (pv 0) (aA bo (pv 1) ah))) ah)))))),?_]
 let d0:=Pj (r/5) (show(2:Int)≠0 by decide);let d1:=OW (r/5) (show(0:Int)<2 by decide);let#[q,J,eq]:=gp (xs:=[0,64]) d0 d1;let ao:0<=q/\q<=64:=by
  rcases vr.mp J with e|J
  .omega
  have:=t6.mp J;omega
 let e0:=Pj r (show(5:Int)≠0 by decide);let S:=OW r (show(0:Int)<5 by decide);let#[n,z,en]:=gp (xs:=[1,1+r/5%8,8,1+r/5%24,q]) e0 S;let am:0<=n/\n<=64:=by
  rcases vr.mp z with e|z
  .omega
  rcases vr.mp z with e|z
  .omega
  rcases vr.mp z with e|z
  .omega
  rcases vr.mp z with e|z
  .omega
  have:=t6.mp z;omega
 show iT λ_ jt=>?_;show#[0,_,0,rfl,#[aq,aq],_,0,rfl,IH,_,0,rfl,0,_,0,rfl,#[aq,aq],_,0,rfl,(by change(0:Int)<24;decide),_,0,rfl,gF,λL ab=>#[0,_,0,rfl,#[aq,aq],_,0,rfl,EC,L,2,.int q,1,bA.of ae,eq,KS,λI U=>#[0,_,0,rfl,(by change(0:Int)<5;decide),I,2,.int n,1,bA.of ae,en,jt _ _ ?_]]];let s0:=(aw (X:=.lst [.int 0,.int 64]) ab).trans (aw (X:=.lst ([1,1+r/5%8,8,1+r/5%24,q].map V.int)) U);change IQ _ _ _ (upd (upd H L (.lst [.int 0,.int 64])) I (.lst ([1,1+r/5%8,8,1+r/5%24,q].map V.int)));generalize upd (upd H L (.lst [.int 0,.int 64])) I (.lst ([1,1+r/5%8,8,1+r/5%24,q].map V.int))=H1 at *;show#[0,0,af,af,?_];show vg (lo:=0) (n:=n.toNat) (λi ys H2=>∃cs:List Int,ys=cs.map V.int/\cs.length=i/\H2=H1) #[[],1,rfl] ?_ ?_
 .rintro i ys H2 hi ⟨cs,rfl,O,rfl⟩;show#[0,_,0,rfl,#[aq,aq],0,0,_,0,rfl,#[aq,aq],_,0,rfl,.inl #[af,af],_,0,5,0,rfl,(by change(0:Int)<256;decide),(by rw[ti];omega),cs++[(r/320+(0+(i:Int))*(r/81920))%256],?_,by rw[Oj,O];rfl,rfl];rw[Ou];rfl
 .rintro ys H2 ⟨cs,rfl,O,rfl⟩ l2 R;show k cs _ l2 af (s0.trans (aw R)) (s0.free R) ae
theorem Dj:aD ["_law_number_here","_law_tasks_here","_law_kind","_law_task","_law_rest","_law_many_here"] ["_law_number_here","_law_tasks_here"] (au BN):=L2.bL
theorem FD{f ao aB a5 a6:Addr}{fd a3 a4 a7 ap:t7}(F:cq K "_law_deed" "_law_deed" BN f fd)(T:wd mg)
  (aT:↥aG 1 ao a3 ["_law_rest"] pP) (R:Def K mg "_law_page" ao a3 ["_law_rest"])
  (ab:↥aG 1 aB a4 ["_law_rest"] pP) (J:Def K mg "_law_many" aB a4 ["_law_rest"])
  (as:↥aG 1 a5 a7 ["_law_rest"] pP) (U:Def K mg "_law_address" a5 a7 ["_law_rest"])
  (ba:↥aG 1 a6 ap ["_law_rest"] nh) (am:Def K mg "_law_cells" a6 ap ["_law_rest"]) :
  ↥aG 2 f fd ["_law_number_here","_law_tasks_here"] xm:=by
 show F.eL Dj (λbc A outer s H vs Q E L h=>?_);let#[n,l,ts,rfl,hl,lt,lo,k]:=h;show#[_,(aj (cV 2 Dj.nd (aA bC (pv 0) ah))
  (aj (cV 3 Dj.nd (aL bT (pv 1) (aA bC (aA bo (pv 0) ah) ah) cB))
  (aj (cV 4 Dj.nd (aA bo (pv 0) ah))
  (aj (bJ (aJ cK (pv 2) ah (aP _)) (ar (aO (eM (aa br (aa (pv 3) ag))))) aR)
  (aj (bJ (PW.pt (CW (aJ cK (pv 2) ah (aP _)) (zc (aJ cK (aA bC (pv 4) ah) ah (aP _))))) (ar (aO (eM (aa br (aa (pv 3) ag))))) aR)
  (aj (bJ (aJ gO (pv 2) ah (aP _)) (ar (aO (eM (aa br (aa (pv 3) (aa (eK aT (L.mono aq) (by rfl) R.mg R.kp R.b .nil az (aa (pv 4) ag)) (aa (eK ab (L.mono aq) (by rfl) J.mg J.kp J.b .nil az (aa (aA bo (pv 4) ah) ag)) ag))))))) aR)
  (aj (bJ (aJ cK (pv 2) ah (aP _)) (ar (aO (eM (aa br (aa (pv 3) (aa (eK aT (L.mono aq) (by rfl) R.mg R.kp R.b .nil az (aa (pv 4) ag)) (aa (eK ab (L.mono aq) (by rfl) J.mg J.kp J.b .nil az (aa (aA bo (pv 4) ah) ag)) ag))))))) aR)
  (aj (bJ (aJ gO (pv 2) ah (aP _)) (aj (cV 5 Dj.nd (eK ab (L.mono aq) (by rfl) J.mg J.kp J.b .nil az (aa (aA bo (pv 4) ah) ag)))
  (ar (aO (eM (aa br (aa (pv 3) (aa (eK as (L.mono aq) (by rfl) U.mg U.kp U.b .nil az (aa (pv 4) ag)) (aa (BD (Bk gO gO ah (pv 5) ah) (a9 (AQ rfl) (by rfl) T.min Hm (aa ah (aa (pv 5) ag))) (pv 5)) ag)))))))) aR)
  (aj (bJ (aJ gO (pv 2) ah (aP _)) (ar (aO (eM (aa br (aa (pv 3) (aa (eK as (L.mono aq) (by rfl) U.mg U.kp U.b .nil az (aa (pv 4) ag)) (aa (eK ba (L.mono aq) (by rfl) am.mg am.kp am.b .nil az (aa (aA bo (pv 4) ah) ag)) ag))))))) aR)
  (ar (aO (eM (aa br (aa (pv 3) (aa (aL bT (pv 1) (aA bC (pv 4) ah) cB) ag))))))))))))))),?_]
 let d0:=Pj (n/12) (show(4:Int)≠0 by decide);let d1:=OW (n/12) (show(0:Int)<4 by decide);let#[t,ht,et]:=gp (xs:=ts) d0 (by rw[lt];show d1);let lt':=lo t ht;let r0:=Pj (n/48) (show(4:Int)≠0 by decide);let r1:=OW (n/48) (show(0:Int)<4 by decide);let#[o,ho,eo]:=gp (xs:=ts) r0 (by rw[lt];show r1);let a8:=lo o ho;show iT λ_ jt=>?_;show#[0,_,0,rfl,(by change(0:Int)<12;decide),jt _ _ ?_];show iT λ_ jt=>?_;show#[0,0,_,0,rfl,#[aq,aq],_,0,rfl,Dk,l,2,.int t,1,bA.of hl,et,jt _ _ ?_];show iT λ_ jt=>?_;show#[0,_,0,rfl,#[aq,aq],jt _ _ ?_];show oK λ_ I G=>?_;show#[0,rfl,0,rD (λ_=>I _ ?_) (λ_=>G _ ?_)]
 .show#[0,gF,λd hd=>k (.begin t) _ d (aw hd) hd ae lt' trivial]
 show oK λ_ I G=>?_;show HK (G H) ?_ λjf=>?_
 rotate_left
 .show#[0,rfl,0,fN (λ_=>?_) (λ_=>jf)];show#[0,_,0,rfl,Iv,rfl,0,rD (λ_=>I _ ?_) (λ_=>jf)];show#[0,gF,λd hd=>k (.close t) _ d (aw hd) hd ae lt' trivial]
 show oK λ_ I G=>?_;show#[0,_,0,rfl,0,rD (λ_=>I _ ?_) (λ_=>G _ ?_)]
 .show#[0,0,0,λpg H1 z p0 p1=>#[0,_,0,rfl,#[aq,aq],0,λm H2 s2 O S=>#[mV,λd hd=>?_]]];show k (.map t pg m) _ d ((z.trans s2).trans (aw hd)) ((z.trans s2).free hd) ae #[lt',qg p0 p1,qg O S] trivial
 show oK λ_ I G=>?_;show#[0,rfl,0,rD (λ_=>I _ ?_) (λ_=>G _ ?_)]
 .show#[0,0,0,λpg H1 z p0 p1=>#[0,_,0,rfl,#[aq,aq],0,λm H2 s2 O S=>#[mV,λd hd=>?_]]];show k (.drop t pg m) _ d ((z.trans s2).trans (aw hd)) ((z.trans s2).free hd) ae #[lt',qg p0 p1,qg O S] trivial
 show oK λ_ I G=>?_;show#[0,_,0,rfl,0,rD (λ_=>I _ ?_) (λ_=>G _ ?_)]
 .show#[0,_,0,rfl,#[aq,aq],0,λm H1 z O S=>?_];show#[0,0,0,λad H2 s2 a0 a1=>?_];let ac:∀m':Int, -100000000000000000000000000000000000000000000000000000000000<m'->m'<100000000000000000000000000000000000000000000000000000000000->∀d,H2 d=none->Q (.ref d) (upd H2 d (.tup [.str "peek",.int t,.int ad,.int m'])):=λm' b0 b1 d hd =>
   k (.peek t ad m') _ d ((z.trans s2).trans (aw hd)) ((z.trans s2).free hd) ae #[lt',qg b0 b1,(pL a0 a1 b0 b1).1,(pL a0 a1 b0 b1).2] trivial
  show#[0,_,0,rfl,0,fN (λc1=>#[_,0,rfl,0,fN (λc2=>?_) (λc2=>?_)]) (λc1=>#[0,bw ?_])]
  .show#[0,_,0,mV,ac _ ?_ ?_]<;>split<;>omega
  .show#[0,mV,ac _ O S]
  .show#[0,mV,ac _ O S]
 show oK λ_ I G=>?_;show#[0,_,0,rfl,0,rD (λ_=>I _ ?_) (λ_=>G _ ?_)]
 .show#[0,0,0,λad H1 z a0 a1=>#[0,_,0,rfl,#[aq,aq],0,λcs H2 c hc s2 hn ec=>#[mV,λd hd=>?_]]];let lc:=pL (ad:=ad) (n:=(cs.length:Int)) a0 a1 af af;show k (.hV t ad cs) _ d ((z.trans s2).trans (aw hd)) ((z.trans s2).free hd) #[c,ae,(aw hd) _ _ ec,z.free hn] #[lt',af,lc.1,lc.2] hc
 show#[0,0,0,_,0,rfl,Dk,l,2,.int o,1,bA.of hl,eo,Lb,λd hd=>k (.copy t o) _ d (aw hd) hd ae #[lt',a8] trivial]
inductive kF(vs:List V)(H:Hp)(Q:VK)(e:XK):Prop
 |mk(f u:Addr)(v v':V)(s:Str)(_:vs=[.ref f,.ref u])(_:H f=some (.tup [v,.str s]))(_:H u=some (.tup [v',.str s]))(_:((v=.bB/\v'=.bB)\/∃(l l':Addr)(xs:List Int),v=.ref l/\v'=.ref l'/\H l=some (.lst (xs.map V.int))/\H l'=some (.lst (xs.map V.int))))(_:Q (.bl true) H)
theorem JR:aD ["_law_found","_law_due","_law_cell"] ["_law_found","_law_due"] (au BK):=L2.bL
theorem FA(F:cq K "_law_same" "_law_same" BK f fd)(T:wd mg):↥aG 1 f fd ["_law_found","_law_due"] kF:=by
 show F.eL JR (λac A outer s H vs Q E U h=>?_);let#[f,u,v,v',R,rfl,G,J,S,k]:=h;show#[_,(aj (bJ (PW.pt (lU (aJ sJ (aL aN (pv 0) ah cB) (aL aN (pv 1) ah cB) (aP _)) (kS (aJ sJ (pE x9 (aL aN (pv 0) ah cB) hU (aP _)) (pE x9 (aL aN (pv 1) ah cB) hU (aP _)) (aP _))))) (ar (aO qz)) aR)
  (aj (bJ (aJ x9 (aL aN (pv 1) ah cB) hU (aP _)) (ar (aO qz)) aR)
  (aj (bJ (qq (fE (a9 fm (by rfl) T.xn bE (aa (aL aN (pv 0) ah cB) (aa (f6 (v:=.ty "list") (by rfl) T.list eF rfl) ag))))) (ar (aO qz)) aR)
  (aj (dh Ow rfl (dQ (aL aN (pv 0) ah cB)) (nD 2 JR.nd) (ar (bJ (PW.pt (lU (qq (fE (a9 fm (by rfl) T.xn bE (aa (pv 2) (aa (f6 (v:=.ty "int") (by rfl) T.int BF rfl) ag))))) (kS (fE (a9 fm (by rfl) T.xn bE (aa (pv 2) (aa (f6 (v:=.ty "bool") (by rfl) T.bool Ff rfl) ag))))))) (ar (aO qz)) aR)))
  (ar (aO (pE (HE U.mG) (aL aN (pv 0) ah cB) (aL aN (pv 1) ah cB) (aP _)))))))),?_]
 show oK λ_ L z=>?_;show#[0,f,2,.str R,1,bM.of G,rfl,0,u,2,.str R,1,bM.of J,1,0,?_];rw[decide_eq_true rfl];show bw ?_;show#[0,f,2,v,1,bM.of G,1,0,u,2,v',1,bM.of J,1,rfl,0,?_];rcases S with⟨rfl,rfl⟩|⟨l,I,xs,rfl,rfl,O,ab⟩
 .rw[decide_eq_true rfl];show z _ ?_;show oK λ_ L z=>?_;show#[0,u,2,.bB,1,bM.of J,1,0,?_];rw[decide_eq_true rfl];show L _ k
 .rw[decide_eq_false (show ¬ V.ref l=V.bB by intro y;cases y),decide_eq_false (show ¬ V.ref I=V.bB by intro y;cases y),decide_eq_true rfl];show z _ ?_;show oK λ_ L z=>?_;show#[0,u,2,.ref I,1,bM.of J,1,0,?_];rw[decide_eq_false (show ¬ V.ref I=V.bB by intro y;cases y)];show z _ ?_;show oK λ_ L z=>?_;show#[0,f,2,.ref l,1,bM.of G,rfl,.ref l,"list",_,true,rfl,.lst O,Iu _,true,rfl,z _ ?_];show Kd λ_ jt=>?_;show#[0,f,2,.ref l,1,bM.of G,rfl,l,rfl,#[_,bA.of O],?_];show dg (K:=K) (a:=l) (xs:=xs.map V.int) (λi σ H3=>∃v2:Option V,σ=#v[.ref f,.ref u,v2]/\H3=H) #[0,rfl] (λi σ H3 _ ⟨_,_,e⟩=>by rw[e];show bA.of O) ?_ ?_
  .rintro i x σ H3 hx ⟨v2,rfl,rfl⟩;rw[Od]at hx;let#[q,_,rfl]:=wh.mp hx;show#[0,.int q,"int",_,true,rfl,.int q,Je _,true,rfl,bw ?_];show#[0,.int q,"bool",_,false,rfl,.int q,Jq _,false,rfl,bw ?_];show#[0,rfl]
  .rintro σ H3 ⟨v2,rfl,rfl⟩;show jt _ _ _ ?_;show#[0,f,2,.ref l,1,bM.of G,rfl,0,u,2,.ref I,1,bM.of J,rfl,l,I,_,0,rfl,bA.of O,bA.of ab,fX _,fX _,?_];rw[rL,decide_eq_true rfl];show k
theorem keys_perm{α I:Type}{l:List (Int×α)}{z:List (Int×I)}(L:(l.map (·.1)).Nodup)(J:(z.map (·.1)).Nodup)(h:∀q,look l q=none↔look z q=none):(l.map (·.1)).Perm (z.map (·.1)):=by
 let G:∀{F:Type}{l:List (Int×F)}{q:Int},q∈l.map (·.1)↔¬ look l q=none:=λ{F l q}=>#[λh e=>bW e h,λh=>by
  cases e:look l q with
  |none=>show absurd e h
  |some a=>show Ol.mpr #[_,aI e,rfl]]
 rw[SM L J];intro q;rw[G,G,h q]
theorem BE{l z:List Int}(p:l.Perm z):l.sum=z.sum:=by
 induction p with
 |nil=>rfl
 |cons x _ G=>rw[Qx,Qx,G]
 |swap x y l=>rw[Qx,Qx,Qx,Qx];omega
 |trans _ _ I F=>show I.trans F
structure jj(W:St.bF)(cv:W6)(c:Wc):Prop where
 nw:(W.map (·.1)).Nodup
 nx:∀t x,look W t=some x->(x.t.map (·.1)).Nodup
 nd:(c.map (·.1)).Nodup
 nr:∀t r,look c t=some r->(r.map (·.1)).Nodup
 tk:∀t,look W t=none↔look c t=none
 pg:∀t x r,look W t=some x->look c t=some r->∀q,look x.t q=none↔look r q=none
 ce:∀t r q cs,look c t=some r->look r q=some cs->cs=cv t q
section
variable{W W':St.bF}{cv cv':W6}{c c':Wc}{t o pg m ad n tt:Int}{x y:St.TD}{r:List (Int×List Int)}
theorem jj.got(C:jj W cv c)(h:look c t=some r):∃x,look W t=some x:=by
 cases e:look W t with
 |none=>rwa[(C.tk t).mp e]at h
 |some r=>show#[r,rfl]
theorem jj.len(C:jj W cv c)(hx:look W t=some x)(z:look c t=some r):x.t.length=r.length:=by
 have:=(keys_perm (C.nx t x hx) (C.nr t r z) (C.pg t x r hx z)).length_eq;rw[ti,ti]at this;show this
theorem jj.held(C:jj W cv c):lV c=((St.ents W).length:Int):=by
 rw[<-St.qD];let p:=(keys_perm C.nw C.nd C.tk).symm;let q:=BE (p.map λt:Int=>(((look W t).map λx=>(x.t.length:Int)).getD 0));rw[Pt,Pt]at q;unfold lV St.heldW;rw[show(c.map λx=>(x.2.length:Int))=c.map ((λt:Int=>(((look W t).map λx=>(x.t.length:Int)).getD 0))∘(·.1))from OV λx hx=>by
  let z:=cD C.nd hx;let#[y,F]:=C.got z;change((x.2.length:Nat):Int)=(((look W x.1).map λx=>(x.t.length:Int)).getD 0);rw[F, <-C.len F z];rfl]
 rw[q];show congrArg List.sum (OV λx hx=>?_);change(((look W x.1).map λx=>(x.t.length:Int)).getD 0)=(x.2.t.length:Int);rw[cD C.nw hx];rfl
theorem mem_keys{α:Type}{l:List (Int×α)}{q:Int}:q∈l.map (·.1)↔¬ look l q=none:=#[λh e=>bW e h,λh=>by
 cases e:look l q with
 |none=>show absurd e h
 |some a=>show Ol.mpr #[_,aI e,rfl]]
theorem jj.mem(C:jj W cv c)(hx:look W t=some x)(z:look c t=some r)(q:Int):q∈x.t.map (·.1)↔q∈eQ r:=by
 unfold eQ;rw[mem_keys,mem_keys,C.pg t x r hx z q]
theorem j9{J I:List Int}(h:∀q,q∈J↔q∈I):bq ad n J↔bq ad n I:=by
 unfold bq;constructor
 .rintro(z|⟨z,F|F⟩)
  .show .inl z
  .show .inr #[z,.inl F]
  .show .inr #[z,.inr λy=>F λq G=>(h q).mpr (y q G)]
 .rintro(z|⟨z,F|F⟩)
  .show .inl z
  .show .inr #[z,.inl F]
  .show .inr #[z,.inr λy=>F λq G=>(h q).mp (y q G)]
theorem jj.cells(C:jj W cv c)(F:look c t=some r){ps:List Int}(h:∀q∈ps,q∈eQ r):mU r ps=St.dY (cv t) ps:=by
 unfold mU St.dY;congr 1;show OV λq z=>?_;cases e:look r q with
 |none=>show absurd (h q z) (bW e)
 |some cs=>show C.ce t r q cs F e
theorem BV{α:Type}{l:List (Int×α)}{k:Int}{a:α}(F:(l.map (·.1)).Nodup)(h:look l k=none):((l++[(k,a)]).map (·.1)).Nodup:=by
 rw[Ou];show Pf.mpr #[F,Oo.mpr #[Oh,Pk],λx hx y z=>by
  rw[t6.mp z];rintro rfl;show bW h hx]
theorem nu{α:Type}{l:List (Int×α)}{k:Int}(z:(l.map (·.1)).Nodup):((bh l k).map (·.1)).Nodup:=z.sublist (Q4 _ RC)
theorem jj.room{z:St.CA}{H:Hp}{M:WZ}{a:St.RA}{s:Pg.PS}(R:St.ay z H M a s W):(W.map (·.1)).Nodup/\∀t x,look W t=some x->(x.t.map (·.1)).Nodup:=#[R.nd,λt x h=>(R.tb _ (aI h)).nd]
section
variable(C:jj W cv c)(N:(W'.map (·.1)).Nodup/\∀t x,look W' t=some x->(x.t.map (·.1)).Nodup)
include C N
theorem jj.begin(e:W'=W++[(t,y)])(G:look W t=none)(I:y.t=[]):jj W' cv (c++[(t,[])]):=by
 let F:=(C.tk t).mp G;subst e;show#[N.1,N.2,BV C.nd F,λt' r h=>?_,λt'=>?_,λt' x r h1 h2 q=>?_,λt' r q cs h1 h2=>?_]
 .rw[bU t' F]at h;cases z:t'=t
  .rw[WY z]at h;cases h;show Pk
  .rw[WX z]at h;show C.nr t' r h
 .rw[bU t' F,bU t' G];cases z:t'=t
  .rw[WY z,WY z];show#[nofun,nofun]
  .rw[WX z,WX z];show C.tk t'
 .rw[bU t' F]at h2;rw[bU t' G]at h1;cases z:t'=t
  .rw[WY z]at h1 h2;cases h1;cases h2;rw[I];show#[λ_=>rfl,λ_=>rfl]
  .rw[WX z]at h1 h2;show C.pg t' x r h1 h2 q
 .rw[bU t' F]at h1;cases z:t'=t
  .rw[WY z]at h1;cases h1;cases h2
  .rw[WX z]at h1;show C.ce t' r q cs h1 h2
theorem jj.close(e:W'=bh W t):jj W' cv (bh c t):=by
 subst e;show#[N.1,N.2,nu C.nd,λt' r h=>?_,λt'=>?_,λt' x r h1 h2 q=>?_,λt' r q cs h1 h2=>?_]
 .rw[Tb.cA]at h;cases z:t'=t
  .rw[WY z]at h;cases h
  .rw[WX z]at h;show C.nr t' r h
 .rw[Tb.cA,Tb.cA];cases z:t'=t
  .rw[WY z,WY z];show#[λ_=>rfl,λ_=>rfl]
  .rw[WX z,WX z];show C.tk t'
 .rw[Tb.cA]at h1 h2;cases z:t'=t
  .rw[WY z]at h1;cases h1
  .rw[WX z]at h1 h2;show C.pg t' x r h1 h2 q
 .rw[Tb.cA]at h1;cases z:t'=t
  .rw[WY z]at h1;cases h1
  .rw[WX z]at h1;show C.ce t' r q cs h1 h2
theorem jj.set{F:List (Int×List Int)}(e:W'=aW W t y)(hx:look W t=some x)(G:look c t=some r)(I:(F.map (·.1)).Nodup)(J:∀q,look y.t q=none↔look F q=none)(L:∀q cs,look F q=some cs->cs=cv' t q)(O:∀t' q,t'≠t->cv' t' q=cv t' q):jj W' cv' (aW c t F):=by
 subst e;show#[N.1,N.2,by rw[Tb.gP];show C.nd,λt' r h=>?_,λt'=>?_,λt' x r h1 h2 q=>?_,λt' r q cs h1 h2=>?_]
 .rw[cp t' G]at h;cases z:t'=t
  .rw[WY z]at h;cases h;show I
  .rw[WX z]at h;show C.nr t' r h
 .rw[cp t' G,cp t' hx];cases z:t'=t
  .rw[WY z,WY z];show#[nofun,nofun]
  .rw[WX z,WX z];show C.tk t'
 .rw[cp t' G]at h2;rw[cp t' hx]at h1;cases z:t'=t
  .rw[WY z]at h1 h2;cases h1;cases h2;show J q
  .rw[WX z]at h1 h2;show C.pg t' x r h1 h2 q
 .rw[cp t' G]at h1;cases z:t'=t
  .rw[WY z]at h1;cases h1;rw[z];show L q cs h2
  .rw[WX z]at h1;rw[O t' q z];show C.ce t' r q cs h1 h2
theorem jj.copy(e:W'=W++[(o,y)])(hx:look W t=some x)(I:look c t=some r)(G:look W o=none)(J:∀q,look y.t q=look x.t q):jj W' (St.tD cv t o) (c++[(o,r)]):=by
 let F:=(C.tk o).mp G;let no:¬ t=o:=λz=>(by rwa[z,G]at hx);subst e;show#[N.1,N.2,BV C.nd F,λt' r h=>?_,λt'=>?_,λt' x r h1 h2 q=>?_,λt' r q cs h1 h2=>?_]
 .rw[bU t' F]at h;cases z:t'=o
  .rw[WY z]at h;cases h;show C.nr t _ I
  .rw[WX z]at h;show C.nr t' r h
 .rw[bU t' F,bU t' G];cases z:t'=o
  .rw[WY z,WY z];show#[nofun,nofun]
  .rw[WX z,WX z];show C.tk t'
 .rw[bU t' F]at h2;rw[bU t' G]at h1;cases z:t'=o
  .rw[WY z]at h1 h2;cases h1;cases h2;rw[J q];show C.pg t _ _ hx I q
  .rw[WX z]at h1 h2;show C.pg t' x r h1 h2 q
 .unfold St.tD;rw[bU t' F]at h1;cases z:t'=o
  .rw[WY z]at h1 ⊢;cases h1;show C.ce t _ q cs I h2
  .rw[WX z]at h1 ⊢;show C.ce t' r q cs h1 h2
end
end
theorem pZ{α:Type}(z:List (Int×α))(q:Int):∀l:List (Int×α),look (l++z) q=(look l q).or (look z q)
 | []=>by rw[VZ,ix];rfl
 |x::l=>by
  rw[List.cons_append,aK,aK,pZ z q l];cases e:x.1=q
  .rw[WY e,WY e];rfl
  .rw[WX e,WX e]
theorem tP(q:Int):∀ps:List Int,look (ps.map λq=>(q,z8)) q=if q∈ps then some z8 else none
 | []=>rfl
 |p::ps=>by
  rw[PN,aK,tP q ps];cases e:p=q
  .rw[WY e,WY (by rw[e];show .head _)]
  .rw[WX e];cases m:q∈ps
   .rw[WY m,WY (.tail _ m)]
   .rw[WX m,WX (λz=>(vr.mp z).elim (λy=>e y.symm) m)]
theorem kB(q:Int):∀(ps:List Int)(r:List (Int×List Int)),look (qI r ps) q=if q∈ps then none else look r q
 | [],r=>by rw[WX Oh];rfl
 |p::ps,r=>by
  change look (qI (bh r p) ps) q=_;rw[kB q ps,Tb.cA];cases m:q∈ps
  .rw[WY m,WY (.tail _ m)]
  .rw[WX m];cases e:q=p
   .rw[WY e,WY (by rw[e];show .head _)]
   .rw[WX e,WX (λz=>(vr.mp z).elim e m)]
theorem wo:∀(ps:List Int)(r:List (Int×List Int)),(r.map (·.1)).Nodup->((qI r ps).map (·.1)).Nodup
 | [],_,h=>h
 |p::ps,r,h=>wo ps _ (nu h)
theorem my{r:List (Int×List Int)}(q:Int):∀L:List (Int×List Int),(∀x∈L,x.1∈r.map (·.1))->look (L.foldr (λx c=>aW c x.1 x.2) r) q=(look L q).or (look r q)/\(L.foldr (λx c=>aW c x.1 x.2) r).map (·.1)=r.map (·.1)
 | [],_=>#[1]
 |x::L,h=>by
  let#[h1,h2]:=my q L λy z=>h y (.tail _ z);rw[List.foldr_cons];show#[?_,by rw[Tb.gP,h2]];obtain⟨b,F⟩:∃b,look (L.foldr (λx c=>aW c x.1 x.2) r) x.1=some b:=by
   cases e:look (L.foldr (λx c=>aW c x.1 x.2) r) x.1 with
   |some b=>show#[b,rfl]
   |none=>show absurd (by rw[h2];show h x (.head _)) (bW e)
  rw[cp q F,aK,h1];cases e:q=x.1
  .rw[WY e,WY e.symm];rfl
  .rw[WX e,WX (D0 e)]
theorem vY{r:List (Int×List Int)}{ps:List Int}{z:List (List Int)}:jG r ps z=((ps.zip z).reverse).foldr (λx c=>aW c x.1 x.2) r:=by
 unfold jG;rw[List.foldr_reverse]
section
variable{W W':St.bF}{cv:W6}{c:Wc}{t pg m ad:Int}{x y:St.TD}{r:List (Int×List Int)}(C:jj W cv c)(N:(W'.map (·.1)).Nodup/\∀t x,look W' t=some x->(x.t.map (·.1)).Nodup)
include C N
theorem jj.map(e:W'=aW W t y)(hx:look W t=some x)(G:look c t=some r)(I:∀q∈aE pg m,¬ q∈eQ r)(J:∀q,look y.t q=if q∈aE pg m then some none else look x.t q):jj W' (St.jc cv t (aE pg m)) (aW c t (r++(aE pg m).map λq=>(q,z8))):=by
 show C.set N e hx G ?_ (λq=>?_) (λq cs h=>?_) (λt' q z=>?_)
 .rw[Ou,Pt];let L:(aE pg m).map ((λx:Int×List Int=>x.1)∘λq=>(q,z8))=aE pg m:=(OV λ_ _=>rfl).trans (WO _);rw[L];show Pf.mpr #[C.nr t r G,jJ _ _,λa O b R z=>I b R (by rw[<-z];show O)]
 .rw[J,pZ,tP];cases z:q∈aE pg m
  .rw[WY z,WY z];cases look r q<;>show#[nofun,nofun]
  .rw[WX z,WX z,C.pg t x r hx G q];cases look r q<;>show#[λh=>h,λh=>h]
 .rw[pZ,tP]at h;unfold St.jc;cases z:q∈aE pg m
  .rw[WY z]at h;rw[WY #[rfl,z]];cases F:look r q with
   |none=>rwa[F]at h;rfl
   |some b=>show absurd (mem_keys.mpr (by rw[F];nofun)) (I q z)
  .rw[WX z]at h;rw[WX (λy=>z y.2)];cases F:look r q with
   |none=>rwa[F]at h
   |some b=>rwa[F]at h;show C.ce t r q cs G F
 .unfold St.jc;rw[WX (λy=>z y.1)]
theorem jj.drop(e:W'=aW W t y)(hx:look W t=some x)(F:look c t=some r)(G:∀q,look y.t q=if q∈aE pg m then none else look x.t q):jj W' cv (aW c t (qI r (aE pg m))):=by
 show C.set N e hx F (wo _ _ (C.nr t r F)) (λq=>?_) (λq cs h=>?_) (λ_ _ _=>rfl)
 .rw[G,kB];cases z:q∈aE pg m
  .rw[WY z,WY z];show#[λ_=>rfl,λ_=>rfl]
  .rw[WX z,WX z];show C.pg t x r hx F q
 .rw[kB]at h;cases z:q∈aE pg m
  .rw[WY z]at h;cases h
  .rw[WX z]at h;show C.ce t r q cs F h
theorem jj.hV{cs:List Int}(e:W'=aW W t y)(hx:look W t=some x)(F:look c t=some r)(hb:¬ bq ad cs.length (eQ r))(h1:∀q,¬ q∈aC ad cs.length->look y.t q=look x.t q)(h2:∀q∈aC ad cs.length,∃k,look y.t q=some (some k)):jj W' (St.gn cv t (((aC ad cs.length).zip (St.jq (cv t) ad cs)).reverse)) (aW c t (vc r ad cs)):=by
 let I:=(dy hb).2;let U:=C.cells F I;unfold vc;rw[U,vY];change jj W' (St.gn cv t (((aC ad cs.length).zip (St.jq (cv t) ad cs)).reverse)) (aW c t ((((aC ad cs.length).zip (St.jq (cv t) ad cs)).reverse).foldr (λx c=>aW c x.1 x.2) r));let J:∀z∈((aC ad cs.length).zip (St.jq (cv t) ad cs)).reverse,z.1∈r.map (·.1):=λz R=>I _ (TH (PK.mp R)).1;generalize ((aC ad cs.length).zip (St.jq (cv t) ad cs)).reverse=L at *;let S:∀q,look (L.foldr (λx c=>aW c x.1 x.2) r) q=none↔look r q=none:=λq=>by
  let#[_,G]:=my q L J;let a1:=mem_keys (l:=L.foldr (λx c=>aW c x.1 x.2) r) (q:=q);let a2:=mem_keys (l:=r) (q:=q);rw[G]at a1;show#[λh=>Ox λz=>a1.mp (a2.mpr z) h,λh=>Ox λz=>a2.mp (a1.mpr z) h]
 show C.set N e hx F (by rw[(my 0 L J).2];show C.nr t r F) (λq=>?_) (λq v h=>?_) (λt' q z=>by unfold St.gn;rw[WX z])
 .rw[S q, <-C.pg t x r hx F q];cases z:q∈aC ad cs.length
  .let#[k,O]:=h2 q z;rw[O];show#[nofun,λh=>absurd (I q z) ?_];show bW ((C.pg t x r hx F q).mp h)
  .rw[h1 q z]
 .rw[(my q L J).1]at h;unfold St.gn;rw[WY rfl];cases G:look L q with
  |none=>rw[G]at h;show C.ce t r q v F h
  |some b=>rwa[G]at h;rfl
end
def yb(sp z:Sp):Sp:=λvs H Q E=>sp vs H Q E\/z vs H Q E
abbrev ly(z:gC->Addr):St.XA:=#[z .noTask,z .noPage,z .noRoom,z .taken]
structure Ku(P:vu)(w:Oe)(K:Om)(mg:W9)(base:Heap)(c:St.CA)(cl4:gC->Addr) where
 (fBe fCl fMp fDr fPe fPk fCo fH:Addr)
 (dBe dCl dMp dDr dPe dPk dCo dH:t7)
 cl:oE K c.C
 J9:⇑aG 3 fBe dBe ["self","task"] (yb (St.lP c) (St.m9 c (ly cl4)))
 Nd:Binds K dBe ["self","task"] []
 Nv:Meth K c.C "begin" fBe
 MF:⇑aG 6 fCl dCl ["self","task"] (yb (St.p8 c) (St.nW c (ly cl4)))
 MU:Binds K dCl ["self","task"] []
 MO:Meth K c.C "close" fCl
 Ma:⇑aG 4 fMp dMp ["self","task","page","many"] (yb (St.xg c) (St.sW c (ly cl4)))
 MV:Binds K dMp ["self","task","page","many"] []
 LO:Meth K c.C "map" fMp
 Mg:⇑aG 6 fDr dDr ["self","task","page","many"] (yb (St.kX c) (St.qf c (ly cl4)))
 Ml:Binds K dDr ["self","task","page","many"] []
 Mf:Meth K c.C "drop" fDr
 Kg:⇑aG 8 fPe dPe ["self","task","address","many"] (yb (St.uB c) (St.qu c (ly cl4)))
 NB:Binds K dPe ["self","task","address","many"] []
 LQ:Meth K c.C "peek" fPe
 Nh:⇑aG 10 fPk dPk ["self","task","address","cells"] (yb (St.uk K c) (St.p6 K c (ly cl4)))
 MX:Binds K dPk ["self","task","address","cells"] []
 Nx:Meth K c.C "poke" fPk
 Jo:⇑aG 5 fCo dCo ["self","task","other"] (yb (St.tX c) (St.qN c (ly cl4)))
 LV:Binds K dCo ["self","task","other"] []
 LW:Meth K c.C "copy" fCo
 GH:↥aG 2 fH dH ["self"] (St.gY c)
 bH:Binds K dH ["self"] []
 mH:Meth K c.C "held" fH
structure rC(c0:St.CA)(H:Hp)(M:WZ)(a:St.RA)(s:Pg.PS)(W:St.bF)(cv:W6)(c:Wc):Prop where
 R:St.ay c0 H M a s W
 ri:Pg.RI s (St.ents W)
 cw:St.Cv s W cv
 C:jj W cv c
theorem rC.same{z:St.CA}{H H':Hp}{M:WZ}{a:St.RA}{s:Pg.PS}{W:St.bF}{cv:W6}{c:Wc}(h:rC z H M a s W cv c)(e:aQ H H'):rC z H' M a s W cv c:=#[h.R.same e,h.ri,h.cw,h.C]
inductive C7(c0:St.CA)(cl4:gC->Addr)(vs:List V)(H:Hp)(Q:VK)(E:XK):Prop
 |mk(M:WZ)(a:St.RA)(s:Pg.PS)(W:St.bF)(cv:W6)(c:Wc)(d:Addr)(D:gM)(_:vs=[.ref a.rp,.ref d])(_:rC c0 H M a s W cv c)(_:W.length<=1000)(_:St.bK s<=400000)(_:gr H d D)(_:Lg D)(_:∀X,Due (St.bK s) c D X->∀H',aQ H H'->E (.ref (cl4 X)) none H')(_:∀(H':Hp)(M':WZ)(s':Pg.PS)(W':St.bF)(cv':W6)(c':Wc)(v:V),Good (St.bK s) c D c'->rC c0 H' M' a s' W' cv' c'->St.Step H M (a.own W) H' M' (a.own W')->(∀b,(s'.ow b).length=(s.ow b).length)->W'.length<=W.length+1->Tells c D v H H'->(∀l,v=.ref l->∀o,St.ay c0 (upd H' l o) M' a s' W'/\St.Step H M (a.own W) (upd H' l o) M' (a.own W'))->Q v H')
theorem HJ{ad n:Int}{G:List Int}(h:¬ bq ad n G):∃k:Nat,n=k/\k<=512:=by
 let I:¬ n<0:=λz=>h (.inl z);show#[n.toNat,af,?_];cases z:0<n
 .let h1:¬ aX (ed ad) (dB ad n):=λy=>h (.inr #[z,.inl y]);let h2:¬ (ed ad<0):=λy=>h1 (.inr (.inl y));let F:¬ (64<ed ad+dB ad n):=λy=>h1 (.inr (.inr y));unfold ed at h2 F;unfold dB at F;omega
 .omega
theorem HX{f:Addr}{c0:St.CA}{U:gC->Addr}{fd:t7}(F:cq K "_law_do" "_law_do" LJ f fd)(M:Ku P w K mg base c0 U) :
  ⇑aG 11 f fd ["_law_rooms","_law_deed_here"] (C7 c0 U):=by
 show F.gD J2 (λas A outer s H vs Q E hr h=>?_);let#[J,a,s',W,cv,c,d,D,rfl,G,lw,lt,hd,lg,kE,kQ]:=h;show#[_,(ax (cG (aJ cK (aL aN (pv 1) ah cB) br (aP _)) (bt (dU (cO (pv 0) M.cl M.Nv M.J9 (hr.mono aq) rfl M.Nd .nil (aa (aL aN (pv 1) ah cB) ag)))) bN)
  (ax (cG (aJ cK (aL aN (pv 1) ah cB) br (aP _)) (bt (dU (cO (pv 0) M.cl M.MO M.MF (hr.mono aq) rfl M.MU .nil (aa (aL aN (pv 1) ah cB) ag)))) bN)
  (ax (cG (aJ cK (aL aN (pv 1) ah cB) br (aP _)) (bt (dU (cO (pv 0) M.cl M.LO M.Ma (hr.mono aq) rfl M.MV .nil (aa (aL aN (pv 1) ah cB) (aa (aL aN (pv 1) ah cB) (aa (aL aN (pv 1) ah cB) ag)))))) bN)
  (ax (cG (aJ cK (aL aN (pv 1) ah cB) br (aP _)) (bt (dU (cO (pv 0) M.cl M.Mf M.Mg (hr.mono aq) rfl M.Ml .nil (aa (aL aN (pv 1) ah cB) (aa (aL aN (pv 1) ah cB) (aa (aL aN (pv 1) ah cB) ag)))))) bN)
  (ax (cG (aJ cK (aL aN (pv 1) ah cB) br (aP _)) (bt (dU (cO (pv 0) M.cl M.LQ M.Kg (hr.mono aq) rfl M.NB .nil (aa (aL aN (pv 1) ah cB) (aa (aL aN (pv 1) ah cB) (aa (aL aN (pv 1) ah cB) ag)))))) bN)
  (ax (cG (aJ cK (aL aN (pv 1) ah cB) br (aP _)) (bt (dU (cO (pv 0) M.cl M.Nx M.Nh (hr.mono aq) rfl M.MX .nil (aa (aL aN (pv 1) ah cB) (aa (aL aN (pv 1) ah cB) (aa (aL aN (pv 1) ah cB) ag)))))) bN)
  (bt (dU (cO (pv 0) M.cl M.LW M.Jo (hr.mono aq) rfl M.LV .nil (aa (aL aN (pv 1) ah cB) (aa (aL aN (pv 1) ah cB) ag))))))))))),?_]
 let#[dx,h1]:=id G.R.ob;let no:∀m:Str,¬ m = "rooms" -> ¬ m = "total" -> ¬ m = "paging" -> (St.gv a.A.pg (St.bK s') a.rd).lookup m=none:=λm=>St.iD _ _ _;let C:=G.C;let el:((St.ents W).length:Int)<=St.bK s':=by
  have:=G.ri.rm;unfold St.bK;omega
 let wn:∀{t:Int},look c t=none->look W t=none:=λ{t} h=>(C.tk t).mpr h;cases D with
 |begin t =>
  let hd:H d=some (.tup [.str "begin",.int t]):=hd;show#[0,d,2,.str "begin",1,bM.of hd,1,0,?_];rw[decide_eq_true rfl];show eO ?_;show#[0,a.rp,dx,0,h1,no "begin" ak ak ak,0,d,2,.int t,1,bM.of hd,4];cases e:look c t with
  |some r =>
   let#[x,hx]:=C.got e;show .inr #[J,a,s',W,t,x,rfl,G.R,lg,hx,kE .taken #[#[r,e],rfl] _ (aQ.refl _)]
  |none =>
   let hn:=wn e;show .inl #[J,a,s',W,t,rfl,G.R,hn,lw,λH1 M1 y hy L ab=>kQ H1 M1 s' _ cv _ _ #[e,rfl] #[L,by rw[St.pO,hy];change Pg.RI s' (St.ents W++[]);rw[QS];show G.ri,λt' x h q en he=>by
    rw[bU t' hn]at h;cases z:t'=t
    .rw[WY z]at h;cases h;rwa[hy]at he
    .rw[WX z]at h;show G.cw t' x h q en he,C.begin (jj.room L) rfl hn hy] ab (λ_=>rfl) (by rw[Oj];show G0 _) rfl nofun]
 |close t =>
  let hd:H d=some (.tup [.str "close",.int t]):=hd;show#[0,d,2,.str "close",1,bM.of hd,1,0,?_];rw[decide_eq_false (show ¬ V.str "close" = V.str "begin" from ks_ne ak)];show bw ?_;show#[0,d,2,.str "close",1,bM.of hd,1,0,?_];rw[decide_eq_true rfl];show eO ?_;show#[0,a.rp,dx,0,h1,no "close" ak ak ak,0,d,2,.int t,1,bM.of hd,4];cases e:look c t with
  |none=>show .inr #[J,a,s',W,t,rfl,G.R,lg,wn e,kE .noTask #[e,rfl] _ (aQ.refl _)]
  |some r =>
   let#[x,hx]:=C.got e;show .inl #[J,a,s',W,cv,t,x,rfl,G.R,G.ri,G.cw,hx,λH1 M1 I L ac am ab ao=>kQ H1 M1 I _ cv _ _ #[#[r,e],rfl] #[L,ac,am,C.close (jj.room L) rfl] ab ao (Oy (RE _ _) (RT _)) rfl nofun]
 |map t pg m =>
  let hd:H d=some (.tup [.str "map",.int t,.int pg,.int m]):=hd;let#[O,S,g3]:=lg;show#[0,d,2,.str "map",1,bM.of hd,1,0,?_];rw[decide_eq_false (show ¬ V.str "map" = V.str "begin" from ks_ne ak)];show bw ?_;show#[0,d,2,.str "map",1,bM.of hd,1,0,?_];rw[decide_eq_false (show ¬ V.str "map" = V.str "close" from ks_ne ak)];show bw ?_;show#[0,d,2,.str "map",1,bM.of hd,1,0,?_];rw[decide_eq_true rfl];show eO ?_;show#[0,a.rp,dx,0,h1,no "map" ak ak ak,0,d,2,.int t,1,bM.of hd,rfl,0,d,2,.int pg,1,bM.of hd,rfl,0,d,2,.int m,1,bM.of hd,4];cases e:look c t with
  |none=>show .inr #[J,a,s',W,t,pg,m,U .noTask,rfl,G.R,lw,af,O,S,g3,(.inl #[wn e,rfl]),λH1 I=>kE .noTask (.inl #[e,rfl]) H1 I]
  |some r =>
   let#[x,hx]:=C.got e;let hm:=C.mem hx e;cases h:aX pg m
   .show .inr #[J,a,s',W,t,pg,m,U .noPage,rfl,G.R,lw,af,O,S,g3,(.inr #[x,hx,.inl #[h,rfl]]),λH1 I=>kE .noPage (.inr #[r,e,.inl #[h,rfl]]) H1 I]
   cases h2:∃q∈aE pg m,q∈eQ r
   .let#[q,hq,hk]:=h2;show .inr #[J,a,s',W,t,pg,m,U .taken,rfl,G.R,lw,af,O,S,g3,(.inr #[x,hx,.inr (.inl #[h,#[q,hq,mem_keys.mp ((hm q).mpr hk)],rfl])]),λH1 I=>kE .taken (.inr #[r,e,.inr (.inl #[h,#[q,hq,hk],rfl])]) H1 I]
   let h3:∀q∈aE pg m,¬ q∈eQ r:=λq hq hk=>h2 #[q,hq,hk];let h5:∀q∈aE pg m,look x.t q=none:=λq hq=>Ox λz=>h3 q hq ((hm q).mp (mem_keys.mpr z));cases h4:St.bK s'<lV c+m
   .show .inr #[J,a,s',W,t,pg,m,U .noRoom,rfl,G.R,lw,af,O,S,g3,(.inr #[x,hx,.inr (.inr #[h,h5,by rw[<-C.held];show h4,rfl])]),λH1 I=>kE .noRoom (.inr #[r,e,.inr (.inr #[h,h3,h4,rfl])]) H1 I]
   .show .inl #[J,a,s',W,cv,t,pg,m,x,rfl,G.R,G.ri,G.cw,lw,hx,h,h5,by rw[<-C.held];omega,λH1 M1 y L ac am hy ab=>kQ H1 M1 s' _ _ _ _ #[r,e,h,h3,h4,rfl] #[L,ac,am,C.map (jj.room L) rfl hx e h3 hy] ab (λ_=>rfl) (by rw[Tb.jV];show RT _) rfl nofun]
 |drop t pg m =>
  let hd:H d=some (.tup [.str "drop",.int t,.int pg,.int m]):=hd;let#[O,S,g3]:=lg;show#[0,d,2,.str "drop",1,bM.of hd,1,0,?_];rw[decide_eq_false (show ¬ V.str "drop" = V.str "begin" from ks_ne ak)];show bw ?_;show#[0,d,2,.str "drop",1,bM.of hd,1,0,?_];rw[decide_eq_false (show ¬ V.str "drop" = V.str "close" from ks_ne ak)];show bw ?_;show#[0,d,2,.str "drop",1,bM.of hd,1,0,?_];rw[decide_eq_false (show ¬ V.str "drop" = V.str "map" from ks_ne ak)];show bw ?_;show#[0,d,2,.str "drop",1,bM.of hd,1,0,?_];rw[decide_eq_true rfl];show eO ?_;show#[0,a.rp,dx,0,h1,no "drop" ak ak ak,0,d,2,.int t,1,bM.of hd,rfl,0,d,2,.int pg,1,bM.of hd,rfl,0,d,2,.int m,1,bM.of hd,4];cases e:look c t with
  |none=>show .inr #[J,a,s',W,t,pg,m,U .noTask,rfl,G.R,O,S,g3,.inl #[wn e,rfl],λH1 I=>kE .noTask (.inl #[e,rfl]) H1 I]
  |some r =>
   let#[x,hx]:=C.got e;let hm:=C.mem hx e;cases h:aX pg m\/¬ ∀q∈aE pg m,q∈eQ r
   .show .inr #[J,a,s',W,t,pg,m,U .noPage,rfl,G.R,O,S,g3,.inr #[x,hx,h.imp id λz=>Ox λy=>z λq hq=>(hm q).mp (mem_keys.mpr λw=>y #[q,hq,w]),rfl],λH1 I=>kE .noPage (.inr #[r,e,h,rfl]) H1 I]
   .let h2:¬ aX pg m:=λz=>h (.inl z);let h3:∀q∈aE pg m,q∈eQ r:=Ox λz=>h (.inr z);show .inl #[J,a,s',W,cv,t,pg,m,x,rfl,G.R,G.ri,G.cw,hx,h2,λq hq=>mem_keys.mp ((hm q).mpr (h3 q hq)),λH1 M1 I y L ac am hy ab ao=>kQ H1 M1 I _ cv _ _ #[r,e,h2,h3,rfl] #[L,ac,am,C.drop (jj.room L) rfl hx e hy] ab ao (by rw[Tb.jV];show RT _) rfl nofun]
 |peek t ad n =>
  let hd:H d=some (.tup [.str "peek",.int t,.int ad,.int n]):=hd;let#[O,S,g3,g4]:=lg;show#[0,d,2,.str "peek",1,bM.of hd,1,0,?_];rw[decide_eq_false (show ¬ V.str "peek" = V.str "begin" from ks_ne ak)];show bw ?_;show#[0,d,2,.str "peek",1,bM.of hd,1,0,?_];rw[decide_eq_false (show ¬ V.str "peek" = V.str "close" from ks_ne ak)];show bw ?_;show#[0,d,2,.str "peek",1,bM.of hd,1,0,?_];rw[decide_eq_false (show ¬ V.str "peek" = V.str "map" from ks_ne ak)];show bw ?_;show#[0,d,2,.str "peek",1,bM.of hd,1,0,?_];rw[decide_eq_false (show ¬ V.str "peek" = V.str "drop" from ks_ne ak)];show bw ?_;show#[0,d,2,.str "peek",1,bM.of hd,1,0,?_];rw[decide_eq_true rfl];show eO ?_;show#[0,a.rp,dx,0,h1,no "peek" ak ak ak,0,d,2,.int t,1,bM.of hd,rfl,0,d,2,.int ad,1,bM.of hd,rfl,0,d,2,.int n,1,bM.of hd,4];cases e:look c t with
  |none=>show .inr #[J,a,s',W,t,ad,n,U .noTask,rfl,G.R,O,S,g3,g4,.inl #[wn e,rfl],λH1 I=>kE .noTask (.inl #[e,rfl]) H1 I]
  |some r =>
   let#[x,hx]:=C.got e;let hm:=C.mem hx e;cases h:bq ad n (eQ r)
   .show .inr #[J,a,s',W,t,ad,n,U .noPage,rfl,G.R,O,S,g3,g4,.inr #[x,hx,(j9 hm).mpr h,rfl],λH1 I=>kE .noPage (.inr #[r,e,h,rfl]) H1 I]
   .let#[k,rfl,hk]:=HJ h;show .inl #[J,a,s',W,cv,t,ad,k,x,rfl,G.R,G.ri,G.cw,hx,af,λz=>h ((j9 hm).mp z),λH1 M1 I l L ac am ab ao fl hl wl=>kQ H1 M1 I W cv c _ #[r,e,h,rfl] #[L,ac,am,C] ab ao (RT _) #[l,r,rfl,e,fl,?_] (λl' e' o=>by cases e';show wl o)];unfold wG;rw[C.cells e (dy h).2,P6];show hl
 |hV t ad cs =>
  let#[ca,hd,hc]:=hd;let#[O,S,g3,g4]:=lg;show#[0,d,2,.str "poke",1,bM.of hd,1,0,?_];rw[decide_eq_false (show ¬ V.str "poke" = V.str "begin" from ks_ne ak)];show bw ?_;show#[0,d,2,.str "poke",1,bM.of hd,1,0,?_];rw[decide_eq_false (show ¬ V.str "poke" = V.str "close" from ks_ne ak)];show bw ?_;show#[0,d,2,.str "poke",1,bM.of hd,1,0,?_];rw[decide_eq_false (show ¬ V.str "poke" = V.str "map" from ks_ne ak)];show bw ?_;show#[0,d,2,.str "poke",1,bM.of hd,1,0,?_];rw[decide_eq_false (show ¬ V.str "poke" = V.str "drop" from ks_ne ak)];show bw ?_;show#[0,d,2,.str "poke",1,bM.of hd,1,0,?_];rw[decide_eq_false (show ¬ V.str "poke" = V.str "peek" from ks_ne ak)];show bw ?_;show#[0,d,2,.str "poke",1,bM.of hd,1,0,?_];rw[decide_eq_true rfl];show eO ?_;show#[0,a.rp,dx,0,h1,no "poke" ak ak ak,0,d,2,.int t,1,bM.of hd,rfl,0,d,2,.int ad,1,bM.of hd,rfl,0,d,2,.ref ca,1,bM.of hd,4];let g5:St.lg (cs.length:Int):=St.Ij af af;cases e:look c t with
  |none=>show .inr #[J,a,s',W,t,ad,ca,cs,U .noTask,rfl,G.R,bA.of hc,O,g5,g3,g4,.inl #[wn e,rfl],λH1 I=>kE .noTask (.inl #[e,rfl]) H1 I]
  |some r =>
   let#[x,hx]:=C.got e;let hm:=C.mem hx e;cases h:bq ad cs.length (eQ r)
   .show .inr #[J,a,s',W,t,ad,ca,cs,U .noPage,rfl,G.R,bA.of hc,O,g5,g3,g4,.inr #[x,hx,(j9 hm).mpr h,rfl],λH1 I=>kE .noPage (.inr #[r,e,h,rfl]) H1 I]
   .show .inl #[J,a,s',W,cv,t,ad,ca,cs,x,rfl,G.R,G.ri,G.cw,hx,bA.of hc,S,λz=>h ((j9 hm).mp z),λH1 M1 I y L ac am y1 y2 ab ao=>kQ H1 M1 I _ _ _ _ #[r,e,h,rfl] #[L,ac,am,C.hV (jj.room L) rfl hx e h y1 y2] ab ao (by rw[Tb.jV];show RT _) rfl nofun]
 |copy t o =>
  let hd:H d=some (.tup [.str "copy",.int t,.int o]):=hd;let#[O,S]:=lg;show#[0,d,2,.str "copy",1,bM.of hd,1,0,?_];rw[decide_eq_false (show ¬ V.str "copy" = V.str "begin" from ks_ne ak)];show bw ?_;show#[0,d,2,.str "copy",1,bM.of hd,1,0,?_];rw[decide_eq_false (show ¬ V.str "copy" = V.str "close" from ks_ne ak)];show bw ?_;show#[0,d,2,.str "copy",1,bM.of hd,1,0,?_];rw[decide_eq_false (show ¬ V.str "copy" = V.str "map" from ks_ne ak)];show bw ?_;show#[0,d,2,.str "copy",1,bM.of hd,1,0,?_];rw[decide_eq_false (show ¬ V.str "copy" = V.str "drop" from ks_ne ak)];show bw ?_;show#[0,d,2,.str "copy",1,bM.of hd,1,0,?_];rw[decide_eq_false (show ¬ V.str "copy" = V.str "peek" from ks_ne ak)];show bw ?_;show#[0,d,2,.str "copy",1,bM.of hd,1,0,?_];rw[decide_eq_false (show ¬ V.str "copy" = V.str "poke" from ks_ne ak)];show bw ?_;show#[0,a.rp,dx,0,h1,no "copy" ak ak ak,0,d,2,.int t,1,bM.of hd,rfl,0,d,2,.int o,1,bM.of hd,4];cases e:look c t with
  |none=>show .inr #[J,a,s',W,t,o,U .noTask,rfl,G.R,lw,O,S,(.inl #[wn e,rfl]),λH1 I=>kE .noTask (.inl #[e,rfl]) H1 I]
  |some r =>
   let#[x,hx]:=C.got e;let xl:(x.t.length:Int)<=(St.ents W).length:=by
    have:=(St.jZ G.R.nd hx).length_eq;rw[Oj]at this;let e2:(St.vx x.t).length=x.t.length:=ti _;omega
   cases e2:look c o with
   |some y =>
    let#[x2,ap]:=C.got e2;show .inr #[J,a,s',W,t,o,U .taken,rfl,G.R,lw,O,S,(.inr #[x,hx,.inl #[by rw[ap];nofun,rfl]]),λH1 I=>kE .taken (.inr #[r,e,.inl #[#[y,e2],rfl]]) H1 I]
   |none =>
    let ho:=wn e2;cases h:St.bK s'<lV c+r.length
    .show .inr #[J,a,s',W,t,o,U .noRoom,rfl,G.R,lw,O,S,(.inr #[x,hx,.inr #[ho,by rw[C.len hx e, <-C.held];show h,af,rfl]]),λH1 I=>kE .noRoom (.inr #[r,e,.inr #[e2,h,rfl]]) H1 I]
    .show .inl #[J,a,s',W,cv,t,o,x,rfl,G.R,G.ri,G.cw,lw,hx,ho,by rw[C.len hx e, <-C.held];omega,λH1 M1 I y hy L ac am ab ao=>kQ H1 M1 I _ _ _ _ #[r,e,e2,h,rfl] #[L,ac,am,C.copy (jj.room L) rfl hx e ho hy] ab ao (by rw[Oj];show G0 _) rfl nofun]
theorem iV{c:St.CA}{H:Hp}{M:WZ}{a:St.RA}{s:Pg.PS}{W:St.bF}(R:St.ay c H M a s W){b:Addr}{xs:List V}(h:H b=some (.tup xs)):¬ a.own W b:=λw=>by
 let#[dx,h1]:=R.pg.ob;let#[cs,h2,_]:=R.pg.fr.hc;let#[I,G,_]:=R.pg.sl.hc;let#[l,z,_]:=R.pg.pd;rcases w with w|w|⟨x,hx,w⟩
 .unfold St.PA.own at w;simp only[vr,Oh,or_false]at w;rcases w with w|w|w|w|w|w|w<;>rw[w]at h
  .rw[h1]at h;cases h
  .rw[R.pg.fr.hw]at h;cases h
  .rw[h2]at h;cases h
  .rw[R.pg.sl.hw]at h;cases h
  .rw[G]at h;cases h
  .rw[z]at h;cases h
  .rw[R.pg.il]at h;cases h
 .rw[w,R.hd]at h;cases h
 .rcases w with w|⟨y,F,w⟩
  .rw[w,(R.tb x hx).at_.hf]at h;cases h
  .rw[w,(R.tb x hx).at_.hd y F]at h;cases h
inductive mz(c0:St.CA)(vs:List V)(H:Hp)(Q:VK)(E:XK):Prop
 |mk(M:WZ)(a:St.RA)(s:Pg.PS)(W:St.bF)(cv:W6)(c:Wc)(d:Addr)(D:gM)(_:vs=[.ref a.rp,.ref d])(_:rC c0 H M a s W cv c)(_:W.length<=1000)(_:St.bK s<=400000)(_:gr H d D)(_:Lg D)(_:∀X,Due (St.bK s) c D X->∀(H':Hp)(T:Addr),aQ H H'->H' T=some (.tup [.bB,.str (wordOf X)])->Q (.ref T) H')(_:∀(H':Hp)(M':WZ)(s':Pg.PS)(W':St.bF)(cv':W6)(c':Wc)(T:Addr)(v:V),Good (St.bK s) c D c'->rC c0 H' M' a s' W' cv' c'->St.Step H M (a.own W) H' M' (a.own W')->(∀b,(s'.ow b).length=(s.ow b).length)->W'.length<=W.length+1->Tells c D v H H'->(∀l,v=.ref l->∀o,St.ay c0 (upd H' l o) M' a s' W'/\St.Step H M (a.own W) (upd H' l o) M' (a.own W'))->H' T=some (.tup [v,.str ""])->Q (.ref T) H')
theorem Bx{H:Hp}{T l:Addr}{x o u:HO}(F:H T=none)(G:H l=some u):aQ (upd H l o) (upd (upd H T x) l o):=λb v e=>by
 cases z:b=l
 .rw[z,ae]at e ⊢;show e
 .rw[ai z]at e ⊢;rw[ai (λy=>by rwa[y,F]at e)];show e
section
theorem Cp{f CK a0 aB:Addr}{O:St.CA}{L:gC->Addr}{fd as ao:t7}(F:cq K "_law_told" "_law_told" zN f fd)(a6:mg "KernelError" = some (.ref CK))(hx:∀X,WD K (.ref (L X)) (.ref CK)=some true)
  (a4:⇑aG 11 a0 as ["_law_rooms","_law_deed_here"] (C7 O L)) (ab:Def K mg "_law_do" a0 as ["_law_rooms","_law_deed_here"])
  (a5:∀hx:Addr,wF hx P w K mg base 1 aB ao ["_law_caught"] (tW L hx)) (ac:Def K mg "_law_word" aB ao ["_law_caught"]):↥aG 12 f fd ["_law_rooms","_law_deed_here"] (mz O):=by
 show F.eL lR (λa7 A outer s H vs Q E hr h=>?_);let#[MM,a,s',W,cv,c,d,D,rfl,R0,lw,lt,hd,lg,kE,kQ]:=h;let hs:=HC;show#[_,(aj (cV 2 lR.nd hU)
  (aj (cV 3 lR.nd br)
  (aj (y8 rfl rfl rfl rfl a6 lR.nd (i:=4) rfl rfl (bt (rh 2 lR.nd (cy a4 (hr.mono aq) rfl (by rfl) ab.mg ab.kp ab.b .nil (aa (pv 0) (aa (pv 1) ag))))) (λ_=>(ar (cV 3 lR.nd (wL (a5 _) ((hr.mono aq).hand _) (by rfl) ac.mg ac.kp ac.b (aa (pv 4) ag))))))
  (aj (bJ (aJ sJ (aL aN (pv 1) ah cB) br (aP _)) (ar (cV 2 lR.nd hU)) aR)
  (ar (aO (eM (aa (pv 2) (aa (pv 3) ag))))))))),?_]
 let#[kr,S]:=hd.kind;show#[0,0,MM,a,s',W,cv,c,d,D,rfl,R0,lw,lt,hd,lg,λX am H1 G=>#[hx X,λe he=>?_],λH1 M1 G J ap c1 v g I st ln aT tl wl=>?_]
 .show#[0,X,rfl,ae,λH2 s2=>?_];let S2:=(G.trans (aw he)).trans s2;show#[0,d,2,.str (kindOf D),1,bM.of (S2 _ _ S),Cj,rfl,0,?_];show fN (λ_=>?_) (λ_=>?_)
  .show#[0,0,gF,λT z=>kE X am _ T (S2.trans (aw z)) ae]
  .show#[0,0,gF,λT z=>kE X am _ T (S2.trans (aw z)) ae]
 .let k1:=st.off _ _ S (iV R0.R S);show#[0,d,2,.str (kindOf D),1,bM.of k1,Cj,rfl,0,?_];let a3:∀T,H1 T=none->∀x,(∀l,v=.ref l->∀o,St.ay O (upd (upd H1 T x) l o) M1 a G J/\St.Step H MM (a.own W) (upd (upd H1 T x) l o) M1 (a.own J)):=λT z x l e o=>by
   let#[a1,a2]:=wl l e o;let U:∃u,H1 l=some u:=by
    subst e;cases D with
    |peek t ad n'=>let#[l',r,e,h1,h2,h3]:=tl;cases e;show#[_,h3]
    |_=>cases tl
   let#[u,U]:=U;let sm:=Bx (x:=x) (o:=o) z U;show#[a1.same sm,a2.trans (a1.iZ sm)]
  show fN (λc=>?_) (λc=>?_)
  .let ev:v=.bB:=tl.bB ‹c›;subst ev;show#[0,0,gF,λT z=>kQ _ M1 G J ap c1 T .bB g (I.same (aw z)) (st.trans (I.R.iZ (aw z))) ln aT (tl.same (aw z)) nofun ae]
  .show#[0,0,gF,λT z=>kQ _ M1 G J ap c1 T v g (I.same (aw z)) (st.trans (I.R.iZ (aw z))) ln aT (tl.same (aw z)) (a3 T z _) ae]
variable{c:St.CA}{H H':Hp}{M M' B:WZ}{a a2:St.RA}{s s2 s2':Pg.PS}{W W2 W2':St.bF}
theorem Mw(R:St.ay c H M a s W)(o:St.Off B H H')(F:∀b,B b->M b/\¬ a.own W b)(G:∀{b C dx fs},H b=some (.ins C dx fs)->C=c.C\/C=c.S\/C=c.T->¬ B b)(O:∀b xs,H b=some (.tup xs)->¬ B b)(hM:∀b,M' b->M b\/H b=none)(I:∀b,M b->¬ B b->M' b)(mt:∀b,M' b->H' b≠none):St.ay c H' M' a s W:=by
 let#[dx,h1]:=R.ob;let#[ac,U]:=R.pg.fr.ob;let#[am,f2]:=R.pg.sl.ob;let J:=G U (.inr (.inl rfl));let L:=G f2 (.inr (.inl rfl));show#[#[dx,o _ _ h1 (G h1 (.inl rfl))],R.pg.move o (λb z=>(F b z).1) hM (λb z y=>(F b y).2 (.inl z)) J L O,#[R.ok.ds,λb z=>I b (R.ok.mm b z) λq=>?_],mt,o _ _ R.hd (λz=>(F _ z).2 (.inr (.inl rfl))),R.nd,λx hx=>?_,λx hx b z=>#[I b (R.dm x hx b z).1 λq=>(F b q).2 (.inr (.inr #[x,hx,z])),(R.dm x hx b z).2],R.np,R.dj,I _ R.EM (λz=>(F _ z).2 (.inr (.inl rfl))),R.Bf,R.zb]
 .simp only[vr,Oh,or_false]at z;rcases z with z|z|z|z|z|z|z|z|z<;>rw[z]at q
  .show(F _ q).2 (.inl (St.PA.gy 0 rfl))
  .show J q
  .show(F _ q).2 (.inl (St.PA.gy 1 rfl))
  .show(F _ q).2 (.inl (St.PA.gy 2 rfl))
  .show L q
  .show(F _ q).2 (.inl (St.PA.gy 3 rfl))
  .show(F _ q).2 (.inl (St.PA.gy 4 rfl))
  .show(F _ q).2 (.inl (St.PA.gy 5 rfl))
  .show(F _ q).2 (.inl (St.PA.gy 6 rfl))
 .let#[ab,h3]:=(R.tb x hx).at_.ob;show(R.tb x hx).off o (G h3 (.inr (.inr rfl))) (λb z y=>(F b y).2 (.inr (.inr #[x,hx,z]))) O
theorem mh(R:St.ay c H M a s W){b:Addr}(h:a.own W b):(∃dx fs,H b=some (.ins c.P dx fs))\/(∃xs,H b=some (.lst xs))\/∃kvs,H b=some (.dK kvs):=by
 let#[dx,h1]:=R.pg.ob;let#[cs,h2,_]:=R.pg.fr.hc;let#[I,G,_]:=R.pg.sl.hc;let#[l,z,_]:=R.pg.pd;rcases h with w|w|⟨x,hx,w⟩
 .unfold St.PA.own at w;simp only[vr,Oh,or_false]at w;rcases w with w|w|w|w|w|w|w<;>rw[w]
  .show .inl #[2,h1]
  .show .inr (.inl #[_,R.pg.fr.hw])
  .show .inr (.inl #[_,h2])
  .show .inr (.inl #[_,R.pg.sl.hw])
  .show .inr (.inl #[_,G])
  .show .inr (.inr #[_,z])
  .show .inr (.inl #[_,R.pg.il])
 .rw[w];show .inr (.inr #[_,R.hd])
 .rcases w with w|⟨y,F,w⟩
  .rw[w];show .inr (.inr #[_,(R.tb x hx).at_.hf])
  .rw[w];show .inr (.inr #[_,(R.tb x hx).at_.hd y F])
structure Fc(c:St.CA):Prop where
 nc:c.C≠c.P
 ns:c.S≠c.P
 nt:c.T≠c.P
theorem Hs(N:Fc c)(R:St.ay c H M a s W)(R2:St.ay c H M a2 s2 W2)(F:∀b,a2.own W2 b->¬ a.own W b)(st:St.Step H M (a2.own W2) H' M' (a2.own W2'))(G:St.ay c H' M' a2 s2' W2'):St.ay c H' M' a s W/\∀b,a2.own W2' b->¬ a.own W b:=by
 show#[Mw R st.off (λb z=>#[st.om b z,F b z]) (λ{b C dx fs} e k z=>?_) (λb xs e z=>?_) st.mn st.mm G.mt,λb z w=>?_]
 .rcases mh R2 z with⟨_,_,h⟩|⟨_,h⟩|⟨_,h⟩<;>rw[e]at h<;>cases h;rcases k with k|k|k
  .show N.nc k.symm
  .show N.ns k.symm
  .show N.nt k.symm
 .rcases mh R2 z with⟨_,_,h⟩|⟨_,h⟩|⟨_,h⟩<;>rw[e]at h<;>cases h
 .rcases st.on b z with z|z
  .show F b z w
  .show R.mt b (R.dv b w) z
end
def gQ(b:Addr)(Z:bF)(x:Addr):Prop:=x=b\/∃y∈Z,y.2.1=x
def fL{α:Type}(f:Bool->α)(i:Bool)(v:α):Bool->α:=λj=>if j=i then v else f j
theorem cE{α:Type}{f:Bool->α}{i:Bool}{v:α}:fL f i v i=v:=WY rfl
theorem cz{α:Type}{f:Bool->α}{i j:Bool}{v:α}(h:j≠i):fL f i v j=f j:=WX h
structure Qd(c:St.CA)(CP:Addr)(H:Hp)(M:WZ)(a:Bool->St.RA)(s:Bool->Pg.PS)(W:Bool->St.bF)(cv:Bool->Int->Int->List Int)(k:Bool->Wc)(p b:Bool->Addr)(Z:Bool->bF):Prop where
 r:∀i,rC c H M (a i) (s i) (W i) (cv i) (k i)
 d:∀i,cR CP H (p i) (b i) (St.bK (s i)) (Z i)
 oo:∀i j,i≠j->∀x,(a i).own (W i) x->¬ (a j).own (W j) x
 pm:∀i x,gQ (b i) (Z i) x->M x
 po:∀i j x,gQ (b i) (Z i) x->¬ (a j).own (W j) x
 pp:∀i j,i≠j->∀x,gQ (b i) (Z i) x->¬ gQ (b j) (Z j) x
 ao:∀i j x,Fq (Z i) x->¬ (a j).own (W j) x
section
variable{c:St.CA}{CP:Addr}{H H':Hp}{M M':WZ}{a:Bool->St.RA}{s:Bool->Pg.PS}{W:Bool->St.bF}{cv:Bool->Int->Int->List Int}{k:Bool->Wc}{p b:Bool->Addr}{Z:Bool->bF}
theorem Qd.same(q:Qd c CP H M a s W cv k p b Z)(e:aQ H H'):Qd c CP H' M a s W cv k p b Z:=#[λi=>(q.r i).same e,λi=>(q.d i).same e,q.oo,q.pm,q.po,q.pp,q.ao]
theorem Qd.adr(q:Qd c CP H M a s W cv k p b Z){i:Bool}{x:Addr}(h:Fq (Z i) x):∃xs,H x=some (.lst xs):=by
 let#[y,F,z,G,rfl]:=h;show#[_,(((q.d i).R.rm y F).hr z G).1]
theorem Qd.Bu(N:Fc c)(L:CP≠c.P)(q:Qd c CP H M a s W cv k p b Z)(i:Bool){s':Pg.PS}{W':St.bF}{cv':W6}{k':Wc}(R:rC c H' M' (a i) s' W' cv' k')(st:St.Step H M ((a i).own (W i)) H' M' ((a i).own W'))(I:∀b,(s'.ow b).length=((s i).ow b).length) :
  Qd c CP H' M' a (fL s i s') (fL W i W') (fL cv i cv') (fL k i k') p b Z:=by
 let O:St.bK s'=St.bK (s i):=St.yx I;let bs:∀j,j≠i->St.ay c H' M' (a j) (s j) (W j)/\∀x,(a i).own W' x->¬ (a j).own (W j) x:=λj n=>Hs N (q.r j).R (q.r i).R (q.oo i j (D0 n)) st R.R;let ow:∀j x,(a j).own (fL W i W' j) x->(a j).own (W j) x\/H x=none:=λj x h=>by
  cases e:j=i
  .subst e;rw[cE]at h;show st.on x h
  .rw[cz e]at h;show .inl h
 let pl:∀j x,gQ (b j) (Z j) x->∃kvs,H x=some (.dK kvs):=λj x h=>by
  rcases h with h|⟨y,F,h⟩
  .rw[h];show#[_,(q.d j).R.hd]
  .rw[<-h];show#[_,((q.d j).R.rm y F).hd]
 show#[λj=>?_,λj=>?_,λj l n x h1 h2=>?_,λj x h=>?_,λj l x h1 h2=>?_,q.pp,λj l x h1 h2=>?_]
 .by_cases e:j=i
  .subst e;rw[cE,cE,cE,cE];show R
  .rw[cz e,cz e,cz e,cz e];show#[(bs j e).1,(q.r j).ri,(q.r j).cw,(q.r j).C]
 .let J:St.bK (fL s i s' j)=St.bK (s j):=by
   cases e:j=i
   .subst e;rw[cE];show O
   .rw[cz e]
  rw[J];let#[dx,h1]:=(q.d j).ob;show#[#[dx,st.off _ _ h1 λz=>?_],(q.d j).R.zQ st.off (λz=>q.po j i _ (.inl rfl) z) (λy F z=>q.po j i _ (.inr #[y,F,rfl]) z) (λy F u G z=>q.ao j i _ #[y,F,u,G,rfl] z)];rcases mh (q.r i).R z with⟨_,_,h⟩|⟨_,h⟩|⟨_,h⟩<;>rw[h1]at h<;>cases h;show L rfl
 .let a1:(a j).own (W j) x\/H x=none:=ow j x h1;let a2:=ow l x h2;rcases a1 with a1|a1
  .rcases a2 with a2|a2
   .show q.oo j l n x a1 a2
   .show(q.r j).R.mt x ((q.r j).R.dv x a1) a2
  .rcases a2 with a2|a2
   .show(q.r l).R.mt x ((q.r l).R.dv x a2) a1
   .by_cases e:j=i
    .subst e;rw[cz (D0 n)]at h2;show(q.r l).R.mt x ((q.r l).R.dv x h2) a1
    .rw[cz e]at h1;show(q.r j).R.mt x ((q.r j).R.dv x h1) a1
 .show st.mm x (q.pm j x h) (q.po j i x h)
 .rcases ow l x h2 with a2|a2
  .show q.po j l x h1 a2
  .let#[_,e]:=pl j x h1;rwa[e]at a2
 .rcases ow l x h2 with a2|a2
  .show q.ao j l x h1 a2
  .let#[_,e]:=q.adr h1;rwa[e]at a2
theorem Qd.plain(q:Qd c CP H M a s W cv k p b Z)(i:Bool){G:bF}(D:cR CP H' (p i) (b i) (St.bK (s i)) G)(st:cU (b i) H (Z i) H' G){X:WZ}(L:∀x,X x->H x=none/\H' x≠none) :
  Qd c CP H' (λx=>(M x/\¬ gQ (b i) (Z i) x)\/gQ (b i) G x\/X x) a s W cv k p b (fL Z i G):=by
 let pl:∀j x,gQ (b j) (Z j) x->∃kvs,H x=some (.dK kvs):=λj x h=>by
  rcases h with h|⟨y,F,h⟩
  .rw[h];show#[_,(q.d j).R.hd]
  .rw[<-h];show#[_,((q.d j).R.rm y F).hd]
 let pn:∀x,gQ (b i) G x->gQ (b i) (Z i) x\/H x=none:=λx h=>by
  rcases h with h|⟨y,F,h⟩
  .show .inl (.inl h)
  .rcases st.yP y F with⟨u,I,e⟩|e
   .show .inl (.inr #[u,I,e.trans h])
   .rw[h]at e;show .inr e
 let J:∀j x,gQ (b j) (fL Z i G j) x->gQ (b j) (Z j) x\/H x=none:=λj x h=>by
  cases e:j=i
  .subst e;rw[cE]at h;show pn x h
  .rw[cz e]at h;show .inl h
 let al:∀x,gQ (b i) G x->H' x≠none:=λx h z=>by
  rcases h with h|⟨y,F,h⟩
  .rw[h,D.R.hd]at z;cases z
  .rw[<-h,(D.R.rm y F).hd]at z;cases z
 show#[λj=>#[(q.r j).R.Hl (B:=gQ (b i) (Z i)) st.off (λx h=>#[q.pm i x h,q.po i j x h]) (λx h=>.inr (pl i x h)) (λx h=>?_) (λx h n=>.inl #[h,n]) (λx h=>?_),(q.r j).ri,(q.r j).cw,(q.r j).C],λj=>?_,q.oo,λj x h=>?_,λj l x h1 h2=>?_,λj l n x h1 h2=>?_,λj l x h1 h2=>?_]
 .rcases h with h|h|h
  .show .inl h.1
  .rcases pn x h with h|h
   .show .inl (q.pm i x h)
   .show .inr h
  .show .inr (L x h).1
 .rcases h with h|h|h
  .intro z;cases e:H x with
   |none=>show(q.r i).R.mt x h.1 e
   |some u=>rwa[st.off x u e h.2]at z
  .show al x h
  .show(L x h).2
 .by_cases e:j=i
  .subst e;rw[cE];show D
  .rw[cz e];let#[dx,h1]:=(q.d j).ob;show(q.d j).zQ st.off (λz=>?_) (λz=>q.pp i j (D0 e) _ z (.inl rfl)) (λy F z=>q.pp i j (D0 e) _ z (.inr #[y,F,rfl])) (λy F u I z=>?_)
   .let#[_,h]:=pl i _ z;rwa[h1]at h
   .let#[_,h]:=pl i _ z;rwa[(((q.d j).R.rm y F).hr u I).1]at h
 .by_cases e:j=i
  .subst e;rw[cE]at h;show .inr (.inl h)
  .rw[cz e]at h;show .inl #[q.pm j x h,q.pp j i e x h]
 .rcases J j x h1 with h|h
  .show q.po j l x h h2
  .show(q.r l).R.mt x ((q.r l).R.dv x h2) h
 .rcases J j x h1 with a1|a1
  .rcases J l x h2 with a2|a2
   .show q.pp j l n x a1 a2
   .let#[_,e]:=pl j x a1;rwa[e]at a2
  .by_cases e:j=i
   .subst e;rw[cz (D0 n)]at h2;let#[_,e]:=pl l x h2;rwa[e]at a1
   .rw[cz e]at h1;let#[_,e]:=pl j x h1;rwa[e]at a1
 .by_cases e:j=i
  .subst e;rw[cE]at h1;rcases st.rows x h1 with h|h
   .show q.ao j l x h h2
   .show(q.r l).R.mt x ((q.r l).R.dv x h2) h
  .rw[cz e]at h1;show q.ao j l x h1 h2
variable{s s':Pg.PS}{W W':St.bF}{a:St.RA}{l:Addr}
theorem rQ{C q ow co:Addr}{os:List Int}{pg:List (Option (List Int))}(S:St.aU C H M q ow co os pg)(T:St.aU C (upd H l (.tup [])) M q ow co os pg):St.aU C H (λx=>M x\/x=l) q ow co os pg:=by
 let#[h1,h2,cs,I,J]:=S;let#[_,_,L,F,O]:=T;let n:co≠l:=λz=>(by rwa[z,ae]at F);rw[ai n,I]at F;let e:L=cs:=(HO.lst.inj (DD F)).symm;subst e;show#[h1,h2,_,I,?_];clear h1 h2 I F n;let ab:∀{v:V}{x:Option (List Int)},St.dE H M v x->St.dE (upd H l (.tup [])) M v x->St.dE H (λx=>M x\/x=l) v x:=λ{v x} r G=>by
  cases v<;>cases x<;>first|show r|skip
  show#[λz=>z.elim r.1 λz=>?_,r.2];have:=G.2;rwa[z,ae]at this
 induction J with
 |nil=>show .nil
 |cons r t U =>
  cases O with
  |cons G R=>show .cons (ab r G) (U R)
theorem Bi(R:St.ay c H M a s W)(T:St.ay c (upd H l (.tup [])) M a s W)(F:H l≠none):St.ay c H (λx=>M x\/x=l) a s W:=by
 show#[R.ob,#[R.pg.ob,rQ R.pg.fr T.pg.fr,rQ R.pg.sl T.pg.sl,R.pg.il,R.pg.le,R.pg.pd],#[R.ok.ds,λx hx=>.inl (R.ok.mm x hx)],λx hx=>hx.elim (R.mt x) λz=>by rw[z];show F,R.hd,R.nd,R.tb,λx hx b z=>#[.inl (R.dm x hx b z).1,(R.dm x hx b z).2],R.np,R.dj,.inl R.EM,R.Bf,R.zb]
theorem DG{O F:WZ}(st:St.Step H M O H' M' F)(G:H l=none):St.Step H M O H' (λx=>M' x\/x=l) F:=#[st.off,λb h n=>.inl (st.mm b h n),λb h=>h.elim (st.mn b) λz=>.inr (by rw[z];show G),st.on,st.mt,st.om]
end
structure Fl(H:Hp)(M:WZ)(a:Bool->St.RA)(W:Bool->St.bF)(b:Bool->Addr)(Z:Bool->bF)(l:Addr)(xs:List V):Prop where
 al:H l=some (.lst xs)
 hM:M l
 no:∀j,¬ (a j).own (W j) l
 na:∀j,¬ Fq (Z j) l
section
variable{c:St.CA}{CP:Addr}{H H':Hp}{M M':WZ}{a:Bool->St.RA}{s:Bool->Pg.PS}{W:Bool->St.bF}{cv:Bool->Int->Int->List Int}{k:Bool->Wc}{p b:Bool->Addr}{Z:Bool->bF}{l:Addr}{xs ys:List V}
theorem Fl.same(f:Fl H M a W b Z l xs)(e:aQ H H'):Fl H' M a W b Z l xs:=#[e _ _ f.al,f.hM,f.no,f.na]
theorem Fl.np(f:Fl H M a W b Z l xs)(q:Qd c CP H M a s W cv k p b Z)(j:Bool):¬ gQ (b j) (Z j) l:=λz=>by
 have:=f.al;rcases z with z|⟨y,F,z⟩
 .rw[z,(q.d j).R.hd]at this;cases this
 .rw[<-z,((q.d j).R.rm y F).hd]at this;cases this
theorem Qd.wr(q:Qd c CP H M a s W cv k p b Z)(f:Fl H M a W b Z l xs):Qd c CP (upd H l (.lst ys)) M a s W cv k p b Z:=by
 show#[λj=>#[(q.r j).R.Hl (B:=(· = l)) (St.Off.wr rfl) (λx e=>by rw[e];show#[f.hM,f.no j]) (λx e=>.inl #[xs,by rw[e];show f.al]) (λx h=>.inl h) (λx h _=>h) (λx h z=>?_),(q.r j).ri,(q.r j).cw,(q.r j).C],λj=>?_,q.oo,q.pm,q.po,q.pp,q.ao]
 .by_cases e:x=l
  .rw[e,ae]at z;cases z
  .rw[ai e]at z;show(q.r j).R.mt x h z
 .let#[dx,h1]:=(q.d j).ob;show(q.d j).zQ (B:=(· = l)) (λx o e n=>by rw[ai n];show e) (λz=>by rwa[z,f.al]at h1) (λz=>f.np q j (.inl z.symm)) (λy F z=>f.np q j (.inr #[y,F,z])) (λy F u G z=>f.na j #[y,F,u,G,z])
theorem Fl.other{l2:Addr}{o:HO}(f:Fl H M a W b Z l xs)(n:l≠l2):Fl (upd H l2 o) M a W b Z l xs:=#[by rw[ai n];show f.al,f.hM,f.no,f.na]
variable{bK:Int}{c c' c'':Wc}{D:gM}{X Y:gC}
theorem vQ(h:Due bK c D X)(g:Good bK c D c'):False:=by
 cases D with
 |begin t=>let#[#[r,e],_]:=h;rwa[g.1]at e
 |close t=>let#[#[r,e],_]:=g;rwa[h.1]at e
 |map t pg m =>
  let#[r,e,G,I,O,_]:=g;rcases h with⟨h,_⟩|⟨J,F,h⟩
  .rw[h]at e;cases e
  .rw[e]at F;cases F;rcases h with⟨h,_⟩|⟨_,⟨q,R,L⟩,_⟩|⟨_,_,h,_⟩
   .show G h
   .show I q R L
   .show O h
 |drop t pg m =>
  let#[r,e,G,I,_]:=g;rcases h with⟨h,_⟩|⟨J,F,h,_⟩
  .rw[h]at e;cases e
  .rw[e]at F;cases F;show h.elim G λz=>z I
 |peek t ad n =>
  let#[r,e,G,_]:=g;rcases h with⟨h,_⟩|⟨J,F,h,_⟩
  .rw[h]at e;cases e
  .rw[e]at F;cases F;show G h
 |hV t ad cs =>
  let#[r,e,G,_]:=g;rcases h with⟨h,_⟩|⟨J,F,h,_⟩
  .rw[h]at e;cases e
  .rw[e]at F;cases F;show G h
 |copy t o =>
  let#[r,e,G,I,_]:=g;rcases h with⟨h,_⟩|⟨J,F,h⟩
  .rw[h]at e;cases e
  .rw[e]at F;cases F;rcases h with⟨⟨y,h⟩,_⟩|⟨_,h,_⟩
   .rw[G]at h;cases h
   .show I h
theorem FV(h:Due bK c D X)(g:Due bK c D Y):X=Y:=by
 cases D with
 |begin t=>rw[h.2,g.2]
 |close t=>rw[h.2,g.2]
 |map t pg m =>
  rcases h with⟨h,rfl⟩|⟨r,e,h⟩<;>rcases g with⟨g,rfl⟩|⟨F,z,g⟩
  .rfl
  .rw[h]at z;cases z
  .rw[g]at e;cases e
  .rw[e]at z;cases z;rcases h with⟨h,rfl⟩|⟨h1,⟨q,R,J⟩,rfl⟩|⟨h1,h2,h3,rfl⟩<;>rcases g with⟨g,rfl⟩|⟨G,⟨S,I,O⟩,rfl⟩|⟨G,L,U,rfl⟩
   .rfl
   .show absurd h G
   .show absurd h G
   .show absurd g h1
   .rfl
   .show absurd J (L q R)
   .show absurd g h1
   .show absurd O (h2 S I)
   .rfl
 |drop t pg m =>
  rcases h with⟨h,rfl⟩|⟨r,e,h,rfl⟩<;>rcases g with⟨g,rfl⟩|⟨F,z,g,rfl⟩
  .rfl
  .rw[h]at z;cases z
  .rw[g]at e;cases e
  .rfl
 |peek t ad n =>
  rcases h with⟨h,rfl⟩|⟨r,e,h,rfl⟩<;>rcases g with⟨g,rfl⟩|⟨F,z,g,rfl⟩
  .rfl
  .rw[h]at z;cases z
  .rw[g]at e;cases e
  .rfl
 |hV t ad cs =>
  rcases h with⟨h,rfl⟩|⟨r,e,h,rfl⟩<;>rcases g with⟨g,rfl⟩|⟨F,z,g,rfl⟩
  .rfl
  .rw[h]at z;cases z
  .rw[g]at e;cases e
  .rfl
 |copy t o =>
  rcases h with⟨h,rfl⟩|⟨r,e,h⟩<;>rcases g with⟨g,rfl⟩|⟨F,z,g⟩
  .rfl
  .rw[h]at z;cases z
  .rw[g]at e;cases e
  .rcases h with⟨⟨y,h⟩,rfl⟩|⟨h,_,rfl⟩<;>rcases g with⟨⟨y',g⟩,rfl⟩|⟨g,_,rfl⟩
   .rfl
   .rw[g]at h;cases h
   .rw[h]at g;cases g
   .rfl
theorem Cq(h:Good bK c D c')(g:Good bK c D c''):c'=c'':=by
 cases D with
 |begin t=>rw[h.2,g.2]
 |close t=>rw[h.2,g.2]
 |map t pg m=>let#[r,e,_,_,_,h]:=h;let#[F,z,_,_,_,g]:=g;rwa[e]at z;rw[h,g]
 |drop t pg m=>let#[r,e,_,_,h]:=h;let#[F,z,_,_,g]:=g;rwa[e]at z;rw[h,g]
 |peek t ad n=>let#[r,e,_,h]:=h;let#[F,z,_,g]:=g;rw[h,g]
 |hV t ad cs=>let#[r,e,_,h]:=h;let#[F,z,_,g]:=g;rwa[e]at z;rw[h,g]
 |copy t o=>let#[r,e,_,_,h]:=h;let#[F,z,_,_,g]:=g;rwa[e]at z;rw[h,g]
variable{c:St.CA}
theorem Qd.HB(N:Fc c)(I:CP≠c.P)(q:Qd c CP H M a s W cv k p b Z)(i:Bool){s':Pg.PS}{W':St.bF}{cv':W6}{k':Wc}(R:rC c H' M' (a i) s' W' cv' k')(st:St.Step H M ((a i).own (W i)) H' M' ((a i).own W'))(G:∀b,(s'.ow b).length=((s i).ow b).length)(T:St.ay c (upd H' l (.tup [])) M' (a i) s' W')(F:H l=none)(h1:H' l=some (.lst xs)) :
  Qd c CP H' (λx=>M' x\/x=l) a (fL s i s') (fL W i W') (fL cv i cv') (fL k i k') p b Z/\Fl H' (λx=>M' x\/x=l) a (fL W i W') b Z l xs:=by
 let Q:=q.Bu N I i (M':=λx=>M' x\/x=l) #[Bi R.R T (by rw[h1];nofun),R.ri,R.cw,R.C] (DG st F) G;show#[Q,h1,.inr rfl,λj z=>?_,λj z=>?_]
 .by_cases e:j=i
  .subst e;rw[cE]at z;show iV T ae z
  .rw[cz e]at z;show(q.r j).R.mt l ((q.r j).R.dv l z) F
 .let#[_,e]:=q.adr z;rwa[F]at e
theorem Fl.plain(f:Fl H M a W b Z l xs)(q:Qd c CP H M a s W cv k p b Z)(i:Bool){F:bF}(st:cU (b i) H (Z i) H' F){X:WZ}:Fl H' (λx=>(M x/\¬ gQ (b i) (Z i) x)\/gQ (b i) F x\/X x) a W b (fL Z i F) l xs:=by
 let n:=f.np q i;show#[st.off _ _ f.al n,.inl #[f.hM,n],f.no,λj z=>?_];cases e:j=i
 .subst e;rw[cE]at z;rcases st.rows l z with z|z
  .show f.na j z
  .rw[f.al]at z;cases z
 .rw[cz e]at z;show f.na j z
theorem Qd.HD(q:Qd c CP H M a s W cv k p b Z)(i:Bool){F:bF}(D:cR CP H' (p i) (b i) (St.bK (s i)) F)(st:cU (b i) H (Z i) H' F)(G:H l=none)(h1:H' l=some (.lst xs))(I:¬ Fq F l) :
  Qd c CP H' (λx=>(M x/\¬ gQ (b i) (Z i) x)\/gQ (b i) F x\/x=l) a s W cv k p b (fL Z i F)/\Fl H' (λx=>(M x/\¬ gQ (b i) (Z i) x)\/gQ (b i) F x\/x=l) a W b (fL Z i F) l xs:=by
 show#[q.plain i D st λx e=>by rw[e,h1];show#[G,nofun],h1,.inr (.inr rfl),λj z=>(q.r j).R.mt l ((q.r j).R.dv l z) G,λj z=>?_];cases e:j=i
 .subst e;rw[cE]at z;show I z
 .rw[cz e]at z;let#[_,e]:=q.adr z;rwa[G]at e
end
theorem Ca{H:Hp}{a:Addr}{R:bp}(r:cj H a R):R.length<=64:=by
 have:=Tb.EN 64 0 (R.map (·.1)) r.nd λq F=>by
  let#[y,z,rfl]:=Ol.mp F;have:=r.rg y z;omega
 rwa [ti]at this
def ou(H:Hp)(M:WZ)(d:Addr):gM->Prop
 |.hV t ad cs=>∃c,H d=some (.tup [.str "poke",.int t,.int ad,.ref c])/\H c=some (.lst (cs.map V.int))/\¬ M c
 |D=>gr H d D
theorem ou.at_{H:Hp}{M:WZ}{d:Addr}{D:gM}(h:ou H M d D):gr H d D:=by
 cases D with
 |hV t ad cs=>let#[c,h1,h2,_]:=h;show#[c,h1,h2]
 |_=>show h
theorem ou.same{H H':Hp}{M:WZ}{d:Addr}{D:gM}(h:ou H M d D)(s:aQ H H'):ou H' M d D:=by
 cases D with
 |hV t ad cs=>let#[c,h1,h2,z]:=h;show#[c,s _ _ h1,s _ _ h2,z]
 |_=>show s _ _ h
structure Ls(c:St.CA)(CP:Addr)(Kp:Addr->HO->Prop)(H:Hp)(M:WZ)(a:Bool->St.RA)(s:Bool->Pg.PS)(W:Bool->St.bF)(cv:Bool->Int->Int->List Int)(k:Bool->Wc)(p b:Bool->Addr)(Z:Bool->bF)(n:Nat):Prop where
 q:Qd c CP H M a s W cv k p b Z
 e:∀i,fg (Z i)=k i
 lw:∀i,(W i).length<=n
 lt:∀i,St.bK (s i)<=400000
 kp:∀x o,Kp x o->H x=some o/\¬ M x
section
variable{c:St.CA}{CP:Addr}{Kp:Addr->HO->Prop}{H H':Hp}{M M':WZ}{a:Bool->St.RA}{s:Bool->Pg.PS}{W:Bool->St.bF}{cv:Bool->Int->Int->List Int}{k:Bool->Wc}{p b:Bool->Addr}{Z:Bool->bF}{n:Nat}{l d:Addr}{D:gM}
theorem Ls.same(L:Ls c CP Kp H M a s W cv k p b Z n)(e:aQ H H'):Ls c CP Kp H' M a s W cv k p b Z n:=#[L.q.same e,L.e,L.lw,L.lt,λx o h=>#[e _ _ (L.kp x o h).1,(L.kp x o h).2]]
theorem Ls.len(L:Ls c CP Kp H M a s W cv k p b Z n)(i:Bool):(k i).length=(W i).length:=by
 have:=(keys_perm (L.q.r i).C.nw (L.q.r i).C.nd (L.q.r i).C.tk).length_eq;rw[ti,ti]at this;show this.symm
theorem Ls.sz(L:Ls c CP Kp H M a s W cv k p b Z n)(h:n<=1000)(i:Bool):Sz (fg (Z i)) (St.bK (s i)):=by
 show#[by rw[L.e i,L.len i];show Oy (L.lw i) h,λx hx=>?_,by unfold St.bK;show Int.natCast_nonneg _];let#[y,z,rfl]:=Ol.mp hx;change(con y.2.2).length<=64;rw[lJ];show Ca ((L.q.d i).R.rm y z)
theorem Ls.wr(L:Ls c CP Kp H M a s W cv k p b Z n){xs ys:List V}(f:Fl H M a W b Z l xs):Ls c CP Kp (upd H l (.lst ys)) M a s W cv k p b Z n:=#[L.q.wr f,L.e,L.lw,L.lt,λx o h=>#[by rw[ai (λz=>(L.kp x o h).2 (by rw[z];show f.hM))];show(L.kp x o h).1,(L.kp x o h).2]]
inductive LD(c:St.CA)(CP:Addr)(Kp:Addr->HO->Prop)(M:WZ)(a:Bool->St.RA)(s:Bool->Pg.PS)(W:Bool->St.bF)(cv:Bool->Int->Int->List Int)(k:Bool->Wc)(p b:Bool->Addr)(Z:Bool->bF)(n:Nat)(i:Bool)(d:Addr)(D:gM)(H1:Hp)(T1:Addr):Prop
 |due(X:gC)(_:Due (St.bK (s i)) (k i) D X)(_:Ls c CP Kp H1 M a s W cv k p b Z n)(_:H1 T1=some (.tup [.bB,.str (wordOf X)]))(_:gr H1 d D)
 |good(M1:WZ)(s1:Pg.PS)(W1:St.bF)(cv1:W6)(k1:Wc)(v:V)(_:Good (St.bK (s i)) (k i) D k1)(_:Qd c CP H1 M1 a (fL s i s1) (fL W i W1) (fL cv i cv1) (fL k i k1) p b Z)(_:St.bK s1=St.bK (s i))(_:W1.length<=n+1)(_:∀x o,Kp x o->H1 x=some o/\¬ M1 x)(_:(v=.bB/\∀t ad m,D≠.peek t ad m)\/∃t ad m l r,D=.peek t ad m/\v=.ref l/\look (k i) t=some r/\Fl H1 M1 a (fL W i W1) b Z l ((wG r ad m).map V.int))(_:H1 T1=some (.tup [v,.str ""]))(_:gr H1 d D)
theorem GB(N:Fc c)(U:CP≠c.P)(L:Ls c CP Kp H M a s W cv k p b Z n)(hn:n<=1000)(i:Bool)(hd:ou H M d D)(lg:Lg D){Q:VK}{E:XK}(kQ:∀H1 F,LD c CP Kp M a s W cv k p b Z n i d D H1 F->Q (.ref F) H1):mz c [.ref (a i).rp,.ref d] H Q E:=by
 show#[M,a i,s i,W i,cv i,k i,d,D,rfl,L.q.r i,Oy (L.lw i) hn,L.lt i,hd.at_,lg,λX hX H1 F G I=>kQ H1 F (.due X hX (L.same G) I (hd.same G).at_),λH1 M1 G O ab k1 F v g R st S lw tl wl I=>kQ H1 F ?_];let tup:∀x xs,H x=some (.tup xs)->H1 x=some (.tup xs):=λx xs h=>st.off _ _ h (iV (L.q.r i).R h);let keep:∀x o,H x=some o->¬ M x->H1 x=some o/\¬ M1 x:=λx o h m=>#[st.off _ _ h λz=>m ((L.q.r i).R.dv x z),λz=>(st.mn x z).elim m λy=>by rwa[h]at y];let am:gr H1 d D:=by
  cases D with
  |hV t ad cs=>let#[c,h1,h2,h3]:=hd;show#[c,tup _ _ h1,(keep _ _ h2 h3).1]
  |_=>show tup _ _ hd
 let et:=St.yx S;let ac:O.length<=n+1:=Oy lw (Tn (L.lw i));cases J:∃t ad m,D=.peek t ad m
 .let#[t,ad,m,rfl]:=J;let#[l,r,rfl,hr,h0,hl]:=tl;let#[Q1,F1]:=L.q.HB N U i R st S (wl l rfl (.tup [])).1 h0 hl;show .good _ G O ab k1 (.ref l) g Q1 et ac (λx o h=>?_) (.inr #[t,ad,m,l,r,1,hr,F1]) I am;let#[h1,h2]:=L.kp x o h;let#[g1,g2]:=keep x o h1 h2;show#[g1,λz=>z.elim g2 λz=>by rwa[z,h0]at h1]
 .let ev:v=.bB:=by
   cases D with
   |peek t ad m=>show absurd #[t,ad,m,rfl] J
   |_=>show tl
  show .good M1 G O ab k1 v g (L.q.Bu N U i R st S) et ac (λx o h=>keep x o (L.kp x o h).1 (L.kp x o h).2) (.inl #[ev,λt ad m e=>J #[t,ad,m,e]]) I am
inductive Fin(c:St.CA)(CP:Addr)(Kp:Addr->HO->Prop)(a:Bool->St.RA)(p b:Bool->Addr)(n:Nat)(H2:Hp)(T1 T2:Addr):Prop
 |mk(M:WZ)(s:Bool->Pg.PS)(W:Bool->St.bF)(cv:Bool->Int->Int->List Int)(k:Bool->Wc)(Z:Bool->bF)(w:Str)(v1 v2:V)(_:Ls c CP Kp H2 M a s W cv k p b Z (n+1))(_:H2 T1=some (.tup [v1,.str w]))(_:H2 T2=some (.tup [v2,.str w]))(_:(v1=.bB/\v2=.bB)\/∃(l l':Addr)(xs:List Int),v1=.ref l/\v2=.ref l'/\l≠l'/\Fl H2 M a W b Z l (xs.map V.int)/\Fl H2 M a W b Z l' (xs.map V.int))
theorem GW{H1:Hp}{T1:Addr}(L:Ls c CP Kp H M a s W cv k p b Z n)(hn:n<=1000)(i:Bool)(lg:Lg D)(m:LD c CP Kp M a s W cv k p b Z n i d D H1 T1){Q:VK}{E:XK}(kQ:∀H2 F,Fin c CP Kp a p b n H2 T1 F->Q (.ref F) H2):kO CP [.ref (p i),.ref d] H1 Q E:=by
 let sz:=L.sz hn i;let R:=L.e i;let t2:∀{H':Hp}{x:Addr}{xs:List V}{J:bF},cU (b i) H1 (Z i) H' J->cR CP H1 (p i) (b i) (St.bK (s i)) (Z i)->H1 x=some (.tup xs)->H' x=some (.tup xs):=λst D h=>(st.kt D).tup h;cases m with
 |due X hX L1 U hd =>
  show#[p i,b i,d,_,Z i,D,rfl,L1.q.d i,hd,lg,sz,λX' O H2 F s2 h2=>kQ H2 F ?_,λH2 J F v g=>?_]
  .rw[R]at O;have:=FV hX O;subst this;show#[M,s,W,cv,k,Z,2,_,#[(L1.same s2).q,L.e,λj=>Td (L.lw j),L.lt,(L1.same s2).kp],s2 _ _ U,h2,.inl #[1]]
  .rw[R]at g;show(vQ hX g).elim
 |good M1 s1 W1 ap k1 v g G et lw kp hv U hd =>
  let D1:=G.d i;rw[cE,et]at D1;show#[p i,b i,d,_,Z i,D,rfl,D1,hd,lg,sz,λX' O=>?_,λH2 J F v2 I D2 st tl nv h2=>kQ H2 F ?_]
  .rw[R]at O;show(vQ O g).elim
  rw[R]at I;let ek:=Cq I g;let am:cR CP H2 (p i) (b i) (St.bK (fL s i s1 i)) J:=(by rw[cE,et];show D2);let ab:=t2 st D1 U;let pw:∀x o,H1 x=some o->¬ M1 x->H2 x=some o/\¬ gQ (b i) J x:=λx o h m=>#[st.off _ _ h λz=>m (G.pm i x z),λz=>by
   rcases z with z|⟨y,hy,z⟩
   .show m (G.pm i x (.inl z))
   .rcases st.yP y hy with⟨u,hu,e⟩|e
    .show m (G.pm i x (.inr #[u,hu,e.trans z]))
    .rw[z,h]at e;cases e]
  let fe:∀j,fg (fL Z i J j)=fL k i k1 j:=λj=>by
   cases e:j=i
   .subst e;rw[cE,cE];show ek
   .rw[cz e,cz e];show L.e j
  let fw:∀j,(fL W i W1 j).length<=n+1:=λj=>by
   cases e:j=i
   .subst e;rw[cE];show lw
   .rw[cz e];show Td (L.lw j)
  let ft:∀j,St.bK (fL s i s1 j)<=400000:=λj=>by
   cases e:j=i
   .subst e;rw[cE,et];show L.lt j
   .rw[cz e];show L.lt j
  rcases hv with⟨rfl,np⟩|⟨t,ad,m,l,r,rfl,rfl,hr,F1⟩
  .let ev:v2=.bB:=by
    cases D with
    |peek t ad m=>show absurd rfl (np t ad m)
    |_=>show tl
   subst ev;show#[2,2,2,2,_,#[G.plain i am st (X:=λ_=>False) λ_ h=>h.elim,fe,fw,ft,λx o h=>?_],ab,h2,.inl #[1]];let#[h1,h2]:=kp x o h;let#[g1,I]:=pw x o h1 h2;show#[g1,λz=>z.elim (λz=>h2 z.1) λz=>z.elim I id]
  .let#[l',r',rfl,ac,S,ao]:=tl;rwa[R,hr]at ac;let#[Q2,F2]:=G.HD i am st S ao (nv l' rfl);show#[2,2,2,2,_,#[Q2,fe,fw,ft,λx o h=>?_],ab,h2,.inr #[l,l',0,rfl,λz=>?_,F1.plain G i st,F2]]
   .let#[h1,h2]:=kp x o h;let#[g1,I]:=pw x o h1 h2;show#[g1,λz=>z.elim (λz=>h2 z.1) λz=>z.elim I λz=>by rwa[z,S]at h1]
   .rw[<-z,F1.al]at S;cases S
end
abbrev uE:OB:=top 51
inductive qp(c:St.CA)(CP:Addr)(vs:List V)(H:Hp)(Q:VK)(E:XK):Prop
 |mk(Kp:Addr->HO->Prop)(M:WZ)(a:Bool->St.RA)(s:Bool->Pg.PS)(W:Bool->St.bF)(cv:Bool->Int->Int->List Int)(k:Bool->Wc)(p b:Bool->Addr)(Z:Bool->bF)(n:Nat)(i:Bool)(tl:Addr)(ts:List Int)(_:vs=[.ref (a i).rp,.ref (p i),.ref tl])(_:Ls c CP Kp H M a s W cv k p b Z n)(_:n<=600)(_:Kp tl (.lst (ts.map V.int)))(_:ts.length=4)(_:∀t∈ts,Lo t)(_:∀(H':Hp)(M':WZ)(s':Bool->Pg.PS)(W':Bool->St.bF)(cv':Bool->Int->Int->List Int)(k':Bool->Wc)(Z':Bool->bF),Ls c CP Kp H' M' a s' W' cv' k' p b Z' (n+256)->Q (.bl true) H')
inductive Nj(c:St.CA)(CP:Addr)(Kp:Addr->HO->Prop)(a:Bool->St.RA)(p b:Bool->Addr)(n:Nat)(i:Bool)(tl:Addr)(v3:Option V)(j:Nat)(σ:L2.St)(H:Hp):Prop
 |mk(w3 v4 v5:Option V)(M:WZ)(s:Bool->Pg.PS)(W:Bool->St.bF)(cv:Bool->Int->Int->List Int)(k:Bool->Wc)(Z:Bool->bF)(_:σ=#v[.ref (a i).rp,.ref (p i),.ref tl,w3,v4,v5])(_:v3=none\/w3=v3)(_:Ls c CP Kp H M a s W cv k p b Z (n+j))
theorem y6{H:Hp}{Q:VK}{E:XK}{f u:Addr}{v z:V}{s:Str}(h1:H f=some (.tup [v,.str s]))(h2:H u=some (.tup [z,.str s]))(G:(v=.bB/\z=.bB)\/∃(l F:Addr)(xs:List Int),v=.ref l/\z=.ref F/\H l=some (.lst (xs.map V.int))/\H F=some (.lst (xs.map V.int)))(q:Q (.bl true) H):kF [.ref f,.ref u] H Q E:=#[f,u,v,z,s,rfl,h1,h2,G,q]
theorem F7:aD ["_law_one","_law_other","_law_tasks_here","_law_task","_law_page_here","_law_deed_here"] ["_law_one","_law_other","_law_tasks_here"] (au uE):=L2.bL
theorem zU{CP:Addr}{c:St.CA}(F:cq K "_law_walked" "_law_walked" uE f fd)(T:wd mg)(N:Fc c)(nP:CP≠c.P)(ac:↥Df 12 "_law_told" (mz c))(ao:↥Df 5 "_law_told" (kO CP))(am:↥Df 1 "_law_same" kF) :
  ↥aG 13 f fd ["_law_one","_law_other","_law_tasks_here"] (qp c CP):=by
 show F.eL F7 (λaT A outer s H vs Q E z h=>?_);let#[Kp,M,a,s',W,cv,k,p,b,Z,n,i,tl,ts,rfl,L,hn,ab,R,lo,q]:=h;let hs:=HC;show#[_,(aj (dh Ow rfl (dQ (pv 2)) (nD 3 F7.nd) (ar (dh Ow rfl (jU (by rfl) T.range (aa ah ag)) (nD 4 F7.nd) (aj (cV 5 F7.nd (eM (aa br (aa (pv 3) (aa (aA mI ah (pv 4)) (aa ah ag))))))
  (ar (bJ (qq (fE (pc am z az (aa (pc ac z az (aa (pv 0) (aa (pv 5) ag))) (aa (pc ao z az (aa (pv 1) (aa (pv 5) ag))) ag))))) (ar (aO qz)) aR))))))
  (ar (aO qz))),?_]
 show#[0,tl,rfl,#[_,bA.of (L.kp _ _ ab).1],?_];show dg (K:=K) (a:=tl) (xs:=ts.map V.int) (λj=>Nj c CP Kp a p b n i tl none (64*j)) #[2,_,M,s',W,cv,k,Z,rfl,.inl rfl,L] (λj σ H2 _ z0=>by let#[_,_,_,_,_,_,_,_,_,_,_,L2]:=z0;show bA.of (L2.kp _ _ ab).1) ?_ ?_
 .clear L M s' W cv k Z;rintro j x σ H2 hx ⟨I,J,G,M,s',W,cv,k,Z,rfl,_,L⟩;rw[Od]at hx;let#[t,ht,rfl]:=wh.mp hx;let hj:j<4:=(by rw[<-R];show(sN.mp ht).1);let ap:=lo t (NC ht);show#[0,aq,aq,?_];show mO (lo:=0) (n:=(64:Int).toNat) (λm=>Nj c CP Kp a p b (n+64*j) i tl (some (.int t)) m) #[2,_,M,s',W,cv,k,Z,rfl,.inr rfl,L] ?_ ?_
  .clear L;rintro m σ H3 hm ⟨I,J,G,M,s',W,cv,k,Z,rfl,O,L⟩;let O:=O.resolve_left nofun;subst O;let hm:m<64:=hm;show iT λ_ U=>?_;show#[0,0,_,0,rfl,.inl #[aq,aq],mV,λd hd=>U _ _ ?_];clear U;let S:=L.same (aw (X:=.tup [.str "peek",.int t,.int (8*(0+(m:Int))),.int 8]) hd);let aB:ou (upd H3 d (.tup [.str "peek",.int t,.int (8*(0+(m:Int))),.int 8])) M d (.peek t (8*(0+(m:Int))) 8):=ae;let lg:Lg (.peek t (8*(0+(m:Int))) 8):=by
    show#[ap,iz aq aq,3]
    .unfold ed;show iz af af
    .unfold dB;show iz af af
   clear L hd;show Gi λQQ ji je=>?_;show#[0,0,GB N nP S af i aB lg λH4 T1 m4=>#[0,0,?_]];change kO CP [.ref (p i),.ref d] H4 _ E0;show GW S af i lg m4 λH5 T2 f5=>?_;let#[M5,s5,W5,as,k5,Z5,w5,u1,u2,L5,t1,t2,hv]:=f5;change kF [.ref T1,.ref T2] H5 _ E0;show y6 t1 t2 ?_ #[true,rfl,je _ #[2,_,M5,s5,W5,as,k5,Z5,rfl,.inr rfl,L5]];rcases hv with h|⟨l,l',xs,e1,e2,_,f1,f2⟩
   .show .inl h
   .show .inr #[l,l',xs,e1,e2,f1.al,f2.al]
  .rintro σ H3 ⟨I,J,G,M,s',W,cv,k,Z,rfl,_,L⟩;show#[2,_,M,s',W,cv,k,Z,rfl,.inl rfl,?_];let e:n+64*(j+1)=n+64*j+(64:Int).toNat:=(by change n+64*(j+1)=n+64*j+64;omega);rw[e];show L
 .rintro σ H3 ⟨I,J,G,M,s',W,cv,k,Z,rfl,_,L⟩;rw[ti,R]at L;show q H3 M s' W cv k Z L
abbrev xF:OB:=top 49
section
variable{c:St.CA}{CP:Addr}{Kp:Addr->HO->Prop}{H H':Hp}{M M':WZ}{a:Bool->St.RA}{s:Bool->Pg.PS}{W:Bool->St.bF}{cv:Bool->Int->Int->List Int}{k:Bool->Wc}{p b:Bool->Addr}{Z:Bool->bF}{n:Nat}{i:Bool}{t:Int}
theorem Qd.Mr{H1:Hp}{M1 I:WZ}(G:CP≠c.P)(q:Qd c CP H M a s W cv k p b Z)(i j:Bool)(st:St.Step H M ((a i).own (W i)) H1 M1 I):cR CP H1 (p j) (b j) (St.bK (s j)) (Z j):=by
 let#[dx,h1]:=(q.d j).ob;show#[#[dx,st.off _ _ h1 λz=>?_],(q.d j).R.zQ st.off (λz=>q.po j i _ (.inl rfl) z) (λy F z=>q.po j i _ (.inr #[y,F,rfl]) z) (λy F u J z=>q.ao j i _ #[y,F,u,J,rfl] z)];rcases mh (q.r i).R z with⟨_,_,h⟩|⟨_,h⟩|⟨_,h⟩<;>rw[h1]at h<;>cases h;show G rfl
theorem Ls.begun{H1 H2:Hp}{M1:WZ}{y:St.TD}{r:Addr}(N:Fc c)(nP:CP≠c.P)(L:Ls c CP Kp H M a s W cv k p b Z n)(hn:look (W i) t=none)(I:y.t=[])(S:St.ay c H1 M1 (a i) (s i) (W i++[(t,y)]))(st:St.Step H M ((a i).own (W i)) H1 M1 ((a i).own (W i++[(t,y)])))(hr:H1 r=none)(D2:cR CP H2 (p i) (b i) (St.bK (s i)) (Z i++[(t,r,[])]))(o2:Off (· = b i) H1 H2) :
  ∃M2 s2 W2 ab k2 Z2,Ls c CP Kp H2 M2 a s2 W2 ab k2 p b Z2 (n+1)/\W2 i=W i++[(t,y)]/\∀j,j≠i->W2 j=W j:=by
 let F:=L.q.r i;let O:=L.q.Bu N nP i (k':=k i++[(t,[])]) (cv':=cv i) #[S,by rw[St.pO,I];change Pg.RI (s i) (St.ents (W i)++[]);rw[QS];show F.ri,λt' x h q en G=>by
  rw[bU t' hn]at h;cases z:t'=t
  .rw[WY z]at h;cases h;rwa[I]at G
  .rw[WX z]at h;show F.cw t' x h q en G,F.C.begin (jj.room S) rfl hn I] st (λ_=>rfl)
 let s2:cU (b i) H1 (Z i) H2 (Z i++[(t,r,[])]):=cU.add hr (λ_ h=>nomatch h) o2;let Q2:=O.plain i (by rw[cE];show D2) s2 (X:=λ_=>False) λ_ h=>h.elim;show#[2,2,2,#[Q2,λj=>?_,λj=>?_,λj=>?_,λx o h=>?_],cE,λj e=>cz e]
 .by_cases e:j=i
  .subst e;rw[cE,cE,qL,L.e j];rfl
  .rw[cz e,cz e];show L.e j
 .by_cases e:j=i
  .subst e;rw[cE,Oj];show Tn (L.lw j)
  .rw[cz e];show Td (L.lw j)
 .by_cases e:j=i
  .subst e;rw[cE];show L.lt j
  .rw[cz e];show L.lt j
 .let#[h1,h2]:=L.kp x o h;let U:=st.off _ _ h1 λz=>h2 (F.R.dv x z);let J:¬ M1 x:=λz=>(st.mn x z).elim h2 λy=>(by rwa[h1]at y);let nb:x≠b i:=λz=>J (by rw[z];show O.pm i _ (.inl rfl));show#[o2 _ _ U nb,λz=>?_];rcases z with z|z|z
  .show J z.1
  .rcases z with z|⟨u,hu,z⟩
   .show nb z
   .rcases s2.yP u hu with⟨v,hv,e⟩|e
    .show J (O.pm i x (.inr #[v,hv,e.trans z]))
    .rw[z,U]at e;cases e
  .show z
end
inductive ue(K:Om)(c:St.CA)(CP:Addr)(vs:List V)(H:Hp)(Q:VK)(E:XK):Prop
 |mk(Kp:Addr->HO->Prop)(M:WZ)(a:Bool->St.RA)(s:Bool->Pg.PS)(W:Bool->St.bF)(cv:Bool->Int->Int->List Int)(k:Bool->Wc)(p b:Bool->Addr)(Z:Bool->bF)(n:Nat)(i:Bool)(sc:Addr)(ns:List Int)(tl:Addr)(ts:List Int)(_:vs=[.ref sc,.ref (a i).rp,.ref (p i),.ref tl])(_:bA K H sc (ns.map V.int))(_:Ls c CP Kp H M a s W cv k p b Z n)(_:n<=600)(_:Kp tl (.lst ((1::2::ts).map V.int)))(_:W i=[])(_:∀(H':Hp)(M':WZ)(s':Bool->Pg.PS)(W':Bool->St.bF)(cv':Bool->Int->Int->List Int)(k':Bool->Wc)(Z':Bool->bF),Ls c CP Kp H' M' a s' W' cv' k' p b Z' (n+2)->(∀j,j≠i->W' j=W j)->Q .bB H')
inductive NG(c:St.CA)(CP:Addr)(Kp:Addr->HO->Prop)(a:Bool->St.RA)(p b:Bool->Addr)(W0:Bool->St.bF)(n:Nat)(i:Bool)(sc tl:Addr)(m:Int)(j:Nat)(σ:L2.St)(H:Hp):Prop
 |mk(v5:Option V)(M:WZ)(s:Bool->Pg.PS)(W:Bool->St.bF)(cv:Bool->Int->Int->List Int)(k:Bool->Wc)(Z:Bool->bF)(_:σ=#v[.ref sc,.ref (a i).rp,.ref (p i),.ref tl,.int m,v5])(_:Ls c CP Kp H M a s W cv k p b Z (n+j))(_:∀t,look (W i) t≠none->t<1+(j:Int))(_:∀j',j'≠i->W j'=W0 j')
theorem Av:aD ["_law_script","_law_one","_law_other","_law_tasks_here","_law_first","_law_k"] ["_law_script","_law_one","_law_other","_law_tasks_here"] (au xF):=L2.bL
theorem Dc{CP CT:Addr}{c:St.CA}(F:cq K "_law_start" "_law_start" xF f fd)(T:wd mg)(TR:St.rj K mg c)(PC:oE K CP)(N:Fc c)(nP:CP≠c.P)(J9:↥Md 3 c.C "begin" (St.lP c))(a5:⇑Md 2 CP "begin" (kl CP CT)) :
  ↥aG 4 f fd ["_law_script","_law_one","_law_other","_law_tasks_here"] (ue K c CP):=by
 show F.eL Av (λa6 A outer s H vs Q E hr h=>?_);let#[Kp,M,a,s',W,cv,k,p,b,Z,n,i,sc,I,tl,ts,rfl,ac,L,hn,ab,hw,q]:=h;let hs:=HC;show#[_,(aj (cV 4 Av.nd (a9 (lu rfl) (by rfl) T.sum mS (aa (gL iR (pv 0) mx (gE ah)) ag)))
  (ar (dh Ow rfl (jU (by rfl) T.range (aa (aA bR ah (aA bC (aA bo (pv 4) ah) ah)) ag)) (nD 5 Av.nd) (aj (aV (pm (pv 1) TR.cl J9 hr az (aa (aL bT (pv 3) (pv 5) cB) ag)))
  (ar (aV (pm (pv 2) PC a5 hr Ke (aa (aL bT (pv 3) (pv 5) cB) ag)))))))),?_]
 show iT λ_ G=>?_;let ec:jk (I.map V.int) none (some (1:Int))=(I.take 1).map V.int:=Rm.tq (s:=1);show#[0,0,sc,0,ac,λp1 am=>#[p1,I.take 1,rfl,bA.of (by rw[ae,ec]),G _ _ ?_]];clear G;let L1:=L.same (aw (X:=.lst (jk (I.map V.int) none (some (1:Int)))) am);generalize upd H p1 (.lst (jk (I.map V.int) none (some (1:Int))))=H1 at *;generalize (I.take 1).sum=m;let w0:=Pj (m/8) (show(2:Int)≠0 by decide);let w1:=OW (m/8) (show(0:Int)<2 by decide);show#[0,_,0,rfl,#[aq,aq],_,0,rfl,EC,_,0,rfl,0,af,af,?_];show mO (lo:=0) (n:=(1+m/8%2).toNat) (NG c CP Kp a p b W n i sc tl m) #[_,M,s',W,cv,k,Z,rfl,L1,λt h=>absurd (by rw[hw];rfl) h,λ_ _=>rfl] ?_ ?_
 .clear L L1 am ac;rintro j σ H2 hj ⟨v5,M,s2,W2,ap,k2,O,rfl,L2,lo,U⟩;let hj:j<2:=af;let ao:xC ((1::2::ts).map V.int) (0+(j:Int))=some (.int (1+(j:Int))):=by
   unfold xC wY;rw[ti,WY af,WY (by rw[Oq,Oq];omega)]
   match j,hj with
   |0,_=>rfl
   |1,_=>rfl
  let J:look (W2 i) (1+(j:Int))=none:=Ox λz=>(by have:=lo _ z;omega);let#[dx,ho]:=(L2.q.r i).R.ob;show LR λ_ G=>?_;show#[0,(a i).rp,dx,0,ho,St.iD _ _ _ ak ak ak,0,0,tl,2,.int (1+(j:Int)),1,bA.of (L2.kp _ _ ab).1,ao,M,a i,s2 i,W2 i,0,(L2.q.r i).R,J,by have:=L2.lw i;omega,λH3 M3 y hy R3 S=>G _ _ ?_];clear G;let D3:=L2.q.Mr nP i i S;let#[aB,a3]:=id D3.ob;let as:=S.off _ _ (L2.kp _ _ ab).1 λz=>(L2.kp _ _ ab).2 ((L2.q.r i).R.dv _ z);let hz:look (O i) (1+(j:Int))=none:=Hj (by rw[L2.e i];show((L2.q.r i).C.tk _).mp J);show GV λ_ G=>?_;show#[0,p i,aB,0,a3,aS _ _ ak ak,0,0,tl,2,.int (1+(j:Int)),1,bA.of as,ao,?_];change kl CP CT [.ref (p i),.int (1+(j:Int))] H3 _ E0;show w6 (p i) (b i) _ _ (O i) D3 (iz af af) ?_ (λ⟨x,hx⟩=>by rwa[hz]at hx) λ_ H4 r a0 D4 o4=>G _ _ ?_
  .rw[<-qx,L2.e i,L2.len i];have:=L2.lw i;omega
  let#[M4,s4,W4,aT,k4,Z4,L4,e4,a4]:=L2.begun N nP J hy R3 S a0 D4 o4;show#[_,M4,s4,W4,aT,k4,Z4,rfl,L4,λt h=>?_,λj' e=>(a4 j' e).trans (U j' e)];rw[e4,bU t J]at h;cases z:t=1+(j:Int)
  .omega
  .rw[WX z]at h;have:=lo t h;omega
 .rintro σ H2 ⟨v5,M,s2,W2,ap,k2,O,rfl,L2,lo,U⟩;show q H2 M s2 W2 ap k2 O #[L2.q,L2.e,λj=>by have:=L2.lw j;omega,L2.lt,L2.kp] U
abbrev yy:OB:=top 50
inductive tO(vs:List V)(H:Hp)(Q:VK)(E:XK):Prop
 |mk(m:Int)(_:vs=[.int m])(_:∀(nf ns:Nat)(H':Hp)(t:Addr),2<=nf->nf<=40->ns<=60->aQ H H'->H t=none->H' t=some (.tup [.int nf,.int ns])->Q (.ref t) H')
theorem Iq:aD ["_law_first","_law_frames","_law_slots"] ["_law_first"] (au yy):=L2.bL
theorem Bz(F:cq K "_law_sizes" "_law_sizes" yy f fd):↥aG 1 f fd ["_law_first"] tO:=by
 show F.eL Iq (λab A outer s H vs Q E hr h=>?_);let#[m,rfl,k]:=h;show#[_,(aj (cV 1 Iq.nd (aL bT (cm (aa ah (aa ah (aa (aA bR ah (aA bC (aA bo (pv 0) ah) ah)) (aa (aA bR ah (aA bC (aA bo (pv 0) ah) ah)) ag))))) (aA bC (aA bo (pv 0) ah) ah) cB))
  (aj (cV 2 Iq.nd (aL bT (cm (aa ah (aa ah (aa (aA bC (aA bo (pv 0) ah) ah) (aa (aA bC (aA bo (pv 0) ah) ah) ag))))) (aA bC (aA bo (pv 0) ah) ah) cB))
  (ar (aO (eM (aa (pv 1) (aa (pv 2) ag))))))),?_]
 let#[G,O,f1]:=gp (xs:=[2,3,2+m/2%5,2+m/2%39]) (i:=m/10%4) (Pj _ aq) (OW _ aq);let#[z,hs,f2]:=gp (xs:=[0,1,m/40%6,m/40%61]) (i:=m/160%4) (Pj _ aq) (OW _ aq);let bf:2<=G/\G<=40:=by
  simp only[vr,Oh,or_false]at O;omega
 let bs:0<=z/\z<=60:=by
  simp only[vr,Oh,or_false]at hs;omega
 show iT λ_ I=>?_;show#[0,_,0,rfl,#[aq,aq],_,0,rfl,(by change(0:Int)<5;decide),_,0,rfl,0,_,0,rfl,#[aq,aq],_,0,rfl,(by change(0:Int)<39;decide),_,0,rfl,mV,λl0 U=>#[0,_,0,rfl,#[aq,aq],_,0,rfl,Dk,l0,2,.int G,1,bA.of ae,f1,I _ _ ?_]];clear I;let s0:=aw (X:=.lst ([2,3,2+m/2%5,2+m/2%39].map V.int)) U;show iT λ_ I=>?_;show#[0,_,0,rfl,#[aq,aq],_,0,rfl,(by change(0:Int)<6;decide),0,_,0,rfl,#[aq,aq],_,0,rfl,(by change(0:Int)<61;decide),mV,λR S=>#[0,_,0,rfl,#[aq,aq],_,0,rfl,Dk,R,2,.int z,1,bA.of ae,f2,I _ _ ?_]];clear I;let L:=aw (X:=.lst ([0,1,m/40%6,m/40%61].map V.int)) S;show#[0,0,gF,λt J=>?_];let s2:=aw (X:=.tup [.int G,.int z]) J;obtain⟨a,rfl⟩:∃a:Nat,G=a:=#[G.toNat,af];obtain⟨b,rfl⟩:∃b:Nat,z=b:=#[z.toNat,af];show k a b _ t af af af (s0.trans (L.trans s2)) (s0.free (L.free J)) ae
def bb{α:Type}(x y:α):Bool->α:=λi=>if i=true then y else x
section
variable{c:St.CA}{CP:Addr}{H H1 H2 H3 H4:Hp}{M M' M1 M2:WZ}{a a1 a2:St.RA}{s:Pg.PS}{p1 p2 b1 b2:Addr}{W:St.bF}
theorem BX{C q ow co:Addr}{os:List Int}{pg:List (Option (List Int))}(S:St.aU C H M q ow co os pg)(h:∀x∈pg,x=none):St.aU C H M' q ow co os pg:=by
 let#[h1,h2,cs,z,F]:=S;show#[h1,h2,cs,z,?_];clear h1 h2 z;let I:∀{v:V},St.dE H M v none->St.dE H M' v none:=λ{v} r=>by cases v<;>show r
 induction F with
 |nil=>show .nil
 |cons r t G =>
  show .cons ?_ (G λx hx=>h x (.tail _ hx));let e:=h _ (.head _);subst e;show I r
theorem Gr(R:St.ay c H M a s W)(h:∀b,∀x∈s.co b,x=none)(g:∀x,M x->M' x)(al:∀x,M' x->H x≠none):St.ay c H M' a s W :=
 #[R.ob,#[R.pg.ob,BX R.pg.fr (h true),BX R.pg.sl (h false),R.pg.il,R.pg.le,R.pg.pd],#[R.ok.ds,λx hx=>g x (R.ok.mm x hx)],al,R.hd,R.nd,R.tb,λx hx b z=>#[g b (R.dm x hx b z).1,(R.dm x hx b z).2],R.np,R.dj,g _ R.EM,R.Bf,R.zb]
theorem alive{H H':Hp}{x:Addr}(s:aQ H H')(h:H x≠none):H' x≠none:=λz=>by
 cases e:H x with
 |none=>show h e
 |some o=>rwa[s x o e]at z
theorem Mu(R1:St.ay c H1 M1 a1 s [])(I:aQ H1 H2)(R2:St.ay c H2 M2 a2 s [])(f2:∀x,M2 x->H1 x=none)(F:aQ H2 H3)(D1:cR CP H3 p1 b1 (St.bK s) [])(f3:H2 b1=none)(G:aQ H3 H4)(D2:cR CP H4 p2 b2 (St.bK s) [])(S:H3 b2=none)(z:∀b,∀x∈s.co b,x=none)(ri:Pg.RI s []) :
  Qd c CP H4 (λx=>M1 x\/M2 x\/x=b1\/x=b2) (bb a1 a2) (λ_=>s) (λ_=>[]) (λ_ _ _=>[]) (λ_=>[]) (bb p1 p2) (bb b1 b2) (λ_=>[]):=by
 let L:∀x,M1 x->H1 x≠none:=R1.mt;let A2:∀x,M2 x->H2 x≠none:=R2.mt;let al:∀x,(M1 x\/M2 x\/x=b1\/x=b2)->H4 x≠none:=λx h=>by
  rcases h with h|h|h|h
  .show alive (I.trans (F.trans G)) (L x h)
  .show alive (F.trans G) (A2 x h)
  .rw[h];show alive G (by rw[D1.R.hd];nofun)
  .rw[h,D2.R.hd];nofun
 let E1:=Gr (M':=λx=>M1 x\/M2 x\/x=b1\/x=b2) (R1.same (I.trans (F.trans G))) z (λx h=>.inl h) al;let E2:=Gr (M':=λx=>M1 x\/M2 x\/x=b1\/x=b2) (R2.same (F.trans G)) z (λx h=>.inr (.inl h)) al;let J:∀x,a1.own [] x->M1 x:=R1.dv;let U:∀x,a2.own [] x->M2 x:=R2.dv;let ab:∀x,M1 x->¬ M2 x:=λx h h'=>L x h (f2 x h');let ap:¬ M1 b1:=λh=>alive I (L _ h) f3;let ao:¬ M2 b1:=λh=>A2 _ h f3;let as:¬ M1 b2:=λh=>alive (I.trans F) (L _ h) S;let am:¬ M2 b2:=λh=>alive F (A2 _ h) S;let ac:b1≠b2:=λh=>(by rwa[<-h,D1.R.hd]at S);let O:∀i x,gQ (bb b1 b2 i) [] x->x=bb b1 b2 i:=λi x h=>h.elim id λ⟨y,hy,_⟩=>nomatch hy;let C0:jj [] (λ_ _=>[]) []:=#[Pk,λt x h=>(nomatch h),Pk,λt x h=>(nomatch h),λt=>#[λ_=>rfl,λ_=>rfl],λt x r h=>(nomatch h),λt r q cs h=>(nomatch h)];let cw:St.Cv s [] (λ_ _=>[]):=λt x h=>nomatch h;show#[λi=>?_,λi=>?_,λi j n x h1 h2=>?_,λi x h=>?_,λi j x h1 h2=>?_,λi j n x h1 h2=>?_,λi j x h=>?_]
 .cases i
  .show#[E1,ri,cw,C0]
  .show#[E2,ri,cw,C0]
 .cases i
  .show D1.same G
  .show D2
 .cases i<;>cases j
  .show n rfl
  .show ab x (J x h1) (U x h2)
  .show ab x (J x h2) (U x h1)
  .show n rfl
 .rw[O i x h];cases i
  .show .inr (.inr (.inl rfl))
  .show .inr (.inr (.inr rfl))
 .rw[O i x h1]at h2;cases i<;>cases j
  .show ap (J _ h2)
  .show ao (U _ h2)
  .show as (J _ h2)
  .show am (U _ h2)
 .let e1:=O i x h1;let e2:=O j x h2;rw[e1]at e2;cases i<;>cases j
  .show n rfl
  .show ac e2
  .show ac e2.symm
  .show n rfl
 .let#[y,hy,_]:=h;cases hy
end
end Pr
namespace St
open PySem L2
abbrev xT:OB:=inClass (top 14) 0
abbrev xK:OB:=inClass (top 33) 0
def s0(z F:Nat):Pg.PS:=#[λb=>replicate (if b=true then z else F) 0,λb=>replicate (if b=true then z else F) none,λ_=>none,(0),[]]
theorem Kb{F G:Nat}(h:0<F):Pg.RI (s0 F G) []:=by
 let J:∀(b:Bool)(n:Nat)(c:Int),((s0 F G).ow b)[n]?=some c->c=0:=λb n c e=>by
  let e:(replicate (if b=true then F else G) (0:Int))[n]?=some c:=e;show(UX.mp (NC e)).2
 let I:∀n:Nat,(replicate n (0:Int)).sum=0:=λn=>by
  induction n with
  |zero=>rfl
  |succ n L=>rw[PQ,Qx,L];rfl
 show#[#[(λk p e=>by cases e),(λk b n e=>by cases e),(λk j p e=>by cases e),λb n c e=>.inl (J b n c e),λb=>?_,Pk,λk=>#[(λz=>by cases z),(λ⟨n,e⟩=>by cases e)]],Pp _,λe=>?_,(λk z=>by cases z),λk cs c z=>?_,?_,OJ _]
 .change(replicate _ _).length=(replicate _ _).length;rw[PF,PF]
 .have:(replicate F (0:Int)).length=0:=(by rw[show replicate F (0:Int)=[]from e];rfl);rw[PF]at this;omega
 .let#[b,n,e,_]:=z;cases e
 .change(replicate F (0:Int)).sum+(replicate G (0:Int)).sum=0;rw[I,I];rfl
def PA.nine(A:PA):List Addr:=[A.pg,A.fp,A.fo,A.fc,A.sp,A.so,A.sc,A.pd,A.il]
inductive uC(C CS:Addr)(v:List V)(H:Hp)(Q:VK)(e:XK):Prop
 |mk(p dx:Addr)(nf ns:Nat)(_:v=[.ref p,.int nf,.int ns])(_:nf<=60)(_:ns<=60)(_:H p=some (.ins C dx []))(_:∀(H':Hp)(A:PA),A.pg=p->A.nine.Nodup->(∀b∈A.nine,b=p\/H b=none)->(∀M,bZ C CS H' M A (s0 nf ns))->Off (· = p) H H'->Q .bB H')
inductive uH(c:CA)(v:List V)(H:Hp)(Q:VK)(e:XK):Prop
 |mk(p dx:Addr)(nf ns:Nat)(_:v=[.ref p,.int nf,.int ns])(_:nf<=60)(_:ns<=60)(_:0<nf)(_:H p=some (.ins c.C dx []))(_:∀(H':Hp)(M:WZ)(a:RA),a.rp=p->ay c H' M a (s0 nf ns) []->(∀b,M b->H b=none)->Off (· = p) H H'->Q .bB H')
theorem cn{H:Hp}{a b:Addr}{o:HO}(h:upd H a o b=none):b≠a/\H b=none:=by
 cases z:b=a
 .rw[z,ae]at h;cases h
 .rw[ai z]at h;show#[z,h]
theorem jz{C p ow co:Addr}{B:WZ}{os:List Int}{pg:List (Option (List Int))}{H H':Hp}(S:∀M,aU C H M p ow co os pg)(o:Off B H H')(F:¬ B p)(I:¬ B ow)(G:¬ B co):∀M,aU C H' M p ow co os pg:=λM =>
 ((S λb=>M b\/B b).off o (λb z=>.inr z) F I G).less λb z=>.inl z
theorem jL{C CS p dx q ow co:Addr}{fs:List (Str×V)}{os:List Int}{pg:List (Option (List Int))}{H:Hp}(F:H p=some (.ins C dx fs))(S:∀M,aU CS H M q ow co os pg):∀b,b=p\/b=q\/b=ow\/b=co->H b≠none:=by
 intro b z e;let S:=S λ_=>False;let#[I,h2]:=S.ob;let#[_,G,_]:=S.hc;rcases z with z|z|z|z<;>rw[z]at e
 .rw[F]at e;cases e
 .rw[h2]at e;cases e
 .rw[S.hw]at e;cases e
 .rw[G]at e;cases e
theorem pY{C CS:Addr}{H:Hp}{M:WZ}{A:PA}{s:Pg.PS}(G:bZ C CS H M A s):∀b∈A.nine,H b≠none:=by
 intro b z e;unfold PA.nine at z;simp only[vr,Oh,or_false]at z;let#[dx,h1]:=G.ob;let#[_,O]:=G.fr.ob;let#[_,J]:=G.sl.ob;let#[_,I,_]:=G.fr.hc;let#[_,L,_]:=G.sl.hc;let#[l,F,_]:=G.pd;rcases z with z|z|z|z|z|z|z|z|z<;>rw[z]at e
 .rw[h1]at e;cases e
 .rw[O]at e;cases e
 .rw[G.fr.hw]at e;cases e
 .rw[I]at e;cases e
 .rw[J]at e;cases e
 .rw[G.sl.hw]at e;cases e
 .rw[L]at e;cases e
 .rw[F]at e;cases e
 .rw[G.il]at e;cases e
theorem Nc:aD ["self","frames","slots"] ["self","frames","slots"] (au xT):=L2.bL
theorem Bm{f C CS bd:Addr}{fd bV:t7}(F:cq K "__init__" "Paging.__init__" xT f fd)(T:uw K mg C)(MS:Mk K CS bd)(bH:mg "Store" = some (.ref CS))
  (be:↥aG 1 bd bV ["self","many"] (gu CS)) (bz:Binds K bV ["self","many"] []):↥aG 3 f fd ["self","frames","slots"] (uC C CS):=by
 show F.eL Nc (λci A outer s H vs Q E hr h=>?_);let#[p,dx,nf,ns,rfl,n1,n2,hp,k]:=h;show#[_,(aj (fV (pv 0) (iL MS be (hr.mono aq) (by rfl) bH bz .nil az (aa (pv 1) ag)) rfl)
  (aj (fV (pv 0) (iL MS be (hr.mono aq) (by rfl) bH bz .nil az (aa (pv 2) ag)) rfl)
  (aj (fV (pv 0) fG rfl)
  (aj (fV (pv 0) ah rfl)
  (ar (fV (pv 0) (cm ag) rfl)))))),?_]
 show#[0,λfp b7 a0 bl ca=>#[fp,b7,nf,rfl,n1,ae,λS R H1 ac ab ce S1 o1=>#[4]]];let m1:aQ H H1:=λb u e=>o1 b u (by rw[ai (av e a0),ai (av e bl)];show e) (av e a0);let#[q1,ac]:=cn ac;let#[q2,ab]:=cn ab;let ac:=(cn ac).2;let ab:=(cn ab).2;let b6:=m1 _ _ hp;let aB:fp≠p:=D0 (av hp a0);let am:S≠p:=D0 (av hp ac);let as:R≠p:=D0 (av hp ab);clear o1 bl ca;show#[0,p,C,dx,[],rfl,b6,T.cl,T.nF,aq,?_];let o2:Off (· = p) H1 (upd H1 p (.ins C dx (bu "frames" (.ref fp) []))):=Off.wr rfl;let bm:upd H1 p (.ins C dx (bu "frames" (.ref fp) [])) p=some (.ins C dx (bu "frames" (.ref fp) [])):=ae;generalize upd H1 p (.ins C dx (bu "frames" (.ref fp) []))=H2 at *;let S2:=jz S1 o2 aB am as;let O2:Off (· = p) H H2:=λb o e z=>o2 b o (m1 b o e) z;show#[0,λsp bY a6 bn cg=>#[sp,bY,ns,rfl,n2,ae,λso sc H3 ap ao ch S3 o3=>#[4]]];let m3:aQ H2 H3:=λb u e=>o3 b u (by rw[ai (av e a6),ai (av e bn)];show e) (av e a6);let#[q3,ap]:=cn ap;let#[q4,ao]:=cn ao;let ap:=(cn ap).2;let ao:=(cn ao).2;clear o3 bn cg;let aT:∀b,b=p\/b=fp\/b=S\/b=R->H2 b≠none:=jL bm S2;let cc:=jz (B:=λ_=>False) S2 (λb o e _=>m3 b o e) id id id;let b8:=m3 _ _ bm;show#[0,p,C,dx,0,b8,T.cl,T.nS,by change 1<1000;decide,?_];let a8:∀{b},H2 b=none->b≠p/\b≠fp/\b≠S/\b≠R/\H b=none:=λ{b} h=>#[λz=>aT b (.inl z) h,λz=>aT b (.inr (.inl z)) h,λz=>aT b (.inr (.inr (.inl z))) h,λz=>aT b (.inr (.inr (.inr z))) h,by
  cases e:H b with
  |none=>rfl
  |some u=>rwa[O2 b u e λz=>aT b (.inl z) h]at h]
 let#[a1,a2,a3,a4,a5]:=a8 a6;let#[b1,b2,b3,b4,b5]:=a8 ap;let#[c1,c2,c3,c4,c5]:=a8 ao;let o4:Off (· = p) H3 (upd H3 p (.ins C dx (bu "slots" (.ref sp) (bu "frames" (.ref fp) [])))):=Off.wr rfl;let a7:upd H3 p (.ins C dx (bu "slots" (.ref sp) (bu "frames" (.ref fp) []))) p=some (.ins C dx (bu "slots" (.ref sp) (bu "frames" (.ref fp) []))):=ae;generalize upd H3 p (.ins C dx (bu "slots" (.ref sp) (bu "frames" (.ref fp) [])))=H4 at *;let bI:=jz cc o4 aB am as;let bv:=jz S3 o4 a1 b1 c1;let O4:Off (· = p) H H4:=λb o e z=>o4 b o (m3 b o (O2 b o e z)) z;let b0:∀{b},H4 b=none->b≠p/\b≠fp/\b≠S/\b≠R/\b≠sp/\b≠so/\b≠sc/\H b=none:=λ{b} h=>by
  let O:=jL a7 bI;let U:=jL a7 bv;show#[λz=>O b (.inl z) h,λz=>O b (.inr (.inl z)) h,λz=>O b (.inr (.inr (.inl z))) h,λz=>O b (.inr (.inr (.inr z))) h,λz=>U b (.inr (.inl z)) h,λz=>U b (.inr (.inr (.inl z))) h,λz=>U b (.inr (.inr (.inr z))) h,?_];cases e:H b with
  |none=>rfl
  |some u=>rwa[O4 b u e λz=>O b (.inl z) h]at h
 intro I bc;let#[d1,d2,d3,d4,d5,d6,d7,d8]:=b0 bc;show#[0,p,C,dx,0,by rw[ai (D0 d1)];show a7,T.cl,T.nP,by change 2<1000;decide,?_];show#[0,p,C,dx,0,ae,T.cl,T.nL,by change 3<1000;decide,?_];let o7:Off (· = p) H4 (upd (upd (upd H4 I (.dK [])) p (.ins C dx (bu "places" (.ref I) (bu "slots" (.ref sp) (bu "frames" (.ref fp) []))))) p (.ins C dx (bu "last_sheet" (.int 0) (bu "places" (.ref I) (bu "slots" (.ref sp) (bu "frames" (.ref fp) [])))))):=λb o e z=>by
  rw[ai z,ai z,ai (av e bc)];show e
 let ba:upd (upd (upd H4 I (.dK [])) p (.ins C dx (bu "places" (.ref I) (bu "slots" (.ref sp) (bu "frames" (.ref fp) []))))) p (.ins C dx (bu "last_sheet" (.int 0) (bu "places" (.ref I) (bu "slots" (.ref sp) (bu "frames" (.ref fp) []))))) p=some (.ins C dx (bu "last_sheet" (.int 0) (bu "places" (.ref I) (bu "slots" (.ref sp) (bu "frames" (.ref fp) []))))):=ae;let bf:upd (upd (upd H4 I (.dK [])) p (.ins C dx (bu "places" (.ref I) (bu "slots" (.ref sp) (bu "frames" (.ref fp) []))))) p (.ins C dx (bu "last_sheet" (.int 0) (bu "places" (.ref I) (bu "slots" (.ref sp) (bu "frames" (.ref fp) []))))) I=some (.dK []):=(by rw[ai d1,ai d1,ae]);generalize upd (upd (upd H4 I (.dK [])) p (.ins C dx (bu "places" (.ref I) (bu "slots" (.ref sp) (bu "frames" (.ref fp) []))))) p (.ins C dx (bu "last_sheet" (.int 0) (bu "places" (.ref I) (bu "slots" (.ref sp) (bu "frames" (.ref fp) [])))))=H7 at *;let bi:=jz bI o7 aB am as;let bx:=jz bv o7 a1 b1 c1;let O7:Off (· = p) H H7:=λb o e z=>o7 b o (O4 b o e z) z;show#[aq,λG L=>?_];let O:=jL ba bi;let U:=jL ba bx;let i1:G≠p:=λz=>O G (.inl z) L;let i2:G≠fp:=λz=>O G (.inr (.inl z)) L;let i3:G≠S:=λz=>O G (.inr (.inr (.inl z))) L;let i4:G≠R:=λz=>O G (.inr (.inr (.inr z))) L;let i5:G≠sp:=λz=>U G (.inr (.inl z)) L;let i6:G≠so:=λz=>U G (.inr (.inr (.inl z))) L;let i7:G≠sc:=λz=>U G (.inr (.inr (.inr z))) L;let i8:G≠I:=λz=>(by rwa[z,bf]at L);let i9:H G=none:=by
  cases e:H G with
  |none=>rfl
  |some u=>rwa[O7 G u e i1]at L
 show#[0,p,C,dx,0,by rw[ai (D0 i1)];show ba,T.cl,T.nI,by change 4<1000;decide,?_];let o9:Off (· = p) H7 (upd (upd H7 G (.lst [])) p (.ins C dx (dt #[p,fp,S,R,sp,so,sc,I,G] 0))):=λb o e z=>by
  rw[ai z,ai (av e L)];show e
 show k _ #[p,fp,S,R,sp,so,sc,I,G] rfl ?_ ?_ (λM=>#[#[dx,ae],jz bi o9 aB am as M,jz bx o9 a1 b1 c1 M,3,[],?_,Pk,(λx hx=>by cases hx),λ_=>rfl,OJ _]) (λb o e z=>o9 b o (O7 b o e z) z)
 .unfold PA.nine;simp only[Oo,vr,Oh,or_false,not_or,not_false_eq_true,Pk,and_true];show#[#[λh=>aB h.symm,λh=>am h.symm,λh=>as h.symm,λh=>a1 h.symm,λh=>b1 h.symm,λh=>c1 h.symm,λh=>d1 h.symm,λh=>i1 h.symm],#[λh=>q1 h.symm,λh=>q2 h.symm,λh=>a2 h.symm,λh=>b2 h.symm,λh=>c2 h.symm,λh=>d2 h.symm,λh=>i2 h.symm],#[λh=>(D0 ce) h.symm,λh=>a3 h.symm,λh=>b3 h.symm,λh=>c3 h.symm,λh=>d3 h.symm,λh=>i3 h.symm],#[λh=>a4 h.symm,λh=>b4 h.symm,λh=>c4 h.symm,λh=>d4 h.symm,λh=>i4 h.symm],#[λh=>q3 h.symm,λh=>q4 h.symm,λh=>d5 h.symm,λh=>i5 h.symm],#[λh=>(D0 ch) h.symm,λh=>d6 h.symm,λh=>i6 h.symm],#[λh=>d7 h.symm,λh=>i7 h.symm],λh=>i8 h.symm]
 .intro b J;unfold PA.nine at J;simp only[vr,Oh,or_false]at J;rcases J with J|J|J|J|J|J|J|J|J<;>rw[J]
  .show .inl rfl
  .show .inr a0
  .show .inr ac
  .show .inr ab
  .show .inr a5
  .show .inr b5
  .show .inr c5
  .show .inr d8
  .show .inr i9
 .change upd (upd H7 G (.lst [])) p _ G=_;rw[ai i1,ae];rfl
 .intro b;change(replicate _ _).length<=60;rw[PF];cases b
  .show n2
  .show n1
 .change upd (upd H7 G (.lst [])) p _ I=_;rw[ai d1,ai (D0 i8)];show bf
theorem LP:aD ["self","frames","slots"] ["self","frames","slots"] (au xK):=L2.bL
theorem El{f as:Addr}{fd aT:t7}{c:CA}(F:cq K "__init__" "Rooms.__init__" xK f fd)(T:rj K mg c)(MP:Mk K c.P as)(a6:mg "Paging" = some (.ref c.P))
  (bd:↥aG 3 as aT ["self","frames","slots"] (uC c.P c.S)) (a5:Binds K aT ["self","frames","slots"] []):↥aG 5 f fd ["self","frames","slots"] (uH c):=by
 show F.eL LP (λbi A outer s H vs Q E hr h=>?_);let#[p,dx,I,J,rfl,n1,n2,n3,hp,k]:=h;show#[_,(aj (fV (pv 0) (iL MP bd (hr.mono aq) (by rfl) a6 a5 .nil az (aa (pv 1) (aa (pv 2) ag))) rfl)
  (aj (fV (pv 0) (aA bR (pv 1) (pv 2)) rfl)
  (ar (fV (pv 0) fG rfl)))),?_]
 show#[0,0,λpg a7 ac be bf=>#[pg,a7,I,J,rfl,n1,n2,ae,λH1 G eA a8 ao GA o1=>#[4]]];let m1:aQ H H1:=λb u e=>o1 b u (by rw[ai (av e ac),ai (av e be)];show e) (av e ac);let fr:∀b∈G.nine,H b=none:=λb R=>by
  rcases ao b R with h|h
  .rw[h];show ac
  .show(cn (cn h).2).2
 let aB:=m1 _ _ hp;clear o1 ao;show#[0,p,c.C,dx,[],rfl,aB,T.cl,T.nP,aq,?_];show#[0,0,_,0,4];show#[0,p,c.C,dx,0,ae,T.cl,T.nT,by change 1<1000;decide,?_];rw[<-eA];let U:Off (· = p) H1 (upd (upd H1 p (.ins c.C dx (bu "paging" (.ref G.pg) []))) p (.ins c.C dx (bu "total" (.int ((I:Int)+J)) (bu "paging" (.ref G.pg) [])))):=λb o e z=>(by rw[ai z,ai z];show e);let ap:upd (upd H1 p (.ins c.C dx (bu "paging" (.ref G.pg) []))) p (.ins c.C dx (bu "total" (.int ((I:Int)+J)) (bu "paging" (.ref G.pg) []))) p=some (.ins c.C dx (bu "total" (.int ((I:Int)+J)) (bu "paging" (.ref G.pg) []))):=ae;generalize upd (upd H1 p (.ins c.C dx (bu "paging" (.ref G.pg) []))) p (.ins c.C dx (bu "total" (.int ((I:Int)+J)) (bu "paging" (.ref G.pg) [])))=H3 at *;intro rd L;let O:rd≠p:=D0 (av ap L);show#[0,p,c.C,dx,0,by rw[ai (D0 O)];show ap,T.cl,T.nR,by change 2<1000;decide,?_];let o5:Off (· = p) H1 (upd (upd H3 rd (.dK [])) p (.ins c.C dx (gv G.pg ((I:Int)+J) rd))):=λb o e z=>(by rw[ai z,ai (av (U b o e z) L)];show U b o e z);let ab:∀b∈G.nine,b≠p:=λb R z=>(by rw[z]at R;have:=fr p R;rwa[hp]at this);let am:∀b,G.own b->b∈G.nine:=λb h=>by
  unfold PA.own at h;unfold PA.nine;simp only[vr,Oh,or_false]at h ⊢;rcases h with h|h|h|h|h|h|h<;>simp[h]
 let n9:∀i {b},G.nine[i]?=some b->b≠p:=λi b h=>ab b (NC h);let G5:∀M,bZ c.P c.S (upd (upd H3 rd (.dK [])) p (.ins c.C dx (gv G.pg ((I:Int)+J) rd))) M G (s0 I J):=λM=>(GA λb=>M b\/b=p).move o5 (λb z=>.inr z) (λb z=>.inl (.inl z)) (λb z=>ab b (am b z)) (n9 1 rfl) (n9 4 rfl) (λb xs e z=>by rwa[z,aB]at e);let a4:upd (upd H3 rd (.dK [])) p (.ins c.C dx (gv G.pg ((I:Int)+J) rd)) p=some (.ins c.C dx (gv G.pg ((I:Int)+J) rd)):=ae;let a0:upd (upd H3 rd (.dK [])) p (.ins c.C dx (gv G.pg ((I:Int)+J) rd)) rd=some (.dK []):=(by rw[ai O,ae]);let Bf:¬ rd∈G.nine:=λz=>by
  let a3:=pY (GA λ_=>False) rd z;cases e:H1 rd with
  |none=>show a3 e
  |some u=>rwa[U _ _ e O]at L
 let bc:H rd=none:=by
  cases e:H rd with
  |none=>rfl
  |some u=>rwa[U _ _ (m1 _ _ e) O]at L
 let ba:Off (· = p) H (upd (upd H3 rd (.dK [])) p (.ins c.C dx (gv G.pg ((I:Int)+J) rd))):=λb o e z=>o5 b o (m1 b o e) z;show k _ (λb=>b∈G.nine\/b=rd) #[G,p,rd] rfl #[#[dx,?_],G5 _,#[a8,λx hx=>.inl hx],λb z=>?_,a0,Pk,(λx hx=>by cases hx),(λx hx=>by cases hx),(λx hx=>by cases hx),(λx hx=>by cases hx),.inr rfl,λz=>Bf (am _ z),λz=>ab _ (am _ z) rfl] (λb z=>z.elim (fr b) λz=>by rw[z];show bc) ba
 .let e:bK (s0 I J)=(I:Int)+J:=by
   unfold bK;rw[show((s0 I J).ow true).length=I from PF,show((s0 I J).ow false).length=J from PF];omega
  rw[e];show a4
 .rcases z with z|z
  .show pY (G5 λ_=>False) b z
  .intro w;rw[z]at w;show absurd (a0.symm.trans w) (by simp)
end St
namespace Pr
open PySem L2 Rm Tb
theorem Lj{D:Ends}{σ:L2.St}{H:Hp}{O z F t4 R J:TS}(k:∀U,Le J U->∀G,Le (dF R U) G->∀L,Le (dF t4 G) L->∀I,Le (dF F L) I->∀S,Le (dF z I) S->dF O S D σ H):dF O (dF z (dF F (dF t4 (dF R J)))) D σ H:=k _ Le.rfl _ Le.rfl _ Le.rfl _ Le.rfl _ Le.rfl
theorem KI{D:Ends}{σ:L2.St}{H:Hp}{I O z t4 t5 F J t8:TS}(k:∀R,Le t8 R->∀S,Le (dF J R) S->∀L,Le (dF F S) L->∀U,Le (dF t5 L) U->∀G,Le (dF t4 U) G->∀u3,Le (dF z G) u3->∀u2,Le (dF O u3) u2->dF I u2 D σ H):dF I (dF O (dF z (dF t4 (dF t5 (dF F (dF J t8)))))) D σ H:=k _ Le.rfl _ Le.rfl _ Le.rfl _ Le.rfl _ Le.rfl _ Le.rfl _ Le.rfl
theorem zC{x:Bool->Addr}{j:Int}(i:Bool)(h:j=if i=true then 1 else 0):xC [V.ref (x false),V.ref (x true)] j=some (V.ref (x i)):=by subst h;cases i<;>rfl
theorem Ls.add{c:St.CA}{CP:Addr}{Kp:Addr->HO->Prop}{H:Hp}{M:WZ}{a:Bool->St.RA}{s:Bool->Pg.PS}{W:Bool->St.bF}{cv:Bool->Int->Int->List Int}{k:Bool->Wc}{p b:Bool->Addr}{Z:Bool->bF}{n:Nat}{x:Addr}{o:HO}(L:Ls c CP Kp H M a s W cv k p b Z n)(h:H x=none):Ls c CP (λy u=>Kp y u\/(y=x/\u=o)) (upd H x o) M a s W cv k p b Z n:=by
 let L2:=L.same (aw (X:=o) h);show#[L2.q,L2.e,L2.lw,L2.lt,λy u z=>z.elim (L2.kp y u) λz=>?_];rw[z.1,z.2];show#[ae,λw=>(L.q.r true).R.mt x w h]
theorem Ls.made{c:St.CA}{CP:Addr}{Kp:Addr->HO->Prop}{H H':Hp}{M:WZ}{a:Bool->St.RA}{s:Bool->Pg.PS}{W:Bool->St.bF}{cv:Bool->Int->Int->List Int}{k:Bool->Wc}{p b:Bool->Addr}{Z:Bool->bF}{n:Nat}{d:Addr}{D:gM}(L:Ls c CP Kp H M a s W cv k p b Z n)(h:zu H H' d D):ou H' M d D:=by
 cases D with
 |hV t ad cs=>let#[c,h1,h2,F]:=h;show#[c,h1,h2,λz=>(L.q.r true).R.mt c z F]
 |_=>show h
theorem KZ{z F:Nat}:∀b,∀x∈(St.s0 z F).co b,x=none:=λb x h=>(UX.mp (show x∈replicate (if b=true then z else F) none from h)).2
inductive wH(K:Om)(vs:List V)(H:Hp)(Q:VK)(E:XK):Prop
 |mk(a:Addr)(ns:List Int)(_:vs=[.ref a])(_:bA K H a (ns.map V.int))(_:ns.length<=63)(_:∀H',Q (.bl true) H')
inductive NP(c:St.CA)(CP:Addr)(Kp:Addr->HO->Prop)(a:Bool->St.RA)(p b:Bool->Addr)(sc tl l5 l8:Addr)(m nf nl:Int)(j:Nat)(σ:L2.St)(H:Hp):Prop
 |mk(v7:Option V)(M:WZ)(s:Bool->Pg.PS)(W:Bool->St.bF)(cv:Bool->Int->Int->List Int)(k:Bool->Wc)(Z:Bool->bF)(_:σ=#v[.ref sc,.int m,.ref tl,.int nf,.int nl,.ref l5,.ref l8,v7,none,none,none,none,none,none])(_:Ls c CP Kp H M a s W cv k p b Z (2*j))(_:∀i:Bool,j=0\/(j=1/\i=true)->W i=[])
inductive Nm(c:St.CA)(CP:Addr)(Kp:Addr->HO->Prop)(a:Bool->St.RA)(p b:Bool->Addr)(sc tl l5 l8:Addr)(m nf nl:Int)(j:Nat)(σ:L2.St)(H:Hp):Prop
 |mk(v7 v8 v9 v10 v11 v12 v13:Option V)(M:WZ)(s:Bool->Pg.PS)(W:Bool->St.bF)(cv:Bool->Int->Int->List Int)(k:Bool->Wc)(Z:Bool->bF)(_:σ=#v[.ref sc,.int m,.ref tl,.int nf,.int nl,.ref l5,.ref l8,v7,v8,v9,v10,v11,v12,v13])(_:Ls c CP Kp H M a s W cv k p b Z (4+j))
theorem gU:aD ["_law_script","_law_first","_law_tasks_here","_law_frames","_law_slots","_law_ones","_law_others","_law_k","_law_cell","_law_one","_law_other","_law_deed_here","_law_found","_law_due"] ["_law_script"] (au HL):=L2.bL
theorem Hq{f CP b6 ca:Addr}{fd cc cg:t7}{c:St.CA}(F:cq K "law" "law" HL f fd)(T:wd mg)(TR:St.rj K mg c)(PC:oE K CP)(N:Fc c)(nP:CP≠c.P)(MR:Mk K c.C b6)(ci:mg "Rooms" = some (.ref c.C))(c0:↥aG 5 b6 cc ["self","frames","slots"] (St.uH c))(bm:Binds K cc ["self","frames","slots"] [])(MP:Mk K CP ca)(bv:mg "PlainRooms" = some (.ref CP))(cP:↥aG 1 ca cg ["self","total"] (gu CP))(bn:Binds K cg ["self","total"] [])
  (dH:↥Df 1 "_law_tasks" sM) (c5:↥Df 1 "_law_sizes" tO) (dd:↥Df 1 "_law_number" qe) (dI:↥Df 2 "_law_deed" xm) (dC:↥Df 12 "_law_told" (mz c)) (dV:↥Df 5 "_law_told" (kO CP)) (dL:↥Df 1 "_law_same" kF) (dD:↥Md 2 c.C "held" (St.gY c)) (dR:↥Md 1 CP "held" (ju CP))
  (dO:↥Df 4 "_law_start" (ue K c CP)) (cC:↥Df 13 "_law_walked" (qp c CP)) :
  ↥aG 14 f fd ["_law_script"] (wH K):=by
 show F.ok gU (λvs H Q E h=>?_) (λee A outer s H vs Q E J h=>?_)
 .let#[a,O,rfl,_]:=h;rfl
 .let#[sc,O,rfl,ap,d8,k]:=h;let hs:=HC;show#[_,(aj (cV 1 gU.nd (a9 (lu rfl) (by rfl) T.sum mS (aa (gL iR (pv 0) mx (gE ah)) ag)))
   (aj (cV 2 gU.nd (pc dH J az (aa (aA bo (pv 1) ah) ag)))
   (aj (qd (pc c5 J az (aa (aA bo (pv 1) ah) ag)) (tF rfl (gf (nD 3 gU.nd) (gf (nD 4 gU.nd) pC))))
   (aj (cV 5 gU.nd (cm (aa (iL MR c0 (J.mono aq) (by rfl) ci bm .nil az (aa (pv 3) (aa (pv 4) ag))) (aa (iL MR c0 (J.mono aq) (by rfl) ci bm .nil az (aa (pv 3) (aa (pv 4) ag))) ag))))
   (aj (cV 6 gU.nd (cm (aa (iL MP cP (J.mono aq) (by rfl) bv bn .nil az (aa (aA bR (pv 3) (pv 4)) ag)) (aa (iL MP cP (J.mono aq) (by rfl) bv bn .nil az (aa (aA bR (pv 3) (pv 4)) ag)) ag))))
   (aj (dh Ow rfl (jU (by rfl) T.range (aa ah ag)) (nD 7 gU.nd) (ar (aV (pc dO J az (aa (pv 0) (aa (aL bT (pv 5) (pv 7) cB) (aa (aL bT (pv 6) (pv 7) cB) (aa (pv 2) ag))))))))
   (aj (dh Ow rfl (FN (by rfl) T.enumerate (aa (gL iR (pv 0) mx (gE ah)) ag)) (tF rfl (gf (nD 7 gU.nd) (gf (nD 8 gU.nd) pC))) (aj (Jf (i:=9) (j:=10) rfl gU.nd rfl rfl aq rfl rfl (aa (aL bT (pv 5) (aA bo (aA bC (pv 7) ah) ah) cB) (aa (aL bT (pv 6) (aA bo (aA bC (pv 7) ah) ah) cB) ag)) rfl)
   (aj (cV 11 gU.nd (pc dI J az (aa (pc dd J az (aa (pv 8) (aa (pv 7) (aa (pE cK (aA bC (pv 1) ah) ah (aP _)) ag)))) (aa (pv 2) ag))))
   (aj (cV 12 gU.nd (pc dC J az (aa (pv 9) (aa (pv 11) ag))))
   (aj (cV 13 gU.nd (pc dV J az (aa (pv 10) (aa (pv 11) ag))))
   (aj (bJ (PW.pt (lU (qq (fE (pc dL J az (aa (pv 12) (aa (pv 13) ag))))) (kS (aJ sJ (qB (pv 9) TR.cl dD J az) (qB (pv 10) PC dR J az) (aP _))))) (ar (aO qz)) aR)
   (ar (bJ (PW.pt (CW (aJ FY (aL aN (pv 12) ah cB) hU (aP _)) (zc (aJ oy (a9 bS (by rfl) T.len boot_len (aa (aL aN (pv 12) ah cB) ag)) ah (aP _))))) (aj (qd ah (tN (aL aN (pv 12) ah cB) ah set_list))
   (ar (aV (Hz Po PySem.F.slot_list_clear PySem.F.type_list_clear Cf (aL aN (pv 13) ah cB))))) aR))))))))
   (ar (aO (IT (pc cC J az (aa (aL bT (pv 5) ah cB) (aa (aL bT (pv 6) ah cB) (aa (pv 2) ag)))) (HH (pc cC J az (aa (aL bT (pv 5) ah cB) (aa (aL bT (pv 6) ah cB) (aa (pv 2) ag))))))))))))))),?_]
  show KI λu8 e8 u7 e7 u6 e6 u5 e5 u4 e4 u3 e3 u2 e2=>?_;show iT λ_ G=>?_;let ec:jk (O.map V.int) none (some (1:Int))=(O.take 1).map V.int:=Rm.tq (s:=1);show#[0,0,sc,0,ap,λp1 ce=>#[p1,O.take 1,rfl,bA.of (by rw[ae,ec]),G _ _ (e2 _ _ _ ?_)]];clear G e2 u2;let s1:=aw (X:=.lst (jk (O.map V.int) none (some (1:Int)))) ce;generalize upd H p1 (.lst (jk (O.map V.int) none (some (1:Int))))=H1 at *;generalize (O.take 1).sum=m;clear ec ce;show iT λ_ G=>?_;show#[0,_,0,rfl,#[aq,aq],0,λk3 k4 H2 tl h3 ef h4 dl s2 dT c4=>G _ _ (e3 _ _ _ ?_)];clear G e3 u3;let bd:∀t∈[1,2,k3,k4],Lo t:=λt ht=>by
   simp only[vr,Oh,or_false]at ht;rw[EL]at dl;show oY (by rw[EL];omega) (by rw[EL];omega)
  show#[0,_,0,rfl,#[aq,aq],0,λnf U H3 t3 f2 eb d7 s3 c7 bx=>#[t3,0,bM.of bx,5,0,_,0,rfl,e4 _ _ _ ?_]];clear e4 u4 bx c7;let S3:=s1.trans (s2.trans s3);let a0:=s3 _ _ c4;clear s1 s2 s3 dT c4;show iT λ_ G=>?_;show#[0,0,λd0 bY ba cw dj=>#[d0,bY,nf,U,rfl,af,af,af,ae,λH4 M1 a1 dr R1 bl o4=>#[rfl,0,0,λdS aT bc b4 d4=>#[dS,aT,nf,U,rfl,af,af,af,ae,λH5 M2 a2 d1 R2 c1 o5=>#[rfl,gF,λI aB=>G _ _ (e5 _ _ _ ?_)]]]]];clear G e5 u5;subst dr d1;let s4:aQ H3 H4:=λb u e=>o4 b u (by rw[ai (av e ba),ai (av e cw)];show e) (av e ba);let g1:∀b,M1 b->H3 b=none:=λb z=>(St.cn (St.cn (bl b z)).2).2;let s5:aQ H4 H5:=λb u e=>o5 b u (by rw[ai (av e bc),ai (av e b4)];show e) (av e bc);let g2:∀b,M2 b->H4 b=none:=λb z=>(St.cn (St.cn (c1 b z)).2).2;let s6:=aw (X:=.lst [.ref a1.rp,.ref a2.rp]) aB;let h5:upd H5 I (.lst [.ref a1.rp,.ref a2.rp]) I=some (.lst [.ref a1.rp,.ref a2.rp]):=ae;clear o4 o5 bl c1 ba cw dj bc b4 d4;generalize upd H5 I (.lst [.ref a1.rp,.ref a2.rp])=H6 at *;show iT λ_ G=>?_;show#[0,0,_,0,rfl,λac bz bf cS dp=>#[ac,bz,0,ae,λH7 b1 cT D1 o7=>#[rfl,0,0,_,0,rfl,λam bI a7 b8 c8=>#[am,bI,0,ae,λH8 b2 bH D2 o8=>#[rfl,gF,λS bV=>G _ _ (e6 _ _ _ ?_)]]]]];clear G e6 u6;let s7:aQ H6 H7:=λb u e=>o7 b u (by rw[ai (av e bf),ai (av e cS)];show e) (av e bf);let s8:aQ H7 H8:=λb u e=>o8 b u (by rw[ai (av e a7),ai (av e b8)];show e) (av e a7);let f1:H6 b1=none:=(St.cn (St.cn cT).2).2;let as:H7 b2=none:=(St.cn (St.cn bH).2).2;clear o7 o8 cT bH bf cS dp a7 b8 c8;let et:(nf:Int)+(U:Int)=St.bK (St.s0 nf U):=by
   unfold St.bK;rw[show((St.s0 nf U).ow true).length=nf from PF,show((St.s0 nf U).ow false).length=U from PF];omega
  rw[et]at D1 D2;let Q8:=Mu R1 s5 R2 g2 (s6.trans s7) D1 (s6.free f1) s8 D2 as KZ (St.Kb af);let cQ:=s8 _ _ (s7 _ _ h5);let c2:=s8 _ _ (s7 _ _ (s6 _ _ (s5 _ _ (s4 _ _ a0))));let S8:=S3.trans (s4.trans (s5.trans (s6.trans (s7.trans s8))));let al:∀x o,H3 x=some o->¬ (M1 x\/M2 x\/x=b1\/x=b2):=λx o e z=>by
   rcases z with z|z|z|z
   .rw[g1 x z]at e;cases e
   .rw[s4.free (g2 x z)]at e;cases e
   .rw[z,s4.free (s5.free (s6.free f1))]at e;cases e
   .rw[z,s4.free (s5.free (s6.free (s7.free as)))]at e;cases e
  let b3:¬ (M1 I\/M2 I\/I=b1\/I=b2):=λz=>by
   rcases z with z|z|z|z
   .show R1.mt _ z (s5.free aB)
   .show R2.mt _ z aB
   .rw[z,f1]at h5;cases h5
   .have:=s7 _ _ h5;rwa[z,as]at this
  obtain⟨Kp,k1,k2,be,bi,L8⟩:∃Kp:Addr->HO->Prop,Kp tl (.lst ([1,2,k3,k4].map V.int))/\Kp I (.lst [.ref (bb a1 a2 false).rp,.ref (bb a1 a2 true).rp])/\Kp S (.lst [.ref (bb ac am false),.ref (bb ac am true)])/\(∀o,H sc=some o->Kp sc o)/\Ls c CP Kp (upd H8 S (.lst [.ref ac,.ref am])) (λx=>M1 x\/M2 x\/x=b1\/x=b2) (bb a1 a2) (λ_=>St.s0 nf U) (λ_=>[]) (λ_ _ _=>[]) (λ_=>[]) (bb ac am) (bb b1 b2) (λ_=>[]) 0:=by
   show#[λy u=>((y=tl/\u=.lst ([1,2,k3,k4].map V.int))\/(y=I/\u=.lst [.ref a1.rp,.ref a2.rp])\/(y=sc/\H sc=some u))\/(y=S/\u=.lst [.ref ac,.ref am]),.inl (.inl #[1]),.inl (.inr (.inl #[1])),.inr #[1],λo h=>.inl (.inr (.inr #[rfl,h])),Ls.add #[Q8,λ_=>rfl,λ_=>G0 _,λ_=>by rw[<-et];omega,λx o h=>?_] bV];rcases h with⟨rfl,rfl⟩|⟨rfl,rfl⟩|⟨rfl,h⟩
   .show#[c2,al _ _ a0]
   .show#[cQ,b3]
   .show#[S8 _ _ h,al _ _ (S3 _ _ h)]
  clear al b3 S8 c2 cQ Q8 D1 D2 f1 as s8 s7 h5 s6 s5 s4 g1 g2 R1 R2 a0 S3 aB bV et;generalize (λx=>M1 x\/M2 x\/x=b1\/x=b2)=M0 at L8;generalize upd H8 S (.lst [.ref ac,.ref am])=H9 at *;generalize bb a1 a2=a at *;generalize bb ac am=p at *;generalize bb b1 b2=b at *;clear M1 M2 a1 a2 ac am b1 b2 bY aT bz bI H8 H7 H6 H5 H4 H3 H2 H1;show#[0,aq,aq,?_];show mO (lo:=0) (n:=(2:Int).toNat) (NP c CP Kp a p b sc tl I S m nf U) #[2,2,2,0,L8,λ_ _=>rfl] ?_ ?_
  .clear L8 H9;rintro j σ H2 hj ⟨v7,M,s2,W,cv,ab,Z,rfl,L,w0⟩;let hj:j<2:=hj;obtain⟨i,hi⟩:∃i:Bool,(0:Int)+j=if i=true then 1 else 0:=by
    match j,hj with
    |0,_=>show#[false,rfl]
    |1,_=>show#[true,rfl]
   show GV λ_ G=>?_;show#[0,0,0,I,2,.ref (a i).rp,1,bA.of (L.kp _ _ k2).1,zC (x:=λi=>(a i).rp) i hi,0,0,S,2,.ref (p i),1,bA.of (L.kp _ _ be).1,zC i hi,0,Kp,M,a,s2,W,cv,ab,p,b,Z,2*j,i,sc,O,tl,[k3,k4],rfl,Rm.eR ap (λo h=>(L.kp _ _ (bi o h)).1),L,af,k1,w0 i ?_,λH3 M3 s3 W3 c6 k3 Z3 L3 o3=>G _ _ #[_,M3,s3,W3,c6,k3,Z3,rfl,L3,λi' h=>?_]]
   .cases i
    .show .inl (by have:(0:Int)+j=0:=hi;omega)
    .show .inr #[by have:(0:Int)+j=1:=hi;omega,rfl]
   .rcases h with h|⟨h,rfl⟩
    .show absurd h (Nat.succ_ne_zero j)
    .let j0:j=0:=af;subst j0;cases i
     .rw[o3 true nofun];show w0 true (.inl rfl)
     .show absurd hi aq
  .clear L8 H9;rintro σ H2 ⟨v7,M,s2,W,cv,ab,Z,rfl,L,w9⟩;clear w9;replace L:Ls c CP Kp H2 M a s2 W cv ab p b Z 4:=L;show e7 _ _ _ ?_;clear e7 u7;let ec:jk (O.map V.int) none (some (63:Int))=(O.take 63).map V.int:=Rm.tq (s:=63);show#[0,0,sc,0,Rm.eR ap (λo h=>(L.kp _ _ (bi o h)).1),λp7 c3=>?_];rw[ec];obtain⟨Kq,q1,q2,q3,q7,L7⟩:∃Kq:Addr->HO->Prop,Kq tl (.lst ([1,2,k3,k4].map V.int))/\Kq I (.lst [.ref (a false).rp,.ref (a true).rp])/\Kq S (.lst [.ref (p false),.ref (p true)])/\Kq p7 (.lst ((O.take 63).map V.int))/\Ls c CP Kq (upd H2 p7 (.lst ((O.take 63).map V.int))) M a s2 W cv ab p b Z 4:=#[_,.inl k1,.inl k2,.inl be,.inr #[1],L.add c3];clear L c3 k1 k2 be bi Kp ec ap;generalize upd H2 p7 (.lst ((O.take 63).map V.int))=H3 at *;let b5:((O.take 63).map V.int).length<=63:=(by rw[ti,Oz];omega);show#[p7,rfl,#[_,bA.of (L7.kp _ _ q7).1],?_];show BM (K:=K) (a:=p7) (xs:=(O.take 63).map V.int) (Nm c CP Kq a p b sc tl I S m nf U) #[2,2,2,_,M,s2,W,cv,ab,Z,rfl,L7] (λj σ H4 _ z0=>by let#[_,_,_,_,_,_,_,_,_,_,_,_,_,_,L4]:=z0;show bA.of (L4.kp _ _ q7).1) ?_ ?_
   .clear L7 M s2 W cv ab Z H3 H2;rintro j x σ H3 T0 hx hT ⟨v7,v8,v9,d5,da,dA,dM,M,s2,W,cv,ab,Z,rfl,L0⟩;rw[Od]at hx;let#[ao,hc,rfl]:=wh.mp hx;let hj:j<63:=by
     have:=(sN.mp hc).1;rw[ti]at b5;omega
    clear hx hc b5;let b0:upd H3 T0 (.tup [.int (j:Int),.int ao]) T0=some (.tup [.int (j:Int),.int ao]):=ae;let L:=L0.same (aw (X:=.tup [.int (j:Int),.int ao]) hT);clear L0 hT;generalize upd H3 T0 (.tup [.int (j:Int),.int ao])=H4 at *;show#[T0,0,bM.of b0,5,0,_,0,4];clear b0;obtain⟨i,hi⟩:∃i:Bool,(j:Int)%5/4=if i=true then 1 else 0:=by
     cases z:(j:Int)%5/4=0
     .show#[false,z]
     .show#[true,by change(j:Int)%5/4=1;omega]
    show Lj λu6 e6 u5 e5 u4 e4 u3 e3 u2 e2=>?_;show#[0,0,_,0,rfl,(by change(0:Int)<5;decide),_,0,rfl,#[aq,aq],I,2,.ref (a i).rp,1,bA.of (L.kp _ _ q2).1,zC (x:=λi=>(a i).rp) i hi,0,0,_,0,rfl,(by change(0:Int)<5;decide),_,0,rfl,#[aq,aq],S,2,.ref (p i),1,bA.of (L.kp _ _ q3).1,zC i hi,_,0,e2 _ _ _ ?_];clear e2 u2;show iT λ_ G=>?_;show#[0,0,0,_,0,rfl,EC,rfl,2,0,λnn=>#[0,nn,tl,[1,2,k3,k4],rfl,(L.kp _ _ q1).1,rfl,bd,λD H5 d s5 d6 dn lg fw=>G _ _ (e3 _ _ _ ?_)]];clear G e3 u3;let dm:=L.made dn;let L5:=L.same s5;clear L dn d6 s5 fw H4 H3;show iT λ_ G=>?_;show#[0,0,GB N nP L5 af i dm lg λH6 T1 m6=>G _ _ (e4 _ _ _ ?_)];clear G e4 u4;show iT λ_ G=>?_;show#[0,0,?_];change kO CP [.ref (p i),.ref d] H6 _ E0;show GW L5 af i lg m6 λH7 T2 f7=>G _ _ (e5 _ _ _ ?_);clear G e5 u5 m6 L5 dm lg M s2 W cv ab Z H6 H5;let#[M,s7,W,cv,k7,Z,w7,u1,u2,L,t1,t2,hv]:=f7;show oK λQQ ji je=>?_;show#[0,0,?_];change kF [.ref T1,.ref T2] H7 _ E0;show y6 t1 t2 ?_ #[true,rfl,bw ?_]
    .rcases hv with h|⟨l,l',xs,e1,e2,_,f1,f2⟩
     .show .inl h
     .show .inr #[l,l',xs,e1,e2,f1.al,f2.al]
    let#[dx,ho]:=(L.q.r i).R.ob;show#[0,(a i).rp,dx,0,ho,St.iD _ _ _ ak ak ak,M,a i,s7 i,W i,rfl,(L.q.r i).R,by have:=L.lw i;omega,λH8 s8=>?_];let L8:=L.same s8;let#[aT,b7]:=(L8.q.d i).ob;show#[0,p i,aT,0,b7,aS _ _ ak ak,?_];change ju CP [.ref (p i)] H8 _ E0;show AH (p i) (b i) _ (Z i) (L8.q.d i) ?_ λH9 s9=>#[rfl,0,?_]
    .rw[<-qx,L8.e i,L8.len i];have:=L8.lw i;omega
    let S9:=s8.trans s9;let L9:=L8.same s9;let a6:=S9 _ _ t1;let ch:=S9 _ _ t2;let eh:heldW (Z i)=((St.ents (W i)).length:Int):=(by rw[qh,L9.e i];show(L9.q.r i).C.held);rw[eh];show rD (λcr=>absurd cr (by simp)) (λ_=>je _ (e6 _ _ _ ?_));let db:(u1=.bB/\u2=.bB)\/∃(l l':Addr)(xs:List Int),u1=.ref l/\u2=.ref l'/\l≠l'/\Fl H9 M a W b Z l (xs.map V.int)/\Fl H9 M a W b Z l' (xs.map V.int):=hv.imp id λ⟨l,l',xs,a1,a2,a3,a4,a5⟩=>#[l,l',xs,a1,a2,a3,a4.same S9,a5.same S9];clear ji je eh s9 s8 S9 L8 L ho b7 hv t1 t2 e6 u6 H8 H7;let done:∀H',Ls c CP Kq H' M a s7 W cv k7 p b Z (4+j+1)->Nm c CP Kq a p b sc tl I S m nf U (j+1) #v[.ref sc,.int m,.ref tl,.int nf,.int U,.ref I,.ref S,.int (j:Int),.int ao,.ref (a i).rp,.ref (p i),.ref d,.ref T1,.ref T2] H':=λH' L=>#[2,2,2,_,M,s7,W,cv,k7,Z,rfl,L];show Gi λQQ ji je=>?_;show#[0,T1,2,u1,1,bM.of a6,1,0,?_];rcases db with⟨rfl,rfl⟩|⟨l,l',xs,rfl,rfl,d3,f1,f2⟩
    .show bw (je _ (done _ L9))
    show eO ?_;show#[0,T1,2,.ref l,1,bM.of a6,rfl,l,0,.inl (bA.of f1.al),_,0,rfl,0,?_];show rD (λcr=>ji _ ?_) (λ_=>je _ (done _ L9));let ea:0<(xs.map V.int).length:=(by have:=of_decide_eq_true cr;omega);show#[0,T1,2,.ref l,1,bM.of a6,rfl,l,_,(0),(0),1,f1.al,3]
    .unfold wY;rw[WY (Pp 0),WY af];rfl
    let nT:T2≠l:=λz=>(by have:=f1.al;rwa[<-z,ch]at this);let d2:=L9.wr (ys:=(xs.map V.int).set 0 (.int 777)) f1;let a8:=f2.other (l2:=l) (o:=.lst ((xs.map V.int).set 0 (.int 777))) (D0 d3);show#[0,T2,2,.ref l',1,bM.of (by rw[ai nT];show ch),rfl,.inl #[5,bA.of a8.al],l',0,rfl,a8.al,done _ (d2.wr a8)]
   .clear L7 M s2 W cv ab Z H3 H2;rintro σ H3 ⟨v7,v8,v9,d5,da,dA,dM,M,s2,W,cv,ab,Z,rfl,L⟩;show e8 _ _ _ ?_;show#[0,I,2,.ref (a false).rp,1,bA.of (L.kp _ _ q2).1,rfl,0,S,2,.ref (p false),1,bA.of (L.kp _ _ q3).1,rfl,0,Kq,M,a,s2,W,cv,ab,p,b,Z,_,false,tl,[1,2,k3,k4],rfl,L,af,q1,rfl,bd,λH4 M4 s4 W4 c9 k4 Z4 L4=>#[true,rfl,eO ?_]];show#[0,I,2,.ref (a true).rp,1,bA.of (L4.kp _ _ q2).1,rfl,0,S,2,.ref (p true),1,bA.of (L4.kp _ _ q3).1,rfl,0,Kq,M4,a,s4,W4,c9,k4,p,b,Z4,_,true,tl,[1,2,k3,_],rfl,L4,af,q1,rfl,bd,λH5 _ _ _ _ _ _ _=>k H5]
end Pr
end
namespace Hd
open PySem PySem.W PyProof.Rows
def tw:List Obj->List Obj×List Obj
 | []=>([],[])
 | [a]=>([a],[])
 |a::b::r=>(a::(tw r).1,b::(tw r).2)
def build:Nat->List Obj->BT
 |0,_=>.nil
 |_+1,[]=>.nil
 |f+1,o::r=>.node o (build f (tw r).1) (build f (tw r).2)
def topT (tb:String->Option Builtin) (p:Program) (w:World) (m:Nat) (an:Option Value):Nat->SharedT->Thread->Option SharedT
 |0,_,_=>none
 |k+1,x,t=>match through t with
  |true=>some x
  |false=>match stepOk m an t with
   |false=>none
   |true=>match stepT (denote tb) p w x t with
    |some (y,u)=>topT tb p w m an k y u
    |none=>none
theorem topT_of {tb:String->Option Builtin}{p:Program}{w:World}{m:Nat}{an:Option Value}:∀{k:Nat}{x z:SharedT}{t:Thread},topT tb p w m an k x t=some z->topRun tb p w m an k x.abs t=some z.abs:=by
 intro k
 induction k with
 |zero=>intro x z t e;cases e
 |succ k F =>
  intro x z t e;unfold topT at e;unfold topRun;cases a:through t with
  |true=>rw[a]at e;cases e;rfl
  |false =>
   rw[a]at e;cases b:stepOk m an t with
   |false=>rw[b]at e;cases e
   |true =>
    rw[b]at e;cases c:stepT (denote tb) p w x t with
    |none=>rw[c]at e;cases e
    |some r =>
     obtain⟨y,u⟩:=r;rw[c]at e;rw[stepT_spec c];exact F e
def Ck (p q:Program) (loose:List Str) (z:Shared->Bool) (F:Bool) (h:Heap) (s:Shared):=
 (staticsOk (importedModules p.main.body) h s.heap&&namesBound p s.heap&&gensDone s&&laidKept h s.heap,openSeen q loose (importedModules p.main.body) z F s)
theorem Ga {p q:Program}{loose:List Str}{J:Shared->Bool}{α:Type}{G:Shared->α}{I:World->α}{N M m:Nat}{L:Bool}{H:Params->Heap}{T:Params->BT}{life:Life}{gs:Array GenState}{d:Drawn}{k:Nat}{an:Option Value}
  (O:∀w:World,(fencedOpening treeTable p w N).map (λs=>(s.heap,s.gens,s.drawn,s.toks))=some (H w.params,gs,d,k))
  (hT:∀P,absHeap (T P) m life=H P)
  (hS:∀w:World,((H w.params).isNs mainGlobals&&gs.size==0,(H w.params).objs.size,(H w.params).nsMap mainGlobals "__annotations__")=(true,m,an))
  (le:Nat.ble M N=true)
  (run:∀(w:World) (os:OsState),(topT treeTable p w m an M ⟨T w.params,m,life,gs,d,k,os⟩ (topStub p)).map (λs=>(Ck p q loose J L (H w.params) s.abs,G s.abs))=some ((true,openGood q loose),I w)) :
  LeftO p q loose J G I N L:=by
 intro w;obtain⟨s,a,b⟩:=Option.map_eq_some_iff.mp (O w);obtain⟨h,F,d',k',os⟩:=s;simp only[Prod.mk.injEq]at b;obtain⟨rfl,rfl,rfl,rfl⟩:=b;have z:=hS w;simp only[Prod.mk.injEq]at z;obtain⟨z1,S,z3⟩:=z;obtain⟨x,c,e⟩:=Option.map_eq_some_iff.mp (run w os);have r:=topT_of c;have ab:(SharedT.mk (T w.params) m life F d' k' os).abs=⟨H w.params,F,d',k',os⟩:=by
  unfold SharedT.abs;rw[hT]
 rw[ab]at r;have r:=topRun_mono (N-M) _ _ _ _ r;rw[show M+(N-M)=N from Nat.add_sub_cancel' (Nat.le_of_ble_eq_true le)]at r;simp only[Ck,Prod.mk.injEq]at e;obtain⟨⟨R,e2⟩,U⟩:=e;have t:topFrom treeTable p w N ⟨H w.params,F,d',k',os⟩=some x.abs:=by
  unfold topFrom;dsimp only;rw[z1,S,z3,r];simp only[bind_some,R]
 unfold openEnds;rw[a];simp only[bind_some,t,map_some,e2,U]
theorem both {r:OpenRow}{q:Program}{loose:List Str}{d:DefRec}{z:List (Str×Expr)}{N:Nat}(H:Hook)
  (h1:defOf q r.name=some (d,z)) (h2:r.prog.theDef r.name=some (d.params,d.body,d.scope)) (L:kwWritten? d.params.kwonlyargs d.params.kw_defaults=some z) (F:(!r.writes||r.records.isEmpty)=true)
  (G:r.wellSaid=true) (O:(chainsOk q&&opensWell r.prog&&(frees r.toRowW&&r.within.isEmpty))=true) (J:r.prog.bare) (I:r.toRowW.promised)
  (h:LeftO r.prog q loose (λs=>xlAt q [] s&&recOk r.records s) H.obs H.val N/\WalkO q loose (XL q []) H.says r.toRowW d z λf vs=>PySem.call f vs):r.Holds :=
 holds_open h.1 H.of H.keeps (λs e=>xl_of s (Bool.and_eq_true_iff.mp e).1) XL.keeps h1 h2 L (λs e=>recFacts_of (Bool.and_eq_true_iff.mp e).2) F G O J I h.2
noncomputable def Gw (P:Params):BT:=build 12 (boot_heap P).objs.toList
def q:Program:=PySem.W.view PySem.Challenge.pw_ownroom_k90_whole_paged_as_plain [52]
def loose:List Str:=[Str.ofString "_wall",Str.ofString "__name__",Str.ofString "KernelError",Str.ofString "ValueError",Str.ofString "NoOwner",Str.ofString "NoTask",Str.ofString "NoPage",Str.ofString "NoRoom",Str.ofString "Taken",Str.ofString "PAGE_CELLS",Str.ofString "Store",Str.ofString "lift",Str.ofString "settle",Str.ofString "Paging",Str.ofString "ROOM_PAGES",Str.ofString "room_of",Str.ofString "refuse_second_room",Str.ofString "refuse_above",Str.ofString "pages_from",Str.ofString "refuse_unmapped",Str.ofString "pages_to_map",Str.ofString "pages_to_drop",Str.ofString "pages_of_cells",Str.ofString "run_within",Str.ofString "pages_with",Str.ofString "STEP_PAGES",Str.ofString "own_copy",Str.ofString "Table",Str.ofString "BLANK",Str.ofString "Rooms",Str.ofString "PlainRooms",Str.ofString "cells_of_pages",Str.ofString "_law_number",Str.ofString "_law_tasks",Str.ofString "_law_page",Str.ofString "_law_many",Str.ofString "_law_address",Str.ofString "_law_cells",Str.ofString "_law_deed",Str.ofString "_law_do",Str.ofString "_law_word",Str.ofString "_law_told",Str.ofString "_law_same",Str.ofString "_law_start",Str.ofString "_law_sizes",Str.ofString "_law_walked"]
local macro_rules | `(tactic| o_head $H) => `(tactic| refine Hd.both (q:=Hd.q) (loose:=Hd.loose) (N:=100000) $H (by rfl) (by rfl) (by rfl) (by rfl) (by assumption) ak ⟨rfl,rfl,rfl,rfl,rfl,ak⟩ ?$(Lean.mkIdent `hw):ident ?$(Lean.mkIdent `hc):ident)
open_top top for PySem.Challenge.rw_ownroom_k90_whole_paged_as_plain
def at_:List Addr:=[2,3,15,17,18,20,21,22,29,30,31,32,35,42,43,44,47,54,55,56,59,66,67,68,71,78,79,80,83,90,91,92,102,104,105,107,108,109,111,112,114,115,116,118,119,121,122,123,125,126,128,129,130,132,133,135,136,137,139,140,142,143,144,146,147,149,150,151,153,154,156,157,158,160,161,163,164,165,166,167,168,169,172,174,175,177,178,179,181,182,184,185,193,195,196,198,199,200,202,203,205,206,207,209,210,212,213,214,216,217,219,220,221,223,224,226,227,228,230,231,233,234,235,237,238,240,241,242,244,245,247,248,249,251,252,254,255,256,258,259,261,262,263,265,266,268,269,270,272,273,275,276,277,279,280,282,283,284,286,287,289,290,291,292,293,294,295,298,300,301,303,304,305,307,308,310,311,312,314,315,317,318,319,321,322,324,325,326,328,329,331,332,333,335,336,338,339,340,342,343,345,346,347,349,350,352,353,354,356,357,359,360,361,364,365,366,369,370,378,380,381,383,384,385,387,388,390,391,392,394,395,397,398,399,401,402,404,405,406,408,409,411,412,413,415,416,418,419,420,421,422,423,424,427,435,437,438,440,441,442,444,445,447,448,449,451,452,454,455,456,458,459,461,462,463,465,466,468,469,470,472,473,475,476,477,479,480,482,483,484,486,487,489,490,491,494,495,496,498,499,501,502,503,505,506,508,509,510,512,513,515,516,517,519,520,522,523,524,526,527,529,530,531,532,533,534,535,545,547,548,550,551,552,554,555,557,558,559,561,562,564,565,566,568,569,571,572,573,575,576,578,579,580,582,583,585,586,587,589,590,592,593,594,596,597,599,600,601,604,605,606,607,608,609,610,613,615,616,618,619,620,622,623,625,626,627,629,630,632,633,634,636,637,639,640,641,643,644,646,647,648,650,651,653,654,655,658,659,660,662,663,665,666,667,669,670,672,673,674,677,678,679,681,682,684,685,686,688,689,691,692,693,695,696,698,699,700,702,703,705,706,707,709,710,712,713,714,716,717,719,720]
noncomputable def lhs (w:World) (os:OsState):=
 (topT treeTable PySem.Challenge.pw_ownroom_k90_whole_paged_as_plain w 11 (some (.ref 6)) 100000 ⟨Gw w.params,11, {},Array.mk [],boot_drawn,boot_toks,os⟩ (topStub PySem.Challenge.pw_ownroom_k90_whole_paged_as_plain)).map
  λs=>(Ck PySem.Challenge.pw_ownroom_k90_whole_paged_as_plain q loose (λs=>xlAt q [] s&&recOk PySem.Challenge.rw_ownroom_k90_whole_paged_as_plain.row.records s) true (boot_heap w.params) s.abs,at_.map s.abs.heap.get?)
noncomputable def Nz (K:Frag):=some ((true,openGood q loose),K.map λp=>some p.2)
theorem lhs_self:lhs=lhs:=rfl
theorem Ct:Nz=Nz:=rfl
name_quick hdL for Hd.lhs by Hd.lhs_self
name_quick hdR for Hd.Nz by Hd.Ct
noncomputable def rhs (w:World):=some ((true,openGood q loose),(Hd.top.heap_39 w.params).map λp=>some p.2)
theorem same_ (w:World) (os:OsState):PySem.W.Fast.hdL w os=PySem.W.Fast.hdR (Hd.top.heap_39 w.params):=by kernel_rfl
theorem run_ (w:World) (os:OsState):lhs w os=rhs w:=((congrFun (congrFun PySem.W.Fast.hdL_eq w) os).trans (same_ w os)).trans (congrFun PySem.W.Fast.hdR_eq (Hd.top.heap_39 w.params)).symm
end Hd
namespace Pr
open PySem L2
def Al:Nat->(List Value->Prop)->Prop
 |0,p=>p []
 |n+1,p=>∀a,Al n λl=>p (a::l)
theorem al:∀{n:Nat}{p:List Value->Prop},Al n p->∀us:List Value,us.length=n->p us
 |0,_,h,us,e=>by cases List.eq_nil_of_length_eq_zero e;exact h
 |n+1,_,h,us,e=>by
  cases us with
  |nil=>cases e
  |cons a us=>exact al (h a) us (Nat.succ.inj e)
inductive MI (K:Om) (C:Addr) (m q:Str) (st:OB) (ps:List Str):Prop
 |mk (f:Addr) (fd:t7) (_:cq K m q st f fd) (_:Binds K fd ps []) (_:Meth K C m f):MI K C m q st ps
inductive DI (K:Om) (x:Str) (st:OB) (ps:List Str):Prop
 |mk (f:Addr) (fd:t7) (_:cq K x x st f fd) (_:Binds K fd ps []) (_:VG K OG x=some (some (.ref f))):DI K x st ps
section
variable {K:Om}{C f:Addr}{m q:Str}{st:OB}{ps:List Str}{od an:Option Addr}{sl:Array (Option Value)}{oc kV dc pm cd ct:Value}
theorem MI.of (a:OZ K (.ref C) m=some (some (.ref f))) (i:isFn K (.ref f)=true) (l:K.lookup f=some ⟨oc,od,.func (Wy m q (hG st) (dX st) (au st) .none kV dc pm an cd ct),sl⟩) (c:Wz K cd q=true) (k:Sy K (.ref f)=true)
  (b:∀kV F pm an z ct,Al ps.length λus=>VT (Wy m q (hG st) (dX st) (au st) .none kV F pm an z ct) ⟨us,[]⟩=pure (ps.zip us)):MI K C m q st ps :=
 ⟨_,_,sO l c k,(sO l c k).binds λ_ _ _ _ _ _=>al (b _ _ _ _ _ _),a,i,k⟩
theorem DI.of (a:VG K OG m=some (some (.ref f))) (l:K.lookup f=some ⟨oc,od,.func (Wy m m (hG st) (dX st) (au st) .none kV dc pm an cd ct),sl⟩) (c:Wz K cd m=true) (k:Sy K (.ref f)=true)
  (b:∀kV F pm an z ct,Al ps.length λus=>VT (Wy m m (hG st) (dX st) (au st) .none kV F pm an z ct) ⟨us,[]⟩=pure (ps.zip us)):DI K m st ps :=
 ⟨_,_,sO l c k,(sO l c k).binds λ_ _ _ _ _ _=>al (b _ _ _ _ _ _),a⟩
inductive CI (K:Om) (C:Addr) (x:Str):Prop
 |mk (_:VG K OG x=some (some (.ref C))) (_:oE K C) (_:makesIn K C=true) (_:Sy K (.ref C)=true):CI K C x
end
inductive XI (K:Om) (C k:Addr) (a:St.XA) (i j m n:Bool):Prop
 |mk (_:excIn K C CU "ValueError.__new__" = true) (_:PySem.W.Ad K C) (_:WD K (.ref C) (.ref k)=some true) (_:Qj K (.ref C) (.type "ValueError")=some true) (_:Qj K (.ref C) (.ref a.nt)=some i) (_:Qj K (.ref C) (.ref a.np)=some j) (_:Qj K (.ref C) (.ref a.nr)=some m) (_:Qj K (.ref C) (.ref a.tk)=some n):XI K C k a i j m n
theorem Kk {K:Om}{mg:Str->Option Value}{a b c d k:Addr}(A:XI K a k ⟨a,b,c,d⟩ true false false false) (B:XI K b k ⟨a,b,c,d⟩ false true false false) (C:XI K c k ⟨a,b,c,d⟩ false false true false) (D:XI K d k ⟨a,b,c,d⟩ false false false true) (U:mg "NoTask" = some (.ref a)) (e2:mg "NoPage" = some (.ref b)) (e3:mg "NoRoom" = some (.ref c)) (e4:mg "Taken" = some (.ref d)) (z:mg "ValueError" = none):NO K mg (jK a b c d)/\∀X,WD K (.ref (jK a b c d X)) (.ref k)=some true:=by
 obtain⟨a1,a2,O,a4,a5,a6,a7,a8⟩:=A;obtain⟨b1,b2,S,L,b5,b6,G,b8⟩:=B;obtain⟨c1,c2,c3,c4,c5,c6,F,c8⟩:=C;obtain⟨d1,I,J,d4,d5,d6,d7,R⟩:=D;refine⟨⟨λX=>?_,z,λX=>?_,λX=>?_,λX Y=>?_⟩,λX=>?_⟩
 .cases X<;>assumption
 .cases X<;>assumption
 .cases X<;>assumption
 .cases X<;>cases Y<;>assumption
 .cases X<;>assumption
theorem MI.md {P:vu}{w:Oe}{K:Om}{mg:Str->Option Value}{base:Heap}{CX:rk}{n:Nat}{C:Addr}{m q:Str}{st:OB}{ps:List Str}{sp:Sp}(h:MI K C m q st ps) (k:∀{f fd},cq K m q st f fd->aG P w K mg base CX n f fd ps sp):Md P w K mg base CX n C m sp:=by
 obtain⟨f,fd,F,b,M⟩:=h;exact Md.mk _ _ _ (k F) b M
theorem DI.df {P:vu}{w:Oe}{K:Om}{mg:Str->Option Value}{base H:Heap}{CX:rk}{n:Nat}{x:Str}{st:OB}{ps:List Str}{sp:Sp}(h:DI K x st ps) (X:K.In H) (G:H.Ns OG mg) (k:∀{f fd},cq K x x st f fd->aG P w K mg base CX n f fd ps sp):Df P w K mg base CX n x sp:=by
 obtain⟨f,fd,F,b,a⟩:=h;exact Df.mk _ _ _ (k F) b (Pe X G a) F.kp
def NI (K:Om):List Str->Prop
 | []=>True
 |x::l=>VG K OG x=some none/\NI K l
def AI (K:Om) (C:Addr):List Str->Prop
 | []=>True
 |x::l=>OZ K (.ref C) x=some none/\AI K C l
theorem all_mk {l:Sb}{w:Oe}{K:Om}{h:Heap}{mg:Str->Option Value}{fa J z L I cQ ab S R U a5 aB:Addr}{hN t8 t9:WQ}{fc:Value}{iN:Option Addr}{nw:Array (Option Value)}{bx:Array Value}{nB:Nat}(X:K.In h) (G:h.Ns OG mg) (lx:mg "law" = some (.ref fa)) :
  CI K J "Store" -> AI K J ["owners","contents"]->MI K J "__init__" "Store.__init__" St.jD ["self","many"]->MI K J "take" "Store.take" St.Dr ["self"]->MI K J "less" "Store.less" St.BQ ["self","n"]->MI K J "more" "Store.more" St.BO ["self","n"]->MI K J "free" "Store.free" St.CG ["self"]->MI K J "count" "Store.count" St.xA ["self","n"]->MI K J "cells" "Store.cells" St.kY ["self","n"]->MI K J "put" "Store.put" St.Hf ["self","n","cells"]->MI K J "refuse_free" "Store.refuse_free" St.ud ["self","n"]->CI K z "Paging" -> AI K z ["frames","slots","places","last_sheet","in_frames"]->MI K z "__init__" "Paging.__init__" St.xT ["self","frames","slots"]->MI K z "new_sheet" "Paging.new_sheet" St.mR ["self","cells"]->MI K z "share" "Paging.share" St.yw ["self","sheet"]->MI K z "leave" "Paging.leave" St.xf ["self","sheet"]->MI K z "cells" "Paging.cells" St.tm ["self","sheet"]->MI K z "change" "Paging.change" St.uz ["self","sheet","cells"]->MI K z "fetch" "Paging.fetch" St.xJ ["self","sheet"]->MI K z "bring_in" "Paging.bring_in" St.qZ ["self","sheet","moved"]->MI K z "put_out" "Paging.put_out" St.uW ["self","sheet"]->MI K z "place" "Paging.place" St.yI ["self","sheet"]->MI K z "number_of" "Paging.number_of" St.mK ["self","sheet"]->MI K z "store_of" "Paging.store_of" St.qr ["self","sheet"]->MI K z "count" "Paging.count" St.tM ["self","sheet"]->CI K L "Table" -> AI K L ["first_step"]->MI K L "__init__" "Table.__init__" Tb.jD ["self"]->MI K L "get" "Table.get" Tb.HU ["self","page"]->MI K L "lay" "Table.lay" Tb.Hg ["self","page","entry"]->MI K L "clear" "Table.clear" Tb.xj ["self","page"]->MI K L "pages" "Table.pages" Tb.xO ["self"]->CI K I "Rooms" -> AI K I ["paging","total","rooms"]->MI K I "__init__" "Rooms.__init__" St.xK ["self","frames","slots"]->MI K I "begin" "Rooms.begin" St.pG ["self","task"]->MI K I "close" "Rooms.close" St.pb ["self","task"]->MI K I "map" "Rooms.map" St.yR ["self","task","page","many"]->MI K I "drop" "Rooms.drop" St.tQ ["self","task","page","many"]->MI K I "peek" "Rooms.peek" St.tI ["self","task","address","many"]->MI K I "poke" "Rooms.poke" St.tY ["self","task","address","cells"]->MI K I "copy" "Rooms.copy" St.sR ["self","task","other"]->MI K I "held" "Rooms.held" St.yJ ["self"]->MI K I "leave_pages" "Rooms.leave_pages" St.tR ["self","table","pages"]->MI K I "cells_of" "Rooms.cells_of" St.tU ["self","entry"]->MI K I "sheet_with" "Rooms.sheet_with" St.ui ["self","entry","cells"]->CI K cQ "PlainRooms" -> AI K cQ ["total","rooms"]->MI K cQ "__init__" "PlainRooms.__init__" Pr.jD ["self","total"]->MI K cQ "begin" "PlainRooms.begin" Pr.yD ["self","task"]->MI K cQ "close" "PlainRooms.close" Pr.xB ["self","task"]->MI K cQ "map" "PlainRooms.map" Pr.Js ["self","task","page","many"]->MI K cQ "drop" "PlainRooms.drop" Pr.C1 ["self","task","page","many"]->MI K cQ "peek" "PlainRooms.peek" Pr.DE ["self","task","address","many"]->MI K cQ "poke" "PlainRooms.poke" Pr.DV ["self","task","address","cells"]->MI K cQ "copy" "PlainRooms.copy" Pr.oa ["self","task","other"]->MI K cQ "held" "PlainRooms.held" Pr.C5 ["self"]->DI K "lift" St.C6 ["store","n"]->DI K "settle" St.ur ["store","moved"]->DI K "own_copy" Tb.oa ["value"]->DI K "room_of" St.oN ["rooms","task"]->DI K "refuse_second_room" St.pz ["rooms","task"]->DI K "refuse_above" St.uI ["held","total"]->DI K "pages_from" Rm.iU ["page","many"]->DI K "refuse_unmapped" Rm.jY ["mapped","pages"]->DI K "pages_to_map" Rm.uJ ["mapped","page","many"]->DI K "pages_to_drop" Rm.oZ ["mapped","page","many"]->DI K "pages_of_cells" Rm.ma ["mapped","address","many"]->DI K "run_within" Rm.tL ["whole","address","many"]->DI K "pages_with" Rm.C9 ["whole","address","cells"]->DI K "cells_of_pages" Pr.kY ["room","pages"]->DI K "_law_number" Pr.uT ["_law_cell","_law_k","_law_digits"]->DI K "_law_tasks" Pr.yd ["_law_cell"]->DI K "_law_page" Pr.BW ["_law_rest"]->DI K "_law_many" Pr.B0 ["_law_rest"]->DI K "_law_address" Pr.qt ["_law_rest"]->DI K "_law_cells" Pr.pK ["_law_rest"]->DI K "_law_deed" Pr.BN ["_law_number_here","_law_tasks_here"]->DI K "_law_do" Pr.LJ ["_law_rooms","_law_deed_here"]->DI K "_law_word" Pr.jo ["_law_caught"]->DI K "_law_told" Pr.zN ["_law_rooms","_law_deed_here"]->DI K "_law_same" Pr.BK ["_law_found","_law_due"]->DI K "_law_start" Pr.xF ["_law_script","_law_one","_law_other","_law_tasks_here"]->DI K "_law_sizes" Pr.yy ["_law_first"]->DI K "_law_walked" Pr.uE ["_law_one","_law_other","_law_tasks_here"]->DI K "law" Pr.HL ["_law_script"]->VG K OG "ROOM_PAGES" = some (some (.int 64 hN))->VG K OG "PAGE_CELLS" = some (some (.int 8 t8))->VG K OG "STEP_PAGES" = some (some (.int 8 t9))->NI K ["range","enumerate","sum","int","isinstance","min","max","list","len","dict","bool","tuple","sorted","all","any","zip","ValueError"]->VG K OG "NoTask" = some (some (.ref ab))->VG K OG "NoPage" = some (some (.ref S))->VG K OG "NoRoom" = some (some (.ref R))->VG K OG "Taken" = some (some (.ref U))->Pr.Fc ⟨I,z,J,L⟩/\cQ≠z->VG K OG "KernelError" = some (some (.ref a5))->XI K ab a5 ⟨ab,S,R,U⟩ true false false false->XI K S a5 ⟨ab,S,R,U⟩ false true false false->XI K R a5 ⟨ab,S,R,U⟩ false false true false->XI K U a5 ⟨ab,S,R,U⟩ false false false true->VG K OG "BLANK" = some (some (.ref aB))->K.lookup aB=some ⟨fc,iN,.seq bx nB,nw⟩->fc=.type "tuple" -> Vals [V.str "blank"] bx.toList->bx.size<=1 ->
  ∃fd:t7,(∀(s:se) (v:Value),UC s fd ⟨[v],[]⟩ [("_law_script",v)])/\∀base:Heap,K.In base->base.Ns OG mg->aG l.prog w K mg base aY 14 fa fd ["_law_script"] (wH K):=by
 intro h0 h1 h2 h3 h4 h5 h6 h7 h8 h9 nb g1 j0 hm gm ih kd m3 jr l2 l8 fD n4 mp i5 lw hT k1 l5 i6 mu go jt hB g7 it n3 iv i7 gl kk m2 i1 ef kR ht k3 l9 k0 lm hS kn f4 hh g4 g3 hC m1 me i2 fv c5 ee c8 db eu c4 e4 c1 dV dr hK mt nI hq gd ln ho nR mm hX dp hI gs f2 mv ha q0 q1 q2 hQ dm et ch d4 fT d8 dd dj eP ez yB lB oB vB wB;obtain⟨ji,n0,fA,j1⟩:=h0;obtain⟨hy,hb,_⟩:=h1;obtain⟨f1,d1,F1,b1,M1⟩:=h2;obtain⟨lf,i8,nl,nq⟩:=g1;obtain⟨jp,g5,kP,n6,ia,_⟩:=j0;obtain⟨ot,ov,j3,ls,e2⟩:=hm;obtain⟨em,kr,ci,dI⟩:=hT;obtain⟨k7,_⟩:=k1;obtain⟨qn,ro,hP,ea,bf⟩:=l5;obtain⟨kE,n5,ga,i9⟩:=hB;obtain⟨nP,nk,na,_⟩:=g7;obtain⟨o6,qa,hc,ns,d0⟩:=it;obtain⟨o0,op,ft,dS,ey⟩:=n3;obtain⟨re,oI,c6,mn,hu⟩:=iv;obtain⟨rp,p3,fw,fH,hn⟩:=i7;obtain⟨oe,pr,ep,k9,lv⟩:=gl;obtain⟨ri,pp,e8,nL,hY⟩:=kk;obtain⟨rf,oh,eH,mw,n1⟩:=m2;obtain⟨qj,pa,e9,nF,hz⟩:=i1;obtain⟨qk,rg,k8,k6,nS⟩:=id ef;obtain⟨jb,f8,mB,m6⟩:=l9;obtain⟨mH,nn,_⟩:=k0;obtain⟨ql,oR,hj,l3,dM⟩:=lm;obtain⟨qb,p0,fI,dR,ec⟩:=hS;obtain⟨rm,oo,fO,m4,lN⟩:=kn;obtain⟨pe,oz,hH,kw,io⟩:=f4;obtain⟨on,oF,lp,ka,nO⟩:=hh;obtain⟨o9,pT,l7,ik,hW⟩:=g4;obtain⟨rs,o1,g0,f0,gb⟩:=g3;obtain⟨pu,o3,la,mN,lr⟩:=hC;obtain⟨o4,o2,ko,bd,bm⟩:=m1;obtain⟨pD,oT,ao,ap,as⟩:=id c5;obtain⟨oA,ob,bc,ce,bI⟩:=id ee;obtain⟨rn,o7,ba,ca,b3⟩:=id c8;obtain⟨q6,q4,bl,fo,dn⟩:=id c4;obtain⟨pk,qs,be,eh,da⟩:=id e4;obtain⟨qi,ol,a6,b7,b5⟩:=id c1;obtain⟨o5,p7,ev,ki,kv⟩:=id dV;obtain⟨q9,n8,eo,k4,hd⟩:=id dr;obtain⟨oL,pH,b8,dl,er⟩:=hK;obtain⟨pi,q7,fu,g6,j2⟩:=hq;obtain⟨pw,qc,dA,g9,hM⟩:=gd;obtain⟨oD,pl,ek,nr,lc⟩:=ln;obtain⟨o8,rb,e5,f3,ms⟩:=ho;obtain⟨po,rc,bz,c3,d5⟩:=mm;obtain⟨n9,ra,b6,c2,d6⟩:=hX;obtain⟨rr,gt,eq,pd,g8⟩:=ha;obtain⟨fi,k5,b4,nd,en,hp,q3,aT,a3,dC,lA,hl,dH,py,om,eb,hw,_⟩:=hQ;obtain⟨nC,nQ⟩:=fT;have e:=lx.symm.trans (Pe X G g8);cases e;refine⟨gt,λs v=>?_,λbase _ _=>?_⟩
 .obtain⟨oc,od,kV,pn,pm,an,q5,ct,qw,rfl,lk,og⟩:=eq.ex;exact .of_eq rfl
 have TS:St.Txt K mg J:=⟨n0,hy,hb,OC X G a3,OC X G aT,⟨_,Pe X G q1,⟨_,rfl⟩⟩⟩;have TT:Tb.Txt K mg L:=⟨kr,k7,⟨_,Pe X G q2,⟨_,rfl⟩⟩⟩;have TQ:Tb.Ec mg:=⟨OC X G en,OC X G hl,OC X G aT,OC X G dC,OC X G a3,OC X G dH⟩;have SX:Rm.vA mg:=⟨⟨_,Pe X G q0,⟨_,rfl⟩⟩,⟨_,Pe X G q1,⟨_,rfl⟩⟩,OC X G aT,OC X G fi,OC X G a3⟩;have TP:St.uw K mg z:=⟨i8,jp,g5,kP,n6,ia,OC X G aT⟩;have O:St.rj K mg ⟨I,z,J,L⟩:=⟨n5,nP,nk,na,⟨aB,Pe X G yB,.inr ⟨_,bx,nB,lB,oB,rfl,Oy wB aq,vB⟩⟩,⟨_,Pe X G q1,⟨_,rfl⟩⟩,OC X G a3,OC X G b4,OC X G eb⟩;have MT:Pr.wd mg:=⟨OC X G fi,OC X G k5,OC X G b4,OC X G nd,OC X G en,OC X G hp,OC X G aT,OC X G a3,OC X G dC,OC X G lA,OC X G dH⟩;have PT:Pr.Txt K mg cQ:=⟨f8,mH,nn,OC X G a3,OC X G aT,OC X G b4,OC X G eb⟩;have he:Rm.qm K mg "NoTask" ab:=⟨Pe X G dm,by obtain⟨h,_⟩:=dd;exact h⟩;have cc:Rm.qm K mg "NoPage" S:=⟨Pe X G et,by obtain⟨h,_⟩:=dj;exact h⟩;have jf:Rm.qm K mg "NoRoom" R:=⟨Pe X G ch,by obtain⟨h,_⟩:=eP;exact h⟩;have c9:Rm.qm K mg "Taken" U:=⟨Pe X G d4,by obtain⟨h,_⟩:=ez;exact h⟩;have f5:=St.mj (P:=l.prog) (w:=w) (base:=base) F1 TS;have a8:=h7.md λF=>St.CQ (P:=l.prog) (w:=w) (base:=base) F TS;have bv:=nb.md λF=>St.zT F TS a8;have fl:=h4.md λF=>St.FU F TS bv;have fx:=h8.md λF=>St.Ep F TS bv;have e0:=h9.md λF=>St.Ir F TS bv;have dL:=h5.md λF=>St.FI F TS bv;have hr:=h3.md λF=>St.EV (P:=l.prog) (w:=w) (base:=base) F TS;have fy:=h6.md λF=>St.Fb (P:=l.prog) (w:=w) (base:=base) F TS;have nT:=fv.df X G λF=>Tb.BH (P:=l.prog) (w:=w) (base:=base) F TQ;have GC:=fv.df X G λF=>Tb.uf F TQ nT;have cg:=Tb.mj (P:=l.prog) (w:=w) (base:=base) hP TT;have bi:=i6.md λF=>Tb.IP F TT GC;have bH:=mu.md λF=>Tb.Hb F TT GC;have m8:=go.md λF=>Tb.CJ (P:=l.prog) (w:=w) (base:=base) F TT TQ;have ac:=jt.md λF=>Tb.DF (P:=l.prog) (w:=w) (base:=base) F TT TQ;have GP:=db.df X G λF=>Rm.uc (P:=l.prog) (w:=w) (base:=base) F SX;have GU:=eu.df X G λF=>Rm.u9 (P:=l.prog) (w:=w) (base:=base) (mg:=mg) F;have GM:=c4.df X G λF=>Rm.lO F GP;have GD:=e4.df X G λF=>Rm.jW F GP GU;have GO:=c1.df X G λF=>Rm.iJ F SX GP GU;have ge:=dV.df X G λF=>Rm.rR (P:=l.prog) (w:=w) (base:=base) F SX;have nc:=dr.df X G λF=>Rm.zl (P:=l.prog) (w:=w) (base:=base) F SX;have fk:=me.df X G λF=>St.F8 F TS fx a8 fl;have eC:=i2.df X G λF=>St.AX F TS hr e0 a8 dL;have bY:=n4.md λF=>St.Ey (CS:=J) (P:=l.prog) (w:=w) (base:=base) F TP;have a4:=mp.md λF=>St.vt F TP bY;have bn:=i5.md λF=>St.yf F TP bY;have kN:=lw.md λF=>St.Ap F TP TS bn a4 a8;have ib:=m3.md λF=>St.An F TP TS bn a4 fx;have nz:=fD.md λF=>St.yg F TP fk eC a4;have d2:=l8.md λF=>St.vv F TP TS fy nz eC;have cr:=gm.md λF=>St.uA F TP TS fy d2;have cw:=l2.md λF=>St.Ci F TP bY d2 fk;have hO:=ih.md λF=>St.Ek F TP TS bn a4 dL;have eA:=kd.md λF=>St.Dy F TP TS bn a4 fl a8;have l0:=jr.md λF=>St.zY F TP TS kN cr eA cw a4 e0;have n7:=St.Bm j3 TP ⟨fA,M1.at_,M1.fn,j1⟩ (Pe X G ji) f5 b1;have am:=c5.df X G λF=>St.jX (P:=l.prog) (w:=w) (base:=base) (mg:=mg) F;have GS:=ee.df X G λF=>St.kg (P:=l.prog) (w:=w) (base:=base) (mg:=mg) F;have GA:=c8.df X G λF=>St.mE (P:=l.prog) (w:=w) (base:=base) (mg:=mg) F;have l6:=St.El (c:=⟨I,z,J,L⟩) hc O ⟨nl,e2.at_,e2.fn,nq⟩ (Pe X G lf) n7 ls;have bV:=kR.md λF=>St.rq (c:=⟨I,z,J,L⟩) F O TT TP bi m8 eA;have d7:=ht.md λF=>St.kH (c:=⟨I,z,J,L⟩) F O TP ib;have hE:=k3.md λF=>St.uh (c:=⟨I,z,J,L⟩) F O TP cr l0;have a7:=ef.md λF=>St.vS (c:=⟨I,z,J,L⟩) F O TT ac;have hL:=St.uu (P:=l.prog) (w:=w) (base:=base) (c:=⟨I,z,J,L⟩) ep O TT am GD ac bV;have hF:=St.z7 (P:=l.prog) (w:=w) (base:=base) (c:=⟨I,z,J,L⟩) c6 O TT am ac bV;have eN:=St.Ak (P:=l.prog) (w:=w) (base:=base) (c:=⟨I,z,J,L⟩) ft O ⟨ci,bf.at_,bf.fn,dI⟩ (Pe X G em) GS cg ea;have l4:=St.EX (P:=l.prog) (w:=w) (base:=base) (c:=⟨I,z,J,L⟩) fw O TT am GM GA ac a7 bH;have kQ:=St.CF (P:=l.prog) (w:=w) (base:=base) (c:=⟨I,z,J,L⟩) e8 O TT TP am GO ge ac bi cw d7;have ne:=St.B2 (P:=l.prog) (w:=w) (base:=base) (c:=⟨I,z,J,L⟩) eH O TT am GO nc ac bi bH d7 hE;have gw:=St.Dd (P:=l.prog) (w:=w) (base:=base) (c:=⟨I,z,J,L⟩) e9 O TT TP ⟨ci,bf.at_,bf.fn,dI⟩ (Pe X G em) am GS GA cg ea ac a7 bi bH hO;have i0:=St.vS (P:=l.prog) (w:=w) (base:=base) (c:=⟨I,z,J,L⟩) k8 O TT ac;have b0:=db.df X G λF=>Rm.rF (P:=l.prog) (w:=w) (base:=base) F SX cc;have e3:=eu.df X G λF=>Rm.uo (P:=l.prog) (w:=w) (base:=base) F cc;have c0:=Rm.AY bl c9 GP b0;have ii:=Df.mk _ _ _ c0 fo (Pe X G dn) bl.kp;have ew:=Rm.xW be GP b0 e3;have i3:=Df.mk _ _ _ ew eh (Pe X G da) be.kp;have c7:=Rm.vO a6 SX cc GP b0 e3;have e6:=Df.mk _ _ _ c7 b7 (Pe X G b5) a6.kp;have dD:=St.x8 (P:=l.prog) (w:=w) (base:=base) ao he;have a0:=Df.mk _ _ _ dD ap (Pe X G as) ao.kp;have e1:=St.yp (P:=l.prog) (w:=w) (base:=base) bc c9;have ei:=Df.mk _ _ _ e1 ce (Pe X G bI) bc.kp;have ej:=St.Ab (P:=l.prog) (w:=w) (base:=base) ba jf;have dT:=Df.mk _ _ _ ej ca (Pe X G b3) ba.kp;have lb:=St.xt (c:=⟨I,z,J,L⟩) (xa:=Pr.ly (Pr.jK ab S R U)) ft O ei;have hD:=St.yA (c:=⟨I,z,J,L⟩) (xa:=Pr.ly (Pr.jK ab S R U)) c6 O a0;have nt:=St.Ef (c:=⟨I,z,J,L⟩) (xa:=Pr.ly (Pr.jK ab S R U)) fw O TT a0 am GM ii dT ac a7;have mb:=St.Ax (c:=⟨I,z,J,L⟩) (xa:=Pr.ly (Pr.jK ab S R U)) ep O TT a0 am i3 ac bV;have nf:=St.zO (c:=⟨I,z,J,L⟩) (xa:=Pr.ly (Pr.jK ab S R U)) e9 O TT a0 am ei GS dT ac a7;have je:=St.zP (c:=⟨I,z,J,L⟩) (xa:=Pr.ly (Pr.jK ab S R U)) e8 O TT a0 am e6 ac;have hR:=St.Ao (c:=⟨I,z,J,L⟩) (xa:=Pr.ly (Pr.jK ab S R U)) eH O TT a0 am e6 ac
 let KR:Pr.Ku l.prog w K mg base ⟨I,z,J,L⟩ (Pr.jK ab S R U):=⟨_,_,_,_,_,_,_,_,_,_,_,_,_,_,_,_,O.cl,(eN.cx.mono aq).or (lb.mono aq),dS,ey,(hF.cx.mono aq).or (hD.mono aq),mn,hu,(l4.cx.mono aq).or (nt.mono aq),fH,hn,(hL.cx.mono aq).or (mb.mono aq),k9,lv,(kQ.cx.mono aq).or (je.mono aq),nL,hY,(ne.cx.mono aq).or (hR.mono aq),mw,n1,(gw.cx.mono aq).or (nf.mono aq),nF,hz,i0,k6,nS⟩
 have PR:=Pr.jX (St.jX (P:=l.prog) (w:=w) (base:=base) (mg:=mg) ao) dD;have PS:=Pr.kg (St.kg (P:=l.prog) (w:=w) (base:=base) (mg:=mg) bc) e1;have PA:=Pr.mE (St.mE (P:=l.prog) (w:=w) (base:=base) (mg:=mg) ba) ej;have PM:=Pr.lO (Rm.lO bl GP) c0;have PD:=Pr.jW (Rm.jW be GP GU) ew;have PO:=Pr.iJ (Rm.iJ a6 SX GP GU) c7;have hA:=Rm.rR (P:=l.prog) (w:=w) (base:=base) ev SX;have hf:=Rm.zl (P:=l.prog) (w:=w) (base:=base) eo SX;have PC:=Pr.kH (P:=l.prog) (w:=w) (base:=base) (mg:=mg) b8;have PH:=Pr.Fs (P:=l.prog) (w:=w) (base:=base) ko PT;have PI:=Pr.mj (P:=l.prog) (w:=w) (base:=base) hj PT;have el:=Pr.Cy fI PT PS ⟨Pe X G bI,bc.kp,ce⟩;have hv:=Pr.DY fO PT PR ⟨Pe X G as,ao.kp,ap⟩;have nM:=Pr.Ht hH PT SX PR ⟨Pe X G as,ao.kp,ap⟩ PM ⟨Pe X G dn,bl.kp,fo⟩ PA ⟨Pe X G b3,ba.kp,ca⟩ PH bd bm;have hk:=Pr.uu lp PT PR ⟨Pe X G as,ao.kp,ap⟩ PD ⟨Pe X G da,be.kp,eh⟩;have ld:=Pr.FC l7 PT PR ⟨Pe X G as,ao.kp,ap⟩ PO ⟨Pe X G b5,a6.kp,b7⟩ PC ⟨Pe X G er,b8.kp,dl⟩ hA ⟨Pe X G kv,ev.kp,ki⟩;have kT:=Pr.FL g0 PT PR ⟨Pe X G as,ao.kp,ap⟩ PO ⟨Pe X G b5,a6.kp,b7⟩ PC ⟨Pe X G er,b8.kp,dl⟩ hf ⟨Pe X G hd,eo.kp,k4⟩;have ny:=Pr.uf la PT PR ⟨Pe X G as,ao.kp,ap⟩ PS ⟨Pe X G bI,bc.kp,ce⟩ PA ⟨Pe X G b3,ba.kp,ca⟩ PH bd bm
 let KQ:Pr.NS l.prog w K mg base cQ (Pr.jK ab S R U):=⟨_,_,_,_,_,_,_,_,_,_,_,_,_,_,_,_,PT.cl,el,dR,ec,hv,m4,lN,nM,kw,io,hk,ka,nO,ld,ik,hW,kT,f0,gb,ny,mN,lr,PH,bd,bm⟩
 obtain⟨OT,d3⟩:=Pr.Kk dd dj eP ez (Pe X G dm) (Pe X G et) (Pe X G ch) (Pe X G d4) (OC X G hw);have lz:=mt.df X G λF=>Pr.Az (P:=l.prog) (w:=w) (base:=base) (mg:=mg) F;have im:=nI.df X G λF=>Pr.DK (P:=l.prog) (w:=w) (base:=base) (mg:=mg) F;have hg:=Pr.Fe (P:=l.prog) (w:=w) (base:=base) (mg:=mg) fu;have k2:=Pr.Ft (P:=l.prog) (w:=w) (base:=base) (mg:=mg) dA;have il:=Pr.xZ (P:=l.prog) (w:=w) (base:=base) (mg:=mg) ek;have l1:=Pr.yo (P:=l.prog) (w:=w) (base:=base) e5 MT;have iF:=nR.df X G λF=>Pr.FD F MT hg ⟨Pe X G j2,fu.kp,g6⟩ k2 ⟨Pe X G hM,dA.kp,g9⟩ il ⟨Pe X G lc,ek.kp,nr⟩ l1 ⟨Pe X G ms,e5.kp,f3⟩;have m0:=Pr.HX bz KR;have f7:=Pr.J5 bz KQ;have fe:=λhx:Addr=>Pr.Fg (e:=hx) (P:=l.prog) (w:=w) (base:=base) b6 MT OT;have e7:=dp.df X G λF=>Pr.Cp F (Pe X G d8) d3 m0 ⟨Pe X G d5,bz.kp,c3⟩ fe ⟨Pe X G d6,b6.kp,c2⟩;have fr:=dp.df X G λF=>Pr.FR F (Pe X G d8) d3 f7 ⟨Pe X G d5,bz.kp,c3⟩ fe ⟨Pe X G d6,b6.kp,c2⟩;have dO:=hI.df X G λF=>Pr.FA (P:=l.prog) (w:=w) (base:=base) F MT;have fM:=f2.df X G λF=>Pr.Bz (P:=l.prog) (w:=w) (base:=base) (mg:=mg) F;have ni:=Md.mk _ _ _ eN dS ey;have g2:=Md.mk _ _ _ el dR ec;have i4:=Md.mk _ _ _ PH bd bm;have nv:=gs.df X G λF=>Pr.Dc F MT O PT.cl nC nQ ni g2;have n2:=mv.df X G λF=>Pr.zU F MT nC nQ e7 fr dO;exact Pr.Hq eq MT O PT.cl nC nQ ⟨ga,d0.at_,d0.fn,i9⟩ (Pe X G kE) l6 ns ⟨mB,dM.at_,dM.fn,m6⟩ (Pe X G jb) PI l3 im fM lz iF e7 fr dO a7 i4 nv n2
theorem walk {l:Sb}{q:vu}{loose:List Str}{XP:(Str->Option Value)->Heap->Prop}{G:Oe->Heap->Prop}{d:DefRec}{K:Params->Om}(L:l.most=some 63) (S:d.params.defaults=[])
  (J:∀(w:Oe) (h:Heap),G w h->(K w.params).In h)
  (F:∀(w:Oe) (mg:Str->Option Value) (I:Addr) (h:Heap),(K w.params).In h->h.Ns OG mg->mg d.name=some (.ref I) ->
   ∃fd:t7,(∀(s:se) (u:Value),UC s fd ⟨[u],[]⟩ [("_law_script",u)])/\∀base:Heap,(K w.params).In base->base.Ns OG mg->aG l.prog w (K w.params) mg base aY 14 I fd ["_law_script"] (wH (K w.params))) :
  VJ q loose XP G l.row.toRowW d [] (λf vs=>V0 f vs):=
 L2.Fp (n:=63) (k:=14) (x := "_law_script") (CX:=λ_=>aY) (sp:=λw=>wH (K w.params)) L aq S ⟨rfl,aq,aq⟩ J F (λ_ _ a R U _ O=>⟨a,R,rfl,O,U,λ_=>rfl⟩) λ_ _ _ _ _ z=>z
end Pr
open PySem PySem.W PyProof.Rows
theorem PySem.Challenge.cw_ownroom_k90_whole_paged_as_plain_holds : PySem.Challenge.rw_ownroom_k90_whole_paged_as_plain.Holds := by
 refine Hd.top ⟨Hd.Ga (H:=boot_heap) (T:=Hd.Gw) (life:={}) (m:=11) (M:=100000) (gs:=Array.mk []) (d:=boot_drawn) (k:=boot_toks) (an:=some (.ref 6)) (boot_open (by kernel_rfl) aq (λs=>by kernel_rfl)) (λP=>by kernel_rfl) (λw=>by kernel_rfl) aq (λw os=>Hd.run_ w os),?_⟩
 k_fill
 refine Pr.walk (l:=PySem.Challenge.rw_ownroom_k90_whole_paged_as_plain) rfl rfl (λw h Y=>PySem.W.kIn_of Y) ?F
 case F =>
  intro w mg fa h KX G hmg;apply Pr.all_mk KX G hmg
  all_goals first
   |(apply Pr.MI.of<;>first|k_is|(first|exact λ_ _ _ _ _ _ _=>rfl|exact λ_ _ _ _ _ _ _ _=>rfl|exact λ_ _ _ _ _ _ _ _ _=>rfl|exact λ_ _ _ _ _ _ _ _ _ _=>rfl|exact λ_ _ _ _ _ _ _ _ _ _ _=>rfl))
   |(apply Pr.DI.of<;>first|k_is|(first|exact λ_ _ _ _ _ _ _=>rfl|exact λ_ _ _ _ _ _ _ _=>rfl|exact λ_ _ _ _ _ _ _ _ _=>rfl|exact λ_ _ _ _ _ _ _ _ _ _=>rfl|exact λ_ _ _ _ _ _ _ _ _ _ _=>rfl))
   |(apply Pr.CI.mk;k_is;(constructor<;>k_is);k_is;k_is)
   |(unfold Pr.NI;repeat' first|apply And.intro|exact trivial|k_is|unfold Pr.NI)
   |(unfold Pr.AI;repeat' first|apply And.intro|exact trivial|k_is|unfold Pr.AI)
   |(apply Pr.XI.mk<;>first|k_exc|kts_exm|kit_is|(constructor<;>k_is))
   |(refine⟨⟨?_,?_,?_⟩,?_⟩<;>decide)
   |k_is|rfl|exact .cons ⟨_,rfl⟩ .nil|exact le_refl 1
