import PyProof.Rows.All
import Wide.All
import OpenK.AllK
import Wide.FinOn
import Lean
import PyProof.EqAt
import PyProof.EqKinds
import PyProof.TupleCall
import PySem.Challenge.RW_ownroom_k16_put_out_and_fetched
inductive BD {α β:Type}(p:α->β->Prop):Prop
 |mk (x0:α) (x1:β) (_:p x0 x1):BD p
inductive Hb {α β γ:Type}(p:α->β->γ->Prop):Prop
 |mk (x0:α) (x1:β) (x2:γ) (_:p x0 x1 x2):Hb p
inductive Iv {α β γ δ:Type}(p:α->β->γ->δ->Prop):Prop
 |mk (x0:α) (x1:β) (x2:γ) (x3:δ) (_:p x0 x1 x2 x3):Iv p
inductive BF {α β γ δ ε:Type}(p:α->β->γ->δ->ε->Prop):Prop
 |mk (x0:α) (x1:β) (x2:γ) (x3:δ) (x4:ε) (_:p x0 x1 x2 x3 x4):BF p
inductive Gu {α β γ δ ε ζ:Type}(p:α->β->γ->δ->ε->ζ->Prop):Prop
 |mk (x0:α) (x1:β) (x2:γ) (x3:δ) (x4:ε) (x5:ζ) (_:p x0 x1 x2 x3 x4 x5):Gu p
inductive r9 (A0 A1 A2:Prop):Prop
 |mk (_:A0) (_:A1) (_:A2):r9 A0 A1 A2
inductive Fg (A0 A1 A2 A3:Prop):Prop
 |mk (_:A0) (_:A1) (_:A2) (_:A3):Fg A0 A1 A2 A3
inductive FT (A0 A1 A2 A3 A4:Prop):Prop
 |mk (_:A0) (_:A1) (_:A2) (_:A3) (_:A4):FT A0 A1 A2 A3 A4
inductive Bw (A0 A1 A2 A3 A4 A5:Prop):Prop
 |mk (_:A0) (_:A1) (_:A2) (_:A3) (_:A4) (_:A5):Bw A0 A1 A2 A3 A4 A5
inductive IQ (A0 A1 A2 A3 A4 A5 A6:Prop):Prop
 |mk (_:A0) (_:A1) (_:A2) (_:A3) (_:A4) (_:A5) (_:A6):IQ A0 A1 A2 A3 A4 A5 A6
inductive ID (A0 A1 A2 A3 A4 A5 A6 A7:Prop):Prop
 |mk (_:A0) (_:A1) (_:A2) (_:A3) (_:A4) (_:A5) (_:A6) (_:A7):ID A0 A1 A2 A3 A4 A5 A6 A7
inductive HE (A0 A1 A2 A3 A4 A5 A6 A7 A8 A9 A10:Prop):Prop
 |mk (_:A0) (_:A1) (_:A2) (_:A3) (_:A4) (_:A5) (_:A6) (_:A7) (_:A8) (_:A9) (_:A10):HE A0 A1 A2 A3 A4 A5 A6 A7 A8 A9 A10
inductive Ia (A0 A1 A2 A3 A4 A5 A6 A7 A8 A9 A10 A11 A12:Prop):Prop
 |mk (_:A0) (_:A1) (_:A2) (_:A3) (_:A4) (_:A5) (_:A6) (_:A7) (_:A8) (_:A9) (_:A10) (_:A11) (_:A12):Ia A0 A1 A2 A3 A4 A5 A6 A7 A8 A9 A10 A11 A12
theorem bW {α G I:Sort _}{f:α->G->I}(a:α) (b:G):f a b=f a b:=rfl
theorem Ge:1<=PySem.sizeLine:=by(decide)
theorem dZ:2<=PySem.sizeLine:=by(decide)
theorem HK:3<=PySem.sizeLine:=by(decide)
theorem oE:4<=PySem.sizeLine:=by(decide)
theorem JY:5<=PySem.sizeLine:=by(decide)
theorem Gk:(0:Int)<2:=by(decide)
theorem GQ:(0:Int)<3:=by(decide)
theorem DQ:(0:Int)<4:=by(decide)
theorem vz:(0:Int)<8:=by(decide)
set_option Elab.async false
set_option linter.all false
set_option tactic.hygienic false
set_option maxRecDepth 100000
set_option maxHeartbeats 0
local macro_rules | `(tactic| omega) => `(tactic| lia)
theorem ao {p:Prop}(h:p:=by decide +kernel):p:=h
theorem av {p:Prop}(h:p:=by decide):p:=h
theorem af {p:Prop}(h:p:=by omega):p:=h
open PySem.W (instObj lookIn handedIn isFn plainOver takerIn makesIn emptyDict kitx_list kitx_tuple kitx_dict callWith_K0 KdlSrc kdl_dict)
open List (replicate all_cons foldl map_take filter)
open Nat (le_refl)
open Option (getD_none map_some bind_some isNone)
open Array (toList)
open PySem
open _root_.PySem.W renaming Frag->iF,mg_none_of->KS,kitOne->NL,kia_one->NV,OpenLaw->Oi,findIn->OE,cellsFrom_some->PK,mg_of->P4,methodCall_KW->P7,keepIn->Qj,plainGet_of->Rv,WalkO->RJ,plainGet->RQ,callWith_K->RU,methodObj->SH,hasDictIn->SK,fnOf->SR,codeIn->SS,nsIn->Tu
open _root_.PySem renaming wpAny_bind->iN,Shared->ll,wpAny_pure->qi,FuncData->qj,Program->rz,sizeLine_eq->vu,World->C1,Around->KY,Expr->KZ,Stmt->K4,bootBuiltins->K8,mainGlobals->Lm,wpAny_newObj_type->LM,Spec->LS,wpAny_truthy_bool->LV,compareOp->LY,mem_of_lookup->LZ,sysModules->Mf,wpAny_holding->Mj,wpAny_call_entry->Ms,tupleKind_room_in1->Mw,wpAny_passesOwn->MB,Builtin->MJ,wpAny_typeNameOfWhole_keyiter->MQ,wpAny_Call_Name_kw->MU,call_meetsIn->Na,attributeBase->Nh,wpAny_rule->Np,behindInMarks->Nz,wpAny_typeNameOf_keyiter->NJ,wpAny_mono->NK,call_meets->NM,Pos->NO,cLine->NQ,keywordEach->NR,wpAny_callSpecial?_slot->NS,sliceBounds->NT,wpAny_Call_method->N0,tupleKind->N5,wpAny_standAt->Oc,getItem->Od,binaryOp->Oh,wpAny_execs_nil->Om,codeAny->Oy,assignEach->OC,Scope->OW,holding->OY,wpAny_assign_Name->OZ,wpAny_pyIter_list->O8,foldedSetIterable->Pa,seqIndex_of->Pb,wpAny_comprehension_free->Pk,swapsWith->Pn,getMethod->Po,backToKw->Pp,wpAny_Call_method0_late->Px,wpAny_pyNext_range_end->PD,wpAny_pyIter_rangeiter->PF,codeAny_mono->PH,IsPart->PL,wpAny_typeOf->PM,wpAny_getItem_list_neg->PQ,valueAt->PX,letOwnedTupleGo->P1,wpAny_isTrue_Compare1->P6,wpAny_isOneOf_keyiter->Qg,IsRangeIter->Qh,subscripted->Qk,lookup_relabel_local->Qq,wpAny_pyIter_keyiter->Qr,Keyword->Qu,callerA->Qv,evalArgs_none->Qy,assignInOrder->Qz,wpAny_newList->QC,assign->QG,wpAny_pyIter_range->QH,Within->QR,GenState->QS,Sem->QT,standAt->QU,Operator->QV,BindsTo->Q2,wpAny_sequenceKey->Q5,slot_list_getitem->Q6,wpAny_pyIter_enum->Rc,wpAny_pyIter_slot->Rf,wpAny_dictEntries->Rh,wpAny_execs_cons->Ri,wpAny_Dict_empty->Rn,wpAny_pyIter_zip->Ro,wpAny_field->Rw,atKey->Ry,builtinsNs->RL,wpAny_Name->RN,bindName->RO,bindArgs->RS,wpAny_call->RT,callWith->RV,bindL->RW,bindC->RX,typeIs_int->R0,call->Sa,compEnvC->Sl,cellsFrom->SM,seqIndex?->SN,Env->SO,setItem->SQ,CmpOp->Tc,Tok->Tv
open _root_.List renaming getElem?_eq_some_iff->kz,length_map->mu,mem_singleton->nq,mem_append->n7,size_toArray->pq,mem_map->rr,getElem?_map->se,getElem?_eq_getElem->tu,mem_of_getElem?->vr,length_append->wh,mem_cons->BY,not_mem_nil->DD,map_append->DO,length_take->HC,length_cons->KO,range->KR,nodup_cons->KW,mem_append_right->K0,mem_cons_of_mem->K5,pairwise_append->K7,append_assoc->K9,mem_cons_self->La,getElem?_set_ne->Lb,all_eq_true->Lf,mem_range->Lg,length_set->Ll,getElem?_set_self->Ln,getD_eq_getElem?_getD->Lq,length_range->Lr,length_replicate->Lu,length_eq_zero_iff->Lx,getElem?_eq_none->Ly,take_add_one->LA,getElem?_append_right->LC,take_of_length_le->LF,getElem?_append_left->LG,length_singleton->LK,mem_reverse->LL,take_length->LN,idxOf_lt_length_iff->LQ,mem_append_left->LR,getElem_of_mem->LX,getElem_mem->L4,pairwise_iff_getElem->Ma,map_map->Mb,map_cons->Mc,take_append_drop->Mh,count_pos_iff->Mi,length->Mm,length_drop->Mn,filter_cons->Mo,map_congr_left->Mp,nodup_nil->Mt,replicate_succ->Mu,extract_eq_take_drop->Mz,flatten_cons->MD,drop_eq_getElem_cons->ME,ext_getElem?->MY,drop_eq_nil_of_le->Nb,mem_filter->Nc,sum_cons->Ng,length_filter_le->Nj,erase_of_not_mem->Nk,pairwise_map->Nn,getElem?_range->Nq,take_sublist->Nt,perm_append_comm->Nv,any_eq_true->Nw,lookup->NP,getElem_take->NY,reverse_append->NZ,nodup_append->N2,eraseIdxIfInBounds_toArray->N3,find?_cons->Oa,mem_flatMap->Ob,getElem?_take->Of,mem_of_mem_drop->Oj,mem_of_mem_take->Oo,filterMap_cons->Ou,flatMap_append->Ov,length_pos_iff->Ox,drop_sublist->OA,getElem_idxOf->ON,filter_eq_self->OQ,perm_ext_iff_of_nodup->OR,mem_or_eq_of_mem_set->OU,getElem?_zip_eq_some->OV,getElem?_drop->Pj,range_succ->PY,count_cons_of_ne->Qf,any_cons->Ql,mem_iff_getElem->Qn,reverse_reverse->Qp,getElem?_of_mem->Qt,take_zero->Qw,mem_filterMap->QI,append_nil->QJ,length_nil->QM,count_eq_zero->QO,mem_replicate->QP,any_eq_false->QY,getElem_drop->Q8,set_set->Rg,map_fst_zip->Rl,getElem_set->Rr,nodup_range->Rt,nil_append->Rz,filter_map->RD,map_nil->RH,of_mem_zip->RY,drop_drop->Se,take_take->Sf,drop_zero->Sg,take_succ->So,map_drop->SG,all_map->SY,map_set->S0,set->Tj,map_id->Tn,map->To
open _root_.PyProof.Rows renaming wpS_bind->oR,wpS_pure->pa,arrOf->Bd,Keyed->By,pendingOf->KQ,SortSt->Lh,slot_tuple_getitem->Lj,wpS_forRange->Lk,callWith_type1->LD,wpS_mono->Me,numOf->MO,wpS_modify->MV,IntsAre->Nu,oneType'->NA,failedOf->NB,wpS_get->NW,assignInOrder_cons->OD,AllBare->OX,wpS_lift->Pq,envOfC->PJ,subscriptTail_builtinR->PN,pairsOf->PU,pairsOf_size->PV,entry_tuple_getitem->Qx,subscriptTail->QA,listUpdate_at->QB,args_tuple_getitem->QK,assignInOrder_nil->QW,seqEpoch_at->Rx,iadd_int->RE,K_congr->RK,boot_range->RP,Subscript_->RZ,mirror->Sd,size_push'->Sj,isInt_at->Sm,wpS->Ta,stC->Th,isInt->Ti
open _root_.Option renaming map_eq_some_iff->pf,isSome_iff_exists->MG,bind_eq_some_iff->MN,bind_some->Nx,map_eq_none_iff->N1,isSome_map->OO,getD_some->Rq,map_some->Sn,none->Tg
open _root_.Nat renaming le_refl->qs,le_trans->G0,zero_le->KU,lt_of_lt_of_le->K6,ne_of_lt->Lc,le_of_not_lt->Lo,sub_succ_lt_self->Ls,lt_of_le_of_ne->LB,lt_of_lt_of_eq->LH,le_of_add_right_le->Mq,add_lt_of_lt_sub'->My,pred_eq_succ_iff->MF,le_sub_iff_add_le'->MX,one_le_iff_ne_zero->MZ,eq_of_lt_succ_of_not_lt->Nm,lt_irrefl->Nr,lt_of_le_of_lt->NN,add_le_add_iff_left->NU,le_of_lt_succ->NX,lt_succ_self->N7,add_sub_of_le->Oe,lt_succ_of_lt->Og,min_eq_left->Ol,le_succ->Oz,min_eq_right->OB,sub_lt_left_of_lt_add->OS,lt_of_succ_lt->Pe,le_of_succ_le->Pf,le_add_right_of_le->PR,eq_zero_of_not_pos->PZ,add_sub_self_left->Qa,le_sub_of_add_le'->Qb,le_of_ble_eq_true->Qc,add_le_add_right->Qi,sub_one_lt_of_le->Qo,sub_add_cancel->QL,ne_of_gt->QX,le_of_eq->QZ,lt_trans->Q7,succ_le_of_lt->Q9,zero_lt_of_lt->Ra,succ_le_succ->Rj,sub_lt_of_lt->Rk,le_add_right->Rp,le_of_lt->RM,zero_add->Sh,add_le_add->Si,sub_le->SW
open _root_.Ne renaming symm->qw
open _root_.Option.some renaming inj->rn
open _root_.Sum renaming inl->ti,inr->KP
open _root_.Bool renaming false_ne_true->vl,false_eq_true->LU,eq_iff_iff->Nd,and_eq_true->N8,and_false->Qm,and_eq_true_iff->Qs,false_or->SA,or_false->SE
open _root_.PySem.PassesOwn renaming never->D3
open _root_.Int renaming le_of_lt->Ld,emod_lt_of_pos->Li,emod_nonneg->Lp,le_refl->Lz,toNat_natCast->Ml,le_trans->Mr,toNat->N4,toNat_of_nonneg->Ow,lt_of_lt_of_le->OH,lt_of_le_of_lt->OJ,ofNat_lt->SV
open _root_.Array renaming length_toList->LI,toList_append->LO,getElem?_toList->L0,perm_iff_toList_perm->Mv,toList_extract->OL,toList_reverse->OM,toList_push->Pd,size_push->Pr,size_map->Sk
open _root_.PySem.F renaming plainAttrs_list->LJ,slot_list_extend->ML,plainAttrs_dict->Nf,slot_dict_get->NC,slot_dict_itemiterator_iter->ND,slot_list_append->NG,type_list_append->NH,slot_dict_setdefault->Ot,entry_dict_get->OP,plain_extend_loop->OT,slot_dict_values->Pl,type_list_remove->Pm,slot_list_index->Pt,args_dict_get_2->Pu,args_dict_get_3->Pw,slot_dict_items->Py,slot_list_remove->Pz,type_list_extend->PB,slot_dict_pop->Qd,type_dict_get->Qe
open _root_.True renaming intro->LW
open _root_.False renaming elim->Mg
open _root_.Iff renaming mpr->MC,mp->SU
open _root_.List.Perm renaming append_right->MW,append_left->Ni,trans->Oq
open _root_.Eq renaming symm->Nl
open _root_.Classical renaming byContradiction->Ny
open _root_.List.Nodup renaming mem_erase_iff->NF
open _root_.PySem.Data renaming cell->N6,fields->O0,seq->Sb
open _root_.PySem.IsL renaming update->N9
open _root_.PySem.SeqAt renaming EqAt->OG
open _root_.List.Pairwise renaming nil->Pc
open _root_.Prod.mk renaming inj->Ph
open _root_.PySem.SeqAt.EqAt renaming int_str->QD,str_int->QF
open _root_.PyProof.Rows.SortSt renaming mk'->QN
open _root_.PySem.Around renaming under->Q0
open _root_.PySem.Code renaming isFrame->Q1,frames->Tf
open _root_.Prod renaming ext->Q4
open _root_.PySem.SeqAt.RcNeAt renaming lists_lengths->Rb,tuples->Sv,lists->SD
open _root_.Sum.inl renaming inj->Ru
open _root_.Array.Perm renaming refl->RB
open _root_.ForInStep renaming yield->RC
open _root_.PySem.EqMixed renaming eq_bool_str->Sq,eq_str_bool->Sr,ne_bool_str->Ss,ne_str_bool->Su,eq_int_str->Sw,eq_str_int->Sx,ne_int_str->Sy,ne_str_int->Sz
open _root_.PyProof.Rows.LSm renaming kept_iter->SF
open _root_.PyProof.Rows.IsTup renaming new->SJ
open _root_.PySem.Walks renaming range->Td,list->Tt
open _root_.PySem.IsRange renaming new->Te
open _root_.PySem.W.Looks renaming here->Tp
open _root_.PySem.W.WShape renaming has->Tq
open _root_.Or renaming inl->Tr,inr->Ts
theorem Tx {c:Prop}{h:Decidable c}(n:¬c){α:Sort u}{t e:α}:ite c t e=e:=if_neg n
theorem Tz {c:Prop}{h:Decidable c}(n:c){α:Sort u}{t e:α}:ite c t e=t:=if_pos n
section
local macro_rules|`(tactic|show $t)=>`(tactic|refine $t)
open Lean in
local macro_rules|`(#[$xs,*])=>do
 let T:=([← `(⟨_,rfl⟩),← `(⟨rfl,rfl⟩),← `(⟨_,_⟩),← `(⟨?_,?_⟩),← `(⟨rfl,_⟩),← `(⟨rfl,?_⟩)]:List (TSyntax `term))
 let mut r:Array (TSyntax `term):=Array.mk []
 for x in xs.getElems do
  match x.raw.isNatLit? with
  |some k=>
   match T[k]! with
   |`(⟨$ys,*⟩)=>r:=r++ys.getElems
   |_=>r:=r
  |_=>r:=r.push x
 `(⟨$r,*⟩)
open Lean in
local macro_rules|`(tactic|let $p:term:=$e)=>do
 let rec go (n:Nat)(t:Syntax):MacroM (TSyntax `rcasesPat):=do
  match n with
  |0=>Macro.throwUnsupported
  |n+1=>match t with
   |`($i:ident)=>`(rcasesPat|$i:ident)
   |`(_)=>`(rcasesPat|_)
   |`(#[$xs,*])=>do `(rcasesPat|⟨$(←xs.getElems.mapM fun x=>do `(Parser.Tactic.rcasesPatLo|$(←go n x):rcasesPat)),*⟩)
   |_=>Macro.throwUnsupported
 match p with
 |`(#[$_,*])=>do `(tactic|obtain $(←go 99 p):rcasesPat := $e)
 |_=>Macro.throwUnsupported
namespace L2
open PySem PySem.Spec PyProof.Rows
noncomputable abbrev Key:=Sum Int Str
noncomputable def nZ:Key->Value->Bool
 |.inl k,v=>Value.isInt k v
 |.inr x,v=>Value.isStrOf x v
noncomputable def JP (w:C1):Key->Int
 |.inl k=>hashInt k
 |.inr x=>hashStr w x
theorem cy:∀{k:Key}{v:Value},nZ k v=true->(∃i t,k=ti i/\v=Value.int i t)\/(∃x t,k=KP x/\v=Value.str x t)
 |.inl i,v,h=>by
  let#[t,e]:=Value.isInt_shape (k:=i) (v:=v) h;show .inl #[i,t,rfl,e]
 |.inr x,v,h=>by
  let#[t,e]:=Value.isStrOf_shape (x:=x) (v:=v) h;show .inr #[x,t,rfl,e]
theorem yJ (i:Int) (t:Tv):nZ (.inl i) (.int i t)=true:=by simp[nZ,Value.isInt]
theorem x6 (x:Str) (t:Tv):nZ (.inr x) (.str x t)=true:=by simp[nZ,Value.isStrOf]
theorem Fx (a b:Int):decide ((ti a:Key)=ti b)=(a==b):=by
 by_cases e:a=b
 .subst e;simp
 .have h:¬ (ti a:Key)=ti b:=λq=>e (Ru q);rw[decide_eq_false h];show(beq_eq_false_iff_ne.mpr e).symm
theorem EW (a b:Str):decide ((KP a:Key)=KP b)=decide (a=b):=by
 by_cases e:a=b
 .subst e;simp
 .have h:¬ (KP a:Key)=KP b:=λq=>e (Sum.inr.inj q);rw[decide_eq_false h,decide_eq_false e]
theorem Eu (a:Int) (b:Str):decide ((ti a:Key)=KP b)=false:=decide_eq_false (λq=>nomatch q)
theorem Et (a:Str) (b:Int):decide ((KP a:Key)=ti b)=false:=decide_eq_false (λq=>nomatch q)
noncomputable def bt (prog:rz) (w:C1):PySem.KeyKind prog w Key where
 is:=nZ
 hash:=JP w
 inj:=λv a b L J=>by
  rcases cy L with⟨i,t,rfl,rfl⟩|⟨x,t,rfl,rfl⟩
  .rcases cy J with⟨j,u,rfl,e⟩|⟨y,u,rfl,e⟩
   .injection e with G _;rw[G]
   .show nomatch e
  .rcases cy J with⟨j,u,rfl,e⟩|⟨y,u,rfl,e⟩
   .show nomatch e
   .injection e with G _;rw[G]
 byValue:=λk v h=>by
  rcases cy h with⟨i,t,rfl,rfl⟩|⟨x,t,rfl,rfl⟩<;>rfl
 pyHash:=λI h=>by
  rcases cy I with⟨i,t,rfl,rfl⟩|⟨x,t,rfl,rfl⟩
  .show wpAny_pyHash_int h
  .show wpAny_pyHash_str h
 eqBool:=λN I h=>by
  rcases cy N with⟨i,t,rfl,rfl⟩|⟨x,t,rfl,rfl⟩
  .rcases cy I with⟨j,u,rfl,rfl⟩|⟨y,u,rfl,rfl⟩
   .rw[Fx]at h;show wpAny_eqBool_int h
   .rw[Eu]at h;show QD i t y u _ _ _ _ h
  .rcases cy I with⟨j,u,rfl,rfl⟩|⟨y,u,rfl,rfl⟩
   .rw[Et]at h;show QF x t j u _ _ _ _ h
   .rw[EW]at h;show wpAny_eqBool_str h
 «strs» := λk x t v h=>by
  rcases cy h with⟨i,u,rfl,e⟩|⟨y,u,rfl,e⟩
  .show nomatch e
  .injection e with G _;subst G;cases v<;>rfl
theorem sG (prog:rz) (w:C1) (i:Int) (t:Tv):(bt prog w).is (.inl i) (.int i t)=true:=yJ i t
theorem sk (prog:rz) (w:C1) (x:Str) (t:Tv):(bt prog w).is (.inr x) (.str x t)=true:=x6 x t
inductive V where
 |non|bl (b:Bool)|int (i:Int)|str (x:Str)|byt (b:Array UInt8)|flt (b:UInt64)|ref (a:Addr)|ty (n:String)
 deriving DecidableEq
noncomputable def RelV:V->Value->Prop
 |.non,u=>u=Value.none
 |.bl b,u=>u=Value.bool b
 |.int i,u=>∃t,u=Value.int i t
 |.str x,u=>∃t,u=Value.str x t
 |.byt b,u=>∃t,u=Value.bytes b t
 |.flt b,u=>∃t,u=Value.float b t
 |.ref a,u=>u=Value.ref a
 |.ty n,u=>u=Value.type n
noncomputable abbrev Vals:List V->List Value->Prop:=Paired RelV
theorem Vals.length {xs:List V}{us:List Value}(r:Vals xs us):xs.length=us.length:=Paired.length r
theorem Vals.get:∀{xs:List V}{us:List Value}{i:Nat}{x:V},Vals xs us->xs[i]?=some x->∃u,us[i]?=some u/\RelV x u
 |_,_,_,_,.nil,e=>by simp at e
 |_,_,0,_,.cons r _,e=>by simp at e;subst e;show#[0,r]
 |_,_,i+1,x,.cons _ t,e=>by
  let#[u,h1,h2]:=Vals.get (i:=i) (x:=x) t (by simpa using e);show#[u,by simpa using h1,h2]
theorem Vals.set {x:V}{u:Value}(r:RelV x u):∀{xs:List V}{us:List Value}(i:Nat),Vals xs us->Vals (xs.set i x) (us.set i u)
 |_,_,_,.nil=>.nil
 |_,_,0,.cons _ t=>.cons r t
 |_,_,i+1,.cons q t=>.cons q (Vals.set r i t)
theorem Vals.append:∀{xs ys:List V}{us ws:List Value},Vals xs us->Vals ys ws->Vals (xs++ys) (us++ws)
 |_,_,_,_,.nil,s=>s
 |_,_,_,_,.cons r t,s=>.cons r (Vals.append t s)
theorem Vals.take:∀{xs:List V}{us:List Value}(n:Nat),Vals xs us->Vals (xs.take n) (us.take n)
 |_,_,0,_=>.nil
 |_,_,_+1,.nil=>.nil
 |_,_,n+1,.cons r t=>.cons r (Vals.take n t)
theorem Vals.drop:∀{xs:List V}{us:List Value}(n:Nat),Vals xs us->Vals (xs.drop n) (us.drop n)
 |_,_,0,r=>r
 |_,_,_+1,.nil=>.nil
 |_,_,n+1,.cons _ t=>Vals.drop n t
noncomputable def fX:Option V->Option Value->Prop
 |some v,some u=>RelV v u
 |none,none=>True
 |_,_=>False
noncomputable def KV {κ:Type}:List (κ×V)->List (κ×Value)->Prop:=Paired λ(p:κ×V) (q:κ×Value)=>p.1=q.1/\RelV p.2 q.2
noncomputable def kV:Key->V
 |.inl i=>.int i
 |.inr x=>.str x
inductive HO where
  |lst (xs:List V)
  |tup (xs:List V)
  |dK (kvs:List (Key×V))|dT (kvs:List (List Key×V))
  |set (S:Int->Bool) (n:Nat)
  |ins (C dx:Addr) (fs:List (Str×V))
  |own (x:Addr)
  |xd (fs:List (Str×V))
  |met (f x:Addr)
  |rng (lo hi:Int)
  |bP (o:Obj) (u:HO)
  |tbl (ps:Array Value)
  |ext (φ:Heap->Prop)
noncomputable abbrev Hp:=Addr->Option HO
noncomputable def upd (H:Hp) (a:Addr) (o:HO):Hp:=λb=>if b=a then some o else H b
theorem ae {H:Hp}{a:Addr}{o:HO}:upd H a o a=some o:=by unfold upd;rw[Tz rfl]
theorem ah {H:Hp}{a b:Addr}{o:HO}(h:b≠a):upd H a o b=H b:=by unfold upd;rw[Tx h]
theorem cK {H:Hp}{a b:Addr}{o u:HO}(h:H a=some o) (h':H b=some u) (d:o≠u):a≠b:=by
 intro e;subst e;rw[h]at h';show d (rn h')
theorem ar {H:Hp}{a b:Addr}{o:HO}(h:H a=some o) (h':H b=none):a≠b:=by
 intro e;subst e;rw[h]at h';cases h'
section
variable (P:rz) (w:C1)
noncomputable def bT (H:Hp) (h:Heap) (a:Addr):HO->Prop
 |.lst xs=>xs.length<=sizeLine/\∃(its:List Value) (n:Nat),Vals xs its/\h.get? a=some { cls:=.type "list",data:=.seq its.toArray n }
 |.tup xs=>xs.length<=sizeLine/\∃its:List Value,Vals xs its/\IsTup h a its.toArray
 |.dK kvs=>kvs.length<=sizeLine/\(a==Mf)=false/\∃vs,KV kvs vs/\h.DictOf (bt P w) a vs
 |.dT kvs=>kvs.length<=sizeLine/\(a==Mf)=false/\∃xs:List (List Key×Addr×Value),
   Paired (λ(p:List Key×V) (q:List Key×Addr×Value)=>p.1=q.1/\H q.2.1=some (.tup (p.1.map kV))/\RelV p.2 q.2.2) kvs xs /\
   ∃o es ep,h.get? a=some o/\o.ExactDict/\o.data=.dict es ep/\es.toList=xs.map (entryOfKey (N5 (bt P w)))/\(xs.map (·.1)).Nodup
 |.set S n=>h.SetOf (intKind P w) a S n
 |.ins C dx fs=>H dx=some (.own a)/\fs.length<=1000/\dx≠a/\h.get? a=some (instObj C dx) /\
   ∃mA,h.Ns1 dx mA/\(∀f,fX (fs.lookup f) (mA f))/\QR mA (fs.map (·.1))
 |.own _=>∃o,h.get? a=some o
 |.xd fs=>∃mA,h.Ns1 a mA/\∀f,fX (fs.lookup f) (mA f)
 |.rng lo hi=>∃t u v,h.get? a=some { cls:=.type "range",data:=.fields ([.int lo t,.int hi u,.int 1 v].toArray) }
 |.bP o u=>h.get? a=some o/\bT H h a u
 |.tbl ps=>h.get? a=some { cls:=.none,data:=.fields ps }
 |.met f x=>h.get? a=some (SH (.ref f) (.ref x))
 |.ext G=>G h/\(∃o,h.get? a=some o)/\∀h1 h2:Heap, G h1->(∀o,h1.get? a=some o->h2.get? a=some o)->G h2
noncomputable def iY (H:Hp) (h:Heap):Prop:=∀a o,H a=some o->bT P w H h a o
end
section
variable {P:rz}{w:C1}{H H':Hp}{h h':Heap}{a:Addr}{o:HO}
theorem bT.lt (x:bT P w H h a o):a<h.objs.size:=by
 cases o with
 |lst xs=>let#[_,_,_,_,e]:=x;show Heap.lt_size e
 |tup xs=>let#[_,_,_,p]:=x;show p.lt
 |dK kvs=>let#[_,_,_,_,o,_,_,e,_]:=x;show Heap.lt_size e
 |dT kvs=>let#[_,_,_,_,o,_,_,e,_]:=x;show Heap.lt_size e
 |set S n=>let#[o,_,_,_,e,_]:=x;show Heap.lt_size e
 |ins C dx fs=>let#[_,_,_,e,_]:=x;show Heap.lt_size e
 |own y=>let#[_,e]:=x;show Heap.lt_size e
 |xd fs=>let#[_,#[_,_,_,e,_],_]:=x;show Heap.lt_size e
 |rng lo hi=>let#[_,_,_,e]:=x;show Heap.lt_size e
 |bP ob u=>let#[e,_]:=x;show Heap.lt_size e
 |tbl ps=>show Heap.lt_size (show h.get? a=some _ from x)
 |met f y=>show Heap.lt_size (show h.get? a=some _ from x)
 |ext G=>let#[_,#[_,e],_]:=x;show Heap.lt_size e
theorem Paired.Ah {α I:Type}{F G:α->I->Prop}:∀{l₁:List α}{l₂:List I},Paired F l₁ l₂->(∀a b,F a b->G a b)->Paired G l₁ l₂
 |_,_,.nil,_=>.nil
 |_,_,.cons r t,f=>.cons (f _ _ r) (Paired.Ah t f)
theorem bT.mK (x:bT P w H h a o) (k:∀b u,(b=a\/H b=some (.own a))->h.get? b=some u->h'.get? b=some u)
  (I:∀b,H b=some (.own a)->H' b=some (.own a)) (N:∀b xs,H b=some (.tup xs)->H' b=some (.tup xs)):bT P w H' h' a o:=by
 induction o with
 |lst xs=>let#[z,its,n,r,e]:=x;show#[z,its,n,r,k _ _ (.inl rfl) e]
 |tup xs=>let#[z,its,r,ob,e,c]:=x;show#[z,its,r,ob,k _ _ (.inl rfl) e,c]
 |dK kvs=>let#[z,y,vs,r,ob,es,ep,e,c]:=x;show#[z,y,vs,r,ob,es,ep,k _ _ (.inl rfl) e,c]
 |dT kvs =>
  let#[z,y,xs,r,ob,es,ep,e,c]:=x;show#[z,y,xs,Paired.Ah r λp q z=>#[z.1,N _ _ z.2.1,z.2.2],ob,es,ep,k _ _ (.inl rfl) e,c]
 |set S n=>let#[ob,es,ep,t,e,c]:=x;show#[ob,es,ep,t,k _ _ (.inl rfl) e,c]
 |ins C dx fs =>
  let#[d,z,L,e,mA,#[od,es,ep,G,c],r]:=x;show#[I _ d,z,L,k _ _ (.inl rfl) e,mA,#[od,es,ep,k _ _ (.inr d) G,c],r]
 |own y=>let#[ob,e]:=x;show#[ob,k _ _ (.inl rfl) e]
 |xd fs=>let#[mA,#[od,es,ep,e,c],r]:=x;show#[mA,#[od,es,ep,k _ _ (.inl rfl) e,c],r]
 |rng lo hi=>let#[t,u,v,e]:=x;show#[t,u,v,k _ _ (.inl rfl) e]
 |bP ob u J=>let#[e,q]:=x;show#[k _ _ (.inl rfl) e,J q]
 |tbl ps =>
  have e:h.get? a=some { cls:=.none,data:=.fields ps }:=x;change h'.get? a=some { cls:=.none,data:=.fields ps };show k a _ (.inl rfl) e
 |met f y =>
  have e:h.get? a=some (SH (.ref f) (.ref y)):=x;change h'.get? a=some (SH (.ref f) (.ref y));show k a _ (.inl rfl) e
 |ext O=>let#[p,#[o,e],st]:=x;show#[st _ _ p λo q=>k _ _ (.inl rfl) q,#[o,k _ _ (.inl rfl) e],st]
theorem iY.lt (x:iY P w H h) (e:H a=some o):a<h.objs.size:=(x a o e).lt
theorem iY.fresh (x:iY P w H h) (e:h.objs.size<=a):H a=none:=by
 cases q:H a with
 |none=>rfl
 |some u=>show absurd (K6 (x.lt q) e) (Nr _)
theorem iY.kept (x:iY P w H h) (k:∀b u,h.get? b=some u->h'.get? b=some u):iY P w H h':=λa o e =>
 (x a o e).mK (λb u _ q=>k b u q) (λ_ q=>q) λ_ _ q=>q
theorem iY.laid (x:iY P w H h) (k:∀b u,h.get? b=some u->h'.get? b=some u) (J:h.objs.size<=a) (new:bT P w (upd H a o) h' a o):iY P w (upd H a o) h':=λb u e=>by
 have I:=x.fresh J;by_cases G:b=a
 .subst G;rw[ae]at e;cases e;show new
 .rw[ah G]at e;show(x b u e).mK (λc v _ q=>k c v q) (λc q=>by rw[ah (ar q I)];show q) λc xs q=>by rw[ah (ar q I)];show q
end
noncomputable def Rd (H:Hp) (a:Addr) (u:HO):Prop:=H a=some u\/∃o,H a=some (.bP o u)
theorem Rd.ok {P:rz}{w:C1}{H:Hp}{h:Heap}{a:Addr}{u:HO}(r:Rd H a u) (x:iY P w H h):bT P w H h a u:=by
 rcases r with r|⟨o,r⟩
 .show x a u r
 .let#[_,q]:=x a _ r;show q
noncomputable def HD:Option HO->Prop
 |some (.lst _)=>True
 |some (.dK _)=>True
 |some (.dT _)=>True
 |some (.set _ _)=>True
 |some (.ins _ _ _)=>True
 |some (.ext _)=>True
 |_=>False
section
variable {P:rz}{w:C1}{H:Hp}{h h':Heap}{x e:Addr}{o':HO}
theorem iY.write (ok:iY P w H h) (G:HD (H x)) (O:e=x\/H e=some (.own x)) (k:∀b u,b≠e->h.get? b=some u->h'.get? b=some u) (S:∃u,h'.get? e=some u)
  (new:bT P w (upd H x o') h' x o'):iY P w (upd H x o') h':=λb u q=>by
 have R:∀c y,H c=some (.own y)->c≠x:=λc y r z=>(by subst z;rw[r]at G;show G);have Y:∀c xs,H c=some (.tup xs)->c≠x:=λc xs r z=>(by subst z;rw[r]at G;show G);by_cases L:b=x
 .subst L;rw[ae]at q;cases q;show new
 .rw[ah L]at q;by_cases J:b=e
  .have N:H b=some (.own x):=by
    rcases O with z|z
    .show absurd (J.trans z) L
    .rw[J];show z
   rw[q]at N;cases N;let#[v,U]:=S;show#[v,by rw[J];show U]
  .show(ok b u q).mK (λc v I r=>k c v ?_ r) (λc r=>by rw[ah (R c b r)];show r) λc xs r=>(by rw[ah (Y c xs r)];show r);rcases I with rfl|I
   .show J
   .rintro rfl;rcases O with z|z
    .show R c b I z
    .rw[I]at z;cases z;show L rfl
end
structure Un (fs ex:List Addr) (H H':Hp) (h h':Heap):Prop where
 keep:∀b o,h.get? b=some o->H b=none->b∉fs->b∉ex->h'.get? b=some o
 slot:∀b o,h.get? b=some o->H b=none->b∈fs->b∉ex->∃sl,h'.get? b=some { o with slots:=sl }
 free:∀b o,h.get? b=some o->H b=none->b∉ex->H' b=none
 there:∀b o,h.get? b=some o->b∉ex->∃o',h'.get? b=some o'
 mS:∀b xs,H b=some (.tup xs)->H' b=some (.tup xs)
 oz:∀b o u,H b=some (.bP o u)->H' b=some (.bP o u)
 qR:∀b ps,H b=some (.tbl ps)->∃more,H' b=some (.tbl (ps++more))
section
variable {fs fs' ex ex':List Addr}{H H1 H2:Hp}{h h1 h2 h':Heap}{a x e:Addr}{o:HO}
theorem Un.any (u:Un fs ex H H1 h h1) {b:Addr}{ob:Obj}(q:h.get? b=some ob) (n:H b=none) (G:b∉ex):∃sl,h1.get? b=some { ob with slots:=sl }:=by
 by_cases I:b∈fs
 .show u.slot b ob q n I G
 .show#[ob.slots,u.keep b ob q n I G]
theorem Un.kept (k:∀b u,h.get? b=some u->h'.get? b=some u):Un fs ex H H h h' :=
 #[λb ob q _ _ _=>k b ob q,λb ob q _ _ _=>#[ob.slots,k b ob q],λ_ _ _ n _=>n,λb ob q _=>#[ob,k b ob q],λ_ _ q=>q,λ_ _ _ q=>q,λ_ ps q=>#[([].toArray),by rw[q];simp]]
theorem Un.refl:Un fs ex H H h h:=Un.kept λ_ _ q=>q
theorem Un.laid (k:∀b u,h.get? b=some u->h'.get? b=some u) (I:h.objs.size<=a) (G:H a=none):Un fs ex H (upd H a o) h h' where
 keep:=λb u q _ _ _=>k b u q
 slot:=λb u q _ _ _=>#[u.slots,k b u q]
 free:=λb u q n _=>by rw[ah (Lc (K6 (Heap.lt_size q) I))];show n
 there:=λb u q _=>#[u,k b u q]
 mS:=λb xs q=>by rw[ah (ar q G)];show q
 oz:=λb u xs q=>by rw[ah (ar q G)];show q
 qR:=λb ps q=>#[([].toArray),by rw[ah (ar q G),q];simp]
theorem Un.write (G:HD (H x)) (R:e=x\/H e=some (.own x)) (k:∀b u,b≠e->h.get? b=some u->h'.get? b=some u) (O:∃u,h'.get? e=some u):Un fs ex H (upd H x o) h h':=by
 have J:∀b,H b=none->b≠x:=λb n z=>(by subst z;rw[n]at G;show G);have N:∀b,H b=none->b≠e:=λb n z=>by
  subst z;rcases R with r|r
  .show J b n r
  .rw[n]at r;cases r
 have I:∀b u,H b=some u->¬ HD (some u)->b≠x:=λb u q nm z=>(by subst z;rw[q]at G;show nm G);show#[λb u q n _ _=>k b u (N b n) q,λb u q n _ _=>#[u.slots,k b u (N b n) q],λb u q n _=>by rw[ah (J b n)];show n,λb u q _=>?_,
  λb xs q=>by rw[ah (I b _ q λz=>z)];show q,λb u xs q=>by rw[ah (I b _ q λz=>z)];show q,λb ps q=>#[([].toArray),by rw[ah (I b _ q λz=>z),q];simp]]
 by_cases L:b=e
 .subst L;show O
 .show#[u,k b u L q]
end
noncomputable def IA (h:Heap) (H:Hp):List Addr:=(KR h.objs.size).filter λa=>(H a).isSome
noncomputable def qI (h:Heap) (H:Hp):Heap:=PySem.W.hideAll h (IA h H)
theorem yI (h:Heap) (H:Hp):(qI h H).objs.size=h.objs.size:=PySem.W.hideAll_size _ _
theorem yX {h:Heap}{H:Hp}{b:Addr}{o:Obj}(e:h.get? b=some o) (n:H b=none):(qI h H).get? b=some o :=
 PySem.W.hideAll_get _ e λG=>by
  have q:(H b).isSome=true:=(Nc.mp G).2;rw[n]at q;simp at q
theorem BO {h:Heap}{H:Hp}{b:Addr}{o:Obj}(e:(qI h H).get? b=some o):h.get? b=some o/\H b=none:=by
 have G:h.get? b=some o:=PySem.W.of_hideAll (IA h H) e;show#[G,?_];cases q:H b with
 |none=>rfl
 |some x =>
  have I:b∈IA h H:=Nc.mpr #[Lg.mpr (Heap.lt_size G),by simp[q]];have z:(qI h H).get? b=none:=PySem.W.hideAll_none (IA h H) I;rw[z]at e;cases e
structure Mod (K:iF) (mg:Str->Option Value) (base:Heap):Prop where
 GV:K.In base
 glob:base.Ns Lm mg
 blt:∃mb,base.Ns RL mb/\∀x:Str,x ≠ "__name__" -> mb x=K8 x
 nolimit:base.NoLimit
structure Cx where
 prog:rz
 w:C1
 K:iF
 mg:Str->Option Value
 base:Heap
 A:KY
 N:List Str
 s₀:ll
 H₀:Hp
 env:SO
 outer:List SO
 stack:List SO
 ex:List Addr
 fn:Str->Bool
 calm:Bool
 pn:List (Addr×Obj)
 xe:Value->ll->Prop
noncomputable def yU (l:List SO):List Addr:=l.filterMap (·.frame)
noncomputable abbrev Cx.fs (X:Cx):List Addr:=yU X.outer
noncomputable def IH (G:OW) (x:Str):Prop:=G.names.lookup x=some .local\/G.names.lookup x=some .cell\/G.names.lookup x=some .free
noncomputable def Loc (G:OW) (x:Str):Prop:=G.names.lookup x=some .local\/G.names.lookup x=some .cell
noncomputable def Look (env:SO) (h:Heap) (m:Str->Option Value) (x:Str) (u:Value):Prop :=
 (env.kindOf x=some .local/\m x=some u)\/((env.kindOf x=some .cell\/env.kindOf x=some .free)/\∃c,env.cells.lookup x=some c/\h.IsCell c (some u))
structure Cx.Ok (X:Cx):Prop where
 mod:Mod X.K X.mg X.base
 kind:X.env.scope.kind=.function
 glob:X.env.globals=Lm
 blt:X.env.builtins=RL
 above:X.s₀.heap.objs.size<=X.env.locals
 inj:∀x y c,X.env.cells.lookup x=some c->X.env.cells.lookup y=some c->x=y
 has:∀x,(X.env.kindOf x=some .cell\/X.env.kindOf x=some .free)->∃c,X.env.cells.lookup x=some c
 FP:∀x c,X.fn x=true->X.env.cells.lookup x=some c->X.s₀.heap.objs.size<=c
 hd:X.calm=true->X.A.handled=none
 frames:X.A.frames=some X.stack
 HA:X.stack=X.outer\/(X.stack=X.env::X.outer/\X.env.frame=some X.env.locals)
 IT:∀b∈X.ex,b≠X.env.locals/\∀x c,X.env.cells.lookup x=some c->c≠b
 bs:∀b o,X.base.get? b=some o->X.s₀.heap.get? b=some o/\X.H₀ b=none
 BG:X.base.objs.size<=X.s₀.heap.objs.size
 xD:∀b o,X.base.get? b=some o->b∉X.ex
 xE:∀b∈X.ex,b∉X.fs
 kG:X.s₀.heap.FunFrames X.base X.outer
 DG:∀b∈X.fs,X.H₀ b=none
structure Inv (X:Cx) (pins:List (Addr×Obj)) (σ:List (Option V)) (H:Hp) (s:ll):Prop where
 ok:X.Ok
 os:s.os=X.s₀.os
 bare:OX s.gens
 base:Un X.fs X.ex X.H₀ H X.s₀.heap s.heap
 loc:∃m,s.heap.Ns X.env.locals m/\∀(i:Nat) (x:Str) (v:V),X.N[i]?=some x->σ[i]?=some (some v)->IH X.env.scope x->∃u,RelV v u/\Look X.env s.heap m x u
 cell:∀x c,X.env.cells.lookup x=some c->∃v,s.heap.IsCell c v
 free:H X.env.locals=none
 gN:∀x c,X.env.cells.lookup x=some c->H c=none
 pin:∀p∈X.pn++pins,s.heap.get? p.1=some p.2/\H p.1=none/\p.1≠X.env.locals/\p.1∉X.fs/\∀v,p.2.data≠.cell v
 bE:iY X.prog X.w H s.heap
 len:σ.length=X.N.length
section
variable {X:Cx}{pins:List (Addr×Obj)}{σ:List (Option V)}{H H':Hp}{s:ll}{h':Heap}
theorem Cx.Ok.IU (ok:X.Ok) {b:Addr}{o:Obj}(e:X.base.get? b=some o):b∉X.fs:=λG=>by
 have:=(ok.kG.mem G).1;rw[e]at this;cases this
theorem Inv.bs (I:Inv X pins σ H s):∀b o,X.base.get? b=some o->s.heap.get? b=some o/\H b=none:=λb o e =>
 #[I.base.keep b o (I.ok.bs b o e).1 (I.ok.bs b o e).2 (I.ok.IU e) (I.ok.xD b o e),I.base.free b o (I.ok.bs b o e).1 (I.ok.bs b o e).2 (I.ok.xD b o e)]
theorem Inv.bk (I:Inv X pins σ H s):∀b o,X.base.get? b=some o->s.heap.get? b=some o:=λb o e=>(I.bs b o e).1
theorem Inv.mod (I:Inv X pins σ H s):Mod X.K X.mg X.base:=I.ok.mod
theorem Inv.kA (I:Inv X pins σ H s):X.K.In s.heap:=I.ok.mod.GV.keeps I.bk
theorem Inv.lt (I:Inv X pins σ H s):X.env.locals<s.heap.objs.size:=let ⟨_,G,_⟩:=I.loc;G.lt
theorem Inv.sz (I:Inv X pins σ H s):X.s₀.heap.objs.size<=s.heap.objs.size:=G0 I.ok.above (RM I.lt)
theorem Inv.Hz (I:Inv X pins σ H s) {a:Addr}(h:s.heap.objs.size<=a):a∉X.fs:=λJ=>by
 let#[_,o,G,_]:=I.ok.kG.mem J;show absurd (K6 (Heap.lt_size G) (G0 I.sz h)) (Nr _)
theorem Inv.Ex (I:Inv X pins σ H s):∀x c,X.env.cells.lookup x=some c->c≠X.env.locals:=λx c e z=>by
 let#[v,o,G,hd]:=I.cell x c e;let#[m,#[o',es,ep,J,L,_],_]:=I.loc;rw[z,J]at G;cases G;rw[L]at hd;cases hd
theorem Inv.kG (I:Inv X pins σ H s):s.heap.FunFrames X.base X.outer:=by
 have all:∀(l:List SO),(∀b∈yU l,b∈X.fs)->X.s₀.heap.FunFrames X.base l->s.heap.FunFrames X.base l:=by
  intro l
  induction l with
  |nil=>intro _ _;trivial
  |cons env r R =>
   intro hs Y;let#[hk,#[L,o,G,O,U,hd],S]:=Y;have J:L∈X.fs:=hs L (by unfold yU;rw[Ou,G];show La);let#[sl,e]:=I.base.slot L o U (I.ok.DG L J) J λz=>I.ok.xE L z J;show#[hk,#[L,_,G,O,e,hd],R (λb N=>hs b (by unfold yU;rw[Ou,G];show K5 _ N)) S]
 show all X.outer (λ_ N=>N) I.ok.kG
theorem Inv.stack (I:Inv X pins σ H s):s.heap.FunFrames X.base X.stack:=by
 rcases I.ok.HA with e|⟨e,J⟩
 .rw[e];show I.kG
 .rw[e];let#[m,G,_]:=I.loc;show .cons (by rw[I.ok.kind];decide) J G ?_ I.kG;show Heap.get?_none_of_le (G0 I.ok.BG I.ok.above)
theorem Inv.qL (I:Inv X pins σ H s):∀b∈yU X.stack,b∈X.env.locals::X.fs:=λb G=>by
 rcases I.ok.HA with e|⟨e,J⟩
 .rw[e]at G;show K5 _ G
 .rw[e]at G;unfold yU at G;rw[Ou,J]at G;show G
theorem Inv.xm (I:Inv X pins σ H s):∀b∈yU X.stack,H b=none:=λb G=>by
 rcases BY.mp (I.qL b G)with e|G
 .rw[e];show I.free
 .let#[_,o,J,_]:=I.ok.kG.mem G;show I.base.free b o J (I.ok.DG b G) λz=>I.ok.xE b z G
theorem Inv.step {g':Array QS}{t':Nat}{d':Drawn}{ch:List Addr}(I:Inv X pins σ H s)
  (S:∀b∈ch,(b∈X.ex\/X.s₀.heap.objs.size<=b)/\b≠X.env.locals/\(∀x c,X.env.cells.lookup x=some c->c≠b)/\∀p∈X.pn++pins,p.1≠b)
  (keep:∀b o,b≠X.env.locals->b∉X.fs->b∉ch->s.heap.get? b=some o->H b=none->h'.get? b=some o)
  (slot:∀b o,b≠X.env.locals->b∈X.fs->b∉ch->s.heap.get? b=some o->H b=none->∃sl,h'.get? b=some { o with slots:=sl }) (free:∀b o,b∉ch->s.heap.get? b=some o->H b=none->H' b=none)
  (there:∀b o,b∉ch->s.heap.get? b=some o->∃o',h'.get? b=some o')
  (mS:∀b xs,H b=some (.tup xs)->H' b=some (.tup xs)) (oz:∀b o u,H b=some (.bP o u)->H' b=some (.bP o u)) (qR:∀b ps,H b=some (.tbl ps)->∃am,H' b=some (.tbl (ps++am)))
  (ns:∀m,s.heap.Ns X.env.locals m->h'.Ns X.env.locals m) (bE:iY X.prog X.w H' h') (hg:OX g') :
  Inv X pins σ H' { s with heap:=h',gens:=g',drawn:=d',toks:=t' }:=by
 have ac:∀b o,X.s₀.heap.get? b=some o->b≠X.env.locals:=λb o e=>Lc (K6 (Heap.lt_size e) I.ok.above);have U:∀b o,X.s₀.heap.get? b=some o->b∉X.ex->b∉ch:=λb o e G L=>by
  rcases(S b L).1 with z|z
  .show G z
  .show absurd (K6 (Heap.lt_size e) z) (Nr _)
 have ab:∀x c,X.env.cells.lookup x=some c->∀v,s.heap.IsCell c v->h'.IsCell c v:=λx c e v as=>by
  let#[o,N,hd]:=as;have R:c∉ch:=λz=>(S c z).2.2.1 x c e rfl;by_cases hc:c∈X.fs
  .let#[sl,q]:=slot c o (I.Ex x c e) hc R N (I.gN x c e);show#[_,q,hd]
  .show#[o,keep c o (I.Ex x c e) hc R N (I.gN x c e),hd]
 show#[I.ok,I.os,hg,#[λb o e n L G=>?_,λb o e n L G=>?_,λb o e n G=>?_,λb o e G=>?_,λb xs e=>mS b xs (I.base.mS b xs e),λb o xs e=>oz b o xs (I.base.oz b o xs e),λb ps e=>?_],?_,λx c e=>?_,?_,λx c e=>?_,λp Y=>?_,bE,I.len]
 .show keep b o (ac b o e) L (U b o e G) (I.base.keep b o e n L G) (I.base.free b o e n G)
 .let#[sl,J]:=I.base.slot b o e n L G;let#[ap,O]:=slot b _ (ac b o e) L (U b o e G) J (I.base.free b o e n G);show#[ap,O]
 .let#[o',J]:=I.base.there b o e G;show free b o' (U b o e G) J (I.base.free b o e n G)
 .let#[o',J]:=I.base.there b o e G;show there b o' (U b o e G) J
 .let#[m1,J]:=I.base.qR b ps e;let#[m2,O]:=qR b _ J;show#[m1++m2,by rw[O,Array.append_assoc]]
 .let#[m,hn,hl]:=I.loc;show#[m,ns m hn,λi x v J O e3=>?_];let#[u,r,l]:=hl i x v J O e3;show#[u,r,?_];rcases l with l|⟨k,c,e,z⟩
  .show .inl l
  .show .inr #[k,c,e,ab x c e _ z]
 .let#[v,z]:=I.cell x c e;show#[v,ab x c e v z]
 .let#[m,#[o,_,_,N,_],_]:=I.loc;show free _ o (λz=>(S _ z).2.1 rfl) N I.free
 .let#[v,o,N,hd]:=I.cell x c e;show free c o (λz=>(S c z).2.2.1 x c e rfl) N (I.gN x c e)
 .let#[e,n,ne,nf,d]:=I.pin p Y;have R:p.1∉ch:=λz=>(S p.1 z).2.2.2 p Y rfl;show#[keep p.1 p.2 ne nf R e n,free p.1 p.2 R e n,ne,nf,d]
theorem Inv.un {t':Nat}(I:Inv X pins σ H s) (u:Un X.fs [] H H' s.heap h') (Y:iY X.prog X.w H' h'):Inv X pins σ H' { s with heap:=h',toks:=t' }:=by
 let#[m,#[o,es,ep,L,r],_]:=id I.loc;let#[sl,U]:=u.any L I.free (by simp);show I.step (g':=s.gens) (d':=s.drawn) (ch:=[]) (λ_ z=>nomatch z) (λb o _ G _ e n=>u.keep b o e n G (by simp)) (λb o _ G _ e n=>u.slot b o e n G (by simp)) (λb o _ e n=>u.free b o e n (by simp)) (λb o _ e=>u.there b o e (by simp)) u.mS u.oz u.qR (λm' N=>by
  let#[o',S,R,J,O]:=N;rw[L]at J;cases J;show#[_,S,R,U,O]) Y I.bare
theorem Inv.call {g':Array QS}{t':Nat}{d':Drawn}{ch:List Addr}(I:Inv X pins σ H s) (u:Un (yU X.stack) ch H H' s.heap h') (bE:iY X.prog X.w H' h') (hg:OX g')
  (O:∀b∈ch,(b∈X.ex\/X.s₀.heap.objs.size<=b)/\b≠X.env.locals/\(∀x c,X.env.cells.lookup x=some c->c≠b)/\∀p∈X.pn++pins,p.1≠b) :
  Inv X pins σ H' { s with heap:=h',gens:=g',drawn:=d',toks:=t' }:=by
 let#[m,#[o,es,ep,N,r],_]:=id I.loc;let#[sl,J]:=u.any N I.free λz=>(O _ z).2.1 rfl;show I.step (ch:=ch) O (λb o J S G e n=>u.keep b o e n (λz=>(BY.mp (I.qL b z)).elim J S) G) (λb o _ _ G e n=>u.any e n G) (λb o G e n=>u.free b o e n G) (λb o G e=>u.there b o e G) u.mS u.oz u.qR (λm' R=>by
  let#[o',ab,Y,L,U]:=R;rw[N]at L;cases L;show#[_,ab,Y,J,U]) bE hg
theorem Inv.turned {t':Nat}{it:Addr}(I:Inv X pins σ H s) (k:∀b o,b≠it->s.heap.get? b=some o->h'.get? b=some o) (O:H it=none) (J:it≠X.env.locals)
  (h1:it∈X.ex\/X.s₀.heap.objs.size<=it) (h2:∀x c,X.env.cells.lookup x=some c->c≠it) (S:∀p∈X.pn++pins,p.1≠it):Inv X pins σ H { s with heap:=h',toks:=t' }:=by
 have L:∀b u,H b=some u->b≠it:=λb u e z=>(by rw[z,O]at e;cases e);show I.step (g':=s.gens) (d':=s.drawn) (ch:=[it]) (λb U=>?_) (λb o _ _ G e _=>k b o (λz=>G (by simp[z])) e) (λb o _ _ G e _=>#[o.slots,k b o (λz=>G (by simp[z])) e]) (λ_ _ _ _ n=>n)
  (λb o G e=>#[o,k b o (λz=>G (by simp[z])) e]) (λ_ _ e=>e) (λ_ _ _ e=>e) (λb ps e=>#[([].toArray),by rw[e];simp]) (λm N=>?_) (λb u e=>?_) I.bare
 .have e:b=it:=(by simpa using U);subst e;show#[h1,J,h2,S]
 .let#[o,es,ep,R,r]:=N;show#[o,es,ep,k _ o (qw J) R,r]
 .show(I.bE b u e).mK (λc v G q=>k c v ?_ q) (λ_ q=>q) λ_ _ q=>q;rcases G with z|z
  .rw[z];show L b u e
  .show L c _ z
theorem Inv.tok (I:Inv X pins σ H s) (t:Nat):Inv X pins σ H { s with toks:=t }:=I.un (h':=s.heap) (t':=t) Un.refl I.bE
theorem Inv.kept {t':Nat}(I:Inv X pins σ H s) (k:∀b u,s.heap.get? b=some u->h'.get? b=some u):Inv X pins σ H { s with heap:=h',toks:=t' }:=I.un (Un.kept k) (I.bE.kept k)
theorem Inv.laid {a:Addr}{o:HO}{t':Nat}(I:Inv X pins σ H s) (k:∀b u,s.heap.get? b=some u->h'.get? b=some u) (G:s.heap.objs.size<=a) (new:bT X.prog X.w (upd H a o) h' a o) :
  Inv X pins σ (upd H a o) { s with heap:=h',toks:=t' }:=I.un (Un.laid k G (I.bE.fresh G)) (I.bE.laid k G new)
theorem Inv.write {x e:Addr}{o:HO}{t':Nat}(I:Inv X pins σ H s) (J:HD (H x)) (L:e=x\/H e=some (.own x)) (k:∀b u,b≠e->s.heap.get? b=some u->h'.get? b=some u) (G:∃u,h'.get? e=some u)
  (new:bT X.prog X.w (upd H x o) h' x o):Inv X pins σ (upd H x o) { s with heap:=h',toks:=t' }:=I.un (Un.write J L k G) (I.bE.write J L k G new)
theorem Inv.lQ {G:List (Addr×Obj)}(I:Inv X pins σ H s) (h:∀p∈G,s.heap.get? p.1=some p.2/\H p.1=none/\p.1≠X.env.locals/\p.1∉X.fs/\∀v,p.2.data≠.cell v):Inv X G σ H s :=
 #[I.ok,I.os,I.bare,I.base,I.loc,I.cell,I.free,I.gN,λp J=>(n7.mp J).elim (λz=>I.pin p (LR _ z)) (h p),I.bE,I.len]
theorem sC {N:List Str}(I:N.Nodup) {i j:Nat}{x:Str}(a:N[i]?=some x) (b:N[j]?=some x):i=j:=by
 let#[h1,J]:=kz.mp a;let#[h2,G]:=kz.mp b;show(List.getElem_inj I).mp (J.trans G.symm)
theorem pO {M:Model}{A:KY}{E:Value->ll->Prop}{i:Nat}{x:Str}{v:V}{u:Value}{Q:Unit->ll->Prop}(I:Inv X pins σ H s) (hN:X.N.Nodup) (hi:X.N[i]?=some x) (L:Loc X.env.scope x) (r:RelV v u)
  (h:∀s',Inv X pins (σ.set i (some v)) H s'->(∃a,Heap.SameBut a s.heap s'.heap/\(a=X.env.locals\/X.env.cells.lookup x=some a))->Q () s') (hf:X.fn x=true\/X.env.scope.names.lookup x=some .local:=by first|show .inl rfl|show .inr rfl|assumption):wpAny M A (storeName X.env x u) Q E s:=by
 let#[m,hn,hl]:=id I.loc;have a2:(X.env.scope.kind == .class||(X.env.scope.kind == .module&&X.env.locals != X.env.globals))=false:=(by rw[I.ok.kind];rfl);have am:i<σ.length:=(by rw[I.len];show(kz.mp hi).1);have Ex:=I.Ex;have aB:∀{a:Addr}{h':Heap},(∃o,s.heap.get? a=some o/\H a=none)->Heap.SameBut a s.heap h'->iY X.prog X.w H h':=λ{a h'} ha hs b ob e=>by
  let#[_,_,ap]:=ha;show(I.bE b ob e).mK (λc w' J q=>(hs.2 c ?_).trans q) (λ_ q=>q) λ_ _ q=>q;rintro rfl;rcases J with rfl|J
  .rw[ap]at e;cases e
  .rw[ap]at J;cases J
 rcases L with R|R
 .show wpAny_storeName_local R hn (λh' a1 hs=>?_) a2;let#[oL,_,_,a3,_]:=id hn;show h _ #[I.ok,I.os,I.bare,#[λb o e n U L=>?_,λb o e n U L=>?_,I.base.free,λb o e L=>?_,I.base.mS,I.base.oz,I.base.qR],#[_,a1,λj y v' G O e3=>?_],λy c e=>?_,I.free,I.gN,λp hp=>?_,aB #[oL,a3,I.free] hs,by simpa using I.len] #[_,hs,.inl rfl]
  .show(hs.2 b (Lc (K6 (Heap.lt_size e) I.ok.above))).trans (I.base.keep b o e n U L)
  .let#[sl,G]:=I.base.slot b o e n U L;show#[sl,(hs.2 b (Lc (K6 (Heap.lt_size e) I.ok.above))).trans G]
  .let#[o',G]:=I.base.there b o e L;show#[o',(hs.2 b (Lc (K6 (Heap.lt_size e) I.ok.above))).trans G]
  .by_cases S:j=i
   .subst S;rw[hi]at G;cases G;rw[Ln am]at O;cases O;show#[u,r,.inl #[R,by simp]]
   .rw[Lb (qw S)]at O;let#[u',r',q]:=hl j y v' G O e3;show#[u',r',?_];rcases q with⟨k,e⟩|⟨k,c,e,z⟩
    .show .inl #[k,?_];have:y≠x:=λe=>S (sC hN G (e▸hi));simp[this,e]
    .show .inr #[k,c,e,z.sameBut hs (Ex y c e)]
  .let#[w',z]:=I.cell y c e;show#[w',z.sameBut hs (Ex y c e)]
  .let#[e,n,ne,nf,d]:=I.pin p hp;show#[(hs.2 p.1 ne).trans e,n,ne,nf,d]
 .have ab:X.fn x=true:=by
   rcases hf with z|z
   .show z
   .rw[z]at R;cases R
  let#[c,J]:=I.ok.has x (.inl R);let#[w',z]:=I.cell x c J;show wpAny_storeName_cell I.ok.kind R J z (λh' ac hs=>?_);let#[oc,as,a0]:=id z;show h { s with heap:=h' } #[I.ok,I.os,I.bare,#[λb o e n U L=>?_,λb o e n U L=>?_,I.base.free,λb o e L=>?_,I.base.mS,I.base.oz,I.base.qR],#[m,hn.sameBut hs (qw (Ex x c J)),λj y v' G O e3=>?_],λy Y e=>?_,I.free,I.gN,λp hp=>?_,aB #[oc,as,I.gN x c J] hs,by simpa using I.len] #[c,hs,.inr J]
  .show(hs.2 b (Lc (K6 (Heap.lt_size e) (I.ok.FP x c ab J)))).trans (I.base.keep b o e n U L)
  .let#[sl,G]:=I.base.slot b o e n U L;show#[sl,(hs.2 b (Lc (K6 (Heap.lt_size e) (I.ok.FP x c ab J)))).trans G]
  .let#[o',G]:=I.base.there b o e L;show#[o',(hs.2 b (Lc (K6 (Heap.lt_size e) (I.ok.FP x c ab J)))).trans G]
  .by_cases S:j=i
   .subst S;rw[hi]at G;cases G;rw[Ln am]at O;cases O;show#[u,r,.inr #[.inl R,c,J,ac]]
   .rw[Lb (qw S)]at O;let#[u',r',q]:=hl j y v' G O e3;show#[u',r',?_];rcases q with q|⟨k,Y,e,z'⟩
    .show .inl q
    .show .inr #[k,Y,e,z'.sameBut hs ?_];rintro rfl;show S (sC hN G (I.ok.inj _ _ _ e J▸hi))
  .by_cases aT:Y=c
   .subst aT;show#[_,ac]
   .let#[w2,z2]:=I.cell y Y e;show#[w2,z2.sameBut hs aT]
  .let#[e,n,ne,nf,d]:=I.pin p hp;show#[(hs.2 p.1 ?_).trans e,n,ne,nf,d];intro q;rw[q,as]at e;have q':oc=p.2:=rn e;show d w' (by rw[<-q'];show a0)
theorem ir {M:Model}{A:KY}{E:Value->ll->Prop}{i:Nat}{x:Str}{v:V}{u:Value}{Q:Unit->ll->Prop}(I:Inv X pins σ H s) (G:X.N.Nodup) (hi:X.N[i]?=some x) (O:Loc X.env.scope x) (r:RelV v u)
  (h:∀s',Inv X pins (σ.set i (some v)) H s'->Q () s') (J:X.fn x=true\/X.env.scope.names.lookup x=some .local:=by first|show .inl rfl|show .inr rfl|assumption):wpAny M A (storeName X.env x u) Q E s :=
 pO I G hi O r (λs' L _=>h s' L) J
theorem Inv.GJ {s':ll}{ch:List Addr}(I:Inv X pins σ H s) (L:s'.os=s.os) (u:Un (yU X.stack) ch H H' s.heap s'.heap) (N:iY X.prog X.w H' s'.heap) (G:OX s'.gens)
  (J:∀b∈ch,(b∈X.ex\/X.s₀.heap.objs.size<=b)/\b≠X.env.locals/\(∀x c,X.env.cells.lookup x=some c->c≠b)/\∀p∈X.pn++pins,p.1≠b):Inv X pins σ H' s':=by
 let#[h',g',d',t',o']:=s';have e:o'=s.os:=L;subst e;show I.call (g':=g') (t':=t') (d':=d') u N G J
end
noncomputable abbrev XK:=Value->Option Addr->Hp->Prop
noncomputable abbrev St:=List (Option V)
noncomputable abbrev VK:=V->Hp->Prop
noncomputable abbrev TE:=St->Hp->VK->Prop
noncomputable abbrev TT:=St->Hp->(Bool->Hp->Prop)->Prop
noncomputable abbrev TA:=St->Hp->(List V->Hp->Prop)->Prop
structure Ends where
 nx:St->Hp->Prop
 rt:VK
 bk:St->Hp->Prop:=λ_ _=>False
 ct:St->Hp->Prop:=λ_ _=>False
noncomputable abbrev TS:=Ends->St->Hp->Prop
noncomputable def EP (X:Cx) (pins:List (Addr×Obj)) (σ:St) (Q:VK) (u:Value) (s':ll):Prop:=∃v H',Inv X pins σ H' s'/\RelV v u/\Q v H'
noncomputable def TP (X:Cx) (pins:List (Addr×Obj)) (σ:St) (Q:Bool->Hp->Prop) (b:Bool) (s':ll):Prop:=∃H',Inv X pins σ H' s'/\Q b H'
noncomputable def AP (X:Cx) (pins:List (Addr×Obj)) (σ:St) (Q:List V->Hp->Prop) (us:List Value) (s':ll):Prop:=∃vs H',Inv X pins σ H' s'/\Vals vs us/\Q vs H'
noncomputable def SP (X:Cx) (pins:List (Addr×Obj)) (D:Ends) (f:Flow) (s':ll):Prop :=
 match f with
 |.next=>∃G H',Inv X pins G H' s'/\D.nx G H'
 |.brk=>∃G H',Inv X pins G H' s'/\D.bk G H'
 |.cont=>∃G H',Inv X pins G H' s'/\D.ct G H'
 |.ret u=>∃v G H',Inv X pins G H' s'/\RelV v u/\D.rt v H'
noncomputable def PE (X:Cx) (e:KZ) (t:TE):Prop :=
 ∀(pins:List (Addr×Obj)) (s:ll) (σ:St) (H:Hp) (Q:VK),Inv X pins σ H s->t σ H Q->wpAny (model X.prog X.w) X.A (eval e X.env) (EP X pins σ Q) X.xe s
noncomputable def PT (X:Cx) (e:KZ) (t:TT):Prop :=
 ∀(pins:List (Addr×Obj)) (s:ll) (σ:St) (H:Hp) (Q:Bool->Hp->Prop),Inv X pins σ H s->t σ H Q->wpAny (model X.prog X.w) X.A (isTrue e X.env (eval e X.env)) (TP X pins σ Q) X.xe s
noncomputable def PW (X:Cx) (e:KZ) (t:TT):Prop :=
 ∀(G:QT Value) (pins:List (Addr×Obj)) (s:ll) (σ:St) (H:Hp) (Q:Bool->Hp->Prop),Inv X pins σ H s->t σ H Q->wpAny (model X.prog X.w) X.A (isTrue e X.env G) (TP X pins σ Q) X.xe s
theorem PW.pt {X:Cx}{e:KZ}{t:TT}(h:PW X e t):PT X e t:=h _
noncomputable def PA (X:Cx) (es:List KZ) (t:TA):Prop :=
 ∀(pos:NO) (pins:List (Addr×Obj)) (s:ll) (σ:St) (H:Hp) (Q:List V->Hp->Prop),Inv X pins σ H s->t σ H Q->wpAny (model X.prog X.w) X.A (spliced (backTo pos (starEach es X.env))) (AP X pins σ Q) X.xe s
noncomputable def PS (X:Cx) (st:K4) (t:TS):Prop :=
 ∀(pins:List (Addr×Obj)) (s:ll) (σ:St) (H:Hp) (D:Ends),Inv X pins σ H s->t D σ H->wpAny (model X.prog X.w) X.A (exec st X.env) (SP X pins D) X.xe s
noncomputable def uI (X:Cx) (st:List K4) (t:TS):Prop :=
 ∀(pins:List (Addr×Obj)) (s:ll) (σ:St) (H:Hp) (D:Ends),Inv X pins σ H s->t D σ H->wpAny (model X.prog X.w) X.A (execs st X.env) (SP X pins D) X.xe s
theorem bV {α:Type}{t:QT α}{Q G:α->ll->Prop}{M:Model}{A:KY}{E:Value->ll->Prop}{s:ll}(h:wpAny M A t Q E s) (I:∀a s,Q a s->G a s):wpAny M A t G E s:=NK h I λ_ _ x=>x
section
variable {X:Cx}
inductive sW (i:Nat) (σ:St) (H:Hp) (Q:VK):Prop
 |mk (v:_) (_:σ[i]?=some (some v)) (_:Q v H):sW i σ H Q
noncomputable def tC (v:V):TE:=λ_ H Q=>Q v H
theorem DW {i:Nat}{x:Str}{pos:NO}(U:X.N[i]?=some x) (hv:IH X.env.scope x) (hd:(x==("__debug__" : Str))=false:=by decide) (Y:(x==("__classdict__" : Str))=false:=by decide):PE X (.Name x pos) (sW i):=by
 intro pins s σ H Q I h;let#[v,e,h]:=h;let#[m,S,hl]:=I.loc;let#[u,r,l]:=hl i x v U e hv;have J:EP X pins σ Q u s:=#[v,H,I,r,h];rcases l with⟨G,R⟩|⟨G,c,L,O⟩
 .show RN (wpAny_loadName_local I.ok.kind G S R J) hd
 .rcases G with G|G
  .show RN (wpAny_loadName_cell I.ok.kind G L O J) hd
  .show RN (wpAny_loadName_free I.ok.kind G L O J Y) hd
theorem aj {i j pos}:PE X (.Constant (.int i) j pos) (tC (.int i)):=λ_ _ _ H _ I h=>wpAny_Constant_int #[.int i,H,I.tok _,#[0],h]
theorem kX {b j pos}:PE X (.Constant (.bool b) j pos) (tC (.bl b)):=λ_ _ _ H _ I h=>Constant_bool #[.bl b,H,I,rfl,h]
theorem rY {j pos}:PE X (.Constant .none j pos) (tC .non):=λ_ _ _ H _ I h=>Constant_none #[.non,H,I,rfl,h]
theorem aH {x j pos}:PE X (.Constant (.str x) j pos) (tC (.str x)):=λ_ _ _ H _ I h=>Calls.Constant_str #[.str x,H,I.tok _,#[0],h]
noncomputable def Gl (X:Cx) (x:Str):Prop:=X.env.kindOf x=some .globalImplicit
theorem lJ {E:Value->ll->Prop}{pins:List (Addr×Obj)}{s:ll}{σ:St}{H:Hp}{x:Str}{u:Value}{pos:NO}{Q:Value->ll->Prop}(I:Inv X pins σ H s) (G:Gl X x) (J:X.mg x=some u) (h:Q u s)
  (hd:(x==("__debug__" : Str))=false:=by decide):wpAny (model X.prog X.w) X.A (eval (.Name x pos) X.env) Q E s :=
 Calls.Name_function_global I.ok.kind G (Calls.loadGlobal_global (by rw[I.ok.glob];show I.mod.glob.keeps I.bk) J h) hd
theorem gX {E:Value->ll->Prop}{pins:List (Addr×Obj)}{s:ll}{σ:St}{H:Hp}{x:Str}{u:Value}{pos:NO}{Q:Value->ll->Prop}(I:Inv X pins σ H s) (L:Gl X x) (G:X.mg x=none) (N:K8 x=some u) (h:Q u s)
  (J:x ≠ "__name__" := by decide) (hd:(x==("__debug__" : Str))=false:=by decide):wpAny (model X.prog X.w) X.A (eval (.Name x pos) X.env) Q E s:=by
 let#[O,h1,h2]:=I.mod.blt;show Calls.Name_function_global I.ok.kind L (Calls.loadGlobal_builtin (by rw[I.ok.glob];show I.mod.glob.keeps I.bk) G (by rw[I.ok.blt];show h1.keeps I.bk) ((h2 x J).trans N) h) hd
theorem cu {x:Str}{v:V}{u:Value}{pos:NO}(G:Gl X x) (J:X.mg x=some u) (r:RelV v u) (hd:(x==("__debug__" : Str))=false:=by decide):PE X (.Name x pos) (tC v):=
 λ_ _ _ H _ I h=>lJ I G J #[v,H,I,r,h] hd
theorem eV {x:Str}{v:V}{u:Value}{pos:NO}(G:Gl X x) (J:X.mg x=none) (L:K8 x=some u) (r:RelV v u) (N:x ≠ "__name__" := by decide) (hd:(x==("__debug__" : Str))=false:=by decide):PE X (.Name x pos) (tC v):=
 λ_ _ _ H _ I h=>gX I G J L #[v,H,I,r,h] N hd
variable {a b:KZ}{ta tb:TE}{pos:NO}
noncomputable def PC (X:Cx) (I:Tc) (a b:KZ) (t:TE):Prop :=
 ∀(pins:List (Addr×Obj)) (s:ll) (σ:St) (H:Hp) (Q:VK),Inv X pins σ H s->t σ H Q ->
  wpAny (model X.prog X.w) X.A (eval a X.env) (λv G=>wpAny (model X.prog X.w) X.A (eval b X.env) (λu J=>wpAny (model X.prog X.w) X.A (LY I v u) (EP X pins σ Q) X.xe J) X.xe G) X.xe s
inductive Ka (t:TE) (Q:Bool->Hp->Prop) (x:V) (H1:Hp):Prop
 |mk (c:_) (_:x=.bl c) (_:Q c H1):Ka t Q x H1
noncomputable def tB (t:TE):TT:=λσ H Q=>t σ H λx H1=>Ka t Q x H1
theorem uF {G:Tc}{t:TE}(h:PC X G a b t) (h1:Nz G b=false:=by first|show nobehind _ av av|rfl):PE X (.Compare a [G] [b] pos) t:=λpins s σ H Q I J=>wpAny_Compare1 (h pins s σ H Q I J) h1
theorem ja {G:Tc}{t:TE}(h:PC X G a b t) (h1:Nz G b=false:=by first|show nobehind _ av av|rfl):PT X (.Compare a [G] [b] pos) (tB t):=by
 intro pins s σ H Q I J;show P6 (bV (h pins s σ H _ I J) λv s1 h1=>bV h1 λu s2 h2=>bV h2 λc s3 N=>?_) h1;let#[x,H1,R,L,O]:=N;let#[d,rfl,q]:=O;cases L;show LV #[H1,R,q]
theorem fB {e:KZ}{t:TE}(h:PE X e t) (O:∀G,isTrue e X.env G=(do let v <-G;QU e.pos;OY [v] (truthy v)):=by intro _;rfl):PT X e (tB t):=by
 intro pins s σ H Q I L;show isTrue_plain (bV (h pins s σ H _ I L) λv s1 J=>?_) (O _);let#[x,H1,S,R,N]:=J;let#[d,rfl,q]:=N;cases R;show LV #[H1,S,q]
variable {tA tB':TT}{rest:List KZ}
noncomputable def JX (t u:TT):TT:=λσ H Q=>t σ H λc H1=>if c=true then u σ H1 Q else Q false H1
noncomputable def KN (t u:TT):TT:=λσ H Q=>t σ H λc H1=>if c=true then Q true H1 else u σ H1 Q
noncomputable def JD (t:TT):TT:=λσ H Q=>t σ H λc H1=>Q (!c) H1
theorem iJ (G:PT X a tA):PW X (.BoolOp .And [a] pos) tA:=by
 intro J pins s σ H Q I h;show isTrue_and (bV (G pins s σ H Q I h) λc s1 e=>?_);cases c with
 |true=>show isTrue_and_nil e
 |false=>show e
theorem gF (G:PT X a tA):PW X (.BoolOp .Or [a] pos) tA:=by
 intro J pins s σ H Q I h;show isTrue_or (bV (G pins s σ H Q I h) λc s1 e=>?_);cases c with
 |false=>show isTrue_or_nil e
 |true=>show e
theorem kR (O:PT X a tA) (R:PW X (.BoolOp .And (b::rest) pos) tB'):PW X (.BoolOp .And (a::b::rest) pos) (JX tA tB'):=by
 intro L pins s σ H Q I h;show isTrue_and (bV (O pins s σ H _ I h) λc s1 N=>?_);let#[H1,J,G]:=N;cases c with
 |true=>show R L pins s1 σ H1 Q J G
 |false=>show#[H1,J,G]
theorem ic (N:PT X a tA) (O:PW X (.BoolOp .Or (b::rest) pos) tB'):PW X (.BoolOp .Or (a::b::rest) pos) (KN tA tB'):=by
 intro L pins s σ H Q I h;show isTrue_or (bV (N pins s σ H _ I h) λc s1 R=>?_);let#[H1,J,G]:=R;cases c with
 |true=>show#[H1,J,G]
 |false=>show O L pins s1 σ H1 Q J G
theorem qP (G:PT X a tA):PT X (.UnaryOp .Not a pos) (JD tA):=by
 intro pins s σ H Q I h;show isTrue_not (G pins s σ H (λc H1=>Q (!c) H1) I h)
inductive zw (ta tb:TE) (σ:St) (Q:VK) (x:V) (H1:Hp):Prop
 |mk (c:_) (_:x=.bl c) (_:if c=true then tb σ H1 Q else Q (.bl false) H1):zw ta tb σ Q x H1
noncomputable def Ii (ta tb:TE):TE:=λσ H Q=>ta σ H λx H1=>zw ta tb σ Q x H1
inductive DH (ta tb:TE) (σ:St) (Q:VK) (x:V) (H1:Hp):Prop
 |mk (c:_) (_:x=.bl c) (_:if c=true then Q (.bl true) H1 else tb σ H1 Q):DH ta tb σ Q x H1
noncomputable def Ja (ta tb:TE):TE:=λσ H Q=>ta σ H λx H1=>DH ta tb σ Q x H1
inductive Ac (ta:TE) (Q:VK) (x:V) (H1:Hp):Prop
 |mk (c:_) (_:x=.bl c) (_:Q (.bl (!c)) H1):Ac ta Q x H1
noncomputable def F7 (ta:TE):TE:=λσ H Q=>ta σ H λx H1=>Ac ta Q x H1
theorem AV {op} {t:TE}(h:PE X a t):PE X (.BoolOp op [a] pos) t:=λpins s σ H Q I G=>BoolOp_one (h pins s σ H Q I G)
theorem Fz (L:PE X a ta) (R:PE X (.BoolOp .And (b::rest) pos) tb):PE X (.BoolOp .And (a::b::rest) pos) (Ii ta tb):=by
 intro pins s σ H Q I h;show BoolOp_and (bV (L pins s σ H _ I h) λv s1 N=>?_);let#[x,H1,J,O,G]:=N;let#[c,rfl,G]:=G;cases O;show LV ?_;cases c with
 |true=>show R pins s1 σ H1 Q J G
 |false=>show#[.bl false,H1,J,rfl,G]
theorem Ic (N:PE X a ta) (R:PE X (.BoolOp .Or (b::rest) pos) tb):PE X (.BoolOp .Or (a::b::rest) pos) (Ja ta tb):=by
 intro pins s σ H Q I h;show BoolOp_or (bV (N pins s σ H _ I h) λv s1 L=>?_);let#[x,H1,J,O,G]:=L;let#[c,rfl,G]:=G;cases O;show LV ?_;cases c with
 |false=>show R pins s1 σ H1 Q J G
 |true=>show#[.bl true,H1,J,rfl,G]
theorem Fb (L:PE X a ta):PE X (.UnaryOp .Not a pos) (F7 ta):=by
 intro pins s σ H Q I h;show UnaryOp_ (bV (L pins s σ H _ I h) λv s1 J=>?_);let#[x,H1,O,N,G]:=J;let#[c,rfl,G]:=G;cases N;show not_of (LV #[.bl (!c),H1,O,rfl,G])
noncomputable def KD (t:TT) (ta tb:TE):TE:=λσ H Q=>t σ H λc H1=>if c=true then ta σ H1 Q else tb σ H1 Q
theorem zS {c:KZ}(L:PT X c tA) (N:PE X a ta) (R:PE X b tb):PE X (.IfExp c a b pos) (KD tA ta tb):=by
 intro pins s σ H Q I h;show wpAny_IfExp (bV (L pins s σ H _ I h) λd s1 O=>?_);let#[H1,J,G]:=O;cases d with
 |true=>show N pins s1 σ H1 Q J G
 |false=>show R pins s1 σ H1 Q J G
end
noncomputable def bA (K:iF) (H:Hp) (a:Addr) (xs:List V):Prop :=
 Rd H a (.lst xs) \/
  ∃(o:Obj) (its:Array Value) (n:Nat),K.lookup a=some o/\o.cls=.type "list" /\ o.dict=none/\o.data=.seq its n/\its.size<=sizeLine/\Vals xs its.toList
noncomputable def bL (K:iF) (H:Hp) (a:Addr) (xs:List V):Prop :=
 Rd H a (.tup xs) \/
  ∃(o:Obj) (its:Array Value) (n:Nat),K.lookup a=some o/\o.cls=.type "tuple" /\ o.data=.seq its n/\its.size<=sizeLine/\Vals xs its.toList
noncomputable def JZ:Value->Option V
 |.none=>some .non
 |.bool b=>some (.bl b)
 |.int i _=>some (.int i)
 |.str x _=>some (.str x)
 |.bytes b _=>some (.byt b)
 |.float b _=>some (.flt b)
 |.ref a=>some (.ref a)
 |.type n=>some (.ty n)
 |_=>none
theorem RelV.abs {x:V}{u:Value}(r:RelV x u):JZ u=some x:=by
 cases x with
 |non=>cases r;rfl
 |bl _=>cases r;rfl
 |int _=>let#[t,rfl]:=r;rfl
 |str _=>let#[t,rfl]:=r;rfl
 |byt _=>let#[t,rfl]:=r;rfl
 |flt _=>let#[t,rfl]:=r;rfl
 |ref _=>cases r;rfl
 |ty _=>cases r;rfl
theorem RelV.inj {x y:V}{u:Value}(r:RelV x u) (q:RelV y u):x=y:=rn (r.abs.symm.trans q.abs)
theorem Vals.inj:∀{xs ys:List V}{us:List Value},Vals xs us->Vals ys us->xs=ys
 |_,_,_,.nil,.nil=>rfl
 |_,_,_,.cons r t,.cons G t'=>by rw[r.inj G,Vals.inj t t']
section
variable {X:Cx}{pins:List (Addr×Obj)}{σ:St}{H:Hp}{s:ll}{a:Addr}{xs ys:List V}
theorem bA.of {K:iF}(h:H a=some (.lst xs)):bA K H a xs:=.inl (.inl h)
theorem bL.of {K:iF}(h:H a=some (.tup xs)):bL K H a xs:=.inl (.inl h)
theorem Inv.list (I:Inv X pins σ H s) (h:bA X.K H a xs):∃its:List Value,Vals xs its/\PlainL s.heap a its.toArray/\xs.length<=sizeLine:=by
 rcases h with h|⟨o,its,n,G,J,hd,hs,L,r⟩
 .let#[z,its,n,r,e]:=h.ok I.bE;show#[its,r,#[_,n,e,1,rfl],z]
 .show#[its.toList,r,#[o,n,I.kA a o G,J,hd,by simpa using hs],?_];have e:=r.length;simp only[LI]at e;omega
theorem Inv.tuple (I:Inv X pins σ H s) (h:bL X.K H a xs):∃its:List Value,Vals xs its/\IsTup s.heap a its.toArray/\xs.length<=sizeLine:=by
 rcases h with h|⟨o,its,n,G,J,hs,L,r⟩
 .let#[z,its,r,p]:=h.ok I.bE;show#[its,r,p,z]
 .show#[its.toList,r,#[o,I.kA a o G,J,n,by simpa using hs],?_];have e:=r.length;simp only[LI]at e;omega
theorem Inv.jJ (I:Inv X pins σ H s) (h:bA X.K H a xs) (h':bA X.K H a ys):xs=ys:=by
 let#[its,r,#[o,n,e,_,_,d],_]:=I.list h;let#[its',J,#[o',n',G,_,_,d'],_]:=I.list h';rw[e]at G;cases G;rw[d]at d';injection d' with L _;have:its=its':=(by simpa using congrArg toList L);subst this;show r.inj J
theorem Inv.xZ (I:Inv X pins σ H s) (h:bL X.K H a xs) (h':bL X.K H a ys):xs=ys:=by
 let#[its,r,#[o,e,_,n,d],_]:=I.tuple h;let#[its',J,#[o',G,_,n',d'],_]:=I.tuple h';rw[e]at G;cases G;rw[d]at d';injection d' with L _;have:its=its':=(by simpa using congrArg toList L);subst this;show r.inj J
end
noncomputable abbrev Cx.oV (X:Cx) (E:Value->ll->Prop):Cx:={ X with xe:=E }
noncomputable abbrev Cx.DB (X:Cx):Cx:=X.oV λ_ _=>False
theorem Cx.Ok.oV {X:Cx}(ok:X.Ok) (E:Value->ll->Prop):(X.oV E).Ok :=
 #[ok.mod,ok.kind,ok.glob,ok.blt,ok.above,ok.inj,ok.has,ok.FP,ok.hd,ok.frames,ok.HA,ok.IT,ok.bs,ok.BG,ok.xD,ok.xE,ok.kG,ok.DG]
theorem Cx.Ok.iz {X:Cx}{E:Value->ll->Prop}(ok:(X.oV E).Ok):X.Ok :=
 #[ok.mod,ok.kind,ok.glob,ok.blt,ok.above,ok.inj,ok.has,ok.FP,ok.hd,ok.frames,ok.HA,ok.IT,ok.bs,ok.BG,ok.xD,ok.xE,ok.kG,ok.DG]
section
variable {X:Cx}{pins:List (Addr×Obj)}{σ:St}{H:Hp}{s:ll}{E:Value->ll->Prop}
theorem Inv.oV (I:Inv X pins σ H s) (E:Value->ll->Prop):Inv (X.oV E) pins σ H s:=#[I.ok.oV E,I.os,I.bare,I.base,I.loc,I.cell,I.free,I.gN,I.pin,I.bE,I.len]
theorem Inv.iz (I:Inv (X.oV E) pins σ H s):Inv X pins σ H s:=#[I.ok.iz,I.os,I.bare,I.base,I.loc,I.cell,I.free,I.gN,I.pin,I.bE,I.len]
theorem SP.iz {D:Ends}{f:Flow}{s':ll}(h:SP (X.oV E) pins D f s'):SP X pins D f s':=by
 cases f with
 |next=>let#[G,H',I,q]:=h;show#[G,H',I.iz,q]
 |brk=>let#[G,H',I,q]:=h;show#[G,H',I.iz,q]
 |cont=>let#[G,H',I,q]:=h;show#[G,H',I.iz,q]
 |ret u=>let#[v,G,H',I,r,q]:=h;show#[v,G,H',I.iz,r,q]
theorem uI.DB {st:List K4}{t:TS}(h:uI X.DB st t):uI X st t:=λpins s σ H D I G =>
 NK (h pins s σ H D (I.oV _) G) (λ_ _ q=>q.iz) λ_ _ z=>Mg z
end
section
variable {X:Cx}{st:K4}{rest:List K4}{t u:TS}{e:KZ}{te:TE}{pos:NO}
noncomputable def nc:TS:=λD σ H=>D.nx σ H
noncomputable def jL (t u:TS):TS:=λD σ H=>t { D with nx:=u D } σ H
theorem aF:uI X [] nc:=λ_ _ σ H _ I h=>Om #[σ,H,I,h]
theorem ag (h1:PS X st t) (h2:uI X rest u):uI X (st::rest) (jL t u):=by
 intro pins s σ H D I h;show Ri (bV (h1 pins s σ H { D with nx:=u D } I h) λf s1 q=>?_);cases f with
 |next =>
  let#[G,H',J,q]:=q;show h2 pins s1 G H' D J q
 |ret v=>show q
 |brk=>show q
 |cont=>show q
theorem ak (h1:PS X st t):uI X [st] t:=by
 intro pins s σ H D I h;show Ri (bV (h1 pins s σ H D I h) λf s1 q=>?_);cases f with
 |next=>show Om q
 |ret v=>show q
 |brk=>show q
 |cont=>show q
theorem Inv.quiet {pins:List (Addr×Obj)}{σ:St}{H:Hp}{s:ll}(I:Inv X pins σ H s):interactive X.env=false:=by simp[interactive,I.ok.kind]
noncomputable def Hl (te:TE):TS:=λD σ H=>te σ H λ_ H1=>D.nx σ H1
theorem aL (N:PE X e te) (hs:Pn e none pos.line X.env=pure false:=by rfl):PS X (.Expr e pos) (Hl te):=by
 intro pins s σ H D I h;show wpAny_Expr_any (bV (N pins s σ H _ I h) λv s1 G=>by let#[x,H1,J,O,L]:=G;show#[σ,H1,J,L]) I.quiet hs
noncomputable def He (te:TE):TS:=λD σ H=>te σ H D.rt
theorem aE (N:PE X e te):PS X (.Return (some e) pos) (He te):=by
 intro pins s σ H D I h;show wpAny_Return_some (bV (N pins s σ H _ I h) λv s1 G=>by let#[x,H1,J,O,L]:=G;show#[x,σ,H1,J,O,L])
noncomputable def HM:TS:=λD _ H=>D.rt .non H
theorem qk:PS X (.Return none pos) HM:=λ_ _ σ H _ I h=>wpAny_Return_none #[.non,σ,H,I,rfl,h]
noncomputable def mV (c:TT) (t u:TS):TS:=λD σ H=>c σ H λb H1=>if b=true then t D σ H1 else u D σ H1
theorem aS {c:KZ}{a b:List K4}{tc:TT}(L:PT X c tc) (N:uI X a t) (R:uI X b u):PS X (.If c a b pos) (mV tc t u):=by
 intro pins s σ H D I h;show wpAny_If (bV (L pins s σ H _ I h) λd s1 O=>?_);let#[H1,G,J]:=O;cases d with
 |true=>show N pins s1 σ H1 D G J
 |false=>show R pins s1 σ H1 D G J
noncomputable def Br:TS:=λ_ _ _=>False
theorem dY:PS X st Br:=λ_ _ _ _ _ _ h=>h.elim
theorem cY {sts:List K4}:uI X sts Br:=λ_ _ _ _ _ _ h=>h.elim
end
noncomputable abbrev TG:=V->St->Hp->(St->Hp->Prop)->Prop
noncomputable abbrev FN:=List V->St->Hp->(St->Hp->Prop)->Prop
noncomputable def PG (X:Cx) (I:KZ) (t:TG):Prop :=
 ∀(pins:List (Addr×Obj)) (s:ll) (σ:St) (H:Hp) (v:V) (u:Value) (Q:St->Hp->Prop),Inv X pins σ H s->RelV v u->t v σ H Q ->
  wpAny (model X.prog X.w) X.A (QG I X.env u) (λ_ s'=>∃G H',Inv X pins G H' s'/\Q G H') X.xe s
noncomputable def IB (X:Cx) (ts:List KZ) (t:FN):Prop :=
 ∀(pins:List (Addr×Obj)) (s:ll) (σ:St) (H:Hp) (vs:List V) (us:List Value) (Q:St->Hp->Prop),Inv X pins σ H s->Vals vs us->t vs σ H Q ->
  wpAny (model X.prog X.w) X.A (Qz ((OC ts X.env).map (·.2)) us) (λ_ s'=>∃G H',Inv X pins G H' s'/\Q G H') X.xe s
noncomputable abbrev yw:=V->V->V->Hp->(Hp->Prop)->Prop
noncomputable def BN (X:Cx) (t:yw):Prop :=
 ∀(pins:List (Addr×Obj)) (s:ll) (σ:St) (H:Hp) (o i v:V) (ov G u:Value) (Q:Hp->Prop),Inv X pins σ H s->RelV o ov->RelV i G->RelV v u->t o i v H Q ->
  wpAny (model X.prog X.w) X.A (SQ ov G u) (λ_ s'=>∃H',Inv X pins σ H' s'/\Q H') X.xe s
noncomputable abbrev IE:=V->V->Hp->VK->Prop
noncomputable def Ji (X:Cx) (G:QV) (t:IE):Prop :=
 ∀(pins:List (Addr×Obj)) (s:ll) (σ:St) (H:Hp) (x y:V) (v u:Value) (Q:VK),Inv X pins σ H s->RelV x v->RelV y u->t x y H Q ->
  wpAny (model X.prog X.w) X.A (inplaceOp G v u) (EP X pins σ Q) X.xe s
section
variable {X:Cx}{pos:NO}
noncomputable def lX (i:Nat):TG:=λv σ H Q=>Q (σ.set i (some v)) H
theorem De {i:Nat}{x:Str}(G:X.N.Nodup) (hi:X.N[i]?=some x) (O:Loc X.env.scope x) (J:X.fn x=true\/X.env.scope.names.lookup x=some .local:=by first|show .inl rfl|show .inr rfl|assumption):PG X (.Name x pos) (lX i):=by
 intro pins s σ H v u Q I r h;show OZ (ir I G hi O r (λs' L=>#[_,H,L,h]) J)
theorem gb (i:Nat) {x:Str}(I:X.N.Nodup) (hi:X.N[i]?=some x:=by rfl) (J:Loc X.env.scope x:=by first|show .inl rfl|show .inr rfl) (G:X.fn x=true\/X.env.scope.names.lookup x=some .local:=by first|show .inl rfl|show .inr rfl|assumption):PG X (.Name x pos) (lX i):=De I hi J G
noncomputable def JS:FN:=λvs σ H Q=>vs=[]/\Q σ H
inductive Bj (t:TG) (u:FN) (vs:List V) (σ:St) (H:Hp) (Q:St->Hp->Prop):Prop
 |mk (v:_) (r:_) (_:vs=v::r) (_:t v σ H λσ' H'=>u r σ' H' Q):Bj t u vs σ H Q
theorem cV:IB X [] JS:=by
 intro pins s σ H vs us Q I r h;let#[e,h]:=h;subst e;cases r;show QW #[σ,H,I,h]
theorem bg {e:KZ}{es:List KZ}{t:TG}{u:FN}(h1:PG X e t) (h2:IB X es u)
  (hs:(OC (e::es) X.env).map (·.2)=QG e X.env::(OC es X.env).map (·.2):=by rfl):IB X (e::es) (Bj t u):=by
 intro pins s σ H vs us Q I r h;let#[v,S,R,h]:=h;subst R;cases r with
 |cons r G =>
  rw[hs];show OD (bV (h1 pins s σ H _ _ _ I r h) λ_ s1 N=>?_);let#[J,H1,L,O]:=N;show h2 pins s1 J H1 _ _ Q L G O
inductive F8 (K:iF) (n:Nat) (t:FN) (v:V) (σ:St) (H:Hp) (Q:St->Hp->Prop):Prop
 |mk (a:_) (xs:_) (_:v=.ref a) (_:bL K H a xs) (_:xs.length=n) (_:t xs σ H Q):F8 K n t v σ H Q
theorem dF {es:List KZ}{k:Nat}{t:FN}{n:Nat}(N:X.calm=true) (h:IB X es t)
  (L:(OC es X.env).length=n:=by rfl) (O:(OC es X.env).findIdx? (·.1)=none:=by rfl):PG X (.Tuple es k pos) (F8 X.K n t):=by
 intro pins s σ H v u Q I r G;let#[a,xs,e1,R,S,G]:=G;subst e1;cases r;let#[its,J,U,hz]:=I.tuple R;show assign_Tuple_tuple (I.ok.hd N) U (by simp[L, <-S,J.length]) O λh' Y=>?_;have I1:Inv X pins σ H { s with heap:=h' }:=I.kept (t':=s.toks) λb o e=>Y b o (Lc (Heap.lt_size e)) e;show h pins _ σ H xs _ Q I1 (by simpa using J) G
noncomputable def IP (to G:TE) (t:yw):TG:=λv σ H Q=>to σ H λo H1=>G σ H1 λi H2=>t o i v H2 λH3=>Q σ H3
theorem dW {o i:KZ}{to J:TE}{t:yw}(L:PE X o to) (hi:PE X i J) (hs:BN X t)
  (ha:∀v,QG (.Subscript o i pos) X.env v=(do
   let ov <-OY [v] (eval o X.env)
   let G <-OY [v,ov] (eval i X.env)
   QU pos
   OY [v,ov,G] (SQ ov G v)
   release [v,ov,G] []):=by intro _;rfl):PG X (.Subscript o i pos) (IP to J t):=by
 intro pins s σ H v u Q I r h;rw[ha];show iN (Mj (bV (L pins s σ H _ I h) λov s1 ac=>?_));let#[x,H1,I1,Y,S]:=ac;show iN (Mj (bV (hi pins s1 σ H1 _ I1 S) λG s2 O=>?_));let#[y,H2,N,r2,R]:=O;show iN (Oc (iN (Mj (bV (hs pins s2 σ H2 x y v ov G u _ N Y r2 r R) λ_ s3 ab=>?_))));let#[H3,I3,U]:=ab;show wpAny_release #[σ,H3,I3,U]
noncomputable def AQ (te:TE) (g:TG):TS:=λD σ H=>te σ H λx H1=>g x σ H1 D.nx
theorem cR {tg e:KZ}{te:TE}{g:TG}(N:PE X e te) (J:PG X tg g) (hs:swapsWithSole [tg] e pos.line X.env=pure false:=by rfl) (G:swappedStores [tg] e X.env=pure none:=by rfl)
  (h1:(OC [tg] X.env).map (·.2)=[QG tg X.env]:=by rfl):PS X (.Assign [tg] e pos) (AQ te g):=by
 intro pins s σ H D I h;show wpAny_Assign_stores (bV (N pins s σ H _ I h) λv s1 R=>?_) hs G;let#[x,H1,S,O,L]:=R;rw[h1];show bV (J pins s1 σ H1 x v _ S O L) λ_ s2 q=>q
theorem EJ {i:Nat}{x:Str}{e:KZ}{te:TE}{pos':NO}(J:X.N.Nodup) (hi:X.N[i]?=some x) (S:Loc X.env.scope x) (U:PE X e te) (hs:Pn e (some (.Name x pos')) pos.line X.env=pure false:=by rfl) (O:X.fn x=true\/X.env.scope.names.lookup x=some .local:=by first|show .inl rfl|show .inr rfl|assumption) :
  PS X (.Assign [.Name x pos'] e pos) (AQ te (lX i)):=by
 intro pins s σ H D I h;show wpAny_Assign_Name (bV (U pins s σ H _ I h) λv s1 G=>?_) hs;let#[y,H1,I1,Y,R]:=G;show ir I1 J hi S Y (λs2 L=>#[_,H1,L,R]) O
theorem dr (i:Nat) {x:Str}{e:KZ}{te:TE}{pos':NO}(L:X.N.Nodup) (J:PE X e te) (hi:X.N[i]?=some x:=by rfl) (I:Loc X.env.scope x:=by first|show .inl rfl|show .inr rfl) (hs:Pn e (some (.Name x pos')) pos.line X.env=pure false:=by rfl) (G:X.fn x=true\/X.env.scope.names.lookup x=some .local:=by first|show .inl rfl|show .inr rfl|assumption):PS X (.Assign [.Name x pos'] e pos) (AQ te (lX i)):=EJ L hi I J hs G
noncomputable def Jc (i j:Nat) (ta:TA):TS:=λD σ H=>ta σ H λvs H1=>BD λv w=>vs=[v,w]/\D.nx ((σ.set i (some v)).set j (some w)) H1
theorem Ec {i j:Nat}{x y:Str}{a b:KZ}{ta:TA}{px O pt:NO}{kt k2 pt2} (hc:X.calm=true) (R:X.N.Nodup) (hi:X.N[i]?=some x) (hj:X.N[j]?=some y) (ab:i≠j)
  (Y:X.env.scope.names.lookup x=some .local) (U:X.env.scope.names.lookup y=some .local) (ha:PA X [a,b] ta)
  (hw:swappedStores [.Tuple [.Name x px,.Name y O] kt pt] (.Tuple [a,b] k2 pt2) X.env=pure (some [x,y]))
  (hs:swapsWithSole [.Tuple [.Name x px,.Name y O] kt pt] (.Tuple [a,b] k2 pt2) pos.line X.env=pure false:=by rfl) :
  PS X (.Assign [.Tuple [.Name x px,.Name y O] kt pt] (.Tuple [a,b] k2 pt2) pos) (Jc i j ta):=by
 intro pins s σ H D I h;rw[exec_Assign_arm];show iN (Oc ?_);rw[hs];show iN (qi ?_);rw[Tx av];show iN (Tuple_ (bV (ha _ pins s σ H _ I h) λus s1 ap=>?_));let#[vs,H1,I1,r1,L]:=ap;let#[v,w,e1,L]:=L;subst e1;obtain⟨G,J,rfl,rv,am⟩:∃G J,us=[G,J]/\RelV v G/\RelV w J:=by
  cases r1 with
  |cons p q =>
   cases q with
   |cons p' q' =>
    cases q';show#[_,0,p,p']
 show LM ?_ dZ;have I2:Inv X pins σ H1 { s1 with heap:=s1.heap.push { cls:=.type "tuple",data:=.seq [G,J].toArray } }:=I1.kept (t':=s1.toks) λb o e=>Heap.get?_push_of_some _ e;rw[hw];show iN (qi ?_);change wpAny (model X.prog X.w) X.A (do rule "assign.swapped-stores";let items <-unpackItems (.ref s1.heap.objs.size) 2 none;Qz [λv=>RO X.env y v,λv=>RO X.env x v] items.reverse;pure Flow.next) _ _ _;show iN (Np (iN (unpackItems_tuple (items := ([G,J].toArray)) (I.ok.hd hc) (SJ s1.heap _) λh' ac=>?_)));have I3:=I2.kept (h':=h') (t':=s1.toks) λb o e=>ac b o (Lc (Heap.lt_size e)) e;change wpAny _ _ (Qz [λv=>RO X.env y v,λv=>RO X.env x v] [J,G]>>=λ_=>pure Flow.next) _ _ _;show iN (OD (wpAny_bindName (ir I3 R hj (.inl U) am (λs2 I4=>?_) (.inr U))));show OD (wpAny_bindName (ir I4 R hi (.inl Y) rv (λs3 S=>QW (qi ?_)) (.inr Y)));rw[List.set_comm _ _ (qw ab)]at S;show#[_,H1,S,L]
noncomputable def HH (to G te:TE) (L:V->V->Hp->VK->Prop) (N:IE) (J:yw):TS:=λD σ H=>to σ H λo H1=>G σ H1 λi H2=>L o i H2 λx H3=>te σ H3 λy H4=>N x y H4 λz O=>J o i z O λI=>D.nx σ I
noncomputable def Hh (X:Cx) (t:V->V->Hp->VK->Prop):Prop :=
 ∀(pins:List (Addr×Obj)) (s:ll) (σ:St) (H:Hp) (o i:V) (ov G:Value) (Q:VK),Inv X pins σ H s->RelV o ov->RelV i G->t o i H Q ->
  wpAny (model X.prog X.w) X.A (Od ov G) (EP X pins σ Q) X.xe s
theorem xw {o i e:KZ}{to S te:TE}{L:V->V->Hp->VK->Prop}{ab:IE}{U:yw}{Y:QV}{tpos:NO}(ho:PE X o to) (hi:PE X i S) (hg:Hh X L) (he:PE X e te) (hp:Ji X Y ab) (hs:BN X U)
  (ha:∀ov G new,augStore i ov G new=(do OY [new,ov,G] (SQ ov G new);release [new,ov,G] [];pure .next):=by intros;rfl):PS X (.AugAssign (.Subscript o i tpos) Y e pos) (HH to S te L ab U):=by
 intro pins s σ H D I h;show wpAny_AugAssign_SubscriptAny (bV (ho pins s σ H _ I h) λov s1 aT=>?_) ha;let#[J,H1,I1,O,q1]:=aT;show bV (hi pins s1 σ H1 _ I1 q1) λG s2 as=>?_;let#[N,H2,I2,R,q2]:=as;show bV (hg pins s2 σ H2 J N ov G _ I2 O R q2) λam s3 a0=>?_;let#[x3,H3,I3,r3,q3]:=a0;show bV (he pins s3 σ H3 _ I3 q3) λv s4 aB=>?_;let#[x4,H4,I4,r4,q4]:=aB;show bV (hp pins s4 σ H4 x3 x4 am v _ I4 r3 r4 q4) λnew s5 ac=>?_;let#[x5,H5,I5,r5,q5]:=ac;show bV (hs pins s5 σ H5 J N x5 ov G new _ I5 O R r5 q5) λ_ s6 ap=>by let#[H6,I6,q6]:=ap;show#[σ,H6,I6,q6]
noncomputable def Kh (f:Int->Int->Int):IE:=λx y H Q=>∃i j,x=.int i/\y=.int j/\Q (.int (f i j)) H
theorem ED:Ji X .Add (Kh λi j=>i+j):=by
 intro pins s σ H x y v u Q I L N h;let#[i,j,G,J,q]:=h;subst G;subst J;let#[t,rfl]:=L;let#[t',rfl]:=N;show RE #[.int _,H,I.tok _,#[0],q]
theorem EZ:Ji X .Sub (Kh λi j=>i-j):=by
 intro pins s σ H x y v u Q I L N h;let#[i,j,G,J,q]:=h;subst G;subst J;let#[t,rfl]:=L;let#[t',rfl]:=N;show isub_int #[.int _,H,I.tok _,#[0],q]
end
section
variable {X:Cx}{pos:NO}
noncomputable def Fv (c:TT) (tb:TS):TS:=λD σ H=>∃W:Nat->St->Hp->Prop,(∃m,W m σ H)/\∀m σ H,W m σ H ->
 c σ H λb H1=>if b=true then ∃N:St->Hp->Prop,(∀G H',N G H'->∃I,I<m/\W I G H')/\tb { D with nx:=N,ct:=N,bk:=D.nx } σ H1 else D.nx σ H1
theorem sD {c:KZ}{body:List K4}{tc:TT}{tb:TS}(hp:PassesOwn (model X.prog X.w) X.A X.env X.xe) (hc:PT X c tc) (hb:uI X body tb):PS X (.While c body [] pos) (Fv tc tb):=by
 intro pins s σ H D I h;let#[W,#[m0,w0],ac]:=h;show wpAny_While (codeAny_whileLoop (λn s'=>∃ab H',Inv X pins ab H' s'/\W n ab H') ?_ m0 #[σ,H,I,w0]);rintro n s1 ⟨O,H1,I1,w1⟩;show MB hp (bV (hc pins s1 O H1 _ I1 (ac n O H1 w1)) λb s2 am=>?_);let#[H2,I2,J]:=am;cases b with
 |true =>
  let#[N,hN,J]:=J;rw[Tz rfl];show MB hp (bV (hb pins s2 O H2 _ I2 J) λf s3 L=>?_);cases f with
  |next =>
   let#[G,H3,U,S]:=L;let#[Y,R,w3]:=hN G H3 S;show#[Y,R,G,H3,U,w3]
  |cont =>
   let#[G,H3,U,S]:=L;let#[Y,R,w3]:=hN G H3 S;show#[Y,R,G,H3,U,w3]
  |brk=>show L
  |ret v=>show L
 |false =>
  rw[Tx vl];show Om #[O,H2,I2,J]
end
structure It where
 go:Nat->Hp->Prop
 Bx:Nat->Hp->V->Hp->Prop
 stop:Nat->Hp->Prop
noncomputable def gn (X:Cx) (pins:List (Addr×Obj)) (H:Hp) (b:Addr):Prop :=
 H b=none/\b≠X.env.locals/\b∉X.fs/\(b∈X.ex\/X.s₀.heap.objs.size<=b)/\(∀x c,X.env.cells.lookup x=some c->c≠b)/\∀p∈X.pn++pins,p.1≠b
theorem Inv.jd {X:Cx}{pins:List (Addr×Obj)}{σ:St}{H H':Hp}{s:ll}{b:Addr}(I:Inv X pins σ H s) (G:s.heap.objs.size<=b) (J:H' b=none):gn X pins H' b:=by
 show#[J,QX (K6 I.lt G),I.Hz G,.inr (G0 I.sz G),λx c e z=>?_,λp L z=>?_]
 .let#[v,q]:=I.cell x c e;show absurd (K6 q.lt (by rw[z];show G)) (Nr _)
 .show absurd (K6 (Heap.lt_size (I.pin p L).1) (by rw[z];show G)) (Nr _)
structure Turn (P:rz) (w:C1) (K:iF) (tg:KZ) (J:It) (fp:List Addr) (it:Addr) (tn:Nat->Heap->Prop):Prop where
 mem:it∈fp
 obj:∀i h,tn i h->∀b∈fp,∃o,h.get? b=some o/\∀v,o.data≠.cell v
 keep:∀i h h',tn i h->(∀b∈fp,∀o,h.get? b=some o->h'.get? b=some o)->tn i h'
 item:∀(X:Cx),X.prog=P->X.w=w->X.K=K->X.calm=true->∀(i:Nat) (pins:List (Addr×Obj)) (s:ll) (σ:St) (H:Hp) (E:Value->ll->Prop),Inv X pins σ H s->(∀b∈fp,gn X pins H b)->tn i s.heap->J.go i H ->
  wpAny (model P w) X.A (pyNext (.ref it)) (λr s1=>∃u,r=some u /\
   wpAny (model P w) X.A (P1 tg (.ref it) u) (λ_ s2=>∃x H',Inv X pins σ H' s2/\RelV x u/\J.Bx i H x H'/\tn (i+1) s2.heap/\∀b∈fp,H' b=none) E s1) E s
 done:∀(X:Cx),X.prog=P->X.w=w->X.K=K->X.calm=true->∀(i:Nat) (pins:List (Addr×Obj)) (s:ll) (σ:St) (H:Hp) (E:Value->ll->Prop),Inv X pins σ H s->(∀b∈fp,gn X pins H b)->tn i s.heap->J.stop i H ->
  wpAny (model P w) X.A (pyNext (.ref it)) (λr s1=>r=none/\Inv X pins σ H s1) E s
 self:∀(A:KY) (i:Nat) (s:ll) (Q:Value->ll->Prop) (E:Value->ll->Prop),tn i s.heap->Q (.ref it) s->wpAny (model P w) A (pyIter (.ref it)) Q E s
noncomputable abbrev TI:=St->Hp->(It->Hp->Prop)->Prop
noncomputable def J7 (X:Cx) (pins:List (Addr×Obj)) (σ:St) (tg:KZ) (R:It->Hp->Prop) (I:Value) (s2:ll):Prop :=
 ∃(it:Addr) (fp:List Addr) (G:Nat->Heap->Prop) (J:It) (H':Hp),I=.ref it/\Inv X pins σ H' s2/\Turn X.prog X.w X.K tg J fp it G/\G 0 s2.heap/\(∀b∈fp,gn X pins H' b)/\R J H'
noncomputable def PI (X:Cx) (tg iter:KZ) (wi:TI):Prop :=
 ∀(pins:List (Addr×Obj)) (s:ll) (σ:St) (H:Hp) (R:It->Hp->Prop),Inv X pins σ H s->wi σ H R ->
  wpAny (model X.prog X.w) X.A (eval iter X.env) (λv s1=>wpAny (model X.prog X.w) X.A (pyIter v) (J7 X pins σ tg R) X.xe s1) X.xe s
theorem mX {M:Model}{A:KY}{E:Value->ll->Prop}{s:ll}{tg:KZ}{it:Addr}{u:Value}{o:Obj}{n:String}{vs:Array Value}{Q:Unit->ll->Prop}(I:s.heap.get? it=some o) (L:o.cls=.type n) (hd:o.data=.fields vs)
  (J:["enumerate","zip","dict_itemiterator","dict_reverseitemiterator","odict_iterator","itertools.zip_longest","itertools.pairwise"].contains n=false) (G:Q () s):wpAny M A (P1 tg (.ref it) u) Q E s:=by
 unfold P1;cases tg<;>first
  |show qi G
  |(cases u<;>first
    |show qi G
    |(show iN (wpAny_load I ?_)
      rw[L,hd];change wpAny M A (if (["enumerate","zip","dict_itemiterator","dict_reverseitemiterator","odict_iterator","itertools.zip_longest","itertools.pairwise"].contains n&&vs[0]?==some (rawInt _))=true then _ else _) Q E s;rw[Tx (by intro h;rw[J,Bool.false_and]at h;cases h)];show qi G))
noncomputable def Ej (K:iF) (a:Addr):It :=
 #[λi H=>∃xs x,bA K H a xs/\xs[i]?=some x,λi H x H'=>H'=H/\∀xs,bA K H a xs->xs[i]?=some x,λi H=>∃xs,bA K H a xs/\xs.length<=i]
noncomputable def Ik (K:iF) (a:Addr):It :=
 #[λi H=>∃xs x,bL K H a xs/\xs[i]?=some x,λi H x H'=>H'=H/\∀xs,bL K H a xs->xs[i]?=some x,λi H=>∃xs,bL K H a xs/\xs.length<=i]
noncomputable def CV (lo:Int) (n:Nat):It:=#[λi _=>i<n,λi H x H'=>H'=H/\x=.int (lo+i),λi _=>n<=i]
theorem yF {P:rz}{w:C1}{K:iF}{tg:KZ}(a it:Addr):Turn P w K tg (Ej K a) [it] it (λi h=>h.IsListIter it a i) where
 mem:=by simp
 obj:=λi h st b G=>by
  have e:b=it:=(by simpa using G);subst e;let#[o,e,c,d]:=st;show#[o,e,λv z=>by rw[d]at z;cases z]
 keep:=λi h h' st k=>st.at λo e=>k it (by simp) o e
 item:=by
  intro X hP hw U hc i pins s σ H E I L st hg;subst hP hw U;let#[xs,x,J,N]:=hg;let#[its,O,p,hz]:=I.list J;let#[u,hu,ru]:=O.get N;let#[f0,f1,f2,Y,S,R]:=L it (by simp);show wpAny_pyNext_list_item st p.isList (x:=u) (by simpa using hu) λh' ab sb=>?_;have I1:Inv X pins σ H { s with heap:=h' }:=I.turned (t':=s.toks) (λb o G e=>(sb.2 b G).trans e) f0 f1 Y S R;let#[o,e,c,d]:=id ab;show#[u,rfl,mX (s:={ s with heap:=h' }) e c d av #[x,H,I1,ru,#[rfl,λys hy=>by rw[I.jJ hy J];show N],ab,λb G=>(L b G).1]]
 done:=by
  intro X hP hw U hc i pins s σ H E I L st hg;subst hP hw U;let#[xs,J,N]:=hg;let#[its,O,p,hz]:=I.list J;let#[f0,f1,f2,Y,S,R]:=L it (by simp);have hl:=O.length;show wpAny_pyNext_list_end (I.ok.hd hc) st p.isList (by simp;show le_of_eq_of_le (id (Nl hl)) N) λh' eb=>#[rfl,I.turned (t':=s.toks) (λb o G e=>eb b o G e) f0 f1 Y S R]
 self:=λ_ _ _ _ _ st h=>wpAny_pyIter_listiter st h
theorem wg {P:rz}{w:C1}{K:iF}{tg:KZ}(a it:Addr):Turn P w K tg (Ik K a) [it] it (λi h=>h.IsTupleIter it a i) where
 mem:=by simp
 obj:=λi h st b G=>by
  have e:b=it:=(by simpa using G);subst e;let#[o,e,c,d]:=st;show#[o,e,λv z=>by rw[d]at z;cases z]
 keep:=λi h h' st k=>st.at λo e=>k it (by simp) o e
 item:=by
  intro X hP hw U hc i pins s σ H E I L st hg;subst hP hw U;let#[xs,x,J,N]:=hg;let#[its,O,p,hz]:=I.tuple J;let#[u,hu,ru]:=O.get N;let#[f0,f1,f2,Y,S,R]:=L it (by simp);show wpAny_pyNext_tuple_item st (show s.heap.IsTuple a its.toArray from p) (x:=u) (by simpa using hu) λh' ab sb=>?_;have I1:Inv X pins σ H { s with heap:=h' }:=I.turned (t':=s.toks) (λb o G e=>(sb.2 b G).trans e) f0 f1 Y S R;let#[o,e,c,d]:=id ab;show#[u,rfl,mX (s:={ s with heap:=h' }) e c d av #[x,H,I1,ru,#[rfl,λys hy=>by rw[I.xZ hy J];show N],ab,λb G=>(L b G).1]]
 done:=by
  intro X hP hw U hc i pins s σ H E I L st hg;subst hP hw U;let#[xs,J,N]:=hg;let#[its,O,p,hz]:=I.tuple J;let#[f0,f1,f2,Y,S,R]:=L it (by simp);have hl:=O.length;show wpAny_pyNext_tuple_end (I.ok.hd hc) st (show s.heap.IsTuple a its.toArray from p) (by simp;show le_of_eq_of_le (id (Nl hl)) N) λh' eb=>#[rfl,I.turned (t':=s.toks) (λb o G e=>eb b o G e) f0 f1 Y S R]
 self:=λ_ _ _ _ _ st h=>wpAny_pyIter_tupleiter st h
theorem uJ {P:rz}{w:C1}{K:iF}{tg:KZ}(it:Addr) (lo:Int) (n:Nat):Turn P w K tg (CV lo n) [it] it (λi h=>Qh h it (lo+(i:Nat)*1) ((n:Int)-(i:Nat)) 1) where
 mem:=by simp
 obj:=λi h st b G=>by
  have e:b=it:=(by simpa using G);subst e;show#[_,st,λv z=>by
   have z':O0 _=N6 v:=z;cases z']
 keep:=λi h h' st k=>k it (by simp) _ st
 item:=by
  intro X hP U R L i pins s σ H E I J st Y;subst hP U R;let#[f0,f1,f2,S,O,N]:=J it (by simp);have W:=Td (prog:=X.prog) (w:=X.w) (I.ok.hd L) it lo 1 n;show W.item i s _ _ Y st λv h' tk hv ab kk=>?_;let#[t,rfl]:=hv;have I1:Inv X pins σ H { s with heap:=h',toks:=tk }:=I.turned (λb o G e=>kk b o (by simpa using G) e) f0 f1 S O N;show#[0,mX (s:={ s with heap:=h',toks:=tk }) (n := "range_iterator") ab rfl rfl av #[.int (lo+i),H,I1,#[t,?_],#[1],ab,λb G=>(J b G).1]];rw[Int.mul_one]
 done:=by
  intro X hP U R L i pins s σ H E I J st Y;subst hP U R;let#[f0,f1,f2,S,O,N]:=J it (by simp);show PD (I.ok.hd L) st (by have:n<=i:=Y;omega) λh' eb=>#[rfl,I.turned (t':=s.toks) (λb o G e=>eb b o G e) f0 f1 S O N]
 self:=λ_ _ _ _ _ st h=>PF st h
section
variable {X:Cx}{tg:KZ}
noncomputable def Hn (K:iF) (tl:TE):TI:=λσ H R=>tl σ H λx H1=>∃a,x=.ref a/\(∃xs,bA K H1 a xs)/\R (Ej K a) H1
noncomputable def IW (K:iF) (tl:TE):TI:=λσ H R=>tl σ H λx H1=>∃a,x=.ref a/\(∃xs,bL K H1 a xs)/\R (Ik K a) H1
theorem fU {l:KZ}{tl:TE}(N:PE X l tl):PI X tg l (Hn X.K tl):=by
 intro pins s σ H R I h;show bV (N pins s σ H _ I h) λv s1 L=>?_;let#[x,H1,G,S,O]:=L;let#[a,e,#[xs,J],q]:=O;subst e;cases S;let#[its,rv,p,Y]:=G.list J;show O8 p.isList ?_;show#[s1.heap.objs.size,[s1.heap.objs.size],2,H1,rfl,G.kept (t':=s1.toks) λb o e=>Heap.get?_push_of_some _ e,yF a _,#[_,Heap.get?_push_size _ rfl,1],λb U=>?_,q];have e:b=s1.heap.objs.size:=(by simpa using U);subst e;show G.jd (qs _) (G.bE.fresh (qs _))
theorem DY {l:KZ}{tl:TE}(N:PE X l tl):PI X tg l (IW X.K tl):=by
 intro pins s σ H R I h;show bV (N pins s σ H _ I h) λv s1 J=>?_;let#[x,H1,G,S,O]:=J;let#[a,e,#[xs,L],q]:=O;subst e;cases S;let#[its,rv,p,Y]:=G.tuple L;show wpAny_pyIter_tuple (show s1.heap.IsTuple a its.toArray from p) ?_;show#[s1.heap.objs.size,[s1.heap.objs.size],2,H1,rfl,G.kept (t':=s1.toks) λb o e=>Heap.get?_push_of_some _ e,wg a _,#[_,Heap.get?_push_size _ rfl,1],λb U=>?_,q];have e:b=s1.heap.objs.size:=(by simpa using U);subst e;show G.jd (qs _) (G.bE.fresh (qs _))
theorem sX {pins:List (Addr×Obj)}{σ:St}{H:Hp}{s:ll}{R:It->Hp->Prop}{E:Value->ll->Prop}{lo hi:Int}{t u v:Tv}{tk:Nat}(I:Inv X pins σ H s) (h1 : -(2^62)<=lo) (h2:lo<2^62) (N : -(2^62)<=hi) (L:hi<2^62)
  (q:R (CV lo (hi-lo).toNat) H):wpAny (model X.prog X.w) X.A (pyIter (.ref s.heap.objs.size)) (J7 X pins σ tg R) E { s with heap:=s.heap.push { cls:=.type "range",data:=.fields ([.int lo t,.int hi u,.int 1 v].toArray) },toks:=tk }:=by
 show QH (Te ..) (small_one h1 h2 N L) ?_;have G:Inv X pins σ H { s with heap:=s.heap.push { cls:=.type "range",data:=.fields ([.int lo t,.int hi u,.int 1 v].toArray) },toks:=tk }:=I.kept λb o e=>Heap.get?_push_of_some _ e;show#[(s.heap.push { cls:=.type "range",data:=.fields ([.int lo t,.int hi u,.int 1 v].toArray) }).objs.size,[(s.heap.push { cls:=.type "range",data:=.fields ([.int lo t,.int hi u,.int 1 v].toArray) }).objs.size],2,H,rfl,
  G.kept (t':=tk) λb o e=>Heap.get?_push_of_some _ e,uJ _ lo (hi-lo).toNat,?_,λb O=>?_,q]
 .have S:lo+((0:Nat):Int)*1=lo:=(by simp);have J:(((hi-lo).toNat:Nat):Int)-((0:Nat):Int)=Builtin.Range.rangeSize lo hi 1:=(by rw[rangeSize_one];split<;>omega);change Qh _ _ (lo+((0:Nat):Int)*1) ((((hi-lo).toNat:Nat):Int)-((0:Nat):Int)) 1;rw[S,J];show Heap.get?_push_size _ rfl
 .have e:b=(s.heap.push { cls:=.type "range",data:=.fields ([.int lo t,.int hi u,.int 1 v].toArray) }).objs.size:=(by simpa using O);subst e;show G.jd (qs _) (G.bE.fresh (qs _))
noncomputable def Hj (ta:TA):TI:=λσ H R=>ta σ H λvs H1=>∃j:Int,vs=[.int j] /\ -(2^62)<=j/\j<2^62/\R (CV 0 j.toNat) H1
noncomputable def Gn (ta:TA):TI:=λσ H R=>ta σ H λvs H1=>BD λ(i j:Int)=>r9 (vs=[.int i,.int j]) ((-(2^62)<=i/\i<2^62 /\ -(2^62)<=j/\j<2^62)) (R (CV i (j-i).toNat) H1)
theorem o8 {a:KZ}{ta:TA}{p pos:NO}(U:Gl X "range") (J:X.mg "range" = none) (S:PA X [a] ta) (hs:starEach [a] X.env=[(false,eval a X.env)]:=by rfl):PI X tg (.Call (.Name "range" p) [a] [] pos) (Hj ta):=by
 intro pins s σ H R I h;show Call_ (gX I U J RP (LD (bV (S pos pins s σ H _ I h) λus s1 N=>?_) hs rfl));let#[vs,H1,O,r1,G]:=N;let#[j,e,G,Y,q]:=G;subst e;cases r1 with
 |cons r L =>
  cases L;let#[t,rfl]:=r;show call_range_1 (sX O af af G Y (by simpa using q))
theorem fg {a b:KZ}{ta:TA}{p pos:NO}(hg:Gl X "range") (N:X.mg "range" = none) (ha:PA X [a,b] ta) (hs:starEach [a,b] X.env=[(false,eval a X.env),(false,eval b X.env)]:=by rfl) (L:starEach [b] X.env=[(false,eval b X.env)]:=by rfl) :
  PI X tg (.Call (.Name "range" p) [a,b] [] pos) (Gn ta):=by
 intro pins s σ H R I h;show Call_ (gX I hg N RP (LD (bV (ha pos pins s σ H _ I h) λus s1 ⟨vs,H1,I1,Y,G⟩=>?_) (by rw[hs,L]) (by rw[L];rfl)));let#[i,j,e,#[G,O,U,S],q]:=G;subst e;cases Y with
 |cons r J =>
  cases J with
  |cons r' J =>
   cases J;let#[t,rfl]:=r;let#[t',rfl]:=r';show call_range_2 (sX I1 G O U S q)
noncomputable def Jb (wi:TI) (g:TG) (tb:TS):TS:=λD σ H=>wi σ H λJ H1=>∃W:Nat->Nat->St->Hp->Prop,(∃m,W 0 m σ H1)/\∀i m σ H,W i m σ H ->
 (J.stop i H/\D.nx σ H)\/(J.go i H/\∃N:St->Hp->Prop,(∀G H',N G H'->∃I,I<m/\W (i+1) I G H')/\∀x H',J.Bx i H x H'->g x σ H' λL H2=>tb { D with nx:=N,ct:=N,bk:=D.nx } L H2)
noncomputable def lY (fp:List Addr) (h:Heap):List (Addr×Obj):=fp.filterMap λb=>(h.get? b).map λo=>(b,o)
theorem gG {fp:List Addr}{h:Heap}{b:Addr}{o:Obj}(G:b∈fp) (e:h.get? b=some o):(b,o)∈lY fp h:=QI.mpr #[b,G,by rw[e];rfl]
theorem yD {fp:List Addr}{h:Heap}{p:Addr×Obj}(I:p∈lY fp h):p.1∈fp/\h.get? p.1=some p.2:=by
 let#[b,J,e]:=QI.mp I;cases q:h.get? b with
 |none=>rw[q]at e;cases e
 |some o =>
  rw[q]at e;have G:(b,o)=p:=rn e;subst G;show#[J,q]
theorem Inv.pinned {pins:List (Addr×Obj)}{σ:St}{H:Hp}{s:ll}{fp:List Addr}(I:Inv X pins σ H s) (R:∀b∈fp,gn X pins H b) (S:∀b∈fp,∃o,s.heap.get? b=some o/\∀v,o.data≠.cell v):Inv X (pins++lY fp s.heap) σ H s :=
 I.lQ λp N=>(n7.mp N).elim (λz=>I.pin p (K0 _ z)) λz=>by
  let#[J,e]:=yD z;let#[U,L,O,_]:=R p.1 J;let#[o,G,d]:=S p.1 J;rw[e]at G;cases G;show#[e,U,L,O,d]
theorem Inv.mh {pins pl:List (Addr×Obj)}{σ:St}{H:Hp}{s:ll}(I:Inv X (pins++pl) σ H s):Inv X pins σ H s:=I.lQ λp G=>I.pin p (K0 _ (LR _ G))
theorem cG {iter:KZ}{body:List K4}{wi:TI}{g:TG}{tb:TS}{pos:NO}(hp:PassesOwn (model X.prog X.w) X.A X.env X.xe) (hc:X.calm=true) (hi:PI X tg iter wi) (hg:PG X tg g) (R:uI X body tb)
  (hs:∀x,Pa iter X.env x=pure x:=by intro _;rfl):PS X (.For tg iter body [] pos) (Jb wi g tb):=by
 intro pins s σ H D I h;show wpAny_For (bV (hi pins s σ H _ I h) λv s1 h1=>bV h1 λba s2 h2=>?_) hs;let#[it,fp,tn,J,H2,e,I2,T,a6,f2,W,#[m0,w0],a1]:=h2;subst e;have am:∀{H':Hp},(∀b∈fp,H' b=none)->∀b∈fp,gn X pins H' b:=λhn b R=>#[hn b R,(f2 b R).2];show codeAny_forLoop_any (λn s'=>∃i Y H',Inv X pins Y H' s'/\tn i s'.heap/\(∀b∈fp,H' b=none)/\W i n Y H') ?_ m0 #[(0),σ,H2,I2,a6,λb R=>(f2 b R).1,w0];rintro n s3 ⟨i,ab,H3,I3,as,ap,w3⟩;rcases a1 i n ab H3 w3 with⟨aT,qn⟩|⟨go,N,hN,step⟩
 .show MB hp (bV (T.done X rfl rfl rfl hc i pins s3 ab H3 X.xe I3 (am ap) as aT) λr s4 a5=>?_);let#[hr,I4]:=a5;subst hr;show Om #[ab,H3,I4,qn]
 .show MB hp (bV (T.item X rfl rfl rfl hc i pins s3 ab H3 X.xe I3 (am ap) as go) λr s4 a2=>?_);let#[u,hr,h4]:=a2;subst hr;show MB hp (bV h4 λ_ s5 a0=>?_);let#[x,H5,I5,r5,y5,ac,a7]:=a0;have a3:=I5.pinned (am a7) (T.obj _ _ ac);show MB hp (bV (hg _ s5 ab H5 x u _ a3 r5 (step x H5 y5)) λ_ s6 a4=>?_);let#[aB,H6,I6,q6]:=a4;show MB hp (bV (R _ s6 aB H6 _ I6 q6) λf s7 S=>?_);have again:∀{L:St}{O:Hp},Inv X (pins++lY fp s5.heap) L O s7->N L O->∃m,m<n/\∃i Y H',Inv X pins Y H' s7/\tn i s7.heap/\(∀b∈fp,H' b=none)/\W i m Y H':=λ{L O} G U=>by
   let#[m',hm,w7]:=hN L O U;show#[m',hm,i+1,L,O,G.mh,T.keep _ _ _ ac λb R o e=>(G.pin (b,o) (K0 _ (K0 _ (gG R e)))).1,λb R=>?_,w7];let#[o,e,d]:=T.obj _ _ ac b R;show(G.pin (b,o) (K0 _ (K0 _ (gG R e)))).2.1
  cases f with
  |next=>let#[L,O,G,U]:=S;show again G U
  |cont=>let#[L,O,G,U]:=S;show again G U
  |brk=>let#[L,O,G,S]:=S;show#[L,O,G.mh,S]
  |ret v=>let#[x7,L,O,G,r7,S]:=S;show#[x7,L,O,G.mh,r7,S]
end
theorem fG {K:iF}{a:Addr}{xs:List V}{g:TG}{tb:TS}{D:Ends}{σ:St}{H:Hp}(Pv:Nat->St->Hp->Prop) (S:Pv 0 σ H) (R:∀i σ H,i<=xs.length->Pv i σ H->bA K H a xs)
  (hs:∀i x σ H,xs[i]?=some x->Pv i σ H->g x σ H λI H2=>tb { D with nx:=Pv (i+1),ct:=Pv (i+1),bk:=D.nx } I H2) (hd:∀σ H,Pv xs.length σ H->D.nx σ H) :
  ∃W:Nat->Nat->St->Hp->Prop,(∃m,W 0 m σ H)/\∀i m σ H,W i m σ H ->
   ((Ej K a).stop i H/\D.nx σ H)\/((Ej K a).go i H/\∃N:St->Hp->Prop,(∀G H',N G H'->∃L,L<m/\W (i+1) L G H')/\∀x H',(Ej K a).Bx i H x H'->g x σ H' λI H2=>tb { D with nx:=N,ct:=N,bk:=D.nx } I H2):=by
 show#[λi m σ H=>m=xs.length-i/\i<=xs.length/\Pv i σ H,#[xs.length,by simp,KU _,S],?_];rintro i m σ H ⟨rfl,hi,p⟩;have q:=R i σ H hi p;by_cases J:i<xs.length
 .show .inr #[#[xs,xs[i],q,by simp[J]],Pv (i+1),λG H' O=>#[xs.length-(i+1),Ls (Mm xs) i J,rfl,J,O],λx H' y=>?_];let#[e,y]:=y;subst e;show hs i x σ _ (y xs q) p
 .have e:i=xs.length:=af;subst e;show .inl #[#[xs,q,qs _],hd σ H p]
theorem gk {lo:Int}{n:Nat}{g:TG}{tb:TS}{D:Ends}{σ:St}{H:Hp}(Pv:Nat->St->Hp->Prop) (R:Pv 0 σ H)
  (hs:∀i σ H,i<n->Pv i σ H->g (.int (lo+i)) σ H λJ H2=>tb { D with nx:=Pv (i+1),ct:=Pv (i+1),bk:=D.nx } J H2) (hd:∀σ H,Pv n σ H->D.nx σ H) :
  ∃W:Nat->Nat->St->Hp->Prop,(∃m,W 0 m σ H)/\∀i m σ H,W i m σ H ->
   ((CV lo n).stop i H/\D.nx σ H)\/((CV lo n).go i H/\∃N:St->Hp->Prop,(∀I H',N I H'->∃L,L<m/\W (i+1) L I H')/\∀x H',(CV lo n).Bx i H x H'->g x σ H' λJ H2=>tb { D with nx:=N,ct:=N,bk:=D.nx } J H2):=by
 show#[λi m σ H=>m=n-i/\i<=n/\Pv i σ H,#[n,by simp,KU _,R],?_];rintro i m σ H ⟨rfl,hi,p⟩;by_cases G:i<n
 .show .inr #[G,Pv (i+1),λI H' O=>#[n-(i+1),Ls n i G,rfl,G,O],λx H' y=>?_];let#[e,y]:=y;subst e y;show hs i σ _ G p
 .have e:i=n:=af;subst e;show .inl #[qs _,hd σ H p]
noncomputable abbrev R2:=V->V->Hp->VK->Prop
noncomputable def k6 (X:Cx) (f:Value->Value->QT Value) (r:R2):Prop :=
 ∀(pins:List (Addr×Obj)) (s:ll) (σ:St) (H:Hp) (x y:V) (v u:Value) (Q:VK),Inv X pins σ H s->RelV x v->RelV y u->r x y H Q ->
  wpAny (model X.prog X.w) X.A (f v u) (EP X pins σ Q) X.xe s
noncomputable def JM (X:Cx) (f:Value->QT Value) (r:V->Hp->VK->Prop):Prop :=
 ∀(pins:List (Addr×Obj)) (s:ll) (σ:St) (H:Hp) (x:V) (v:Value) (Q:VK),Inv X pins σ H s->RelV x v->r x H Q ->
  wpAny (model X.prog X.w) X.A (f v) (EP X pins σ Q) X.xe s
noncomputable def dB (X:Cx) (f:Value) (r:List V->Hp->VK->Prop):Prop :=
 ∀(pins:List (Addr×Obj)) (s:ll) (σ:St) (H:Hp) (xs:List V) (us:List Value) (Q:VK),Inv X pins σ H s->Vals xs us->r xs H Q ->
  wpAny (model X.prog X.w) X.A (call f us) (EP X pins σ Q) X.xe s
noncomputable def BB (r:R2) (ta tb:TE):TE:=λσ H Q=>ta σ H λx H1=>tb σ H1 λy H2=>r x y H2 Q
noncomputable def Kn (r:V->Hp->VK->Prop) (ta:TE):TE:=λσ H Q=>ta σ H λx H1=>r x H1 Q
inductive rI (C:Int->Int->Prop) (g:Int->Int->V) (x:V) (y:V) (H:Hp) (Q:VK):Prop
 |mk (i:_) (j:_) (_:x=.int i) (_:y=.int j) (_:C i j) (_:Q (g i j) H):rI C g x y H Q
inductive Dp (g:Int->Int->V) (x:V) (y:V) (H:Hp) (Q:VK):Prop
 |mk (i:_) (j:_) (_:x=.int i) (_:y=.int j) (_:Q (g i j) H):Dp g x y H Q
inductive rU (g:Int->V) (x:V) (H:Hp) (Q:VK):Prop
 |mk (i:_) (_:x=.int i) (_:Q (g i) H):rU g x H Q
section
variable {X:Cx}{a b c:KZ}{ta tb tc:TE}{pos:NO}
theorem EG (G:PE X a ta) (hb:PE X b tb) {pins:List (Addr×Obj)}{s:ll}{σ:St}{H:Hp}{R:V->V->Hp->Prop}(I:Inv X pins σ H s)
  (h:ta σ H λx H1=>tb σ H1 λy H2=>R x y H2) {Q:Value->ll->Prop}{f:Value->Value->QT Value}
  (O:∀v u s2 x y H2,Inv X pins σ H2 s2->RelV x v->RelV y u->R x y H2->wpAny (model X.prog X.w) X.A (f v u) Q X.xe s2) :
  wpAny (model X.prog X.w) X.A (eval a X.env) (λv U=>wpAny (model X.prog X.w) X.A (eval b X.env) (λu J=>wpAny (model X.prog X.w) X.A (f v u) Q X.xe J) X.xe U) X.xe s:=by
 show bV (G pins s σ H _ I h) λv s1 ab=>?_;let#[x,H1,L,r1,Y]:=ab;show bV (hb pins s1 σ H1 _ L Y) λu s2 ac=>?_;let#[y,H2,N,r2,S]:=ac;show O v u s2 x y H2 N r1 r2 S
theorem aA {G:QV}{r:R2}(O:k6 X (Oh G) r) (L:PE X a ta) (S:PE X b tb):PE X (.BinOp a G b pos) (BB r ta tb):=by
 intro pins s σ H Q I h;show wpAny_BinOp (EG L S I h λv u s2 x y H2 N J R q=>O pins s2 σ H2 x y v u Q N J R q)
theorem Ga {G:UnaryOp}{r:V->Hp->VK->Prop}(N:JM X (unaryOp G) r) (J:PE X a ta):PE X (.UnaryOp G a pos) (Kn r ta):=by
 intro pins s σ H Q I h;show UnaryOp_ (bV (J pins s σ H _ I h) λv s1 L=>by let#[x,H1,S,R,O]:=L;show N pins s1 σ H1 x v Q S R O)
theorem Iu {f:Value->Value->QT Value}{C:Int->Int->Prop}{g:Int->Int->Int}
  (rule:∀(i j:Int) (t u:Tv) (s:ll) (Q:Value->ll->Prop) (E:Value->ll->Prop),C i j->Q (.int (g i j) s.toks) { s with toks:=s.toks+1 }->wpAny (model X.prog X.w) X.A (f (.int i t) (.int j u)) Q E s) :
  k6 X f (rI C λi j=>.int (g i j)):=by
 intro pins s σ H x y v u Q I G L h;let#[i,j,rfl,rfl,J,q]:=h;let#[t,rfl]:=G;let#[t',rfl]:=L;show rule i j t t' s _ _ J #[.int (g i j),H,I.tok _,#[0],q]
theorem Hq {f:Value->Value->QT Value}{g:Int->Int->Int}
  (rule:∀(i j:Int) (t u:Tv) (s:ll) (Q:Value->ll->Prop) (E:Value->ll->Prop),Q (.int (g i j) s.toks) { s with toks:=s.toks+1 }->wpAny (model X.prog X.w) X.A (f (.int i t) (.int j u)) Q E s) :
  k6 X f (Dp λi j=>.int (g i j)):=by
 intro pins s σ H x y v u Q I G J h;let#[i,j,rfl,rfl,q]:=h;let#[t,rfl]:=G;let#[t',rfl]:=J;show rule i j t t' s _ _ #[.int (g i j),H,I.tok _,#[0],q]
theorem Ea {f:Value->Value->QT Value}{g:Int->Int->Bool}
  (rule:∀(i j:Int) (t u:Tv) (s:ll) (Q:Value->ll->Prop) (E:Value->ll->Prop),Q (.bool (g i j)) s->wpAny (model X.prog X.w) X.A (f (.int i t) (.int j u)) Q E s) :
  k6 X f (Dp λi j=>.bl (g i j)):=by
 intro pins s σ H x y v u Q I G J h;let#[i,j,rfl,rfl,q]:=h;let#[t,rfl]:=G;let#[t',rfl]:=J;show rule i j t t' s _ _ #[.bl (g i j),H,I,rfl,q]
noncomputable def HN (i j:Int):Prop:=0<j/\j<1073741824
noncomputable def IV (i j:Int):Prop:=0<=j/\j<=1000000/\i.natAbs<2^64
noncomputable def AU (i j:Int):Prop:=(-(2^64)<i/\i<2^64)\/(-(2^64)<j/\j<2^64)
theorem AU.ok {i j:Int}(h:AU i j):IntMulOk i j:=by
 rcases h with⟨h1,h2⟩|⟨h1,h2⟩
 .show .of_left (intBits_le_64 h1 h2)
 .show .of_right (intBits_le_64 h1 h2)
theorem bp:k6 X (Oh .Add) (Dp λi j=>.int (i+j)):=Hq λ_ _ _ _ _ _ _ q=>add_int q
theorem jb:k6 X (Oh .Sub) (Dp λi j=>.int (i-j)):=Hq λ_ _ _ _ _ _ _ q=>sub_int q
theorem er:k6 X (Oh .Mult) (rI AU λi j=>.int (i*j)):=Iu λ_ _ _ _ _ _ _ G q=>mul_int q G.ok
theorem br:k6 X (Oh .FloorDiv) (rI HN λi j=>.int (i/j)):=Iu λi j _ _ _ _ _ G q=>by
 have h1:(0:Int)<j:=G.1;have h2:j<1073741824:=G.2;show floordiv_int af (by rw[Int.fdiv_eq_ediv_of_nonneg i af];show q) (.inl (PyProof.noPylong_small af))
theorem bB:k6 X (Oh .Mod) (rI (λ_ j=>0<j) λi j=>.int (i%j)):=Iu λi j _ _ _ _ _ G q=>by
 have h1:(0:Int)<j:=G;show mod_int' af (by rw[Int.fmod_eq_emod_of_nonneg i af];show q)
theorem vo:k6 X (Oh .Pow) (rI IV λi j=>.int (i^j.toNat)):=Iu λ_ _ _ _ _ _ _ G q=>pow_int_small G.1 G.2.1 G.2.2 q
theorem Kv {f:Value->QT Value}{g:Int->Int}
  (rule:∀(i:Int) (t:Tv) (s:ll) (Q:Value->ll->Prop) (E:Value->ll->Prop),Q (.int (g i) s.toks) { s with toks:=s.toks+1 }->wpAny (model X.prog X.w) X.A (f (.int i t)) Q E s) :
  JM X f (rU λi=>.int (g i)):=by
 intro pins s σ H x v Q I G h;let#[i,rfl,q]:=h;let#[t,rfl]:=G;show rule i t s _ _ #[.int (g i),H,I.tok _,#[0],q]
theorem FG:JM X (unaryOp .USub) (rU λi=>.int (-i)):=Kv λ_ _ _ _ _ q=>neg_int q
end
noncomputable def tf:V->V->Bool
 |.non,.non=>true|.non,.int _=>true|.int _,.non=>true|.non,.bl _=>true|.bl _,.non=>true|.non,.str _=>true|.str _,.non=>true
 |.int _,.int _=>true|.bl _,.bl _=>true|.str _,.str _=>true|.byt _,.byt _=>true
 |.int _,.str _=>true|.str _,.int _=>true|.bl _,.str _=>true|.str _,.bl _=>true
 |_,_=>false
noncomputable def E5:R2:=λx y H Q=>tf x y=true/\Q (.bl (decide (x=y))) H
noncomputable def KL:R2:=λx y H Q=>tf x y=true/\Q (.bl (!decide (x=y))) H
theorem w6 {i j:Int}:decide (V.int i=V.int j)=(i==j):=by
 rw[Nd];simp
theorem AN {i j:Bool}:decide (V.bl i=V.bl j)=(i==j):=by
 rw[Nd];simp
theorem wK {i j:Str}:decide (V.str i=V.str j)=(i==j):=by
 rw[Nd];simp
theorem xg {i j:Array UInt8}:decide (V.byt i=V.byt j)=(i.toList==j.toList):=by
 rw[Nd];cases i;cases j;simp
section
variable {X:Cx}{a b c:KZ}{ta tb tc:TE}{pos:NO}
theorem bO {pins:List (Addr×Obj)}{σ:St}{H:Hp}{s:ll}{Q:VK}{k G:Bool}(I:Inv X pins σ H s) (q:Q (.bl k) H) (e:k=G):EP X pins σ Q (.bool G) s:=by
 subst e;show#[.bl k,H,I,rfl,q]
theorem bR:k6 X (LY .Eq) E5:=by
 intro pins s σ H x y v u Q I J G h;let#[hs,q]:=h;cases x with
 |non =>
  cases J;cases y with
  |non=>cases G;show PySem.EqNone.eq_none_none (bO I q (by simp))
  |bl j=>cases G;show PySem.EqNone.eq_none_bool (bO I q (by simp))
  |int j=>let#[t',rfl]:=G;show PySem.EqNone.eq_none_int (bO I q (by simp))
  |str j=>let#[t',rfl]:=G;show PySem.EqNone.eq_none_str (bO I q (by simp))
  |_=>show absurd (show false=true from hs) vl
 |bl i =>
  cases J;cases y with
  |non=>cases G;show PySem.EqNone.eq_bool_none (bO I q (by simp))
  |bl j=>cases G;show eq_bool (bO I q AN)
  |str j=>let#[t',rfl]:=G;show Sq (bO I q (by simp))
  |_=>show absurd (show false=true from hs) vl
 |int i =>
  let#[t,rfl]:=J;cases y with
  |non=>cases G;show PySem.EqNone.eq_int_none (bO I q (by simp))
  |int j=>let#[t',rfl]:=G;show eq_int (bO I q w6)
  |str j=>let#[t',rfl]:=G;show Sw (bO I q (by simp))
  |_=>show absurd (show false=true from hs) vl
 |str i =>
  let#[t,rfl]:=J;cases y with
  |non=>cases G;show PySem.EqNone.eq_str_none (bO I q (by simp))
  |bl j=>cases G;show Sr (bO I q (by simp))
  |int j=>let#[t',rfl]:=G;show Sx (bO I q (by simp))
  |str j=>let#[t',rfl]:=G;show eq_str (bO I q wK)
  |_=>show absurd (show false=true from hs) vl
 |byt i =>
  let#[t,rfl]:=J;cases y with
  |byt j=>let#[t',rfl]:=G;show PySem.W.eq_bytes (bO I q xg)
  |_=>show absurd (show false=true from hs) vl
 |_=>cases y<;>show absurd (show false=true from hs) vl
theorem DK:k6 X (LY .NotEq) KL:=by
 intro pins s σ H x y v u Q I J G h;let#[hs,q]:=h;cases x with
 |non =>
  cases J;cases y with
  |non=>cases G;show PySem.EqNone.ne_none_none (bO I q (by simp))
  |bl j=>cases G;show PySem.EqNone.ne_none_bool (bO I q (by simp))
  |int j=>let#[t',rfl]:=G;show PySem.EqNone.ne_none_int (bO I q (by simp))
  |str j=>let#[t',rfl]:=G;show PySem.EqNone.ne_none_str (bO I q (by simp))
  |_=>show absurd (show false=true from hs) vl
 |bl i =>
  cases J;cases y with
  |non=>cases G;show PySem.EqNone.ne_bool_none (bO I q (by simp))
  |bl j=>cases G;show ne_bool (bO I q (congrArg not AN))
  |str j=>let#[t',rfl]:=G;show Ss (bO I q (by simp))
  |_=>show absurd (show false=true from hs) vl
 |int i =>
  let#[t,rfl]:=J;cases y with
  |non=>cases G;show PySem.EqNone.ne_int_none (bO I q (by simp))
  |int j=>let#[t',rfl]:=G;show ne_int (bO I q (congrArg not w6))
  |str j=>let#[t',rfl]:=G;show Sy (bO I q (by simp))
  |_=>show absurd (show false=true from hs) vl
 |str i =>
  let#[t,rfl]:=J;cases y with
  |non=>cases G;show PySem.EqNone.ne_str_none (bO I q (by simp))
  |bl j=>cases G;show Su (bO I q (by simp))
  |int j=>let#[t',rfl]:=G;show Sz (bO I q (by simp))
  |str j=>let#[t',rfl]:=G;show ne_str (bO I q (congrArg not wK))
  |_=>show absurd (show false=true from hs) vl
 |byt i =>
  let#[t,rfl]:=J;cases y with
  |byt j=>let#[t',rfl]:=G;show PySem.W.ne_bytes (bO I q (congrArg not xg))
  |_=>show absurd (show false=true from hs) vl
 |_=>cases y<;>show absurd (show false=true from hs) vl
theorem gI:k6 X (LY .Lt) (Dp λi j=>.bl (decide (i<j))):=Ea λ_ _ _ _ _ _ _ q=>lt_int q
theorem gJ:k6 X (LY .Gt) (Dp λi j=>.bl (decide (j<i))):=Ea λ_ _ _ _ _ _ _ q=>gt_int q
theorem Gr:k6 X (LY .GtE) (Dp λi j=>.bl (decide (j<=i))):=Ea λ_ _ _ _ _ _ _ q=>ge_int q
theorem Fd:k6 X (LY .Is) (λx y H Q=>y=.non/\Q (.bl (decide (x=.non))) H):=by
 intro pins s σ H x y v u Q I G J h;let#[rfl,q]:=h;cases J;show is_none_gen (bO I q ?_);cases x<;>first
  |(cases G;rfl)
  |(let#[t,rfl]:=G;rfl)
theorem aI (b:KZ) {G:Tc}(h:G≠.In:=by decide) (h2:G≠.NotIn:=by decide):Nz G b=false:=by
 have J:(G==CmpOp.In)=false:=by cases G<;>first|rfl|show absurd rfl h
 have I:(G==CmpOp.NotIn)=false:=by cases G<;>first|rfl|show absurd rfl h2
 cases b<;>simp[Nz,J,I]
theorem iC {G:Tc}{r:R2}(R:k6 X (LY G) r) (N:PE X a ta) (U:PE X b tb) (J:Nz G b=false):PE X (.Compare a [G] [b] pos) (BB r ta tb):=by
 intro pins s σ H Q I h;show wpAny_Compare1 (EG N U I h λv u s2 x y H2 O L S q=>R pins s2 σ H2 x y v u Q O L S q) J
inductive zQ (t:TE) (Q:Bool->Hp->Prop) (x:V) (H':Hp):Prop
 |mk (k:_) (_:x=.bl k) (_:Q k H'):zQ t Q x H'
noncomputable def oj (t:TE):TT:=λσ H Q=>t σ H λx H'=>zQ t Q x H'
theorem aD {G:Tc}{r:R2}(R:k6 X (LY G) r) (L:PE X a ta) (O:PE X b tb) (J:Nz G b=false):PT X (.Compare a [G] [b] pos) (oj (BB r ta tb)):=by
 intro pins s σ H Q I h;show P6 (bV (L pins s σ H _ I h) λv s1 ⟨x,H1,I1,r1,Y⟩=>bV (O pins s1 σ H1 _ I1 Y) λu s2 ⟨y,H2,S,r2,U⟩ =>
  bV (R pins s2 σ H2 x y v u _ S r1 r2 U) λc s3 ⟨z,H3,I3,N,k,e,q3⟩=>?_) J
 subst e;cases N;show LV #[H3,I3,q3]
theorem nJ:(sizeLine:Nat)<2^63:=by rw[vu];decide
theorem vals1 {x:V}{us:List Value}(r:Vals [x] us):∃u,us=[u]/\RelV x u:=by
 cases r with
 |cons G I=>cases I;show#[0,G]
theorem vals2 {x y:V}{us:List Value}(r:Vals [x,y] us):∃u G,us=[u,G]/\RelV x u/\RelV y G:=by
 cases r with
 |cons J L =>
  cases L with
  |cons I N=>cases N;show#[_,0,J,I]
theorem pQ (J:X.calm=true):dB X (.builtin "max") (λxs H Q=>∃i j,xs=[.int i,.int j]/\Q (.int (if j>i then j else i)) H):=by
 intro pins s σ H xs us Q I r h;let#[i,j,rfl,q]:=h;let#[u,L,rfl,#[t,rfl],#[t',rfl]]:=vals2 r;show max_two_ints (I.ok.hd J) λh' tk k=>#[_,H,I.kept k,?_,q];by_cases G:j>i
 .rw[Tz G,Tz G];show#[0]
 .rw[Tx G,Tx G];show#[0]
theorem pV (J:X.calm=true):dB X (.builtin "min") (λxs H Q=>∃i j,xs=[.int i,.int j]/\Q (.int (if j<i then j else i)) H):=by
 intro pins s σ H xs us Q I r h;let#[i,j,rfl,q]:=h;let#[u,L,rfl,#[t,rfl],#[t',rfl]]:=vals2 r;show min_two_ints (I.ok.hd J) λh' tk k=>#[_,H,I.kept k,?_,q];by_cases G:j<i
 .rw[Tz G,Tz G];show#[0]
 .rw[Tx G,Tx G];show#[0]
theorem ed:dB X (.type "int") (λxs H Q=>(∃i,xs=[.int i]/\Q (.int i) H)\/∃k,xs=[.bl k]/\Q (.int (if k then 1 else 0)) H):=by
 intro pins s σ H xs us Q I r h;rcases h with⟨i,rfl,q⟩|⟨k,rfl,q⟩
 .let#[u,rfl,t,rfl]:=vals1 r;show call_int_int #[.int i,H,I,#[0],q]
 .let#[u,rfl,G]:=vals1 r;cases G;show call_int_bool #[.int (if k then 1 else 0),H,I.tok _,#[0],q]
end
structure wc (h:Heap) (x dx C:Addr) (mA:Str->Option Value):Prop where
 obj:h.get? x=some (instObj C dx)
 ns:h.Ns1 dx mA
 ne:dx≠x
theorem xH {h:Heap}{dx:Addr}{mA:Str->Option Value}(n:h.Ns1 dx mA):∃od,h.get? dx=some od/\∀name,lookIn name od=some (mA name):=by
 let#[o,es,ep,J,hd,O,_,G]:=n;show#[o,J,λname=>?_];have e:=G name;unfold nsFind findBy at e;rw[<-Array.find?_toList]at e;unfold lookIn;rw[hd];dsimp only
 set_option tactic.hygienic true in split
 .rename_i y q;rw[q]at e;show congrArg some e
 .rename_i q;rw[q]at e;have a:es.toList.any (·.refKey)=false:=by
   rw[QY];intro y L;let#[z,t,I]:=O y (Array.mem_toList_iff.mp L);simp[DictEntry.refKey,I]
  have N:¬ es.toList.any (·.refKey)=true:=(by rw[a];show vl);rw[Tx N];show congrArg some e
theorem wc.look {h:Heap}{x dx C:Addr}{mA:Str->Option Value}(I:wc h x dx C mA):∃od,PySem.W.InstAt h x (instObj C dx) C (some od)/\∀name,lookIn name od=some (mA name):=
 let ⟨od,J,G⟩:=xH I.ns
 #[od,#[I.obj,1,J],G]
section
variable {prog:rz}{w:C1}{A:KY}{E:Value->ll->Prop}{s:ll}{K:iF}{x dx C f:Addr}{mA:Str->Option Value}{name:Str}{v:Value}
theorem get_map {G:Bool}{Q:Value->ll->Prop}(X:K.In s.heap) (I:wc s.heap x dx C mA) (L:RQ K C name=true) (S:SK K C=true)
  (U:OE K (.ref C) name=some none) (R:mA name=some v) (O:handedIn v=true) (h:Q v { s with toks:=s.toks+1 }) :
  wpAny (model prog w) A (getAttr (.ref x) name G) Q E s:=by
 let#[od,J,N]:=I.look;show PySem.W.get_value X J (Rv L).1 (PySem.W.findObj_own S U rfl (by rw[N,R])) O h
theorem Ar {pl:QT Bool}{Q:Value×List Value->ll->Prop}(X:K.In s.heap) (I:wc s.heap x dx C mA) (G:RQ K C name=true)
  (L:OE K (.ref C) name=some (some (.ref f))) (O:isFn K (.ref f)=true) (R:mA name=none) (h:Q (.ref f,[.ref x]) s) :
  wpAny (model prog w) A (Po (.ref x) name pl) Q E s:=by
 let#[od,J,N]:=I.look;show PySem.W.method_fn X J (Rv G).1 (Rv G).2 L (beq_iff_eq.mp O) (by change(lookIn name od).map (·.isSome)=some false;rw[N,R];rfl) h
theorem Ca {ns:List Str}{Q:Unit->ll->Prop}(X:K.In s.heap) (I:wc s.heap x dx C mA)
  (hs:OE K (.ref C) "__setattr__" = some (some (.builtin "object.__setattr__"))) (O:plainOver K C=true) (ht:takerIn K C name=some none) (hh:SK K C=true)
  (N:QR mA ns) (hsz:ns.length<=sizeLine)
  (h:∀h',wc h' x dx C (λy=>if y=name then some v else mA y)->Heap.SameBut dx s.heap h'->Q () { s with heap:=h',toks:=s.toks+2 }) :
  wpAny (model prog w) A (setAttr (.ref x) name v) Q E s:=by
 let#[od,J,hl]:=I.look;show PySem.W.set_plain X J hs (PySem.W.osa_open (s:={ s with toks:=s.toks+1 }) (r:=none) X J O ht λb=>?_);let#[cd,S,R]:=PySem.W.any_some hh;have hx:s.heap.get? x=some #[.ref C,some dx,.plain, ([].toArray)]:=I.obj;show iN (qi (iN (iN (wpAny_loadPart hx (iN (Tp (s:={ s with toks:=s.toks+1 }) (PySem.W.looks_clsIn X S) ?_))))));rw[R];show qi (a:=some dx) (iN (qi (iN ?_)));show wpAny_nsSet1 (s:={ s with toks:=s.toks+1 }) I.ns λh' L G=>?_;let#[oD,ac,am,ab,U,Y]:=L.count (PySem.Within.cons name v N);show iN (wpAny_lookBehind ab (by rw[U];show pastItsLine_dict (G0 Y (by rw[KO];show Qi hsz 1))) ?_);show qi (h _ #[(G.2 _ (qw I.ne)).trans I.obj,L,I.ne] G)
theorem zx {R:Result->ll->Prop}{vs:List Value}{G:List (Str×Value)}(X:K.In s.heap) (I:makesIn K C=true)
  (hi:OE K (.ref C) "__init__" = some (some (.ref f))) (J:PySem.W.typeIn K (.ref f)=some (.type "function"))
  (h:Oy (model prog w) (A.under (.builtin "type.__call__" #[.ref C::vs,G])) (.call (.ref f) #[.ref (s.heap.objs.size+1)::vs,G]) (PySem.W.InitBack (s.heap.objs.size+1) R)
   { s with heap:=(s.heap.push emptyDict).push (instObj C s.heap.objs.size) }) :
  Oy (model prog w) A (.call (.ref C) #[vs,G]) R s:=by
 let#[L,g,d,t,os]:=s;show PySem.W.make_core (PySem.W.makes_of X I) (PySem.W.looks_findIn X hi) (λself=>PySem.W.bind_fn X self J) (.inl rfl) h
end
noncomputable def bo (f:Str) (v:V):List (Str×V)->List (Str×V)
 | []=>[(f,v)]
 |(g,x)::r=>if g=f then(g,v)::r else(g,x)::bo f v r
theorem aG (f g:Str) (v:V):∀fs:List (Str×V),(bo f v fs).lookup g=if g=f then some v else fs.lookup g
 | []=>by
  change NP g [(f,v)]=_;by_cases h:g=f
  .have G:(g==f)=true:=beq_iff_eq.mpr h;simp only[NP,G,Tz h]
  .have G:(g==f)=false:=beq_eq_false_iff_ne.mpr h;simp only[NP,G,Tx h]
 |(k,x)::r=>by
  have J:=aG f g v r;rw[show bo f v ((k,x)::r)=(if k=f then(k,v)::r else(k,x)::bo f v r)from rfl];by_cases I:k=f
  .rw[Tz I];by_cases h:g=k
   .have G:(g==k)=true:=beq_iff_eq.mpr h;simp only[NP,G,Tz (h.trans I)]
   .have G:(g==k)=false:=beq_eq_false_iff_ne.mpr h;simp only[NP,G,Tx (λe:g=f=>h (e.trans I.symm))]
  .rw[Tx I];by_cases h:g=k
   .have G:(g==k)=true:=beq_iff_eq.mpr h;simp only[NP,G,Tx (λe:g=f=>I (h.symm.trans e))]
   .have G:(g==k)=false:=beq_eq_false_iff_ne.mpr h;simp only[NP,G];show J
theorem kC (f:Str) (v:V):∀fs:List (Str×V),f∈(bo f v fs).map (·.1)/\∀g,g∈fs.map (·.1)->g∈(bo f v fs).map (·.1)
 | []=>#[by simp[bo],λg h=>by simp at h]
 |(k,x)::r=>by
  let#[J,I]:=kC f v r;rw[show bo f v ((k,x)::r)=(if k=f then(k,v)::r else(k,x)::bo f v r)from rfl];by_cases G:k=f
  .rw[Tz G];subst G;show#[by simp,λg h=>by simpa using h]
  .rw[Tx G];show#[?_,λg h=>?_]
   .rw[Mc];show K5 _ J
   .rw[Mc]at h ⊢;rcases BY.mp h with e|e
    .show BY.mpr (.inl e)
    .show K5 _ (I g e)
theorem kU (f:Str) (v:V):∀fs:List (Str×V),(bo f v fs).length<=fs.length+1
 | []=>by simp[bo]
 |(k,x)::r=>by
  have I:=kU f v r;rw[show bo f v ((k,x)::r)=(if k=f then(k,v)::r else(k,x)::bo f v r)from rfl];by_cases G:k=f
  .rw[Tz G,KO,KO];omega
  .rw[Tx G,KO,KO];show Qi I 1
theorem fX.some_of {v:V}{o:Option Value}(r:fX (some v) o):∃u,o=some u/\RelV v u:=by
 cases o with
 |none=>show(show False from r).elim
 |some u=>show#[u,rfl,r]
theorem fX.none_of {o:Option Value}(r:fX none o):o=none:=by
 cases o with
 |none=>rfl
 |some u=>show(show False from r).elim
theorem yj {v:V}{u:Value}(r:RelV v u):handedIn u=true:=by
 cases v with
 |non=>cases(show u=Value.none from r);rfl
 |bl b=>cases(show u=Value.bool b from r);rfl
 |int i=>let#[t,e]:=(show ∃t,u=Value.int i t from r);cases e;rfl
 |str x=>let#[t,e]:=(show ∃t,u=Value.str x t from r);cases e;rfl
 |byt b=>let#[t,e]:=(show ∃t,u=Value.bytes b t from r);cases e;rfl
 |flt b=>let#[t,e]:=(show ∃t,u=Value.float b t from r);cases e;rfl
 |ref a=>cases(show u=Value.ref a from r);rfl
 |ty n=>cases(show u=Value.type n from r);rfl
section
variable {P:rz}{w:C1}{H H':Hp}{h h':Heap}{a C dx:Addr}{fs fs':List (Str×V)}
theorem lL (I:iY P w H h) (e:H a=some (.ins C dx fs)):∃mA,wc h a dx C mA/\(∀f,fX (fs.lookup f) (mA f))/\QR mA (fs.map (·.1))/\fs.length<=1000/\H dx=some (.own a):=by
 let#[d,z,G,ob,mA,n,r,q]:=(show bT P w H h a (.ins C dx fs)from I a _ e);show#[mA,#[ob,n,G],r,q,z,d]
end
structure sg (K:iF) (C:Addr):Prop where
 pg:RQ K C Str.empty=true
 hd:SK K C=true
 po:plainOver K C=true
 sa:OE K (.ref C) "__setattr__" = some (some (.builtin "object.__setattr__"))
theorem sg.get {K:iF}{C:Addr}(c:sg K C) (f:Str):RQ K C f=true:=c.pg
noncomputable def c6 (K:iF) (C:Addr) (f:Str):Prop:=OE K (.ref C) f=some none
theorem c6.GN {K:iF}{C:Addr}{f:Str}(n:c6 K C f):takerIn K C f=some none:=by
 unfold takerIn;rw[show OE K (.ref C) f=some none from n];rfl
structure Meth (K:iF) (C:Addr) (m:Str) (f:Addr):Prop where
 at_:OE K (.ref C) m=some (some (.ref f))
 fn:isFn K (.ref f)=true
 kp:Qj K (.ref f)=true
section
variable {X:Cx}{pins:List (Addr×Obj)}{σ:St}{H:Hp}{s:ll}{a C dx:Addr}{fs:List (Str×V)}{f:Str}{v:V}{A:KY}{E:Value->ll->Prop}
theorem oa {b:Bool}{Q:Value->ll->Prop}(I:Inv X pins σ H s) (e:H a=some (.ins C dx fs)) (c:sg X.K C) (n:c6 X.K C f) (l:fs.lookup f=some v)
  (h:∀u s',Inv X pins σ H s'->RelV v u->Q u s'):wpAny (model X.prog X.w) A (getAttr (.ref a) f b) Q E s:=by
 let#[mA,O,r,_,_,_]:=lL I.bE e;let#[u,J,G]:=fX.some_of (v:=v) (o:=mA f) (by rw[<-l];show r f);show get_map I.kA O (c.get f) c.hd n J (yj G) (h u _ (I.tok _) G)
theorem mM {m:Str}{g:Addr}{pl:QT Bool}{Q:Value×List Value->ll->Prop}(I:Inv X pins σ H s) (e:H a=some (.ins C dx fs)) (c:sg X.K C) (k:Meth X.K C m g) (l:fs.lookup m=none)
  (h:Q (.ref g,[.ref a]) s):wpAny (model X.prog X.w) A (Po (.ref a) m pl) Q E s:=by
 let#[mA,O,r,_,_,_]:=lL I.bE e;have G:mA m=none:=fX.none_of (by rw[<-l];show r m);show Ar I.kA O (c.get m) k.at_ k.fn G h
theorem lZ {y:V}{u:Value}{Q:Unit->ll->Prop}(I:Inv X pins σ H s) (e:H a=some (.ins C dx fs)) (c:sg X.K C) (n:c6 X.K C f) (U:fs.length<1000) (S:RelV y u)
  (h:∀s',Inv X pins σ (upd H a (.ins C dx (bo f y fs))) s'->Q () s'):wpAny (model X.prog X.w) A (setAttr (.ref a) f u) Q E s:=by
 let#[mA,O,r,wi,_,J]:=lL I.bE e;have L:(fs.map (·.1)).length<=sizeLine:=(by rw[mu,vu];omega);show Ca I.kA O c.sa c.po n.GN c.hd wi L λh' G R=>h _ ?_;have hd:∃o,h'.get? dx=some o:=let ⟨o,_,_,N,_⟩:=G.ns;#[o,N];show I.write (x:=a) (e:=dx) (by rw[e];show LW) (.inr J) (λb q hb z=>(R.2 b hb).trans z) hd ?_;show#[by rw[ah O.ne];show J,?_,O.ne,G.obj,_,G.ns,λg=>?_,λg Y=>?_]
 .have:=kU f y fs;show G0 this U
 .change fX ((bo f y fs).lookup g) (if g=f then some u else mA g);rw[aG];by_cases q:g=f
  .rw[Tz q,Tz q];show S
  .rw[Tx q,Tx q];show r g
 .by_cases q:g=f
  .rw[q];show(kC f y fs).1
  .show(kC f y fs).2 g (wi g λz=>Y ?_);change(if g=f then some u else mA g)=none;rw[Tx q];show z
theorem Inv.made (I:Inv X pins σ H s):Inv X pins σ (upd (upd H s.heap.objs.size (.own (s.heap.objs.size+1))) (s.heap.objs.size+1) (.ins C s.heap.objs.size []))
  { s with heap:=(s.heap.push emptyDict).push (instObj C s.heap.objs.size) }:=by
 have J:(s.heap.push emptyDict).get? s.heap.objs.size=some emptyDict:=Heap.get?_push_size s.heap rfl;have L:((s.heap.push emptyDict).push (instObj C s.heap.objs.size)).get? (s.heap.objs.size+1)=some (instObj C s.heap.objs.size):=by
  have:=Heap.get?_push_size (s.heap.push emptyDict) (o:=instObj C s.heap.objs.size) rfl
  rwa [Heap.size_push]at this
 have O:(s.heap.push emptyDict).Ns s.heap.objs.size (λ_=>none):=#[emptyDict, ([].toArray),_,J,rfl,(λe N=>absurd N (by simp)),λ_=>rfl];have S:=I.laid (a:=s.heap.objs.size) (o:=.own (s.heap.objs.size+1)) (h':=s.heap.push emptyDict) (t':=s.toks) (λb u q=>Heap.get?_push_of_some _ q) (qs _) #[_,J];show S.laid (a:=s.heap.objs.size+1) (o:=.ins C s.heap.objs.size []) (t':=s.toks) (λb u q=>Heap.get?_push_of_some _ q) (QZ (Heap.size_push _ _)) ?_;have G:s.heap.objs.size≠s.heap.objs.size+1:=Lc (N7 _);show#[by rw[ah G,ae],KU _,G,L,λ_=>none,(Heap.Ns1.of_empty O).at λo q=>Heap.get?_push_of_some _ q,λ_=>LW,λy R=>absurd rfl R]
theorem Cg {prog:rz}{w:C1}{env:SO}{e:KZ}{f:Str}{pos:NO}{s:ll}{Q:Value->ll->Prop}(I:Nh e f env (eval e env)=eval e env)
  (h:wpAny (model prog w) A (eval e env) (λo G=>wpAny (model prog w) A (getAttr o f true) Q E G) E s):wpAny (model prog w) A (eval (.Attribute e f pos) env) Q E s :=
 Attribute_any_ h (by rw[arm_eval_Attribute,I])
end
inductive DP (K:iF) (ta:TE) (f:Str) (Q:VK) (x:V) (H1:Hp):Prop
 |mk (a:_) (C:_) (dx:_) (fs:_) (v:_) (_:x=.ref a) (_:H1 a=some (.ins C dx fs)) (_:sg K C) (_:c6 K C f) (_:fs.lookup f=some v) (_:Q v H1):DP K ta f Q x H1
noncomputable def BZ (K:iF) (ta:TE) (f:Str):TE:=λσ H Q=>ta σ H λx H1=>DP K ta f Q x H1
noncomputable def Ju (K:iF) (ta tv:TE) (f:Str):TS:=λD σ H=>tv σ H λy H1=>ta σ H1 λx H2=>Iv λa C dx fs=>Bw (x=.ref a) (H2 a=some (.ins C dx fs)) (sg K C) (c6 K C f) (fs.length<1000) (D.nx σ (upd H2 a (.ins C dx (bo f y fs))))
noncomputable def F0 (X:Cx) (G:QV) (rd:V->V->Hp->VK->Prop):Prop :=
 ∀(pins:List (Addr×Obj)) (s:ll) (σ:St) (H:Hp) (x y:V) (u v:Value) (Q:VK),Inv X pins σ H s->RelV x u->RelV y v->rd x y H Q->wpAny (model X.prog X.w) X.A (inplaceOp G u v) (EP X pins σ Q) X.xe s
noncomputable def BS (K:iF) (ta tv:TE) (rd:V->V->Hp->VK->Prop) (f:Str):TS:=λD σ H=>ta σ H λx H1=>BF λa C dx fs v=>Bw (x=.ref a) (H1 a=some (.ins C dx fs)) (sg K C) (c6 K C f) (fs.lookup f=some v) (tv σ H1 λy H2=>rd v y H2 λz H3=>∃G fs',H3 a=some (.ins C G fs')/\fs'.length<1000/\D.nx σ (upd H3 a (.ins C G (bo f z fs'))))
section
variable {X:Cx}{o e value:KZ}{f:Str}{pos pos' tpos:NO}{ta tv:TE}
theorem aK (R:PE X e ta) (U:Nh e f X.env (eval e X.env)=eval e X.env):PE X (.Attribute e f pos) (BZ X.K ta f):=by
 intro pins s σ H Q I h;show Cg U (bV (R pins s σ H _ I h) λu s1 S=>?_);let#[x,H1,N,L,a,C,dx,fs,v,ex,J,c,n,l,q]:=S;subst ex;obtain rfl:u=Value.ref a:=L;show oa N J c n l λY s2 O G=>#[v,H1,O,G,q]
theorem fE (U:PE X o ta) (hv:PE X value tv) (hs:Pn value (some (.Attribute o f pos')) pos.line X.env=pure false):PS X (.Assign [.Attribute o f pos'] value pos) (Ju X.K ta tv f):=by
 intro pins s σ H D I h;show plainObj_wpAny_Assign_Attribute (bV (hv pins s σ H _ I h) λu s1 S=>?_) hs;let#[y,H1,I1,L,q]:=S;show bV (U pins s1 σ H1 _ I1 q) λov s2 Y=>?_;let#[x,H2,G,R,a,C,dx,fs,ex,O,c,n,l,J]:=Y;subst ex;obtain rfl:ov=Value.ref a:=R;show lZ G O c n l L λs3 N=>#[σ,_,N,J]
theorem xU {G:QV}{rd:V->V->Hp->VK->Prop}(ha:PE X o ta) (hv:PE X value tv) (am:F0 X G rd):PS X (.AugAssign (.Attribute o f tpos) G value pos) (BS X.K ta tv rd f):=by
 intro pins s σ H D I h;show wpAny_AugAssign_AttributeAny (bV (ha pins s σ H _ I h) λov s1 ab=>?_);let#[x,H1,I1,rx,a,C,dx,fs,v,ex,ea,c,n,l,q]:=ab;subst ex;obtain rfl:ov=Value.ref a:=rx;show oa I1 ea c n l λu s2 J ru=>bV (hv pins s2 σ H1 _ J q) λw3 s3 L=>?_;let#[y,H2,I3,N,U]:=L;show bV (am pins s3 σ H2 v y u w3 _ I3 ru N U) λw4 s4 ap=>?_;let#[z,H3,I4,Y,as,fs',ac,R,O]:=ap;show lZ I4 ac c n R Y λs5 S=>#[σ,_,S,O]
inductive Gj (x:V) (y:V) (H:Hp) (Q:VK):Prop
 |mk (i:_) (j:_) (_:x=.int i) (_:y=.int j) (_:Q (.int (i+j)) H):Gj x y H Q
theorem E1:F0 X .Add Gj:=by
 rintro pins s σ H x y u v Q I G J ⟨i,j,rfl,rfl,q⟩;let#[t,rfl]:=(show ∃t,u=Value.int i t from G);let#[t',rfl]:=(show ∃t',v=Value.int j t' from J);show RE #[.int (i+j),H,I.tok _,#[0],q]
end
section
variable {X:Cx}{pins:List (Addr×Obj)}{σ:St}{H:Hp}{s:ll}{A:KY}{E:Value->ll->Prop}{Q:Value->ll->Prop}{c:Value}{b:Bool}
inductive jN (K:iF) (H:Hp):V->Value->Prop where
 |non:jN K H .non (.type "NoneType")
 |bl (x:Bool):jN K H (.bl x) (.type "bool")
 |int (i:Int):jN K H (.int i) (.type "int")
 |str (x:Str):jN K H (.str x) (.type "str")
 |flt (x:UInt64):jN K H (.flt x) (.type "float")
 |lst {a:Addr}{xs:List V}(e:H a=some (.lst xs)):jN K H (.ref a) (.type "list")
 |bP {a:Addr}{o:Obj}{xs:List V}(e:H a=some (.bP o (.lst xs))):jN K H (.ref a) (.type "list")
 |tup {a:Addr}{xs:List V}(e:H a=some (.tup xs)):jN K H (.ref a) (.type "tuple")
 |dK {a:Addr}{kvs:List (Key×V)}(e:H a=some (.dK kvs)):jN K H (.ref a) (.type "dict")
 |dT {a:Addr}{kvs:List (List Key×V)}(e:H a=some (.dT kvs)):jN K H (.ref a) (.type "dict")
 |ins {a C dx:Addr}{fs:List (Str×V)}(e:H a=some (.ins C dx fs)) (cl:sg K C) (ha:OE K (.ref C) "__class__" = some (some (.builtin "object.__class__")))
   (hn:PySem.W.specialIn K (.builtin "object.__class__") "__get__" = some (some (.builtin "getset_descriptor.__get__"))) (htk:PySem.W.takesIn K (.builtin "object.__class__")=some true)
   (hm:PySem.W.mroIn K C (.type "object")=some true):jN K H (.ref a) (.ref C)
theorem xR {x:V}{u t:Value}(I:Inv X pins σ H s) (L:RelV x u) (ty:jN X.K H x t) (e:NL X.K t c=some b) (h:∀tk,Q (.bool b) { s with toks:=tk }) :
  wpAny (model X.prog X.w) A (call (.builtin "isinstance") [u,c]) Q E s:=by
 cases ty with
 |non=>cases(show u=Value.none from L);show NV PySem.W.kitx_none I.kA LW e (λz=>nomatch z) h
 |bl y=>cases(show u=Value.bool y from L);show NV PySem.W.kitx_bool I.kA LW e (λz=>nomatch z) h
 |int i=>let#[t,q]:=(show ∃t,u=Value.int i t from L);cases q;show NV PySem.W.kitx_int I.kA LW e (λz=>nomatch z) h
 |str y=>let#[t,q]:=(show ∃t,u=Value.str y t from L);cases q;show NV PySem.W.kitx_str I.kA LW e (λz=>nomatch z) h
 |flt y=>let#[t,q]:=(show ∃t,u=Value.float y t from L);cases q;show NV PySem.W.kitx_float I.kA LW e (λz=>nomatch z) h
 | @lst a xs G =>
  cases(show u=Value.ref a from L);let#[_,_,n,_,h1]:=(show bT X.prog X.w H s.heap a (.lst xs)from I.bE a _ G);show NV kitx_list I.kA #[_,h1,rfl] e (λz=>nomatch z) h
 | @bP a ob xs G =>
  cases(show u=Value.ref a from L);let#[_,_,_,n,_,h1]:=(show bT X.prog X.w H s.heap a (.bP ob (.lst xs))from I.bE a _ G);show NV kitx_list I.kA #[_,h1,rfl] e (λz=>nomatch z) h
 | @tup a xs G =>
  cases(show u=Value.ref a from L);let#[_,_,_,p]:=(show bT X.prog X.w H s.heap a (.tup xs)from I.bE a _ G);let#[o,h1,h2,_]:=p;show NV kitx_tuple I.kA #[o,h1,h2] e (λz=>nomatch z) h
 | @dK a kvs G =>
  cases(show u=Value.ref a from L);let#[_,_,vs,_,p]:=(show bT X.prog X.w H s.heap a (.dK kvs)from I.bE a _ G);let#[o,es,ep,h1,h2,_]:=p;show NV kitx_dict I.kA #[o,h1,h2.1] e (λz=>nomatch z) h
 | @dT a kvs G =>
  cases(show u=Value.ref a from L);let#[_,_,xs,_,o,es,ep,h1,h2,_]:=(show bT X.prog X.w H s.heap a (.dT kvs)from I.bE a _ G);show NV kitx_dict I.kA #[o,h1,h2.1] e (λz=>nomatch z) h
 | @ins a C dx fs G cl U R S N =>
  cases(show u=Value.ref a from L);let#[mA,O,_]:=lL I.bE G;let#[od,J,_]:=O.look;show NV (PySem.W.kitx_own (cl.get _) cl.hd U R S N) I.kA J e (λz=>nomatch z) h
end
structure dy (k:Nat) (A:KY):Prop where
 hd:A.handled=none
 dp:A.depth+3*k+5<recursionLimit
 un:A.units+16*k+200<NQ
theorem dy.mono {j k:Nat}{A:KY}(r:dy k A) (h:j<=k):dy j A:=#[r.hd,by have:=r.dp;omega,by have:=r.un;omega]
theorem dy.deeper {k:Nat}{A:KY}(r:dy (k+1) A) (env:SO):dy k (A.deeper env):=
 #[r.hd,by have:=r.dp;change A.depth+1+3*k+5<_;omega,by have:=r.un;change A.units+3+16*k+200<_;omega]
theorem vv {A:KY}{C:Addr}{us:List Value}{G:List (Str×Value)}:(A.under (.builtin "type.__call__" #[.ref C::us,G])).depth=A.depth+1:=by
 first|rfl|simp[Q0,Code.weight,Code.isCreation,Code.isGuard,Code.isCaller,Tf,Q1,guardIds]
theorem vO {A:KY}{C:Addr}{us:List Value}{G:List (Str×Value)}:(A.under (.builtin "type.__call__" #[.ref C::us,G])).units=A.units+1:=by
 first|rfl|simp[Q0,Code.cUnits,Tf,Q1]
theorem dy.make {k:Nat}{A:KY}(r:dy (k+1) A) (C:Addr) (us:List Value) (G:List (Str×Value)):dy k (A.under (.builtin "type.__call__" #[.ref C::us,G])):=
 #[r.hd,by have:=r.dp;rw[vv];omega,by have:=r.un;rw[vO];omega]
theorem dy.depth {k:Nat}{A:KY}(r:dy k A):A.depth<recursionLimit:=by have:=r.dp;omega
theorem dy.units {k:Nat}{A:KY}(r:dy k A):A.units+64<NQ:=by have:=r.un;omega
theorem dy.ix {k:Nat}{A:KY}(r:dy k A):A.units<NQ:=by have:=r.un;omega
noncomputable def Cc:TA:=λ_ H Q=>Q [] H
noncomputable def F6 (ta:TE) (G:TA):TA:=λσ H Q=>ta σ H λx H1=>G σ H1 λxs H2=>Q (x::xs) H2
section
variable {X:Cx}{e:KZ}{es:List KZ}{te:TE}{t:TA}{pos:NO}
theorem ai:PA X [] Cc:=λ_ _ _ _ H Q I h=>Calls.spliced_nil #[[],H,I,.nil,h]
theorem aa (J:PE X e te) (G:PA X es t) (hs:starEach (e::es) X.env=(false,eval e X.env)::starEach es X.env:=by rfl):PA X (e::es) (F6 te t):=by
 intro pos pins s σ H Q I h;rw[hs];change wpAny _ _ (spliced ((false,eval e X.env)::backTo pos (starEach es X.env))) _ _ s;show Calls.spliced_cons (bV (J pins s σ H _ I h) λu s1 R=>?_);let#[x,H1,Y,S,O]:=R;show bV (G pos pins s1 σ H1 _ Y O) λus s2 U=>by let#[xs,H2,L,r2,N]:=U;show#[x::xs,H2,L,.cons S r2,N]
noncomputable def Jk (t:TA):TE:=λσ H Q=>t σ H λxs H1=>xs.length<=sizeLine/\∀p,H1 p=none->Q (.ref p) (upd H1 p (.tup xs))
noncomputable def FV (t:TA):TE:=λσ H Q=>t σ H λxs H1=>xs.length<=sizeLine/\∀p,H1 p=none->Q (.ref p) (upd H1 p (.lst xs))
theorem b7 {x1} (h:PA X es t):PE X (.Tuple es x1 pos) (Jk t):=by
 intro pins s σ H Q I J;show wpAny_Tuple_spliced (bV (h pos pins s σ H _ I J) λus s1 L=>?_);let#[xs,H1,G,r,z,q]:=L;show#[by rw[<-r.length];show z,?_];have N:H1 s1.heap.objs.size=none:=G.bE.fresh (qs _);show#[.ref s1.heap.objs.size,upd H1 s1.heap.objs.size (.tup xs),G.laid (t':=s1.toks) (λb u e=>Heap.get?_push_of_some _ e) (qs _) ?_,rfl,q _ N];show#[z,us,r,#[_,Heap.get?_push_size _ rfl,rfl,0]]
theorem cg (h:PA X es t):PE X (.List es pos) (FV t):=by
 intro pins s σ H Q I J;show wpAny_List_spliced (bV (h pos pins s σ H _ I J) λus s1 N=>?_);let#[xs,H1,G,r,z,q]:=N;show#[by rw[<-r.length];show z,?_];have L:H1 s1.heap.objs.size=none:=G.bE.fresh (qs _);show#[.ref s1.heap.objs.size,upd H1 s1.heap.objs.size (.lst xs),G.laid (t':=s1.toks) (λb u e=>Heap.get?_push_of_some _ e) (qs _) ?_,rfl,q _ L];show#[z,us,(0),r,Heap.get?_push_size _ rfl]
end
noncomputable abbrev Sp:=List V->Hp->VK->XK->Prop
noncomputable abbrev uf:=List SO->Hp->ll->XK->Value->ll->Prop
structure wz (P:rz) (w:C1) (K:iF) (mg:Str->Option Value) (base:Heap) (A:KY) (outer:List SO) (s:ll) (H:Hp):Prop where
 frames:A.frames=some outer
 mod:Mod K mg base
 bs:∀b o,base.get? b=some o->s.heap.get? b=some o/\H b=none
 BG:base.objs.size<=s.heap.objs.size
 kG:s.heap.FunFrames base outer
 DG:∀b∈yU outer,H b=none
 bE:iY P w H s.heap
 bare:OX s.gens
noncomputable def CE (outer:List SO) (P:rz) (w:C1) (H:Hp) (s:ll) (Q:VK) (u:Value) (s':ll):Prop :=
 ∃v H',s'.os=s.os/\OX s'.gens/\Un (yU outer) [] H H' s.heap s'.heap/\iY P w H' s'.heap/\RelV v u/\Q v H'
noncomputable def CR (CX:uf) (outer:List SO) (P:rz) (w:C1) (H:Hp) (s:ll) (Q:VK) (E:XK) (r:Result) (s':ll):Prop :=
 match r with
 |.ok (.ret u)=>CE outer P w H s Q u s'
 |.ok _=>False
 |.error e=>CX outer H s E e s'
structure a8 (P:rz) (w:C1) (K:iF) (mg:Str->Option Value) (base:Heap) (CX:uf) (k:Nat) (f:Addr) (fd:qj) (ps:List Str) (sp:Sp):Prop where
 len:∀vs H Q E,sp vs H Q E->vs.length=ps.length
 run:∀(A:KY) (outer:List SO) (s:ll) (H:Hp) (args:Args) (us:List Value) (vs:List V) (Q:VK) (E:XK),dy k A->wz P w K mg base A outer s H->Q2 s fd args (ps.zip us)->Vals vs us->sp vs H Q E ->
  Oy (model P w) A (.call (.ref f) args) (CR CX outer P w H s Q E) s
theorem wz.make {P:rz}{w:C1}{K:iF}{mg:Str->Option Value}{base:Heap}{A:KY}{outer:List SO}{s:ll}{H:Hp}(e:wz P w K mg base A outer s H) (C:Addr) (us:List Value) (G:List (Str×Value)) :
  wz P w K mg base (A.under (.builtin "type.__call__" #[.ref C::us,G])) outer s H:=#[by first|show e.frames|(simpa[Q0,Code.envs,Q1,pushEnvs]using e.frames),e.mod,e.bs,e.BG,e.kG,e.DG,e.bE,e.bare]
section
variable {X:Cx}{pins:List (Addr×Obj)}{σ:St}{H:Hp}{s s':ll}
theorem Inv.Hc (I:Inv X pins σ H s):wz X.prog X.w X.K X.mg X.base X.A X.stack s H :=
 #[I.ok.frames,I.ok.mod,I.bs,G0 I.ok.BG I.sz,I.stack,I.xm,I.bE,I.bare]
theorem Inv.after {Q:VK}{u:Value}(I:Inv X pins σ H s) (h:CE X.stack X.prog X.w H s Q u s'):EP X pins σ Q u s':=by
 let#[v,H',os,bare,un,L,r,q]:=h;let#[J,g,d,t,G]:=s';obtain rfl:G=s.os:=os;show#[v,H',I.call (h':=J) (g':=g) (d':=d) (t':=t) (ch:=[]) un L bare (λb z=>absurd z (by simp)),r,q]
end
noncomputable def DF (sp:Sp) (dvs:List V) (E:XK) (t:TA):TE:=λσ H Q=>t σ H λvs H1=>sp (vs++dvs) H1 Q E
inductive AX (C:Addr) (m:Str) (sp:Sp) (dvs:List V) (E:XK) (ta:TE) (t:TA) (σ:St) (Q:VK) (x:V) (H1:Hp):Prop
 |mk (a:_) (dx:_) (fs:_) (_:x=.ref a) (_:H1 a=some (.ins C dx fs)) (_:fs.lookup m=none) (_:t σ H1 λvs H2=>sp (x::(vs++dvs)) H2 Q E):AX C m sp dvs E ta t σ Q x H1
noncomputable def xu (C:Addr) (m:Str) (sp:Sp) (dvs:List V) (E:XK) (ta:TE) (t:TA):TE:=λσ H Q=>ta σ H λx H1=>AX C m sp dvs E ta t σ Q x H1
noncomputable def Dn (C:Addr) (sp:Sp) (dvs:List V) (E:XK) (t:TA):TE:=λσ H Q=>t σ H λvs H1=>∀x dx,H1 x=none->H1 dx=none->dx≠x ->
 sp (.ref x::(vs++dvs)) (upd (upd H1 dx (.own x)) x (.ins C dx [])) (λv H2=>v=.non/\Q (.ref x) H2) E
noncomputable def Binds (K:iF) (fd:qj) (ps:List Str) (ds:List Value):Prop :=
 ∀(s:ll) (us:List Value),K.In s.heap->(us++ds).length=ps.length->Q2 s fd #[us,[]] (ps.zip (us++ds))
theorem Binds.all {K:iF}{fd:qj}{ps:List Str}(h:∀us:List Value,us.length=ps.length->RS fd #[us,[]]=pure (ps.zip us)):Binds K fd ps []:=λs us _ G=>by
 rw[QJ]at G ⊢;show .of_eq (h us G)
noncomputable def Passes (CX:uf) (X:Cx) (E:XK):Prop:=∀(pins:List (Addr×Obj)) (σ:St) (H:Hp) (s:ll) (e:Value) (s':ll),Inv X pins σ H s->CX X.stack H s E e s'->X.xe e s'
section
variable {X:Cx}{CX:uf}{k:Nat}{f C:Addr}{fd:qj}{ps:List Str}{sp:Sp}{dvs:List V}{ds:List Value}{E:XK}{x m:Str}{p pos apos:NO}{e o:KZ}{es:List KZ}{ta:TE}{t:TA}
theorem u0 {pins:List (Addr×Obj)}{σ:St}{H:Hp}{s:ll}{Q:VK}{us:List Value}{vs:List V}(F:a8 X.prog X.w X.K X.mg X.base CX k f fd ps sp) (L:dy k X.A) (N:Binds X.K fd ps ds) (hd:Vals dvs ds) (S:Passes CX X E)
  (I:Inv X pins σ H s) (r:Vals vs us) (h:sp (vs++dvs) H Q E):wpAny (model X.prog X.w) X.A (call (.ref f) us) (EP X pins σ Q) X.xe s:=by
 have J:Vals (vs++dvs) (us++ds):=r.append hd;have O:(us++ds).length=ps.length:=(by rw[<-J.length];show F.len _ _ _ _ h);show RT (PH (F.run X.A X.stack s H #[us,[]] (us++ds) (vs++dvs) Q E L I.Hc (N s us I.kA O) J h) λr s' G=>?_);cases r with
 |error e=>show S pins σ H s e s' I G
 |ok R =>
  cases R with
  |ret u=>show I.after G
  |next=>show Mg G
  |brk=>show Mg G
  |cont=>show Mg G
theorem B0 (F:a8 X.prog X.w X.K X.mg X.base CX k f fd ps sp) (L:dy k X.A) (O:Gl X x) (J:X.mg x=some (.ref f)) (hk:Qj X.K (.ref f)=true) (hb:Binds X.K fd ps ds) (hd:Vals dvs ds) (S:Passes CX X E)
  (N:PA X (e::es) t) (U:(x==("__debug__" : Str))=false:=by decide) (Y:starEach (e::es) X.env=(false,eval e X.env)::starEach es X.env:=by rfl) (R:(backTo pos (starEach es X.env)).any (·.1)=false:=by rfl) :
  PE X (.Call (.Name x p) (e::es) [] pos) (DF sp dvs E t):=by
 intro pins s σ H Q I h;show MU (lJ I O J ?_ U);show RU (h₀:=X.base) I.ok.mod.GV hk (bV (N pos pins s σ H _ I h) λus s1 ab=>?_) Y R;let#[vs,H1,G,r,q]:=ab;show#[G.kA,?_];show u0 F L hb hd S G r q
theorem CU {pl:QT Bool}(R:PE X o ta) (c:sg X.K C) (G:Meth X.K C m f) (F:a8 X.prog X.w X.K X.mg X.base CX k f fd ps sp) (hr:dy k X.A) (S:Binds X.K fd ps ds) (hd:Vals dvs ds) (hx:Passes CX X E) (ha:PA X (e::es) t)
  (N:starEach (e::es) X.env=(false,eval e X.env)::starEach es X.env:=by rfl) (am:(backTo pos (starEach es X.env)).any (·.1)=false:=by rfl)
  (ht:eval (.Call (.Attribute o m apos) (e::es) [] pos) X.env=(do
   let ov <-eval o X.env
   QU apos.atName
   let (f,first) <-OY [ov] (Po ov m pl)
   RV pos f first (backTo pos (starEach (e::es) X.env)) (Pp pos (NR [] X.env))):=by rfl) :
  PE X (.Call (.Attribute o m apos) (e::es) [] pos) (xu C m sp dvs E ta t):=by
 intro pins s σ H Q I h;show P7 (pl:=pl) (bV (R pins s σ H _ I h) λu s1 ac=>?_) ht;let#[x,H1,L,Y,a,dx,fs,ex,U,l,q]:=ac;subst ex;obtain rfl:u=Value.ref a:=Y;show mM L U c G l ?_;show RU (first:=[.ref a]) (h₀:=X.base) I.ok.mod.GV G.kp (bV (ha pos pins s1 σ H1 _ L q) λus s2 ab=>?_) N am;let#[vs,H2,J,r,O]:=ab;show#[J.kA,?_];show u0 (us:=.ref a::us) (vs:=.ref a::vs) F hr S hd hx J (.cons rfl r) O
theorem ze {pl:QT Bool}(Y:PE X o ta) (c:sg X.K C) (J:Meth X.K C m f) (F:a8 X.prog X.w X.K X.mg X.base CX k f fd ps sp) (R:dy k X.A) (hb:Binds X.K fd ps ds) (hd:Vals dvs ds) (U:Passes CX X E)
  (S:eval (.Call (.Attribute o m apos) [] [] pos) X.env=(do
   let ov <-eval o X.env
   QU apos.atName
   let (f,first) <-OY [ov] (Po ov m pl)
   RV pos f first (backTo pos (starEach [] X.env)) (Pp pos (NR [] X.env))):=by rfl) :
  PE X (.Call (.Attribute o m apos) [] [] pos) (xu C m sp dvs E ta Cc):=by
 intro pins s σ H Q I h;show P7 (pl:=pl) (bV (Y pins s σ H _ I h) λu s1 O=>?_) S;let#[x,H1,G,N,a,dx,fs,ex,L,l,q]:=O;subst ex;obtain rfl:u=Value.ref a:=N;show mM G L c J l ?_;show callWith_K0 (first:=[.ref a]) G.kA J.kp (u0 (us:=[.ref a]) (vs:=[.ref a]) F R hb hd U G (.cons rfl .nil) q)
structure Mk (K:iF) (C f:Addr):Prop where
 makes:makesIn K C=true
 init:OE K (.ref C) "__init__" = some (some (.ref f))
 fn:isFn K (.ref f)=true
 kp:Qj K (.ref C)=true
theorem sP {pins:List (Addr×Obj)}{σ:St}{H:Hp}{s:ll}{Q:VK}{us:List Value}{vs:List V}(M:Mk X.K C f) (F:a8 X.prog X.w X.K X.mg X.base CX k f fd ps sp) (hr:dy (k+1) X.A) (hb:Binds X.K fd ps ds) (hd:Vals dvs ds)
  (hx:Passes CX X E) (I:Inv X pins σ H s) (r:Vals vs us)
  (h:∀x dx,H x=none->H dx=none->dx≠x->sp (.ref x::(vs++dvs)) (upd (upd H dx (.own x)) x (.ins C dx [])) (λv H2=>v=.non/\Q (.ref x) H2) E) :
  wpAny (model X.prog X.w) X.A (call (.ref C) us) (EP X pins σ Q) X.xe s:=by
 have N:=h (s.heap.objs.size+1) s.heap.objs.size (I.bE.fresh (Oz _)) (I.bE.fresh (qs _)) (Lc (N7 _));have J:=Inv.made (C:=C) I;have L:Vals (V.ref (s.heap.objs.size+1)::(vs++dvs)) (Value.ref (s.heap.objs.size+1)::(us++ds)):=.cons rfl (r.append hd);have O:(Value.ref (s.heap.objs.size+1)::us++ds).length=ps.length:=by
  have e:=L.length;rw[F.len _ _ _ _ N]at e;show e.symm
 show RT (zx (f:=f) I.kA M.makes M.init (beq_iff_eq.mp M.fn) (PH (F.run _ X.stack _ _ #[Value.ref (s.heap.objs.size+1)::us,[]] (Value.ref (s.heap.objs.size+1)::(us++ds)) _ _ E (hr.make C us [])
  (J.Hc.make C us []) (hb _ (Value.ref (s.heap.objs.size+1)::us) J.kA O) L N) λr s' G=>?_))
 cases r with
 |error e=>show hx pins σ _ _ e s' J G
 |ok R =>
  cases R with
  |ret u =>
   let#[v,H',I3,U,S,Y]:=J.after G;subst S;show#[U,#[V.ref (s.heap.objs.size+1),H',I3,rfl,Y]]
  |next=>show Mg G
  |brk=>show Mg G
  |cont=>show Mg G
theorem ly (M:Mk X.K C f) (F:a8 X.prog X.w X.K X.mg X.base CX k f fd ps sp) (L:dy (k+1) X.A) (O:Gl X x) (J:X.mg x=some (.ref C)) (hb:Binds X.K fd ps ds) (hd:Vals dvs ds) (U:Passes CX X E)
  (N:PA X (e::es) t) (ab:(x==("__debug__" : Str))=false:=by decide) (Y:starEach (e::es) X.env=(false,eval e X.env)::starEach es X.env:=by rfl) (R:(backTo pos (starEach es X.env)).any (·.1)=false:=by rfl) :
  PE X (.Call (.Name x p) (e::es) [] pos) (Dn C sp dvs E t):=by
 intro pins s σ H Q I h;show MU (lJ I O J ?_ ab);show RU (h₀:=X.base) I.ok.mod.GV M.kp (bV (N pos pins s σ H _ I h) λus s1 S=>?_) Y R;let#[vs,H1,G,r,q]:=S;show#[G.kA,?_];show sP M F L hb hd U G r q
theorem t6 (M:Mk X.K C f) (F:a8 X.prog X.w X.K X.mg X.base CX k f fd ps sp) (N:dy (k+1) X.A) (G:Gl X x) (J:X.mg x=some (.ref C)) (R:Binds X.K fd ps ds) (hd:Vals dvs ds) (L:Passes CX X E)
  (O:(x==("__debug__" : Str))=false:=by decide):PE X (.Call (.Name x p) [] [] pos) (Dn C sp dvs E Cc):=by
 intro pins s σ H Q I h;show MU (lJ I G J ?_ O);show callWith_K0 I.kA M.kp (sP (us:=[]) M F N R hd L I .nil h)
end
section
variable {X:Cx}{CX:uf}{k:Nat}{f C:Addr}{fd:qj}{ps ks:List Str}{sp:Sp}{E:XK}{x m:Str}{p pos apos kpos:NO}{e o:KZ}{es:List KZ}{kws:List Qu}{te ta:TE}{t tk:TA}{nm:Option Str}
variable {g:List Value->List Value->List Value}{gV:List V->List V->List V}
end
structure aC (N P:List Str) (sc:OW):Prop where
 kind:sc.kind=.function
 co:sc.isCoroutine=false
 gen:sc.isGenerator=false
 nd:N.Nodup
 pre:N.take P.length=P
 par:∀x∈P,sc.names.lookup x=some .local\/sc.names.lookup x=some .cell
 D1:∀y∈sc.names,y.2≠.free
theorem bC {N P:List Str}{G:OW}(a:G.kind=.function:=by exact rfl) (b:G.isCoroutine=false:=by exact rfl) (c:G.isGenerator=false:=by exact rfl) (d:N.Nodup:=by decide +kernel) (e:N.take P.length=P:=by exact rfl) (f:∀x∈P,G.names.lookup x=some .local\/G.names.lookup x=some .cell:=by decide +kernel) (g:∀y∈G.names,y.2≠.free:=by decide +kernel):aC N P G:=#[a,b,c,d,e,f,g]
theorem pX {kindOf:Str->Option NameKind}{x:Str}:∀{binds:List (Str×Value)}{m:Str->Option Value},(∀v,(x,v)∉binds)->RW kindOf binds m x=m x
 | [],_,_=>rfl
 |(n,v)::r,m,h=>by
  unfold RW;rw[pX λw G=>h w (K5 _ G)];split
  .have:x≠n:=(by rintro rfl;show h v La);simp[this]
  .rfl
theorem pL {kindOf:Str->Option NameKind}{x:Str}:∀{binds:List (Str×Value)}{m:Str->Option Value},(∀v,(x,v)∉binds)->RX kindOf binds m x=m x
 | [],_,_=>rfl
 |(n,v)::r,m,h=>by
  unfold RX;rw[pL λw G=>h w (K5 _ G)];split
  .rfl
  .have:x≠n:=(by rintro rfl;show h v La);simp[this]
theorem pj {kindOf:Str->Option NameKind}{x:Str}{v:Value}:∀{P:List Str}{vs:List Value}{i:Nat}{m:Str->Option Value},P.Nodup->P[i]?=some x->vs[i]?=some v->kindOf x=some .local ->
  RW kindOf (P.zip vs) m x=some v
 | [],_,_,_,_,h,_,_=>by simp at h
 |_::_,[],_,_,_,_,h,_=>by simp at h
 |p::P,w::vs,0,m,G,h1,h2,I=>by
  simp at h1 h2;subst h1;subst h2;change RW kindOf ((p,w)::P.zip vs) m p=_;unfold RW;rw[pX λv J=>(KW.mp G).1 (RY J).1,Tz I];simp
 |p::P,w::vs,i+1,m,G,h1,h2,I=>by
  change RW kindOf ((p,w)::P.zip vs) m x=_;unfold RW;show pj (i:=i) (KW.mp G).2 (by simpa using h1) (by simpa using h2) I
theorem oW {kindOf:Str->Option NameKind}{x:Str}{v:Value}:∀{P:List Str}{vs:List Value}{i:Nat}{m:Str->Option Value},P.Nodup->P[i]?=some x->vs[i]?=some v->kindOf x≠some .local ->
  RX kindOf (P.zip vs) m x=some v
 | [],_,_,_,_,h,_,_=>by simp at h
 |_::_,[],_,_,_,_,h,_=>by simp at h
 |p::P,w::vs,0,m,G,h1,h2,I=>by
  simp at h1 h2;subst h1;subst h2;change RX kindOf ((p,w)::P.zip vs) m p=_;unfold RX;rw[pL λv J=>(KW.mp G).1 (RY J).1,Tx I];simp
 |p::P,w::vs,i+1,m,G,h1,h2,I=>by
  change RX kindOf ((p,w)::P.zip vs) m x=_;unfold RX;show oW (i:=i) (KW.mp G).2 (by simpa using h1) (by simpa using h2) I
noncomputable def start (N:List Str) (vs:List V):St:=vs.map some++replicate (N.length-vs.length) none
noncomputable def vx (CX:uf) (P:rz) (w:C1) (K:iF) (mg:Str->Option Value) (base:Heap) (N:List Str) (G:Str) (scope:OW) (f:Addr) (cd:Value) (A:KY) (outer:List SO) (s:ll) (H:Hp) (E:XK):Cx where
 prog:=P
 w:=w
 K:=K
 mg:=mg
 base:=base
 A:=A.deeper (PJ G scope s.heap.objs.size f cd)
 N:=N
 s₀:=s
 H₀:=H
 env:=PJ G scope s.heap.objs.size f cd
 outer:=outer
 stack:=PJ G scope s.heap.objs.size f cd::outer
 ex:=[]
 calm:=true
 fn:=λ_=>true
 pn:=[]
 xe:=λe s'=>wpAny (model P w) (A.deeper (PJ G scope s.heap.objs.size f cd)) (leaving (PJ G scope s.heap.objs.size f cd) e) (λ_ I=>CX outer H s E e I) (λJ I=>CX outer H s E J I) s'
theorem tT {G:OW}{n:Nat}{x:Str}(h:G.names.lookup x=some .cell):∃c,(SM n G.names []).lookup x=some c:=by
 have q:=PK G.names n [] (.inl h);show MG.mp q
theorem ye {CX:uf}{P:rz}{w:C1}{K:iF}{mg:Str->Option Value}{base:Heap}{N ps:List Str}{L:Str}{scope:OW}{f:Addr}{cd:Value}{A:KY}{outer:List SO}{s s1:ll}{H:Hp}{E:XK}{us:List Value}{vs:List V}
  (S:aC N ps scope) (hd:A.handled=none) (G:wz P w K mg base A outer s H) (hl:vs.length=ps.length) (r:Vals vs us)
  (x:InCallC s s.heap.objs.size (RW (PJ L scope s.heap.objs.size f cd).kindOf (ps.zip us) λ_=>none) (SM (s.heap.objs.size+1) scope.names []) (RX (PJ L scope s.heap.objs.size f cd).kindOf (ps.zip us) λ_=>none) s1) :
  Inv (vx CX P w K mg base N L scope f cd A outer s H E) [] (start N vs) H s1:=by
 have ab:ps.length<=N.length:=(by have:=congrArg Mm S.pre;rw[HC]at this;omega);let#[h1,tk,rfl,Y]:=x.done;have O:∀b:Addr,b∉(vx CX P w K mg base N L scope f cd A outer s H E).ex:=λb z=>absurd (show b∈([]:List Addr)from z) (by simp);show#[#[G.mod,S.kind,1,qs _,λy z c h1 h2=>?_,λy I=>?_,λy c _ h=>?_,λ_=>hd,Around.frames_deeper G.frames,.inr #[1],λb z=>absurd z (O b),G.bs,G.BG,λb _ _=>O b,λb z=>absurd z (O b),G.kG,G.DG],
  rfl,G.bare,Un.kept Y,#[_,x.toInCall.ns,λi y v h1 h2 h3=>?_],λy c h=>#[_,x.cell y c h],G.bE.fresh (qs _),λy c h=>?_,λp J=>absurd (show p∈([]:List (Addr×Obj))from J) (by simp),G.bE.kept Y,?_]
 .show name_of_addr x.apart (LZ h1) (LZ h2)
 .have I:scope.names.lookup y=some .cell\/scope.names.lookup y=some .free:=I;rcases I with I|I
  .show tT I
  .show absurd rfl (S.D1 _ (LZ I))
 .show RM (x.above y c (LZ h))
 .have hi:i<vs.length:=by
   unfold start at h2;by_cases hi:i<vs.length
   .show hi
   .rw[LC (by simpa using hi)]at h2;rw[List.getElem?_replicate]at h2;split at h2<;>cases h2
  have ha:vs[i]?=some v:=by
   unfold start at h2;rw[LG (by simpa using hi),se]at h2;cases e:vs[i]? with
   |none=>rw[e]at h2;cases h2
   |some a=>rw[e]at h2;cases h2;rfl
  let#[u,R,rv]:=r.get ha;have J:ps[i]?=some y:=by
   rw[<-S.pre,List.getElem?_take_of_lt (LH hi hl)];show h1
  have U:ps.Nodup:=(by rw[<-S.pre];show S.nd.sublist (Nt _ _));show#[u,rv,?_];rcases S.par y (vr J)with k|k
  .show .inl #[k,pj U J R k]
  .let#[c,e]:=tT (n:=s.heap.objs.size+1) k;show .inr #[.inl k,c,e,?_];have q:=x.cell y c e;rw[oW U J R (by change scope.names.lookup y≠_;rw[k];decide)]at q;show q
 .show G.bE.fresh (RM (x.above y c (LZ h)))
 .unfold start;change _=N.length;rw[wh,mu,Lu];omega
theorem HP {CX:uf}{P:rz}{w:C1}{K:iF}{mg:Str->Option Value}{base:Heap}{k:Nat}{f:Addr}{name G:Str}{am:Arguments}{body:List K4}{scope:OW}{dV kV ab pm L ct oc:Value}{an od:Option Addr}
  {a2:Array (Option Value)}{N ps:List Str}{sp:Sp}(lk:K.lookup f=some #[oc,od,.func (SR name G am body scope dV kV ab pm an L ct),a2]) (as:SS K L G=true) (S:aC N ps scope)
  (len:∀vs H Q E,sp vs H Q E->vs.length=ps.length)
  (a1:∀(A:KY) (outer:List SO) (s:ll) (H:Hp) (vs:List V) (Q:VK) (E:XK),dy k (A.deeper (PJ G scope s.heap.objs.size f L))->sp vs H Q E ->
   ∃t,uI (vx CX P w K mg base N G scope f L A outer s H E) body t/\t { nx:=λ_ H'=>Q .non H',rt:=Q } (start N vs) H) :
  a8 P w K mg base CX (k+1) f (SR name G am body scope dV kV ab pm an L ct) ps sp:=by
 show#[len,λA outer s H args us vs Q E Y O hb r ac=>?_];have hl:=len _ _ _ _ ac;have KX:K.In s.heap:=O.mod.GV.keeps λb o e=>(O.bs b o e).1;have aT:s.heap.NoLimit:=O.mod.nolimit.keeps λb o e=>(O.bs b o e).1;have aB:∀y∈ps.zip us,scope.names.lookup y.1=some .local\/(scope.names.lookup y.1=some .cell/\((SM (s.heap.objs.size+1) scope.names []).lookup y.1).isSome=true):=λa0 hy=>by
  let#[n,v]:=a0;rcases S.par n (RY hy).1 with q|q
  .show .inl q
  .show .inr #[q,PK _ _ _ (.inl q)]
 show codeAny_call_function Y.depth (KX _ _ lk) rfl S.co S.gen rfl (PySem.W.codeRec_of KX as) (hb _ _ _ _ ?_);show wpAny_newFunctionEnv_cells S.kind aB λenv he s1 x=>?_;subst he;show#[aT.keeps x.toInCall.keep,codeAny_func ?_];let#[t,ht,hq]:=a1 A outer s H vs Q E (Y.deeper _) ac;have I:Inv (vx CX P w K mg base N G scope f L A outer s H E) [] (start N vs) H s1:=ye S Y.hd O hl r x;show NK (ht [] s1 (start N vs) H _ I hq) (λfl s' hs=>?_) λe s' hs=>hs;have ap:∀{R:St}{H':Hp}{v:V}{u:Value},Inv (vx CX P w K mg base N G scope f L A outer s H E) [] R H' s'->RelV v u->Q v H'->CE outer P w H s Q u s' :=
  λ{R H' v u} J U q=>#[v,H',J.os,J.bare,J.base,J.bE,U,q]
 cases fl with
 |ret u =>
  let#[v,R,H',J,U,q]:=hs;show ap J U q
 |next =>
  let#[R,H',J,q]:=hs;show ap (v:=V.non) (u:=Value.none) J rfl q
 |brk =>
  let#[_,_,_,q]:=hs;show Mg q
 |cont =>
  let#[_,_,_,q]:=hs;show Mg q
section
variable {X:Cx}{x:Str}{p pos:NO}{e:KZ}{es:List KZ}{t:TA}{id T:String}{r:List V->Hp->VK->Prop}
noncomputable def Ke (r:List V->Hp->VK->Prop) (t:TA):TE:=λσ H Q=>t σ H λvs H1=>r vs H1 Q
theorem aQ (L:dB X (.builtin id) r) (R:Gl X x) (G:X.mg x=none) (Y:K8 x=some (.builtin id)) (O:PA X (e::es) t) (J:x ≠ "__name__" := by decide) (ac:(x==("__debug__" : Str))=false:=by decide)
  (he:starEach (e::es) X.env=(false,eval e X.env)::starEach es X.env:=by rfl) (S:(backTo pos (starEach es X.env)).any (·.1)=false:=by rfl):PE X (.Call (.Name x p) (e::es) [] pos) (Ke r t):=by
 intro pins s σ H Q I h;show MU (gX I R G Y ?_ J ac);show PyProof.Rows.callWith_builtin1 (bV (O pos pins s σ H _ I h) λus s1 ab=>by let#[vs,H1,N,r1,U]:=ab;show L pins s1 σ H1 vs us Q N r1 U) he S
theorem bK (L:dB X (.type T) r) (R:Gl X x) (G:X.mg x=none) (Y:K8 x=some (.type T)) (O:PA X (e::es) t) (J:x ≠ "__name__" := by decide) (ac:(x==("__debug__" : Str))=false:=by decide)
  (he:starEach (e::es) X.env=(false,eval e X.env)::starEach es X.env:=by rfl) (S:(backTo pos (starEach es X.env)).any (·.1)=false:=by rfl):PE X (.Call (.Name x p) (e::es) [] pos) (Ke r t):=by
 intro pins s σ H Q I h;show MU (gX I R G Y ?_ J ac);show LD (bV (O pos pins s σ H _ I h) λus s1 ab=>by let#[vs,H1,N,r1,U]:=ab;show L pins s1 σ H1 vs us Q N r1 U) he S
end
end L2
namespace HT
open PySem PyProof.Rows
section
open PySem.SeqAt
open PySem.AutoSeq1 (wpAny_loadPart')
open PySem.MeetsSeq PySem.MeetsSeq2 PySem.MeetsSeq3
end
section
variable {prog:rz}{w:C1}{A:KY}{E:Value->ll->Prop}{s:ll}
noncomputable def dg (n d:Nat):Option Int->Nat
 |none=>d
 |some v=>if v<0 then(v+(n:Int)).toNat else min v.toNat n
theorem lH (n d k:Nat):dg n d (some (k:Int))=min k n:=by
 change(if (k:Int)<0 then((k:Int)+(n:Int)).toNat else min (k:Int).toNat n)=min k n;rw[Tx af,Ml]
theorem EU (n d:Nat) (hd:d<=n) (o:Option Int):dg n d o<=n:=by
 cases o with
 |none=>show hd
 |some v =>
  change(if v<0 then(v+(n:Int)).toNat else min v.toNat n)<=n;by_cases G:v<0
  .rw[Tz G];omega
  .rw[Tx G];show Nat.min_le_right _ _
theorem xt (v:Int) (n d:Nat):(if v<0 then max (v+(n:Int)) 0 else min v (n:Int))=((dg n d (some v):Nat):Int):=by
 change(if v<0 then max (v+(n:Int)) 0 else min v (n:Int))=(((if v<0 then(v+(n:Int)).toNat else min v.toNat n):Nat):Int);by_cases G:v<0
 .simp only[Tz G];omega
 .simp only[Tx G];omega
theorem vq (lo hi:Option Int) (n:Nat):Builtin.Slice.sliceAdjust lo hi 1 (n:Int)=(((dg n 0 lo:Nat):Int),((dg n n hi:Nat):Int)):=by
 have h1:¬ ((1:Int)<0):=af;unfold Builtin.Slice.sliceAdjust;simp only[h1,if_false];show Q4 ?_ ?_
 .cases lo with
  |none=>rfl
  |some v=>show xt v n 0
 .cases hi with
  |none=>rfl
  |some v=>show xt v n n
theorem ui (i j:Nat):Builtin.Slice.slicePlaces (i:Int) (j:Int) 1=j-i:=by
 unfold Builtin.Slice.slicePlaces;have h1:(1:Int)>0:=af;simp only[h1,if_true,Int.ediv_one];split<;>omega
theorem mj {v:Value}{o:Option Int}{Q:Option Int->ll->Prop}(p:PL v o) (h:Q o s):wpAny (model prog w) A (Builtin.Slice.slicePartIndex v) Q E s:=by
 cases p with
 |none=>show slicePart_none h
 |int i t=>show slicePart_int h
theorem gc {sl:Addr}{J L:Value}{lo hi:Option Int}{n:Nat}{Q:Int×Int×Nat->ll->Prop}(hs:s.heap.IsSliceOf sl J L .none) (pl:PL J lo) (N:PL L hi)
  (h:Q (((dg n 0 lo:Nat):Int),1,dg n n hi-dg n 0 lo) s):wpAny (model prog w) A (Builtin.Slice.sliceApplied (.ref sl) (pure (n:Int))) Q E s:=by
 let#[os,G,O,I]:=id hs;unfold Builtin.Slice.sliceApplied Builtin.Slice.sliceFields;show iN (iN (Rw G I (x:=J) rfl (iN (Rw G I (x:=L) rfl (iN (Rw G I (x:=.none) rfl (qi ?_)))))));show iN (slicePart_none ?_);change wpAny _ _ (if ((1:Int)==0)=true then _ else _) _ _ s;rw[Tx av];show iN (mj pl (iN (mj N (iN (qi ?_)))));change wpAny _ _ (match Builtin.Slice.sliceAdjust lo hi 1 (n:Int)with|(lo,hi)=>pure (lo,(1:Int),Builtin.Slice.slicePlaces lo hi 1)) _ _ s;rw[vq lo hi n];change wpAny _ _ (pure (((dg n 0 lo:Nat):Int),(1:Int),Builtin.Slice.slicePlaces ((dg n 0 lo:Nat):Int) ((dg n n hi:Nat):Int) 1)) _ _ s;rw[ui];show qi h
theorem AS (xs:Array Value) (i k:Nat):((KR k).filterMap λ(m:Nat)=>xs[((i:Int)+(m:Int)*1).toNat]?).toArray=((xs.toList.drop i).take k).toArray:=by
 have e:(λ(m:Nat)=>xs[((i:Int)+(m:Int)*1).toNat]?)=λm=>xs[i+m]?:=by
  funext m;have:((i:Int)+(m:Int)*1).toNat=i+m:=af;rw[this]
 rw[e];have:=pick_run xs i k;rw[List.filterMap_map]at this;have G:((λx=>xs[x]?)∘λx=>i+x)=λm=>xs[i+m]?:=rfl;rw[G]at this;rw[this]
theorem jx {t sl:Addr}{items:Array Value}{J L:Value}{lo hi:Option Int}{Q:Value->ll->Prop}(I:IsTup s.heap t items) (hs:s.heap.IsSliceOf sl J L .none) (pl:PL J lo) (O:PL L hi)
  (N:¬ (dg items.size 0 lo=0/\dg items.size items.size hi=items.size))
  (h:Q (.ref s.heap.objs.size) { s with heap:=s.heap.push { cls:=.type "tuple",data:=.seq ((items.toList.drop (dg items.size 0 lo)).take (dg items.size items.size hi-dg items.size 0 lo)).toArray } })
  (hsz:items.size<=sizeLine):wpAny (model prog w) A (Od (.ref t) (.ref sl)) Q E s:=by
 have G:sizeOk (.seq ((items.toList.drop (dg items.size 0 lo)).take (dg items.size items.size hi-dg items.size 0 lo)).toArray):=by
  change((items.toList.drop (dg items.size 0 lo)).take (dg items.size items.size hi-dg items.size 0 lo)).toArray.size<=sizeLine;rw[pq,HC,Mn,LI];omega
 have hj:dg items.size items.size hi<=items.size:=EU _ _ (qs _) hi;let#[os,R,ab,ac]:=id hs;have S:s.TypeIs (.ref sl) "slice" := #[os,R,ab];unfold Od
 try with_reducible show Mj ?_
 first|show iN (qi ?_)|skip
 show iN (Q5 I.typeIs av ?_);show iN (NS (name:=Str.ofString "__getitem__") I.typeIs Lj
  (Ms Lj I.typeIs Qx ?_ (QK _ _)))
 change wpAny _ _ (Builtin.Tuple.tupleItemsOf (.ref t)>>=_) _ _ s;show iN (tupleItemsOf_ I ?_);show iN (PM S ?_);rw[Tz av];show iN (gc hs pl O ?_);have U:¬ ((((dg items.size 0 lo:Nat):Int)==0&&(1:Int)==1&&(dg items.size items.size hi-dg items.size 0 lo)==items.size)=true):=by
  intro q;rw[N8,N8]at q;have Y:((dg items.size 0 lo:Nat):Int)=0:=eq_of_beq q.1.1;have q2:dg items.size items.size hi-dg items.size 0 lo=items.size:=eq_of_beq q.2;show N #[SU Int.ofNat_eq_zero Y,af]
 change wpAny _ _ (if (((dg items.size 0 lo:Nat):Int)==0&&(1:Int)==1&&(dg items.size items.size hi-dg items.size 0 lo)==items.size)=true then _ else _) _ _ s;rw[Tx U,AS]
 first
  |show iN (m:=Builtin.Tuple.tupleExact _) (LM (qi #[0,qi h]) G)
  |show iN (m:=Builtin.Tuple.tupleExact _) (LM (iN (qi (qi #[0,qi h]))) G)
  |show iN (iN (m:=Builtin.Tuple.tupleExact _) (LM (qi (qi #[0,qi h])) G))
  |show iN (iN (m:=Builtin.Tuple.tupleExact _) (LM (qi #[0,qi h]) G))
end
end HT
namespace L2
open PySem PySem.Spec PyProof.Rows
noncomputable abbrev TO:=St->Hp->(Option Int->Hp->Prop)->Prop
noncomputable def PO (X:Cx) (e:Option KZ) (t:TO):Prop :=
 ∀(pins:List (Addr×Obj)) (s:ll) (σ:St) (H:Hp) (Q:Option Int->Hp->Prop),Inv X pins σ H s->t σ H Q ->
  wpAny (model X.prog X.w) X.A (evalPart e X.env) (λu s'=>∃o H',Inv X pins σ H' s'/\PL u o/\Q o H') X.xe s
noncomputable def CL:TO:=λ_ H Q=>Q none H
noncomputable def Hs (t:TE):TO:=λσ H Q=>t σ H λx H1=>∃i,x=.int i/\Q (some i) H1
theorem intsAre_of {ns:List Int}:∀{us:List Value},Vals (ns.map V.int) us->Nu us ns:=by
 induction ns with
 |nil=>intro us r;rw[RH]at r;cases r;show .nil
 |cons n ns G =>
  intro us r;rw[Mc]at r;cases r with
  |cons I J =>
   let#[t,e]:=I;subst e;show .cons n t (G J)
section
variable {X:Cx}{e:KZ}{te:TE}{lo hi:Option KZ}{tl th:TO}{pos p2:NO}
theorem eY:PO X none CL:=by
 intro pins s σ H Q I h;rw[evalPart_none];show qi #[none,H,I,.none,h]
theorem cO (h:PE X e te):PO X (some e) (Hs te):=by
 intro pins s σ H Q I G;rw[evalPart_some];show bV (h pins s σ H _ I G) λu s1 L=>?_;let#[x,H1,O,N,J]:=L;let#[i,rfl,q]:=J;let#[t,rfl]:=N;show#[some i,H1,O,.int i t,q]
noncomputable def HS (X:Cx) (r:V->Option Int->Option Int->Hp->VK->Prop):Prop :=
 ∀(pins:List (Addr×Obj)) (s:ll) (σ:St) (H:Hp) (x:V) (v G I:Value) (lo hi:Option Int) (sl:Addr) (Q:VK),Inv X pins σ H s->RelV x v->s.heap.IsSliceOf sl G I .none->PL G lo->PL I hi->r x lo hi H Q ->
  ∃T id,typeLookup (.type T) "__getitem__" = pure (some (.builtin id))/\s.TypeIs v T/\wpAny (model X.prog X.w) X.A (Od v (.ref sl)) (EP X pins σ Q) X.xe s
noncomputable def Ko (r:V->Option Int->Option Int->Hp->VK->Prop) (te:TE) (tl th:TO):TE:=λσ H Q=>te σ H λx H1=>tl σ H1 λl H2=>th σ H2 λu H3=>r x l u H3 Q
theorem cW {r:V->Option Int->Option Int->Hp->VK->Prop}(hr:HS X r) (Y:PE X e te) (R:PO X lo tl) (U:PO X hi th):PE X (.Subscript e (.Slice lo hi none p2) pos) (Ko r te tl th):=by
 intro pins s σ H Q I h;show RZ (bV (Y pins s σ H _ I h) λv s1 ab=>?_);let#[x,H1,I1,r1,S]:=ab;show wpAny_Slice (bV (R pins s1 σ H1 _ I1 S) λG s2 am=>?_);let#[l,H2,L,pl,N]:=am;show bV (U pins s2 σ H2 _ L N) λJ s3 ac=>?_;let#[u,H3,I3,O,q3]:=ac;rw[evalPart_none];show qi ?_;have I4:Inv X pins σ H3 { s3 with heap:=s3.heap.push { cls:=.type "slice",data:=.fields ([G,J,.none].toArray) } }:=I3.kept (t':=s3.toks) λb ob q=>Heap.get?_push_of_some _ q;let#[T,id,hT,ht,hg]:=hr pins { s3 with heap:=s3.heap.push { cls:=.type "slice",data:=.fields ([G,J,.none].toArray) } } σ H3 x v G J l u s3.heap.objs.size Q I4 r1 (Heap.IsSliceOf.new ..) pl O q3;change wpAny (model X.prog X.w) X.A (QA e (.Slice lo hi none p2) v (.ref s3.heap.objs.size)) (EP X pins σ Q) X.xe { s3 with heap:=s3.heap.push { cls:=.type "slice",data:=.fields ([G,J,.none].toArray) } };show tail_any (ops:=[.ref s3.heap.objs.size,v]) ht hT hg (by with_unfolding_all rfl)
noncomputable def eS (xs:List V) (lo hi:Option Int):List V:=(xs.drop (HT.dg xs.length 0 lo)).take (HT.dg xs.length xs.length hi-HT.dg xs.length 0 lo)
theorem k8 (xs:List V) (lo hi:Option Int):(eS xs lo hi).length<=xs.length:=by
 unfold eS;rw[HC,Mn];omega
inductive Ho (K:iF) (x:V) (lo:Option Int) (hi:Option Int) (H:Hp) (Q:VK):Prop
 |mk (a:_) (xs:_) (_:x=.ref a) (_:bL K H a xs) (_:¬ (HT.dg xs.length 0 lo=0/\HT.dg xs.length xs.length hi=xs.length)) (_:∀p,H p=none->Q (.ref p) (upd H p (.tup (eS xs lo hi)))):Ho K x lo hi H Q
theorem Fl:HS X (Ho X.K):=by
 intro pins s σ H x v U Y lo hi sl Q I N hs pl R h;let#[a,xs,rfl,S,O,q]:=h;cases N;let#[its,r,L,J]:=I.tuple S;have G:its.toArray.size=xs.length:=(by rw[pq];show r.length.symm);show#["tuple",_,Lj.lookup,L.typeIs,?_];show HT.jx L hs pl R (by rw[G];show O) ?_ (by rw[G];show J);rw[G];show#[.ref s.heap.objs.size,_,I.laid (t':=s.toks) (o:=.tup (eS xs lo hi)) (λb ob q=>Heap.get?_push_of_some _ q) (qs _) ?_,rfl,q _ (I.bE.fresh (qs _))];show#[G0 (k8 xs lo hi) J,_,(r.drop (HT.dg xs.length 0 lo)).take (HT.dg xs.length xs.length hi-HT.dg xs.length 0 lo),SJ _ _]
end
noncomputable def vU (n:Nat) (i:Int):Option Nat:=if 0<=i then(if i<n then some i.toNat else none)else if -(n:Int)<=i then some (i+n).toNat else none
noncomputable def wo {α:Type}(xs:List α) (i:Int):Option α:=(vU xs.length i).bind λj=>xs[j]?
theorem xc {n:Nat}{i:Int}{j:Nat}(h:vU n i=some j):SN i n=some j/\j<n /\ -(n:Int)<=i/\i<n:=by
 unfold vU at h;by_cases G:0<=i
 .rw[Tz G]at h;by_cases h1:i<n
  .rw[Tz h1]at h;have e:i.toNat=j:=rn h;show#[by rw[Pb G h1,e],af,af,h1]
  .rw[Tx h1]at h;cases h
 .rw[Tx G]at h;by_cases h1 : -(n:Int)<=i
  .rw[Tz h1]at h;have e:(i+n).toNat=j:=rn h;show#[by rw[seqIndex_neg af h1,e],af,h1,af]
  .rw[Tx h1]at h;cases h
theorem qG {α:Type}{xs:List α}{i:Int}{v:α}(h:wo xs i=some v):∃j,SN i xs.length=some j/\xs[j]?=some v/\j<xs.length /\ -(xs.length:Int)<=i/\i<xs.length:=by
 unfold wo at h;cases e:vU xs.length i with
 |none=>rw[e]at h;cases h
 |some j =>
  rw[e]at h;let#[h1,h2,I,G]:=xc e;show#[j,h1,h,h2,I,G]
theorem jR {α:Type}{xs:List α}{j:Nat}{v:α}(h:xs[j]?=some v):wo xs (j:Int)=some v:=by
 have G:j<xs.length:=(kz.mp h).1;have e:vU xs.length (j:Int)=some j:=by
  unfold vU;rw[Tz af,Tz (MC SV G)];simp
 unfold wo;rw[e];show h
noncomputable def BU (b:KZ):Prop:=∀o i,Qk b false o i=operate [o,i] (Od o i)
noncomputable def IC (X:Cx) (r:R2):Prop :=
 ∀(value G:KZ) (pins:List (Addr×Obj)) (s:ll) (σ:St) (H:Hp) (x y:V) (v u:Value) (Q:VK),Inv X pins σ H s->RelV x v->RelV y u->r x y H Q ->
  Qk G false v u=operate [v,u] (Od v u)->wpAny (model X.prog X.w) X.A (QA value G v u) (EP X pins σ Q) X.xe s
noncomputable def Km (X:Cx) (id:String) (r:V->List V->Hp->VK->Prop):Prop :=
 ∀(pins:List (Addr×Obj)) (s:ll) (σ:St) (H:Hp) (x:V) (xs:List V) (v:Value) (us:List Value) (Q:VK),Inv X pins σ H s->RelV x v->Vals xs us->r x xs H Q ->
  wpAny (model X.prog X.w) X.A (call (.builtin id) (v::us)) (EP X pins σ Q) X.xe s
section
variable {X:Cx}{a b:KZ}{ta tb:TE}{pos:NO}
theorem aP {r:R2}(J:IC X r) (L:PE X a ta) (R:PE X b tb) (hs:BU b):PE X (.Subscript a b pos) (BB r ta tb):=by
 intro pins s σ H Q I h;show RZ (EG L R I h λv u s2 x y H2 N G O q=>J a b pins s2 σ H2 x y v u Q N G O q (hs _ _))
inductive Ck (K:iF) (x:V) (y:V) (H:Hp) (Q:VK):Prop
 |mk (p:_) (xs:_) (i:_) (v:_) (_:x=.ref p) (_:y=.int i) (_:bA K H p xs) (_:wo xs i=some v) (_:Q v H):Ck K x y H Q
inductive GZ (K:iF) (x:V) (y:V) (H:Hp) (Q:VK):Prop
 |mk (p:_) (xs:_) (i:_) (v:_) (_:x=.ref p) (_:y=.int i) (_:bL K H p xs) (_:wo xs i=some v) (_:Q v H):GZ K x y H Q
theorem cw:IC X (Ck X.K):=by
 intro value ac pins s σ H x y v u Q I rx S h hs;let#[p,xs,i,z,rfl,rfl,R,Y,q]:=h;cases rx;let#[t,rfl]:=S;let#[its,r,pl,hz]:=I.list R;let#[j,h1,h2,h3,O,h5]:=qG Y;let#[w,J,ab]:=r.get h2;have U:=r.length;have hn:=nJ;have L:EP X pins σ Q w s:=#[z,H,I,ab,q];by_cases N:0<=i
 .have G:i.toNat=j:=by
   rw[Pb N h5]at h1;show rn h1
  show item_listR pl.isList N af (by rw[G];simpa using J) L hs
 .have G:(i+(its.toArray.size:Int)).toNat=j:=by
   rw[seqIndex_neg af O]at h1;rw[pq, <-U];show rn h1
  show PN (x:=w) pl.isList.typeIs Q6.lookup
   (PQ (Q:=λr s'=>r=w/\EP X pins σ Q r s') pl.isList af (by rw[pq]<;>omega) af (by rw[G];simpa using J) #[rfl,L]) hs
theorem aN:IC X (GZ X.K):=by
 intro value ab pins s σ H x y v u Q I R J h hs;let#[p,xs,i,z,rfl,rfl,G,N,q]:=h;cases R;let#[t,rfl]:=J;let#[its,r,pl,Y]:=I.tuple G;let#[j,h1,h2,h3,h4,h5]:=qG N;let#[w,O,U]:=r.get h2;have L:=r.length;have hn:=nJ;have S:EP X pins σ Q w s:=#[z,H,I,U,q];show PN (x:=w) pl.typeIs Lj.lookup
  (getItem_tuple (j:=j) (Q:=λr s'=>r=w/\EP X pins σ Q r s') pl af af (by rw[pq, <-L];show h1) (by simpa using O) #[rfl,S]) hs
theorem uV (its:List Value) (n j:Nat) (u:Value):Obj.mapSeq (·.setIfInBounds j u) { cls:=.type "list",data:=.seq its.toArray n }={ cls:=.type "list",data:=.seq (its.set j u).toArray n }:=by
 simp[Obj.mapSeq]
theorem Inv.lst {pins:List (Addr×Obj)}{σ:St}{H:Hp}{s:ll}{p:Addr}{xs:List V}(I:Inv X pins σ H s) (h:H p=some (.lst xs)) :
  ∃(its:List Value) (n:Nat),Vals xs its/\s.heap.get? p=some { cls:=.type "list",data:=.seq its.toArray n }/\xs.length<=sizeLine:=by
 let#[z,its,n,r,e]:=I.bE p _ h;show#[its,n,r,e,z]
theorem Inv.Fu {pins:List (Addr×Obj)}{σ:St}{H:Hp}{s:ll}{p:Addr}{xs ys:List V}{its its':List Value}{n n':Nat}{f:Obj->Obj}(I:Inv X pins σ H s) (h:H p=some (.lst xs))
  (L:s.heap.get? p=some { cls:=.type "list",data:=.seq its.toArray n }) (G:f { cls:=.type "list",data:=.seq its.toArray n }={ cls:=.type "list",data:=.seq its'.toArray n' }) (r:Vals ys its') (J:ys.length<=sizeLine) (t:Nat) :
  Inv X pins σ (upd H p (.lst ys)) { s with heap:=s.heap.update p f,toks:=t }:=by
 have e:(s.heap.update p f).get? p=some { cls:=.type "list",data:=.seq its'.toArray n' }:=by
  rw[Heap.get?_update_self f L (by rw[G]<;>rfl),G]
 show I.write (x:=p) (e:=p) (by rw[h];trivial) (.inl rfl) (λb u N q=>(Heap.get?_update_other _ _ (qw N)).trans q) #[_,e] ?_;show#[J,its',n',r,e]
inductive Dr (o:V) (i:V) (v:V) (H:Hp) (Q:(Hp->Prop)):Prop
 |mk (p:_) (xs:_) (k:_) (j:_) (_:o=.ref p) (_:i=.int k) (_:H p=some (.lst xs)) (_:vU xs.length k=some j) (_:Q (upd H p (.lst (xs.set j v)))):Dr o i v H Q
theorem set_list:BN X Dr:=by
 intro pins s σ H o i v ov iv u Q I ro ri rv h;let#[p,xs,k,j,rfl,rfl,O,hj,q]:=h;cases ro;let#[t,rfl]:=ri;let#[its,n,r,G,Y]:=I.lst O;let#[h1,h2,R,N]:=xc hj;have J:=r.length;have hn:=nJ;have U:Inv X pins σ (upd H p (.lst (xs.set j v))) { s with heap:=s.heap.update p (Obj.mapSeq (·.setIfInBounds j u)) }:=
  I.Fu O G (uV its n j u) (r.set rv j) (by rw[Ll];show Y) s.toks
 by_cases S:0<=k
 .have L:k.toNat=j:=by
   rw[Pb S N]at h1;show rn h1
  show PySem.W.ki_setAt G S af (by rw[pq, <-J];show N) (by rw[L];show#[_,U,q])
 .have L:(k+(its.toArray.size:Int)).toNat=j:=by
   rw[seqIndex_neg af R]at h1;rw[pq, <-J];show rn h1
  show PySem.W.ki_setBack G af (by rw[pq, <-J];show R) af (by rw[L];show#[_,U,q])
theorem rX (lo hi:Option Int) (n:Nat):(NT lo hi none n).1=((HT.dg n 0 lo:Nat):Int)/\(NT lo hi none n).2.1=((HT.dg n n hi:Nat):Int)/\(NT lo hi none n).2.2=1:=by
 show#[3,rfl]
 .cases lo with
  |none=>simp[NT,HT.dg]
  |some i =>
   simp only[NT,HT.dg,getD_none,show(1:Int)>0 by decide,if_true];by_cases h:i<0
   .simp only[h,if_true]<;>omega
   .simp only[h,if_false]<;>omega
 .cases hi with
  |none=>simp[NT,HT.dg]
  |some i =>
   simp only[NT,HT.dg,getD_none,show(1:Int)>0 by decide,if_true];by_cases h:i<0
   .simp only[h,if_true]<;>omega
   .simp only[h,if_false]<;>omega
theorem oT (its:List Value) (lo hi:Option Int):slicePick its.toArray lo hi none=((its.drop (HT.dg its.length 0 lo)).take (HT.dg its.length its.length hi-HT.dg its.length 0 lo)).toArray:=by
 let#[h1,h2,G]:=rX lo hi its.toArray.size;unfold slicePick;rw[h1,h2,G];simp only[sliceRange_one,pick_run,pq]<;>rfl
inductive E9 (K:iF) (x:V) (lo:Option Int) (hi:Option Int) (H:Hp) (Q:VK):Prop
 |mk (a:_) (xs:_) (_:x=.ref a) (_:bA K H a xs) (_:∀p,H p=none->Q (.ref p) (upd H p (.lst (eS xs lo hi)))):E9 K x lo hi H Q
theorem fN:HS X (E9 X.K):=by
 intro pins s σ H x v S U lo hi sl Q I L hs pl N h;let#[a,xs,rfl,O,q]:=h;cases L;let#[its,r,G,J]:=I.list O;have R:=r.length;show#["list",_,Q6.lookup,G.isList.typeIs,?_];show wpAny_getItem_list_slice G.isList hs pl N .none (by simp) ?_ (by rw[pq]<;>omega);rw[oT, <-R];show#[.ref s.heap.objs.size,_,I.laid (t':=s.toks) (o:=.lst (eS xs lo hi)) (λb ob q=>Heap.get?_push_of_some _ q) (qs _) ?_,rfl,q _ (I.bE.fresh (qs _))];show#[G0 (k8 xs lo hi) J,_,(0),(r.drop (HT.dg xs.length 0 lo)).take (HT.dg xs.length xs.length hi-HT.dg xs.length 0 lo),Heap.get?_push_size _ rfl]
noncomputable def dC:V->Bool
 |.non=>true
 |.bl _=>true
 |.int _=>true
 |.str _=>true
 |_=>false
noncomputable def kE:V->V->Bool
 |.non,.non=>true
 |.bl a,.bl b=>a==b
 |.bl a,.int b=>(if a then 1 else 0)==b
 |.int a,.bl b=>a==(if b then 1 else 0)
 |.int a,.int b=>a==b
 |.str a,.str b=>a==b
 |_,_=>false
theorem nY {A:KY}{s:ll}{y x:V}{u v:Value}(J:RelV y u) (G:RelV x v) (L:dC y=true) (I:dC x=true):OG A s u v (kE y x):=by
 cases y with
 |non =>
  cases J;cases x with
  |non=>cases G;show SeqAt.EqAt.same _
  |bl b=>cases G;show SeqAt.EqAt.none_bool b
  |int b=>let#[t,rfl]:=G;show SeqAt.EqAt.none_int b t
  |str b=>let#[t,rfl]:=G;show SeqAt.EqAt.none_str b t
  |_=>show absurd (show false=true from I) vl
 |bl a =>
  cases J;cases x with
  |non=>cases G;show SeqAt.EqAt.bool_none a
  |bl b=>cases G;show SeqAt.EqAt.bool_bool a b
  |int b=>let#[t,rfl]:=G;show SeqAt.EqAt.bool_int a b t
  |str b=>let#[t,rfl]:=G;show SeqAt.EqAt.bool_str a b t
  |_=>show absurd (show false=true from I) vl
 |int a =>
  let#[t',rfl]:=J;cases x with
  |non=>cases G;show SeqAt.EqAt.int_none a t'
  |bl b=>cases G;show SeqAt.EqAt.int_bool a t' b
  |int b=>let#[t,rfl]:=G;show SeqAt.EqAt.int_int a t' b t
  |str b=>let#[t,rfl]:=G;show QD a t' b t
  |_=>show absurd (show false=true from I) vl
 |str a =>
  let#[t',rfl]:=J;cases x with
  |non=>cases G;show SeqAt.EqAt.str_none a t'
  |bl b=>cases G;show SeqAt.EqAt.str_bool a t' b
  |int b=>let#[t,rfl]:=G;show QF a t' b t
  |str b=>let#[t,rfl]:=G;show SeqAt.EqAt.str_str a t' b t
  |_=>show absurd (show false=true from I) vl
 |_=>show absurd (show false=true from L) vl
noncomputable def uA (x:V) (u:Value):Bool:=match u with
 |.none=>kE .non x
 |.bool b=>kE (.bl b) x
 |.int i _=>kE (.int i) x
 |.str z _=>kE (.str z) x
 |_=>false
theorem zI {x y:V}{u:Value}(r:RelV y u) (f:dC y=true):uA x u=kE y x:=by
 cases y with
 |non=>cases r;rfl
 |bl b=>cases r;rfl
 |int i=>let#[t,rfl]:=r;rfl
 |str z=>let#[t,rfl]:=r;rfl
 |_=>show absurd (show false=true from f) vl
theorem ju {x:V}:∀{xs:List V}{us:List Value},Vals xs us->xs.all dC=true->us.any (uA x)=xs.any λy=>kE y x
 |_,_,.nil,_=>rfl
 |y::xs,u::us,.cons r t,f=>by
  rw[all_cons,N8]at f;rw[Ql,Ql,zI r f.1,ju t f.2]
theorem gT {A:KY}{s:ll}{x:V}{v:Value}(J:RelV x v) (I:dC x=true):∀{xs:List V}{us:List Value},Vals xs us->xs.all dC=true->∀u∈us,OG A s u v (uA x u)
 |_,_,.nil,_=>λu G=>by cases G
 |y::xs,u::us,.cons r t,f=>λL G=>by
  rw[all_cons,N8]at f;rcases BY.mp G with rfl|G
  .rw[zI r f.1];show nY r J f.1 I
  .show gT J I t f.2 L G
noncomputable def BA (x:V) (xs:List V):Bool:=xs.any λy=>kE y x
inductive JA (K:iF) (neg:Bool) (x:V) (y:V) (H:Hp) (Q:VK):Prop
 |mk (p:_) (xs:_) (_:y=.ref p) (_:(bA K H p xs\/bL K H p xs)) (_:dC x=true) (_:xs.all dC=true) (_:Q (.bl (if neg then !BA x xs else BA x xs)) H):JA K neg x y H Q
theorem gp:k6 X (LY .In) (JA X.K false):=by
 intro pins s σ H x y v u Q I N R h;let#[p,xs,rfl,G,L,fs,q]:=h;cases R;rcases G with G|G
 .let#[its,r,pl,O]:=I.list G;show SeqAt.in_listAt (uA x) pl.isList (λw J=>gT N L r fs w (by simpa using J)) #[.bl _,H,I,5];rw[show its.toArray.any (uA x)=its.any (uA x)by simp,ju r fs];show q
 .let#[its,r,pl,O]:=I.tuple G;show SeqAt.in_tupleAt (uA x) pl (λw J=>gT N L r fs w (by simpa using J)) #[.bl _,H,I,5];rw[show its.toArray.any (uA x)=its.any (uA x)by simp,ju r fs];show q
theorem jA:k6 X (LY .NotIn) (JA X.K true):=by
 intro pins s σ H x y v u Q I N R h;let#[p,xs,rfl,G,L,fs,q]:=h;cases R;rcases G with G|G
 .let#[its,r,pl,O]:=I.list G;show SeqAt.notIn_listAt (uA x) pl.isList (λw J=>gT N L r fs w (by simpa using J)) #[.bl _,H,I,5];rw[show its.toArray.any (uA x)=its.any (uA x)by simp,ju r fs];show q
 .let#[its,r,pl,O]:=I.tuple G;show SeqAt.notIn_tupleAt (uA x) pl (λw J=>gT N L r fs w (by simpa using J)) #[.bl _,H,I,5];rw[show its.toArray.any (uA x)=its.any (uA x)by simp,ju r fs];show q
theorem bG:dB X (.builtin "len") (λxs H Q=>∃p ys,xs=[.ref p]/\(bA X.K H p ys\/bL X.K H p ys)/\Q (.int ys.length) H):=by
 intro pins s σ H xs us Q I r h;let#[p,ys,rfl,G,q]:=h;let#[u,rfl,O]:=vals1 r;cases O;have R:=nJ;rcases G with G|G
 .let#[its,J,pl,N]:=I.list G;have L:=J.length;show Calls.call_len_list pl.isList (by simp only[pq]<;>omega) #[.int ys.length,H,I.tok _,#[s.toks+1,by rw[pq,L]],q]
 .let#[its,J,pl,N]:=I.tuple G;have L:=J.length;show len_tuple pl (by simp only[pq]<;>omega) #[.int ys.length,H,I.tok _,#[s.toks+1,by rw[pq,L]],q]
theorem cU:dB X (.type "list") (λxs H Q=>∃p ys,xs=[.ref p]/\(bA X.K H p ys\/bL X.K H p ys)/\∀l,H l=none->Q (.ref l) (upd H l (.lst ys))):=by
 intro pins s σ H xs us Q I r h;let#[p,ys,rfl,N,q]:=h;let#[u,rfl,rx]:=vals1 r;cases rx;have U:∀(its:List Value),Vals ys its->ys.length<=sizeLine->∀(h':Heap) (G:Nat),(∀b o',s.heap.get? b=some o'->h'.get? b=some o') ->
   h'.get? s.heap.objs.size=some { cls:=.type "list",dict:=none,data:=.seq its.toArray G,slots := ([].toArray) }->EP X pins σ Q (.ref s.heap.objs.size) { s with heap:=h' }:=λits J L h' G O e =>
  #[.ref s.heap.objs.size,_,I.laid (t':=s.toks) O (qs _) (show bT X.prog X.w _ h' _ (.lst ys)from#[L,its,G,J,e]),rfl,q _ (I.bE.fresh (qs _))]
 rcases N with N|N
 .let#[its,J,pl,L]:=I.list N;have Y:=J.length;let#[o,S,R,n,hd]:=pl.isList;show call_list_seq p (.inl rfl) S R hd (λh' G O e=>U its J L h' G O e) (by simp only[pq]<;>omega)
 .let#[its,J,pl,L]:=I.tuple N;have Y:=J.length;let#[o,S,R,n,hd]:=pl;show call_list_seq p (.inr rfl) S R hd (λh' G O e=>U its J L h' G O e) (by simp only[pq]<;>omega)
theorem oO:dB X (.type "tuple") (λxs H Q=>∃p ys,xs=[.ref p]/\((bA X.K H p ys/\∀l,H l=none->Q (.ref l) (upd H l (.tup ys)))\/(bL X.K H p ys/\Q (.ref p) H))):=by
 intro pins s σ H xs us Q I r h;let#[p,ys,rfl,h]:=h;let#[u,rfl,O]:=vals1 r;cases O;rcases h with⟨J,q⟩|⟨J,q⟩
 .let#[its,G,pl,L]:=I.list J;have U:=G.length;show call_tuple_list pl.isList (λh' S=>?_) (by simp only[pq]<;>omega);have N:Inv X pins σ H { s with heap:=h' }:=I.kept (t':=s.toks) S;have R:Inv X pins σ (upd H h'.objs.size (.tup ys)) { s with heap:=h'.push { cls:=.type "tuple",data:=.seq its.toArray } }:=
   N.laid (t':=s.toks) (λb o e=>Heap.get?_push_of_some _ e) (qs _) (show bT X.prog X.w _ _ _ (.tup ys)from#[L,its,G,SJ _ _])
  show#[.ref h'.objs.size,_,R,rfl,q _ (N.bE.fresh (qs _))]
 .let#[its,G,pl,L]:=I.tuple J;show call_tuple_same pl #[.ref p,H,I,rfl,q]
noncomputable def J4 (K:iF) (T:String) (x:V) (H:Hp):Prop:=match x with
 |.str _=>T = "str"
 |.int _=>T = "int"
 |.ref p=>(T = "list" /\ ∃xs,bA K H p xs)\/(T = "tuple" /\ ∃o,K.lookup p=some o/\o.cls=.type "tuple" /\ o.dict=none) \/
   (T = "dict" /\ ((∃kvs,H p=some (.dK kvs))\/∃kvs,H p=some (.dT kvs)))\/(T = "set" /\ ∃S n,H p=some (.set S n))
 |_=>False
theorem Fo {pins:List (Addr×Obj)}{σ:St}{H:Hp}{s:ll}{T:String}{x:V}{v:Value}(I:Inv X pins σ H s) (r:RelV x v) (ty:J4 X.K T x H) :
  s.TypeIs v T/\∀a,v=.ref a->∃ob,s.heap.get? a=some ob/\ob.dict=none:=by
 cases x with
 |str z =>
  let#[t,rfl]:=r;cases(show T = "str" from ty);show#[typeIs_str s z t,λ_ e=>nomatch e]
 |int i =>
  let#[t,rfl]:=r;cases(show T = "int" from ty);show#[R0 s i t,λ_ e=>nomatch e]
 |ref p =>
  cases r;rcases ty with⟨rfl,xs,N⟩|⟨rfl,o,G,L,hd⟩|⟨rfl,G⟩|⟨rfl,S,n,G⟩
  .let#[its,_,pl,_]:=I.list N;show#[pl.isList.typeIs,λa e=>?_];cases e;let#[o,n,e,c,hd,_]:=pl;show#[o,e,hd]
  .show#[#[o,I.kA p o G,L],λa e=>?_];cases e;show#[o,I.kA _ o G,hd]
  .have z:∃o,s.heap.get? p=some o/\o.ExactDict:=by
    rcases G with⟨kvs,G⟩|⟨kvs,G⟩
    .let#[_,_,_,_,o,_,_,e,ex,_]:=I.bE p _ G;show#[o,e,ex]
    .let#[_,_,_,_,o,_,_,e,ex,_]:=I.bE p _ G;show#[o,e,ex]
   let#[o,e,ex]:=z;show#[#[o,e,ex.1],λa J=>?_];cases J;show#[o,e,ex.2.1]
  .let#[o,_,_,_,e,ex,_]:=I.bE p _ G;show#[#[o,e,ex.1],λa J=>?_];cases J;show#[o,e,ex.2.1]
 |_=>show Mg ty
noncomputable def Kz (K:iF) (T:String) (r:V->List V->Hp->VK->Prop) (to:TE) (t:TA):TE:=λσ H Q=>to σ H λx H1=>J4 K T x H1/\t σ H1 λxs H2=>r x xs H2 Q
variable {o e:KZ}{es:List KZ}{to:TE}{t:TA}{name:Str}{apos cpos:NO}{T id:String}{r:V->List V->Hp->VK->Prop}
theorem ip (S:PlainAttrs T) (slot:Slot T name id) (am:typeOf (.builtin id)=pure (.type "method_descriptor")) (N:Km X id r) (U:PE X o to) (ha:PA X (e::es) t)
  (ab:Nh o name X.env (eval o X.env)=eval o X.env:=by rfl)
  (R:((backTo cpos (starEach (e::es) X.env)).all (λx => !x.1)&&(Pp cpos (NR [] X.env)).all (λx=>x.1.isSome)
   && decide ((e::es).length+([]:List Qu).length+(if ([]:List Qu).isEmpty then 0 else 1)<30))=true:=by rfl)
  (as:(apos.endLine==cpos.line)=true:=by rfl) (hs:starEach (e::es) X.env=(false,eval e X.env)::starEach es X.env:=by rfl) (O:(backTo cpos (starEach es X.env)).any (·.1)=false:=by rfl) :
  PE X (.Call (.Attribute o name apos) (e::es) [] cpos) (Kz X.K T r to t):=by
 intro pins s σ H Q I h;show wpAny_Call_method_late ab R as rfl (bV (U pins s σ H _ I h) λv s1 ac=>?_);let#[x,H1,L,G,ty,q1]:=ac;let#[h1,h2]:=Fo L G ty;show#[T,id,S,slot,am,h1,h2,?_];have J:=ha cpos pins s1 σ H1 _ L q1;rw[hs]at J ⊢;show Calls.callWith_builtin (by change(false||(backTo cpos (starEach es X.env)).any (·.1))=false;rw[O]<;>rfl) (Calls.evalArgs_plain ?_);show bV J λus s2 ap=>by let#[vs,H2,Y,r2,q2]:=ap;show N pins s2 σ H2 x vs v us Q Y G r2 q2
end
noncomputable def E3 (X:Cx) (id:String) (r:V->List V->Hp->VK->Prop):Prop :=
 ∀(pins:List (Addr×Obj)) (s:ll) (σ:St) (H:Hp) (x:V) (xs:List V) (v:Value) (us:List Value) (Q:VK),Inv X pins σ H s->RelV x v->Vals xs us->r x xs H Q ->
  wpAny (model X.prog X.w) X.A (call (.builtin id) (v::us)) (EP X pins σ Q) X.xe s
theorem Vals.one:∀{x:V}{us:List Value},Vals [x] us->∃u,us=[u]/\RelV x u
 |_,_,.cons r .nil=>#[0,r]
theorem Vals.eraseIdx:∀{xs:List V}{us:List Value}(i:Nat),Vals xs us->Vals (xs.eraseIdx i) (us.eraseIdx i)
 |_,_,_,.nil=>.nil
 |_,_,0,.cons _ t=>t
 |_,_,i+1,.cons r t=>.cons r (Vals.eraseIdx i t)
theorem Vals.rep {xs:List V}{us:List Value}(h:Vals xs us):∀k:Nat,Vals (replicate k xs).flatten (replicate k us).flatten
 |0=>.nil
 |k+1=>by
  rw[Mu,Mu,MD,MD];show Vals.append h (Vals.rep h k)
theorem pN {α:Type}:∀(l:List α) (i:Nat),(l.eraseIdx i).length<=l.length
 | [],_=>qs _
 |_::_,0=>Oz _
 |_::r,i+1=>Rj (pN r i)
theorem foldl_rep (its:List Value):∀(k:Nat) (G:List Value),
  foldl (λI J=>I++J) G.toArray (replicate k its.toArray)=(G++(replicate k its).flatten).toArray
 |0,G=>by simp
 |k+1,G=>by
  have e:G.toArray++its.toArray=(G++its).toArray:=(by simp);have L:(G++its)++(replicate k its).flatten=G++(replicate (k+1) its).flatten:=by
   rw[Mu,MD,K9]
  rw[<-L, <-foldl_rep its k (G++its), <-e,Mu,List.foldl_cons]
section
variable {X:Cx}{pins:List (Addr×Obj)}{σ:St}{H:Hp}{s:ll}{l b:Addr}{xs ys zs:List V}
theorem Inv.Cn {its its':List Value}{n:Nat}{f:Array Value->Array Value}{t':Nat}(I:Inv X pins σ H s) (J:H l=some (.lst xs))
  (e:s.heap.get? l=some { cls:=.type "list",data:=.seq its.toArray n }) (L:f its.toArray=its'.toArray) (N:Vals ys its') (G:ys.length<=sizeLine) :
  Inv X pins σ (upd H l (.lst ys)) { s with heap:=s.heap.update l (Obj.mapSeq f),toks:=t' }:=by
 have q:=N9 e f;rw[L]at q;show I.write (x:=l) (e:=l) (by rw[J];show trivial) (.inl rfl) (λS u R O=>(Heap.get?_update_other s.heap (Obj.mapSeq f) (qw R)).trans O) #[_,q] ?_;show#[G,its',_,N,q]
theorem Inv.Hi {its:List Value}{t':Nat}(I:Inv X pins σ H s) (J:Vals ys its) (G:ys.length<=sizeLine) :
  Inv X pins σ (upd H s.heap.objs.size (.lst ys)) { s with heap:=s.heap.push { cls:=.type "list",data:=.seq its.toArray },toks:=t' }:=
 I.laid (λ_ _ q=>Heap.get?_push_of_some _ q) (qs _) #[G,its,(0),J,Heap.get?_push_size _ rfl]
theorem Inv.fresh (I:Inv X pins σ H s):H s.heap.objs.size=none:=I.bE.fresh (qs _)
theorem Inv.mZ (I:Inv X pins σ H s) (G:H l=some (.lst xs)):xs.length<=sizeLine/\∃(its:List Value) (n:Nat),Vals xs its/\xs.length=its.length/\s.heap.get? l=some { cls:=.type "list",data:=.seq its.toArray n }:=by
 let#[z,its,n,r,e]:=I.bE l _ G;show#[z,its,n,r,r.length,e]
theorem sI {n:Nat}(h:n<=sizeLine):Builtin.List.listTooLong n=false:=by
 unfold Builtin.List.listTooLong;show decide_eq_false af
end
section
variable {X:Cx}
inductive xp (x:V) (vs:List V) (H:Hp) (Q:VK):Prop
 |mk (l:_) (xs:_) (y:_) (_:x=.ref l) (_:vs=[y]) (_:H l=some (.lst xs)) (_:xs.length<sizeLine) (_:Q .non (upd H l (.lst (xs++[y])))):xp x vs H Q
theorem ky:E3 X "list.append" xp:=by
 intro pins s σ H x vs v us Q I O N h;let#[l,xs,y,rfl,rfl,G,J,q]:=h;cases O;let#[u,rfl,L]:=N.one;let#[z,its,n,r,R,e]:=I.mZ G;show NM F.slot_list_append #[_,e,rfl] F.entry_list_append (F.args_list_append_2 _ _) (list_append l its.toArray n u (by rw[pq];omega)) #[e,?_];show#[.non,_,I.Cn (its':=its++[u]) G e (by simp) (r.append (.cons L .nil)) ?_,rfl,q];rw[wh,LK];show W.kdl_size J
inductive wD (x:V) (vs:List V) (H:Hp) (Q:VK):Prop
 |mk (l:_) (b:_) (xs:_) (zs:_) (_:x=.ref l) (_:vs=[.ref b]) (_:H l=some (.lst xs)) (_:H b=some (.lst zs)) (_:xs.length+zs.length<=sizeLine) (_:Q .non (upd H l (.lst (xs++zs)))):wD x vs H Q
theorem pS:E3 X "list.extend" wD:=by
 intro pins s σ H x vs v us Q I N S h;let#[l,b,xs,zs,rfl,rfl,J,O,hz,q]:=h;cases N;let#[u,rfl,Y]:=S.one;cases Y;let#[z,its,n,r,hl,e]:=I.mZ J;let#[z2,G,U,L,ac,R]:=I.mZ O;have hsz:its.toArray.size+G.toArray.size<=sizeLine:=(by rw[pq,pq];omega);have ab:¬ (!its.toArray.isEmpty&&Builtin.List.listTooLong (its.toArray.size+G.toArray.size))=true:=by
  rw[sI hsz,Qm];show vl
 show NM F.slot_list_extend #[_,e,rfl] F.entry_list_extend (F.args_list_extend_2 _ _)
  (AutoSeq1.list_extend_list_list_0 l its.toArray n b G.toArray U ab (by rw[pq];show Mq hsz) (PR hsz)) #[e,R,?_]
 show#[.non,_,I.Cn (its':=its++G) J e (by simp) (r.append L) ?_,rfl,q];rw[wh];omega
inductive Bg (x:V) (vs:List V) (H:Hp) (Q:VK):Prop
 |mk (l:_) (xs:_) (i:_) (k:_) (y:_) (_:x=.ref l) (_:vs=[.int i]) (_:H l=some (.lst xs)) (_ : -(2^63)<=i) (_:i<2^63) (_:SN i xs.length=some k) (_:xs[k]?=some y) (_:Q y (upd H l (.lst (xs.eraseIdx k)))):Bg x vs H Q
theorem AY:E3 X "list.pop" Bg:=by
 intro pins s σ H x vs v us Q I N L h;let#[l,xs,i,k,y,rfl,rfl,G,h1,h2,Y,R,q]:=h;cases N;let#[u,rfl,J]:=L.one;let#[t,rfl]:=J;let#[z,its,n,r,S,e]:=I.mZ G;let#[w,O,U]:=r.get R;show NM F.slot_list_pop #[_,e,rfl] F.entry_list_pop (F.args_list_pop_2 _ _)
  (MeetsSeq.list_pop_at l its.toArray n i t k w (fitsIndex_both h1 h2) (by rw[pq, <-S];show Y) (by rw[<-L0];show O) (by rw[pq];omega)) #[e,?_]
 show#[y,_,I.Cn (its':=its.eraseIdx k) G e ?_ (r.eraseIdx k) ?_,U,q]
 .change its.toArray.eraseIdxIfInBounds k=(its.eraseIdx k).toArray;rw[N3]
 .have:=pN xs k;show G0 this z
inductive Gs (x:V) (y:V) (H:Hp) (Q:VK):Prop
 |mk (l:_) (b:_) (xs:_) (zs:_) (_:x=.ref l) (_:y=.ref b) (_:H l=some (.lst xs)) (_:H b=some (.lst zs)) (_:xs.length+zs.length<=sizeLine) (_:∀p,H p=none->Q (.ref p) (upd H p (.lst (xs++zs)))):Gs x y H Q
theorem wb:k6 X (Oh .Add) Gs:=by
 intro pins s σ H x y v u Q I N R h;let#[l,b,xs,zs,rfl,rfl,O,S,Y,q]:=h;cases N;cases R;let#[z,its,n,r,hl,e]:=I.mZ O;let#[z2,G,n2,U,ab,J]:=I.mZ S;show PySem.P.add_list e J ?_ (by rw[pq,pq];omega);have L:its.toArray++G.toArray=(its++G).toArray:=(by simp);rw[L];show#[.ref _,_,I.Hi (t':=s.toks) (r.append U) (by rw[wh];omega),rfl,q _ I.fresh]
inductive HU (x:V) (y:V) (H:Hp) (Q:VK):Prop
 |mk (l:_) (k:_) (xs:_) (_:x=.ref l) (_:y=.int k) (_:H l=some (.lst xs)) (_ : -(2^63)<=k) (_:k<2^63) (_:xs.length*k.toNat<=sizeLine) (_:∀p,H p=none->Q (.ref p) (upd H p (.lst (replicate k.toNat xs).flatten))):HU x y H Q
theorem len_rep {α:Type}(xs:List α) (k:Nat):(replicate k xs).flatten.length=k*xs.length:=by
 induction k with
 |zero=>simp
 |succ k G=>rw[Mu,MD,wh,G,Nat.succ_mul,Nat.add_comm]
theorem mz:k6 X (Oh .Mult) HU:=by
 intro pins s σ H x y v u Q I rx N h;let#[l,k,xs,rfl,rfl,hH,h1,h2,L,q]:=h;cases rx;let#[t,rfl]:=N;let#[z,its,n,r,R,e]:=I.mZ hH;have S:its.toArray.size*k.toNat<=sizeLine:=(by rw[pq, <-R];show L);have O:¬ its.toArray.size*k.toNat>(2^63-1)/8:=by
  have:(sizeLine:Nat)<=(2^63-1)/8:=av;omega
 have ab:¬ (!Builtin.List.listFitsIndex k)=true:=by
  rw[fitsIndex_both h1 h2];show vl
 have Y:¬ Builtin.List.listTooLong (its.toArray.size*k.toNat)=true:=by
  rw[sI S];show vl
 have ac:foldl (λG J=>G++J) ([].toArray) (replicate (if its.toArray.isEmpty=true then 0 else k.toNat) its.toArray)=(replicate k.toNat its).flatten.toArray:=by
  have f0:∀m:Nat,foldl (λG J=>G++J) ([].toArray) (replicate m its.toArray)=(replicate m its).flatten.toArray:=λm=>by
   have:=foldl_rep its m [];rw[Rz]at this;show this
  rw[f0];cases its with
  |nil=>simp
  |cons a r'=>rw[Tx (by simp)]
 show wpAny_binaryOp_repeat_ref (T := "list") (U := "int") av #[_,e,rfl] (λs'=>R0 s' k t) noFill_list_mul F.fills_int_mul F.slot_int_rmul repeat_list F.slot_int_index.lookup
  (NM F.slot_int_rmul (R0 s k t) F.entry_int_rmul (F.args_int_rmul_2 _ _) (int___rmul___int_list k t l its.toArray n)
   #[e,rfl,#[_,e,rfl],NM F.slot_list_mul #[_,e,rfl] F.entry_list_mul (F.args_list_mul_2 _ _) (AutoListH.list___mul___list_int_3 l its.toArray n k t ab O Y) #[e,?_]])
 rw[ac];show#[.ref _,_,I.Hi (t':=s.toks) (r.rep k.toNat) (by rw[len_rep,Nat.mul_comm];show L),rfl,q _ I.fresh]
end
section
variable {prog:rz}{w:C1}{A:KY}{E:Value->ll->Prop}{s:ll}
end
section
variable {X:Cx}
end
end L2
namespace Att
open PySem PySem.W PySem.Calls PyProof.Rows
theorem k9 {P:Params}{h:Heap}:∀(ns:List Int) (vs:List Value),WellAll P h vs (ns.map WData.int)->Nu vs ns:=by
 intro ns
 induction ns with
 |nil =>
  intro vs w;rw[RH]at w;cases w;show .nil
 |cons n ns G =>
  intro vs w;rw[Mc]at w;cases w with
  |cons a b =>
   cases a;show .cons _ _ (G _ b)
theorem xI {l:Oi}{n:Nat}(U:l.most=some n) {P:Params}{h:Heap}{args:List WData}{L:List Value}
  (J:l.row.toRowW.claim.pre args=true) (S:WellAll P h L args) :
  ∃a vs ns,L=[Value.ref a]/\args=[WData.list (ns.map WData.int)]/\h.get? a=some { cls:=.type "list",data:=.seq vs.toArray }/\Nu vs ns/\ns.length<=n:=by
 have R:WShape.hasAll [] args [.list .int]=true:=(pre_splitW J).1;have N:l.pre.holds [] { args:=args }=true:=(pre_splitW J).2;let#[d,r,rfl,h1,h2]:=hasAllW_cons R;obtain rfl:=hasAllW_nil h2;let#[xs,rfl,h3]:=hasW_list h1;let#[ns,rfl]:=items_int h3;have ab:ns.length<=n:=by
  unfold OpenLaw.pre at N;have G:(WTm.not (.lt (.lit (.int (n:Int))) (.len (.arg 0)))).holds [] { args:=[.list (ns.map .int)] }=true:=by
   have G:=(holds_andW N).1;rw[U]at G;show G
  have I:=condW_of G (w_not (w_lt w_lit (w_len_list (w_arg rfl))));rw[mu]at I;show Lo λq=>?_;have Y:(n:Int)<((ns.length:Nat):Int):=MC SV q
  first
   |(rw[decide_eq_true Y]at I;show absurd I av)
   |(simp at I;omega)
 cases S with
 |cons w1 O =>
  cases O;cases w1 with
  |list ho ac=>show#[2,ns,1,ho,k9 ns _ ac,ab]
theorem xQ (l:Oi) (args:List WData):l.row.toRowW.claim.post args (.bool true) args=true :=
 postW_of (r:=l.row.toRowW) (X:=(true==true))
  (show Tq [] (.bool true) .bool=true by first|rfl|decide|simp[Tq,WShape.arms,WShape.armsAll])
  (show(WTm.eq .res (.lit (.bool true))).value [] { args:=args,res:=some (.bool true),after:=args }=some (.bool (true==true))from w_eq_bool (w_res rfl) w_lit) rfl
theorem t7 {l:Oi}{n:Nat}{q:rz}{loose:List Str}{S:(Str->Option Value)->Heap->Prop}{R:C1->Heap->Prop}{d:DefRec}
  (hn:l.most=some n) (aT:d.params.defaults=[])
  (call:∀(w:C1) (s₀ I:ll) (mg L:Str->Option Value) (J:Addr) (o:Obj) (pm cd N:Value) (a:Addr) (vs:List Value) (ns:List Int),
   Ground q loose [] S w s₀ mg L I.heap->R w I.heap ->
   I.heap.get? J=some o->o.data=.func (docDef d.name d.params d.body d.scope pm cd N)->I.heap.CodeRec cd d.name->mg d.name=some (.ref J) ->
   I.heap.get? a=some { cls:=.type "list",data:=.seq vs.toArray }->Nu vs ns->ns.length<=n->I.gens = ([].toArray) ->
   Oy (model l.prog w) Qv (.call (.ref J) #[[.ref a],[]]) (λr s'=>r=.ok (.ret (.bool true))/\OldK I.heap s'.heap/\s'.os=I.os/\OX s'.gens) I) :
  RJ q loose S R l.row.toRowW d [] (λf vs=>Sa f vs):=by
 intro w s₀ I mg L G Y J o pm cd N dV kV ho hd ac O am hg args a2 as U a1 a3 ab a4;obtain rfl:dV=.none:=Dflts.none O aT;obtain rfl:kV=.none:=Dflts.noKw O;let#[a,vs,ns,rfl,rfl,a0,aB,ap]:=xI hn U ab;show enter_call (PH (call w s₀ I mg L J o pm cd N a vs ns G Y ho (fd_plain hd) ac am a0 aB ap hg) λr s' hq=>?_);let#[rfl,h2,h3,h4]:=hq;show#[.inl #[.bool true,.bool true,[],rfl,λ_=>rfl,.bool true,xQ l _,λ_=>#[Pc,λ_ hm=>(nomatch hm)]],h2,h3,h4]
section
variable {prog:rz}{w:C1}{A:KY}{E:Value->ll->Prop}{s:ll}{K:iF}
end
end Att
namespace L2
open PySem PySem.Spec PyProof.Rows
theorem iG:∀{vs:List Value}{ns:List Int},Nu vs ns->Vals (ns.map V.int) vs
 |_,_,.nil=>.nil
 |_,_,.cons n t h=>.cons #[t,rfl] (iG h)
noncomputable def DX (H:Hp):Prop:=∀b,H b=none\/∃o xs,H b=some (.bP o (.lst xs))
theorem Aa {P:rz}{w:C1}{K:iF}{mg N:Str->Option Value}{CX:uf}{k:Nat}{S a:Addr}{fd:qj}{x:Str}{sp:Sp}{G:ll}{vs:List Value}{ns:List Int}
  (KX:K.In G.heap) (U:G.heap.Ns Lm mg) (I:G.heap.Ns RL N) (ap:∀x:Str,x ≠ "__name__" -> N x=K8 x) (a2:G.heap.NoLimit) (hg:G.gens = ([].toArray))
  (L:G.heap.get? a=some { cls:=.type "list",data:=.seq vs.toArray }) (hi:Nu vs ns) (Y:ns.length<=sizeLine) (hr:dy k Qv)
  (F:∀base:Heap,K.In base->base.Ns Lm mg->a8 P w K mg base CX k S fd [x] sp) (aT:∀(s:ll) (u:Value),Q2 s fd #[[u],[]] [(x,u)])
  (a0:∀H:Hp,DX H->bA K H a (ns.map V.int)->sp [.ref a] H (λv _=>v=.bl true) λ_ _ _=>False)
  (a3:∀H e s',CX [] H G (λ_ _ _=>False) e s'->False) :
  Oy (model P w) Qv (.call (.ref S) #[[.ref a],[]]) (λr s'=>r=.ok (.ret (.bool true))/\OldK G.heap s'.heap/\s'.os=G.os/\OX s'.gens) G:=by
 have rv:=iG hi;have as:=hi.length;have ab:∀H:Hp,DX H->bA K H a (ns.map V.int)->iY P w H G.heap->(∀b,H b≠none->b=a)->(H a≠none->K.lookup a=none) ->
   Oy (model P w) Qv (.call (.ref S) #[[.ref a],[]]) (λr s'=>r=.ok (.ret (.bool true))/\OldK G.heap s'.heap/\s'.os=G.os/\OX s'.gens) G:=by
  intro H hO hS bE hA hK;have ac:∀{b:Addr}{o:Obj},G.heap.get? b=some o->H b=none->(qI G.heap H).get? b=some o:=λe n=>yX e n;have a4:∀{b:Addr}{o:Obj}{es:Array DictEntry}{ep:Nat},G.heap.get? b=some o->o.data=.dict es ep->H b=none:=λ{b o es ep} e d=>by
   cases q:H b with
   |none=>rfl
   |some u =>
    have O:b=a:=hA b (by rw[q];simp);subst O;rw[L]at e;cases e;have d':Sb vs.toArray _=Data.dict es ep:=d;cases d'
  have J:∀{b:Addr}{m:Str->Option Value},G.heap.Ns b m->(qI G.heap H).Ns b m:=λ{b m} aB=>(by let#[o,es,ep,e,d,r]:=aB;show#[o,es,ep,ac e (a4 e d),d,r]);have am:K.In (qI G.heap H):=λb o e=>ac (KX b o e) (by
   cases q:H b with
   |none=>rfl
   |some u =>
    have O:b=a:=hA b (by rw[q];simp);subst O;rw[hK (by rw[q];simp)]at e;cases e)
  have hM:Mod K mg (qI G.heap H):=#[am,J U,#[N,J I,ap],let ⟨mc,h1,h2⟩:=a2;#[mc,J h1,h2]];have e0:wz P w K mg (qI G.heap H) Qv [] G H:=#[rfl,hM,λb o e=>BO e,QZ (yI _ _),trivial,λb I=>absurd (show b∈([]:List Addr)from I) (by simp),bE,.of_eq hg];show PH ((F _ am (J U)).run Qv [] G H #[[.ref a],[]] [.ref a] [.ref a] _ _ hr e0 (aT G (.ref a)) (.cons rfl .nil) (a0 H hO hS)) λr s' h=>?_;cases r with
  |error e=>show(a3 H e s' h).elim
  |ok fl =>
   cases fl with
   |next=>show Mg h
   |brk=>show Mg h
   |cont=>show Mg h
   |ret u =>
    let#[v,H',os,bare,un,a1,r',q]:=h;have q':v=.bl true:=q;subst q';obtain rfl:u=Value.bool true:=r';show#[rfl,OldK.of_keep λb o e=>?_,os,bare];cases q:H b with
    |none=>show un.keep b o e q (by intro z;show absurd (show b∈([]:List Addr)from z) (by simp)) (by simp)
    |some u =>
     rcases hO b with z|⟨ob,xs,z⟩
     .rw[q]at z;cases z
     .have z2:=un.oz b ob _ z;let#[e1,_]:=bE b _ z;let#[e2,_]:=a1 b _ z2;rw[e]at e1;cases e1;show e2
 cases R:K.lookup a with
 |some o =>
  have e:=KX a o R;rw[L]at e;cases e;show ab (λ_=>none) (λ_=>.inl rfl) (.inr #[_,vs.toArray,_,R,1,rfl,by rw[pq,as];show Y,by simpa using rv]) (λb u z=>by have z':(none:Option HO)=some u:=z;cases z') (λb z=>absurd rfl z) λz=>absurd rfl z
 |none =>
  show ab (λb=>if b=a then some (.bP { cls:=.type "list",data:=.seq vs.toArray } (.lst (ns.map V.int)))else none) (λb=>?_) (.inl (.inr #[{ cls:=.type "list",data:=.seq vs.toArray },Tz rfl])) (λb u z=>?_) (λb z=>?_) λ_=>R
  .by_cases I:b=a
   .show .inr #[2,Tz I]
   .show .inl (Tx I)
  .by_cases I:b=a
   .have z':=(Tz I).symm.trans z;cases z';subst I;show#[L,by rw[mu];show Y,vs,_,rv,L]
   .have z':=(Tx I).symm.trans z;cases z'
  .by_cases I:b=a
   .show I
   .show absurd (Tx I) z
theorem BM {l:Oi}{n k:Nat}{q:rz}{loose:List Str}{XP:(Str->Option Value)->Heap->Prop}{L:C1->Heap->Prop}{d:DefRec}{K:Params->iF}{CX:C1->uf}{sp:C1->Sp}{x:Str}
  (O:l.most=some n) (ac:n<=sizeLine) (aT:d.params.defaults=[]) (hr:dy k Qv)
  (hY:∀(w:C1) (h:Heap),L w h->(K w.params).In h)
  (F:∀(w:C1) (mg:Str->Option Value) (I:Addr) (h:Heap),(K w.params).In h->h.Ns Lm mg->mg d.name=some (.ref I) ->
   ∃fd:qj,(∀(s:ll) (u:Value),Q2 s fd #[[u],[]] [(x,u)]) /\
    ∀base:Heap,(K w.params).In base->base.Ns Lm mg->a8 l.prog w (K w.params) mg base (CX w) k I fd [x] (sp w))
  (aB:∀(w:C1) (H:Hp) (a:Addr) (ns:List Int),ns.length<=n->DX H->bA (K w.params) H a (ns.map V.int)->sp w [.ref a] H (λv _=>v=.bl true) λ_ _ _=>False)
  (as:∀(w:C1) (H:Hp) (s:ll) (e:Value) (s':ll),CX w [] H s (λ_ _ _=>False) e s'->False) :
  RJ q loose XP L l.row.toRowW d [] (λf vs=>Sa f vs):=by
 show Att.t7 O aT λw s₀ am mg mb I o pm cd a0 a vs ns G Y ho hd a1 S ap ab N hg=>?_;have J:=hY w _ Y;let#[fd,hb,hF]:=F w mg I _ J G.T.g S;show Aa J G.T.g G.T.b G.T.builtins G.T.nolimit hg ap ab (G0 N ac) hr hF hb (λH U R=>aB w H a ns N U R) λH e s'=>as w H am e s'
noncomputable def inClass (s:K4) (j:Nat):K4:=match s with
 |.ClassDef _ _ _ body _ _ _ _ _ _ _=>body.getD j (.Pass #[(0),(0),(0),(0)])
 |_=>.Pass #[(0),(0),(0),(0)]
noncomputable def fQ (s:K4):Arguments:=match s with
 |.FunctionDef _ a _ _ _ _ _ _ _ _=>a
 |_=>{ posonlyargs:=[],args:=[],vararg:=none,kwonlyargs:=[],kw_defaults:=[],kwarg:=none,defaults:=[] }
noncomputable def eu (s:K4):List K4:=match s with
 |.FunctionDef _ _ b _ _ _ _ _ _ _=>b
 |_=>[]
noncomputable def aw (s:K4):OW:=match s with
 |.FunctionDef _ _ _ _ _ _ G _ _ _=>G
 |_=>{ kind:=.function,names:=[],isGenerator:=false,isCoroutine:=false }
noncomputable abbrev aV:uf:=λ_ _ _ _ _ _=>False
noncomputable abbrev E0:XK:=λ_ _ _=>False
theorem ax {X:Cx}:Passes aV X E0:=λ_ _ _ _ _ _ _ h=>h.elim
structure cI (K:iF) (x qual:Str) (st:K4) (f:Addr) (fd:qj):Prop where
 ex:∃(oc:Value) (od:Option Addr) (kV doc pm:Value) (an:Option Addr) (cdv ct:Value) (osl:Array (Option Value)),
  fd=SR x qual (fQ st) (eu st) (aw st) .none kV doc pm an cdv ct/\K.lookup f=some #[oc,od,.func fd,osl]/\SS K cdv qual=true
 kp:Qj K (.ref f)=true
section
variable {P:rz}{w:C1}{K:iF}{mg:Str->Option Value}{base:Heap}
theorem cI.ok {x I:Str}{st:K4}{f:Addr}{fd:qj}{N ps:List Str}{k:Nat}{sp:Sp}(F:cI K x I st f fd) (S:aC N ps (aw st)) (len:∀vs H Q E,sp vs H Q E->vs.length=ps.length)
  (L:∀(G:Value) (A:KY) (outer:List SO) (s:ll) (H:Hp) (vs:List V) (Q:VK) (E:XK),dy k (A.deeper (PJ I (aw st) s.heap.objs.size f G))->sp vs H Q E ->
   ∃t,uI (vx aV P w K mg base N I (aw st) f G A outer s H E).DB (eu st) t/\t { nx:=λ_ H'=>Q .non H',rt:=Q } (start N vs) H):a8 P w K mg base aV (k+1) f fd ps sp:=by
 let#[oc,od,kV,ab,pm,an,G,ct,Y,rfl,R,J]:=F.ex;show HP R J S len λA outer s H vs Q E O U=>?_;let#[t,h,q]:=L G A outer s H vs Q E O U;show#[t,h.DB,q]
theorem cI.dh {x G:Str}{st:K4}{f:Addr}{fd:qj}{N ps:List Str}{k:Nat}{sp:Sp}(F:cI K x G st f fd) (S:aC N ps (aw st))
  (J:∀(I:Value) (A:KY) (outer:List SO) (s:ll) (H:Hp) (vs:List V) (Q:VK) (E:XK),dy k (A.deeper (PJ G (aw st) s.heap.objs.size f I))->sp vs H Q E ->
   ∃t,uI (vx aV P w K mg base N G (aw st) f I A outer s H E).DB (eu st) t/\t { nx:=λ_ H'=>Q .non H',rt:=Q } (start N vs) H) (len:∀vs H Q E,sp vs H Q E->vs.length=ps.length:=by intro vs H Q E h;cases h<;>subst_vars<;>rfl):a8 P w K mg base aV (k+1) f fd ps sp:=F.ok S len J
theorem cI.binds {x J:Str}{st:K4}{f:Addr}{fd:qj}{ps:List Str}(F:cI K x J st f fd)
  (h:∀(kV I pm:Value) (an:Option Addr) (G ct:Value) (us:List Value),us.length=ps.length->RS (SR x J (fQ st) (eu st) (aw st) .none kV I pm an G ct) #[us,[]]=pure (ps.zip us)):Binds K fd ps []:=by
 let#[oc,od,kV,I,pm,an,G,ct,N,rfl,O,L]:=F.ex;show .all (h kV I pm an G ct)
theorem qo {x I:Str}{st:K4}{f:Addr}{oc:Value}{od an:Option Addr}{L:Array (Option Value)}{kV J pm G ct:Value}(l:K.lookup f=some #[oc,od,.func (SR x I (fQ st) (eu st) (aw st) .none kV J pm an G ct),L])
  (c:SS K G I=true) (k:Qj K (.ref f)=true):cI K x I st f (SR x I (fQ st) (eu st) (aw st) .none kV J pm an G ct):=#[#[oc,od,kV,J,pm,an,G,ct,L,rfl,l,c],k]
end
theorem a9 {A:KY}{k:Nat}(G:dy k A):A.units+1<NQ:=NN (Nat.add_le_add_left (by decide:1<=64) _) G.units
section
variable {X:Cx}
theorem pv (i:Nat) {x:Str}{pos:NO}(G:X.N[i]?=some x:=by rfl) (J:IH X.env.scope x:=by first|show Tr rfl|show Ts (Tr rfl)|show Ts (Ts rfl)) (hd:(x==("__debug__" : Str))=false:=by decide)
  (I:(x==("__classdict__" : Str))=false:=by decide):PE X (.Name x pos) (sW i):=DW G J hd I
end
theorem bX {A B:Prop}(h:B):if false=true then A else B:=by
 rw[Tx vl];show h
theorem eL {A B:Prop}(h:A):if true=true then A else B:=by
 rw[Tz rfl];show h
theorem gR {c A B:Prop} [Decidable c] (h1:c->A) (h2:¬ c->B):if c then A else B:=by
 by_cases h:c
 .rw[Tz h];show h1 h
 .rw[Tx h];show h2 h
noncomputable def aZ (H H':Hp):Prop:=∀b o,H b=some o->H' b=some o
theorem aZ.refl (H:Hp):aZ H H:=λ_ _ h=>h
theorem aZ.trans {H H1 H2:Hp}(a:aZ H H1) (b:aZ H1 H2):aZ H H2:=λc o h=>b c o (a c o h)
theorem aZ.free {H H':Hp}(e:aZ H H') {l:Addr}(h:H' l=Tg):H l=Tg:=by
 cases q:H l with
 |none=>rfl
 |some o =>
  rw[e l o q]at h;cases h
end L2
namespace PySem
open PySem.Sem (wp)
section
variable {prog:rz}{w:C1}{A:KY}{E:Value->ll->Prop}{h:Heap}{g:Array QS}{d:Drawn}{t:Nat}{os:OsState}{a:Addr}{its:Array Value}{n:Nat}
end
end PySem
namespace Srt
open PySem PyProof.Rows
structure SI (a₀:Array By) (st:Lh):Prop where
 perm:(Bd st).Perm a₀
 kind:kindOf st=NA
 failed:NB st=none
structure Ks (a₀:Array By):Prop where
 ik:IntKeys a₀
 nd:(a₀.toList.map λp=>MO p.1).Nodup
noncomputable def kK (xs:Array By) (lo hi:Nat):Prop:=∀i j,lo<=i->i<=j->j<hi->K xs i<=K xs j
theorem SI.size {a₀:Array By}{st:Lh}(h:SI a₀ st):(Bd st).size=a₀.size:=h.perm.size_eq
theorem uO {a₀ xs:Array By}(L:xs.Perm a₀) (k:Ks a₀) {i:Nat}(hi:i<xs.size):∃t q,xs[i]?=some (.int (K xs i) t,q):=by
 have G:xs[i]∈a₀.toList:=(Mv.mp L).mem_iff.mp (by simp);let#[n,t,J]:=k.ik _ G;have e:xs[i]?=some xs[i]:=getElem?_pos _ i hi;have I:xs[i]=(.int n t,xs[i].2):=Q4 J rfl;show#[t,xs[i].2,?_];unfold K;rw[e,I];rfl
theorem key_ne {a₀ xs:Array By}(L:xs.Perm a₀) (k:Ks a₀) {i j:Nat}(hi:i<j) (G:j<xs.size):K xs i≠K xs j:=by
 have I:=(Mv.mp L).map λp:By=>MO p.1;have J:(xs.toList.map λp=>MO p.1).Nodup:=I.nodup_iff.mpr k.nd;have h1:i<xs.size:=Q7 hi G;have a:=Ma.mp J i j (by simpa using h1) (by simpa using G) hi;unfold K;rw[getElem?_pos xs i h1,getElem?_pos xs j G];simpa using a
theorem SI.setArr {a₀:Array By}{st:Lh}(h:SI a₀ st) {xs:Array By}(G:xs.Perm (Bd st)):SI a₀ (setArr st xs):=#[G.trans h.perm,h.kind,h.failed]
section
variable {prog:rz}{w:C1}{A:KY}{E:Value->ll->Prop}{s:ll}{a₀:Array By}
theorem rO {st:Lh}{x y:By}{a b:Int}{t u:Tv}{Q:Option Bool->Lh->Prop}(J:kindOf st=NA) (I:x.1=.int a t) (G:y.1=.int b u) (h:Q (some (decide (a<b))) st) :
  Ta (model prog w) A E s (lt' x y) Q st:=by
 rw[lt'_eq];show oR (NW ?_);rw[J,keyLt'_oneType,I,G];show oR (Pq (wpAny_attempt (oneLt_int #[rfl,pa h])))
theorem bw {st:Lh}{xs:Array By}{i:Nat}{p:By}{Q:By->Lh->Prop}(hi:xs[i]?=some p) (h:Q p st):Ta (model prog w) A E s (elem' xs i) Q st:=by
 rw[elem'_eq,hi];show pa h
theorem pA {st:Lh}{i j:Nat}{Q:Option Bool->Lh->Prop}(S:SI a₀ st) (k:Ks a₀) (hi:i<a₀.size) (G:j<a₀.size) (h:Q (some (decide (K (Bd st) i<K (Bd st) j))) st) :
  Ta (model prog w) A E s (ltAt' i j) Q st:=by
 let#[t,p,I]:=uO S.perm k (by rw[S.size];show hi);let#[u,q,J]:=uO S.perm k (by rw[S.size];show G);show wpS_ltAt S.kind I J h
structure Cut (a₀:Array By) (st st':Lh) (lo:Nat):Prop where
 S:SI a₀ st'
 pre:∀i,i<lo->(Bd st')[i]?=(Bd st)[i]?
 pend:KQ st'=KQ st
theorem y6 {st:Lh}{lo nrem:Nat}{Q:Option Nat->Lh->Prop}(S:SI a₀ st) (k:Ks a₀) (hn:lo+nrem<=a₀.size) (h1:1<=nrem)
  (h:∀m G,Cut a₀ st G lo->1<=m->m<=nrem->kK (Bd G) lo (lo+m)->Q (some m) G):Ta (model prog w) A E s (countRun' lo nrem) Q st:=by
 rw[countRun'_eq];show oR (Me (Lk (I:=λx c G=>r9 (G=st) (c=(none,x)) (kK (Bd st) lo (lo+x))) (Q:=λc G=>G=st/\∃n,c=(none,n)/\1<=n/\n<=nrem/\kK (Bd st) lo (lo+n)/\(n=nrem\/K (Bd st) (lo+n)<K (Bd st) (lo+n-1))) ?_ ?_ ?_) ?_)
 .rintro x c G ab am ⟨rfl,rfl,hs⟩;dsimp only;show oR (pA S k af af ?_);by_cases c:K (Bd G) (lo+x)<K (Bd G) (lo+x-1)
  .simp only[c,decide_true,if_true];show pa #[rfl,x,rfl,ab,af,hs,.inr c]
  .simp only[c,decide_false,LU,if_false];show pa #[1,λi j hi L O=>?_];by_cases z:j<lo+x
   .show hs i j hi L z
   .by_cases U:i=j
    .rw[U];show Lz _
    .have:=hs i (lo+x-1) hi af af;have R:j=lo+x:=Nm O z;rw[R];omega
 .rintro c G ⟨rfl,rfl,hs⟩;rw[show max 1 nrem=nrem by omega]at hs ⊢;show#[rfl,nrem,rfl,h1,qs _,hs,.inl rfl]
 .show#[1,λi j hi L O=>by rw[show i=j by omega];show Lz _]
 .rintro c G ⟨rfl,n,rfl,n1,n2,hs,as⟩;dsimp only;by_cases e:n=nrem
  .rw[Tz (by simpa using e)];show pa (h n G #[S,λ_ _=>rfl,rfl] n1 n2 hs)
  .rw[Tx (by simpa using e)];have aB:=as.resolve_left e;by_cases g:n>1
   .rw[Tz g];show oR (pA S k af af ?_);have r:K (Bd G) lo<K (Bd G) (lo+n-1):=by
     have a:=hs lo (lo+n-1) (qs _) af af;have b:=key_ne S.perm k (i:=lo) (j:=lo+n-1) af (by rw[S.size];omega);omega
    simp only[r,decide_true,if_true];show pa (h n G #[S,λ_ _=>rfl,rfl] n1 n2 hs)
   .rw[Tx g];have e1:n=1:=af;subst e1;show oR (Pq (Np #[5]));have ap:∀i j,lo<=i->i<=j->j<lo+2->K (Bd G) j<=K (Bd G) i:=λi j hi L O=>by
     by_cases z:i=j
     .rw[z];show Lz _
     .have ei:i=lo:=af;have R:j=lo+1:=af;rw[ei,R];show Ld aB
    show oR (Me (Lk (I:=λx c J=>r9 (J=G) (c=(none,x,0)) (∀i j,lo<=i->i<=j->j<lo+x->K (Bd G) j<=K (Bd G) i)) (Q:=λc J=>J=G/\∃n,c=(none,n,0)/\2<=n/\n<=nrem/\∀i j,lo<=i->i<=j->j<lo+n->K (Bd G) j<=K (Bd G) i) ?_ ?_ ?_) ?_)
    .rintro x c J ab am ⟨rfl,rfl,hd⟩;dsimp only;show oR (pA S k af af ?_);by_cases c:K (Bd J) (lo+x)<K (Bd J) (lo+x-1)
     .simp only[c,decide_true,if_true];rw[Tx af];show pa #[1,λi j hi L O=>?_];by_cases z:j<lo+x
      .show hd i j hi L z
      .by_cases U:i=j
       .rw[U];show Lz _
       .have:=hd i (lo+x-1) hi af af;have R:j=lo+x:=Nm O z;rw[R];omega
     .simp only[c,decide_false,LU,if_false];show oR (pA S k af af ?_);have r:K (Bd J) (lo+x-1)<K (Bd J) (lo+x):=by
       have b:=key_ne S.perm k (i:=lo+x-1) (j:=lo+x) af (by rw[S.size];omega);omega
      simp only[r,decide_true,if_true];show pa #[rfl,x,rfl,ab,af,hd]
    .rintro c J ⟨rfl,rfl,hd⟩;rw[show max (1+1) nrem=nrem by omega]at hd ⊢;show#[rfl,nrem,rfl,af,qs _,hd]
    .show#[1,ap]
    .rintro c J ⟨rfl,n,rfl,m1,m2,hd⟩;dsimp only;rw[Tx af];show oR (wpS_reverse ?_);have hsz:lo+n<=(Bd J).size:=(by rw[S.size];omega);have S3:=S.setArr (mirror_perm (Bd J) lo (lo+n) ((lo+n-lo)/2));have C3:Cut a₀ J (setArr J (Sd (Bd J) lo (lo+n) ((lo+n-lo)/2))) lo:=by
      show#[S3,λi hi=>?_,rfl];change(Sd (Bd J) lo (lo+n) ((lo+n-lo)/2))[i]?=_;rw[getElem?_mirror_all hsz,Tx af]
     have ac:kK (Bd (setArr J (Sd (Bd J) lo (lo+n) ((lo+n-lo)/2)))) lo (lo+n):=λi j hi L O=>by
      change K (Sd (Bd J) lo (lo+n) ((lo+n-lo)/2)) i<=K (Sd (Bd J) lo (lo+n) ((lo+n-lo)/2)) j;rw[K_mirror hsz,K_mirror hsz,Tz af,Tz af];show hd _ _ af (Nat.sub_le_sub_left L (lo+(lo+n)-1)) af
     generalize setArr J (Sd (Bd J) lo (lo+n) ((lo+n-lo)/2))=Y at S3 C3 ac ⊢;show oR (Me (Lk (I:=λx c N=>r9 (N=Y) (c=(none,x)) (kK (Bd Y) lo (lo+x))) (Q:=λc N=>N=Y/\∃m,c=(none,m)/\1<=m/\m<=nrem/\kK (Bd Y) lo (lo+m)) ?_ ?_ ?_) ?_)
     .rintro x c N ab am ⟨rfl,rfl,hs⟩;dsimp only;show oR (pA S3 k af af ?_);by_cases c:K (Bd N) (lo+x)<K (Bd N) (lo+x-1)
      .simp only[c,decide_true,if_true];show pa #[rfl,x,rfl,af,af,hs]
      .simp only[c,decide_false,LU,if_false];show pa #[1,λi j hi L O=>?_];by_cases z:j<lo+x
       .show hs i j hi L z
       .by_cases U:i=j
        .rw[U];show Lz _
        .have:=hs i (lo+x-1) hi af af;have R:j=lo+x:=Nm O z;rw[R];omega
     .rintro c N ⟨rfl,rfl,hs⟩;rw[show max n nrem=nrem by omega]at hs ⊢;show#[rfl,nrem,rfl,h1,qs _,hs]
     .show#[1,ac]
     .rintro c N ⟨rfl,m,rfl,q1,q2,hs⟩;show pa (h m N C3 q1 q2 hs)
theorem zU {st:Lh}{lo n ok:Nat}{Q:Bool->Lh->Prop}(S:SI a₀ st) (k:Ks a₀) (hn:lo+n<=a₀.size) (h1:1<=ok) (bE:ok<=n) (hs:kK (Bd st) lo (lo+ok))
  (h:∀G,Cut a₀ st G lo->kK (Bd G) lo (lo+n)->Q true G):Ta (model prog w) A E s (binarySort' lo n ok) Q st:=by
 rw[binarySort'_eq];show oR (Me (Lk (I:=λx c G=>r9 (c=(none,())) (Cut a₀ st G lo) (kK (Bd G) lo (lo+x))) (Q:=λc G=>r9 (c=(none,())) (Cut a₀ st G lo) (kK (Bd G) lo (lo+n))) ?_ ?_ ?_) ?_)
 .rintro x c G aT aB ⟨rfl,C,L⟩;have U:lo+x<(Bd G).size:=(by rw[C.S.size];omega);show oR (Me (Lk (I:=λy c J=>J=G/\∃l r,c=(none,l,r)/\l<=r/\r<=x/\r-l<=x-y/\(∀i,lo<=i->i<lo+l->K (Bd G) i<=K (Bd G) (lo+x))/\∀i,lo+r<=i->i<lo+x->K (Bd G) (lo+x)<K (Bd G) i)
   (Q:=λc J=>J=G/\∃l,c=(none,l,l)/\l<=x/\(∀i,lo<=i->i<lo+l->K (Bd G) i<=K (Bd G) (lo+x))/\∀i,lo+l<=i->i<lo+x->K (Bd G) (lo+x)<K (Bd G) i) ?_ ?_ ?_) ?_)
  .rintro y c J as ap ⟨rfl,l,r,rfl,lr,Y,hm,O,N⟩;dsimp only;by_cases g:l>=r
   .rw[Tz g];obtain rfl:l=r:=af;show pa #[rfl,l,rfl,Y,O,N]
   .rw[Tx g];show oR (pA C.S k af af ?_);by_cases c:K (Bd J) (lo+x)<K (Bd J) (lo+(l+r)/2)
    .simp only[c,decide_true,if_true];show pa #[rfl,l,(l+r)/2,rfl,af,af,af,O,λi hi ab=>?_];have:=L (lo+(l+r)/2) i af hi af;show OH c this
    .simp only[c,decide_false,LU,if_false];show pa #[rfl,(l+r)/2+1,r,rfl,af,af,af,λi hi ab=>?_,N];have:=L i (lo+(l+r)/2) hi (NX ab) af;omega
  .rintro c J ⟨rfl,l,r,rfl,lr,Y,hm,O,N⟩;obtain rfl:l=r:=af;show#[rfl,l,rfl,Y,O,N]
  .show#[rfl,(0),x,rfl,af,af,af,λi hi am=>by omega,λi hi am=>by omega]
  .rintro c J ⟨rfl,l,rfl,lx,O,N⟩;dsimp only;rw[moveDown'_eq];show oR (MV (pa #[rfl,#[C.S.setArr (bubble_perm _ _ _),λi hi=>?_,C.pend],λi j hi ac hj=>?_]))
   .change(bubble (Bd J) (lo+x) (lo+x-(lo+l)))[i]?=_;rw[getElem?_bubble U _ (SW (lo+x) (lo+l)),Tx af,Tx af];show C.pre i hi
   .change K (bubble (Bd J) (lo+x) (lo+x-(lo+l))) i<=K (bubble (Bd J) (lo+x) (lo+x-(lo+l))) j;rw[K_bubble U (SW (lo+x) (lo+l)),K_bubble U (SW (lo+x) (lo+l)),show lo+x-(lo+x-(lo+l))=lo+l by omega];by_cases c1:i=lo+l
    .rw[Tz c1];by_cases R:j=lo+l
     .rw[Tz R];show Lz _
     .rw[Tx R,Tz af];have:=N (j-1) af af;show Ld this
    .rw[Tx c1];by_cases R:j=lo+l
     .rw[Tz R,Tx af];show O i hi af
     .rw[Tx R];by_cases c3:lo+l<i/\i<=lo+x
      .rw[Tz c3,Tz af];show L _ _ af (Nat.sub_le_sub_right ac 1) af
      .rw[Tx c3];by_cases c4:lo+l<j/\j<=lo+x
       .rw[Tz c4];show L _ _ af af af
       .rw[Tx c4];show L _ _ af af af
 .rintro c G ⟨rfl,C,L⟩;rw[show max (max ok 1) n=n by omega]at L;show#[rfl,C,L]
 .rw[show max ok 1=ok by show Nat.max_eq_left h1];show#[rfl,#[S,λ_ _=>rfl,rfl],hs]
 .rintro c G ⟨rfl,C,L⟩;show pa (h G C L)
end
noncomputable def Cf:Bool->By->Array By->Nat->Nat->Nat->StateT Lh QT (Option Nat):=sortPriv% PySem.Builtin.gallop
noncomputable def f9 (left:Bool) (a:Int) (xs:Array By) (base i:Nat):Bool:=if left then decide (K xs (base+i)<a)else !decide (a<K xs (base+i))
section
variable {prog:rz}{w:C1}{A:KY}{E:Value->ll->Prop}{s:ll}{a₀:Array By}
noncomputable def rL (left:Bool) (G:By) (xs:Array By) (base i:Nat):StateT Lh QT (Option Bool):=
 bind (elem' xs (base+i)) λx=>ite (left=true) (lt' x G) (bind (lt' G x) λr=>pure (Option.map (λb => !b) r))
theorem FA {st:Lh}{left:Bool}{J:By}{a:Int}{t u:Tv}{q:Value}{xs:Array By}{base i:Nat}{Q:Option Bool->Lh->Prop}(I:kindOf st=NA) (G:J.1=.int a t) (L:xs[base+i]?=some (.int (K xs (base+i)) u,q))
  (h:Q (some (f9 left a xs base i)) st):Ta (model prog w) A E s (rL left J xs base i) Q st:=by
 unfold rL;show oR (bw L ?_);unfold f9 at h;cases left with
 |true=>show rO I rfl G h
 |false=>show oR (rO I G rfl (pa h))
theorem ij {left:Bool}{a:Int}{xs:Array By}{base n i j:Nat}(hs:kK xs base (base+n)) (I:i<=j) (G:j<n) (h:f9 left a xs base j=true):f9 left a xs base i=true:=by
 have:=hs (base+i) (base+j) af (MC NU I) (Nat.add_lt_add_left G base);unfold f9 at h ⊢;cases left with
 |true =>
  have z:K xs (base+j)<a:=of_decide_eq_true h;show decide_eq_true (OJ this z)
 |false =>
  have z:¬ a<K xs (base+j):=of_decide_eq_false (by simpa using h);change(!decide (a<K xs (base+i)))=true;rw[decide_eq_false af];rfl
theorem iL {left:Bool}{a:Int}{xs:Array By}{base n i j:Nat}(hs:kK xs base (base+n)) (I:i<=j) (G:j<n) (h:f9 left a xs base i=false):f9 left a xs base j=false:=by
 cases e:f9 left a xs base j with
 |false=>rfl
 |true=>rw[ij hs I G e]at h;cases h
theorem dH {st:Lh}{left:Bool}{am:By}{a:Int}{t:Tv}{xs:Array By}{base n hint:Nat}{Q:Option Nat->Lh->Prop}(hk:kindOf st=NA) (a0:am.1=.int a t) (hx:∀i,i<n->∃t q,xs[base+i]?=some (.int (K xs (base+i)) t,q))
  (hs:kK xs base (base+n)) (hh:hint<n) (h:∀r,r<=n->(∀i,i<r->f9 left a xs base i=true)->(∀i,r<=i->i<n->f9 left a xs base i=false)->Q (some r) st) :
  Ta (model prog w) A E s (Cf left am xs base n hint) Q st:=by
 have B:∀{i:Nat}{Q:Option Bool->Lh->Prop},i<n->Q (some (f9 left a xs base i)) st->Ta (model prog w) A E s (rL left am xs base i) Q st:=λhi q=>by
  let#[u,v,e]:=hx _ hi;show FA hk a0 e q
 show oR (B hh ?_);cases c:f9 left a xs base hint with
 |true =>
  dsimp only;rw[Tz rfl];show oR (Me (Lk (I:=λx c G=>G=st/\∃l o,c=(none,l,o)/\l<o/\x+1<=o/\hint+l<n/\f9 left a xs base (hint+l)=true) (Q:=λc G=>G=st/\∃l o,c=(none,l,o)/\l<o/\hint+l<n/\f9 left a xs base (hint+l)=true/\(n-hint<=o\/(hint+o<n/\f9 left a xs base (hint+o)=false))) ?_ ?_ ?_) ?_)
  .rintro x c G aT aB ⟨rfl,l,o,rfl,lo,xo,S,O⟩;dsimp only;by_cases g:o>=n-hint
   .rw[Tz g];show pa #[rfl,l,o,rfl,lo,S,O,.inl g]
   .rw[Tx g];show oR (B (i:=hint+o) af ?_);cases U:f9 left a xs base (hint+o)with
    |true=>show pa #[rfl,o,2*o+1,rfl,af,af,af,U]
    |false=>show pa #[rfl,l,o,rfl,lo,S,O,.inr #[af,U]]
  .rintro c G ⟨rfl,l,o,rfl,lo,xo,S,O⟩;show#[rfl,l,o,rfl,lo,S,O,.inl af]
  .show#[rfl,(0),(1),rfl,af,af,hh,c]
  .rintro c G ⟨rfl,l,o,rfl,lo,S,O,as⟩;dsimp only;have f1:∀i,i<hint+l+1->f9 left a xs base i=true:=λi hi=>ij hs (j:=hint+l) (NX hi) S O;have f2:∀i,hint+min o (n-hint)<=i->i<n->f9 left a xs base i=false:=λi hi ab=>by
    rcases as with g|⟨g1,g2⟩
    .omega
    .show iL hs (i:=hint+o) af ab g2
   have Y:hint+l+1<=hint+min o (n-hint):=af;have f4:hint+min o (n-hint)<=n:=af;generalize hint+l+1=ac at f1 Y ⊢;generalize hint+min o (n-hint)=ap at f2 Y f4 ⊢;show oR (Me (Lk (I:=λx c L=>L=G/\∃l r,c=(none,l,r)/\l<=r/\r<=n/\r-l<=n-x/\(∀i,i<l->f9 left a xs base i=true)/\∀i,r<=i->i<n->f9 left a xs base i=false) (Q:=λc L=>L=G/\∃r,c=(none,r,r)/\r<=n/\(∀i,i<r->f9 left a xs base i=true)/\∀i,r<=i->i<n->f9 left a xs base i=false) ?_ ?_ ?_) ?_)
   .rintro x c L aT aB ⟨rfl,l,r,rfl,lr,R,hm,N,J⟩;dsimp only;by_cases g:l>=r
    .rw[Tz g];obtain rfl:l=r:=af;show pa #[rfl,l,rfl,R,N,J]
    .rw[Tx g];show oR (B (i:=l+(r-l)/2) af ?_);cases U:f9 left a xs base (l+(r-l)/2)with
     |true=>show pa #[rfl,l+(r-l)/2+1,r,rfl,af,R,af,λi hi=>ij hs (j:=l+(r-l)/2) (NX hi) af U,J]
     |false=>show pa #[rfl,l,l+(r-l)/2,rfl,af,af,af,N,λi hi ab=>iL hs hi ab U]
   .rintro c L ⟨rfl,l,r,rfl,lr,R,hm,N,J⟩;obtain rfl:l=r:=af;show#[rfl,l,rfl,R,N,J]
   .show#[rfl,ac,ap,rfl,Y,f4,af,f1,f2]
   .rintro c L ⟨rfl,r,rfl,R,N,J⟩;show pa (h r R N J)
 |false =>
  dsimp only;rw[Tx av];show oR (Me (Lk (I:=λx c G=>G=st/\∃l o,c=(none,l,o)/\l<o/\x+1<=o/\l<=hint/\f9 left a xs base (hint-l)=false) (Q:=λc G=>G=st/\∃l o,c=(none,l,o)/\l<o/\l<=hint/\f9 left a xs base (hint-l)=false/\(hint+1<=o\/(o<=hint/\f9 left a xs base (hint-o)=true))) ?_ ?_ ?_) ?_)
  .rintro x c G aT aB ⟨rfl,l,o,rfl,lo,xo,S,O⟩;dsimp only;by_cases g:o>=hint+1
   .rw[Tz g];show pa #[rfl,l,o,rfl,lo,S,O,.inl g]
   .rw[Tx g];show oR (B (i:=hint-o) (Rk hh) ?_);cases U:f9 left a xs base (hint-o)with
    |true=>show pa #[rfl,l,o,rfl,lo,S,O,.inr #[Lo g,U]]
    |false=>show pa #[rfl,o,2*o+1,rfl,af,af,Lo g,U]
  .rintro c G ⟨rfl,l,o,rfl,lo,xo,S,O⟩;show#[rfl,l,o,rfl,lo,S,O,.inl af]
  .show#[rfl,(0),(1),rfl,af,af,KU _,c]
  .rintro c G ⟨rfl,l,o,rfl,lo,S,O,as⟩;dsimp only;have f1:∀i,i<hint+1-min o (hint+1)->f9 left a xs base i=true:=λi hi=>by
    rcases as with g|⟨g1,g2⟩
    .omega
    .show ij hs (j:=hint-o) af (Rk hh) g2
   have f2:∀i,hint-l<=i->i<n->f9 left a xs base i=false:=λi hi ab=>iL hs hi ab O;have Y:hint+1-min o (hint+1)<=hint-l:=af;have f4:hint-l<=n:=af;generalize hint+1-min o (hint+1)=ac at f1 Y ⊢;generalize hint-l=ap at f2 Y f4 ⊢;show oR (Me (Lk (I:=λx c L=>L=G/\∃l r,c=(none,l,r)/\l<=r/\r<=n/\r-l<=n-x/\(∀i,i<l->f9 left a xs base i=true)/\∀i,r<=i->i<n->f9 left a xs base i=false) (Q:=λc L=>L=G/\∃r,c=(none,r,r)/\r<=n/\(∀i,i<r->f9 left a xs base i=true)/\∀i,r<=i->i<n->f9 left a xs base i=false) ?_ ?_ ?_) ?_)
   .rintro x c L aT aB ⟨rfl,l,r,rfl,lr,R,hm,N,J⟩;dsimp only;by_cases g:l>=r
    .rw[Tz g];obtain rfl:l=r:=af;show pa #[rfl,l,rfl,R,N,J]
    .rw[Tx g];show oR (B (i:=l+(r-l)/2) af ?_);cases U:f9 left a xs base (l+(r-l)/2)with
     |true=>show pa #[rfl,l+(r-l)/2+1,r,rfl,af,R,af,λi hi=>ij hs (j:=l+(r-l)/2) (NX hi) af U,J]
     |false=>show pa #[rfl,l,l+(r-l)/2,rfl,af,af,af,N,λi hi ab=>iL hs hi ab U]
   .rintro c L ⟨rfl,l,r,rfl,lr,R,hm,N,J⟩;obtain rfl:l=r:=af;show#[rfl,l,rfl,R,N,J]
   .show#[rfl,ac,ap,rfl,Y,f4,af,f1,f2]
   .rintro c L ⟨rfl,r,rfl,R,N,J⟩;show pa (h r R N J)
end
noncomputable def le (p q:By):Prop:=MO p.1<=MO q.1
structure Up (a:Array By):Prop where
 ik:IntKeys a
 up:a.toList.Pairwise le
theorem Up.at {a:Array By}(u:Up a) {i:Nat}(hi:i<a.size):∃t q,a[i]?=some (.int (K a i) t,q):=by
 let#[n,t,I]:=u.ik a[i] (by simp);have e:a[i]?=some a[i]:=getElem?_pos _ i hi;have G:a[i]=(.int n t,a[i].2):=Q4 I rfl;show#[t,a[i].2,?_];unfold K;rw[e,G];rfl
theorem Up.Ip {a:Array By}(u:Up a):kK a 0 a.size:=λi j _ I G=>by
 by_cases e:i=j
 .rw[e];show Lz _
 .have hi:i<a.size:=NN I G;have z:=Ma.mp u.up i j (by simpa using hi) (by simpa using G) (LB I e);rw[K_eq hi,K_eq G];simpa[le]using z
theorem kK.sub {a:Array By}{lo hi G I:Nat}(h:kK a lo hi) (h1:lo<=G) (h2:I<=hi):kK a G I:=λi j hi L J=>h i j (G0 h1 hi) L (K6 J h2)
structure MI (a b out:Array By) (ia ib:Nat):Prop where
 la:ia<=a.size
 lb:ib<=b.size
 pm:(out.toList++a.toList.drop ia++b.toList.drop ib).Perm (a.toList++b.toList)
 up:out.toList.Pairwise le
 ba:∀p∈out.toList,∀q∈a.toList.drop ia,le p q
 bb:∀p∈out.toList,∀q∈b.toList.drop ib,le p q
theorem MI.sz {a b out:Array By}{G I:Nat}(m:MI a b out G I):out.size+(a.size-G)+(b.size-I)=a.size+b.size:=by
 have:=m.pm.length_eq;simp at this;omega
theorem MI.tN {a b out S:Array By}{G O:Nat}(m:MI a b out G O) (Y:Up a) {k:Nat}(hk:G+k<=a.size) (L:S.toList=out.toList++(a.toList.drop G).take k) (h:∀p∈(a.toList.drop G).take k,∀q∈b.toList.drop O,le p q):MI a b S (G+k) O:=by
 have hd:a.toList.drop (G+k)=(a.toList.drop G).drop k:=(by rw[Se]);have N:(a.toList.drop G).Pairwise le:=Y.up.sublist (OA _ _);have R:=N;rw[<-Mh k (a.toList.drop G)]at R;let#[p1,p2,U]:=K7.mp R;show#[hk,m.lb,3,λp J q I=>?_,λp J q I=>?_]
 .rw[L,hd,K9 out.toList,Mh];show m.pm
 .rw[L,K7];show#[m.up,p1,λp N q I=>m.ba p N q (Oo I)]
 .rw[hd]at I;rw[L]at J;rcases n7.mp J with z|z
  .show m.ba p z q (Oj I)
  .show U p z q I
 .rw[L]at J;rcases n7.mp J with z|z
  .show m.bb p z q I
  .show h p z q I
theorem MI.sV {a b out S:Array By}{N G:Nat}(m:MI a b out N G) (Y:Up b) {k:Nat}(hk:G+k<=b.size) (L:S.toList=out.toList++(b.toList.drop G).take k) (h:∀p∈(b.toList.drop G).take k,∀q∈a.toList.drop N,le p q):MI a b S N (G+k):=by
 have hd:b.toList.drop (G+k)=(b.toList.drop G).drop k:=(by rw[Se]);have O:(b.toList.drop G).Pairwise le:=Y.up.sublist (OA _ _);have R:=O;rw[<-Mh k (b.toList.drop G)]at R;let#[p1,p2,U]:=K7.mp R;show#[m.la,hk,3,λp J q I=>?_,λp J q I=>?_]
 .show Oq ?_ m.pm;rw[L,hd];have e:b.toList.drop G=(b.toList.drop G).take k++(b.toList.drop G).drop k:=(Mh _ _).symm
  conv=>rhs;rw[e]
  generalize (b.toList.drop G).take k=T;generalize (b.toList.drop G).drop k=D;rw[K9,K9,K9];show Ni _ ?_;rw[<-K9, <-K9];show MW _ Nv
 .rw[L,K7];show#[m.up,p1,λp O q I=>m.bb p O q (Oo I)]
 .rw[L]at J;rcases n7.mp J with z|z
  .show m.ba p z q I
  .show h p z q I
 .rw[hd]at I;rw[L]at J;rcases n7.mp J with z|z
  .show m.bb p z q (Oj I)
  .show U p z q I
noncomputable def Good (a b R:Array By):Prop:=R.toList.Perm (a.toList++b.toList)/\R.toList.Pairwise le
theorem dN {a:Array By}{i:Nat}{q:By}(h:q∈a.toList.drop i):∃j,i<=j/\j<a.size/\MO q.1=K a j:=by
 let#[n,G,e]:=Qn.mp h;have I:i+n<a.size:=by
  rw[Mn]at G;simp at G;show My G
 show#[i+n,af,I,?_];rw[K_eq I, <-e,Q8];simp
theorem dG {a:Array By}{i k:Nat}{q:By}(h:q∈(a.toList.drop i).take k):∃j,j<k/\i+j<a.size/\MO q.1=K a (i+j):=by
 let#[n,G,e]:=Qn.mp h;rw[HC,Mn]at G;simp at G;have I:i+n<a.size:=af;show#[n,af,I,?_];rw[K_eq I, <-e,NY,Q8];simp
theorem MI.gK {a b out:Array By}{G I:Nat}(m:MI a b out G I) (N:Up a) (ub:Up b) (hi:G<a.size) {p:By}(J:a[G]?=some p) (h:∀j,I<=j->j<b.size->K a G<=K b j):MI a b (out.push p) (G+1) I:=by
 have ep:a[G]=p:=(by rw[getElem?_pos a G hi]at J;show rn J);show m.tN N (k:=1) (Q9 hi) ?_ λx R q O=>?_
 .rw[Pd,ME (by simpa using hi)];simp[ep]
 .let#[j,Y,_,e]:=dG R;let#[U,h2,S,L]:=dN O;have:j=0:=af;subst this;change MO x.1<=MO q.1;rw[e,L];show h U h2 S
theorem MI.k5 {a b out:Array By}{I G:Nat}(m:MI a b out I G) (ua:Up a) (O:Up b) (hi:G<b.size) {p:By}(J:b[G]?=some p) (h:∀j,I<=j->j<a.size->K b G<=K a j):MI a b (out.push p) I (G+1):=by
 have ep:b[G]=p:=(by rw[getElem?_pos b G hi]at J;show rn J);show m.sV O (k:=1) (Q9 hi) ?_ λx R q N=>?_
 .rw[Pd,ME (by simpa using hi)];simp[ep]
 .let#[j,Y,_,e]:=dG R;let#[U,h2,S,L]:=dN N;have:j=0:=af;subst this;change MO x.1<=MO q.1;rw[e,L];show h U h2 S
theorem sR {a:Array By}{i k:Nat}:(a.extract i (i+k)).toList=(a.toList.drop i).take k:=by
 rw[OL,Mz];congr 1;show Qa i k
theorem jV {a:Array By}{i:Nat}:(a.extract i a.size).toList=a.toList.drop i:=by
 rw[OL,Mz];show LF ?_;rw[Mn];simp
theorem MI.ph {a b out:Array By}{I G:Nat}(m:MI a b out I G) (L:Up a) (h:G=b.size):Good a b (out++a.extract I a.size++b.extract G b.size):=by
 have e:(out++a.extract I a.size++b.extract G b.size).toList=out.toList++a.toList.drop I++b.toList.drop G:=by
  rw[LO,LO,jV,jV]
 show#[by rw[e];show m.pm,?_];rw[e,h,List.drop_of_length_le (l:=b.toList) (by simp),QJ,K7];show#[m.up,L.up.sublist (OA _ _),λp J q N=>m.ba p J q N]
theorem MI.last {a b out:Array By}{G I:Nat}(m:MI a b out G I) (O:Up a) (R:Up b) (hi:G+1=a.size) (h:∀j,I<=j->j<b.size->K b j<=K a G):Good a b (out++b.extract I b.size++a.extract G a.size):=by
 have e:(out++b.extract I b.size++a.extract G a.size).toList=out.toList++b.toList.drop I++a.toList.drop G:=by
  rw[LO,LO,jV,jV]
 show#[3]
 .rw[e];show Oq ?_ m.pm;rw[K9,K9];show Ni _ Nv
 .rw[e,K7,K7];show#[#[m.up,R.up.sublist (OA _ _),λp L q J=>m.bb p L q J],O.up.sublist (OA _ _),λp L q J=>?_];rcases n7.mp L with z|z
  .show m.ba p z q J
  .let#[j,h1,h2,U]:=dN z;let#[S,h3,Y,N]:=dN J;have:S=G:=af;subst this;change MO p.1<=MO q.1;rw[U,N];show h j h1 h2
theorem MI.FC {a b out:Array By}{G I:Nat}(m:MI a b out G I) (O:Up a) {k:Nat}(S:G+k<=a.size) (h:∀i j,i<k->I<=j->j<b.size->K a (G+i)<=K b j):MI a b (out++a.extract G (G+k)) (G+k) I :=
 m.tN O S (by rw[LO,sR]) λp N q R=>by
  let#[j,h1,h2,e1]:=dG N;let#[Y,U,L,J]:=dN R;change MO p.1<=MO q.1;rw[e1,J];show h j Y h1 U L
theorem MI.Bq {a b out:Array By}{I G:Nat}(m:MI a b out I G) (R:Up b) {k:Nat}(S:G+k<=b.size) (h:∀i j,i<k->I<=j->j<a.size->K b (G+i)<=K a j):MI a b (out++b.extract G (G+k)) I (G+k):=
 m.sV R S (by rw[LO,sR]) λp N q O=>by
  let#[j,h1,h2,e1]:=dG N;let#[Y,U,L,J]:=dN O;change MO p.1<=MO q.1;rw[e1,J];show h j Y h1 U L
theorem Bm {a:Int}{xs:Array By}{base n r:Nat}(I:∀i,i<r->f9 false a xs base i=true) (J:∀i,r<=i->i<n->f9 false a xs base i=false):(∀i,i<r->K xs (base+i)<=a)/\∀j,base+r<=j->j<base+n->a<K xs j:=by
 show#[λi hi=>?_,λj G L=>?_]
 .have:=I i hi;unfold f9 at this;simpa using this
 .have:=J (j-base) (Qb G) af;unfold f9 at this;rw[show base+(j-base)=j by omega]at this;simpa using this
theorem tG {a:Int}{xs:Array By}{base n r:Nat}(I:∀i,i<r->f9 true a xs base i=true) (J:∀i,r<=i->i<n->f9 true a xs base i=false):(∀i,i<r->K xs (base+i)<a)/\∀j,base+r<=j->j<base+n->a<=K xs j:=by
 show#[λi hi=>?_,λj G L=>?_]
 .have:=I i hi;unfold f9 at this;simpa using this
 .have:=J (j-base) (Qb G) af;unfold f9 at this;rw[show base+(j-base)=j by omega]at this;simpa using this
theorem MI.grow {a b out O:Array By}{J L I B:Nat}(m:MI a b out J L) (G:MI a b O I B) (h1:J<=I) (h2:L<=B):out.size<=O.size:=by
 have R:=m.sz;have N:=G.sz;have:=G.la;have:=G.lb;omega
noncomputable def AE:Array By->Array By->StateT Lh QT (Array By):=sortPriv% PySem.Builtin.mergeLo
structure ud (st st':Lh):Prop where
 arr:Bd st'=Bd st
 kind:kindOf st'=kindOf st
 failed:NB st'=NB st
 pend:KQ st'=KQ st
section
variable {prog:rz}{w:C1}{A:KY}{E:Value->ll->Prop}{s:ll}{a₀:Array By}
theorem aR {α:Type}{c:Prop} [Decidable c] {m n:StateT Lh QT α}{Q:α->Lh->Prop}{st:Lh}(h1:c->Ta (model prog w) A E s m Q st) (h2:¬ c->Ta (model prog w) A E s n Q st):Ta (model prog w) A E s (if c then m else n) Q st:=by
 by_cases z:c
 .rw[Tz z];show h1 z
 .rw[Tx z];show h2 z
noncomputable def E8:Nat->StateT Lh QT Unit:=sortPriv% PySem.Builtin.setMinGallop
theorem wJ {G st:Lh}{g:Nat}{Q:Unit->Lh->Prop}(k:ud G st) (h:∀I,ud G I->Q () I):Ta (model prog w) A E s (E8 g) Q st :=
 MV (h _ #[k.arr,k.kind,k.failed,k.pend])
theorem wm {st:Lh}{a b:Array By}{Q:Array By->Lh->Prop}(hk:kindOf st=NA) (N:Up a) (O:Up b) (na:1<=a.size) (nb:1<=b.size) (h0:K b 0<K a 0) (hl:∀j,j<b.size->K b j<K a (a.size-1))
  (h:∀R am,Good a b R->ud st am->Q R am):Ta (model prog w) A E s (AE a b) Q st:=by
 show oR (Pq (Np #[5]));let#[t0,q0,e0]:=O.at (i:=0) (by((try dsimp only at *);show Ra nb));show oR (bw e0 ?_);have sa:=N.Ip;have sb:=O.Ip;have M0:MI a b ([(Value.int (K b 0) t0,q0)].toArray) 0 1:=by
  have M:MI a b ([].toArray) 0 0:=#[KU _,KU _,by simp,Pc,(λp hp=>by cases hp),(λp hp=>by cases hp)];show M.k5 N O (by((try dsimp only at *);show Ra nb)) e0 λj _ hj=>by
   have:=sa 0 j af af hj;omega
 show aR (λg=>?_) (λg=>?_)
 .show pa (h _ _ (M0.ph N (by simpa using g)) #[1,1])
 have g1:¬ 1=b.size:=(by simpa using g);show aR (λg=>?_) (λg=>?_)
 .have g':0+1=a.size:=(by simpa using g);show pa (h _ _ (M0.last N O g' λj _ hj=>?_) #[1,1]);have:=hl j hj;rw[<-g']at this;show Ld this
 have g2:¬ 0+1=a.size:=(by simpa using g);show oR (NW ?_);show oR (Me (Lk (I:=λx c am=>Iv λout G J mg=>Bw (c=(none,out,G,J,mg)) (MI a b out G J) (G+1<a.size) (J<b.size) (x+1<=out.size) (ud st am)) (Q:=λc am=>∃R,r9 (Good a b R) (c.1=some R) (ud st am)) ?_ ?_ ?_) ?_)
 .rintro x c a4 bq bx ⟨out,G,J,mg,rfl,M,U,L,lo,K1⟩;show oR (Me (Lk (I:=λy c am=>BF λS G J ac bc=>Bw (c=(none,S,G,J,ac,bc)) (MI a b S G J) (G+1<a.size) (J<b.size) (out.size+y<=S.size) (ud st am))
   (Q:=λc am=>ud st am/\((∃R,Good a b R/\c.1=some R)\/(BF λS G J ac bc=>FT (c=(none,S,G,J,ac,bc)) (MI a b S G J) (G+1<a.size) (J<b.size) (out.size+1<=S.size)))) ?_ ?_ ?_) ?_)
  .rintro y c a3 bl bi ⟨S,G,J,ac,bc,rfl,M,U,L,bd,K2⟩;have be:kindOf a3=NA:=K2.kind.trans hk;let#[tb,qb,eb]:=O.at L;let#[ta,qa,ea]:=N.at (i:=G) (by((try dsimp only at *);show Pe U));show oR (bw eb (oR (bw ea (oR (rO be rfl rfl ?_)))));by_cases c:K b J<K a G
   .rw[decide_eq_true c];show oR (bw eb ?_);have M2:=M.k5 N O L eb λj h1 h2=>by
     have:=sa G j af h1 h2;omega
    show aR (λg=>?_) (λg=>?_)
    .show pa #[K2,.inl #[_,M2.ph N (by simpa using g),rfl]]
    .have g':¬ J+1=b.size:=(by simpa using g);have sz:(S.push (Value.int (K b J) tb,qb)).size=S.size+1:=Pr ..;show aR (λg=>?_) (λg=>?_)
     .show pa #[K2,.inr #[S.push (Value.int (K b J) tb,qb),G,J+1,_,0,M2,U,by((try dsimp only at *);show LB L g'),af]]
     .show pa #[S.push (Value.int (K b J) tb,qb),G,J+1,_,0,M2,U,by((try dsimp only at *);show LB L g'),af,K2]
   .rw[decide_eq_false c];show oR (bw ea ?_);have M2:=M.gK N O (by((try dsimp only at *);show Pe U)) ea λj h1 h2=>by
     have:=sb J j af h1 h2;omega
    show aR (λg=>?_) (λg=>?_)
    .have g':G+1+1=a.size:=(by simpa using g);show pa #[K2,.inl #[_,M2.last N O g' (λj h1 h2=>?_),rfl]];have:=hl j h2;rw[show a.size-1=G+1 by((try dsimp only at *);show MC MF (id (Nl g')))]at this;show Ld this
    .have g':¬ G+1+1=a.size:=(by simpa using g);have sz:(S.push (Value.int (K a G) ta,qa)).size=S.size+1:=Pr ..;show aR (λg=>?_) (λg=>?_)
     .show pa #[K2,.inr #[S.push (Value.int (K a G) ta,qa),G+1,J,_,0,M2,by((try dsimp only at *);show LB U g'),L,af]]
     .show pa #[S.push (Value.int (K a G) ta,qa),G+1,J,_,0,M2,by((try dsimp only at *);show LB U g'),L,af,K2]
  .rintro c a3 ⟨S,G,J,ac,bc,rfl,M,U,L,bd,K2⟩;show#[K2,.inr #[2,2,0,M,U,L,af]]
  .show#[out,G,J,_,0,M,U,L,af,K1]
  .rintro c a3 ⟨K2,⟨R,hR,e⟩|⟨S,G,J,ac,bc,rfl,M,U,L,bd⟩⟩
   .let#[c1,c2]:=c;cases e;show pa #[R,hR,rfl,K2]
   .show oR (Pq (Np #[5]));show oR (Me (Lk (I:=λy c am=>Gu λap G J mg ac bc=>Bw (c=(none,ap,G,J,mg,ac,bc)) (MI a b ap G J) (G+1<a.size) (J<b.size) (S.size<=ap.size) (ud st am))
     (Q:=λc am=>ud st am/\((∃R,Good a b R/\c.1=some R)\/(Gu λap G J mg ac bc=>FT (c=(none,ap,G,J,mg,ac,bc)) (MI a b ap G J) (G+1<a.size) (J<b.size) (S.size<=ap.size)))) ?_ ?_ ?_) ?_)
    .rintro y c bb bl bi ⟨ap,G,J,a7,ac,bc,rfl,M,U,L,as,K3⟩;show aR (λg=>?_) (λg=>?_)
     all_goals
      show oR (wJ K3 λba Y=>?_);have a5:kindOf ba=NA:=Y.kind.trans hk;let#[tb,qb,eb]:=O.at L;show oR (bw eb (oR (dH (base:=G) (n:=a.size-G) (hint:=0) a5 rfl (λi hi=>N.at (by((try dsimp only at *);show My hi))) (sa.sub (KU _) af) af λr hr r1 r2=>?_)));let#[R1,R2]:=Bm r1 r2;rw[show G+(a.size-G)=a.size by omega]at R2;have bm:G+r<a.size:=by
       by_cases z:G+r<a.size
       .show z
       .have a1:=R1 (a.size-1-G) af;rw[show G+(a.size-1-G)=a.size-1 by omega]at a1;have:=hl J L;omega
      have M1:=M.FC N (k:=r) (by((try dsimp only at *);show Pf bm)) λi j hi h1 h2=>Mr (R1 i hi) (sb J j (KU _) h1 h2);show aR (λg2=>?_) (λg2=>?_)
      .show aR (λg3=>?_) (λg3=>?_)
       .have g':G+r+1=a.size:=(by simpa using g3);show pa #[Y,.inl #[_,M1.last N O g' (λj h1 h2=>?_),rfl]];have:=hl j h2;rw[show a.size-1=G+r by omega]at this;show Ld this
       .have bv:¬ G+r+1=a.size:=(by simpa using g3);show aR (λg4=>?_) (λg4=>?_)
        .have g':G+r=a.size:=(by simpa using g4);omega
        .clear g4;have M2:=M1.k5 N O L eb λj h1 h2=>Ld (R2 j af h2);show oR (bw eb ?_);show aR (λg5=>pa #[Y,.inl #[_,M2.ph N (by simpa using g5),rfl]]) (λg5=>?_);have aB:¬ J+1=b.size:=(by simpa using g5);let#[ta,qa,ea]:=N.at (i:=G+r) af;show oR (bw ea (oR (dH (base:=J+1) (n:=b.size-(J+1)) (hint:=0) a5 rfl (λi hi=>O.at (by((try dsimp only at *);show My hi))) (sb.sub (KU _) af) af λr' a0 aT a2=>?_)));let#[T1,T2]:=tG aT a2;rw[show J+1+(b.size-(J+1))=b.size by((try dsimp only at *);show Oe L)]at T2;have M3:=M2.Bq O (k:=r') (by((try dsimp only at *);show SU (MX L) a0)) λi j hi h1 h2=>Ld (OH (T1 i hi) (sa _ j (KU _) h1 h2));show aR (λg6=>?_) (λg6=>?_)
         .show aR (λg7=>pa #[Y,.inl #[_,M3.ph N (by simpa using g7),rfl]]) (λg7=>?_);have bn:¬ J+1+r'=b.size:=(by simpa using g7);show oR (bw ea ?_);have M4:=M3.gK N O af ea λj h1 h2=>T2 j af h2;show aR (λg8=>?_) (λg8=>?_)
          .have ab:G+r+1+1=a.size:=(by simpa using g8);show pa #[Y,.inl #[_,M4.last N O ab (λj h1 h2=>?_),rfl]];have:=hl j h2;rw[show a.size-1=G+r+1 by((try dsimp only at *);show MC MF (id (Nl ab)))]at this;show Ld this
          .have ab:¬ G+r+1+1=a.size:=(by simpa using g8);show aR (λg9=>pa #[Y,.inr #[_,G+r+1,J+1+r',2,0,M4,af,af,G0 as (M.grow M4 af af)]]) (λg9=>pa #[_,G+r+1,J+1+r',2,0,M4,af,af,G0 as (M.grow M4 af af),Y])
         .have a6:r'=0:=af;subst a6;show oR (bw ea ?_);have M4:=M2.gK N O af ea λj h1 h2=>T2 j af h2;show aR (λg8=>?_) (λg8=>?_)
          .have ab:G+r+1+1=a.size:=(by simpa using g8);show pa #[Y,.inl #[_,M4.last N O ab (λj h1 h2=>?_),rfl]];have:=hl j h2;rw[show a.size-1=G+r+1 by((try dsimp only at *);show MC MF (id (Nl ab)))]at this;show Ld this
          .have ab:¬ G+r+1+1=a.size:=(by simpa using g8);show aR (λg9=>pa #[Y,.inr #[_,G+r+1,J+1,2,0,M4,af,by((try dsimp only at *);show LB L aB),G0 as (M.grow M4 af af)]]) (λg9=>pa #[_,G+r+1,J+1,2,0,M4,af,by((try dsimp only at *);show LB L aB),G0 as (M.grow M4 af af),Y])
      .have r0:r=0:=af;subst r0;have M2:=M.k5 N O L eb λj h1 h2=>Ld (R2 j af h2);show oR (bw eb ?_);show aR (λg5=>pa #[Y,.inl #[_,M2.ph N (by simpa using g5),rfl]]) (λg5=>?_);have aB:¬ J+1=b.size:=(by simpa using g5);let#[ta,qa,ea]:=N.at (i:=G) af;show oR (bw ea (oR (dH (base:=J+1) (n:=b.size-(J+1)) (hint:=0) a5 rfl (λi hi=>O.at (by((try dsimp only at *);show My hi))) (sb.sub (KU _) af) af λr' a0 aT a2=>?_)));let#[T1,T2]:=tG aT a2;rw[show J+1+(b.size-(J+1))=b.size by((try dsimp only at *);show Oe L)]at T2;have M3:=M2.Bq O (k:=r') (by((try dsimp only at *);show SU (MX L) a0)) λi j hi h1 h2=>Ld (OH (T1 i hi) (sa _ j (KU _) h1 h2));show aR (λg6=>?_) (λg6=>?_)
       .show aR (λg7=>pa #[Y,.inl #[_,M3.ph N (by simpa using g7),rfl]]) (λg7=>?_);have bn:¬ J+1+r'=b.size:=(by simpa using g7);show oR (bw ea ?_);have M4:=M3.gK N O af ea λj h1 h2=>T2 j af h2;show aR (λg8=>?_) (λg8=>?_)
        .have ab:G+1+1=a.size:=(by simpa using g8);show pa #[Y,.inl #[_,M4.last N O ab (λj h1 h2=>?_),rfl]];have:=hl j h2;rw[show a.size-1=G+1 by((try dsimp only at *);show MC MF (id (Nl ab)))]at this;show Ld this
        .have ab:¬ G+1+1=a.size:=(by simpa using g8);show aR (λg9=>pa #[Y,.inr #[_,G+1,J+1+r',2,0,M4,by((try dsimp only at *);show LB U ab),af,G0 as (M.grow M4 af af)]]) (λg9=>pa #[_,G+1,J+1+r',2,0,M4,by((try dsimp only at *);show LB U ab),af,G0 as (M.grow M4 af af),Y])
       .have a6:r'=0:=af;subst a6;show oR (bw ea ?_);have M4:=M2.gK N O af ea λj h1 h2=>T2 j af h2;show aR (λg8=>?_) (λg8=>?_)
        .have ab:G+1+1=a.size:=(by simpa using g8);show pa #[Y,.inl #[_,M4.last N O ab (λj h1 h2=>?_),rfl]];have:=hl j h2;rw[show a.size-1=G+1 by((try dsimp only at *);show MC MF (id (Nl ab)))]at this;show Ld this
        .have ab:¬ G+1+1=a.size:=(by simpa using g8);show aR (λg9=>pa #[Y,.inr #[_,G+1,J+1,2,0,M4,by((try dsimp only at *);show LB U ab),by((try dsimp only at *);show LB L aB),G0 as (M.grow M4 af af)]]) (λg9=>pa #[_,G+1,J+1,2,0,M4,af,af,G0 as (M.grow M4 af af),Y])
    .rintro c bb ⟨ap,G,J,a7,ac,bc,rfl,M,U,L,as,K3⟩;show#[K3,.inr #[2,2,_,0,M,U,L,as]]
    .show#[S,G,J,2,0,M,U,L,qs _,K2]
    .rintro c bb ⟨K3,⟨R,hR,e⟩|⟨ap,G,J,a7,ac,bc,rfl,M,U,L,as⟩⟩
     .let#[c1,c2]:=c;cases e;show pa #[R,hR,rfl,K3]
     .show oR (wJ K3 λba Y=>?_);show pa #[ap,G,J,0,M,U,L,af,Y]
 .rintro c a4 ⟨out,G,J,mg,rfl,M,U,L,lo,K1⟩;exfalso;have:=M.sz;omega
 .show#[2,_,0,M0,by((try dsimp only at *);show LB na g2),by((try dsimp only at *);show LB nb g1),qs _,#[1,1]]
 .rintro c a4 ⟨R,hR,e,K1⟩;let#[c1,c2]:=c;cases e;show pa (h R a4 hR K1)
end
noncomputable def seg (a:Array By) (k n:Nat):List By:=(a.toList.drop k).take (n-k)
theorem iR {a:Array By}{k n:Nat}(h:k<=n):a.toList.take n=a.toList.take k++seg a k n:=by
 unfold seg;have e:a.toList.take k=(a.toList.take n).take k:=(by rw[Sf,Ol h]);rw[e, <-List.drop_take,Mh]
theorem lK {a:Array By}{k n:Nat}{q:By}(h:q∈seg a k n):∃j,k<=j/\j<n/\j<a.size/\MO q.1=K a j:=by
 let#[j,h1,h2,e]:=dG h;show#[k+j,af,My h1,h2,e]
theorem lO {a:Array By}{n:Nat}{q:By}(h:q∈a.toList.take n):∃j,j<n/\j<a.size/\MO q.1=K a j:=by
 have:q∈(a.toList.drop 0).take n:=(by rw[Sg];show h);let#[j,h1,h2,e]:=dG this;rw[Sh]at h2 e;show#[j,h1,h2,e]
theorem gA {a:Array By}{k n:Nat}:(a.extract k n).toList=seg a k n:=by
 unfold seg;rw[OL,Mz]
theorem lC {a:Array By}{n:Nat}:(a.extract 0 n).toList=a.toList.take n:=by
 rw[OL,Mz];simp
theorem wX {a:Array By}{k:Nat}(h:k<a.size):seg a k (k+1)=[a[k]]:=by
 unfold seg;rw[ME (by simpa using h)];simp
structure MH (a b out:Array By) (na nb:Nat):Prop where
 la:na<=a.size
 lb:nb<=b.size
 pm:(a.toList.take na++b.toList.take nb++out.toList.reverse).Perm (a.toList++b.toList)
 up:out.toList.reverse.Pairwise le
 ab:∀p∈a.toList.take na,∀q∈out.toList,le p q
 bb:∀p∈b.toList.take nb,∀q∈out.toList,le p q
theorem MH.sz {a b out:Array By}{I G:Nat}(m:MH a b out I G):out.size+I+G=a.size+b.size:=by
 have:=m.pm.length_eq;have h1:=m.la;have h2:=m.lb;simp at this;omega
theorem MH.grow {a b out O:Array By}{G J I B:Nat}(m:MH a b out G J) (L:MH a b O I B) (h1:I<=G) (h2:B<=J):out.size<=O.size:=by
 have R:=m.sz;have N:=L.sz;omega
theorem lD {out:Array By}{l r:List By}{q:By}(h:out.toList.reverse=l++r.reverse) (G:q∈out.toList):q∈l\/q∈r:=by
 have:q∈out.toList.reverse:=LL.mpr G;rw[h]at this;rcases n7.mp this with z|z
 .show .inl z
 .show .inr (LL.mp z)
theorem MH.tN {a b out S:Array By}{G L k:Nat}(m:MH a b out G L) (ua:Up a) (U:k<=G) (O:S.toList.reverse=seg a k G++out.toList.reverse) (h:∀i j,i<L->i<b.size->k<=j->j<G->K b i<=K a j):MH a b S k L:=by
 have R:=iR (a:=a) U;have N:(a.toList.take G).Pairwise le:=ua.up.sublist (Nt _ _);rw[R]at N;let#[p1,p2,p3]:=K7.mp N;have ac:=m.la;show#[G0 U ac,m.lb,3,λp I q J=>?_,λp I q J=>?_]
 .show Oq ?_ m.pm;rw[O,R];generalize seg a k G=T;generalize a.toList.take k=D;generalize b.toList.take L=B;rw[K9,K9,K9];show Ni _ ?_;rw[<-K9, <-K9];show MW _ Nv
 .rw[O,K7];show#[p2,m.up,λp N q J=>m.ab p ?_ q (LL.mp J)];rw[R];show K0 _ N
 .rcases lD O J with z|z
  .show p3 p I q z
  .show m.ab p ?_ q z;rw[R];show LR _ I
 .rcases lD O J with z|z
  .let#[i,i1,Y,e1]:=lO I;let#[j,j1,j2,j3,e2]:=lK z;change MO p.1<=MO q.1;rw[e1,e2];show h i j i1 Y j1 j2
  .show m.bb p I q z
theorem MH.sV {a b out S:Array By}{N G k:Nat}(m:MH a b out N G) (ub:Up b) (U:k<=G) (O:S.toList.reverse=seg b k G++out.toList.reverse) (h:∀i j,i<N->i<a.size->k<=j->j<G->K a i<=K b j):MH a b S N k:=by
 have R:=iR (a:=b) U;have L:(b.toList.take G).Pairwise le:=ub.up.sublist (Nt _ _);rw[R]at L;let#[p1,p2,p3]:=K7.mp L;have ac:=m.lb;show#[m.la,G0 U ac,3,λp I q J=>?_,λp I q J=>?_]
 .show Oq ?_ m.pm;rw[O,R];generalize seg b k G=T;generalize b.toList.take k=D;generalize a.toList.take N=B;rw[K9,K9,K9]
 .rw[O,K7];show#[p2,m.up,λp L q J=>m.bb p ?_ q (LL.mp J)];rw[R];show K0 _ L
 .rcases lD O J with z|z
  .let#[i,i1,Y,e1]:=lO I;let#[j,j1,j2,j3,e2]:=lK z;change MO p.1<=MO q.1;rw[e1,e2];show h i j i1 Y j1 j2
  .show m.ab p I q z
 .rcases lD O J with z|z
  .show p3 p I q z
  .show m.bb p ?_ q z;rw[R];show LR _ I
theorem MH.gK {a b out:Array By}{G I:Nat}(m:MH a b out G I) (N:Up a) (J:1<=G) {p:By}(L:a[G-1]?=some p) (h:∀i,i<I->i<b.size->K b i<=K a (G-1)):MH a b (out.push p) (G-1) I:=by
 have O:=m.la;have hi:G-1<a.size:=Qo J O;have ep:a[G-1]=p:=(by rw[getElem?_pos a _ hi]at L;show rn L);show m.tN N (SW G 1) ?_ λi j h1 h2 S R=>?_
 .have:=wX hi;rw[show G-1+1=G by show QL J]at this;rw[this,Pd,NZ,ep];rfl
 .rw[show j=G-1 by omega];show h i h1 h2
theorem MH.k5 {a b out:Array By}{I G:Nat}(m:MH a b out I G) (O:Up b) (J:1<=G) {p:By}(L:b[G-1]?=some p) (h:∀i,i<I->i<a.size->K a i<=K b (G-1)):MH a b (out.push p) I (G-1):=by
 have N:=m.lb;have hi:G-1<b.size:=Qo J N;have ep:b[G-1]=p:=(by rw[getElem?_pos b _ hi]at L;show rn L);show m.sV O (SW G 1) ?_ λi j h1 h2 S R=>?_
 .have:=wX hi;rw[show G-1+1=G by show QL J]at this;rw[this,Pd,NZ,ep];rfl
 .rw[show j=G-1 by omega];show h i h1 h2
theorem MH.FC {a b out:Array By}{G I k:Nat}(m:MH a b out G I) (L:Up a) (J:k<=G) (h:∀i j,i<I->i<b.size->k<=j->j<G->K b i<=K a j):MH a b (out++(a.extract k G).reverse) k I :=
 m.tN L J (by rw[LO,NZ,OM,Qp,gA]) h
theorem MH.Bq {a b out:Array By}{I G k:Nat}(m:MH a b out I G) (L:Up b) (J:k<=G) (h:∀i j,i<I->i<a.size->k<=j->j<G->K a i<=K b j):MH a b (out++(b.extract k G).reverse) I k :=
 m.sV L J (by rw[LO,NZ,OM,Qp,gA]) h
theorem MH.done {a b out:Array By}{I G:Nat}(m:MH a b out I G) (N:Up a) (O:Up b) (h:I=0\/G=0):Good a b (a.extract 0 I++b.extract 0 G++out.reverse):=by
 have e:(a.extract 0 I++b.extract 0 G++out.reverse).toList=a.toList.take I++b.toList.take G++out.toList.reverse:=by
  rw[LO,LO,lC,lC,OM]
 show#[by rw[e];show m.pm,?_];rw[e];rcases h with h|h
 .rw[h,Qw,Rz,K7];show#[O.up.sublist (Nt _ _),m.up,λp J q L=>m.bb p J q (LL.mp L)]
 .rw[h,Qw,QJ,K7];show#[N.up.sublist (Nt _ _),m.up,λp J q L=>m.ab p J q (LL.mp L)]
theorem MH.first {a b out:Array By}{J G:Nat}(m:MH a b out J G) (O:Up a) (R:Up b) (hn:G=1) (h:∀j,j<a.size->K b 0<=K a j):Good a b (b.extract 0 G++a.extract 0 J++out.reverse):=by
 have e:(b.extract 0 G++a.extract 0 J++out.reverse).toList=b.toList.take G++a.toList.take J++out.toList.reverse:=by
  rw[LO,LO,lC,lC,OM]
 show#[3]
 .rw[e];show(MW _ Nv).trans m.pm
 .rw[e,K7,K7];show#[#[R.up.sublist (Nt _ _),O.up.sublist (Nt _ _),λp L q I=>?_],m.up,λp L q I=>?_]
  .let#[i,i1,Y,U]:=lO L;let#[j,j1,S,N]:=lO I;change MO p.1<=MO q.1;rw[U,N,show i=0 by omega];show h j S
  .rcases n7.mp L with z|z
   .show m.bb p z q (LL.mp I)
   .show m.ab p z q (LL.mp I)
noncomputable def zH:Array By->Array By->StateT Lh QT (Array By):=sortPriv% PySem.Builtin.mergeHi
section
variable {prog:rz}{w:C1}{A:KY}{E:Value->ll->Prop}{s:ll}{a₀:Array By}
theorem vt {st:Lh}{a b:Array By}{Q:Array By->Lh->Prop}(hk:kindOf st=NA) (L:Up a) (N:Up b) (J:1<=a.size) (G:1<=b.size) (h0:K b 0<K a 0) (hl:∀j,j<b.size->K b j<K a (a.size-1))
  (h:∀R ab,Good a b R->ud st ab->Q R ab):Ta (model prog w) A E s (zH a b) Q st:=by
 show oR (Pq (Np #[5]));have sa:=L.Ip;have sb:=N.Ip;have aB:∀j,j<a.size->K b 0<=K a j:=λj hj=>by
  have:=sa 0 j (KU _) (KU _) hj;omega
 let#[t0,q0,e0]:=L.at (i:=a.size-1) af;show oR (bw e0 ?_);have M0:MH a b ([(Value.int (K a (a.size-1)) t0,q0)].toArray) (a.size-1) b.size:=by
  have M:MH a b ([].toArray) a.size b.size:=#[qs _,qs _,(by rw[LF (l:=a.toList) (by simp),LF (l:=b.toList) (by simp)];simp),Pc,(λp _ q hq=>by cases hq),(λp _ q hq=>by cases hq)];show M.gK L J e0 λi h1 h2=>Ld (hl i h2)
 show aR (λg=>pa (h _ _ (M0.done L N (.inl (by simpa using g))) #[1,1])) (λg=>?_);have g1:¬ a.size-1=0:=(by simpa using g);show aR (λg=>pa (h _ _ (M0.first L N (by simpa using g) aB) #[1,1])) (λg=>?_);have g2:¬ b.size=1:=(by simpa using g);show oR (NW ?_);show oR (Me (Lk (I:=λx c ab=>Iv λJ G out mg=>Bw (c=(none,J,G,out,mg)) (MH a b out J G) (1<=J) (2<=G) (x+1<=out.size) (ud st ab)) (Q:=λc ab=>∃R,r9 (Good a b R) (c.1=some R) (ud st ab)) ?_ ?_ ?_) ?_)
 .rintro x c a2 bx bF ⟨J,G,out,mg,rfl,M,la,lb,lo,K1⟩;show oR (Me (Lk (I:=λy c ab=>BF λJ G O ac bc=>Bw (c=(none,J,G,O,ac,bc)) (MH a b O J G) (1<=J) (2<=G) (out.size+y<=O.size) (ud st ab))
   (Q:=λc ab=>ud st ab/\((∃R,Good a b R/\c.1=some R)\/(BF λJ G O ac bc=>FT (c=(none,J,G,O,ac,bc)) (MH a b O J G) (1<=J) (2<=G) (out.size+1<=O.size)))) ?_ ?_ ?_) ?_)
  .rintro y c a1 bl bi ⟨J,G,O,ac,bc,rfl,M,la,lb,bb,K2⟩;have bd:kindOf a1=NA:=K2.kind.trans hk;have lA:=M.la;have lB:=M.lb;let#[tb,qb,eb]:=N.at (i:=G-1) af;let#[ta,qa,U]:=L.at (i:=J-1) af;show oR (bw eb (oR (bw U (oR (rO bd rfl rfl ?_)))));by_cases c:K b (G-1)<K a (J-1)
   .rw[decide_eq_true c];show oR (bw U ?_);have M2:=M.gK L af U λi h1 h2=>Ld (OJ (sb i (G-1) (KU _) af af) c);show aR (λg=>pa #[K2,.inl #[_,M2.done L N (.inl (by simpa using g)),rfl]]) (λg=>?_);have g':¬ J-1=0:=(by simpa using g);have sz:(O.push (Value.int (K a (J-1)) ta,qa)).size=O.size+1:=Pr ..;show aR (λg=>pa #[K2,.inr #[J-1,G,O.push (Value.int (K a (J-1)) ta,qa),_,0,M2,af,lb,af]]) (λg=>pa #[J-1,G,O.push (Value.int (K a (J-1)) ta,qa),_,0,M2,af,lb,af,K2])
   .rw[decide_eq_false c];show oR (bw eb ?_);have M2:=M.k5 N af eb λi h1 h2=>Mr (sa i (J-1) (KU _) af af) (Int.not_lt.mp c);show aR (λg=>pa #[K2,.inl #[_,M2.first L N (by simpa using g) aB,rfl]]) (λg=>?_);have g':¬ G-1=1:=(by simpa using g);have sz:(O.push (Value.int (K b (G-1)) tb,qb)).size=O.size+1:=Pr ..;show aR (λg=>pa #[K2,.inr #[J,G-1,O.push (Value.int (K b (G-1)) tb,qb),_,0,M2,la,af,af]]) (λg=>pa #[J,G-1,O.push (Value.int (K b (G-1)) tb,qb),_,0,M2,la,af,af,K2])
  .rintro c a1 ⟨J,G,O,ac,bc,rfl,M,la,lb,bb,K2⟩;show#[K2,.inr #[J,G,O,_,0,M,la,lb,af]]
  .show#[J,G,out,_,0,M,la,lb,af,K1]
  .rintro c a1 ⟨K2,⟨R,hR,e⟩|⟨J,G,O,ac,bc,rfl,M,la,lb,bb⟩⟩
   .let#[c1,c2]:=c;cases e;show pa #[R,hR,rfl,K2]
   .show oR (Pq (Np #[5]));show oR (Me (Lk (I:=λy c ab=>Gu λJ G am mg ac bc=>Bw (c=(none,J,G,am,mg,ac,bc)) (MH a b am J G) (1<=J) (2<=G) (O.size<=am.size) (ud st ab))
     (Q:=λc ab=>ud st ab/\((∃R,Good a b R/\c.1=some R)\/(Gu λJ G am mg ac bc=>FT (c=(none,J,G,am,mg,ac,bc)) (MH a b am J G) (1<=J) (2<=G) (O.size<=am.size)))) ?_ ?_ ?_) ?_)
    .rintro y c ba bl bi ⟨J,G,am,a6,ac,bc,rfl,M,la,lb,ap,K3⟩;show aR (λg=>?_) (λg=>?_)
     all_goals
      show oR (wJ K3 λa7 S=>?_);have a3:kindOf a7=NA:=S.kind.trans hk;have lA:=M.la;have lB:=M.lb;let#[tb,qb,eb]:=N.at (i:=G-1) af;show oR (bw eb (oR (dH (base:=0) (n:=J) (hint:=J-1) a3 rfl (λi hi=>L.at af) (sa.sub (KU _) af) af λr hr r1 r2=>?_)));let#[R1,R2]:=Bm r1 r2;simp only[Sh]at R1 R2;have M1:=M.FC L (k:=r) af λi j h1 h2 h3 h4=>Ld (OJ (sb i (G-1) (KU _) af af) (R2 j h3 h4));show aR (λg2=>?_) (λg2=>?_)
      .show aR (λg3=>pa #[S,.inl #[_,M1.done L N (.inl (by simpa using g3)),rfl]]) (λg3=>?_);have bE:¬ r=0:=(by simpa using g3);have M2:=M1.k5 N af eb λi h1 h2=>R1 i af;show oR (bw eb ?_);show aR (λg5=>pa #[S,.inl #[_,M2.first L N (by simpa using g5) aB,rfl]]) (λg5=>?_);have bv:¬ G-1=1:=(by simpa using g5);let#[ta,qa,U]:=L.at (i:=r-1) af;show oR (bw U (oR (dH (base:=0) (n:=G-1) (hint:=G-1-1) a3 rfl (λi hi=>N.at af) (sb.sub (KU _) af) af λY bm aT a0=>?_)));let#[T1,T2]:=tG aT a0;simp only[Sh]at T1 T2;have M3:=M2.Bq N (k:=Y) af λi j h1 h2 h3 h4=>Mr (sa i (r-1) (KU _) af af) (T2 j h3 h4);show aR (λg6=>?_) (λg6=>?_)
       .show aR (λg7=>pa #[S,.inl #[_,M3.first L N (by simpa using g7) aB,rfl]]) (λg7=>?_);have bq:¬ Y=1:=(by simpa using g7);show aR (λas=>pa #[S,.inl #[_,M3.done L N (.inr (by simpa using as)),rfl]]) (λas=>?_);have bn:¬ Y=0:=(by simpa using as);show oR (bw U ?_);have M4:=M3.gK L af U λi h1 h2=>Ld (T1 i af);show aR (λg8=>pa #[S,.inl #[_,M4.done L N (.inl (by simpa using g8)),rfl]]) (λg8=>?_);have a4:¬ r-1=0:=(by simpa using g8);show aR (λg9=>pa #[S,.inr #[r-1,Y,2,_,0,M4,af,af,G0 ap (M.grow M4 af af)]]) (λg9=>pa #[r-1,Y,2,_,0,M4,af,af,G0 ap (M.grow M4 af af),S])
       .have be:¬ G-1-Y>0:=g6;have a5:Y=G-1:=af;subst a5;show oR (bw U ?_);have M4:=M2.gK L af U λi h1 h2=>Ld (T1 i af);show aR (λg8=>pa #[S,.inl #[_,M4.done L N (.inl (by simpa using g8)),rfl]]) (λg8=>?_);have a4:¬ r-1=0:=(by simpa using g8);show aR (λg9=>pa #[S,.inr #[r-1,G-1,2,_,0,M4,af,af,G0 ap (M.grow M4 af af)]]) (λg9=>pa #[r-1,G-1,2,_,0,M4,af,af,G0 ap (M.grow M4 af af),S])
      .have bz:¬ J-r>0:=g2;have r0:r=J:=af;subst r0;have M2:=M.k5 N af eb λi h1 h2=>R1 i af;show oR (bw eb ?_);show aR (λg5=>pa #[S,.inl #[_,M2.first L N (by simpa using g5) aB,rfl]]) (λg5=>?_);have bv:¬ G-1=1:=(by simpa using g5);let#[ta,qa,U]:=L.at (i:=r-1) af;show oR (bw U (oR (dH (base:=0) (n:=G-1) (hint:=G-1-1) a3 rfl (λi hi=>N.at af) (sb.sub (KU _) af) af λY bm aT a0=>?_)));let#[T1,T2]:=tG aT a0;simp only[Sh]at T1 T2;have M3:=M2.Bq N (k:=Y) af λi j h1 h2 h3 h4=>Mr (sa i (r-1) (KU _) af af) (T2 j h3 h4);show aR (λg6=>?_) (λg6=>?_)
       .show aR (λg7=>pa #[S,.inl #[_,M3.first L N (by simpa using g7) aB,rfl]]) (λg7=>?_);have bq:¬ Y=1:=(by simpa using g7);show aR (λas=>pa #[S,.inl #[_,M3.done L N (.inr (by simpa using as)),rfl]]) (λas=>?_);have bn:¬ Y=0:=(by simpa using as);show oR (bw U ?_);have M4:=M3.gK L af U λi h1 h2=>Ld (T1 i af);show aR (λg8=>pa #[S,.inl #[_,M4.done L N (.inl (by simpa using g8)),rfl]]) (λg8=>?_);have a4:¬ r-1=0:=(by simpa using g8);show aR (λg9=>pa #[S,.inr #[r-1,Y,2,_,0,M4,af,af,G0 ap (M.grow M4 af af)]]) (λg9=>pa #[r-1,Y,2,_,0,M4,af,af,G0 ap (M.grow M4 af af),S])
       .have be:¬ G-1-Y>0:=g6;have a5:Y=G-1:=af;subst a5;show oR (bw U ?_);have M4:=M2.gK L af U λi h1 h2=>Ld (T1 i af);show aR (λg8=>pa #[S,.inl #[_,M4.done L N (.inl (by simpa using g8)),rfl]]) (λg8=>?_);have a4:¬ r-1=0:=(by simpa using g8);show aR (λg9=>pa #[S,.inr #[r-1,G-1,2,_,0,M4,af,af,G0 ap (M.grow M4 af af)]]) (λg9=>pa #[r-1,G-1,2,_,0,M4,af,af,G0 ap (M.grow M4 af af),S])
    .rintro c ba ⟨J,G,am,a6,ac,bc,rfl,M,la,lb,ap,K3⟩;show#[K3,.inr #[J,G,am,2,0,M,la,lb,ap]]
    .show#[J,G,O,2,0,M,la,lb,qs _,K2]
    .rintro c ba ⟨K3,⟨R,hR,e⟩|⟨J,G,am,a6,ac,bc,rfl,M,la,lb,ap⟩⟩
     .let#[c1,c2]:=c;cases e;show pa #[R,hR,rfl,K3]
     .show oR (wJ K3 λa7 S=>?_);show pa #[J,G,am,0,M,la,lb,af,S]
 .rintro c a2 ⟨J,G,out,mg,rfl,M,la,lb,lo,K1⟩;exfalso;have:=M.sz;omega
 .show#[2,_,0,M0,af,af,qs _,#[1,1]]
 .rintro c a2 ⟨R,hR,e,K1⟩;let#[c1,c2]:=c;cases e;show pa (h R a2 hR K1)
end
noncomputable def putAll (a:Array By) (o n:Nat) (l:List By):Array By:=(l.zipIdx n).foldl (λa (p,j)=>a.setIfInBounds (o+j) p) a
theorem jh (o:Nat):∀(l:List By) (n:Nat) (a:Array By),o+n+l.length<=a.size->∀i,(putAll a o n l)[i]?=if o+n<=i/\i<o+n+l.length then l[i-(o+n)]? else a[i]?
 | [],n,a,_,i=>by
  rw[Tx (by rw[QM];omega)];rfl
 |p::l,n,a,h,i=>by
  rw[KO]at h;change(putAll (a.setIfInBounds (o+n) p) o (n+1) l)[i]?=_;rw[jh o l (n+1) _ (by rw[Array.size_setIfInBounds];omega),KO,Array.getElem?_setIfInBounds];by_cases c:o+(n+1)<=i/\i<o+(n+1)+l.length
  .rw[Tz c,Tz af,show i-(o+n)=(i-(o+(n+1)))+1 by omega];simp
  .rw[Tx c];by_cases d:o+n=i
   .rw[Tz d,Tz (Nat.lt_of_add_right_lt h),Tz af, <-d];simp
   .rw[Tx d,Tx af]
theorem sv {a:Array By}{o:Nat}{l:List By}(h:o+l.length<=a.size):(putAll a o 0 l).toList=a.toList.take o++l++a.toList.drop (o+l.length):=by
 apply MY;intro i;have e:=jh o l 0 a af i;rw[L0,e,K9];by_cases I:i<o
 .rw[Tx af,LG (by rw[HC];simp;omega),Of];simp[I]
 .rw[LC (by rw[HC];omega)];have G:(a.toList.take o).length=o:=(by rw[HC];simp;omega);rw[G];by_cases J:i<o+l.length
  .rw[Tz af,LG af];rfl
  .rw[Tx af,LC af,Pj,L0];congr 1;omega
theorem sE {a:Array By}{lo hi i:Nat}(h:i<hi-lo) (hs:hi<=a.size):K (a.extract lo hi) i=K a (lo+i):=by
 show RK ?_;rw[Array.getElem?_extract];rw[Tz af]
theorem nr {a:Array By}{lo hi:Nat}(hs:hi<=a.size):(a.extract lo hi).size=hi-lo:=by
 rw[Array.size_extract];omega
theorem Bp {a₀ a:Array By}(L:a.Perm a₀) (k:Ks a₀) {lo hi:Nat}(hs:hi<=a.size) (h:kK a lo hi):Up (a.extract lo hi):=by
 show#[λp I=>k.ik p ((Mv.mp L).mem_iff.mp ?_),Ma.mpr λi j S N U=>?_]
 .rw[gA]at I;show Oj (Oo I)
 .have sz:=nr (a:=a) (lo:=lo) hs;have O:i<(a.extract lo hi).size:=(by rw[<-LI];show S);have R:j<(a.extract lo hi).size:=(by rw[<-LI];show N);have J:=K_eq O;have G:=K_eq R;rw[sE af hs]at J G;have z:=h (lo+i) (lo+j) af af af;rw[J,G]at z;simpa[le]using z
theorem parts {a:Array By}{lo mid hi:Nat}(h1:lo<=mid) (h2:mid<=hi):a.toList=a.toList.take lo++(seg a lo mid++seg a mid hi)++a.toList.drop hi:=by
 have I:=iR (a:=a) h1;have G:=iR (a:=a) h2;rw[<-K9, <-I, <-G,Mh]
theorem w9 {a R:Array By}{lo mid hi:Nat}(h1:lo<=mid) (h2:mid<=hi) (h3:hi<=a.size) (G:Good (a.extract lo mid) (a.extract mid hi) R) :
  R.size=hi-lo/\(putAll a lo 0 R.toList).Perm a/\(∀i,¬ (lo<=i/\i<hi)->(putAll a lo 0 R.toList)[i]?=a[i]?)/\kK (putAll a lo 0 R.toList) lo hi/\∀i,lo<=i->i<hi->∃j,lo<=j/\j<hi/\K (putAll a lo 0 R.toList) i=K a j:=by
 let#[J,g2]:=G;have sz:R.size=hi-lo:=by
  have:=J.length_eq;simp only[wh,LI]at this;rw[nr (G0 h2 h3),nr h3]at this;omega
 have hl:R.toList.length=hi-lo:=(by rw[LI];show sz);have get:=jh lo R.toList 0 a af;have L:∀i,lo<=i->i<hi->∃(h:i-lo<R.size),K (putAll a lo 0 R.toList) i=MO (R[i-lo]).1:=λi ab Y=>by
  have am:i-lo<R.size:=af;show#[am,?_];have e:=get i;rw[Tz af]at e;unfold K;rw[e,L0,Nat.add_zero,getElem?_pos R (i-lo) am]
 show#[sz,?_,λi hi=>?_,λi j hi ac S=>?_,λi ab Y=>?_]
 .rw[Mv,sv af]
  conv=>rhs;rw[parts (a:=a) h1 h2]
  rw[hl,show lo+(hi-lo)=hi by omega];show MW _ (Ni _ ?_);rw[<-gA, <-gA];show J
 .rw[get i,Tx af]
 .let#[U,O]:=L i hi (NN ac S);let#[a2,e2]:=L j (G0 hi ac) S;rw[O,e2];by_cases z:i=j
  .subst z;show Lz _
  .have:=Ma.mp g2 (i-lo) (j-lo) (by simpa using U) (by simpa using a2) af;simpa[le]using this
 .let#[U,O]:=L i ab Y;have hm:R[i-lo]∈(a.extract lo mid).toList++(a.extract mid hi).toList:=J.mem_iff.mp (by simp);rw[O];rcases n7.mp hm with z|z
  .rw[gA]at z;let#[j,I,N,j3,e]:=lK z;show#[j,I,K6 N h2,e]
  .rw[gA]at z;let#[j,I,N,j3,e]:=lK z;show#[j,G0 h1 I,N,e]
structure FH (a₀:Array By) (st st':Lh) (i lo n:Nat) (pw:Nat):Prop where
 S:SI a₀ st'
 out:∀j,¬ (lo<=j/\j<lo+n)->(Bd st')[j]?=(Bd st)[j]?
 up:kK (Bd st') lo (lo+n)
 pend:KQ st'=((KQ st).setIfInBounds i (lo,n,pw)).eraseIdxIfInBounds (i+1)
section
variable {prog:rz}{w:C1}{A:KY}{E:Value->ll->Prop}{s:ll}{a₀:Array By}
theorem DV {st x:Lh}{Q:PUnit->Lh->Prop}(h:Q #[] x):Ta (model prog w) A E s (set x:StateT Lh QT PUnit) Q st:=by
 unfold Ta;rw[StateT.run_set];show qi #[rfl,h]
theorem zJ {st:Lh}{i I J pw nb as:Nat}{Q:Bool->Lh->Prop}(S:SI a₀ st) (k:Ks a₀) (h1:(KQ st)[i]?=some (I,J,pw)) (h2:(KQ st)[i+1]?=some (I+J,nb,as)) (n1:1<=J) (n2:1<=nb) (hsz:I+J+nb<=a₀.size)
  (u1:kK (Bd st) I (I+J)) (u2:kK (Bd st) (I+J) (I+J+nb)) (h:∀ac,FH a₀ st ac i I (J+nb) pw->Q true ac):Ta (model prog w) A E s (mergeAt' i) Q st:=by
 show oR (NW ?_);have hs:=S.size;have ka:∀{j:Nat},j<(Bd st).size->∃t q,(Bd st)[j]?=some (.int (K (Bd st) j) t,q):=λU=>uO S.perm k U;rw[h1,h2];show oR (DV ?_);let#[tb,qb,eb]:=ka (j:=I+J) af;show oR (bw eb (oR (dH (base:=I) (n:=J) (hint:=0) S.kind rfl (λi hi=>ka af) u1 af λr hr r1 r2=>?_)));let#[R1,R2]:=Bm r1 r2;show aR (λg=>?_) (λg=>?_)
 .have g':J-r=0:=(by simpa using g);show pa (h _ #[#[S.perm,S.kind,S.failed],λ_ _=>rfl,λi j hi N U=>?_,rfl]);change K (Bd st) i<=K (Bd st) j;by_cases c1:j<I+J
  .show u1 i j hi N c1
  .by_cases O:i<I+J
   .have Y:=R1 (i-I) af;rw[show I+(i-I)=i by show Oe hi]at Y;show Mr Y (u2 (I+J) j (qs _) (Lo c1) af)
   .show u2 i j (Lo O) N af
 have g':¬ J-r=0:=(by simpa using g);let#[ta,qa,ea]:=ka (j:=I+r+(J-r)-1) af;show oR (bw ea (oR (dH (base:=I+J) (n:=nb) (hint:=nb-1) S.kind rfl (λi hi=>ka af) u2 (Nat.sub_one_lt_of_lt n2) λL aB am ap=>?_)));let#[T1,T2]:=tG am ap;show aR (λg=>?_) (λg=>?_)
 .have aT:L=0:=(by simpa using g);show pa (h _ #[#[S.perm,S.kind,S.failed],λ_ _=>rfl,λi j hi N U=>?_,rfl]);change K (Bd st) i<=K (Bd st) j;by_cases c1:j<I+J
  .show u1 i j hi N c1
  .by_cases O:i<I+J
   .show Mr (u1 i (I+r+(J-r)-1) hi af af) (T2 j af af)
   .show u2 i j (Lo O) N af
 have g2:¬ L=0:=(by simpa using g);have ux:Up ((Bd st).extract (I+r) (I+J)):=Bp S.perm k af λi j hi N U=>u1 i j (Mq hi) N U;have uy:Up ((Bd st).extract (I+J) (I+J+L)):=Bp S.perm k af λi j hi N U=>u2 i j hi N af;have sx:((Bd st).extract (I+r) (I+J)).size=J-r:=(by rw[nr af];show Nat.add_sub_add_left I J r);have sy:((Bd st).extract (I+J) (I+J+L)).size=L:=(by rw[nr af];show Qa (I+J) L);have x0:K ((Bd st).extract (I+J) (I+J+L)) 0<K ((Bd st).extract (I+r) (I+J)) 0:=by
  rw[sE af af,sE af af];show R2 (I+r) (qs _) af
 have xl:∀j,j<((Bd st).extract (I+J) (I+J+L)).size->K ((Bd st).extract (I+J) (I+J+L)) j<K ((Bd st).extract (I+r) (I+J)) (((Bd st).extract (I+r) (I+J)).size-1):=λj U=>by
  rw[sE af af,sE af af,sx,show I+r+(J-r-1)=I+r+(J-r)-1 by omega];show T1 j (LH U sy)
 show aR (λg=>?_) (λg=>?_)
 .show oR (wm S.kind ux uy (by rw[sx];show MC MZ g') (by rw[sy];show MC MZ g2) x0 xl λR Th G KC=>?_);let#[z1,z2,z3,z4,z5]:=w9 (a:=Bd st) (lo:=I+r) (mid:=I+J) (hi:=I+J+L) (MC NU hr) af af G;show oR (MV (oR (NW (pa ?_))));have hf:NB Th=none:=KC.failed.trans S.failed;have hc:Bd Th=Bd st:=KC.arr;change Q (NB Th).isNone (QN (kindOf Th) (putAll (Bd Th) (I+r) 0 R.toList) (KQ Th) (gallopOf Th) (NB Th));rw[hf,hc];show h _ #[#[z2.trans S.perm,KC.kind.trans S.kind,rfl],λj U=>z3 j af,λi j hi N U=>?_,KC.pend];change K (putAll (Bd st) (I+r) 0 R.toList) i<=K (putAll (Bd st) (I+r) 0 R.toList) j;have out:∀i,¬ (I+r<=i/\i<I+J+L)->K (putAll (Bd st) (I+r) 0 R.toList) i=K (Bd st) i:=λi hi=>RK (z3 i hi);by_cases c1:i<I+r
  .rw[out i af];have ab:∀j,I+r<=j->j<I+J+nb->K (Bd st) i<=K (Bd st) j:=λj h1 h2=>by
    by_cases c:j<I+J
    .show u1 i j hi af c
    .have Y:=R1 (i-I) (OS hi c1);rw[show I+(i-I)=i by show Oe hi]at Y;show Mr Y (u2 (I+J) j (qs _) (Lo c) h2)
   by_cases O:I+r<=j/\j<I+J+L
   .let#[j',q1,q2,e]:=z5 j O.1 O.2;rw[e];show ab j' q1 af
   .rw[out j O];by_cases c3:j<I+r
    .show u1 i j hi N af
    .show ab j (Lo c3) af
  .by_cases O:i<I+J+L
   .by_cases c3:j<I+J+L
    .show z4 i j (Lo c1) N c3
    .rw[out j (MC not_and λa=>c3)];let#[i',q1,q2,e]:=z5 i (Lo c1) O;rw[e];by_cases c4:i'<I+J
     .have Y:=T2 j (Lo c3) af;show Mr (u1 i' (I+r+(J-r)-1) (Mq q1) af af) Y
     .show u2 i' j (Lo c4) af af
   .rw[out i (MC not_and λa=>O),out j af];show u2 i j af N af
 .show oR (vt S.kind ux uy (by rw[sx];show MC MZ g') (by rw[sy];show MC MZ g2) x0 xl λR Th G KC=>?_);let#[z1,z2,z3,z4,z5]:=w9 (a:=Bd st) (lo:=I+r) (mid:=I+J) (hi:=I+J+L) (MC NU hr) af af G;show oR (MV (oR (NW (pa ?_))));have hf:NB Th=none:=KC.failed.trans S.failed;have hc:Bd Th=Bd st:=KC.arr;change Q (NB Th).isNone (QN (kindOf Th) (putAll (Bd Th) (I+r) 0 R.toList) (KQ Th) (gallopOf Th) (NB Th));rw[hf,hc];show h _ #[#[z2.trans S.perm,KC.kind.trans S.kind,rfl],λj U=>z3 j af,λi j hi N U=>?_,KC.pend];change K (putAll (Bd st) (I+r) 0 R.toList) i<=K (putAll (Bd st) (I+r) 0 R.toList) j;have out:∀i,¬ (I+r<=i/\i<I+J+L)->K (putAll (Bd st) (I+r) 0 R.toList) i=K (Bd st) i:=λi hi=>RK (z3 i hi);by_cases c1:i<I+r
  .rw[out i af];have ab:∀j,I+r<=j->j<I+J+nb->K (Bd st) i<=K (Bd st) j:=λj h1 h2=>by
    by_cases c:j<I+J
    .show u1 i j hi af c
    .have Y:=R1 (i-I) (OS hi c1);rw[show I+(i-I)=i by show Oe hi]at Y;show Mr Y (u2 (I+J) j (qs _) (Lo c) h2)
   by_cases O:I+r<=j/\j<I+J+L
   .let#[j',q1,q2,e]:=z5 j O.1 O.2;rw[e];show ab j' q1 af
   .rw[out j O];by_cases c3:j<I+r
    .show u1 i j hi N af
    .show ab j (Lo c3) af
  .by_cases O:i<I+J+L
   .by_cases c3:j<I+J+L
    .show z4 i j (Lo c1) N c3
    .rw[out j (MC not_and λa=>c3)];let#[i',q1,q2,e]:=z5 i (Lo c1) O;rw[e];by_cases c4:i'<I+J
     .have Y:=T2 j (Lo c3) af;show Mr (u1 i' (I+r+(J-r)-1) (Mq q1) af af) Y
     .show u2 i' j (Lo c4) af af
   .rw[out i (MC not_and λa=>O),out j af];show u2 i j af N af
end
noncomputable def Chain (xs:Array By):Nat->List (Nat×Nat×Nat)->Nat->Prop
 |s,[],e=>s=e
 |s,(t,n,_)::r,e=>t=s/\1<=n/\kK xs s (s+n)/\Chain xs (s+n) r e
theorem Chain.le {xs:Array By}:∀{s:Nat}{l:List (Nat×Nat×Nat)}{e:Nat},Chain xs s l e->s+l.length<=e
 |s,[],e,h=>QZ h
 |s,(t,n,p)::r,e,⟨_,h2,_,G⟩=>by
  have:=Chain.le G;rw[KO];omega
theorem Chain.app {xs:Array By}:∀{s:Nat}{l G:List (Nat×Nat×Nat)}{e:Nat},Chain xs s (l++G) e↔∃m,Chain xs s l m/\Chain xs m G e
 |s,[],G,e=>#[λh=>#[s,rfl,h],λ⟨m,h1,h2⟩=>by rw[show s=m from h1];show h2]
 |s,(t,n,p)::r,G,e=>by
  constructor
  .rintro⟨h1,h2,L,N⟩;let#[m,J,I]:=Chain.app.mp N;show#[m,#[h1,h2,L,J],I]
  .rintro⟨m,⟨h1,h2,L,J⟩,I⟩;show#[h1,h2,L,Chain.app.mpr #[m,J,I]]
theorem kK.congr {xs ys:Array By}{lo hi:Nat}(h:kK xs lo hi) (e:∀i,lo<=i->i<hi->ys[i]?=xs[i]?):kK ys lo hi:=λi j hi I G=>by
 rw[RK (e i hi (NN I G)),RK (e j (G0 hi I) G)];show h i j hi I G
theorem Chain.congr {xs ys:Array By}:∀{s:Nat}{l:List (Nat×Nat×Nat)}{e:Nat},Chain xs s l e->(∀i,s<=i->i<e->ys[i]?=xs[i]?)->Chain ys s l e
 |s,[],e,h,_=>h
 |s,(t,n,p)::r,e,⟨h1,h2,I,G⟩,q=>by
  have:=Chain.le G;show#[h1,h2,I.congr λi a b=>q i a af,G.congr λi a b=>q i (Mq a) b]
structure RI (a₀:Array By) (st:Lh) (lo:Nat):Prop where
 S:SI a₀ st
 ch:Chain (Bd st) 0 (KQ st).toList lo
 le:lo<=a₀.size
theorem Fs {α:Type}{l:List α}{i:Nat}(h:i+1<l.length):∃G x y I,l=G++x::y::I/\G.length=i:=by
 show#[l.take i,l[i],l[i+1],l.drop (i+2),3]
 .rw[<-ME af, <-ME (Pe h),Mh]
 .rw[HC];omega
theorem pb {p:Array (Nat×Nat×Nat)}{G I:List (Nat×Nat×Nat)}{x y z:Nat×Nat×Nat}{i:Nat}(h:p.toList=G++x::y::I) (hi:G.length=i):((p.setIfInBounds i z).eraseIdxIfInBounds (i+1)).toList=G++z::I:=by
 let#[l]:=p;subst h;subst hi;simp;rw[List.eraseIdx_append_of_length_le af];simp
theorem B8 {c:Bool}{n:Nat}(h:¬ n<=1):(if c=true then n-2-1 else n-2)+1<n:=by
 cases c
 .rw[Tx av];omega
 .rw[Tz rfl];omega
theorem uu {α G:Type}{l:List α}{i:Nat}{f:α->α}{g:α->G}(h:∀x,g (f x)=g x):(l.modify i f).map g=l.map g:=by
 apply MY;intro j;rw[se,se,List.getElem?_modify];cases l[j]? with
 |none=>rfl
 |some x =>
  by_cases c:i=j
  .simp[c,h]
  .simp[c]
theorem Chain.same {xs:Array By}:∀{s:Nat}{l G:List (Nat×Nat×Nat)}{e:Nat},Chain xs s l e->G.map (λx=>(x.1,x.2.1))=l.map (λx=>(x.1,x.2.1))->Chain xs s G e
 |s,[],G,e,h,q=>by
  cases G with
  |nil=>show h
  |cons x r=>cases q
 |s,(t,n,p)::r,G,e,⟨h1,h2,R,L⟩,q=>by
  cases G with
  |nil=>cases q
  |cons x U =>
   let#[t',n',S]:=x;rw[Mc,Mc]at q;let#[O,N]:=List.cons.inj q;let#[J,I]:=Ph O;have J:t'=t:=J;have I:n'=n:=I;subst J;subst I;show#[h1,h2,R,L.same N]
theorem RI.push {a₀:Array By}{st:Lh}{lo n p:Nat}(R:RI a₀ st lo) (I:1<=n) (G:lo+n<=a₀.size) (u:kK (Bd st) lo (lo+n)):RI a₀ (setPending st ((KQ st).push (lo,n,p))) (lo+n):=by
 show#[#[R.S.perm,R.S.kind,R.S.failed],?_,G];change Chain (Bd st) 0 ((KQ st).push (lo,n,p)).toList (lo+n);rw[Pd];show Chain.app.mpr #[lo,R.ch,rfl,I,u,rfl]
theorem RI.last {a₀:Array By}{st:Lh}{lo:Nat}(R:RI a₀ st lo) {f:Nat×Nat×Nat->Nat×Nat×Nat}(G:∀x,((f x).1,(f x).2.1)=(x.1,x.2.1)) (i:Nat):RI a₀ (setPending st ((KQ st).modify i f)) lo:=by
 show#[#[R.S.perm,R.S.kind,R.S.failed],?_,R.le];change Chain (Bd st) 0 ((KQ st).modify i f).toList lo;show R.ch.same ?_;rw[Array.toList_modify];show uu G
section
variable {prog:rz}{w:C1}{A:KY}{E:Value->ll->Prop}{s:ll}{a₀:Array By}
theorem jg {st:Lh}{lo i:Nat}{Q:Bool->Lh->Prop}(R:RI a₀ st lo) (k:Ks a₀) (hi:i+1<(KQ st).size)
  (h:∀J,RI a₀ J lo->(∀j,lo<=j->(Bd J)[j]?=(Bd st)[j]?)->(KQ J).size+1=(KQ st).size->Q true J):Ta (model prog w) A E s (mergeAt' i) Q st:=by
 let#[l1,x,y,l2,e,N]:=Fs (l:=(KQ st).toList) (i:=i) (by simpa using hi);let#[G,I,O]:=x;let#[sb,L,Y]:=y;have ch:=R.ch;rw[e]at ch;let#[m,c1,e1,n1,u1,e2,n2,u2,U]:=Chain.app.mp ch;subst e1;subst e2;have b1:=c1.le;have b2:=U.le;have ab:=R.le;have g1:(KQ st)[i]?=some (G,I,O):=by
  rw[<-L0,e, <-N];simp
 have g2:(KQ st)[i+1]?=some (G+I,L,Y):=by
  rw[<-L0,e, <-N];simp
 show zJ R.S k g1 g2 n1 n2 af u1 u2 λJ M=>h J #[M.S,?_,R.le] (λj hj=>M.out j af) ?_
 .rw[M.pend,pb e N];show Chain.app.mpr #[G,c1.congr λj _ hj=>M.out j af,rfl,PR n1,M.up,?_];rw[show G+(I+L)=G+I+L by omega];show U.congr λj hj _=>M.out j af
 .have p1:(KQ J).toList.length=(l1++(G,I+L,O)::l2).length:=(by rw[M.pend,pb e N]);have p2:(KQ st).toList.length=(l1++(G,I,O)::(G+I,L,Y)::l2).length:=(by rw[e]);simp only[LI,wh,KO]at p1 p2;omega
theorem ya {st:Lh}{Q:Unit->Lh->Prop}(k:Ks a₀) (S:SI a₀ st) (hp:KQ st = ([].toArray)) (h2:2<=a₀.size) (h:∀O,(Bd O).Perm a₀->NB O=none->SortedTo (Bd O) a₀.size->Q () O):Ta (model prog w) A E s sortRuns' Q st:=by
 rw[sortRuns'_eq];show oR (NW ?_);have hsz:=S.size;have a2:(Bd st).size=a₀.size:=hsz;dsimp only;rw[hsz];show oR (Me (Lk (I:=λx c O=>∃lo,r9 (c=(none,lo)) (RI a₀ O lo) (x<=lo)) (Q:=λc O=>c=(none,a₀.size)/\RI a₀ O a₀.size) ?_ ?_ ?_) ?_)
 .rintro x c a4 a1 a0 ⟨lo,rfl,R,hx⟩;have ab:=R.le;show aR (λg=>?_) (λg=>?_)
  .have g':a₀.size<=lo:=g;obtain rfl:lo=a₀.size:=af;show pa #[rfl,R]
  have g':¬ a₀.size<=lo:=g;show oR (y6 R.S k (lo:=lo) (nrem:=a₀.size-lo) af af λm J C m1 m2 us=>?_);dsimp only;show aR (λgm=>?_) (λgm=>?_)
  .show oR (Pq (Np #[5]));generalize hf:min (a₀.size-lo) (minRun' a₀.size a₀.size 0)=n;show oR (zU C.S k (lo:=lo) (n:=n) (ok:=m) af m1 af us λac C3 am=>?_);have R3:RI a₀ ac lo:=#[C3.S,by
    rw[C3.pend,C.pend];show R.ch.congr λi _ hi=>(C3.pre i hi).trans (C.pre i hi),R.le]
   show oR (NW ?_);cases e:(KQ ac).back? with
   |none=>show oR (MV (pa #[lo+n,rfl,R3.push af af am,af]))
   |some t =>
    let#[s1,Y,p1]:=t;show oR (Me (Lk (I:=λy c G=>r9 (c=(none,())) (RI a₀ G lo) (∀j,lo<=j->(Bd G)[j]?=(Bd ac)[j]?)) (Q:=λc G=>r9 (c=(none,())) (RI a₀ G lo) (∀j,lo<=j->(Bd G)[j]?=(Bd ac)[j]?)) ?_ ?_ ?_) ?_)
    .rintro y c G aT aB ⟨rfl,N,L⟩;show oR (NW ?_);by_cases g:(KQ G).size>1
     .rw[Tz g,getElem?_pos (KQ G) ((KQ G).size-2) af];show aR (λ_=>pa #[rfl,N,L]) (λ_=>?_);show oR (jg N k af λap R5 o5 _=>pa #[rfl,R5,λj U=>(o5 j U).trans (L j U)])
     .rw[Tx g];show pa #[rfl,N,L]
    .show λc G q=>q
    .show#[rfl,R3,λ_ _=>rfl]
    .rintro c G ⟨rfl,N,L⟩;show oR (MV (oR (MV (pa #[lo+n,5,af]))));show RI.push (N.last (f:=λx=>(x.fst,x.2.fst,power' a₀.size (2*s1+Y) (2*s1+Y+Y+n) a₀.size)) (λx=>rfl) _) af af (am.congr λi h1 _=>L i h1)
  .have R3:RI a₀ J lo:=#[C.S,by
    rw[C.pend];show R.ch.congr λi _ hi=>C.pre i hi,R.le]
   show oR (NW ?_);cases e:(KQ J).back? with
   |none=>show oR (MV (pa #[lo+m,rfl,R3.push af (SU (MX ab) m2) us,Si hx m1]))
   |some t =>
    let#[s1,Y,p1]:=t;show oR (Me (Lk (I:=λy c G=>r9 (c=(none,())) (RI a₀ G lo) (∀j,lo<=j->(Bd G)[j]?=(Bd J)[j]?)) (Q:=λc G=>r9 (c=(none,())) (RI a₀ G lo) (∀j,lo<=j->(Bd G)[j]?=(Bd J)[j]?)) ?_ ?_ ?_) ?_)
    .rintro y c G aT aB ⟨rfl,N,L⟩;show oR (NW ?_);by_cases g:(KQ G).size>1
     .rw[Tz g,getElem?_pos (KQ G) ((KQ G).size-2) af];show aR (λ_=>pa #[rfl,N,L]) (λ_=>?_);show oR (jg N k af λap R5 o5 _=>pa #[rfl,R5,λj U=>(o5 j U).trans (L j U)])
     .rw[Tx g];show pa #[rfl,N,L]
    .show λc G q=>q
    .show#[rfl,R3,λ_ _=>rfl]
    .rintro c G ⟨rfl,N,L⟩;show oR (MV (oR (MV (pa #[lo+m,5,Si hx m1]))));show RI.push (N.last (f:=λx=>(x.fst,x.2.fst,power' a₀.size (2*s1+Y) (2*s1+Y+Y+m) a₀.size)) (λx=>rfl) _) af (SU (MX ab) m2) (us.congr λi h1 _=>L i h1)
 .rintro c O ⟨lo,rfl,R,hx⟩;have:=R.le;obtain rfl:lo=a₀.size:=Nat.le_antisymm this hx;show#[rfl,R]
 .show#[(0),rfl,#[S,by rw[hp];rfl,KU _],qs _]
 .rintro c O ⟨rfl,R⟩;dsimp only;show oR (Me (Lk (I:=λx c J=>r9 (c=(none,())) (RI a₀ J a₀.size) ((KQ J).size+x<=a₀.size)) (Q:=λc J=>r9 (c=(none,())) (RI a₀ J a₀.size) ((KQ J).size<=1)) ?_ ?_ ?_) ?_)
  .rintro x c J a1 a0 ⟨rfl,R2,ab⟩;show oR (NW ?_);show aR (λg=>pa #[rfl,R2,g]) (λg=>?_);show oR (jg R2 k ?_ λac R3 _ a3=>?_)
   .show B8 g
   .show pa #[rfl,R3,af]
  .rintro c J ⟨rfl,R2,ab⟩;show#[rfl,R2,af]
  .show#[rfl,R,?_];have:=R.ch.le;simpa using this
  .rintro c J ⟨rfl,R2,ab⟩;show pa (h J R2.S.perm R2.S.failed ?_);have ch:=R2.ch;cases e:(KQ J).toList with
   |nil =>
    rw[e]at ch;have:0=a₀.size:=ch;omega
   |cons x r =>
    have hr:r=[]:=by
     have z:(KQ J).toList.length=r.length+1:=(by rw[e];rfl);rw[LI]at z;show Lx.mp af
    subst hr;let#[t,n,p]:=x;rw[e]at ch;let#[_,_,u,e2]:=ch;have e3:0+n=a₀.size:=e2;rw[e3]at u;show λi j as U=>u i j (KU _) as U
end
theorem Hk {vs:List Value}{ns:List Int}(G:Nu vs ns) (I:ns.Nodup):Ks (PU vs):=by
 show#[G.intKeys,?_];have e:((PU vs).toList.map λp=>MO p.1)=ns:=by
  rw[pairsOf_toList, <-G.nums]
  conv=>rhs;rw[<-Rl (l₁:=vs) (l₂:=vs) (qs _)]
  rw[Mb];rfl
 rw[e];show I
section
variable {prog:rz}{w:C1}{A:KY}{E:Value->ll->Prop}{s:ll}
theorem oY {a:Addr}{vs:List Value}{ns:List Int}{n:Nat}{P:Fin->ll->Prop}(Ba:s.heap.get? a=some (seqObj "list" vs.toArray n)) (R:Nu vs ns) (hn:ns.Nodup) (hz:vs.length<=1000)
  (k:∀(out:Array Value) (ns':List Int),Nu out.toList ns'->ns'.Perm ns->ns'.Pairwise (· <= ·)->P (.done (.ret .none)) { s with heap:=sortedHeap s.heap a vs out }):wpAny (model prog w) A (Builtin.«list.sort» #[[.ref a],[]]) P E s:=by
 have lz:sizeLine=16777216:=vu;rw[list_sort_plain];have lt:=Heap.lt_size Ba;show iN (listItems_at Ba rfl (iN (QB Ba rfl ?_ (by simp only[pq];omega))));obtain⟨ep,U⟩:∃ep,(s.heap.update a (Obj.mapSeq λ_ => ([].toArray))).get? a=some (seqObj "list" ([].toArray) ep):=#[_,get?_update_seq Ba λ_ => ([].toArray)];show iN (Rx U rfl (iN (wpAny_newTuple (iN (QC (Mj ?_))))));have at2:(((s.heap.update a (Obj.mapSeq λ_ => ([].toArray))).push (seqObj "tuple" vs.toArray 0)).push (seqObj "list" ([].toArray) 0)).get? a=some (seqObj "list" ([].toArray) ep):=by
  have l1:a<((s.heap.update a (Obj.mapSeq λ_ => ([].toArray))).push (seqObj "tuple" vs.toArray 0)).objs.size:=(by rw[Sj,Heap.size_update];show Og lt);rw[Heap.get?_push_ne _ _ _ (Lc l1),Heap.get?_push_ne _ _ _ (by rw[Heap.size_update];show Lc lt)];show U
 have done:∀G:Lh,(Bd G).Perm (PU vs)->SortedTo (Bd G) (PU vs).size->P (.done (.ret .none)) { s with heap:=sortedHeap s.heap a vs ((Bd G).map (·.2)) }:=λG N O=>by
  let#[ns',w1,w2,w3]:=sorted_out R N O;show k _ ns' w1 w2 w3
 change wpAny (model prog w) A _ P E { s with heap:=((s.heap.update a (Obj.mapSeq λ_ => ([].toArray))).push (seqObj "tuple" vs.toArray 0)).push (seqObj "list" ([].toArray) 0) };dsimp only;by_cases L:vs.toArray.size<2
 .rw[Tz L,Tz L];show iN (qi ?_);rw[StateT.run_pure];show iN (qi (iN (Rx at2 rfl (iN (QB at2 rfl ?_ (KU _) ?_)))))
  .simp only[bne_self_eq_false,LU,if_false];show qi (done (QN general' (vs.toArray.zip vs.toArray) ([].toArray) 7 none) (RB _) λi j ab Y=>?_);rw[PV]at Y;rw[pq]at L;rw[show i=j by omega];show Lz _
  .change(Array.map (λx:By=>x.2) (vs.toArray.zip vs.toArray)).size<=sizeLine+1;rw[Sk];change(PU vs).size<=sizeLine+1;rw[PV];omega
 .rw[Tx L,Tx L];rw[pq]at L;obtain⟨J,v2,I,rfl⟩:∃J v2 I,vs=J::v2::I:=by
   match vs,L with
   | [],z=>show absurd av z
   | [_],z=>show absurd (by rw[LK];decide) z
   |J::v2::I,_=>show#[J,v2,I,rfl]
  rw[keyKind_ints R];have sr:=ya (prog:=prog) (w:=w) (A:=A) (E:=E) (s:={ s with heap:=((s.heap.update a (Obj.mapSeq λ_ => ([].toArray))).push (seqObj "tuple" (J::v2::I).toArray 0)).push (seqObj "list" ([].toArray) 0) }) (Hk R hn)
   (st:=QN NA (PU (J::v2::I)) ([].toArray) 7 none) (Q:=λ_ G=>r9 ((Bd G).Perm (PU (J::v2::I))) (NB G=none) (SortedTo (Bd G) (PU (J::v2::I)).size)) #[RB _,1] rfl (by rw[PV];show Qc rfl) λG N O S=>#[N,O,S]
  show iN (qi (iN (NK sr ?_ λ_ _ e=>e)));rintro⟨⟨⟩,G⟩ s' ⟨rfl,N,O,S⟩;dsimp only;show iN (Rx at2 rfl (iN (QB at2 rfl ?_ (KU _) ?_)))
  .rw[O];simp only[bne_self_eq_false,LU,if_false];show qi (done G N S)
  .change(Array.map (λx:By=>x.2) (Bd G)).size<=sizeLine+1;rw[Sk,N.size_eq,PV];omega
theorem vH {l:Addr}{vs:List Value}{ns:List Int}{Q:Value->ll->Prop}(Ba:s.heap.IsList l vs.toArray) (O:Nu vs ns) (N:ns.Nodup) (L:vs.length<=1000)
  (k:∀(out:Array Value) (ns':List Int),Nu out.toList ns'->ns'.Perm ns->ns'.Pairwise (· <= ·)->Q (.ref (s.heap.objs.size+1)) { s with heap:=sortedAll s.heap vs out }):wpAny (model prog w) A (call (.builtin "sorted") [.ref l]) Q E s:=by
 have U:sizeLine=16777216:=vu;show Calls.call_function_entry kind_sorted plain_sorted entry_sorted (args_sorted1 _) ?_;show iN (m:=checkCount "sorted" 1 1 _) (qi (iN (collect_list Ba (iN (QC ?_)) af)));have I:((s.heap.push (seqObj "list" ([].toArray) 0)).update s.heap.objs.size (Obj.mapSeq (· ++ vs.toArray))).objs.size=s.heap.objs.size+1:=(by rw[Heap.size_update,Sj]);have G:=Heap.get?_push_size ((s.heap.push (seqObj "list" ([].toArray) 0)).update s.heap.objs.size (Obj.mapSeq (· ++ vs.toArray))) (o:=seqObj "list" vs.toArray 0) rfl;rw[I]at G;change wpAny _ _ _ _ _ { s with heap:=((s.heap.push (seqObj "list" ([].toArray) 0)).update s.heap.objs.size (Obj.mapSeq (· ++ vs.toArray))).push (seqObj "list" vs.toArray 0) };rw[I];show iN (Mj (Ms slot_list_sort #[_,G,rfl] entry_list_sort (oY G O N L λout ns' S J R=>#[0,qi #[0,k out ns' S J R]]) (args_list_sort _)))
end
end Srt
namespace L2
open PySem PySem.Spec PyProof.Rows
noncomputable def rW (X:Cx) (G:List Str) (scope:OW) (cl:List (Str×Addr)) (C:Addr) (s₀:ll) (H₀:Hp) (ex:List Addr):Cx where
 prog:=X.prog
 w:=X.w
 K:=X.K
 mg:=X.mg
 base:=X.base
 A:=X.A
 N:=G
 s₀:=s₀
 H₀:=H₀
 env:=Sl scope cl C X.env
 outer:=X.stack
 stack:=X.stack
 ex:=ex
 fn:=λ_=>false
 calm:=X.calm
 pn:=[]
 xe:=λ_ _=>False
noncomputable def gf (t:Str) (caps:List (Str×Nat)):List Str:=t::caps.map (·.1)
noncomputable def fW (caps:List (Str×Nat)) (σ:St) (v:Option V):St:=v::caps.map λp=>(σ[p.2]?).join
structure jM (X:Cx) (scope:OW) (cl:List (Str×Addr)) (t:Str) (caps:List (Str×Nat)):Prop where
 kind:scope.kind=.function
 Ei:∀y∈scope.names,y.2≠.cell
 names:∀y∈scope.names,y.2=.local->scope.names.lookup y.1=some .local
 J9:scope.names.lookup t=some .local
 HL:closureFor scope X.env=pure cl
 sub:∀p∈cl,X.env.cells.lookup p.1=some p.2
 has:((relabel scope X.env).names.all λy => !(y.2 == .cell||y.2 == .free)||(cl.lookup y.1).isSome)=true
 Kr:∀p∈caps,X.N[p.2]?=some p.1/\(X.env.kindOf p.1=some .cell\/X.env.kindOf p.1=some .free)/\((relabel scope X.env).names.lookup p.1=some .cell\/(relabel scope X.env).names.lookup p.1=some .free)
 nd:(gf t caps).Nodup
section
variable {X:Cx}{scope:OW}{cl:List (Str×Addr)}{t:Str}{caps:List (Str×Nat)}{pins:List (Addr×Obj)}{σ:St}{H:Hp}{s:ll}{C:Addr}{fp:List Addr}
theorem jM.look (K:jM X scope cl t caps) {x:Str}{c:Addr}(h:cl.lookup x=some c):X.env.cells.lookup x=some c:=K.sub (x,c) (LZ h)
theorem jM.hs (K:jM X scope cl t caps) {x:Str}(h:(relabel scope X.env).names.lookup x=some .cell\/(relabel scope X.env).names.lookup x=some .free):∃c,cl.lookup x=some c:=by
 have G:∀k,(relabel scope X.env).names.lookup x=some k->(k==NameKind.cell||k==NameKind.free)=true->∃c,cl.lookup x=some c:=λk e I=>by
  have:=Lf.mp K.has (x,k) (LZ e);dsimp only at this;rw[I]at this;show MG.mp (by simpa using this)
 rcases h with h|h
 .show G _ h rfl
 .show G _ h rfl
theorem Kf (I:Inv X pins σ H s) (K:jM X scope cl t caps) (J:∀b∈fp,gn X pins H b) (N:∀b∈fp,b<s.heap.objs.size) (L:s.heap.objs.size<=C):(rW X (gf t caps) scope cl C s H fp).Ok where
 mod:=I.ok.mod
 kind:=K.kind
 glob:=I.ok.glob
 blt:=I.ok.blt
 above:=L
 inj:=λx y c h1 h2=>I.ok.inj x y c (K.look h1) (K.look h2)
 has:=λx R=>K.hs R
 FP:=λx c h=>nomatch (show false=true from h)
 hd:=I.ok.hd
 frames:=I.ok.frames
 HA:=.inl rfl
 IT:=λb G=>#[Lc (K6 (N b G) L),λx c e=>(J b G).2.2.2.2.1 x c (K.look e)]
 bs:=I.bs
 BG:=G0 I.ok.BG I.sz
 xD:=λb o e G=>by
  rcases(J b G).2.2.2.1 with z|z
  .show I.ok.xD b o e z
  .show absurd (K6 (Heap.lt_size e) (G0 I.ok.BG z)) (Nr _)
 xE:=λb G O=>by
  rcases BY.mp (I.qL b O)with e|e
  .show(J b G).2.1 e
  .show(J b G).2.2.1 e
 kG:=I.stack
 DG:=I.xm
theorem Jv {N:Heap}{m:Str->Option Value}{tk:Nat}(I:Inv X pins σ H s) (K:jM X scope cl t caps) (hf:∀b∈fp,gn X pins H b) (ho:∀b∈fp,b<s.heap.objs.size) (hC:s.heap.objs.size<=C)
  (R:∀b o,s.heap.get? b=some o->N.get? b=some o) (ns:N.Ns C m):Inv (rW X (gf t caps) scope cl C s H fp) [] (fW caps σ none) H { s with heap:=N,toks:=tk }:=by
 have ab:∀c v,s.heap.IsCell c v->N.IsCell c v:=λc v aB=>(by let#[o,e,d]:=aB;show#[o,R c o e,d]);show#[Kf I K hf ho hC,rfl,I.bare,Un.kept R,#[m,ns,λi x v e1 U e3=>?_],λx c e=>?_,I.bE.fresh hC,λx c e=>I.gN x c (K.look e),λp G=>absurd (show p∈([]:List (Addr×Obj))from G) (by simp),I.bE.kept R,by simp[fW,gf,rW]]
 .cases i with
  |zero =>
   have L:some (none:Option V)=some (some v):=U;cases L
  |succ j =>
   have J:(caps.map (·.1))[j]?=some x:=e1;have L:(caps.map λp=>(σ[p.2]?).join)[j]?=some (some v):=U;rw[se]at J L;cases G:caps[j]? with
   |none=>rw[G]at J;cases J
   |some p =>
    rw[G]at J L;have ex:p.1=x:=rn J;have O:(σ[p.2]?).join=some v:=rn L;have as:σ[p.2]?=some (some v):=by
     cases q:σ[p.2]? with
     |none=>rw[q]at O;cases O
     |some z=>rw[q]at O;show congrArg some O
    let#[hN,hk,ac]:=K.Kr p (vr G);subst ex;let#[m',_,hl]:=I.loc;have am:IH X.env.scope p.1:=by
     rcases hk with z|z
     .show .inr (.inl z)
     .show .inr (.inr z)
    let#[u,r,l]:=hl p.2 p.1 v hN as am;let#[c,Y]:=K.hs ac;rcases l with⟨z,_⟩|⟨_,c',S,ap⟩
    .rcases hk with y|y<;>(rw[y]at z;cases z)
    .rw[K.look Y]at S;cases S;show#[u,r,.inr #[ac,c,Y,ab c _ ap]]
 .let#[v,z]:=I.cell x c (K.look e);show#[v,ab c v z]
theorem Inv.F4 {D:Addr}{ys:List V}{its:List Value}{n:Nat}(I:Inv X pins σ H s) (f:gn X pins H D) (e:s.heap.get? D=some { cls:=.type "list",data:=.seq its.toArray n }) (r:Vals ys its) (L:ys.length<=sizeLine) :
  Inv X pins σ (upd H D (.lst ys)) s:=by
 let#[J,Y,f2,O,S,R]:=f;let#[U,g,d,tk,os]:=s;show I.step (g':=g) (d':=d) (t':=tk) (h':=U) (ch:=[D]) (λb G=>?_) (λb o _ _ _ e _=>e) (λb o _ _ _ e _=>#[o.slots,e]) (λb o G _ n=>?_) (λb o _ e=>#[o,e]) (λb xs q=>?_) (λb o u q=>?_) (λb ps q=>#[([].toArray),?_]) (λm N=>N) (λb u q=>?_) I.bare
 .have z:b=D:=(by simpa using G);subst z;show#[O,Y,S,R]
 .rw[ah (λz=>G (by simp[z]))];show n
 .rw[ah (ar q J)];show q
 .rw[ah (ar q J)];show q
 .rw[ah (ar q J),q];simp
 .by_cases G:b=D
  .subst G;rw[ae]at q;cases q;show#[L,its,n,r,e]
  .rw[ah G]at q;show(I.bE b u q).mK (λ_ _ _ z=>z) (λc z=>by rw[ah (ar z J)];show z) λc xs z=>by rw[ah (ar z J)];show z
end
noncomputable def Iz (X:Cx) (ifs:List KZ) (t:TT):Prop :=
 ∀(pins:List (Addr×Obj)) (s:ll) (σ:St) (H:Hp) (Q:Bool->Hp->Prop),Inv X pins σ H s->t σ H Q ->
  wpAny (model X.prog X.w) X.A (forIn ifs true λc r=>if r=true then do let ok <-isTrue c X.env (eval c X.env);pure (RC ok)else pure (RC r)) (TP X pins σ Q) X.xe s
noncomputable def oH:TT:=λ_ H Q=>Q true H
theorem fO {X:Cx}:Iz X [] oH:=λ_ _ _ H _ I h=>wpAny_tests_nil #[H,I,h]
noncomputable def hX (caps:List (Str×Nat)) (tt:TT) (te:TE) (σ:St) (J:It) (Q:List V->Hp->Prop) (W:Nat->Nat->List V->Hp->Prop):Prop :=
 ∀i m ys H,W i m ys H->(J.stop i H/\Q ys H)\/(J.go i H/\∃N:List V->Hp->Prop,(∀G H',N G H'->∃I,I<m/\W (i+1) I G H')/\∀x H',J.Bx i H x H'->tt (fW caps σ (some x)) H' λb H2 =>
  if b=true then te (fW caps σ (some x)) H2 (λy H3=>ys.length<sizeLine/\N (ys++[y]) H3)else N ys H2)
noncomputable def DC (caps:List (Str×Nat)) (wi:TI) (tt:TT) (te:TE):TE:=λσ H Q=>wi σ H λJ H1 =>
 ∃W:Nat->Nat->List V->Hp->Prop,(∃m,W 0 m [] H1)/\hX caps tt te σ J (λys H2=>∀p,H2 p=none->Q (.ref p) (upd H2 p (.lst ys))) W
section
variable {X:Cx}{scope:OW}{cl:List (Str×Addr)}{t:Str}{caps:List (Str×Nat)}{elt iter:KZ}{ifs:List KZ}{px pos:NO}{wi:TI}{tt:TT}{te:TE}
theorem nA {pins:List (Addr×Obj)}{σ:St}{H:Hp}{s:ll}{J:It}{fp:List Addr}{it:Addr}{tn:Nat->Heap->Prop}{W:Nat->Nat->List V->Hp->Prop}{QE:List V->Hp->Prop}{E:Value->ll->Prop}{RR:Value->Addr->Result->ll->Prop}{m0:Nat}
  (K:jM X scope cl t caps) (hc:X.calm=true)
  (ht:∀C s₀ H₀ ex,Iz (rW X (gf t caps) scope cl C s₀ H₀ ex) ifs tt) (he:∀C s₀ H₀ ex,PE (rW X (gf t caps) scope cl C s₀ H₀ ex) elt te)
  (I:Inv X pins σ H s) (T:Turn X.prog X.w X.K (.Name t px) J fp it tn) (st:tn 0 s.heap) (U:∀b∈fp,gn X pins H b) (w0:W 0 m0 [] H) (hW:hX caps tt te σ J QE W)
  (b4:∀D C ys H' s' m,H' D=none->Inv X pins σ (upd H' D (.lst ys)) s'->s'.heap.Ns C m->gn X pins (upd H' D (.lst ys)) C->QE ys H'->RR (.ref D) C (.ok .next) s') :
  wpAny (model X.prog X.w) X.A (newList []) (λbl ac=>wpAny (model X.prog X.w) X.A (newFunctionEnv scope X.env.globals cl [] X.env.qual none .none (some X.env)) (λbn b2 =>
   Oy (model X.prog X.w) X.A (.compStart (.ListComp elt [#[.Name t px,iter,ifs,(0)]] scope pos) 0 (.ref it) bl { bn with scope:=relabel scope X.env }) (RR bl bn.locals) b2) E ac) E s:=by
 show LM (wpAny_newFunctionEnv K.Ei (by intro y hy;simp at hy) (λas a0 am=>?_) K.kind);dsimp only at a0 am ⊢;generalize ba:s.heap.push { cls:=.type "list",dict:=none,data:=.seq ([]:List Value).toArray }=H2 at a0 am ⊢;have hC:H2.objs.size=s.heap.objs.size+1:=(by rw[<-ba,Heap.size_push]);have ap:s.heap.objs.size≠H2.objs.size:=(by rw[hC];show Lc (N7 _));have a6:s.heap.objs.size<=H2.objs.size:=(by rw[hC];show Oz _);have below:∀b,b<s.heap.objs.size->b≠H2.objs.size:=λb G=>(by rw[hC];show Lc (Og G));have bi:∀b o,s.heap.get? b=some o->as.get? b=some o:=λb o e=>am.extBut b o (below b (Heap.lt_size e)) (Heap.get?_push_of_some _ (ba▸Heap.get?_push_of_some _ e));have ca:as.get? s.heap.objs.size=some { cls:=.type "list",data:=.seq ([]:List Value).toArray }:=am.extBut _ _ ap (Heap.get?_push_of_some _ (ba▸Heap.get?_push_size _ rfl));have ho:∀b∈fp,b<s.heap.objs.size:=λb G=>let ⟨_,e,_⟩:=T.obj 0 _ st b G;Heap.lt_size e;have bq:s.heap.objs.size∉fp:=λhm=>Nr _ (ho _ hm);have bd:tn 0 as:=T.keep 0 _ _ st λb _ o e=>bi b o e;have bz:s.heap.objs.size∉yU X.stack:=λz=>by
  rcases BY.mp (I.qL _ z)with e|e
  .show absurd (e▸I.lt) (Nr _)
  .show I.Hz (qs _) e
 have cc:∀x c,cl.lookup x=some c->c≠s.heap.objs.size:=λx c e z=>by
  let#[v,q]:=I.cell x c (K.look e);show absurd (z▸q.lt) (Nr _)
 have aB:∀{pl:List (Addr×Obj)}{L:Hp},(∀b∈fp,L b=none)->(∀p∈pl,p.1∉fp)->∀b∈fp,gn (rW X (gf t caps) scope cl H2.objs.size s H fp) pl L b:=λ{pl L} hn S b G =>
  #[hn b G,below b (ho b G),(Kf I K U ho a6).xE b G,.inl G,λx c e=>(U b G).2.2.2.2.1 x c (K.look e),λp ci z=>by
   have ce:p∈pl:=ci;show S p ce (z▸G)]
 have bv:∀ac:ll,ac={ s with heap:=as,toks:=s.toks+([]:List (Str×Value)).length } ->
   Oy (model X.prog X.w) X.A (.compLoop (.ListComp elt [#[.Name t px,iter,ifs,(0)]] scope pos) 0 (.ref it) (.ref s.heap.objs.size) (Sl scope cl H2.objs.size X.env)) (RR (.ref s.heap.objs.size) H2.objs.size) ac:=by
  rintro ac rfl;show codeAny_loop rfl (λn s'=>∃i ys its O L v0,Inv (rW X (gf t caps) scope cl H2.objs.size s H fp) [] (fW caps σ v0) L s'/\tn i s'.heap/\(∀b∈fp,L b=none)/\L s.heap.objs.size=none /\
   s'.heap.get? s.heap.objs.size=some { cls:=.type "list",data:=.seq its.toArray O }/\Vals ys its/\ys.length<=sizeLine/\W i n ys L) (λn s' hI=>?_) m0
   #[(0),[],[],(0),H,none,Jv I K U ho a6 bi a0,bd,λb G=>(U b G).1,I.bE.fresh (qs _),ca,.nil,KU _,w0]
  let#[i,ys,its,O,L,v0,I3,be,bb,a7,e3,r3,z3,w3]:=hI;change wpAny _ X.A ((compTurn (.ListComp elt [#[.Name t px,iter,ifs,(0)]] scope pos) 0 (.ref it) (.ref s.heap.objs.size) (Sl scope cl H2.objs.size X.env)).onRaise (λx=>do noteFrame x (Sl scope cl H2.objs.size X.env);theTreesLotGoes x)) _ _ s';show wpAny_noted ?_;rw[compTurn_list];have bm:Inv (rW X (gf t caps) scope cl H2.objs.size s H fp) [(s.heap.objs.size, { cls:=.type "list",data:=.seq its.toArray O })] (fW caps σ v0) L s':=I3.lQ λp S=>by
   have ep:p=(s.heap.objs.size, { cls:=.type "list",data:=.seq its.toArray O }):=(by simpa using S);subst ep;show#[e3,a7,ap,bz,λv z=>by cases(show Sb its.toArray O=N6 v from z)]
  have pD:∀p∈[((s.heap.objs.size:Addr),({ cls:=.type "list",data:=.seq its.toArray O }:Obj))],p.1∉fp:=λp S=>by
   have ep:p=(s.heap.objs.size, { cls:=.type "list",data:=.seq its.toArray O }):=(by simpa using S);subst ep;show bq
  rcases hW i n ys L w3 with⟨bx,q⟩|⟨go,N,hN,step⟩
  .show iN (Oc (iN (bV (T.done (rW X (gf t caps) scope cl H2.objs.size s H fp) rfl rfl rfl hc i _ s' _ L _ bm (aB bb pD) be bx) λr s4 bY=>?_)));let#[hr,Y]:=bY;subst hr;show qi ?_;have I5:Inv X pins σ L s4:=I.GJ (ch:=fp) Y.os Y.base Y.bE Y.bare λb G=>#[(U b G).2.2.2.1,(U b G).2.1,(U b G).2.2.2.2.1,(U b G).2.2.2.2.2];have e4:=(Y.pin _ (K0 _ La)).1;have fD:gn X pins L s.heap.objs.size:=I.jd (qs _) a7;have I6:=I5.F4 fD e4 r3 z3;let#[m,hn,_]:=Y.loc;show b4 _ _ ys L s4 m a7 I6 hn (I.jd a6 ?_) q;rw[ah (qw ap)];show Y.free
  .show iN (Oc (iN (bV (T.item (rW X (gf t caps) scope cl H2.objs.size s H fp) rfl rfl rfl hc i _ s' _ L _ bm (aB bb pD) be go) λr s4 b6=>?_)));let#[u,hr,h4]:=b6;subst hr;show iN (bV h4 λ_ s5 b1=>?_);let#[x,H5,I5,r5,y5,a5,b3]:=b1;have cp:=(I5.pin _ (K0 _ La)).2.1;have b5:=I5.pinned (aB b3 pD) (T.obj _ _ a5);have DB:∀{α:Type}{tr:QT α}{Q:α->ll->Prop}{E':Value->ll->Prop}{R:ll},wpAny (model X.prog X.w) X.A tr Q (λ_ _=>False) R->wpAny (model X.prog X.w) X.A tr Q E' R:=λh=>NK h (λ_ _ z=>z) λ_ _ z=>z.elim;show iN (OZ (ir (X:=rW X (gf t caps) scope cl H2.objs.size s H fp) (i:=0) (x:=t) b5 K.nd rfl (.inl (Qq K.J9)) r5 (λs6 I6=>?_) (.inr (Qq K.J9))));have e0:(fW caps σ v0).set 0 (some x)=fW caps σ (some x):=rfl;rw[e0]at I6;show iN (DB (bV (ht _ _ _ _ _ s6 _ H5 _ I6 (step x H5 y5)) λok s7 bF=>?_));let#[H7,I7,q7]:=bF;have bc:∀{ab:St}{H':Hp}{R:ll},Inv (rW X (gf t caps) scope cl H2.objs.size s H fp) ([(s.heap.objs.size, { cls:=.type "list",data:=.seq its.toArray O })]++lY fp s5.heap) ab H' R ->
     R.heap.get? s.heap.objs.size=some { cls:=.type "list",data:=.seq its.toArray O }/\H' s.heap.objs.size=none/\tn (i+1) R.heap/\(∀b∈fp,H' b=none):=λ{ab H' R} Ix=>by
    have a:=Ix.pin _ (K0 _ (LR _ La));show#[a.1,a.2.1,T.keep _ _ _ a5 λb G o e=>(Ix.pin (b,o) (K0 _ (K0 _ (gG G e)))).1,λb G=>?_];let#[o,e,d]:=T.obj _ _ a5 b G;show(Ix.pin (b,o) (K0 _ (K0 _ (gG G e)))).2.1
   have bare:∀{pl:List (Addr×Obj)}{ab:St}{H':Hp}{R:ll},Inv (rW X (gf t caps) scope cl H2.objs.size s H fp) pl ab H' R->Inv (rW X (gf t caps) scope cl H2.objs.size s H fp) [] ab H' R:=λIx=>Ix.lQ λp S=>absurd S (by simp);cases ok with
   |false =>
    rw[Tx vl]at q7;let#[m',hm,w7]:=hN _ _ q7;let#[a1,a2,a3,a4]:=bc I7;show qi #[rfl,m',hm,i+1,ys,its,O,H7,some x,bare I7,a3,a4,a2,a1,r3,z3,w7]
   |true =>
    rw[Tz rfl]at q7;show iN (iN (DB (bV (he _ _ _ _ _ s7 _ H7 _ I7 q7) λy s8 b0=>?_)));let#[yv,H8,I8,r8,bI,n8]:=b0;let#[m',hm,w8]:=hN _ _ n8;let#[a1,a2,a3,a4]:=bc I8;have cm:=r3.length;show iN (NM F.slot_list_append #[_,a1,rfl] F.entry_list_append (F.args_list_append_2 _ _) (list_append s.heap.objs.size its.toArray O y (by rw[pq];omega)) #[a1,?_]);obtain⟨aT,q⟩:∃aT:Nat,(s8.heap.update s.heap.objs.size (Obj.mapSeq (·.push y))).get? s.heap.objs.size=some { cls:=.type "list",data:=.seq (its++[y]).toArray aT }:=by
     have q:=N9 a1 (·.push y);have ea:its.toArray.push y=(its++[y]).toArray:=(by simp);rw[ea]at q;show#[_,q]
    have I9:Inv (rW X (gf t caps) scope cl H2.objs.size s H fp) [] (fW caps σ (some x)) H8 { s8 with heap:=s8.heap.update s.heap.objs.size (Obj.mapSeq (·.push y)) }:=
     (bare I8).turned (t':=s8.toks) (λb o G e=>(Heap.get?_update_other _ _ (qw G)).trans e) a2 ap (.inr (qs _)) cc (λp S=>absurd (show p∈([]:List (Addr×Obj))from S) (by simp))
    show qi (qi #[rfl,m',hm,i+1,ys++[yv],its++[y],aT,H8,some x,I9,T.keep _ _ _ a3 λb G o e=>(Heap.get?_update_other _ _ (show s.heap.objs.size≠b from λz=>bq (by rw[z];show G))).trans e,a4,a2,q,r3.append (.cons r8 .nil),?_,w8])
    .rw[wh,LK];show PySem.W.kdl_size bI
 show codeAny_compStart_list (bv _ rfl) (T.self _ 0 _ _ _ bd (bv _ rfl))
theorem gx (K:jM X scope cl t caps) (S:X.calm=true) (hi:PI X (.Name t px) iter wi)
  (ht:∀C s₀ H₀ ex,Iz (rW X (gf t caps) scope cl C s₀ H₀ ex) ifs tt) (he:∀C s₀ H₀ ex,PE (rW X (gf t caps) scope cl C s₀ H₀ ex) elt te)
  (hs:∀x,Pa iter X.env x=pure x:=by intro _;rfl):PE X (.ListComp elt [#[.Name t px,iter,ifs,(0)]] scope pos) (DC caps wi tt te):=by
 intro pins s σ H Q I h;rw[eval_ListComp];show Pk (use:=none) rfl hs K.HL K.kind K.names (bV (hi pins s σ H _ I h) λv s1 h1=>bV h1 λap s2 h2=>?_);let#[it,fp,tn,J,H2,e,Y,T,ab,G,W,#[m0,w0],hW]:=h2;subst e;show nA (RR:=λac C=>compPost (model X.prog X.w) X.A X.xe none (EP X pins σ Q) ac C) K S ht he Y T ab G w0 hW ?_;intro D C ys H' s' m R I' O U q;show#[m,O,λh' am=>?_];let#[c0,c1,c2,L,c4,N]:=U;show#[.ref D,_,I'.turned (t':=s'.toks) (λb o hb e=>(am.2 b hb).trans e) c0 c1 L c4 N,rfl,q D R]
theorem CM {i:Nat}{y:Str}{G S:NO}(hN:X.N.Nodup) (aT:X.N[i]?=some y) (hy:Loc X.env.scope y) (K:jM X scope cl t caps) (hc:X.calm=true) (hi:PI X (.Name t px) iter wi)
  (ht:∀C s₀ H₀ ex,Iz (rW X (gf t caps) scope cl C s₀ H₀ ex) ifs tt) (he:∀C s₀ H₀ ex,PE (rW X (gf t caps) scope cl C s₀ H₀ ex) elt te)
  (am:Pn (.ListComp elt [#[.Name t px,iter,ifs,(0)]] scope pos) (some (.Name y G)) S.line X.env=pure true:=by rfl)
  (hs:∀x,Pa iter X.env x=pure x:=by intro _;rfl) (hf:X.fn y=true\/X.env.scope.names.lookup y=some .local:=by first|show .inl rfl|show .inr rfl|assumption) :
  PS X (.Assign [.Name y G] (.ListComp elt [#[.Name t px,iter,ifs,(0)]] scope pos) S) (AQ (DC caps wi tt te) (lX i)):=by
 intro pins s σ H D I h;rw[exec_Assign_Name_used _ _ _ _ am];show iN (Oc (iN ?_));change wpAny _ X.A (do let _ <-comprehension (.ListComp elt [#[.Name t px,iter,ifs,(0)]] scope pos) scope X.env _ (newList []) false (eval iter X.env) (some (QG (.Name y G) X.env))) _ _ s;show iN (bV (Pk (use:=some (QG (.Name y G) X.env)) (Q:=λ_ s'=>SP X pins D .next s') rfl hs K.HL K.kind K.names
  (bV (hi pins s σ H _ I h) λv s1 h1=>bV h1 λa1 s2 h2=>?_)) λ_ s' hq=>qi (qi hq))
 let#[it,fp,tn,J,H2,e,I2,T,as,f2,W,#[m0,w0],hW]:=h2;subst e;show nA (RR:=λaB C=>compPost (model X.prog X.w) X.A X.xe (some (QG (.Name y G) X.env)) (λ_ s'=>SP X pins D .next s') aB C) K hc ht he I2 T as f2 w0 hW ?_;intro L C ys H' s' m hD I' hn hC q;let#[c0,R,c2,U,O,Y]:=hC;change wpAny _ X.A (QG (.Name y G) X.env (.ref L)) _ _ s';show OZ (pO (v:=.ref L) I' hN aT hy rfl (λs3 I3 a0=>?_) hf);let#[a,ap,ha]:=a0;have ac:C≠a:=by
  rcases ha with z|z
  .rw[z];show R
  .show λw=>O y a z w.symm
 show#[m,hn.sameBut ap ac,λh' ab=>?_];show#[2,I3.turned (t':=s3.toks) (λb o hb e=>(ab.2 b hb).trans e) c0 R U O Y,q L hD]
end
theorem uN {caps:List (Str×Nat)}{tt:TT}{te:TE}{σ:St}{H:Hp}{lo:Int}{n:Nat}{I:List V->Hp->Prop}(Pv:Nat->List V->Hp->Prop) (L:Pv 0 [] H)
  (hs:∀i ys H,i<n->Pv i ys H->tt (fW caps σ (some (.int (lo+i)))) H λb H2=>if b=true then te (fW caps σ (some (.int (lo+i)))) H2 (λy H3=>ys.length<sizeLine/\Pv (i+1) (ys++[y]) H3)else Pv (i+1) ys H2)
  (hd:∀ys H,Pv n ys H->I ys H):∃W:Nat->Nat->List V->Hp->Prop,(∃m,W 0 m [] H)/\hX caps tt te σ (CV lo n) I W:=by
 show#[λi m ys H=>m=n-i/\i<=n/\Pv i ys H,#[n,by simp,KU _,L],?_];rintro i m ys H ⟨rfl,hi,p⟩;by_cases G:i<n
 .show .inr #[G,Pv (i+1),λN H' J=>#[n-(i+1),Ls n i G,rfl,G,J],λx H' y=>?_];let#[e,y]:=y;subst e y;show hs i ys _ G p
 .have e:i=n:=af;subst e;show .inl #[qs _,hd ys H p]
theorem yS {K:iF}{a:Addr}{xs:List V}{caps:List (Str×Nat)}{tt:TT}{te:TE}{σ:St}{H:Hp}{I:List V->Hp->Prop}(Pv:Nat->List V->Hp->Prop) (L:Pv 0 [] H) (N:∀i ys H,i<=xs.length->Pv i ys H->bA K H a xs)
  (hs:∀i x ys H,xs[i]?=some x->Pv i ys H->tt (fW caps σ (some x)) H λb H2=>if b=true then te (fW caps σ (some x)) H2 (λy H3=>ys.length<sizeLine/\Pv (i+1) (ys++[y]) H3)else Pv (i+1) ys H2)
  (hd:∀ys H,Pv xs.length ys H->I ys H):∃W:Nat->Nat->List V->Hp->Prop,(∃m,W 0 m [] H)/\hX caps tt te σ (Ej K a) I W:=by
 show#[λi m ys H=>m=xs.length-i/\i<=xs.length/\Pv i ys H,#[xs.length,by simp,KU _,L],?_];rintro i m ys H ⟨rfl,hi,p⟩;have q:=N i ys H hi p;by_cases G:i<xs.length
 .show .inr #[#[xs,xs[i],q,by simp[G]],Pv (i+1),λO H' J=>#[xs.length-(i+1),Ls (Mm xs) i G,rfl,G,J],λx H' y=>?_];let#[e,y]:=y;subst e;show hs i x ys _ (y xs q) p
 .have e:i=xs.length:=af;subst e;show .inl #[#[xs,q,qs _],hd ys H p]
theorem z9 {K:iF}{a:Addr}{xs:List V}{caps:List (Str×Nat)}{tt:TT}{te:TE}{σ:St}{H:Hp}{I:List V->Hp->Prop}(Pv:Nat->List V->Hp->Prop) (L:Pv 0 [] H) (N:∀i ys H,i<=xs.length->Pv i ys H->bL K H a xs)
  (hs:∀i x ys H,xs[i]?=some x->Pv i ys H->tt (fW caps σ (some x)) H λb H2=>if b=true then te (fW caps σ (some x)) H2 (λy H3=>ys.length<sizeLine/\Pv (i+1) (ys++[y]) H3)else Pv (i+1) ys H2)
  (hd:∀ys H,Pv xs.length ys H->I ys H):∃W:Nat->Nat->List V->Hp->Prop,(∃m,W 0 m [] H)/\hX caps tt te σ (Ik K a) I W:=by
 show#[λi m ys H=>m=xs.length-i/\i<=xs.length/\Pv i ys H,#[xs.length,by simp,KU _,L],?_];rintro i m ys H ⟨rfl,hi,p⟩;have q:=N i ys H hi p;by_cases G:i<xs.length
 .show .inr #[#[xs,xs[i],q,by simp[G]],Pv (i+1),λO H' J=>#[xs.length-(i+1),Ls (Mm xs) i G,rfl,G,J],λx H' y=>?_];let#[e,y]:=y;subst e;show hs i x ys _ (y xs q) p
 .have e:i=xs.length:=af;subst e;show .inl #[#[xs,q,qs _],hd ys H p]
theorem fL {caps:List (Str×Nat)}{te:TE}{σ:St}{H:Hp}{lo:Int}{n:Nat}{G:List V->Hp->Prop}(Pv:Nat->List V->Hp->Prop) (I:Pv 0 [] H)
  (hs:∀i ys H,i<n->Pv i ys H->te (fW caps σ (some (.int (lo+i)))) H (λy H3=>ys.length<sizeLine/\Pv (i+1) (ys++[y]) H3))
  (hd:∀ys H,Pv n ys H->G ys H):∃W:Nat->Nat->List V->Hp->Prop,(∃m,W 0 m [] H)/\hX caps oH te σ (CV lo n) G W :=
 uN Pv I (λi ys H hi p=>by
  change if true=true then _ else Pv (i+1) ys H
  rw[Tz rfl];show hs i ys H hi p) hd
theorem vj {K:iF}{a:Addr}{xs:List V}{caps:List (Str×Nat)}{te:TE}{σ:St}{H:Hp}{G:List V->Hp->Prop}(Pv:Nat->List V->Hp->Prop) (I:Pv 0 [] H) (J:∀i ys H,i<=xs.length->Pv i ys H->bA K H a xs)
  (hs:∀i x ys H,xs[i]?=some x->Pv i ys H->te (fW caps σ (some x)) H (λy H3=>ys.length<sizeLine/\Pv (i+1) (ys++[y]) H3))
  (hd:∀ys H,Pv xs.length ys H->G ys H):∃W:Nat->Nat->List V->Hp->Prop,(∃m,W 0 m [] H)/\hX caps oH te σ (Ej K a) G W :=
 yS Pv I J (λi x ys H hi p=>by
  change if true=true then _ else Pv (i+1) ys H
  rw[Tz rfl];show hs i x ys H hi p) hd
theorem xG {K:iF}{a:Addr}{xs:List V}{caps:List (Str×Nat)}{te:TE}{σ:St}{H:Hp}{G:List V->Hp->Prop}(Pv:Nat->List V->Hp->Prop) (I:Pv 0 [] H) (J:∀i ys H,i<=xs.length->Pv i ys H->bL K H a xs)
  (hs:∀i x ys H,xs[i]?=some x->Pv i ys H->te (fW caps σ (some x)) H (λy H3=>ys.length<sizeLine/\Pv (i+1) (ys++[y]) H3))
  (hd:∀ys H,Pv xs.length ys H->G ys H):∃W:Nat->Nat->List V->Hp->Prop,(∃m,W 0 m [] H)/\hX caps oH te σ (Ik K a) G W :=
 z9 Pv I J (λi x ys H hi p=>by
  change if true=true then _ else Pv (i+1) ys H
  rw[Tz rfl];show hs i x ys H hi p) hd
theorem dU:K8 "list" = some (.type "list"):=ao
theorem m5:K8 "tuple" = some (.type "tuple"):=ao
theorem iu:K8 "int" = some (.type "int"):=ao
theorem Cr:K8 "bool" = some (.type "bool"):=ao
theorem rj:K8 "dict" = some (.type "dict"):=ao
theorem zi:K8 "max" = some (.builtin "max"):=ao
theorem b8:K8 "isinstance" = some (.builtin "isinstance"):=ao
theorem kI:K8 "sorted" = some (.builtin "sorted"):=ao
section
variable {X:Cx}
inductive Bk (x:V) (vs:List V) (H:Hp) (Q:VK):Prop
 |mk (l:Addr) (ns:List Int) (k:Int) (_:x=.ref l) (_:vs=[.int k]) (_:H l=some (.lst (ns.map V.int))) (_:k∈ns) (_:Q (.int (ns.idxOf k:Nat)) H):Bk x vs H Q
theorem zy:E3 X "list.index" Bk:=by
 intro pins s σ H x vs v us Q I N R h;let#[l,ns,k,rfl,rfl,hH,U,q]:=h;cases N;let#[u,rfl,Y]:=R.one;let#[t,rfl]:=Y;let#[z,its,n,r,J,e]:=I.mZ hH;have hi:=intsAre_of r;have S:=hi.length;rw[mu]at J z;have hs:=vu;have G:ns.idxOf k<ns.length:=LQ.mpr U;show NM Pt #[_,e,rfl] PySem.F.entry_list_index (PySem.F.args_list_index_2 _ _)
  (SeqAt.list_indexAt l its.toArray n none ([].toArray) (.int k t) (Ti k) (ns.idxOf k) (by simpa[S]using G) af ?_ ?_) #[e,λy O=>(eq_isInt k t hi y (by simpa using O)).at _ _,#[.int (ns.idxOf k:Nat),H,I.tok _,#[0],q]]
 .change Ti k its[ns.idxOf k]=true;rw[Sm k hi _ (LH G J) G];simpa using ON G
 .intro j ab L;change Ti k its[j]=false;rw[Sm k hi j (by simpa using ab) (Q7 L G)];show ne_of_lt_idxOf L _
inductive zb (x:V) (vs:List V) (H:Hp) (Q:VK):Prop
 |mk (l:Addr) (ns:List Int) (k:Int) (_:x=.ref l) (_:vs=[.int k]) (_:H l=some (.lst (ns.map V.int))) (_:Q (.int (ns.count k:Nat)) H):zb x vs H Q
theorem AH:E3 X "list.count" zb:=by
 intro pins s σ H x vs v us Q I L J h;let#[l,ns,k,rfl,rfl,N,q]:=h;cases L;let#[u,rfl,G]:=J.one;let#[t,rfl]:=G;let#[z,its,n,r,O,e]:=I.mZ N;show count_list_ints (PySem.IsL.isList e) (intsAre_of r) #[.int (ns.count k:Nat),H,I.tok _,#[0],q]
end
noncomputable def gS:List V->List V->Bool
 | [],[]=>true
 |x::xs,y::ys=>kE x y&&gS xs ys
 |_,_=>false
theorem jI:∀{xs ys:List V},xs.length≠ys.length->gS xs ys=false
 | [],[],h=>absurd rfl h
 | [],_::_,_=>rfl
 |_::_,[],_=>rfl
 |x::xs,y::ys,h=>by
  have G:=jI (xs:=xs) (ys:=ys) λe=>h (by simp[e]);change(kE x y&&gS xs ys)=false;rw[G,Qm]
theorem gz:∀{xs ys:List V},xs.length=ys.length->(KR xs.length).all (λj=>kE (xs.getD j .non) (ys.getD j .non))=gS xs ys
 | [],[],_=>rfl
 |x::xs,y::ys,h=>by
  have G:=gz (xs:=xs) (ys:=ys) (by simpa using h);rw[KO,List.range_succ_eq_map,all_cons,SY];change(kE x y&&_)=(kE x y&&gS xs ys);rw[<-G];rfl
 | [],_::_,h=>by simp at h
 |_::_,[],h=>by simp at h
theorem Cs (a b:Int):kE (.int a) (.int b)=decide (a=b):=by
 change(a==b)=_;rw[Bool.beq_eq_decide_eq]
theorem pH:∀(xs ys:List Int),gS (xs.map V.int) (ys.map V.int)=decide (xs=ys)
 | [],[]=>rfl
 | [],_::_=>rfl
 |_::_,[]=>rfl
 |x::xs,y::ys=>by
  have G:=pH xs ys;change(kE (.int x) (.int y)&&gS (xs.map V.int) (ys.map V.int))=_;rw[G,Cs];by_cases h1:x=y
  .by_cases h2:xs=ys
   .simp[h1,h2]
   .simp[h1,h2]
  .simp[h1]
theorem eh (xs:List Int):(xs.map V.int).all dC=true:=by
 rw[SY];show Lf.mpr λ_ _=>rfl
section
variable {X:Cx}
inductive Ib (K:iF) (x:V) (y:V) (H:Hp) (Q:VK):Prop
 |mk (p:_) (q:_) (xs:_) (ys:_) (_:x=.ref p) (_:y=.ref q) (_:bA K H p xs) (_:bA K H q ys) (_:xs.all dC=true) (_:ys.all dC=true) (_:Q (.bl (gS xs ys)) H):Ib K x y H Q
theorem Ff (S:X.A.units<NQ):k6 X (LY .Eq) (Ib X.K):=by
 intro pins s σ H x y v u Q I rx ry h;let#[p,q,xs,ys,rfl,rfl,hx,hy,fx,fy,R]:=h;cases rx;cases ry;let#[its,r,pl,hz]:=I.list hx;let#[U,Y,O,am]:=I.list hy;have J:=r.length;have N:=Y.length;by_cases e:xs.length=ys.length
 .show SeqAt.eq_listAt (e:=λj=>kE (xs.getD j .non) (ys.getD j .non)) pl.isList O.isList (by rw[pq,pq];omega) S (λj h1 h2=>?_) #[.bl (gS xs ys),H,I,?_,R]
  .have G:j<xs.length:=(by rw[pq]at h1;show LH h1 (id (Nl J)));have L:j<ys.length:=LH h2 (id (Nl N));let#[a,ea,ra]:=r.get (i:=j) (x:=xs[j]) (by simp[G]);let#[b,eb,rb]:=Y.get (i:=j) (x:=ys[j]) (by simp[L]);let#[_,ab]:=kz.mp ea;let#[_,ac]:=kz.mp eb;have g1:xs.getD j .non=xs[j]:=(by simp[G]);have g2:ys.getD j .non=ys[j]:=(by simp[L]);change OG _ _ its.toArray[j] U.toArray[j] (kE (xs.getD j .non) (ys.getD j .non));rw[g1,g2];have f1:dC xs[j]=true:=Lf.mp fx _ (L4 G);have f2:dC ys[j]=true:=Lf.mp fy _ (L4 L);have z:=nY (A:=X.A.in1) (s:=s) ra rb f1 f2;have a1:its.toArray[j]=a:=(by simpa using ab);have a2:U.toArray[j]=b:=(by simpa using ac);rw[a1,a2];show z
  .change Value.bool _=Value.bool _;rw[pq, <-J,gz e]
 .show SeqAt.eq_list_lengthsAt pl.isList O.isList ?_ S #[.bl (gS xs ys),H,I,?_,R]
  .rw[pq,pq, <-J, <-N];show bne_iff_ne.mpr e
  .change Value.bool _=Value.bool _;rw[jI e]
theorem si:Hh X (Ck X.K):=by
 intro pins s σ H o i ov iv Q I U ri h;let#[p,xs,k,z,rfl,rfl,Y,he,q]:=h;cases U;let#[t,rfl]:=ri;let#[its,r,pl,hz]:=I.list Y;let#[j,h1,h2,h3,O,S]:=qG he;let#[w,J,ab]:=r.get h2;have R:=r.length;have hn:=nJ;have L:EP X pins σ Q w s:=#[z,H,I,ab,q];by_cases N:0<=k
 .have G:k.toNat=j:=by
   rw[Pb N S]at h1;show rn h1
  show wpAny_getItem_list pl.isList N af (by rw[G];simpa using J) L
 .have G:(k+(its.toArray.size:Int)).toNat=j:=by
   rw[seqIndex_neg af O]at h1;rw[pq, <-R];show rn h1
  show PQ pl.isList af (by rw[pq]<;>omega) af (by rw[G];simpa using J) L
theorem dX:dB X (.builtin "isinstance") (λxs H Q=>∃x n t b,xs=[x,.ty n]/\jN X.K H x t/\NL X.K t (.type n)=some b/\Q (.bl b) H):=by
 intro pins s σ H xs us Q I r h;let#[x,n,t,b,rfl,ty,e,q]:=h;let#[u,c,rfl,G,J]:=vals2 r;obtain rfl:c=Value.type n:=J;show xR I G ty e λtk=>#[.bl b,H,I.tok _,rfl,q]
theorem Ew (K:iF):NL K (.type "int") (.type "int")=some true:=rfl
theorem Eo (K:iF):NL K (.type "list") (.type "list")=some true:=rfl
theorem Fw (K:iF):NL K (.type "int") (.type "bool")=some false:=by with_unfolding_all rfl
end
theorem zf:K8 "range" = some (.type "range"):=ao
section
variable {X:Cx}
end
end L2
namespace PySem.W
open PySem PySem.Spec PySem.Calls PyProof.Rows Builtin Builtin.ObjectAttr Builtin.Getset_descriptor
section
variable {prog:rz}{w:C1}{A:KY}{E:Value->ll->Prop}{s:ll}{K:iF}{x C:Addr}
end
end PySem.W
namespace L2
open PySem PySem.Spec PyProof.Rows PySem.W
section
variable {X:Cx}{pins:List (Addr×Obj)}{σ:St}{H H':Hp}{s s':ll}
end
section
variable {X:Cx}{e:KZ}{te:TE}{tx:TEX}{t:TS}{ts us:TSX}{st:K4}{sts rest:List K4}{pos:NO}
end
section
variable {X:Cx}{k:Nat}{f C:Addr}{fd:qj}{ps:List Str}{sp:Sp}{dvs:List V}{ds:List Value}{x m:Str}{p pos apos:NO}{e o:KZ}{es:List KZ}{ta:TE}{t:TA}
end
section
variable {X:Cx}{pins:List (Addr×Obj)}{σ:St}{H:Hp}{s:ll}
end
section
variable {X:Cx}{v v2:KZ}{vs:List KZ}{te:TE}{t:TJ}{pos:NO}
end
section
variable {X:Cx}{C:Addr}{x:Str}{np cpos pos:NO}{e₀:KZ}{es:List KZ}{t:TA}
end
section
variable {P:rz}{w:C1}{K:iF}{mg:Str->Option Value}{base:Heap}
end
section
variable {X:Cx}{pins:List (Addr×Obj)}{σ:St}{H:Hp}{s:ll}
end
section
variable {X:Cx}{C:Addr}{i:Nat}{x n:Str}{np hpos pos:NO}{body suite:List K4}{b₀:K4}{tb:TSX}{ts:TS}
end
section
variable {κ:Type} [DecidableEq κ]
noncomputable def bZ (kvs:List (κ×V)) (k:κ):Option V:=(kvs.find? λG=>decide (G.1=k)).map (·.2)
noncomputable def putK (kvs:List (κ×V)) (k:κ) (v:V):List (κ×V):=
 if (kvs.any λG=>decide (G.1=k))=true then kvs.map (λG=>if G.1=k then(G.1,v)else G)else kvs++[(k,v)]
noncomputable def mP (kvs:List (κ×V)) (k:κ):List (κ×V):=kvs.filter λG=>decide (G.1≠k)
theorem cn {p:κ×V}{r:List (κ×V)}{k:κ}(e:p.1=k):bZ (p::r) k=some p.2:=by simp[bZ,Oa,e]
theorem bD {p:κ×V}{r:List (κ×V)}{k:κ}(e:¬ p.1=k):bZ (p::r) k=bZ r k:=by simp[bZ,Oa,e]
theorem fq (k:κ):∀kvs:List (κ×V),(kvs.any λG=>decide (G.1=k))=(bZ kvs k).isSome
 | []=>rfl
 |p::r=>by
  rw[Ql];by_cases e:p.1=k
  .simp only[cn e,decide_eq_true e,Bool.true_or,Option.isSome_some]
  .rw[bD e,decide_eq_false e,SA];show fq k r
theorem tM (k j:κ) (y:V):∀kvs:List (κ×V),bZ (kvs.map λG=>if G.1=k then(G.1,y)else G) j=(bZ kvs j).map λx=>if j=k then y else x
 | []=>rfl
 |p::r=>by
  have I:=tM k j y r;rw[Mc];by_cases h:p.1=k
  .rw[Tz h];by_cases e:p.1=j
   .rw[cn (p:=(p.1,y)) e,cn e,Sn,Tz (e.symm.trans h)]
   .rw[bD (p:=(p.1,y)) e,bD e,I]
  .rw[Tx h];by_cases e:p.1=j
   .rw[cn (p:=p) e,cn e,Sn,Tx (λz=>h (e.trans z))]
   .rw[bD (p:=p) e,bD e,I]
theorem oX (k j:κ) (y:V):∀kvs:List (κ×V),bZ kvs k=none->bZ (kvs++[(k,y)]) j=if j=k then some y else bZ kvs j
 | [],_=>by
  by_cases e:k=j
  .rw[Tz e.symm];show cn (p:=(k,y)) e
  .rw[Tx (λz=>e z.symm)];show bD (p:=(k,y)) e
 |p::r,G=>by
  rw[List.cons_append];have I:¬ p.1=k:=λz=>(by rw[cn z]at G;cases G);rw[bD I]at G;have J:=oX k j y r G;by_cases e:p.1=j
  .rw[cn e,cn e,Tx (λz=>I (e.trans z))]
  .rw[bD e,bD e,J]
theorem su (kvs:List (κ×V)) (k j:κ) (y:V):bZ (putK kvs k y) j=if j=k then some y else bZ kvs j:=by
 unfold putK;by_cases a:(kvs.any λI=>decide (I.1=k))=true
 .rw[Tz a,tM];rw[fq]at a;by_cases e:j=k
  .let#[x,G]:=MG.mp a;rw[Tz e,e,G,Sn,Tz rfl]
  .rw[Tx e];cases bZ kvs j with
   |none=>rfl
   |some x=>rw[Sn,Tx e]
 .rw[Tx a];show oX k j y kvs ?_;rw[fq]at a;cases q:bZ kvs k with
  |none=>rfl
  |some x=>rw[q]at a;show(a rfl).elim
theorem eF (kvs:List (κ×V)) (k:κ) (v:V):(putK kvs k v).length<=kvs.length+1:=by
 unfold putK;split
 .rw[mu];omega
 .rw[wh,KO,QM];omega
theorem jE {kvs:List (κ×V)}{k:κ}(v:V) (h:bZ kvs k=none):putK kvs k v=kvs++[(k,v)]:=by
 unfold putK;rw[fq,h];show Tx av
theorem fX.gw {o:Option V}{u:Option Value}(r:fX o u):o.isSome=u.isSome:=by
 cases o with
 |none=>cases u with
  |none=>rfl
  |some _=>show(show False from r).elim
 |some _=>cases u with
  |none=>show(show False from r).elim
  |some _=>rfl
theorem fX.getD {o:Option V}{u:Option Value}{d:V}{d':Value}(r:fX o u) (rd:RelV d d'):RelV (o.getD d) (u.getD d'):=by
 cases o with
 |none=>cases u with
  |none=>show rd
  |some _=>show(show False from r).elim
 |some _=>cases u with
  |none=>show(show False from r).elim
  |some _=>show r
theorem KV.val {kvs:List (κ×V)}{vs:List (κ×Value)}(r:KV kvs vs) (k:κ):fX (bZ kvs k) (PX vs k):=by
 unfold KV at r
 induction r with
 |nil=>show LW
 | @cons p q ps I h t J =>
  let#[h1,h2]:=h;by_cases e:p.1=k
  .have G:q.1=k:=h1.symm.trans e;have b:PX (q::I) k=some q.2:=(by simp[PX,Oa,G]);rw[cn e,b];show h2
  .have G:¬ q.1=k:=λz=>e (h1.trans z);have b:PX (q::I) k=PX I k:=(by simp[PX,Oa,G]);rw[bD e,b];show J
theorem KV.any {kvs:List (κ×V)}{vs:List (κ×Value)}(r:KV kvs vs) (k:κ):(kvs.any λG=>decide (G.1=k))=vs.any λG=>decide (G.1=k):=by
 unfold KV at r
 induction r with
 |nil=>rfl
 |cons h t I=>rw[Ql,Ql,I,h.1]
theorem KV.EA {kvs:List (κ×V)}{vs:List (κ×Value)}(r:KV kvs vs) (k:κ) {y:V}{u:Value}(J:RelV y u) :
  KV (kvs.map λG=>if G.1=k then(G.1,y)else G) (vs.map λG=>if G.1=k then(G.1,u)else G):=by
 unfold KV at r ⊢
 induction r with
 |nil=>show .nil
 | @cons p q ps L h t I =>
  rw[Mc,Mc];show .cons ?_ I;let#[h1,h2]:=h;by_cases e:p.1=k
  .rw[Tz e,Tz (h1.symm.trans e)];show#[h1,J]
  .rw[Tx e,Tx (λz=>e (h1.trans z))];show#[h1,h2]
theorem KV.put {kvs:List (κ×V)}{vs:List (κ×Value)}(r:KV kvs vs) (k:κ) {y:V}{u:Value}(G:RelV y u):KV (putK kvs k y) (stored vs k u):=by
 unfold putK stored;rw[r.any k];by_cases e:(vs.any λI=>decide (I.1=k))=true
 .rw[Tz e,Tz e];show r.EA k G
 .rw[Tx e,Tx e];show Paired.snoc r #[rfl,G]
theorem KV.drop {kvs:List (κ×V)}{vs:List (κ×Value)}(r:KV kvs vs) (k:κ):KV (mP kvs k) (without vs k):=by
 unfold KV at r ⊢;unfold mP without
 induction r with
 |nil=>show .nil
 | @cons p q ps J h t G =>
  let#[h1,h2]:=h;rw[Mo,Mo];by_cases e:p.1=k
  .have a:¬ decide (p.1≠k)=true:=(by simp[e]);have b:¬ decide (q.1≠k)=true:=(by simp[h1.symm.trans e]);rw[Tx a,Tx b];show G
  .have I:¬ q.1=k:=λz=>e (h1.trans z);have a:decide (p.1≠k)=true:=(by simp[e]);have b:decide (q.1≠k)=true:=(by simp[I]);rw[Tz a,Tz b];show .cons #[h1,h2] G
theorem KV.keys {kvs:List (κ×V)}{vs:List (κ×Value)}(r:KV kvs vs):kvs.map (·.1)=vs.map (·.1):=by
 unfold KV at r
 induction r with
 |nil=>rfl
 |cons h t G=>rw[Mc,Mc,G,h.1]
theorem KV.length {kvs:List (κ×V)}{vs:List (κ×Value)}(r:KV kvs vs):kvs.length=vs.length:=Paired.length r
theorem Be (kvs:List (κ×V)) (k:κ):(mP kvs k).length<=kvs.length:=Nj _ _
end
theorem iX {P:rz}{w:C1}{k:Key}{u:Value}(r:RelV (kV k) u):(bt P w).is k u=true:=by
 cases k with
 |inl i=>let#[t,e]:=(show ∃t,u=Value.int i t from r);subst e;show sG P w i t
 |inr x=>let#[t,e]:=(show ∃t,u=Value.str x t from r);subst e;show sk P w x t
theorem pU {P:rz}{w:C1}:∀{ks:List Key}{us:List Value},Vals (ks.map kV) us->ItemsAre (bt P w) ks us
 | [],_,r=>by rw[RH]at r;cases r;show .nil
 |k::ks,_,r=>by
  rw[Mc]at r;cases r with
  |cons h t=>show .cons (iX h) (pU t)
noncomputable abbrev KT (H:Hp):List (List Key×V)->List (List Key×Addr×Value)->Prop:=Paired λp q=>p.1=q.1/\H q.2.1=some (.tup (p.1.map kV))/\RelV p.2 q.2.2
theorem KT.val {H:Hp}{kvs:List (List Key×V)}{xs:List (List Key×Addr×Value)}(r:KT H kvs xs) (k:List Key):fX (bZ kvs k) ((Ry xs k).map (·.2)):=by
 induction r with
 |nil=>show LW
 | @cons p q ps I h t J =>
  let#[h1,_,h2]:=h;by_cases e:p.1=k
  .have G:q.1=k:=h1.symm.trans e;have b:Ry (q::I) k=some q.2:=(by simp[Ry,Oa,G]);rw[cn e,b];show h2
  .have G:¬ q.1=k:=λz=>e (h1.trans z);have b:Ry (q::I) k=Ry I k:=(by simp[Ry,Oa,G]);rw[bD e,b];show J
theorem KT.EA {H:Hp}{kvs:List (List Key×V)}{xs:List (List Key×Addr×Value)}(r:KT H kvs xs) (k:List Key) {y:V}{u:Value}(J:RelV y u) :
  KT H (kvs.map λG=>if G.1=k then(G.1,y)else G) (xs.map (putAt k u)):=by
 induction r with
 |nil=>show .nil
 | @cons p q ps N h t I =>
  rw[Mc,Mc];show .cons ?_ I;let#[h1,h2,L]:=h;unfold putAt;by_cases e:p.1=k
  .rw[Tz e,Tz (h1.symm.trans e)];show#[h1,h2,J]
  .rw[Tx e,Tx (λz=>e (h1.trans z))];show#[h1,h2,L]
theorem KT.put {H:Hp}{kvs:List (List Key×V)}{xs:List (List Key×Addr×Value)}(r:KT H kvs xs) (k:List Key) {b:Addr}{y:V}{u:Value}(J:H b=some (.tup (k.map kV))) (G:RelV y u) :
  KT H (putK kvs k y) (storedH xs k b u):=by
 have e:(kvs.any λI=>decide (I.1=k))=(Ry xs k).isSome:=by
  rw[fq,(r.val k).gw,OO]
 unfold putK storedH;rw[e];by_cases q:(Ry xs k).isSome=true
 .rw[Tz q,Tz q];show r.EA k G
 .rw[Tx q,Tx q];show Paired.snoc r #[rfl,J,G]
theorem KT.keeps {H H':Hp}{kvs:List (List Key×V)}{xs:List (List Key×Addr×Value)}(r:KT H kvs xs) (G:∀b ys,H b=some (.tup ys)->H' b=some (.tup ys)):KT H' kvs xs :=
 Paired.Ah r λ_ _ z=>#[z.1,G _ _ z.2.1,z.2.2]
section
variable {P:rz}{w:C1}{H:Hp}{h:Heap}{a:Addr}
theorem Dq {u:HO}(ok:iY P w H h) (e:Rd H a u):bT P w H h a u:=e.ok ok
theorem jK {kvs:List (Key×V)}(ok:iY P w H h) (e:Rd H a (.dK kvs)):kvs.length<=sizeLine/\(a==Mf)=false/\∃vs,KV kvs vs/\h.DictOf (bt P w) a vs :=
 show bT P w H h a (.dK kvs)from Dq ok e
theorem gL {kvs:List (Key×V)}(ok:iY P w H h) (e:H a=some (.dK kvs)):kvs.length<=sizeLine/\(a==Mf)=false/\∃vs,KV kvs vs/\h.DictOf (bt P w) a vs:=jK ok (.inl e)
theorem jq {ks:List Key}(ok:iY P w H h) (e:H a=some (.tup (ks.map kV))):(N5 (bt P w)).is h ks a:=by
 let#[_,its,r,o,h1,h2,n,G]:=(show bT P w H h a (.tup (ks.map kV))from ok a _ e);show#[o,its.toArray,n,h1,h2,G,by simpa using pU r]
theorem kS {kvs:List (List Key×V)}(ok:iY P w H h) (e:Rd H a (.dT kvs)):kvs.length<=sizeLine/\(a==Mf)=false /\
  ∃xs,KT H kvs xs/\h.DictOfH (N5 (bt P w)) a xs:=by
 let#[z,y,xs,r,o,es,ep,h1,h2,O,J,L]:=(show bT P w H h a (.dT kvs)from Dq ok e);show#[z,y,xs,r,o,es,ep,h1,h2,O,J,λx G=>?_,L];have all:∀{l:List (List Key×V)}{m:List (List Key×Addr×Value)},KT H l m->∀x∈m,(N5 (bt P w)).is h x.1 x.2.1:=by
  intro l m q
  induction q with
  |nil=>intro x G;show nomatch G
  | @cons p q ps R I t N =>
   intro x G;rcases BY.mp G with e|G
   .subst e;show jq ok (by rw[<-I.1];show I.2.1)
   .show N x G
 show all r x G
theorem Dx {kvs:List (List Key×V)}(ok:iY P w H h) (e:H a=some (.dT kvs)):kvs.length<=sizeLine/\(a==Mf)=false /\
  ∃xs,KT H kvs xs/\h.DictOfH (N5 (bt P w)) a xs:=kS ok (.inl e)
end
noncomputable def cZ (H:Hp) (a:Addr) (y:V) (r:Option V):Prop :=
 (∃kvs k,Rd H a (.dK kvs)/\y=kV k/\r=bZ kvs k)\/∃kvs k b,Rd H a (.dT kvs)/\y=.ref b/\H b=some (.tup (k.map kV))/\r=bZ kvs k
noncomputable def fC (H:Hp) (a:Addr) (y v:V) (H':Hp):Prop :=
 (∃kvs k,H a=some (.dK kvs)/\y=kV k/\kvs.length<sizeLine/\H'=upd H a (.dK (putK kvs k v))) \/
 ∃kvs k b,H a=some (.dT kvs)/\y=.ref b/\H b=some (.tup (k.map kV))/\kvs.length<sizeLine/\H'=upd H a (.dT (putK kvs k v))
theorem cZ.k {H:Hp}{a:Addr}{kvs:List (Key×V)}{k:Key}(e:H a=some (.dK kvs)):cZ H a (kV k) (bZ kvs k):=.inl #[kvs,k,.inl e,1]
theorem cZ.t {H:Hp}{a b:Addr}{kvs:List (List Key×V)}{k:List Key}(e:H a=some (.dT kvs)) (G:H b=some (.tup (k.map kV))):cZ H a (.ref b) (bZ kvs k):=.inr #[kvs,k,b,.inl e,rfl,G,rfl]
theorem fC.k {H:Hp}{a:Addr}{kvs:List (Key×V)}{k:Key}{v:V}(e:H a=some (.dK kvs)) (G:kvs.length<sizeLine):fC H a (kV k) v (upd H a (.dK (putK kvs k v))):=.inl #[kvs,k,e,rfl,G,rfl]
theorem fC.t {H:Hp}{a b:Addr}{kvs:List (List Key×V)}{k:List Key}{v:V}(e:H a=some (.dT kvs)) (I:H b=some (.tup (k.map kV))) (G:kvs.length<sizeLine) :
  fC H a (.ref b) v (upd H a (.dT (putK kvs k v))):=.inr #[kvs,k,b,e,rfl,I,G,rfl]
section
variable {X:Cx}{pins:List (Addr×Obj)}{σ:St}{H:Hp}{s:ll}{a:Addr}{y v:V}{u r:Value}{o:Option V}{A:KY}{E:Value->ll->Prop}
theorem Inv.big (I:Inv X pins σ H s):Mf<s.heap.objs.size:=by
 have h:Lm<s.heap.objs.size:=(I.mod.glob.keeps I.bk).lt;show Q7 av h
theorem yM {Q:Value->ll->Prop}(hu:A.units+1<NQ) (I:Inv X pins σ H s) (g:cZ H a y (some v)) (S:RelV y u) (h:∀G s',Inv X pins σ H s'->RelV v G->Q G s') :
  wpAny (model X.prog X.w) A (Od (.ref a) u) Q E s:=by
 rcases g with⟨kvs,k,e,J,l⟩|⟨kvs,k,b,e,J,eb,l⟩
 .subst J;let#[z,hd,vs,R,O]:=jK I.bE e;let#[G,L,N]:=fX.some_of (v:=v) (o:=PX vs k) (by rw[l];show R.val k);show wpAny_getItem_of (iX S) O.mapOf L (h G _ (I.tok _) N)
 .subst J;cases(show u=Value.ref b from S);let#[z,hd,xs,R,O]:=kS I.bE e;let#[G,L,N]:=fX.some_of (v:=v) (o:=(Ry xs k).map (·.2)) (by rw[l];show R.val k);let#[p,U,Y]:=pf.mp L;show wpAny_getItem_heap (Mw hu) (jq I.bE eb) O U ?_;rw[Y];show h G _ (I.tok _) N
theorem JK {Q:Value->ll->Prop}(O:A.units+1<NQ) (I:Inv X pins σ H s) (g:cZ H a y o) (N:RelV y u) (h:∀s',Inv X pins σ H s'->Q (.bool o.isSome) s') :
  wpAny (model X.prog X.w) A (LY .In u (.ref a)) Q E s:=by
 rcases g with⟨kvs,k,e,G,l⟩|⟨kvs,k,b,e,G,R,l⟩
 .subst G;let#[z,hd,vs,L,J]:=jK I.bE e;show wpAny_in_of (iX N) hd J.mapOf ?_;rw[<-(L.val k).gw, <-l];show h _ (I.tok _)
 .subst G;cases(show u=Value.ref b from N);let#[z,hd,xs,L,J]:=kS I.bE e;show wpAny_in_heap (Mw O) (jq I.bE R) hd J ?_;have q:=(L.val k).gw;rw[OO]at q;rw[<-q, <-l];show h _ (I.tok _)
theorem CF {Q:Value->ll->Prop}(O:A.units+1<NQ) (I:Inv X pins σ H s) (g:cZ H a y o) (N:RelV y u) (h:∀s',Inv X pins σ H s'->Q (.bool (!o.isSome)) s') :
  wpAny (model X.prog X.w) A (LY .NotIn u (.ref a)) Q E s:=by
 rcases g with⟨kvs,k,e,G,l⟩|⟨kvs,k,b,e,G,R,l⟩
 .subst G;let#[z,hd,vs,L,J]:=jK I.bE e;show wpAny_notIn_of (iX N) hd J.mapOf ?_;rw[<-(L.val k).gw, <-l];show h _ (I.tok _)
 .subst G;cases(show u=Value.ref b from N);let#[z,hd,xs,L,J]:=kS I.bE e;show wpAny_notIn_heap (Mw O) (jq I.bE R) hd J ?_;have q:=(L.val k).gw;rw[OO]at q;rw[<-q, <-l];show h _ (I.tok _)
theorem jW {h':Heap}{t':Nat}{ob:HO}(I:Inv X pins σ H s) (L:HD (H a)) (hs:Heap.SameBut a s.heap h') (J:∃q,h'.get? a=some q) (new:bT X.prog X.w (upd H a ob) h' a ob) :
  Inv X pins σ (upd H a ob) { s with heap:=h',toks:=t' }:=
 I.write (x:=a) (e:=a) L (.inl rfl) (λb q G z=>(hs.2 b G).trans z) J new
theorem mT {P:rz}{w:C1}{H':Hp}{h':Heap}{kvs:List (Key×V)}{vs:List (Key×Value)}(z:kvs.length<=sizeLine) (hd:(a==Mf)=false) (I:KV kvs vs) (G:h'.DictOf (bt P w) a vs) :
  bT P w H' h' a (.dK kvs):=#[z,hd,vs,I,G]
theorem pC {H':Hp}{Q:Unit->ll->Prop}(hu:A.units+1<NQ) (I:Inv X pins σ H s) (g:fC H a y v H') (ry:RelV y u) (Y:RelV v r) (h:∀s',Inv X pins σ H' s'->Q () s') :
  wpAny (model X.prog X.w) A (SQ (.ref a) u r) Q E s:=by
 rcases g with⟨kvs,k,e,N,l,R⟩|⟨kvs,k,b,e,N,eb,l,R⟩
 .subst N R;let#[z,hd,vs,G,U]:=gL I.bE e;have O:vs.length<=sizeLine:=(by rw[<-G.length];show z);have S:(putK kvs k v).length<=sizeLine:=(by have:=eF kvs k v;show G0 this l);show wpAny_setItem_pairs (hsz:=O) (iX ry) U λh' L hs=>h _ ?_;have he:∃q,h'.get? a=some q:=let ⟨q,_,_,J,_⟩:=L;#[q,J];show jW I (by rw[e];show LW) hs he (mT S hd (G.put k Y) L)
 .subst N R;cases(show u=Value.ref b from ry);let#[z,hd,xs,G,U]:=Dx I.bE e;have O:xs.length<=sizeLine:=(by rw[<-Paired.length G];show z);have S:(putK kvs k v).length<=sizeLine:=(by have:=eF kvs k v;show G0 this l);show wpAny_setItem_heap (hsz:=O) (Mw hu) (jq I.bE eb) U λh' L hs=>h _ ?_;let#[q,es,ep,J,h2,h3,h4,_,h5]:=L;show jW I (by rw[e];show LW) hs #[q,J] #[S,hd,_,(G.put k eb Y).keeps λc ys ec=>?_,q,es,ep,J,h2,h3,h4,h5];rw[ah (cK ec e (λz=>nomatch z))];show ec
end
section
variable {X:Cx}{pins:List (Addr×Obj)}{σ:St}{H:Hp}{s:ll}{a:Addr}{kvs:List (Key×V)}{k:Key}{u:Value}{A:KY}{E:Value->ll->Prop}
theorem FY {v:V}{J:List Value}{Q:Value->ll->Prop}(I:Inv X pins σ H s) (e:H a=some (.dK kvs)) (L:RelV (kV k) u) (l:bZ kvs k=some v) (O:J=[]\/∃x,J=[x])
  (h:∀G s',Inv X pins σ (upd H a (.dK (mP kvs k))) s'->RelV v G->Q G s'):wpAny (model X.prog X.w) A (call (.builtin "dict.pop") (.ref a::u::J)) Q E s:=by
 let#[z,hd,vs,N,R]:=gL I.bE e;let#[G,U,ab]:=fX.some_of (v:=v) (o:=PX vs k) (by rw[<-l];show N.val k);have Y:(keyPart u).isSome=true:=by
  cases k with
  |inl i=>let#[t,q]:=(show ∃t,u=Value.int i t from L);subst q;rfl
  |inr x=>let#[t,q]:=(show ∃t,u=Value.str x t from L);subst q;rfl
 have ha:argsOk "dict.pop" #[.ref a::u::J,[]]:=by
  rcases O with q|⟨x,q⟩
  .subst q;show PySem.F.args_dict_pop_2 _ _
  .subst q;show PySem.F.args_dict_pop_3 _ _ _
 show Na Qd R.typeIs PySem.F.entry_dict_pop ha (meets_dict_pop_there (bt X.prog X.w) a (iX L) J O Y)
  #[vs,G,R,by rw[<-N.length];show z,U,λh' S hs=>h G _ ?_ ab]
 have he:∃q,h'.get? a=some q:=let ⟨q,_,_,hq,_⟩:=S;#[q,hq];show jW I (by rw[e];show LW) hs he (mT (G0 (Be kvs k) z) hd (N.drop k) S)
theorem Hg {Q:Value->ll->Prop}(I:Inv X pins σ H s) (e:Rd H a (.dK kvs)) (h:∀t s',Inv X pins σ H s'->Q (.int kvs.length t) s'):wpAny (model X.prog X.w) A (call (.builtin "len") [.ref a]) Q E s:=by
 let#[z,hd,vs,G,J]:=jK I.bE e;show call_len_dict hd J (by rw[<-G.length];rw[vu]at z;omega) ?_;rw[<-G.length];show h _ _ (I.tok _)
end
noncomputable def Hf (i:KZ):Prop:=∀ov G,Qk i false ov G=operate [ov,G] (Od ov G)
theorem B9 {prog:rz}{w:C1}{A:KY}{E:Value->ll->Prop}{s:ll}{env:SO}{value G:KZ}{pos:NO}{T id:String}{Q:Value->ll->Prop}
  (S:typeLookup (.type T) "__getitem__" = pure (some (.builtin id))) (hs:Hf G)
  (h:wpAny (model prog w) A (eval value env) (λo O=>wpAny (model prog w) A (eval G env) (λi I=>I.TypeIs o T/\wpAny (model prog w) A (Od o i) Q E I) E O) E s) :
  wpAny (model prog w) A (eval (.Subscript value G pos) env) Q E s:=by
 show RZ (NK h (λo O Y=>NK Y (λi I L=>?_) λ_ _ x=>x) λ_ _ x=>x);let#[R,L]:=L;unfold QA;show iN ?_;rw[getitemInPython_of_ne R.not_modules];show iN (wpAny_specialOf R S ?_);have J:wpAny (model prog w) A (Qk G false o i) (λr N=>wpAny (model prog w) A (letTemporaryGo value o r>>=λ_=>pure r) Q E N) E I:=by
  rw[hs o i];show wpAny_operating (NK L (λr N U=>iN (wpAny_letTemporaryGo (qi U))) λ_ _ x=>x)
 first
  |show qi (iN J)
  |show iN (qi (iN J))
  |show iN J
theorem t5 {X:Cx}{pins:List (Addr×Obj)}{σ:St}{H:Hp}{s:ll}{a:Addr}{y:V}{o:Option V}(I:Inv X pins σ H s) (g:cZ H a y o):s.TypeIs (.ref a) "dict" := by
 rcases g with⟨kvs,k,e,_,_⟩|⟨kvs,k,b,e,_,_,_⟩
 .let#[_,_,vs,_,G]:=jK I.bE e;show G.typeIs
 .let#[_,_,xs,_,G]:=kS I.bE e;show G.typeIs
inductive Bn (td ty:TE) (Q:VK) (x:V) (y:V) (H2:Hp):Prop
 |mk (a:_) (v:_) (_:x=.ref a) (_:cZ H2 a y (some v)) (_:Q v H2):Bn td ty Q x y H2
noncomputable def Hw (td ty:TE):TE:=λσ H Q=>td σ H λx H1=>ty σ H1 λy H2=>Bn td ty Q x y H2
inductive DA (ty td:TE) (Q:VK) (y:V) (x:V) (H2:Hp):Prop
 |mk (a:_) (o:_) (_:x=.ref a) (_:cZ H2 a y o) (_:Q (.bl o.isSome) H2):DA ty td Q y x H2
noncomputable def IL (ty td:TE):TE:=λσ H Q=>ty σ H λy H1=>td σ H1 λx H2=>DA ty td Q y x H2
inductive sN (ty td:TE) (Q:VK) (y:V) (x:V) (H2:Hp):Prop
 |mk (a:_) (o:_) (_:x=.ref a) (_:cZ H2 a y o) (_:Q (.bl (!o.isSome)) H2):sN ty td Q y x H2
noncomputable def Di (ty td:TE):TE:=λσ H Q=>ty σ H λy H1=>td σ H1 λx H2=>sN ty td Q y x H2
noncomputable def Hv (td ty tv:TE):TS:=λD σ H=>tv σ H λv H1=>td σ H1 λx H2=>ty σ H2 λy H3=>BD λa H4=>r9 (x=.ref a) (fC H3 a y v H4) (D.nx σ H4)
section
variable {X:Cx}{o i e value:KZ}{pos pos' tpos:NO}{td ty tv:TE}
theorem bh (S:X.A.units+1<NQ) (J:PE X o td) (hi:PE X i ty) (hs:Hf i):PE X (.Subscript o i pos) (Hw td ty):=by
 intro pins s σ H Q I h;show B9 PySem.F.slot_dict_getitem.lookup hs (bV (J pins s σ H _ I h) λu s1 ac=>?_);let#[x,H1,I1,Y,R]:=ac;show bV (hi pins s1 σ H1 _ I1 R) λiv s2 O=>?_;let#[y,H2,G,L,a,v,ex,g,N]:=O;subst ex;obtain rfl:u=Value.ref a:=Y;show#[t5 G g,yM S G g L λw' s3 U ab=>#[v,H2,U,ab,N]]
theorem nX (Y:X.A.units+1<NQ) (hi:PE X i ty) (O:PE X o td):PC X .In i o (IL ty td):=by
 intro pins s σ H Q I h;show bV (hi pins s σ H _ I h) λiv s1 G=>?_;let#[y,H1,I1,R,U]:=G;show bV (O pins s1 σ H1 _ I1 U) λu s2 J=>?_;let#[x,H2,N,L,a,ov,ex,g,S]:=J;subst ex;obtain rfl:u=Value.ref a:=L;show JK Y N g R λs3 I3=>#[.bl ov.isSome,H2,I3,rfl,S]
theorem gj (Y:X.A.units+1<NQ) (hi:PE X i ty) (O:PE X o td):PC X .NotIn i o (Di ty td):=by
 intro pins s σ H Q I h;show bV (hi pins s σ H _ I h) λiv s1 J=>?_;let#[y,H1,I1,R,U]:=J;show bV (O pins s1 σ H1 _ I1 U) λu s2 L=>?_;let#[x,H2,N,G,a,ov,ex,g,S]:=L;subst ex;obtain rfl:u=Value.ref a:=G;show CF Y N g R λs3 I3=>#[.bl (!ov.isSome),H2,I3,rfl,S]
theorem jQ (U:X.A.units+1<NQ) (L:PE X o td) (hi:PE X i ty) (hv:PE X value tv) (hs:Pn value (some (.Subscript o i pos')) pos.line X.env=pure false) :
  PS X (.Assign [.Subscript o i pos'] value pos) (Hv td ty tv):=by
 intro pins s σ H D I h;show wpAny_Assign_Subscript (bV (hv pins s σ H _ I h) λr s1 ac=>?_) hs;let#[v,H1,I1,J,S]:=ac;show bV (L pins s1 σ H1 _ I1 S) λu s2 ab=>?_;let#[x,H2,N,rx,O]:=ab;show bV (hi pins s2 σ H2 _ N O) λiv s3 G=>?_;let#[y,H3,I3,R,a,H4,ex,g,Y]:=G;subst ex;obtain rfl:u=Value.ref a:=rx;show pC U I3 g R J λs4 I4=>#[σ,H4,I4,Y]
end
theorem tX {P:rz}{w:C1}{H:Hp}(h:Heap) (G:Mf<h.objs.size):bT P w H (h.push { cls:=.type "dict",data:=.dict ([].toArray) }) h.objs.size (.dK []):=
 #[KU _,beq_eq_false_iff_ne.mpr (qw (Lc G)),[],.nil,Heap.DictOf.new h]
theorem zR {P:rz}{w:C1}{H:Hp}(h:Heap) (G:Mf<h.objs.size):bT P w H (h.push { cls:=.type "dict",data:=.dict ([].toArray) }) h.objs.size (.dT []):=
 #[KU _,beq_eq_false_iff_ne.mpr (qw (Lc G)),[],.nil,_, ([].toArray),(0),Heap.get?_push_size _ rfl,#[1,rfl],1,Mt]
noncomputable def Ed:TE:=λ_ H Q=>∀p,H p=none->Q (.ref p) (upd H p (.dK []))
noncomputable def FK:TE:=λ_ H Q=>∀p,H p=none->Q (.ref p) (upd H p (.dT []))
section
variable {X:Cx}{pos:NO}
theorem dn:PE X (.Dict [] [] pos) Ed:=λpins s σ H Q I h =>
 Rn #[.ref s.heap.objs.size,_,I.laid (a:=s.heap.objs.size) (o:=.dK []) (t':=s.toks) (λ_ _ q=>Heap.get?_push_of_some _ q) (qs _) (tX s.heap I.big),rfl,h _ (I.bE.fresh (qs _))]
theorem Ax:PE X (.Dict [] [] pos) FK:=λpins s σ H Q I h =>
 Rn #[.ref s.heap.objs.size,_,I.laid (a:=s.heap.objs.size) (o:=.dT []) (t':=s.toks) (λ_ _ q=>Heap.get?_push_of_some _ q) (qs _) (zR s.heap I.big),rfl,h _ (I.bE.fresh (qs _))]
end
noncomputable def u7:List (TE×TE)->St->Hp->(List (V×V)->Hp->Prop)->Prop
 | [],_,H,Q=>Q [] H
 |(tk,tv)::r,σ,H,Q=>tk σ H λx H1=>tv σ H1 λy H2=>u7 r σ H2 λps H3=>Q ((x,y)::ps) H3
noncomputable abbrev VV:List (V×V)->List (Value×Value)->Prop:=Paired λp q=>RelV p.1 q.1/\RelV p.2 q.2
noncomputable def Ij (X:Cx) (pos:NO) (keys:List (Option KZ)) (values:List KZ) (G:List (TE×TE)):Prop :=
 ∀(pins:List (Addr×Obj)) (s:ll) (σ:St) (H:Hp) (Q:List (V×V)->Hp->Prop),Inv X pins σ H s->u7 G σ H Q ->
  wpAny (model X.prog X.w) X.A (evalPairs (pairTrees keys values X.env pos)) (λvs s'=>∃ps H',Inv X pins σ H' s'/\VV ps vs/\Q ps H') X.xe s
theorem BQ {X:Cx}{pos:NO}:Ij X pos [] [] []:=λpins s σ H Q I h=>pairTrees_nil_walk #[[],H,I,.nil,h]
theorem jG {X:Cx}{pos:NO}{k v:KZ}{ks:List (Option KZ)}{vs:List KZ}{tk tv:TE}{G:List (TE×TE)}(S:PE X k tk) (hv:PE X v tv) (hr:Ij X pos ks vs G) :
  Ij X pos (some k::ks) (v::vs) ((tk,tv)::G):=λpins s σ H Q I h =>
 pairTrees_cons_walk (bV (S pins s σ H _ I h) λu s1 ⟨x,H1,I1,rx,O⟩=>bV (hv pins s1 σ H1 _ I1 O) λw2 s2 ⟨y,H2,J,L,N⟩ =>
  bV (hr pins s2 σ H2 _ J N) λws s3 U=>by let#[ps,H3,Y,ab,R]:=U;show#[(x,y)::ps,H3,Y,.cons #[rx,L] ab,R])
noncomputable def j5 (kvs J:List (Key×V)):List (Key×V):=J.foldl (λI G=>putK I G.1 G.2) kvs
theorem KV.merge:∀{I:List (Key×V)}{G:List (Key×Value)}{kvs:List (Key×V)}{vs:List (Key×Value)},KV I G->KV kvs vs->KV (j5 kvs I) (merged vs G):=by
 intro I G kvs vs r;unfold KV at r
 induction r generalizing kvs vs with
 |nil=>intro q;show q
 | @cons p q ps N h t L =>
  intro J;have e:KV (putK kvs p.1 p.2) (stored vs q.1 q.2):=by
   have:=J.put p.1 h.2;rw[<-h.1];show this
  show L e
theorem iZ:∀(G kvs:List (Key×V)),(j5 kvs G).length<=kvs.length+G.length
 | [],kvs=>by change kvs.length<=kvs.length+0;omega
 |p::r,kvs=>by
  have h1:=iZ r (putK kvs p.1 p.2);have h2:=eF kvs p.1 p.2;change(j5 (putK kvs p.1 p.2) r).length<=_;rw[KO];omega
theorem mD {P:rz}{w:C1}:∀{kvs:List (Key×V)}{ws:List (Value×Value)},VV (kvs.map λI=>(kV I.1,I.2)) ws->∃G,Carries (bt P w) ws G/\KV kvs G
 | [],_,r=>by rw[RH]at r;cases r;show#[[],LW,.nil]
 |p::kvs,_,r=>by
  rw[Mc]at r;cases r with
  | @cons a b L bs h t =>
   let#[G,c,q]:=mD (P:=P) (w:=w) t;let#[N,J]:=b;show#[(p.1,J)::G,#[iX h.1,rfl,c],.cons #[rfl,h.2] q]
noncomputable def Gq (I:List (TE×TE)):TE:=λσ H Q=>∀p,H p=none->u7 I σ (upd H p (.dK [])) λps H2=>H2 p=some (.dK [])/\∃kvs:List (Key×V),ps=kvs.map (λG=>(kV G.1,G.2))/\kvs.length<=15/\Q (.ref p) (upd H2 p (.dK (j5 [] kvs)))
theorem CW {X:Cx}{pos:NO}{keys:List (Option KZ)}{values:List KZ}{J:List (TE×TE)}(h:Ij X pos keys values J) (ac:keys.all (·.isSome)=true) (Y:keys.length=values.length) (h0:keys≠[])
  (am:keys.length<=15):PE X (.Dict keys values pos) (Gq J):=by
 intro pins s σ H Q I q;have R:=I.bE.fresh (qs s.heap.objs.size);have I1:=I.laid (a:=s.heap.objs.size) (o:=.dK []) (h':=s.heap.push { cls:=.type "dict",data:=.dict ([].toArray) }) (t':=s.toks) (λ_ _ q=>Heap.get?_push_of_some _ q) (qs _) (tX s.heap I.big);show wpAny_Dict_walk (knd:=bt X.prog X.w) ac Y h0 am (bV (h pins _ σ _ _ I1 (q _ R)) λws s2 ab=>?_);let#[ps,H2,G,ap,e,kvs,ep,lk,U]:=ab;subst ep;let#[rs,c,rk]:=mD (P:=X.prog) (w:=X.w) ap;let#[z,hd,as,O,dd]:=gL G.bE e;cases O;show#[rs,c,dd,λh' L hs=>#[.ref s.heap.objs.size,_,?_,rfl,U]];have N:(j5 [] kvs).length<=sizeLine:=by
  have h1:=iZ kvs [];rw[QM]at h1;rw[vu];omega
 have he:∃q,h'.get? s.heap.objs.size=some q:=let ⟨q,_,_,S,_⟩:=L;#[q,S];show jW G (by rw[e];show LW) hs he (mT N hd (rk.merge .nil) L)
structure M1 (X:Cx) (o:KZ) (m:Str) (apos:NO) (e:KZ) (cpos:NO):Prop where
 base:Nh o m X.env (eval o X.env)=eval o X.env
 GB:((backTo cpos (starEach [e] X.env)).all (λx => !x.1)&&(Pp cpos (NR [] X.env)).all (λx=>x.1.isSome)
  && decide (([e]:List KZ).length+([]:List Qu).length+(if ([]:List Qu).isEmpty then 0 else 1)<30))=true
 line:(apos.endLine==cpos.line)=true
 trees:backTo cpos (starEach [e] X.env)=[(false,eval e X.env)]
structure M2 (X:Cx) (o:KZ) (m:Str) (apos:NO) (e f:KZ) (cpos:NO):Prop where
 base:Nh o m X.env (eval o X.env)=eval o X.env
 GB:((backTo cpos (starEach [e,f] X.env)).all (λx => !x.1)&&(Pp cpos (NR [] X.env)).all (λx=>x.1.isSome)
  && decide (([e,f]:List KZ).length+([]:List Qu).length+(if ([]:List Qu).isEmpty then 0 else 1)<30))=true
 line:(apos.endLine==cpos.line)=true
 trees:backTo cpos (starEach [e,f] X.env)=[(false,eval e X.env),(false,eval f X.env)]
noncomputable def Gb (H:Hp) (a:Addr):Prop:=(∃kvs,Rd H a (.dK kvs))\/∃kvs,Rd H a (.dT kvs)
theorem kD {X:Cx}{pins:List (Addr×Obj)}{σ:St}{H:Hp}{s:ll}{a:Addr}(I:Inv X pins σ H s) (d:Gb H a) :
  s.TypeIs (.ref a) "dict" /\ (∀b,Value.ref a=.ref b->∃ob,s.heap.get? b=some ob/\ob.dict=none)/\(a==Mf)=false:=by
 rcases d with⟨kvs,e⟩|⟨kvs,e⟩
 .let#[_,hd,vs,_,G]:=jK I.bE e;show#[G.typeIs,λb q=>?_,hd];cases q;let#[ob,_,_,h1,h2,_]:=G;show#[ob,h1,h2.2.1]
 .let#[_,hd,xs,_,G]:=kS I.bE e;show#[G.typeIs,λb q=>?_,hd];cases q;let#[ob,_,_,h1,h2,_]:=G;show#[ob,h1,h2.2.1]
section
variable {X:Cx}{pins:List (Addr×Obj)}{σ:St}{H:Hp}{s:ll}{a:Addr}{y d:V}{u r:Value}{o:Option V}{A:KY}{E:Value->ll->Prop}
theorem ER {Q:Value->ll->Prop}(R:A.units+1<NQ) (I:Inv X pins σ H s) (g:cZ H a y o) (O:RelV y u) (h:∀N s',Inv X pins σ H s'->RelV (o.getD .non) N->Q N s') :
  wpAny (model X.prog X.w) A (call (.builtin "dict.get") [.ref a,u]) Q E s:=by
 rcases g with⟨kvs,k,e,J,l⟩|⟨kvs,k,b,e,J,S,l⟩
 .subst J;let#[z,hd,vs,L,G]:=jK I.bE e;show Na NC G.typeIs OP (Pu _ _) (meets_dict_get (bt X.prog X.w) a (iX O) hd) #[_,G.mapOf,h _ _ (I.tok _) ?_];rw[l];show(L.val k).getD rfl
 .subst J;cases(show u=Value.ref b from O);let#[z,hd,xs,L,G]:=kS I.bE e;show Na NC G.typeIs OP (Pu _ _) (meetsH_dict_get (N5 (bt X.prog X.w)) a b hd) #[Mw R,k,xs,jq I.bE S,G,h _ _ (I.tok _) ?_];rw[l];show(L.val k).getD rfl
theorem EE {Q:Value->ll->Prop}(R:A.units+1<NQ) (I:Inv X pins σ H s) (g:cZ H a y o) (O:RelV y u) (rd:RelV d r) (h:∀N s',Inv X pins σ H s'->RelV (o.getD d) N->Q N s') :
  wpAny (model X.prog X.w) A (call (.builtin "dict.get") [.ref a,u,r]) Q E s:=by
 rcases g with⟨kvs,k,e,J,l⟩|⟨kvs,k,b,e,J,S,l⟩
 .subst J;let#[z,hd,vs,L,G]:=jK I.bE e;show Na NC G.typeIs OP (Pw _ _ _) (meets_dict_get_default (bt X.prog X.w) a (iX O) hd r) #[_,G.mapOf,h _ _ (I.tok _) ?_];rw[l];show(L.val k).getD rd
 .subst J;cases(show u=Value.ref b from O);let#[z,hd,xs,L,G]:=kS I.bE e;show Na NC G.typeIs OP (Pw _ _ _) (meetsH_dict_get_default (N5 (bt X.prog X.w)) a b hd r) #[Mw R,k,xs,jq I.bE S,G,h _ _ (I.tok _) ?_];rw[l];show(L.val k).getD rd
end
inductive wU (td ty:TE) (σ:St) (Q:VK) (x:V) (H1:Hp):Prop
 |mk (a:_) (_:x=.ref a) (_:Gb H1 a) (_:ty σ H1 λy H2=>∃o,cZ H2 a y o/\Q (o.getD .non) H2):wU td ty σ Q x H1
noncomputable def EB (td ty:TE):TE:=λσ H Q=>td σ H λx H1=>wU td ty σ Q x H1
inductive xi (td ty tx:TE) (σ:St) (Q:VK) (x:V) (H1:Hp):Prop
 |mk (a:_) (_:x=.ref a) (_:Gb H1 a) (_:ty σ H1 λy H2=>tx σ H2 λz H3=>∃o,cZ H3 a y o/\Q (o.getD z) H3):xi td ty tx σ Q x H1
noncomputable def Fi (td ty tx:TE):TE:=λσ H Q=>td σ H λx H1=>xi td ty tx σ Q x H1
inductive xy (td ty:TE) (σ:St) (Q:VK) (x:V) (H1:Hp):Prop
 |mk (a:_) (_:x=.ref a) (_:Gb H1 a) (_:ty σ H1 λy H2=>∃kvs k v,H2 a=some (.dK kvs)/\y=kV k/\bZ kvs k=some v/\Q v (upd H2 a (.dK (mP kvs k)))):xy td ty σ Q x H1
noncomputable def D0 (td ty:TE):TE:=λσ H Q=>td σ H λx H1=>xy td ty σ Q x H1
section
variable {X:Cx}{o e f:KZ}{apos cpos:NO}{td ty tx:TE}
theorem zk (Y:X.A.units+1<NQ) (L:PE X o td) (he:PE X e ty) (m:M1 X o "get" apos e cpos):PE X (.Call (.Attribute o "get" apos) [e] [] cpos) (EB td ty):=by
 intro pins s σ H Q I h;show N0 m.base m.GB m.line Nf NC Qe (bV (L pins s σ H _ I h) λu s1 ab=>?_);let#[x,H1,G,rx,a,ex,d,U]:=ab;subst ex;obtain rfl:u=Value.ref a:=rx;let#[t1,J,_]:=kD G d;show#[t1,J,?_];rw[m.trees];show Calls.callWith_builtin rfl (Calls.evalArgs_plain (Calls.spliced_cons (bV (he pins s1 σ H1 _ G U) λiv s2 R=>?_)));let#[y,H2,N,O,ov,g,S]:=R;show Calls.spliced_nil ?_;show ER Y N g O λw' s3 I3 ac=>#[_,H2,I3,ac,S]
theorem lT (Y:X.A.units+1<NQ) (O:PE X o td) (he:PE X e ty) (hf:PE X f tx) (m:M2 X o "get" apos e f cpos):PE X (.Call (.Attribute o "get" apos) [e,f] [] cpos) (Fi td ty tx):=by
 intro pins s σ H Q I h;show N0 m.base m.GB m.line Nf NC Qe (bV (O pins s σ H _ I h) λu s1 ab=>?_);let#[x,H1,G,rx,a,ex,d,U]:=ab;subst ex;obtain rfl:u=Value.ref a:=rx;let#[t1,J,_]:=kD G d;show#[t1,J,?_];rw[m.trees];show Calls.callWith_builtin rfl (Calls.evalArgs_plain (Calls.spliced_cons (bV (he pins s1 σ H1 _ G U) λiv s2 ⟨y,H2,L,S,N⟩ =>
  Calls.spliced_cons (bV (hf pins s2 σ H2 _ L N) λfv s3 ⟨z,H3,I3,R,ov,g,q3⟩=>Calls.spliced_nil ?_))))
 show EE Y I3 g S R λw' s4 I4 ac=>#[_,H3,I4,ac,q3]
theorem eG (N:PE X o td) (Y:PE X e ty) (m:M1 X o "pop" apos e cpos):PE X (.Call (.Attribute o "pop" apos) [e] [] cpos) (D0 td ty):=by
 intro pins s σ H Q I h;show N0 m.base m.GB m.line Nf Qd PySem.F.type_dict_pop (bV (N pins s σ H _ I h) λu s1 am=>?_);let#[x,H1,G,rx,a,ex,d,U]:=am;subst ex;obtain rfl:u=Value.ref a:=rx;let#[t1,L,_]:=kD G d;show#[t1,L,?_];rw[m.trees];show Calls.callWith_builtin rfl (Calls.evalArgs_plain (Calls.spliced_cons (bV (Y pins s1 σ H1 _ G U) λiv s2 ab=>?_)));let#[y,H2,R,O,kvs,k,v,ea,J,l,S]:=ab;show Calls.spliced_nil ?_;subst J;show FY R ea O l (.inl rfl) λw' s3 I3 ac=>#[v,_,I3,ac,S]
end
section
variable {X:Cx}{pins:List (Addr×Obj)}{σ:St}{H:Hp}{s:ll}{a:Addr}{kvs:List (Key×V)}{A:KY}{E:Value->ll->Prop}
end
section
variable {X:Cx}{pins:List (Addr×Obj)}{σ:St}{H:Hp}{s:ll}{a:Addr}{y:V}{u:Value}{A:KY}{E:Value->ll->Prop}
end
section
variable {X:Cx}
theorem j9:dB X (.builtin "len") (λxs H Q=>∃a kvs,xs=[V.ref a]/\H a=some (.dK kvs)/\Q (.int kvs.length) H):=by
 intro pins s σ H xs us Q I r h;let#[a,kvs,rfl,J,q]:=h;let#[u,rfl,G]:=vals1 r;cases G;show Hg I (.inl J) λt s' L=>#[.int kvs.length,H,L,#[t,rfl],q]
end
section
variable {κ:Type} [DecidableEq κ]
theorem fJ:∀{l:List κ}{k:κ},l.Nodup->¬ k∈l->(l++[k]).Nodup
 | [],k,_,_=>by simp
 |a::r,k,h,G=>by
  let#[h1,h2]:=KW.mp h;change(a::(r++[k])).Nodup;show KW.mpr #[λm=>?_,fJ h2 λm=>G (BY.mpr (Ts m))];rcases n7.mp m with q|q
  .show h1 q
  .show G (BY.mpr (Tr (nq.mp q).symm))
end
section
variable {X:Cx}{pins:List (Addr×Obj)}{σ:St}{H:Hp}{s:ll}{a:Addr}{kvs:List (Key×V)}{k:Key}{u r:Value}{d:V}{A:KY}{E:Value->ll->Prop}
theorem Fc {Q:Value->ll->Prop}(I:Inv X pins σ H s) (e:H a=some (.dK kvs)) (Y:RelV (kV k) u) (rd:RelV d r) (hl:kvs.length<sizeLine)
  (h1:∀v J s',bZ kvs k=some v->Inv X pins σ H s'->RelV v J->Q J s') (h2:∀s',bZ kvs k=none->Inv X pins σ (upd H a (.dK (putK kvs k d))) s'->Q r s') :
  wpAny (model X.prog X.w) A (call (.builtin "dict.setdefault") [.ref a,u,r]) Q E s:=by
 let#[z,hd,vs,G,O]:=gL I.bE e;show Na Ot O.typeIs PySem.F.entry_dict_setdefault (PySem.F.args_dict_setdefault_3 _ _ _) (kt_meets_setdefault (bt X.prog X.w) a (iX Y) hd r)
  #[vs,O,by rw[<-G.length];show z,λv L=>?_,λS h' R hs=>?_]
 .have q:=G.val k;cases l:bZ kvs k with
  |none=>rw[l]at q;rw[fX.none_of q]at L;cases L
  |some y =>
   rw[l]at q;let#[J,N,ab]:=fX.some_of q;rw[L]at N;cases N;show h1 y v _ l (I.tok _) ab
 .have l:bZ kvs k=none:=by
   cases l:bZ kvs k with
   |none=>rfl
   |some y =>
    have q:=G.val k;rw[l,S]at q;cases q
  have he:∃q,h'.get? a=some q:=let ⟨q,_,_,U,_⟩:=R;#[q,U];show h2 _ l (jW I (by rw[e];show LW) hs he (mT (by have:=eF kvs k d;show G0 this hl) hd (G.put k rd) R))
end
inductive wQ (td ty tx:TE) (σ:St) (Q:VK) (x:V) (H1:Hp):Prop
 |mk (a:_) (_:x=.ref a) (_:Gb H1 a) (_:ty σ H1 λy H2=>tx σ H2 λz H3=>∃kvs k,H3 a=some (.dK kvs)/\y=kV k/\kvs.length<sizeLine/\(∀v,bZ kvs k=some v->Q v H3)/\(bZ kvs k=none->Q z (upd H3 a (.dK (putK kvs k z))))):wQ td ty tx σ Q x H1
noncomputable def Em (td ty tx:TE):TE:=λσ H Q=>td σ H λx H1=>wQ td ty tx σ Q x H1
section
variable {X:Cx}{o e f:KZ}{apos cpos:NO}{td ty tx:TE}
theorem zP (U:PE X o td) (he:PE X e ty) (hf:PE X f tx) (m:M2 X o "setdefault" apos e f cpos):PE X (.Call (.Attribute o "setdefault" apos) [e,f] [] cpos) (Em td ty tx):=by
 intro pins s σ H Q I h;show N0 m.base m.GB m.line Nf Ot PySem.F.type_dict_setdefault (bV (U pins s σ H _ I h) λu s1 ac=>?_);let#[x,H1,L,rx,a,ex,d,q1]:=ac;subst ex;obtain rfl:u=Value.ref a:=rx;let#[t1,O,_]:=kD L d;show#[t1,O,?_];rw[m.trees];show Calls.callWith_builtin rfl (Calls.evalArgs_plain (Calls.spliced_cons (bV (he pins s1 σ H1 _ L q1) λiv s2 ⟨y,H2,R,Y,S⟩ =>
  Calls.spliced_cons (bV (hf pins s2 σ H2 _ R S) λfv s3 ⟨z,H3,I3,J,kvs,k,ea,N,hl,q3,q4⟩=>Calls.spliced_nil ?_))))
 subst N;show Fc I3 ea Y J hl (λv w' s4 l G ab=>#[v,_,G,ab,q3 v l]) λs4 l G=>#[z,_,G,J,q4 l]
end
section
variable {X:Cx}{pins:List (Addr×Obj)}{σ:St}{H:Hp}{s:ll}{a:Addr}{o:Obj}{u:HO}{kvs:List (Key×V)}
theorem Inv.swap {w:HO}(I:Inv X pins σ H s) (h:H a=some u) (h1:∀o J,X.H₀ a≠some (.bP o J)) (h2:∀xs,u≠.tup xs) (h3:∀ps,u≠.tbl ps) (R:∀x,u≠.own x) (new:bT X.prog X.w (upd H a w) s.heap a w):Inv X pins σ (upd H a w) s:=by
 have G:∀b,H b=none->b≠a:=λb q z=>(by rw[z,h]at q;cases q);show#[I.ok,I.os,I.bare,#[I.base.keep,I.base.slot,λb o q S hx=>?_,I.base.there,λb xs q=>?_,λb o J q=>?_,λb ps q=>?_],I.loc,I.cell,?_,λy c q=>?_,λp U=>?_,λb v q=>?_,I.len]
 .have z:=I.base.free b o q S hx;rw[ah (G b z)];show z
 .have z:=I.base.mS b xs q;rw[ah (λe=>h2 xs (by rw[e,h]at z;show rn z))];show z
 .have z:=I.base.oz b o J q;rw[ah (λe=>h1 o J (by rw[<-e];show q))];show z
 .let#[Y,z]:=I.base.qR b ps q;show#[Y,by rw[ah (λe=>h3 _ (by rw[e,h]at z;show rn z))];show z]
 .rw[ah (G _ I.free)];show I.free
 .rw[ah (G _ (I.gN y c q))];show I.gN y c q
 .let#[O,L,a3]:=I.pin p U;show#[O,by rw[ah (G _ L)];show L,a3]
 .by_cases N:b=a
  .subst N;rw[ae]at q;cases q;show new
  .rw[ah N]at q;show(I.bE b v q).mK (λ_ _ _ z=>z) (λc z=>by rw[ah (λe=>R b (by rw[e,h]at z;show rn z))];show z) λc xs z=>by rw[ah (λe=>h2 xs (by rw[e,h]at z;show rn z))];show z
theorem Inv.freeze (I:Inv X pins σ H s) (h:H a=some (.dK kvs)) (G:s.heap.get? a=some o) (h1:∀o J,X.H₀ a≠some (.bP o J)):Inv X pins σ (upd H a (.bP o (.dK kvs))) s :=
 I.swap h h1 (λ_ z=>nomatch z) (λ_ z=>nomatch z) (λ_ z=>nomatch z) #[G,(show bT X.prog X.w H s.heap a (.dK kvs)from I.bE a _ h)]
theorem Inv.E4 (I:Inv X pins σ H s) (h:H a=some (.bP o (.dK kvs))) (h1:∀o G,X.H₀ a≠some (.bP o G)):Inv X pins σ (upd H a (.dK kvs)) s :=
 I.swap h h1 (λ_ z=>nomatch z) (λ_ z=>nomatch z) (λ_ z=>nomatch z) (show bT X.prog X.w H s.heap a (.bP o (.dK kvs))from I.bE a _ h).2
end
noncomputable def r6 (o:Obj):Nat:=match o.data with
 |.dict _ ep=>ep
 |_=>0
noncomputable def ES (a:Addr) (o:Obj) (kvs:List (Key×V)):It :=
 #[λi H=>H a=some (.bP o (.dK kvs))/\i<kvs.length,λi H x H'=>H'=H/\∃k v,kvs[i]?=some (k,v)/\x=kV k,λi H=>H a=some (.bP o (.dK kvs))/\kvs.length<=i]
theorem qF {P:rz}{w:C1}{k:Key}{u:Value}(h:(bt P w).is k u=true):RelV (kV k) u:=by
 rcases cy (show nZ k u=true from h)with⟨i,t,rfl,rfl⟩|⟨x,t,rfl,rfl⟩
 .show#[t,rfl]
 .show#[t,rfl]
theorem j0 {P:rz}{w:C1}{H:Hp}{h:Heap}{a:Addr}{o:Obj}{kvs:List (Key×V)}(ok:iY P w H h) (e:H a=some (.bP o (.dK kvs))):(a==Mf)=false/\∃vs,KV kvs vs/\h.DictAt (bt P w) a vs (r6 o):=by
 let#[G,_,hd,vs,r,o',es,ep,h1,h2,I,J]:=(show bT P w H h a (.bP o (.dK kvs))from ok a _ e);rw[G]at h1;cases h1;have L:r6 o=ep:=(by unfold r6;rw[I]);show#[hd,vs,r,o,es,G,h2,by rw[L];show I,J]
theorem yz {P:rz}{w:C1}{K:iF}{tg:KZ}(a it:Addr) (as:a≠it) (o:Obj) (kvs:List (Key×V)):Turn P w K tg (ES a o kvs) [it] it (λi h=>h.IsKeyIter it a i kvs.length (r6 o)) where
 mem:=by simp
 obj:=λi h st b G=>by
  have e:b=it:=(by simpa using G);subst e;let#[ob,h1,_,h3]:=st;show#[ob,h1,λv z=>by rw[h3]at z;cases z]
 keep:=λi h h' st k=>st.at λo e=>k it (by simp) o e
 item:=by
  intro X hP hw U hc i pins s σ H E I N st hg;subst hP hw U;let#[Y,L]:=hg;let#[f0,f1,f2,f3,S,R]:=N it (by simp);let#[hd,vs,r,O]:=j0 I.bE Y;have J:=r.length;obtain⟨⟨k,x⟩,hx⟩:∃p,vs[i]?=some p:=#[vs[i]'(LH L J),by simp];have ac:∃v,kvs[i]?=some (k,v):=by
   have hi:i<kvs.length:=L;show#[(kvs[i]).2,?_];have e:=r.keys;have e1:(kvs.map (·.1))[i]?=(vs.map (·.1))[i]?:=(by rw[e]);rw[se,se,hx,tu hi]at e1;have e2:kvs[i].1=k:=rn e1;rw[tu hi, <-e2]
  let#[v,hv]:=ac;rw[J]at st ⊢;show wpAny_pyNext_dict_item st O hx λaB h' am ab ap=>?_;have I1:Inv X pins σ H { s with heap:=h',toks:=s.toks }:=I.turned (λb o G e=>(ap.2 b G).trans e) f0 f1 f3 S R;let#[ob,h1,h2,h3]:=id ab;show#[0,mX (s:={ s with heap:=h' }) (n := "dict_keyiterator") h1 h2 h3 av #[kV k,H,I1,qF am,#[rfl,k,v,hv,rfl],ab,λb G=>(N b G).1]]
 done:=by
  intro X hP hw U hc i pins s σ H E I N st hg;subst hP hw U;let#[Y,L]:=hg;let#[f0,f1,f2,f3,S,R]:=N it (by simp);let#[hd,vs,r,O]:=j0 I.bE Y;have J:=r.length;rw[J]at st;show wpAny_pyNext_dict_end (I.ok.hd hc) st O (by simp;show le_of_eq_of_le (id (Nl J)) L) λh' eb=>#[rfl,I.turned (t':=s.toks) (λb o G e=>eb b o G e) f0 f1 f3 S R]
 self:=λ_ _ _ _ _ st h=>Qr st h
noncomputable def HX (H₀:Hp) (td:TE):TI:=λσ H R=>td σ H λx H1=>BD λa kvs=>Fg (x=.ref a) (H1 a=some (.dK kvs)) ((∀o G,H₀ a≠some (.bP o G))) (∀o,R (ES a o kvs) (upd H1 a (.bP o (.dK kvs))))
section
variable {X:Cx}{tg:KZ}
theorem lG {l:KZ}{td:TE}(Y:PE X l td):PI X tg l (HX X.H₀ td):=by
 intro pins s σ H R I h;show bV (Y pins s σ H _ I h) λv s1 O=>?_;let#[x,H1,J,r1,a,kvs,e,L,U,q]:=O;subst e;cases r1;let#[_,hd,vs,ab,dd]:=gL J.bE L;let#[ob,es,ep,h1,h2,h3,N]:=id dd;have G:=J.freeze L h1 U;have lt:a<s1.heap.objs.size:=Heap.lt_size h1;have S:s1.heap.DictAt (bt X.prog X.w) a vs (r6 ob):=#[ob,es,h1,h2,by unfold r6;rw[h3],N];show wpAny_pyIter_dict hd S ?_;show#[s1.heap.objs.size,[s1.heap.objs.size],_,ES a ob kvs,0,G.kept (t':=s1.toks) λb o e=>Heap.get?_push_of_some _ e,yz a _ (Lc lt) ob kvs,#[_,Heap.get?_push_size _ rfl,5],λb hb=>?_,q ob]
 .rw[ab.length];rfl
 .have e:b=s1.heap.objs.size:=(by simpa using hb);subst e;show G.jd (qs _) (G.bE.fresh (qs _))
noncomputable def F5 (H₀:Hp) (t:TS):TS:=λD σ H=>t { D with
 nx:=λI H'=>∃a o kvs,H' a=some (.bP o (.dK kvs))/\(∀o G,H₀ a≠some (.bP o G))/\D.nx I (upd H' a (.dK kvs))
 rt:=λv H'=>∃a o kvs,H' a=some (.bP o (.dK kvs))/\(∀o G,H₀ a≠some (.bP o G))/\D.rt v (upd H' a (.dK kvs)) } σ H
theorem iO {st:K4}{t:TS}(h:PS X st t):PS X st (F5 X.H₀ t):=by
 intro pins s σ H D I q;show bV (h pins s σ H _ I q) λf s1 G=>?_;cases f with
 |next =>
  let#[J,H',R,a,o,kvs,O,L,N]:=G;show#[J,_,R.E4 O L,N]
 |ret u =>
  let#[v,J,H',R,r,a,o,kvs,O,L,N]:=G;show#[v,J,_,R.E4 O L,r,N]
 |brk=>show G
 |cont=>show G
end
theorem lV {a:Addr}{o:Obj}{kvs:List (Key×V)}{g:TG}{tb:TS}{D:Ends}{σ:St}{H:Hp}(Pv:Nat->St->Hp->Prop) (U:Pv 0 σ H) (R:∀i σ H,i<=kvs.length->Pv i σ H->H a=some (.bP o (.dK kvs)))
  (hs:∀i k v σ H,kvs[i]?=some (k,v)->Pv i σ H->g (kV k) σ H λI H2=>tb { D with nx:=Pv (i+1),ct:=Pv (i+1),bk:=D.nx } I H2) (hd:∀σ H,Pv kvs.length σ H->D.nx σ H) :
  ∃W:Nat->Nat->St->Hp->Prop,(∃m,W 0 m σ H)/\∀i m σ H,W i m σ H ->
   ((ES a o kvs).stop i H/\D.nx σ H)\/((ES a o kvs).go i H/\∃N:St->Hp->Prop,(∀G H',N G H'->∃L,L<m/\W (i+1) L G H')/\∀x H',(ES a o kvs).Bx i H x H'->g x σ H' λI H2=>tb { D with nx:=N,ct:=N,bk:=D.nx } I H2):=by
 show#[λi m σ H=>m=kvs.length-i/\i<=kvs.length/\Pv i σ H,#[kvs.length,by simp,KU _,U],?_];rintro i m σ H ⟨rfl,hi,p⟩;have q:=R i σ H hi p;by_cases J:i<kvs.length
 .show .inr #[#[q,J],Pv (i+1),λG H' O=>#[kvs.length-(i+1),Ls (Mm kvs) i J,rfl,J,O],λx H' y=>?_];let#[e,k,v,S,ex]:=y;subst e ex;show hs i k v σ _ S p
 .have e:i=kvs.length:=af;subst e;show .inl #[#[q,qs _],hd σ H p]
section
variable {X:Cx}
inductive Gf (K:iF) (x:V) (y:V) (H:Hp) (Q:VK):Prop
 |mk (p:_) (q:_) (xs:_) (ys:_) (_:x=.ref p) (_:y=.ref q) (_:bA K H p xs) (_:bA K H q ys) (_:xs.all dC=true) (_:ys.all dC=true) (_:Q (.bl (!gS xs ys)) H):Gf K x y H Q
theorem ET (S:X.A.units<NQ):k6 X (LY .NotEq) (Gf X.K):=by
 intro pins s σ H x y v u Q I rx ry h;let#[p,q,xs,ys,rfl,rfl,hx,hy,fx,fy,R]:=h;cases rx;cases ry;let#[its,r,pl,hz]:=I.list hx;let#[U,Y,O,am]:=I.list hy;have J:=r.length;have N:=Y.length;by_cases e:xs.length=ys.length
 .show SD (e:=λj=>kE (xs.getD j .non) (ys.getD j .non)) pl.isList O.isList (by rw[pq,pq];omega) S (λj h1 h2=>?_) _ _ _ _ #[.bl (!gS xs ys),H,I,?_,R]
  .have G:j<xs.length:=(by rw[pq]at h1;show LH h1 (id (Nl J)));have L:j<ys.length:=LH h2 (id (Nl N));let#[a,ea,ra]:=r.get (i:=j) (x:=xs[j]) (by simp[G]);let#[b,eb,rb]:=Y.get (i:=j) (x:=ys[j]) (by simp[L]);let#[_,ab]:=kz.mp ea;let#[_,ac]:=kz.mp eb;have g1:xs.getD j .non=xs[j]:=(by simp[G]);have g2:ys.getD j .non=ys[j]:=(by simp[L]);change OG _ _ its.toArray[j] U.toArray[j] (kE (xs.getD j .non) (ys.getD j .non));rw[g1,g2];have f1:dC xs[j]=true:=Lf.mp fx _ (L4 G);have f2:dC ys[j]=true:=Lf.mp fy _ (L4 L);have z:=nY (A:=X.A.in1) (s:=s) ra rb f1 f2;have a1:its.toArray[j]=a:=(by simpa using ab);have a2:U.toArray[j]=b:=(by simpa using ac);rw[a1,a2];show z
  .change Value.bool _=Value.bool _;rw[pq, <-J,gz e]
 .show Rb pl.isList O.isList ?_ S _ _ _ _ #[.bl (!gS xs ys),H,I,?_,R]
  .rw[pq,pq, <-J, <-N];show bne_iff_ne.mpr e
  .change Value.bool _=Value.bool _;rw[jI e];rfl
end
noncomputable def Fy (lo st:Int) (n:Nat):It:=#[λi _=>i<n,λi H x H'=>H'=H/\x=.int (lo+i*st),λi _=>n<=i]
theorem tQ {P:rz}{w:C1}{K:iF}{tg:KZ}(it:Addr) (lo st:Int) (n:Nat):Turn P w K tg (Fy lo st n) [it] it (λi h=>Qh h it (lo+(i:Nat)*st) ((n:Int)-(i:Nat)) st) where
 mem:=by simp
 obj:=λi h st b G=>by
  have e:b=it:=(by simpa using G);subst e;show#[_,st,λv z=>by
   have z':O0 _=N6 v:=z;cases z']
 keep:=λi h h' st k=>k it (by simp) _ st
 item:=by
  intro X hP Y R L i pins s σ H E I J U hg;subst hP Y R;let#[f0,f1,f2,S,O,N]:=J it (by simp);have W:=Td (prog:=X.prog) (w:=X.w) (I.ok.hd L) it lo st n;show W.item i s _ _ hg U λv h' tk hv ab kk=>?_;let#[t,rfl]:=hv;have I1:Inv X pins σ H { s with heap:=h',toks:=tk }:=I.turned (λb o G e=>kk b o (by simpa using G) e) f0 f1 S O N;show#[0,mX (s:={ s with heap:=h',toks:=tk }) (n := "range_iterator") ab rfl rfl av #[.int (lo+i*st),H,I1,#[t,rfl],#[1],ab,λb G=>(J b G).1]]
 done:=by
  intro X hP Y R L i pins s σ H E I J U hg;subst hP Y R;let#[f0,f1,f2,S,O,N]:=J it (by simp);show PD (I.ok.hd L) U (by have:n<=i:=hg;omega) λh' eb=>#[rfl,I.turned (t':=s.toks) (λb o G e=>eb b o G e) f0 f1 S O N]
 self:=λ_ _ _ _ _ st h=>PF st h
noncomputable def FZ (ta:TA):TI:=λσ H R=>ta σ H λvs H1=>∃(i j st:Int) (n:Nat),vs=[.int i,.int j,.int st]/\Builtin.Range.small i j st=true/\Builtin.Range.rangeSize i j st=(n:Int)/\st≠0/\Builtin.divisionGoesByPylong (j-i) st=false/\R (Fy i st n) H1
section
variable {X:Cx}{tg:KZ}
theorem yE {a b c:KZ}{ta:TA}{p pos:NO}(hg:Gl X "range") (O:X.mg "range" = none) (ha:PA X [a,b,c] ta) (hs:starEach [a,b,c] X.env=[(false,eval a X.env),(false,eval b X.env),(false,eval c X.env)]:=by rfl) (N:starEach [b,c] X.env=[(false,eval b X.env),(false,eval c X.env)]:=by rfl) :
  PI X tg (.Call (.Name "range" p) [a,b,c] [] pos) (FZ ta):=by
 intro pins s σ H R I h;show Call_ (gX I hg O RP (LD (bV (ha pos pins s σ H _ I h) λus s1 ⟨vs,H1,I1,r1,L⟩=>?_) (by rw[hs,N]) (by rw[N];rfl)));let#[i,j,st,n,e,L,Y,q3,q4,q]:=L;subst e;cases r1 with
 |cons r G =>
  cases G with
  |cons r' G =>
   cases G with
   |cons ab G =>
    cases G;let#[t,rfl]:=r;let#[t',rfl]:=r';let#[U,rfl]:=ab;show call_range_3 q3 ?_ (.inl q4);show QH (Te ..) L ?_;have J:Inv X pins σ H1 { s1 with heap:=s1.heap.push { cls:=.type "range",data:=.fields ([.int i t,.int j t',.int st U].toArray) },toks:=s1.toks }:=I1.kept λb o e=>Heap.get?_push_of_some _ e;show#[_,[_],2,H1,rfl,J.kept (t':=s1.toks) λb o e=>Heap.get?_push_of_some _ e,tQ _ i st n,?_,λb hb=>?_,q]
    .have e1:i+((0:Nat):Int)*st=i:=(by simp);have S:(n:Int)-((0:Nat):Int)=Builtin.Range.rangeSize i j st:=(by rw[Y];omega);change Qh _ _ (i+((0:Nat):Int)*st) ((n:Int)-((0:Nat):Int)) st;rw[e1,S];show Heap.get?_push_size _ rfl
    .have e:=nq.mp hb;subst e;show J.jd (qs _) (J.bE.fresh (qs _))
end
theorem Ad (K:iF):NL K (.type "int") (.type "tuple")=some false:=by with_unfolding_all rfl
theorem zY (K:iF):NL K (.type "int") (.type "list")=some false:=by with_unfolding_all rfl
theorem AF (K:iF):NL K (.type "int") (.type "dict")=some false:=by with_unfolding_all rfl
theorem Au (K:iF):NL K (.type "str") (.type "tuple")=some false:=by with_unfolding_all rfl
theorem y7 (K:iF):NL K (.type "str") (.type "list")=some false:=by with_unfolding_all rfl
theorem zd (K:iF):NL K (.type "str") (.type "dict")=some false:=by with_unfolding_all rfl
theorem zG (K:iF):NL K (.type "NoneType") (.type "tuple")=some false:=by with_unfolding_all rfl
theorem Bc (K:iF):NL K (.type "NoneType") (.type "list")=some false:=by with_unfolding_all rfl
theorem AL (K:iF):NL K (.type "NoneType") (.type "dict")=some false:=by with_unfolding_all rfl
theorem Fe (K:iF):NL K (.type "tuple") (.type "tuple")=some true:=rfl
end L2
namespace Srt
open PySem PyProof.Rows
theorem xB:∀{vs:List Value}{ns:List Int},vs.length=ns.length->(∀(j:Nat) (v:Value),vs[j]?=some v->∃(m:Int) (t:Tv),ns[j]?=some m/\v=.int m t)->Nu vs ns
 | [],[],_,_=>.nil
 |v::vs,n::ns,G,h=>by
  let#[m,t,e,rfl]:=h 0 v rfl;cases e;show .cons n t (xB (by simpa using G) λj u I=>by simpa using h (j+1) u (by simpa using I))
 | [],_::_,G,_=>by simp at G
 |_::_,[],G,_=>by simp at G
section
variable {prog:rz}{w:C1}{A:KY}{E:Value->ll->Prop}{s:ll}{T:String}{r d:Addr}{n:Nat}{P:Nat->Value->Prop}{OK:Heap->Prop}
theorem wy {ns:List Int}{Q:Value->ll->Prop}(S:KdlSrc prog w T r d n P OK) (R:A.handled=none) (bE:OK s.heap) (hP:∀(i:Nat) (v:Value),P i v->∃(m:Int) (t:Tv),ns[i]?=some m/\v=.int m t) (hl:ns.length=n) (N:ns.Nodup) (hz:n<=1000)
  (k:∀(h1 h':Heap) (tk:Nat) (out:Array Value) (ns':List Int) (e:Nat),(∀b o,s.heap.get? b=some o->h1.get? b=some o)->(∀b o,h1.get? b=some o->h'.get? b=some o)->h'.get? h1.objs.size=some (seqObj "list" out e)->Nu out.toList ns'->ns'.Perm ns->ns'.Pairwise (· <= ·)->Q (.ref h1.objs.size) { s with heap:=h',toks:=tk }) :
  wpAny (model prog w) A (call (.builtin "sorted") [.ref r]) Q E s:=by
 have lz:sizeLine=16777216:=vu;show Calls.call_function_entry kind_sorted plain_sorted entry_sorted (args_sorted1 _) ?_;show iN (m:=checkCount "sorted" 1 1 _) (qi (iN (PySem.W.kdu_collect (A:=A.in1) S R bE af λh1 tk G U L=>?_)));have ln:G.toList.length=n:=(by rw[LI];show L.1);show iN (QC ?_ af);have O:Nu G.toList ns:=xB af λj v e=>hP j v (L.2 j v (by rw[<-L0];show e));have I:=Heap.get?_push_size h1 (o:=seqObj "list" G.toList.toArray 0) rfl;change wpAny _ _ _ _ _ { s with heap:=h1.push (seqObj "list" G.toList.toArray 0),toks:=tk };show iN (Mj (Ms slot_list_sort #[_,I,rfl] entry_list_sort (oY I O N af λout ns' w1 w2 w3=>#[0,qi #[0,?_]]) (args_list_sort _)));let#[e,Y]:=sortedHeap_at (vs:=G.toList) (out:=out) I;show k h1 _ tk out ns' e U (λb o J=>?_) Y w1 w2 w3;have lt:=Heap.lt_size J;rw[sortedHeap_old (Lc lt) (by rw[Sj];show Og lt),Heap.get?_push_ne _ _ _ (Lc lt)];show J
end
end Srt
namespace L2
open PySem PySem.Spec PyProof.Rows
section
variable {X:Cx}
theorem qJ:dB X (.builtin "sorted") (λxs H Q=>∃(p:Addr) (ns:List Int),xs=[.ref p]/\bA X.K H p (ns.map V.int)/\ns.Nodup/\ns.length<=1000/\∀(l:Addr) (ns':List Int),H l=none->ns'.Perm ns->ns'.Pairwise (· <= ·)->Q (.ref l) (upd H l (.lst (ns'.map V.int)))):=by
 intro pins s σ H xs us Q I r h;let#[p,ns,rfl,O,S,hn,q]:=h;let#[u,rfl,L]:=vals1 r;cases L;let#[its,J,pl,hz]:=I.list O;have R:=intsAre_of J;have U:=J.length;rw[mu]at U;show Srt.vH pl.isList R S af λout ns' N G a3=>?_;let#[e,Y]:=sortedAll_at s.heap its out;have hs:=vu;show#[.ref (s.heap.objs.size+1),_,I.laid (t':=s.toks) (λb o e=>sortedAll_old e) (Oz _) (show bT X.prog X.w _ _ _ (.lst (ns'.map V.int))from#[by rw[mu,G.length_eq];omega,out.toList,e,iG N,by simpa using Y]),rfl,q _ ns' (I.bE.fresh (Oz _)) G a3]
end
end L2
namespace Srt
open PySem PyProof.Rows
theorem tW {prog:rz}{w:C1}{A:KY}{I:Addr}{fp wr:List Addr}{G:Array QS->Array QS->Prop}{n:Nat}{P:Nat->Value->Prop}{St:Nat->ll->Prop}(W:WalksS prog w A I fp wr G n P St) (m:Nat) (S:Nat->Value->Prop) :
  WalksS prog w A I fp wr G (m+n) (λj v=>(j<m/\S j v)\/(m<=j/\P (j-m) v)) (λi s=>m<=i/\St (i-m) s) where
 sub:=W.sub
 grefl:=W.grefl
 gtrans:=W.gtrans
 frame:=λi s h' tk st R O=>#[st.1,W.frame (i-m) s h' tk st.2 R O]
 item:=λi s Q E hi st h=>W.item (i-m) s Q E (by have:=st.1;omega) st.2 λv s' L J N=>h v s' (.inr #[st.1,L]) #[by have:=st.1;omega,by rw[show i+1-m=i-m+1 by have:=st.1;omega];show J] N
 done:=λs Q E st h=>W.done s Q E (by have:=st.2;rwa [show m+n-m=n by omega]at this) h
 self:=λi s Q E st h=>W.self (i-m) s Q E st.2 h
section
variable {prog:rz}{w:C1}{A:KY}{s:ll}{T:String}{r d:Addr}{n:Nat}{P:Nat->Value->Prop}{OK:Heap->Prop}
theorem vS {R:Result->ll->Prop}(Z:KdlSrc prog w T r d n P OK) (hh:A.handled=none) (Y:OK s.heap) (S:Addr) (sr:S≠r) (sd:S≠d) (res:Value) (G:Array Value) (c:Nat) (hS:s.heap.get? S=some { cls:=.type "list",data:=.seq G c }) (hz:G.size+n<sizeLine)
  (k:∀h' tk L J,(∀b o,b≠S->s.heap.get? b=some o->h'.get? b=some o)->h'.get? S=some { cls:=.type "list",data:=.seq L J }->ItemsOf (λj v=>(j<G.size/\G[j]?=some v)\/(G.size<=j/\P (j-G.size) v)) L (G.size+n)->R (.ok (.ret res)) { s with heap:=h',toks:=tk }) :
  wpAny (model prog w) A.in1 (Builtin.List.listExtendWith (.ref S) (.ref r) res) (λaB s'=>match aB with|.done f=>R (.ok f) s' |.again J=>J.quiet=true/\Oy (model prog w) A J R s') (λe s'=>R (.error e) s') s:=by
 have nI:S≠s.heap.objs.size:=Lc (Heap.lt_size hS);let#[oI,St,as,W,ab]:=Z.iter A.in1 s hh Y;have ap:S∉[s.heap.objs.size,d]:=λz=>by
  rcases BY.mp z with e|z
  .show nI e
  .show sd (nq.mp z)
 have am:∀(h:Heap) (U tk:Nat),St 0 h->(∀b o,b≠S->s.heap.get? b=some o->h.get? b=some o)->h.get? S=some { cls:=.type "list",data:=.seq G U } ->
   Oy (model prog w) A (.builtin "list.extend.loop" #[[.ref S,.ref s.heap.objs.size,res],[]]) R { s with heap:=h,toks:=tk }:=by
  intro h U tk q0 O N;have WS:=tW W.toS G.size λj v=>G[j]?=some v;show codeAny_extend_loopS WS (RM hz) S ap res n G.size _ G U af af #[qs _,by rw[Nat.sub_self];show q0] N #[rfl,λj v e=>.inl #[?_,e]] λs' L J mv e1 e2=>?_
  .show(Array.getElem?_eq_some_iff.mp e).1
  .rw[Moved.eq_with mv];show k s'.heap s'.toks L J (λb o I e=>mv.heap b o (λz=>?_) (O b o I e)) e1 e2;rcases BY.mp z with z|z
   .show I z
   .show Nr _ (nq.mp z▸Heap.lt_size e)
 unfold Builtin.List.listExtendWith;show iN (PM (T:=T) (Z.type s Y) ?_);have ns:Builtin.List.listSameRef (.ref S) (.ref r)=false:=(by simp[Builtin.List.listSameRef,sr]);simp only[ns,Z.notList,Z.notTuple,SE,LU,if_false];show iN (as _ _ ?_);have S1:=Heap.get?_push_of_some oI hS;show iN (Mj (Z.hint _ _ _ _ (Z.keep _ _ Y λb _ o e=>Heap.get?_push_of_some _ e) ?_));show wpAny_ite_split (λ_=>?_) (λ_=>qi #[plainId_quiet OT _,am _ c _ ab (λb o _ e=>Heap.get?_push_of_some _ e) S1]);show iN (Np (iN ?_));change wpAny _ _ (updateSeq S (·.push .none)>>=λ_=>updateSeq S (·.pop)) _ _ _;have O:=N9 S1 (·.push Value.none);have N:=N9 O (·.pop);have ep:(G.push Value.none).pop=G:=Array.pop_push ..;show iN (wpAny_updateSeq S1 rfl (wpAny_updateSeq O rfl (qi #[plainId_quiet OT _,?_]) ?_ ?_) ?_ ?_)
 .rw[ep]at N;show am _ _ _ (W.frame 0 _ _ ab λb I o e=>?_) (λb o I e=>?_) N
  .have ac:b≠S:=λz=>ap (z▸I);show(Heap.get?_update_other _ _ (qw ac)).trans ((Heap.get?_update_other _ _ (qw ac)).trans e)
  .show(Heap.get?_update_other _ _ (qw I)).trans ((Heap.get?_update_other _ _ (qw I)).trans (Heap.get?_push_of_some _ e))
 .change(G.push Value.none).size<=sizeLine;rw[Pr];omega
 .change((G.push Value.none).pop).size<=sizeLine+1;rw[ep];omega
 .omega
 .change(G.push Value.none).size<=sizeLine+1;rw[Pr];omega
end
end Srt
namespace L2
open PySem PySem.Spec PyProof.Rows
theorem qH:∀{xs:List V}{vs:List Value},xs.length=vs.length->(∀(j:Nat) (x:V) (v:Value),xs[j]?=some x->vs[j]?=some v->RelV x v)->Vals xs vs
 | [],[],_,_=>.nil
 |x::xs,v::vs,G,h=>.cons (h 0 x v rfl rfl) (qH (by simpa using G) λj a b I J=>h (j+1) a b (by simpa using I) (by simpa using J))
 | [],_::_,G,_=>by simp at G
 |_::_,[],G,_=>by simp at G
section
variable {X:Cx}
inductive tm (x:V) (vs:List V) (H:Hp) (Q:VK):Prop
 |mk (l:_) (d:_) (xs:_) (kvs:_) (_:x=.ref l) (_:vs=[.ref d]) (_:H l=some (.lst xs)) (_:H d=some (.dK kvs)) (_:xs.length+kvs.length<sizeLine) (_:Q .non (upd H l (.lst (xs++kvs.map λkv=>kV kv.1)))):tm x vs H Q
theorem uo (hc:X.calm=true):E3 X "list.extend" tm:=by
 intro pins s σ H x vs v us Q I rx rv h;let#[l,d,xs,kvs,rfl,rfl,O,Y,hz,q]:=h;cases rx;let#[u,rfl,ru]:=rv.one;cases ru;let#[z,its,n,r,hl,e]:=I.mZ O;let#[_,hd,vs,ac,dd]:=gL I.bE Y;let#[ep,am]:=dd.dictAt;have as:=ac.length;have ab:l≠d:=λz=>(by rw[z,Y]at O;cases O);show RT (codeAny_call_builtin ML.plain PySem.F.entry_list_extend (ML.check _ _ _ _ _ _ _ _ #[_,e,rfl] (PySem.F.args_list_extend_2 _ _) ?_));change wpAny _ _ (Builtin.List.listExtendWith (.ref l) (.ref d) .none) _ _ s;show Srt.vS (R:=λr s'=>match r with|.ok (.ret v)=>EP X pins σ Q v s' |.ok _=>False|.error e=>X.xe e s') (kdl_dict (knd:=bt X.prog X.w) (kvs:=vs) (ep:=ep) hd) (I.ok.hd hc) am l ab ab .none its.toArray n e (by rw[pq];omega) λh' tk J c' k1 U k3=>#[.non,_,?_,rfl,q];let#[sz,it]:=k3;have sz:J.size=its.length+vs.length:=(by rw[sz,pq]);show I.write (x:=l) (e:=l) (by rw[O];show trivial) (.inl rfl) k1 #[_,U] (show bT X.prog X.w _ _ _ (.lst _)from#[?_,J.toList,c',qH ?_ λj x v G hv=>?_,by simpa using U])
 .rw[wh,mu];omega
 .have al:J.toList.length=J.size:=LI;rw[wh,mu];omega
 .have ap:J[j]?=some v:=(by rw[<-L0];show hv);rcases it j v ap with⟨S,N⟩|⟨S,N⟩
  .rw[pq]at S;rw[LG af]at G;let#[b,eb,rb]:=r.get G;have:its[j]?=some v:=(by simpa using N);rw[this]at eb;cases eb;show rb
  .rw[pq]at S N;let#[k,y,e1,e2]:=N;rw[LC af,se]at G;have L:(vs.map (·.1))[j-its.length]?=some k:=(by rw[se,e1];rfl);rw[<-ac.keys,se]at L;rw[show j-xs.length=j-its.length by omega]at G;cases e4:kvs[j-its.length]? with
   |none=>rw[e4]at L;cases L
   |some kv =>
    rw[e4]at L G;obtain rfl:kv.1=k:=rn L;obtain rfl:kV kv.1=x:=rn G;show qF e2
noncomputable def JV (K:iF):R2:=λx y H Q=>∃p q xs ys,x=.ref p/\y=.ref q/\bL K H p xs/\bL K H q ys/\xs.all dC=true/\ys.all dC=true/\Q (.bl (gS xs ys)) H
theorem pJ:∀{xs ys:List V},((KR (min xs.length ys.length)).all (λj=>kE (xs.getD j .non) (ys.getD j .non))&&xs.length==ys.length)=gS xs ys:=by
 intro xs ys;by_cases e:xs.length=ys.length
 .rw[e,Nat.min_self,beq_self_eq_true,Bool.and_true, <-gz e,e]
 .rw[jI e,beq_eq_false_iff_ne.mpr e,Qm]
theorem vZ (hu:X.A.units<NQ):k6 X (LY .Eq) (JV X.K):=by
 intro pins s σ H x y v u Q I rx ry h;let#[p,q,xs,ys,rfl,rfl,hx,hy,fx,fy,Y]:=h;cases rx;cases ry;let#[its,r,pl,hz]:=I.tuple hx;let#[L,N,U,am]:=I.tuple hy;have hl:=r.length;have O:=N.length;show SeqAt.eq_tupleAt (e:=λj=>kE (xs.getD j .non) (ys.getD j .non)) pl U hu (λj h1 h2=>?_) #[.bl (gS xs ys),H,I,?_,Y]
 .rw[pq]at h1 h2;have G:j<xs.length:=af;have J:j<ys.length:=af;let#[a,ea,ra]:=r.get (i:=j) (x:=xs[j]) (by simp[G]);let#[b,eb,S]:=N.get (i:=j) (x:=ys[j]) (by simp[J]);let#[_,ab]:=kz.mp ea;let#[_,ac]:=kz.mp eb;have g1:xs.getD j .non=xs[j]:=(by simp[G]);have g2:ys.getD j .non=ys[j]:=(by simp[J]);change OG _ _ its.toArray[j] L.toArray[j] (kE (xs.getD j .non) (ys.getD j .non));have a1:its.toArray[j]=a:=(by simpa using ab);have R:L.toArray[j]=b:=(by simpa using ac);rw[g1,g2,a1,R];show nY ra S (Lf.mp fx _ (L4 G)) (Lf.mp fy _ (L4 J))
 .change Value.bool _=Value.bool _;rw[pq,pq, <-hl, <-O,pJ]
end
section
variable {X:Cx}{pins:List (Addr×Obj)}{σ:St}{H:Hp}{s:ll}
end
section
variable {X:Cx}
end
end L2
namespace PySem
open PyProof.Rows
namespace F
end F
section
variable {prog:rz}{w:C1}{K:Type} [DecidableEq K] {knd:KeyKind prog w K}{A:KY}{E:Value->ll->Prop}
end
end PySem
namespace L2
open PySem PySem.Spec PyProof.Rows
section
variable {X:Cx}{scope:OW}{cl:List (Str×Addr)}{t:Str×Str}{caps:List (Str×Nat)}{pins:List (Addr×Obj)}{σ:St}{H:Hp}{s:ll}{C:Addr}{fp:List Addr}
end
section
variable {X:Cx}{scope:OW}{cl:List (Str×Addr)}{t:Str×Str}{caps:List (Str×Nat)}{elt iter:KZ}{ifs:List KZ}{px pos:NO}{es:List KZ}{kx:Nat}{g:TG}{wi:TI}{tt:TT}{te:TE}
end
theorem EV:K8 "zip" = some (.type "zip"):=ao
theorem qh:K8 "enumerate" = some (.type "enumerate"):=ao
theorem uK:K8 "all" = some (.builtin "all"):=ao
theorem zW:K8 "min" = some (.builtin "min"):=ao
section
variable {X:Cx}{pins:List (Addr×Obj)}{σ:St}{H:Hp}{s:ll}{h':Heap}
theorem Inv.jO {t':Nat}{ch:List Addr}(I:Inv X pins σ H s) (k:∀b o,b∉ch->s.heap.get? b=some o->h'.get? b=some o) (J:∀b∈ch,gn X pins H b):Inv X pins σ H { s with heap:=h',toks:=t' }:=by
 have L:∀b u,H b=some u->b∉ch:=λb u e z=>(by rw[(J b z).1]at e;cases e);show I.step (g':=s.gens) (d':=s.drawn) (ch:=ch) (λb hb=>?_) (λb o _ _ G e _=>k b o G e) (λb o _ _ G e _=>#[o.slots,k b o G e]) (λ_ _ _ _ n=>n)
  (λb o G e=>#[o,k b o G e]) (λ_ _ e=>e) (λ_ _ _ e=>e) (λb ps e=>#[([].toArray),by rw[e];simp]) (λm N=>?_) (λb u e=>?_) I.bare
 .let#[_,Y,f2,O,S,R]:=J b hb;show#[O,Y,S,R]
 .let#[o,es,ep,U,r]:=N;show#[o,es,ep,k _ o (λz=>(J _ z).2.1 rfl) U,r]
 .show(I.bE b u e).mK (λc v G q=>k c v ?_ q) (λ_ q=>q) λ_ _ q=>q;rcases G with z|z
  .rw[z];show L b u e
  .show L c _ z
theorem Inv.wa {D:Addr}{ys:List V}{its:List Value}(I:Inv X pins σ H s) (f:gn X pins H D) (e:IsTup s.heap D its.toArray) (r:Vals ys its) (L:ys.length<=sizeLine) :
  Inv X pins σ (upd H D (.tup ys)) s:=by
 let#[J,Y,f2,O,S,R]:=f;let#[U,g,d,tk,os]:=s;show I.step (g':=g) (d':=d) (t':=tk) (h':=U) (ch:=[D]) (λb G=>?_) (λb o _ _ _ e _=>e) (λb o _ _ _ e _=>#[o.slots,e]) (λb o G _ n=>?_) (λb o _ e=>#[o,e]) (λb xs q=>?_) (λb o u q=>?_) (λb ps q=>#[([].toArray),?_]) (λm N=>N) (λb u q=>?_) I.bare
 .have z:b=D:=(by simpa using G);subst z;show#[O,Y,S,R]
 .rw[ah (λz=>G (by simp[z]))];show n
 .rw[ah (ar q J)];show q
 .rw[ah (ar q J)];show q
 .rw[ah (ar q J),q];simp
 .by_cases G:b=D
  .subst G;rw[ae]at q;cases q;show#[L,its,r,e]
  .rw[ah G]at q;show(I.bE b u q).mK (λ_ _ _ z=>z) (λc z=>by rw[ah (ar z J)];show z) λc xs z=>by rw[ah (ar z J)];show z
end
noncomputable def Gh (K:iF) (I G:Addr):It :=
 #[λi H=>∃xs ys x y,bA K H I xs/\bA K H G ys/\xs[i]?=some x/\ys[i]?=some y,
  λi H v H'=>∃T x y,v=.ref T/\H T=none/\H'=upd H T (.tup [x,y])/\(∀xs,bA K H I xs->xs[i]?=some x)/\∀ys,bA K H G ys->ys[i]?=some y,
  λi H=>∃xs ys,bA K H I xs/\bA K H G ys/\(xs.length<=i\/ys.length<=i)]
noncomputable def Kq (z TI TO I G L J:Addr) (i:Nat) (h:Heap):Prop:=IsZip h z TI TO .none/\IsPair h TI (.ref I) (.ref G)/\(∃a b,IsPair h TO a b)/\h.IsListIter I L i/\h.IsListIter G J i
theorem uT:2<=sizeLine:=by rw[vu];decide
theorem zc {P:rz}{w:C1}{K:iF}{es:List KZ}{kx:Nat}{px:NO}{z TI TO L R l1 l2:Addr}(D:ZipApart z TI TO L R l1 l2):Turn P w K (.Tuple es kx px) (Gh K l1 l2) [z,TI,TO,L,R] z (Kq z TI TO L R l1 l2) where
 mem:=by simp
 obj:=by
  rintro i h ⟨O,J,⟨a,b',N⟩,h1,h2⟩ b G;simp only[BY,DD,or_false]at G;rcases G with rfl|rfl|rfl|rfl|rfl
  .show#[_,O,λv q=>by cases(show O0 _=N6 v from q)]
  .show#[_,J,λv q=>by cases(show Sb _ _=N6 v from q)]
  .show#[_,N,λv q=>by cases(show Sb _ _=N6 v from q)]
  .let#[o,e,c,d]:=h1;show#[o,e,λv q=>by rw[d]at q;cases q]
  .let#[o,e,c,d]:=h2;show#[o,e,λv q=>by rw[d]at q;cases q]
 keep:=λi h h' ⟨O,J,⟨a,b,N⟩,h1,h2⟩ k=>#[k z (by simp) _ O,k TI (by simp) _ J,#[a,b,k TO (by simp) _ N],h1.at λo e=>k L (by simp) o e,h2.at λo e=>k R (by simp) o e]
 item:=by
  intro X hP hw hK hc i pins s σ H E I U st hg;subst hP hw hK;let#[O,J,#[a,b,N],h1,h2]:=st;let#[xs,ys,x,y,q1,q2,e1,e2]:=hg;let#[a3,am,p1,_]:=I.list q1;let#[a6,ac,p2,_]:=I.list q2;let#[u1,a4,as]:=am.get e1;let#[u2,aT,aB]:=ac.get e2;have f4:∀b∈[z,TO,L,R],gn X pins H b:=λb G=>U b (by simp only[BY,DD,or_false]at G ⊢;rcases G with h|h|h|h<;>simp[h]);show wpAny_pyNext_zip_item D O J N h1 h2 p1.isList p2.isList (x:=u1) (y:=u2) (by simpa using a4) (by simpa using aT) λh' z' a0 a1 a2 pT sz kk=>?_;have I1:Inv X pins σ H { s with heap:=h' }:=I.jO (t':=s.toks) (ch:=[z,TO,L,R]) (λb o G e=>kk b o (λq=>G (by simp[q])) (λq=>G (by simp[q])) (λq=>G (by simp[q])) (λq=>G (by simp[q])) e) f4;show#[0,wpAny_letOwnedTupleGo_zip z' λY z2 S=>?_];replace S:Heap.SameBut z h' Y:=S;have I2:Inv X pins σ H { s with heap:=Y }:=I1.jO (s:={ s with heap:=h' }) (h':=Y) (t':=s.toks) (ch:=[z]) (λb o G e=>(S.2 b (λq=>G (by simp[q]))).trans e) λb G=>U b (by simp only[nq]at G;simp[G]);have fT:gn X pins H s.heap.objs.size:=I.jd (qs _) (I.bE.fresh (qs _));have nz:s.heap.objs.size≠z:=QX (Heap.lt_size O);have a5:IsPair Y s.heap.objs.size u1 u2:=S.extBut _ _ nz pT;have I3:Inv X pins σ (upd H s.heap.objs.size (.tup [x,y])) { s with heap:=Y }:=I2.wa (its:=[u1,u2]) fT #[_,a5,rfl,0] (.cons as (.cons aB .nil)) uT;show#[.ref s.heap.objs.size,_,I3,rfl,#[_,x,y,rfl,fT.1,rfl,λzs ab=>by rw[I.jJ ab q1];show e1,λzs ab=>by rw[I.jJ ab q2];show e2],#[z2,S.extBut _ _ D.TIz (kk _ _ D.TIz D.TITO D.TIi1 D.TIi2 J),#[2,S.extBut _ _ D.TOz a0],a1.extBut S.extBut D.i1z,a2.extBut S.extBut D.i2z],λb G=>?_];have nb:b≠s.heap.objs.size:=by
   intro q;simp only[BY,DD,or_false]at G;let#[o1,g1,_]:=h1;let#[o2,g2,_]:=h2;rcases G with e|e|e|e|e<;>rw[e]at q
   .show nz q.symm
   .show Lc (Heap.lt_size J) q
   .show Lc (Heap.lt_size N) q
   .show Lc (Heap.lt_size g1) q
   .show Lc (Heap.lt_size g2) q
  rw[ah nb];show(U b G).1
 done:=by
  intro X hP hw hK hc i pins s σ H E I U st hg;subst hP hw hK;let#[O,J,#[a,b,N],h1,h2]:=st;let#[xs,ys,q1,q2,e]:=hg;let#[a3,am,p1,_]:=I.list q1;let#[a6,ac,p2,_]:=I.list q2;have a7:=am.length;have ap:=ac.length;have f4:∀b∈[z,TO,L,R],gn X pins H b:=λb G=>U b (by simp only[BY,DD,or_false]at G ⊢;rcases G with h|h|h|h<;>simp[h]);show wpAny_pyNext_zip_end (I.ok.hd hc) D O J N h1 h2 p1.isList p2.isList (e.elim (λe=>.inl (by simp;show le_of_eq_of_le (id (Nl a7)) e)) λe=>.inr (by simp;show le_of_eq_of_le (id (Nl ap)) e)) λh' kk=>#[rfl,I.jO (t':=s.toks) (ch:=[z,TO,L,R]) (λb o G e=>kk b o (λq=>G (by simp[q])) (λq=>G (by simp[q])) (λq=>G (by simp[q])) (λq=>G (by simp[q])) e) f4]
 self:=λ_ _ _ _ _ st h=>Ro st.1 h
section
variable {X:Cx}
noncomputable def Jx (K:iF) (ta:TA):TI:=λσ H R=>ta σ H λvs H1=>BD λI G=>Fg (vs=[.ref I,.ref G]) ((∃xs,bA K H1 I xs)) ((∃ys,bA K H1 G ys)) (R (Gh K I G) H1)
theorem FJ {es:List KZ}{kx:Nat}{px:NO}{a b:KZ}{ta:TA}{p pos:NO}(hg:Gl X "zip") (Y:X.mg "zip" = none) (ha:PA X [a,b] ta) (hs:starEach [a,b] X.env=[(false,eval a X.env),(false,eval b X.env)]:=by rfl) (U:starEach [b] X.env=[(false,eval b X.env)]:=by rfl) :
  PI X (.Tuple es kx px) (.Call (.Name "zip" p) [a,b] [] pos) (Jx X.K ta):=by
 intro pins s σ H R I h;show Call_ (gX I hg Y EV (LD (bV (ha pos pins s σ H _ I h) λus s1 ⟨vs,H1,G,r1,q1⟩=>?_) (by rw[hs,U]) (by rw[U];rfl)));let#[O,L,rfl,#[xs,g1],#[ys,g2],q]:=q1;let#[u1,u2,rfl,e1,e2]:=vals2 r1;obtain rfl:u1=Value.ref O:=e1;obtain rfl:u2=Value.ref L:=e2;let#[a0,a2,S,_]:=G.list g1;let#[a1,aT,p2,_]:=G.list g2;have am:O<s1.heap.objs.size:=let ⟨_,e,_⟩:=S.isList;Heap.lt_size e;have ac:L<s1.heap.objs.size:=let ⟨_,e,_⟩:=p2.isList;Heap.lt_size e;show call_zip_2 S.isList p2.isList λh' J as aB ab ap hsz hk=>?_;show Ro J ?_;show#[s1.heap.objs.size+4,[s1.heap.objs.size+4,s1.heap.objs.size+2,s1.heap.objs.size+3,s1.heap.objs.size,s1.heap.objs.size+1],2,H1,rfl,G.kept (t':=s1.toks) hk,zc (zipApart_new am ac),#[J,as,#[2,aB],ab,ap],λb N=>?_,q];have le:s1.heap.objs.size<=b:=by
  simp only[BY,DD,or_false]at N;rcases N with e|e|e|e|e<;>rw[e]<;>first|show qs _|show Rp _ _
 show G.jd le (G.bE.fresh le)
noncomputable def Hu (K:iF) (l:Addr):It :=
 #[λi H=>∃xs x,bA K H l xs/\xs[i]?=some x,
  λi H v H'=>∃T x,v=.ref T/\H T=none/\H'=upd H T (.tup [.int i,x])/\∀xs,bA K H l xs->xs[i]?=some x,
  λi H=>∃xs,bA K H l xs/\xs.length<=i]
noncomputable def KH (e it l:Addr) (i:Nat) (h:Heap):Prop:=(∃G,IsEnum h e it i G)/\h.IsListIter it l i
theorem yC {P:rz}{w:C1}{K:iF}{es:List KZ}{kx:Nat}{px:NO}{e it l:Addr}(D:e≠it):Turn P w K (.Tuple es kx px) (Hu K l) [e,it] e (KH e it l) where
 mem:=by simp
 obj:=by
  rintro i h ⟨⟨S,J⟩,h1⟩ b G;simp only[BY,DD,or_false]at G;rcases G with rfl|rfl
  .show#[_,J,λv q=>by cases(show O0 _=N6 v from q)]
  .let#[o,e,c,d]:=h1;show#[o,e,λv q=>by rw[d]at q;cases q]
 keep:=λi h h' ⟨⟨S,J⟩,h1⟩ k=>#[#[S,k e (by simp) _ J],h1.at λo q=>k it (by simp) o q]
 item:=by
  intro X hP hw hK hc i pins s σ H E I L st hg;subst hP hw hK;let#[#[S,J],h1]:=st;let#[xs,x,R,U]:=hg;let#[ap,ab,p1,_]:=I.list R;let#[Y,as,ac]:=ab.get U;show wpAny_pyNext_enum_item J h1 p1.isList (x:=Y) (by simpa using as) D λh' eo a1 pT sz kk=>?_;have I1:Inv X pins σ H { s with heap:=h',toks:=s.toks+1 }:=I.jO (t':=s.toks+1) (ch:=[e,it]) (λb o G q=>kk b o (λz=>G (by simp[z])) (λz=>G (by simp[z])) q) L;show#[0,wpAny_letOwnedTupleGo_enum eo λO e2 N=>?_];replace N:Heap.SameBut e h' O:=N;have I2:Inv X pins σ H { s with heap:=O,toks:=s.toks+1 }:=I1.jO (s:={ s with heap:=h',toks:=s.toks+1 }) (h':=O) (t':=s.toks+1) (ch:=[e]) (λb o G q=>(N.2 b (λz=>G (by simp[z]))).trans q) λb G=>L b (by simp only[nq]at G;simp[G]);have fT:gn X pins H s.heap.objs.size:=I.jd (qs _) (I.bE.fresh (qs _));have ne:s.heap.objs.size≠e:=QX (Heap.lt_size J);have aB:=N.extBut _ _ ne pT;have I3:Inv X pins σ (upd H s.heap.objs.size (.tup [.int i,x])) { s with heap:=O,toks:=s.toks+1 }:=I2.wa (its:=[.int i s.toks,Y]) fT #[_,aB,rfl,0] (.cons #[0] (.cons ac .nil)) uT;show#[.ref s.heap.objs.size,_,I3,rfl,#[_,x,rfl,fT.1,rfl,λzs am=>by rw[I.jJ am R];show U],#[#[Y,?_],a1.extBut N.extBut (qw D)],λb G=>?_]
  .have ec:((i+1:Nat):Int)=(i:Int)+1:=(by push_cast;rfl);rw[ec];show e2
  .have nb:b≠s.heap.objs.size:=by
    intro q;simp only[BY,DD,or_false]at G;let#[o1,g1,_]:=h1;rcases G with z|z<;>rw[z]at q
    .show ne q.symm
    .show Lc (Heap.lt_size g1) q
   rw[ah nb];show(L b G).1
 done:=by
  intro X hP hw hK hc i pins s σ H E I L st hg;subst hP hw hK;let#[#[S,J],h1]:=st;let#[xs,R,U]:=hg;let#[ap,ab,p1,_]:=I.list R;have aT:=ab.length;let#[f0,f1,f2,f3,f4,f5]:=L it (by simp);show wpAny_pyNext_enum_end (I.ok.hd hc) J h1 p1.isList (by simp;show le_of_eq_of_le (id (Nl aT)) U) λh' eb=>#[rfl,I.turned (t':=s.toks) (λb o G q=>eb b o G q) f0 f1 f3 f4 f5]
 self:=λ_ _ _ _ _ st h=>let ⟨⟨_,J⟩,_⟩:=st;Rc J h
noncomputable def FU (K:iF) (ta:TA):TI:=λσ H R=>ta σ H λvs H1=>∃l,vs=[.ref l]/\(∃xs,bA K H1 l xs)/\R (Hu K l) H1
theorem xk {es:List KZ}{kx:Nat}{px:NO}{a:KZ}{ta:TA}{p pos:NO}(hg:Gl X "enumerate") (N:X.mg "enumerate" = none) (ha:PA X [a] ta) (hs:starEach [a] X.env=[(false,eval a X.env)]:=by rfl) :
  PI X (.Tuple es kx px) (.Call (.Name "enumerate" p) [a] [] pos) (FU X.K ta):=by
 intro pins s σ H R I h;show Call_ (gX I hg N qh (LD (bV (ha pos pins s σ H _ I h) λus s1 ab=>?_) hs rfl));let#[vs,H1,G,r1,U]:=ab;let#[l,rfl,#[xs,S],q]:=U;let#[O,rfl,e1]:=vals1 r1;obtain rfl:O=Value.ref l:=e1;let#[ac,am,p1,_]:=G.list S;show call_enumerate_list p1.isList λh' J hi hsz Y=>?_;show Rc J ?_;show#[s1.heap.objs.size+1,[s1.heap.objs.size+1,s1.heap.objs.size],2,H1,rfl,G.kept (t':=s1.toks) Y,yC (l:=l) (Nat.succ_ne_self _),#[#[_,J],hi],λb L=>?_,q];have le:s1.heap.objs.size<=b:=by
  simp only[BY,DD,or_false]at L;rcases L with e|e<;>rw[e]<;>first|show qs _|show Rp _ _
 show G.jd le (G.bE.fresh le)
theorem qC:∀{bs:List Bool}{its:List Value},Vals (bs.map V.bl) its->its=bs.map Value.bool
 | [],_,.nil=>rfl
 |b::bs,_,.cons r t=>by rw[qC t,show _=Value.bool b from r];rfl
theorem kH (Y:X.calm=true):dB X (.builtin "all") (λxs H Q=>∃(l:Addr) (bs:List Bool),xs=[.ref l]/\bA X.K H l (bs.map V.bl)/\Q (.bl (bs.all id)) H):=by
 intro pins s σ H xs us Q I r h;let#[l,bs,rfl,O,q]:=h;let#[u,rfl,ru]:=vals1 r;obtain rfl:u=Value.ref l:=ru;let#[its,U,p,_]:=I.list O;have ei:=qC U;subst ei;have J:=p.isList;have R:l<s.heap.objs.size:=let ⟨_,e,_⟩:=J;Heap.lt_size e;show call_all_walk (O8 J ?_);show#[s.heap.objs.size,[s.heap.objs.size,l],[s.heap.objs.size],(bs.map Value.bool).toArray.size,2,λi=>(bs[i]?).getD true,rfl,Tt (A:=X.A.in1) (I.ok.hd Y) _ l (Lc R) (bs.map Value.bool).toArray,
  #[#[_,Heap.get?_push_size _ rfl,1],J.push _],λi v s' Q' E' hP N=>?_,λh' tk hk=>?_]
 .have ab:(bs.map Value.bool).toArray[i]?=some v:=hP;have G:(bs.map Value.bool)[i]?=some v:=(by simpa using ab);rw[se]at G;cases L:bs[i]? with
  |none=>rw[L]at G;cases G
  |some b =>
   rw[L]at G;have S:Value.bool b=v:=rn G;subst S;simp only[L,Rq]at N;show LV N
 .have e:((KR (bs.map Value.bool).toArray.size).all λi=>(bs[i]?).getD true)=bs.all id:=by
   rw[pq,mu];show LSm.range_all bs
  rw[e];show#[.bl _,H,I.kept (SF hk),rfl,q]
end
theorem tS {K:iF}{a:Addr}{xs:List V}{g:TG}{tb:TS}{D:Ends}{σ:St}{H:Hp}(Pv:Nat->St->Hp->Prop) (U:Pv 0 σ H) (S:∀i σ H,i<=xs.length->Pv i σ H->bA K H a xs)
  (hs:∀i x σ H T,xs[i]?=some x->H T=none->Pv i σ H->g (.ref T) σ (upd H T (.tup [.int i,x])) λJ H2=>tb { D with nx:=Pv (i+1),ct:=Pv (i+1),bk:=D.nx } J H2) (hd:∀σ H,Pv xs.length σ H->D.nx σ H) :
  ∃W:Nat->Nat->St->Hp->Prop,(∃m,W 0 m σ H)/\∀i m σ H,W i m σ H ->
   ((Hu K a).stop i H/\D.nx σ H)\/((Hu K a).go i H/\∃N:St->Hp->Prop,(∀G H',N G H'->∃O,O<m/\W (i+1) O G H')/\∀x H',(Hu K a).Bx i H x H'->g x σ H' λJ H2=>tb { D with nx:=N,ct:=N,bk:=D.nx } J H2):=by
 show#[λi m σ H=>m=xs.length-i/\i<=xs.length/\Pv i σ H,#[xs.length,by simp,KU _,U],?_];rintro i m σ H ⟨rfl,hi,p⟩;have I:=S i σ H hi p;by_cases L:i<xs.length
 .show .inr #[#[xs,xs[i],I,by simp[L]],Pv (i+1),λG H' R=>#[xs.length-(i+1),Ls (Mm xs) i L,rfl,L,R],?_];rintro v H' ⟨T,x,rfl,Y,rfl,e1⟩;show hs i x σ H T (e1 xs I) Y p
 .have e:i=xs.length:=af;subst e;show .inl #[#[xs,I,qs _],hd σ H p]
section
variable {X:Cx}
theorem jy (hc:X.calm=true):dB X (.builtin "sorted") (λxs H Q=>∃(a:Addr) (kvs:List (Key×V)) (ns:List Int),xs=[.ref a]/\H a=some (.dK kvs)/\kvs.map (·.1)=ns.map ti/\ns.Nodup/\ns.length<=1000 /\
  ∀(l:Addr) (ns':List Int),H l=none->ns'.Perm ns->ns'.Pairwise (· <= ·)->Q (.ref l) (upd H l (.lst (ns'.map V.int)))):=by
 intro pins s σ H xs us Q I r h;let#[a,kvs,ns,rfl,ha,hk,ab,hn,q]:=h;let#[u,rfl,ru]:=vals1 r;cases ru;let#[_,hd,vs,ac,dd]:=gL I.bE ha;let#[ep,U]:=dd.dictAt;have J:vs.map (·.1)=ns.map ti:=(by rw[<-ac.keys];show hk);have R:ns.length=vs.length:=by
  have:=congrArg Mm J;simpa using this.symm
 have hs:=vu;show Srt.wy (kdl_dict (knd:=bt X.prog X.w) (kvs:=vs) (ep:=ep) (d:=a) hd) (I.ok.hd hc) U (ns:=ns) (λi w' hw=>?_) R ab af λh1 h' tk out ns' e k1 Y he a1 L a3=>?_
 .let#[k,x,e1,S]:=hw;have G:(vs.map (·.1))[i]?=some k:=(by rw[se,e1];rfl);rw[J,se]at G;cases N:ns[i]? with
  |none=>rw[N]at G;cases G
  |some m =>
   rw[N]at G;obtain rfl:ti m=k:=rn G;let#[t,rfl]:=qF S;show#[m,t,1]
 .have O:Inv X pins σ H { s with heap:=h1,toks:=tk }:=I.kept k1;show#[.ref h1.objs.size,_,O.laid (t':=tk) Y (qs _) (show bT X.prog X.w _ _ _ (.lst (ns'.map V.int))from#[by rw[mu,L.length_eq];omega,out.toList,e,iG a1,by simpa using he]),rfl,q _ ns' (O.bE.fresh (qs _)) L a3]
inductive xq (H₀:Hp) (t:TE) (Q:VK) (v:V) (H':Hp):Prop
 |mk (a:_) (o:_) (kvs:_) (_:H' a=some (.bP o (.dK kvs))) (_:(∀o u',H₀ a≠some (.bP o u'))) (_:Q v (upd H' a (.dK kvs))):xq H₀ t Q v H'
noncomputable def Eb (H₀:Hp) (t:TE):TE:=λσ H Q=>t σ H λv H'=>xq H₀ t Q v H'
theorem xb {e:KZ}{t:TE}(h:PE X e t):PE X e (Eb X.H₀ t):=by
 intro pins s σ H Q I q;show bV (h pins s σ H _ I q) λu s1 O=>?_;let#[v,H',N,r,a,o,kvs,L,G,J]:=O;show#[v,_,N.E4 L G,r,J]
end
theorem lS:entryFor table "dict_itemiterator.__iter__" = some Builtin.«dict_keyiterator.__iter__» :=
 entryFor_alias (id' := "dict_keyiterator.__iter__") (by kernel_rfl) (by first|rfl|decide +kernel|(unfold String.splitOn;simp +decide [String.splitOnAux])) ao (by kernel_rfl)
theorem gQ {prog:rz}{w:C1}{A:KY}{E:Value->ll->Prop}{s:ll}{it d:Addr}{i n ep:Nat}{ok ov:Value}{Q:Value->ll->Prop}(I:IsItemIter s.heap it d i n ep ok ov) (h:Q (.ref it) s):wpAny (model prog w) A (pyIter (.ref it)) Q E s:=by
 have G:s.TypeIs (.ref it) "dict_itemiterator" := #[_,I,rfl];show Rf G ND (Ms ND G lS ?_ (PySem.F.args_dict_itemiterator_iter_1 _));change wpAny _ _ (ret (.ref it)) _ _ s;show qi #[0,"dict_itemiterator",_,G,PySem.F.slot_dict_itemiterator_next.lookup,h]
noncomputable def FR (a:Addr) (o:Obj) (kvs:List (Key×V)):It :=
 #[λi H=>H a=some (.bP o (.dK kvs))/\i<kvs.length,λi H x H'=>∃T k v,x=.ref T/\H T=none/\kvs[i]?=some (k,v)/\H'=upd H T (.tup [kV k,v]),λi H=>H a=some (.bP o (.dK kvs))/\kvs.length<=i]
theorem Ap:∀{kvs:List (Key×V)}{vs:List (Key×Value)},Paired (λ(p:Key×V) (q:Key×Value)=>p.1=q.1/\RelV p.2 q.2) kvs vs->∀{i:Nat},i<kvs.length->∃k v x,kvs[i]?=some (k,v)/\vs[i]?=some (k,x)/\RelV v x
 |_,_,.nil,_,h=>by simp at h
 |p::_,G::_,.cons q _,0,_=>#[p.1,p.2,G.2,rfl,by rw[q.1];rfl,q.2]
 |_::_,_::_,.cons _ t,i+1,h=>by
  let#[k,v,x,I,J,L]:=Ap t (i:=i) (by simpa using h);show#[k,v,x,by simpa using I,by simpa using J,L]
theorem Dy {kvs:List (Key×V)}{vs:List (Key×Value)}(r:KV kvs vs) {i:Nat}(hi:i<kvs.length):∃k v x,kvs[i]?=some (k,v)/\vs[i]?=some (k,x)/\RelV v x:=Ap r hi
theorem vW {P:rz}{w:C1}{K:iF}{es:List KZ}{kx:Nat}{px:NO}(a it:Addr) (aT:a≠it) (o:Obj) (kvs:List (Key×V)):Turn P w K (.Tuple es kx px) (FR a o kvs) [it] it (λi h=>∃ok ov,IsItemIter h it a i kvs.length (r6 o) ok ov) where
 mem:=by simp
 obj:=λi h st b G=>by
  have e:b=it:=(by simpa using G);subst e;let#[ok,ov,st]:=st;show#[_,st,λv q=>by cases(show O0 _=N6 v from q)]
 keep:=λi h h' st k=>let ⟨ok,ov,st⟩:=st;#[ok,ov,k it (by simp) _ st]
 item:=by
  intro X hP hw hK hc i pins s σ H E I L st hg;subst hP hw hK;let#[ab,am]:=hg;let#[Y,O,f2,S,J,R]:=L it (by simp);let#[hd,vs,r,da]:=j0 I.bE ab;have ac:=r.length;let#[k,v,x,e1,e2,e3]:=Dy r am;let#[ok,ov,st]:=st;rw[ac]at st ⊢;show wpAny_pyNext_items_item st da e2 λap h' as ho hT hsz hk=>?_;have I1:Inv X pins σ H { s with heap:=h',toks:=s.toks }:=I.turned (λb o G e=>hk b o G e) Y O S J R;show#[0,wpAny_letOwnedTupleGo_items ho λN e4 U=>?_];replace U:Heap.SameBut it h' N:=U;have I2:Inv X pins σ H { s with heap:=N,toks:=s.toks }:=I1.turned (s:={ s with heap:=h',toks:=s.toks }) (h':=N) (t':=s.toks) (λb o G e=>(U.2 b G).trans e) Y O S J R;have fT:gn X pins H s.heap.objs.size:=I.jd (qs _) (I.bE.fresh (qs _));have ne:s.heap.objs.size≠it:=QX (Heap.lt_size st);have aB:=U.extBut _ _ ne hT;have I3:Inv X pins σ (upd H s.heap.objs.size (.tup [kV k,v])) { s with heap:=N,toks:=s.toks }:=I2.wa (its:=[ap,x]) fT #[_,aB,rfl,0] (.cons (qF as) (.cons e3 .nil)) uT;show#[.ref s.heap.objs.size,_,I3,rfl,#[_,k,v,rfl,fT.1,e1,rfl],#[2,e4],λb G=>?_];have nb:b≠s.heap.objs.size:=λq=>ne (by rw[<-q];simpa using G);rw[ah nb];show(L b G).1
 done:=by
  intro X hP hw hK hc i pins s σ H E I L st hg;subst hP hw hK;let#[ab,am]:=hg;let#[Y,O,f2,S,J,R]:=L it (by simp);let#[hd,vs,r,da]:=j0 I.bE ab;have ac:=r.length;let#[ok,ov,st]:=st;rw[ac]at st;show wpAny_pyNext_items_end (I.ok.hd hc) st da (by simp;omega) λh' eb=>#[rfl,I.turned (t':=s.toks) (λb o G e=>eb b o G e) Y O S J R]
 self:=λ_ _ _ _ _ st h=>by
  let#[ok,ov,st]:=st;show gQ st h
section
variable {X:Cx}
noncomputable def EO (H₀:Hp) (td:TE):TI:=λσ H R=>td σ H λx H1=>BD λa kvs=>Fg (x=.ref a) (H1 a=some (.dK kvs)) ((∀o G,H₀ a≠some (.bP o G))) (∀o,R (FR a o kvs) (upd H1 a (.bP o (.dK kvs))))
theorem nN {es:List KZ}{kx:Nat}{px:NO}{o:KZ}{apos cpos:NO}{td:TE}(ho:PE X o td) (ap:Nh o "items" X.env (eval o X.env)=eval o X.env:=by rfl) (aB:(apos.endLine==cpos.line)=true:=by rfl):PI X (.Tuple es kx px) (.Call (.Attribute o "items" apos) [] [] cpos) (EO X.H₀ td):=by
 intro pins s σ H R I h;show Px ap aB (bV (ho pins s σ H _ I h) λu s1 am=>?_);let#[x,H1,N,rx,a,kvs,ex,G,hn,q]:=am;subst ex;obtain rfl:u=Value.ref a:=rx;let#[t1,U,hd]:=kD N (.inl #[kvs,.inl G]);let#[_,_,vs,a0,S]:=gL N.bE G;show#["dict","dict.items",Nf,Py,PySem.F.type_dict_items,t1,U,Calls.callWith_builtin rfl (Qy ?_)];show Na Py S.typeIs PySem.F.entry_dict_items (PySem.F.args_dict_items_1 _) (meets_dict_items (bt X.prog X.w) a hd) #[#[vs,S],?_];have nw:=Heap.get?_push_size s1.heap (o:={ cls:=.type "dict_items",data:=.fields ([.ref a].toArray) }) rfl;have O:Inv X pins σ H1 { s1 with heap:=s1.heap.push { cls:=.type "dict_items",data:=.fields ([.ref a].toArray) },toks:=s1.toks }:=N.kept λb o e=>Heap.get?_push_of_some _ e;let#[_,aT,ac,ab,Bz]:=gL O.bE G;let#[ob,as,ep,J,g2,g3,g4]:=id Bz;have L:=O.freeze G J hn;have lt:a<(s1.heap.push { cls:=.type "dict_items",data:=.fields ([.ref a].toArray) }).objs.size:=Heap.lt_size J;have Y:(s1.heap.push { cls:=.type "dict_items",data:=.fields ([.ref a].toArray) }).DictAt (bt X.prog X.w) a ac (r6 ob):=#[ob,as,J,g2,by unfold r6;rw[g3],g4];show wpAny_pyIter_items #[_,nw,1] Y ?_;show#[(s1.heap.push { cls:=.type "dict_items",data:=.fields ([.ref a].toArray) }).objs.size,[(s1.heap.push { cls:=.type "dict_items",data:=.fields ([.ref a].toArray) }).objs.size],_,FR a ob kvs,0,L.kept (t':=s1.toks) λb o e=>Heap.get?_push_of_some _ e,vW a _ (Lc lt) ob kvs,#[.none,.none,?_],λb hb=>?_,q ob]
 .rw[ab.length];show Heap.get?_push_size _ rfl
 .have e:b=(s1.heap.push { cls:=.type "dict_items",data:=.fields ([.ref a].toArray) }).objs.size:=(by simpa using hb);subst e;show L.jd (qs _) (L.bE.fresh (qs _))
end
noncomputable def Io (a:Addr) (o:Obj) (kvs:List (Key×V)):It :=
 #[λi H=>H a=some (.bP o (.dK kvs))/\i<kvs.length,λi H x H'=>H'=H/\∃k,kvs[i]?=some (k,x),λi H=>H a=some (.bP o (.dK kvs))/\kvs.length<=i]
theorem yt {P:rz}{w:C1}{K:iF}{tg:KZ}(a it:Addr) (ap:a≠it) (o:Obj) (kvs:List (Key×V)):Turn P w K tg (Io a o kvs) [it] it (λi h=>h.IsValIter it a i kvs.length (r6 o)) where
 mem:=by simp
 obj:=λi h st b G=>by
  have e:b=it:=(by simpa using G);subst e;let#[ob,h1,_,J]:=st;show#[ob,h1,λv z=>by rw[J]at z;cases z]
 keep:=λi h h' ⟨ob,h1,h2,J⟩ k=>#[ob,k it (by simp) _ h1,h2,J]
 item:=by
  intro X hP hw S hc i pins s σ H E I L st hg;subst hP hw S;let#[U,ab]:=hg;let#[f0,f1,f2,f3,R,O]:=L it (by simp);let#[hd,vs,r,N]:=j0 I.bE U;have Y:=r.length;let#[k,v,x,e1,e2,e3]:=Dy r ab;rw[Y]at st ⊢;show wpAny_pyNext_values_item st N e2 λh' ac am=>?_;have I1:Inv X pins σ H { s with heap:=h',toks:=s.toks }:=I.turned (λb o G e=>(am.2 b G).trans e) f0 f1 f3 R O;let#[ob,h1,h2,J]:=id ac;show#[0,mX (s:={ s with heap:=h' }) (n := "dict_valueiterator") h1 h2 J av #[v,H,I1,e3,#[rfl,k,e1],ac,λb G=>(L b G).1]]
 done:=by
  intro X hP hw S hc i pins s σ H E I L st hg;subst hP hw S;let#[U,ab]:=hg;let#[f0,f1,f2,f3,R,O]:=L it (by simp);let#[hd,vs,r,N]:=j0 I.bE U;have Y:=r.length;rw[Y]at st;show wpAny_pyNext_values_end (I.ok.hd hc) st N (by simp;omega) λh' eb=>#[rfl,I.turned (t':=s.toks) (λb o G e=>eb b o G e) f0 f1 f3 R O]
 self:=λ_ _ _ _ _ st h=>wpAny_pyIter_valiter st h
section
variable {X:Cx}{tg:KZ}
noncomputable def Ht (H₀:Hp) (td:TE):TI:=λσ H R=>td σ H λx H1=>BD λa kvs=>Fg (x=.ref a) (H1 a=some (.dK kvs)) ((∀o G,H₀ a≠some (.bP o G))) (∀o,R (Io a o kvs) (upd H1 a (.bP o (.dK kvs))))
theorem C5 {o:KZ}{apos cpos:NO}{td:TE}(ho:PE X o td) (am:Nh o "values" X.env (eval o X.env)=eval o X.env:=by rfl) (as:(apos.endLine==cpos.line)=true:=by rfl):PI X tg (.Call (.Attribute o "values" apos) [] [] cpos) (Ht X.H₀ td):=by
 intro pins s σ H R I h;show Px am as (bV (ho pins s σ H _ I h) λu s1 Y=>?_);let#[x,H1,N,rx,a,kvs,ex,G,hn,q]:=Y;subst ex;obtain rfl:u=Value.ref a:=rx;let#[t1,U,hd]:=kD N (.inl #[kvs,.inl G]);let#[_,_,vs,aT,S]:=gL N.bE G;show#["dict","dict.values",Nf,Pl,PySem.F.type_dict_values,t1,U,Calls.callWith_builtin rfl (Qy ?_)];show Na Pl S.typeIs PySem.F.entry_dict_values (PySem.F.args_dict_values_1 _) (meets_dict_values (bt X.prog X.w) a hd) #[#[vs,S],?_];have nw:=Heap.get?_push_size s1.heap (o:={ cls:=.type "dict_values",data:=.fields ([.ref a].toArray) }) rfl;have O:Inv X pins σ H1 { s1 with heap:=s1.heap.push { cls:=.type "dict_values",data:=.fields ([.ref a].toArray) },toks:=s1.toks }:=N.kept λb o e=>Heap.get?_push_of_some _ e;let#[_,aB,ac,ab,Bz]:=gL O.bE G;let#[ob,ap,ep,J,g2,g3,g4]:=id Bz;have L:=O.freeze G J hn;have lt:a<(s1.heap.push { cls:=.type "dict_values",data:=.fields ([.ref a].toArray) }).objs.size:=Heap.lt_size J;have da:(s1.heap.push { cls:=.type "dict_values",data:=.fields ([.ref a].toArray) }).DictAt (bt X.prog X.w) a ac (r6 ob):=#[ob,ap,J,g2,by unfold r6;rw[g3],g4];show wpAny_pyIter_values #[_,nw,1] da ?_;show#[(s1.heap.push { cls:=.type "dict_values",data:=.fields ([.ref a].toArray) }).objs.size,[(s1.heap.push { cls:=.type "dict_values",data:=.fields ([.ref a].toArray) }).objs.size],_,Io a ob kvs,0,L.kept (t':=s1.toks) λb o e=>Heap.get?_push_of_some _ e,yt a _ (Lc lt) ob kvs,?_,λb hb=>?_,q ob]
 .rw[ab.length];show#[_,Heap.get?_push_size _ rfl,1]
 .have e:b=(s1.heap.push { cls:=.type "dict_values",data:=.fields ([.ref a].toArray) }).objs.size:=(by simpa using hb);subst e;show L.jd (qs _) (L.bE.fresh (qs _))
end
section
variable {X:Cx}{tg:KZ}
end
section
variable {X:Cx}{C:Addr}{x:Str}{np hpos pos:NO}{body suite:List K4}{b₀:K4}{tb:TSX}{ts:TS}
end
end L2
namespace Srt
open PySem PyProof.Rows
section
variable {prog:rz}{w:C1}{A:KY}{E:Value->ll->Prop}{s:ll}{a₀:Array By}
end
section
variable {prog:rz}{w:C1}{A:KY}{E:Value->ll->Prop}{s:ll}
end
section
variable {prog:rz}{w:C1}{A:KY}{E:Value->ll->Prop}{s:ll}{T:String}{r d:Addr}{n:Nat}{P:Nat->Value->Prop}{OK:Heap->Prop}
end
end Srt
namespace L2
open PySem PySem.Spec PyProof.Rows
section
variable {X:Cx}
end
end L2
namespace Sp
open PySem PySem.StrLaws PySem.Builtin PySem.Builtin.Str
end Sp
namespace L2
open PySem PySem.Spec PyProof.Rows PySem.Builtin PySem.Builtin.Str
section
variable {X:Cx}
theorem mG (S:X.calm=true):dB X (.builtin "sum") (λxs H Q=>∃(p:Addr) (ns:List Int),xs=[.ref p]/\bA X.K H p (ns.map V.int)/\Q (.int ns.sum) H):=by
 intro pins s σ H xs us Q I r h;let#[p,ns,rfl,R,q]:=h;let#[u,rfl,L]:=vals1 r;cases L;let#[its,N,pl,Y]:=I.list R;have G:=intsAre_of N;have O:=G.numsOf;let#[ys,e]:=G.allInts.items;have J:=pl.isList;rw[e]at J;show sum_intListG (I.ok.hd S) J λh' tk t' U=>?_;have hs:preSum (numAt ys) ys.size=ns.sum:=by
  rw[preSum_eq,LF (by simp), <-nums_intItems, <-e];rw[show its.toArray.toList=its from rfl,O]
 show#[.int ns.sum,H,I.kept U,#[_,by rw[hs]],q]
end
section
variable {X:Cx}
theorem yO:dB X (.type "range") (λxs H Q=>∃i j:Int,xs=[.int i,.int j]/\∀p,H p=none->Q (.ref p) (upd H p (.rng i j))):=by
 intro pins s σ H xs us Q I r h;let#[i,j,rfl,q]:=h;let#[u,G,rfl,#[t,rfl],#[t',rfl]]:=vals2 r;show call_range_2 #[.ref s.heap.objs.size,_,I.laid (λb o e=>Heap.get?_push_of_some _ e) (qs _) ?_,rfl,q _ (I.bE.fresh (qs _))];show#[2,_,Heap.get?_push_size s.heap rfl]
end
section
variable {X:Cx}
noncomputable def wZ (K:iF):List V->Hp->VK->Prop:=λxs H Q=>∃p ys,xs=[.ref p]/\(bA K H p ys\/bL K H p ys)/\Q (.int (ys.length:Nat)) H
theorem xT:dB X (.builtin "len") (wZ X.K):=bG
end
section
variable {t u r:TS}{D:Ends}{σ:St}{H:Hp}
noncomputable abbrev Le (u G:TS):Prop:=∀D σ H,u D σ H->G D σ H
theorem Le.rfl:Le u u:=λ_ _ _ h=>h
theorem Kw {c:TT}(k:∀t' G,Le t t'->Le u G->mV c t' G D σ H):mV c t u D σ H:=k t u Le.rfl Le.rfl
theorem eM {te:TE}{i:Nat}(k:∀Q:V->Hp->Prop,(∀x H1,u D (σ.set i (some x)) H1->Q x H1)->te σ H Q):jL (AQ te (lX i)) u D σ H:=k _ λ_ _ h=>h
theorem I0 {te:TE}(k:∀Q:V->Hp->Prop,(∀x H1,D.rt x H1->Q x H1)->te σ H Q):He te D σ H:=k _ λ_ _ h=>h
theorem bQ {A B:Hp->Prop}{Q:Bool->Hp->Prop}(e:Q=λb H1=>if b=true then A H1 else B H1):(∀H1,A H1->Q true H1)/\∀H1,B H1->Q false H1:=by
 subst e;show#[λ_ h=>eL h,λ_ h=>bX h]
theorem gP {c:TT}(k:∀Q:Bool->Hp->Prop,(∀H1,t { D with nx:=r D } σ H1->Q true H1)->(∀H1,r D σ H1->Q false H1)->c σ H Q):jL (mV c t nc) r D σ H:=k _ (bQ rfl).1 (bQ (A:=λH1=>t { D with nx:=r D } σ H1) rfl).2
theorem tq {c:TT}(k:∀Q:Bool->Hp->Prop,(∀H1,t D σ H1->Q true H1)->(∀H1,D.nx σ H1->Q false H1)->c σ H Q):mV c t nc D σ H:=k _ (bQ rfl).1 (bQ (A:=λH1=>t D σ H1) rfl).2
theorem oU {Q:Bool->Hp->Prop}{b:Bool}{H:Hp}(t:b=true->Q true H) (f:¬ b=true->Q false H):Q b H:=by
 cases b
 .show f (by intro z;cases z)
 .show t rfl
theorem hV {c:TT}(G:St->Hp->Prop) (mk:(∀σ H,G σ H->r D σ H)->∀Q:Bool->Hp->Prop,(∀H1,t { D with nx:=r D } σ H1->Q true H1)->(∀H1,G σ H1->Q false H1)->c σ H Q) (h:∀σ H,G σ H->r D σ H):jL (mV c t nc) r D σ H:=mk h _ (bQ rfl).1 λH1 p=>(bQ (A:=λH1=>t { D with nx:=r D } σ H1) rfl).2 H1 (h _ _ p)
noncomputable def Ev (te:TE) (σ:St) (H:Hp) (v:V):Prop:=∀Q:V->Hp->Prop,Q v H->te σ H Q
theorem iV {i:Nat}{v:V}(h:σ[i]?=some (some v)):Ev (sW i) σ H v:=λ_ q=>#[_,h,q]
theorem iU {v:V}:Ev (tC v) σ H v:=λ_ q=>q
theorem yV {ta tb:TE}{x y:V}{Q:Bool->Hp->Prop}(a:Ev ta σ H x) (b:Ev tb σ H y) (s:tf x y=true) (n:¬ x=y) (q:Q false H):oj (BB E5 ta tb) σ H Q:=a _ (b _ #[s,0,by rw[decide_eq_false n];show q])
theorem eqT {ta tb:TE}{x:V}{Q:Bool->Hp->Prop}(a:Ev ta σ H x) (b:Ev tb σ H x) (s:tf x x=true) (q:Q true H):oj (BB E5 ta tb) σ H Q:=a _ (b _ #[s,0,by rw[decide_eq_true rfl];show q])
theorem share (G:St->Hp->Prop) (mk:∀I,(∀σ H,G σ H->I D σ H)->jL t I D σ H) (h:∀σ H,G σ H->u D σ H):jL t u D σ H:=mk u h
end
section
variable {X:Cx}
theorem mf (R:X.calm=true):dB X (.type "list") (λxs H Q=>∃(p:Addr) (i:Int) (n:Nat),xs=[.ref p]/\H p=some (.rng i (i+n))/\n<=1000 /\ -1000<=i/\i<=1000/\∀l,H l=none->Q (.ref l) (upd H l (.lst ((KR n).map λk:Nat=>V.int (i+k))))):=by
 intro pins s σ H xs us Q I r h;let#[p,i,n,rfl,O,hn,i0,i1,q]:=h;let#[u,rfl,Y]:=vals1 r;cases Y;have hs:=vu;let#[t,u,v,e]:=(show bT X.prog X.w H s.heap p (.rng i (i+n))from I.bE p _ O);show call_list_range (n:=n) (I.ok.hd R) e (small_one af af af af) (by rw[rangeSize_one];split<;>omega) af λh' tk G U kp L it=>?_;have N:Vals ((KR n).map λk:Nat=>V.int (i+k)) G.toList:=by
  let#[h1,h2]:=it;show qH ?_ λj x v J hv=>?_
  .rw[mu,Lr];simpa using h1.symm
  .rw[se]at J;let#[k,S,rfl]:=pf.mp J;have ab:k=j:=by
    have:=kz.mp S;let#[_,e]:=this;simpa using e.symm
   let#[t,e]:=h2 j v (by simpa using hv);show#[t,by rw[e,ab];congr 1;omega]
 show#[.ref s.heap.objs.size,_,I.laid kp (qs _) (show bT X.prog X.w _ h' _ (.lst ((KR n).map λk:Nat=>V.int (i+k)))from#[by rw[mu,Lr];omega,G.toList,U,N,by simpa using L]),rfl,q _ (I.bE.fresh (qs _))]
end
theorem vG {a:Addr}{o:Obj}{kvs:List (Key×V)}{caps:List (Str×Nat)}{te:TE}{σ:St}{H:Hp}{I:List V->Hp->Prop}(Pv:Nat->List V->Hp->Prop) (N:Pv 0 [] H)
  (O:∀i zs H,i<=kvs.length->Pv i zs H->H a=some (.bP o (.dK kvs)))
  (hs:∀i k v zs H,kvs[i]?=some (k,v)->Pv i zs H->te (fW caps σ (some (kV k))) H (λz H3=>zs.length<sizeLine/\Pv (i+1) (zs++[z]) H3))
  (hd:∀zs H,Pv kvs.length zs H->I zs H):∃W:Nat->Nat->List V->Hp->Prop,(∃m,W 0 m [] H)/\hX caps oH te σ (ES a o kvs) I W:=by
 show#[λi m zs H=>m=kvs.length-i/\i<=kvs.length/\Pv i zs H,#[kvs.length,by simp,KU _,N],?_];rintro i m zs H ⟨rfl,hi,p⟩;have J:=O i zs H hi p;by_cases G:i<kvs.length
 .show .inr #[#[J,G],Pv (i+1),λS H' L=>#[kvs.length-(i+1),Ls (Mm kvs) i G,rfl,G,L],?_];rintro x H' ⟨rfl,k,v,R,rfl⟩;unfold oH;dsimp only;rw[Tz rfl];show hs i k v zs _ R p
 .have e:i=kvs.length:=af;subst e;show .inl #[#[J,qs _],hd zs H p]
theorem qN {caps:List (Str×Nat)}{te:TE}{σ:St}{H:Hp}{lo st:Int}{n:Nat}{I:List V->Hp->Prop}(Pv:Nat->List V->Hp->Prop) (L:Pv 0 [] H)
  (hs:∀i ys H,i<n->Pv i ys H->te (fW caps σ (some (.int (lo+i*st)))) H (λy H3=>ys.length<sizeLine/\Pv (i+1) (ys++[y]) H3))
  (hd:∀ys H,Pv n ys H->I ys H):∃W:Nat->Nat->List V->Hp->Prop,(∃m,W 0 m [] H)/\hX caps oH te σ (Fy lo st n) I W:=by
 show#[λi m ys H=>m=n-i/\i<=n/\Pv i ys H,#[n,by simp,KU _,L],?_];rintro i m ys H ⟨rfl,hi,p⟩;by_cases G:i<n
 .show .inr #[G,Pv (i+1),λN H' J=>#[n-(i+1),Ls n i G,rfl,G,J],λx H' y=>?_];let#[e,y]:=y;subst e y;unfold oH;dsimp only;rw[Tz rfl];show hs i ys _ G p
 .have e:i=n:=af;subst e;show .inl #[qs _,hd ys H p]
theorem CH {K:iF}{a b:Addr}{xs ys:List V}{g:TG}{tb:TS}{D:Ends}{σ:St}{H:Hp}(Pv:Nat->St->Hp->Prop) (h0:Pv 0 σ H) (he:xs.length=ys.length)
  (hl:∀i σ H,i<=xs.length->Pv i σ H->bA K H a xs/\bA K H b ys)
  (hs:∀i x y σ H T,xs[i]?=some x->ys[i]?=some y->H T=none->Pv i σ H->g (.ref T) σ (upd H T (.tup [x,y])) λO H2=>tb { D with nx:=Pv (i+1),ct:=Pv (i+1),bk:=D.nx } O H2)
  (hd:∀σ H,Pv xs.length σ H->D.nx σ H) :
  ∃W:Nat->Nat->St->Hp->Prop,(∃m,W 0 m σ H)/\∀i m σ H,W i m σ H ->
   ((Gh K a b).stop i H/\D.nx σ H)\/((Gh K a b).go i H/\∃N:St->Hp->Prop,(∀I H',N I H'->∃R,R<m/\W (i+1) R I H')/\∀x H',(Gh K a b).Bx i H x H'->g x σ H' λO H2=>tb { D with nx:=N,ct:=N,bk:=D.nx } O H2):=by
 show#[λi m σ H=>m=xs.length-i/\i<=xs.length/\Pv i σ H,#[xs.length,by simp,KU _,h0],?_];rintro i m σ H ⟨rfl,hi,p⟩;let#[L,J]:=hl i σ H hi p;by_cases G:i<xs.length
 .have Y:i<ys.length:=LH G he;show .inr #[#[xs,ys,xs[i],ys[i],L,J,by simp[G],by simp[Y]],Pv (i+1),λI H' S=>#[xs.length-(i+1),Ls (Mm xs) i G,rfl,G,S],?_];rintro v H' ⟨T,x,y,rfl,hT,rfl,e1,U⟩;show hs i x y σ H T (e1 _ L) (U _ J) hT p
 .have e:i=xs.length:=af;subst e;show .inl #[#[xs,ys,L,J,.inl (qs _)],hd σ H p]
inductive Md (P:rz) (w:C1) (K:iF) (mg:Str->Option Value) (base:Heap) (cx:uf) (k:Nat) (C:Addr) (m:Str) (sp:Sp):Prop
 |mk (f:Addr) (fd:qj) (ps:List Str) (_:a8 P w K mg base cx k f fd ps sp) (_:Binds K fd ps []) (_:Meth K C m f):Md P w K mg base cx k C m sp
inductive Df (P:rz) (w:C1) (K:iF) (mg:Str->Option Value) (base:Heap) (cx:uf) (k:Nat) (x:Str) (sp:Sp):Prop
 |mk (f:Addr) (fd:qj) (ps:List Str) (_:a8 P w K mg base cx k f fd ps sp) (_:Binds K fd ps []) (_:mg x=some (.ref f)) (_:Qj K (.ref f)=true):Df P w K mg base cx k x sp
section
variable {X:Cx}{CX:uf}{k j:Nat}{C:Addr}{sp:Sp}{E:XK}{x m:Str}{p pos apos:NO}{e o:KZ}{es:List KZ}{ta:TE}{t:TA}
theorem pm {pl:QT Bool}(N:PE X o ta) (c:sg X.K C) (F:Md X.prog X.w X.K X.mg X.base CX k C m sp) (R:dy j X.A) (L:Passes CX X E) (S:PA X (e::es) t) (O:k<=j:=by decide)
  (J:starEach (e::es) X.env=(false,eval e X.env)::starEach es X.env:=by rfl) (G:(backTo pos (starEach es X.env)).any (·.1)=false:=by rfl)
  (I:eval (.Call (.Attribute o m apos) (e::es) [] pos) X.env=(do
   let ov <-eval o X.env
   QU apos.atName
   let (f,first) <-OY [ov] (Po ov m pl)
   RV pos f first (backTo pos (starEach (e::es) X.env)) (Pp pos (NR [] X.env))):=by rfl) :
  PE X (.Call (.Attribute o m apos) (e::es) [] pos) (xu C m sp [] E ta t):=by
 let#[f,fd,_,g,b,q]:=F;show CU N c q g (R.mono O) b .nil L S J G I
theorem ug {pl:QT Bool}(J:PE X o ta) (c:sg X.K C) (F:Md X.prog X.w X.K X.mg X.base CX k C m sp) (N:dy j X.A) (I:Passes CX X E) (L:k<=j:=by decide)
  (G:eval (.Call (.Attribute o m apos) [] [] pos) X.env=(do
   let ov <-eval o X.env
   QU apos.atName
   let (f,first) <-OY [ov] (Po ov m pl)
   RV pos f first (backTo pos (starEach [] X.env)) (Pp pos (NR [] X.env))):=by rfl) :
  PE X (.Call (.Attribute o m apos) [] [] pos) (xu C m sp [] E ta Cc):=by
 let#[f,fd,_,g,b,q]:=F;show ze J c q g (N.mono L) b .nil I G
theorem pc (F:Df X.prog X.w X.K X.mg X.base CX k x sp) (O:dy j X.A) (J:Passes CX X E) (S:PA X (e::es) t) (G:Gl X x:=by rfl) (N:k<=j:=by decide)
  (R:(x==("__debug__" : Str))=false:=by decide) (L:starEach (e::es) X.env=(false,eval e X.env)::starEach es X.env:=by rfl) (I:(backTo pos (starEach es X.env)).any (·.1)=false:=by rfl) :
  PE X (.Call (.Name x p) (e::es) [] pos) (DF sp [] E t):=by
 let#[f,fd,_,g,b,q,r]:=F;show B0 g (O.mono N) G q r b .nil J S R L I
end
end L2
namespace St
open PySem L2
noncomputable def top (i:Nat):K4:=PySem.Challenge.pw_ownroom_k16_put_out_and_fetched.main.body.getD i (.Pass #[(0),(0),(0),(0)])
noncomputable abbrev mW:K4:=inClass (top 10) 0
noncomputable abbrev zp:K4:=inClass (top 10) 1
noncomputable abbrev Af:K4:=inClass (top 10) 3
noncomputable abbrev Bb:K4:=inClass (top 10) 2
noncomputable abbrev zt:K4:=inClass (top 10) 7
noncomputable abbrev uB:K4:=inClass (top 10) 4
noncomputable abbrev vV:K4:=inClass (top 10) 5
noncomputable abbrev Fh:K4:=inClass (top 10) 6
noncomputable abbrev qt:K4:=inClass (top 10) 8
theorem kc:¬ (("owners" : Str) = "contents"):=ao
noncomputable def jv (ow co:Addr):List (Str×V):=bo "contents" (.ref co) (bo "owners" (.ref ow) [])
theorem eB (ow co:Addr):(jv ow co).lookup ("owners" : Str)=some (.ref ow):=by
 unfold jv;rw[aG,Tx kc,aG,Tz rfl]
theorem p7 (ow co:Addr):(jv ow co).lookup ("contents" : Str)=some (.ref co):=by
 unfold jv;rw[aG,Tz rfl]
theorem aY (ow co:Addr) {m:Str}(h1:¬ m = "contents") (h2:¬ m = "owners"):(jv ow co).lookup m=none:=by
 unfold jv;rw[aG,Tx h1,aG,Tx h2]
 all_goals rfl
noncomputable def dP (H:Hp) (M:Addr->Prop):V->Option (List Int)->Prop
 |.non,none=>True
 |.ref a,some ns=>¬ M a/\H a=some (.lst (ns.map V.int))
 |_,_=>False
structure aU (C:Addr) (H:Hp) (M:Addr->Prop) (p ow co:Addr) (os:List Int) (pg:List (Option (List Int))):Prop where
 ob:∃dx,H p=some (.ins C dx (jv ow co))
 hw:H ow=some (.lst (os.map V.int))
 hc:∃cs,H co=some (.lst cs)/\Paired (dP H M) cs pg
noncomputable def Off (B:Addr->Prop) (H H':Hp):Prop:=∀b o,H b=some o->¬ B b->H' b=some o
theorem dP.off {B M:Addr->Prop}{H H':Hp}(h:Off B H H') (G:∀b,B b->M b):∀{v:V}{x:Option (List Int)},dP H M v x->dP H' M v x
 |.non,none,_=>trivial
 |.ref a,some ns,⟨h1,h2⟩=>#[h1,h a _ h2 λz=>h1 (G a z)]
theorem iK {B M:Addr->Prop}{H H':Hp}(h:Off B H H') (G:∀b,B b->M b) {cs:List V}{pg:List (Option (List Int))}(q:Paired (dP H M) cs pg):Paired (dP H' M) cs pg :=
 Paired.Ah q λ_ _ z=>z.off h G
theorem nu {α G:Type}{F:α->G->Prop}:∀{xs:List α}{ys:List G}{i:Nat}{y:G},Paired F xs ys->ys[i]?=some y->∃x,xs[i]?=some x/\F x y
 |_,_,_,_,.nil,e=>by simp at e
 |_,_,0,_,.cons r _,e=>by simp at e;subst e;show#[0,r]
 |_,_,i+1,y,.cons _ t,e=>by
  let#[u,h1,h2]:=nu (i:=i) (y:=y) t (by simpa using e);show#[u,by simpa using h1,h2]
theorem jf {α G:Type}{F:α->G->Prop}{x:α}{y:G}(r:F x y):∀{xs:List α}{ys:List G}(i:Nat),Paired F xs ys->Paired F (xs.set i x) (ys.set i y)
 |_,_,_,.nil=>.nil
 |_,_,0,.cons _ t=>.cons r t
 |_,_,i+1,.cons q t=>.cons q (jf r i t)
theorem mi {α G:Type}{F:α->G->Prop}{x:α}{y:G}(r:F x y):∀n:Nat,Paired F (replicate n x) (replicate n y)
 |0=>.nil
 |n+1=>.cons r (mi r n)
structure Txt (K:iF) (mg:Str->Option Value) (C:Addr):Prop where
 cl:sg K C
 nO:c6 K C "owners"
 nC:c6 K C "contents"
 len:mg "len" = none
 list:mg "list" = none
 pc:∃u,mg "PAGE_CELLS" = some u/\RelV (.int 8) u
inductive hU (C:Addr) (vs:List V) (H:Hp) (Q:VK) (e3:XK):Prop
 |mk (p dx:Addr) (n:Nat) (_:vs=[.ref p,.int n]) (_:n<=60) (_:H p=some (.ins C dx [])) (_:∀(ow co:Addr) (H':Hp),H ow=none->H co=none->ow≠co->(∀M,aU C H' M p ow co (replicate n 0) (replicate n none))->Off (· = p) H H'->Q .non H'):hU C vs H Q e3
noncomputable def dR (os:List Int) (n:Int):Int:=if n<0\/(os.length:Int)<=n then 0 else os.getD n.toNat 0
theorem lq {os:List Int}{n:Int}(h:dR os n≠0):0<=n/\n.toNat<os.length/\n<os.length/\n=(n.toNat:Int):=by
 unfold dR at h;by_cases z:n<0\/(os.length:Int)<=n
 .rw[Tz z]at h;show absurd rfl h
 .omega
theorem wq {os:List Int}{j:Nat}(h:j<os.length):dR os (j:Int)=os.getD j 0:=by
 unfold dR;rw[Tx af];simp
inductive gD (C:Addr) (vs:List V) (H:Hp) (Q:VK) (e3:XK):Prop
 |mk (p ow co:Addr) (M:Addr->Prop) (os:List Int) (pg:List (Option (List Int))) (n:Int) (_:vs=[.ref p,.int n]) (_:aU C H M p ow co os pg) (_:os.length<=60) (_:Q (.int (dR os n)) H):gD C vs H Q e3
inductive gu (C:Addr) (vs:List V) (H:Hp) (Q:VK) (e3:XK):Prop
 |mk (p ow co:Addr) (M:Addr->Prop) (os:List Int) (pg:List (Option (List Int))) (n:Int) (_:vs=[.ref p,.int n]) (_:aU C H M p ow co os pg) (_:os.length<=60) (_:dR os n≠0) (_:Q .non H):gu C vs H Q e3
inductive vC (C:Addr) (vs:List V) (H:Hp) (Q:VK) (e3:XK):Prop
 |mk (p ow co:Addr) (M:Addr->Prop) (os:List Int) (pg:List (Option (List Int))) (_:vs=[.ref p]) (_:aU C H M p ow co os pg) (_:M ow) (_:M co) (_:(∀b,M b->H b≠none)) (_:ow≠co) (_:os.length=pg.length) (_:os.length<=60) (_:(¬ (0:Int)∈os->Q .non H)) (_:((0:Int)∈os->∀H',aU C H' M p ow co (os.set (os.idxOf 0) 1) (pg.set (os.idxOf 0) (some (replicate 8 0)))->Off (λb=>b=ow\/b=co) H H'->Q (.int (os.idxOf 0:Nat)) H')):vC C vs H Q e3
inductive qV (C:Addr) (vs:List V) (H:Hp) (Q:VK) (e3:XK):Prop
 |mk (p ow co:Addr) (M:Addr->Prop) (os:List Int) (pg:List (Option (List Int))) (n:Int) (_:vs=[.ref p,.int n]) (_:aU C H M p ow co os pg) (_:M ow) (_:M co) (_:ow≠co) (_:os.length<=60) (_:dR os n≠0) (_:∀H',aU C H' M p ow co (os.set n.toNat (dR os n-1)) pg->Off (λb=>b=ow\/b=co) H H'->Q .non H'):qV C vs H Q e3
inductive qc (C:Addr) (vs:List V) (H:Hp) (Q:VK) (e3:XK):Prop
 |mk (p ow co:Addr) (M:Addr->Prop) (os:List Int) (pg:List (Option (List Int))) (n:Int) (_:vs=[.ref p,.int n]) (_:aU C H M p ow co os pg) (_:M ow) (_:M co) (_:ow≠co) (_:os.length<=60) (_:dR os n≠0) (_:∀H',aU C H' M p ow co (os.set n.toNat (dR os n+1)) pg->Off (λb=>b=ow\/b=co) H H'->Q .non H'):qc C vs H Q e3
inductive qp (C:Addr) (vs:List V) (H:Hp) (Q:VK) (e3:XK):Prop
 |mk (p ow co:Addr) (M:Addr->Prop) (os:List Int) (pg:List (Option (List Int))) (_:vs=[.ref p]) (_:aU C H M p ow co os pg) (_:Q (.int (os.count 0:Nat)) H):qp C vs H Q e3
inductive lN (C:Addr) (vs:List V) (H:Hp) (Q:VK) (e3:XK):Prop
 |mk (p ow co:Addr) (M:Addr->Prop) (os:List Int) (pg:List (Option (List Int))) (n:Int) (ns:List Int) (_:vs=[.ref p,.int n]) (_:aU C H M p ow co os pg) (_:os.length<=60) (_:dR os n≠0) (_:pg[n.toNat]?=some (some ns)) (_:∀l,H l=none->Q (.ref l) (upd H l (.lst (ns.map V.int)))):lN C vs H Q e3
inductive wM (K:iF) (C:Addr) (vs:List V) (H:Hp) (Q:VK) (e3:XK):Prop
 |mk (p ow co c:Addr) (M:Addr->Prop) (os:List Int) (pg:List (Option (List Int))) (n:Int) (ns:List Int) (_:vs=[.ref p,.int n,.ref c]) (_:aU C H M p ow co os pg) (_:M ow) (_:M co) (_:(∀b,M b->H b≠none)) (_:ow≠co) (_:os.length=pg.length) (_:os.length<=60) (_:dR os n≠0) (_:bA K H c (ns.map V.int)) (_:∀H',aU C H' M p ow co os (pg.set n.toNat (some ns))->Off (λb=>b=ow\/b=co) H H'->Q .non H'):wM K C vs H Q e3
section
variable {P:rz}{w:C1}{K:iF}{mg:Str->Option Value}{base:Heap}
theorem rep1 {α:Type}(x:α) (n:Nat):(replicate n [x]).flatten=replicate n x:=by
 induction n with
 |zero=>rfl
 |succ n G=>rw[Mu,MD,G,Mu];rfl
theorem Je:aC ["self","many"] ["self","many"] (aw mW):=L2.bC
theorem rf {f C:Addr}{fd:qj}(F:cI K "__init__" "Store.__init__" mW f fd) (T:Txt K mg C):a8 P w K mg base aV 1 f fd ["self","many"] (hU C):=by
 show F.dh Je (λa1 A outer s H vs Q E hr h=>?_);let#[p,dx,n,rfl,hn,S,k]:=h;show#[_,ag (fE (pv 0) (aA mz (cg (aa aj ai)) (pv 1)) rfl) (ak (fE (pv 0) (aA mz (cg (aa rY ai)) (pv 1)) rfl)),?_];have hs:=vu;show#[av,λL am=>?_];have ap:p≠L:=ar S am;show#[0,L,n,0,rfl,ae,af,af,by rw[LK];omega,λow J=>?_];have aT:ow≠L:=λz=>(by rw[z,ae]at J;cases J);rw[ah aT]at J;have R:p≠ow:=ar S J;show#[0,p,C,dx,[],rfl,by rw[ah R,ah ap];show S,T.cl,T.nO,av,?_];show#[av,λN I=>?_];have Y:N≠p:=λz=>(by rw[z,ae]at I;cases I);rw[ah Y]at I;have ac:N≠ow:=λz=>(by rw[z,ae]at I;cases I);rw[ah ac]at I;have a0:N≠L:=λz=>(by rw[z,ae]at I;cases I);rw[ah a0]at I;show#[0,N,n,0,rfl,ae,af,af,by rw[LK];omega,λco G=>?_];have aB:co≠N:=λz=>(by rw[z,ae]at G;cases G);rw[ah aB]at G;have U:co≠p:=λz=>(by rw[z,ae]at G;cases G);rw[ah U]at G;have O:co≠ow:=λz=>(by rw[z,ae]at G;cases G);rw[ah O]at G;have as:co≠L:=λz=>(by rw[z,ae]at G;cases G);rw[ah as]at G;show#[0,p,C,dx,0,by rw[ah (qw U),ah (qw Y),ae],T.cl,T.nC,by change 1<1000;decide,?_];rw[show((n:Int)).toNat=n by omega,rep1,rep1];show k ow co _ J G (qw O) (λM=>#[#[dx,ae],?_,#[_,?_,mi (show dP _ M .non none from trivial) n]]) λb o e hb=>?_
 .rw[ah (qw R),ah (qw O),ah (qw ac),ah (qw R),ae,List.map_replicate]
 .rw[ah U,ae]
 .have ab:b≠p:=hb;rw[ah ab,ah (ar e G),ah (ar e I),ah ab,ah (ar e J),ah (ar e am)];show e
theorem Il:aC ["self","n"] ["self","n"] (aw uB):=L2.bC
theorem zu {f C:Addr}{fd:qj}(F:cI K "count" "Store.count" uB f fd) (T:Txt K mg C):a8 P w K mg base aV 1 f fd ["self","n"] (gD C):=by
 show F.dh Il (λL A outer s H vs Q E N h=>?_);let#[p,ow,co,M,os,pg,n,rfl,S,O,k]:=h;let#[#[dx,h1],I,_]:=id S;show#[_,ag (aS (ic (aD gI (pv 1) aj (aI _)) (gF (aD Gr (pv 1) (aQ bG (by rfl) T.len boot_len (aa (aK (pv 0) rfl) ai)) (aI _)))).pt (ak (aE aj)) aF)
  (ak (aE (aP cw (aK (pv 0) rfl) (pv 1) bW))),?_]
 show#[0,_,0,rfl,0,?_];show gR (λc=>?_) (λc=>?_)
 .show eL ?_;have J:n<0:=(by simpa using c);unfold dR at k;rw[Tz (.inl J)]at k;show k
 .have J:¬ n<0:=(by simpa using c);show#[0,0,p,C,dx,_,0,h1,T.cl,T.nO,eB _ _,ow,0,.inl (bA.of I),_,0,rfl,0,?_];show gR (λd=>?_) (λd=>?_)
  .have d':(os.length:Int)<=n:=(by simpa using d);unfold dR at k;rw[Tz (.inr d')]at k;show k
  .have d':¬ (os.length:Int)<=n:=(by simpa using d);obtain⟨j,rfl⟩:∃j:Nat,n=j:=#[n.toNat,af];have G:j<os.length:=af;rw[wq G]at k;show#[0,p,C,dx,_,0,h1,T.cl,T.nO,eB _ _,0,ow,_,j,.int (os.getD j 0),1,bA.of I,jR ?_,k];rw[se,tu G];simp[G]
theorem KJ:aC ["self","n"] ["self","n"] (aw qt):=L2.bC
theorem yp {f C:Addr}{fd:qj}(F:cI K "refuse_free" "Store.refuse_free" qt f fd) (T:Txt K mg C) (L:Md P w K mg base aV 1 C "count" (gD C)) :
  a8 P w K mg base aV 2 f fd ["self","n"] (gu C):=by
 show F.dh KJ (λN A outer s H vs Q E G h=>?_);let#[p,ow,co,M,os,pg,n,rfl,S,J,I,k]:=h;let#[#[dx,h1],O,_]:=id S;show#[_,ak (aS (aD bR (pm (pv 0) T.cl L G ax (aa (pv 1) ai)) aj (aI _)) (cY) aF),?_];show#[0,p,dx,0,h1,aY _ _ ao ao,0,p,ow,co,M,os,pg,n,rfl,S,J,rfl,0,?_];show gR (λc=>?_) (λc=>?_)
 .show absurd (by simpa using c) I
 .show k
theorem Iq:aC ["self","n"] ["self","n"] (aw Af):=L2.bC
theorem gg {H:Hp}{M:Addr->Prop}{a:Addr}{o:HO}{cs:List V}{pg:List (Option (List Int))}(G:M a) (q:Paired (dP H M) cs pg):Paired (dP (upd H a o) M) cs pg :=
 iK (B:=(· = a)) (λb u e I=>by rw[ah (show b≠a from I)];show e) (λb z=>by rw[show b=a from z];show G) q
theorem kM {H:Hp}{M:Addr->Prop}{a:Addr}{o:HO}{cs:List V}{pg:List (Option (List Int))}(G:H a=none) (q:Paired (dP H M) cs pg):Paired (dP (upd H a o) M) cs pg :=
 iK (B:=λ_=>False) (λb u e _=>by rw[ah (ar e G)];show e) (λb z=>z.elim) q
theorem iQ {H:Hp}{p a C dx:Addr}{fs:List (Str×V)}{xs:List V}(h:H p=some (.ins C dx fs)) (h':H a=some (.lst xs)):p≠a:=cK h h' (by intro z;cases z)
theorem Cd {f C:Addr}{fd:qj}(F:cI K "less" "Store.less" Af f fd) (T:Txt K mg C) (GG:Md P w K mg base aV 2 C "refuse_free" (gu C)) :
  a8 P w K mg base aV 3 f fd ["self","n"] (qV C):=by
 show F.dh Iq (λab A outer s H vs Q E hr h=>?_);let#[p,ow,co,M,os,pg,n,rfl,S,U,mc,R,N,J,k]:=h;let#[#[dx,h1],I,cs,O,L]:=id S;show#[_,ag (aL (pm (pv 0) T.cl GG hr ax (aa (pv 1) ai)))
  (ak (xw (aK (pv 0) rfl) (pv 1) (si) aj EZ set_list)),?_]
 show#[0,p,dx,0,h1,aY _ _ ao ao,0,p,ow,co,M,os,pg,n,rfl,S,N,J,?_];let#[h0,G,hn,en]:=lq J;generalize n.toNat=j at *;subst en;show#[0,p,C,dx,_,0,h1,T.cl,T.nO,eB _ _,0,ow,_,j,.int (os.getD j 0),1,bA.of I,jR (by rw[se,tu G];simp[G]),_,0,rfl,ow,_,j,j,1,I,3]
 .unfold vU;rw[mu,Tz af,Tz af];simp
 .rw[wq G]at k;show k _ #[#[dx,by rw[ah (iQ h1 I)];show h1],?_,#[cs,by rw[ah (qw R)];show O,gg U L]] λb o e Y=>?_
  .rw[ae,S0]
  .rw[ah (λz=>Y (.inl z))];show e
theorem Kp:aC ["self","n"] ["self","n"] (aw vV):=L2.bC
theorem Bs {f C:Addr}{fd:qj}(F:cI K "cells" "Store.cells" vV f fd) (T:Txt K mg C) (GG:Md P w K mg base aV 2 C "refuse_free" (gu C)) :
  a8 P w K mg base aV 3 f fd ["self","n"] (lN C):=by
 show F.dh Kp (λab A outer s H vs Q E N h=>?_);let#[p,ow,co,M,os,pg,n,ns,rfl,S,J,G,U,k]:=h;let#[#[dx,h1],hw,cs,L,I]:=id S;show#[_,ag (aL (pm (pv 0) T.cl GG N ax (aa (pv 1) ai)))
  (ak (aE (bK cU (by rfl) T.list dU (aa (aP cw (aK (pv 0) rfl) (pv 1) bW) ai)))),?_]
 show#[0,p,dx,0,h1,aY _ _ ao ao,0,p,ow,co,M,os,pg,n,rfl,S,J,G,?_];let#[h0,hj,hn,O]:=lq G;generalize n.toNat=j at *;subst O;let#[v,Y,cv]:=nu I U;obtain⟨a,rfl,R⟩:∃a,v=.ref a/\H a=some (.lst (ns.map V.int)):=by
  cases v with
  |ref a=>show#[a,rfl,cv.2]
  |_=>show Mg cv
 show#[0,p,C,dx,_,0,h1,T.cl,T.nC,p7 _ _,0,co,cs,j,0,rfl,bA.of L,jR Y,a,0,.inl (bA.of R),k]
theorem HY:aC ["self","n","cells"] ["self","n","cells"] (aw Fh):=L2.bC
theorem jc {α G:Type}{F:α->G->Prop}:∀{xs:List α}{ys:List G},Paired F xs ys->xs.length=ys.length
 |_,_,.nil=>rfl
 |_,_,.cons _ t=>by rw[KO,KO,jc t]
theorem DU {f C:Addr}{fd:qj}(F:cI K "put" "Store.put" Fh f fd) (T:Txt K mg C) (GG:Md P w K mg base aV 2 C "refuse_free" (gu C)) :
  a8 P w K mg base aV 3 f fd ["self","n","cells"] (wM K C):=by
 show F.dh HY (λap A outer s H vs Q E hr h=>?_);let#[p,ow,co,c,M,os,pg,n,ns,rfl,S,mw,mc,mt,ab,ac,U,N,R,k]:=h;let#[#[dx,h1],O,cs,I,L]:=id S;show#[_,ag (aL (pm (pv 0) T.cl GG hr ax (aa (pv 1) ai)))
  (ak (cR (bK cU (by rfl) T.list dU (aa (pv 2) ai)) (dW (aK (pv 0) rfl) (pv 1) set_list))),?_]
 show#[0,p,dx,0,h1,aY _ _ ao ao,0,p,ow,co,M,os,pg,n,rfl,S,U,N,?_];let#[h0,hj,hn,en]:=lq N;generalize n.toNat=j at *;subst en;have am:=jc L;show#[0,c,0,.inl R,λl J=>?_];have G:∀{b:Addr}{o:HO},H b=some o->b≠l:=λe=>ar e J;show#[0,p,C,dx,_,0,by rw[ah (G h1)];show h1,T.cl,T.nC,p7 _ _,0,co,cs,j,j,1,by rw[ah (G I)];show I,3]
 .unfold vU;rw[Tz af,Tz af];simp
 .have Y:¬ M l:=λz=>mt l z J;show k _ #[#[dx,by rw[ah (iQ h1 I),ah (G h1)];show h1],by rw[ah ab,ah (G O)];show O,#[_,ae,gg mc (jf #[Y,ae] j (kM J L))]] λb o e hb=>?_;rw[ah (λz=>hb (.inr z)),ah (G e)];show e
theorem Kk:aC ["self","n"] ["self"] (aw zp):=L2.bC
theorem Kt (os:List Int):BA (.int 0) (os.map V.int)=decide ((0:Int)∈os):=by
 unfold BA;rw[List.any_map,Nd,Nw,decide_eq_true_iff];constructor
 .rintro⟨x,I,e⟩;have G:x=0:=by
   have:(x==(0:Int))=true:=e;simpa using this
  subst G;show I
 .intro h;show#[(0),h,rfl]
theorem CO {f C:Addr}{fd:qj}(F:cI K "take" "Store.take" zp f fd) (T:Txt K mg C):a8 P w K mg base aV 1 f fd ["self"] (vC C):=by
 show F.dh Kk (λam A outer s H vs Q E hr h=>?_);let#[p,ow,co,M,os,pg,rfl,S,mw,mc,mt,Y,ab,hl,k0,k1]:=h;let#[#[dx,h1],I,cs,O,R]:=id S;let#[u8,m8,r8]:=T.pc;have hs:=vu;show#[_,ag (aS (aD jA aj (aK (pv 0) rfl) (by with_unfolding_all rfl)) (ak (aE rY)) aF)
  (ag (dr 1 Kk.nd (ip LJ Pt PySem.F.type_list_index zy (aK (pv 0) rfl) (aa aj ai)))
  (ag (cR aj (dW (aK (pv 0) rfl) (pv 1) set_list))
  (ag (cR (aA mz (cg (aa aj ai)) (cu (by rfl) m8 r8)) (dW (aK (pv 0) rfl) (pv 1) set_list))
  (ak (aE (pv 1)))))),?_]
 show#[0,p,C,dx,_,0,h1,T.cl,T.nO,eB _ _,ow,0,.inl (bA.of I),rfl,eh _,0,?_];change if (!BA (.int 0) (os.map V.int))=true then _ else _
 rw[Kt];by_cases c:(0:Int)∈os
 .rw[decide_eq_true c];show bX ?_;have hj:os.idxOf 0<os.length:=LQ.mpr c;have ac:=jc R;show#[0,p,C,dx,_,0,h1,T.cl,T.nO,eB _ _,.inl #[4,bA.of I],ow,os,(0),1,I,c,?_];have k2:=k1 c;generalize os.idxOf 0=j at *;show#[0,p,C,dx,_,0,h1,T.cl,T.nO,eB _ _,0,ow,_,j,j,1,I,3]
  .unfold vU;rw[mu,Tz af,Tz af];simp
  .show#[av,λl N=>?_];have lw:l≠ow:=λz=>(by rw[z,ae]at N;cases N);rw[ah lw]at N;show#[l,(8),0,rfl,ae,af,af,by rw[LK];omega,λq G=>?_];have ql:q≠l:=λz=>(by rw[z,ae]at G;cases G);rw[ah ql]at G;have U:q≠ow:=λz=>(by rw[z,ae]at G;cases G);rw[ah U]at G;have L:∀{b:Addr}{o:HO},H b=some o->b≠l:=λe=>ar e N;have J:∀{b:Addr}{o:HO},H b=some o->b≠q:=λe=>ar e G;show#[0,p,C,dx,_,0,by rw[ah (J h1),ah (L h1),ah (iQ h1 I)];show h1,T.cl,T.nC,p7 _ _,0,co,cs,j,j,1,by rw[ah (J O),ah (L O),ah (qw Y)];show O,3]
   .unfold vU;rw[Tz af,Tz af];simp
   .show#[0,?_];have hM:¬ M q:=λz=>mt q z G;show k2 _ #[#[dx,by rw[ah (iQ h1 O),ah (J h1),ah (L h1),ah (iQ h1 I)];show h1],?_,#[_,ae,gg mc (jf #[hM,by rw[ae];rfl] j (kM (by rw[ah ql,ah U];show G) (kM (by rw[ah lw];show N) (gg mw R))))]] λb o e hb=>?_
    .rw[ah Y,ah (J I),ah (L I),ae,S0]
    .rw[ah (λz=>hb (.inr z)),ah (J e),ah (L e),ah (λz=>hb (.inl z))];show e
 .rw[decide_eq_false c];show k0 c
theorem JB:aC ["self","n"] ["self","n"] (aw Bb):=L2.bC
theorem BX {f C:Addr}{fd:qj}(F:cI K "more" "Store.more" Bb f fd) (T:Txt K mg C) (GG:Md P w K mg base aV 2 C "refuse_free" (gu C)) :
  a8 P w K mg base aV 3 f fd ["self","n"] (qc C):=by
 show F.dh JB (λab A outer s H vs Q E hr h=>?_);let#[p,ow,co,M,os,pg,n,rfl,S,U,mc,R,N,J,k]:=h;let#[#[dx,h1],I,cs,O,L]:=id S;show#[_,ag (aL (pm (pv 0) T.cl GG hr ax (aa (pv 1) ai)))
  (ak (xw (aK (pv 0) rfl) (pv 1) (si) aj ED set_list)),?_]
 show#[0,p,dx,0,h1,aY _ _ ao ao,0,p,ow,co,M,os,pg,n,rfl,S,N,J,?_];let#[h0,G,hn,en]:=lq J;generalize n.toNat=j at *;subst en;show#[0,p,C,dx,_,0,h1,T.cl,T.nO,eB _ _,0,ow,_,j,.int (os.getD j 0),1,bA.of I,jR (by rw[se,tu G];simp[G]),_,0,rfl,ow,_,j,j,1,I,3]
 .unfold vU;rw[mu,Tz af,Tz af];simp
 .rw[wq G]at k;show k _ #[#[dx,by rw[ah (iQ h1 I)];show h1],?_,#[cs,by rw[ah (qw R)];show O,gg U L]] λb o e Y=>?_
  .rw[ae,S0]
  .rw[ah (λz=>Y (.inl z))];show e
theorem JO:aC ["self"] ["self"] (aw zt):=L2.bC
theorem B5 {f C:Addr}{fd:qj}(F:cI K "free" "Store.free" zt f fd) (T:Txt K mg C):a8 P w K mg base aV 1 f fd ["self"] (qp C):=by
 show F.dh JO (λI A outer s H vs Q E J h=>?_);let#[p,ow,co,M,os,pg,rfl,S,k]:=h;let#[#[dx,h1],G,_]:=id S;show#[_,ak (aE (ip LJ PySem.F.slot_list_count PySem.F.type_list_count AH (aK (pv 0) rfl) (aa aj ai))),?_];show#[0,p,C,dx,_,0,h1,T.cl,T.nO,eB _ _,.inl #[4,bA.of G],ow,os,(0),1,G,k]
end
end St
namespace Tb
open PySem L2
noncomputable def top (i:Nat):K4:=PySem.Challenge.pw_ownroom_k16_put_out_and_fetched.main.body.getD i (.Pass #[(0),(0),(0),(0)])
noncomputable abbrev xf:K4:=top 29
noncomputable abbrev mW:K4:=inClass (top 30) 0
noncomputable abbrev EH:K4:=inClass (top 30) 1
noncomputable abbrev EY:K4:=inClass (top 30) 2
noncomputable abbrev uS:K4:=inClass (top 30) 3
noncomputable abbrev uU:K4:=inClass (top 30) 4
theorem au {H:Hp}{l:Addr}{X:HO}(h:H l=none):aZ H (upd H l X):=λb o e=>by rw[ah (ar e h)];show e
noncomputable def Off (B:Addr->Prop) (H H':Hp):Prop:=∀b o,H b=some o->¬ B b->H' b=some o
section
variable {α:Type}
noncomputable def look (l:List (Int×α)) (k:Int):Option α:=(l.find? λx=>decide (x.1=k)).map (·.2)
noncomputable def dk (f:α->V) (l:List (Int×α)):List (Key×V):=l.map λx=>(ti x.1,f x.2)
noncomputable def aW (l:List (Int×α)) (k:Int) (a:α):List (Int×α):=l.map λx=>if x.1=k then(k,a)else x
noncomputable def bf (l:List (Int×α)) (k:Int):List (Int×α):=l.filter λx=>decide (x.1≠k)
theorem ie (k:Int):look ([]:List (Int×α)) k=none:=rfl
theorem aO (x:Int×α) (l:List (Int×α)) (k:Int):look (x::l) k=if x.1=k then some x.2 else look l k:=by
 unfold look;rw[Oa];by_cases h:x.1=k
 .rw[decide_eq_true h,Tz h];rfl
 .rw[decide_eq_false h,Tx h]
theorem cL (f:α->V) (k:Int):∀l:List (Int×α),bZ (dk f l) (ti k)=(look l k).map f
 | []=>rfl
 |x::l=>by
  have G:=cL f k l;change bZ ((ti x.1,f x.2)::dk f l) (ti k)=_;rw[aO];by_cases h:x.1=k
  .rw[Tz h,cn (by rw[h])];rfl
  .rw[Tx h,bD (λe=>h (Ru e)),G]
theorem az {l:List (Int×α)}{k:Int}{a:α}(h:look l k=some a):(k,a)∈l:=by
 unfold look at h;let#[x,G,e]:=pf.mp h;have h1:=List.mem_of_find?_eq_some G;have h2:x.1=k:=(by simpa using List.find?_some G);rw[<-h2, <-e];show h1
theorem cf {l:List (Int×α)}{k:Int}(h:look l k=none):¬ k∈l.map (·.1):=by
 unfold look at h;rw[N1,List.find?_eq_none]at h;rintro m;let#[x,G,e]:=rr.mp m;show h x G (decide_eq_true e)
theorem bJ {l:List (Int×α)}{k:Int}{a:α}(G:(l.map (·.1)).Nodup) (h:(k,a)∈l):look l k=some a:=by
 induction l with
 |nil=>cases h
 |cons x l L =>
  rw[aO];let#[J,I]:=KW.mp (show(x.1::l.map (·.1)).Nodup from G);rcases BY.mp h with e|m
  .rw[<-e,Tz rfl]
  .have:¬ x.1=k:=λe=>J (e▸rr.mpr #[_,m,rfl]);rw[Tx this];show L I m
theorem DS (f:α->V) (l:List (Int×α)) (k:Int):((dk f l).any λG=>decide (G.1=ti k))=(look l k).isSome:=by
 rw[fq,cL];cases look l k<;>rfl
theorem cH {f:α->V}{l:List (Int×α)}{k:Int}{a:α}(h:look l k=none):putK (dk f l) (ti k) (f a)=dk f (l++[(k,a)]):=by
 rw[jE _ (by rw[cL,h];rfl)];unfold dk;rw[DO];rfl
theorem gU {f:α->V}{l:List (Int×α)}{k:Int}{a b:α}(h:look l k=some b):putK (dk f l) (ti k) (f a)=dk f (aW l k a):=by
 unfold putK;rw[Tz (by rw[DS,h];rfl)];unfold dk aW;rw[Mb,Mb];congr 1;funext x;change(if (ti x.1:Key)=ti k then((ti x.1:Key),f a)else(ti x.1,f x.2))=((ti (if x.1=k then(k,a)else x).1:Key),f (if x.1=k then(k,a)else x).2);by_cases e:x.1=k
 .rw[Tz (by rw[e]),Tz e,e]
 .rw[Tx (λz=>e (Ru z)),Tx e]
theorem eK (f:α->V) (l:List (Int×α)) (k:Int):mP (dk f l) (ti k)=dk f (bf l k):=by
 unfold mP dk bf;rw[RD];congr 1;congr 1;funext x;change decide (¬ (ti x.1:Key)=ti k)=decide (¬ x.1=k);by_cases e:x.1=k
 .rw[e];simp
 .simp[e]
theorem bu {l:List (Int×α)}{k:Int}{a:α}(j:Int) (h:look l k=none):look (l++[(k,a)]) j=if j=k then some a else look l j:=by
 induction l with
 |nil =>
  change look [(k,a)] j=_;rw[aO,ie];by_cases e:j=k
  .rw[Tz e,Tz e.symm]
  .rw[Tx e,Tx (qw e)]
 |cons x l I =>
  rw[aO]at h;by_cases e:x.1=k
  .rw[Tz e]at h;cases h
  .rw[Tx e]at h;change look (x::(l++[(k,a)])) j=_;rw[aO,aO,I h];by_cases G:x.1=j
   .rw[Tz G,Tz G,Tx (λz=>e (G.trans z))]
   .rw[Tx G,Tx G]
theorem bM {l:List (Int×α)}{k:Int}{a b:α}(j:Int) (h:look l k=some b):look (aW l k a) j=if j=k then some a else look l j:=by
 induction l with
 |nil=>cases h
 |cons x l I =>
  rw[aO]at h;change look ((if x.1=k then(k,a)else x)::aW l k a) j=_;by_cases e:x.1=k
  .rw[Tz e,aO,aO];by_cases G:j=k
   .rw[Tz G.symm,Tz G]
   .rw[Tx (qw G),Tx G,Tx (λz=>G (z.symm.trans e))];clear I h
    induction l with
    |nil=>rfl
    |cons y l I =>
     change look ((if y.1=k then(k,a)else y)::aW l k a) j=_;by_cases J:y.1=k
     .rw[Tz J,aO,aO,Tx (qw G),Tx (λz=>G (z.symm.trans J)),I]
     .rw[Tx J,aO,aO,I]
  .rw[Tx e]at h;rw[Tx e,aO,aO,I h];by_cases G:x.1=j
   .rw[Tz G,Tz G,Tx (λz=>e (G.trans z))]
   .rw[Tx G,Tx G]
theorem ck (l:List (Int×α)) (k j:Int):look (bf l k) j=if j=k then none else look l j:=by
 induction l with
 |nil =>
  change look [] j=if j=k then none else look [] j
  rw[ie];split<;>rfl
 |cons x l I =>
  unfold bf at *;rw[Mo];by_cases e:x.1=k
  .rw[Tx (by simp[e]),I,aO];by_cases G:j=k
   .rw[Tz G,Tz G]
   .rw[Tx G,Tx G,Tx (λz=>G (z.symm.trans e))]
  .rw[Tz (by simp[e]),aO,aO,I];by_cases G:x.1=j
   .rw[Tz G,Tz G,Tx (λz=>e (G.trans z))]
   .rw[Tx G,Tx G]
theorem fm (l:List (Int×α)) (k:Int) (a:α):(aW l k a).map (·.1)=l.map (·.1):=by
 unfold aW;rw[Mb];congr 1;funext x;change(if x.1=k then(k,a)else x).1=x.1;by_cases e:x.1=k
 .rw[Tz e,e]
 .rw[Tx e]
theorem jw (l:List (Int×α)) (k:Int):(bf l k).map (·.1)=(l.map (·.1)).filter λx=>decide (x≠k):=by
 unfold bf;rw[RD];rfl
theorem fK (l:List (Int×α)) (k:Int) (a:α):(aW l k a).length=l.length:=by unfold aW;rw[mu]
theorem mem_set {l:List (Int×α)}{k:Int}{a:α}{x:Int×α}(h:x∈aW l k a):x=(k,a)\/(x∈l/\x.1≠k):=by
 unfold aW at h;let#[y,G,e]:=rr.mp h;by_cases c:y.1=k
 .rw[Tz c]at e;show .inl e.symm
 .rw[Tx c]at e;subst e;show .inr #[G,c]
theorem b9 {l:List (Int×α)}{k:Int}{x:Int×α}(h:x∈bf l k):x∈l/\x.1≠k:=by
 unfold bf at h;let#[h1,h2]:=Nc.mp h;show#[h1,of_decide_eq_true h2]
theorem cj (f:α->V) (l:List (Int×α)):(dk f l).length=l.length:=by unfold dk;rw[mu]
theorem lF {l:List (Int×α)}{k:Int}{a:α}(I:(l.map (·.1)).Nodup) (h:look l k=some a):(bf l k).length+1=l.length:=by
 induction l with
 |nil=>cases h
 |cons x l N =>
  let#[L,J]:=KW.mp (show(x.1::l.map (·.1)).Nodup from I);rw[aO]at h;unfold bf at *;rw[Mo];by_cases e:x.1=k
  .rw[Tx (by simp[e])];have:l.filter (λx=>decide (x.1≠k))=l:=by
    rw[OQ];intro y G;have:y.1≠k:=λz=>L (by rw[e, <-z];show rr.mpr #[_,G,rfl]);simpa using this
   rw[this,KO]
  .rw[Tx e]at h;rw[Tz (by simpa using e),KO,KO,N J h]
end
noncomputable abbrev uh:=List (Int×(Addr×List V))
noncomputable abbrev js:=List (Int×(Addr×uh))
noncomputable def fS:Addr×List V->V:=λx=>.ref x.1
noncomputable def fF:Addr×uh->V:=λx=>.ref x.1
noncomputable def AW:V->Bool
 |.int _=>true
 |.str _=>true
 |_=>false
noncomputable def oo (xs:List V):Bool:=xs.all AW&&decide (xs.length<1000)
theorem CJ {xs:List V}(h:oo xs=true):xs.all AW=true:=(Qs.mp h).1
theorem BR {xs:List V}(h:oo xs=true):xs.length<1000:=of_decide_eq_true (Qs.mp h).2
noncomputable def jv (fs:Addr):List (Str×V):=bo "first_step" (.ref fs) []
theorem ku (fs:Addr):(jv fs).lookup ("first_step" : Str)=some (.ref fs):=by
 unfold jv;rw[aG,Tz rfl]
theorem aY (fs:Addr) {m:Str}(h:¬ m = "first_step"):(jv fs).lookup m=none:=by
 unfold jv;rw[aG,Tx h]
 all_goals rfl
structure gM (H:Hp) (k:Int) (sec:uh):Prop where
 ht:∀y∈sec,H y.2.1=some (.tup y.2.2)/\oo y.2.2=true/\y.1/8=k/\0<=y.1/\y.1<64
 ns:(sec.map (·.1)).Nodup
 ne:sec≠[]
structure TabAt (C:Addr) (H:Hp) (p fs:Addr) (tb:js):Prop where
 ob:∃dx,H p=some (.ins C dx (jv fs))
 hf:H fs=some (.dK (dk fF tb))
 hd:∀x∈tb,H x.2.1=some (.dK (dk fS x.2.2))
 hs:∀x∈tb,gM H x.1 x.2.2
 nk:(tb.map (·.1)).Nodup
 na:∀x∈tb,∀y∈tb,x.2.1=y.2.1->x.1=y.1
 nf:∀x∈tb,x.2.1≠fs
noncomputable def de (tb:js) (q:Int):Option (List V):=(look tb (q/8)).bind λx=>(look x.2 q).map (·.2)
noncomputable def eI (fs:Addr) (tb:js):Addr->Prop:=λb=>b=fs\/∃x∈tb,b=x.2.1
theorem gM.keep {H H':Hp}{k:Int}{I:uh}(S:gM H k I) (h:∀b xs,H b=some (.tup xs)->H' b=some (.tup xs)):gM H' k I :=
 #[λy G=>#[h _ _ (S.ht y G).1,(S.ht y G).2],S.ns,S.ne]
theorem TabAt.same {C:Addr}{H H':Hp}{p fs:Addr}{tb:js}(T:TabAt C H p fs tb) (s:aZ H H'):TabAt C H' p fs tb:=by
 let#[#[dx,h1],h2,O,I,J,N,L]:=T;show#[#[dx,s _ _ h1],s _ _ h2,λx G=>s _ _ (O x G),λx G=>(I x G).keep λb xs e=>s _ _ e,J,N,L]
theorem TabAt.put {C:Addr}{H H':Hp}{p fs d:Addr}{tb:js}{k:Int}{I sec':uh}(T:TabAt C H p fs tb) (L:look tb k=some (d,I)) (o:Off (· = d) H H') (hd:H' d=some (.dK (dk fS sec'))) (S:gM H' k sec'):TabAt C H' p fs (aW tb k (d,sec')):=by
 let#[#[dx,h1],h2,h3,h4,h5,Y,R]:=T;have J:=az L;have U:=h3 _ J;have O:∀x∈tb,x.1≠k->x.2.1≠d:=λx G hk e=>hk (Y x G _ J e);have same:dk fF (aW tb k (d,sec'))=dk fF tb:=by
  have e:=gU (f:=fF) (a:=(d,sec')) L;rw[<-e];have e2:=gU (f:=fF) (a:=(d,I)) L;have e3:fF (d,sec')=fF (d,I):=rfl;rw[e3,e2];unfold dk aW;rw[Mb];show Mp λx G=>?_;change((ti (if x.1=k then(k,(d,I))else x).1:Key),fF (if x.1=k then(k,(d,I))else x).2)=(ti x.1,fF x.2);by_cases c:x.1=k
  .rw[Tz c,c];have:look tb k=some x.2:=bJ h5 (by rw[<-c];show G);rw[L]at this;rw[<-rn this]
  .rw[Tx c]
 show#[#[dx,o _ _ h1 (cK h1 U (by intro z;cases z))],by rw[same];show o _ _ h2 (qw (R _ J)),λx G=>?_,λx G=>?_,by rw[fm];show h5,λx G y N e=>?_,λx G=>?_]
 .rcases mem_set G with rfl|⟨G,c⟩
  .show hd
  .show o _ _ (h3 x G) (O x G c)
 .rcases mem_set G with rfl|⟨G,c⟩
  .show S
  .show(h4 x G).keep λb xs e=>o _ _ e (cK e U (by intro z;cases z))
 .rcases mem_set G with rfl|⟨G,c⟩<;>rcases mem_set N with rfl|⟨N,c'⟩
  .rfl
  .show absurd e.symm (O y N c')
  .show absurd e (O x G c)
  .show Y x G y N e
 .rcases mem_set G with rfl|⟨G,c⟩
  .show(R _ J:d≠fs)
  .show R x G
theorem TabAt.add {C:Addr}{H H':Hp}{p fs d:Addr}{tb:js}{k:Int}{sec':uh}(T:TabAt C H p fs tb) (hl:look tb k=none) (J:H d=none) (o:Off (· = fs) H H') (Y:H' fs=some (.dK (dk fF (tb++[(k,(d,sec'))])))) (hd:H' d=some (.dK (dk fS sec'))) (S:gM H' k sec') :
  TabAt C H' p fs (tb++[(k,(d,sec'))]):=by
 let#[#[dx,h1],h2,O,R,U,h6,N]:=T;have L:∀x∈tb,x.2.1≠d:=λx G=>ar (O x G) J;have ab:d≠fs:=λe=>(by rw[e,h2]at J;cases J);show#[#[dx,o _ _ h1 (cK h1 h2 (by intro z;cases z))],Y,λx G=>?_,λx G=>?_,?_,λx G y I e=>?_,λx G=>?_]
 .rcases n7.mp G with G|G
  .show o _ _ (O x G) (N x G)
  .rw[nq.mp G];show hd
 .rcases n7.mp G with G|G
  .show(R x G).keep λb xs e=>o _ _ e (cK e h2 (by intro z;cases z))
  .rw[nq.mp G];show S
 .rw[DO];show fJ U (cf hl)
 .rcases n7.mp G with G|G<;>rcases n7.mp I with I|I
  .show h6 x G y I e
  .rw[nq.mp I]at e;show absurd e (L x G)
  .rw[nq.mp G]at e;show absurd e.symm (L y I)
  .rw[nq.mp G,nq.mp I]
 .rcases n7.mp G with G|G
  .show N x G
  .rw[nq.mp G];show ab
theorem TabAt.del {C:Addr}{H H':Hp}{p fs d:Addr}{tb:js}{k:Int}{U:uh}(T:TabAt C H p fs tb) (hl:look tb k=some (d,U)) (o:Off (λb=>b=d\/b=fs) H H') (Y:H' fs=some (.dK (dk fF (bf tb k)))):TabAt C H' p fs (bf tb k):=by
 let#[#[dx,h1],h2,O,R,S,N,L]:=T;have I:=az hl;have J:=O _ I;show#[#[dx,o _ _ h1 λz=>z.elim (cK h1 J (by intro z;cases z)) (cK h1 h2 (by intro z;cases z))],Y,λx G=>?_,λx G=>?_,?_,λx G y hy e=>N x (b9 G).1 y (b9 hy).1 e,λx G=>L x (b9 G).1]
 .let#[G,c]:=b9 G;show o _ _ (O x G) λz=>z.elim (λe=>c (N x G _ I e)) (L x G)
 .let#[G,c]:=b9 G;show(R x G).keep λb xs e=>o _ _ e λz=>z.elim (cK e J (by intro z;cases z)) (cK e h2 (by intro z;cases z))
 .rw[jw];show S.filter _
theorem BE:∀(n:Nat) (a:Int) (l:List Int),l.Nodup->(∀x∈l,a<=x/\x<a+n)->l.length<=n
 |0,a,l,_,h=>by
  cases l with
  |nil=>show qs _
  |cons x r=>have:=h x La;omega
 |n+1,a,l,G,h=>by
  have J:=BE n a (l.filter λx=>decide (x≠a+n)) (G.filter _) λx O=>by
   let#[h1,h2]:=Nc.mp O;have U:=h x h1;have S:x≠a+n:=of_decide_eq_true h2;omega
  have e:(l.filter λx=>decide (x≠a+n)).length+1>=l.length:=by
   clear J h
   induction l with
   |nil=>simp
   |cons x r R =>
    let#[I,N]:=KW.mp G;rw[Mo];by_cases c:x=a+n
    .rw[Tx (by simp[c])];have:r.filter (λx=>decide (x≠a+n))=r:=by
      rw[OQ];intro y L;have:y≠a+n:=λe=>I (by rw[c, <-e];show L);simpa using this
     rw[this];simp
    .rw[Tz (by simpa using c)];have:=R N;rw[KO,KO];omega
  omega
theorem gM.len {H:Hp}{k:Int}{G:uh}(S:gM H k G):G.length<=64:=by
 have:=BE 64 0 (G.map (·.1)) S.ns λx J=>by
  let#[y,I,rfl]:=rr.mp J;have:=S.ht y I;omega
 rwa [mu]at this
theorem TabAt.kb {C:Addr}{H:Hp}{p fs:Addr}{tb:js}(T:TabAt C H p fs tb):∀x∈tb,0<=x.1/\x.1<8:=λx G=>by
 have S:=T.hs x G;cases e:x.2.2 with
 |nil=>show absurd e S.ne
 |cons y r =>
  have:=S.ht y (by rw[e];show La);omega
theorem TabAt.len {C:Addr}{H:Hp}{p fs:Addr}{tb:js}(T:TabAt C H p fs tb):tb.length<=8:=by
 have:=BE 8 0 (tb.map (·.1)) T.nk λx I=>by
  let#[y,G,rfl]:=rr.mp I;have:=T.kb y G;omega
 rwa [mu]at this
theorem TabAt.xv {C:Addr}{H:Hp}{p fs:Addr}{tb:js}(T:TabAt C H p fs tb) {q:Int}(h:de tb q≠none):0<=q/\q<64:=by
 unfold de at h;cases e:look tb (q/8)with
 |none=>rw[e]at h;show absurd rfl h
 |some a =>
  rw[e,Nx]at h;cases G:look a.2 q with
  |none=>rw[G]at h;show absurd rfl h
  |some b =>
   have:=(T.hs _ (az e)).ht _ (az G);omega
end Tb
namespace L2
open PySem PySem.Spec PyProof.Rows
section
variable {X:Cx}
theorem pM {α G:Type}(f:α->G):∀(l:List α) (i:Nat),(l.map f).eraseIdx i=(l.eraseIdx i).map f
 | [],_=>rfl
 |_::_,0=>rfl
 |a::l,i+1=>by
  change f a::(l.map f).eraseIdx i=f a::(l.eraseIdx i).map f;rw[pM f l i]
inductive wN (x:V) (vs:List V) (H:Hp) (Q:VK):Prop
 |mk (l:Addr) (ns:List Int) (k:Int) (_:x=.ref l) (_:vs=[.int k]) (_:H l=some (.lst (ns.map V.int))) (_:k∈ns) (_:Q .non (upd H l (.lst ((ns.erase k).map V.int)))):wN x vs H Q
theorem oZ:E3 X "list.remove" wN:=by
 intro pins s σ H x vs v us Q I O U h;let#[l,ns,k,rfl,rfl,N,L,q]:=h;cases O;let#[u,rfl,ru]:=U.one;let#[t,rfl]:=ru;let#[z,its,n,r,J,e]:=I.mZ N;have hi:=intsAre_of r;have Y:=hi.length;have ac:=J;rw[mu]at J z;have hs:=vu;have G:ns.idxOf k<ns.length:=LQ.mpr L;show NM Pz #[_,e,rfl] PySem.F.entry_list_remove (PySem.F.args_list_remove_2 _ _)
  (MeetsSeq.list_remove l its.toArray n (.int k t) (Ti k) (λy R=>eq_isInt k t hi y (by simpa using R)) (ns.idxOf k) (by simpa[Y]using G) ?_ ?_ (by rw[pq];omega)) #[e,?_]
 .change Ti k its[ns.idxOf k]=true;rw[Sm k hi _ af G];simpa using ON G
 .intro j ab S;change Ti k its[j]=false;rw[Sm k hi j (by simpa using ab) af];show ne_of_lt_idxOf S _
 .show#[.non,_,I.Cn (its':=its.eraseIdx (ns.idxOf k)) N e ?_ ?_ ?_,?_,q]
  .change its.toArray.eraseIdxIfInBounds _=(its.eraseIdx _).toArray;rw[N3]
  .rw[List.erase_eq_eraseIdx_of_idxOf rfl, <-pM];show r.eraseIdx _
  .rw[mu];have:=List.length_erase_of_mem L;omega
  .trivial
end
noncomputable def iW (K:iF) (H:Hp) (a:Addr) (xs:List V):Prop:=H a=some (.tup xs)\/bL K (λ_=>none) a xs
theorem iW.sq {K:iF}{H:Hp}{a:Addr}{xs:List V}(h:iW K H a xs):bL K H a xs:=by
 rcases h with h|h
 .show bL.of h
 .rcases h with h|h
  .rcases h with h|⟨o,h⟩
   .cases h
   .cases h
  .show .inr h
theorem iW.keep {K:iF}{H H':Hp}{a:Addr}{xs:List V}(h:iW K H a xs) (s:∀o,H a=some o->H' a=some o):iW K H' a xs:=by
 rcases h with h|h
 .show .inl (s _ h)
 .show .inr h
theorem iW.off {K:iF}{H H':Hp}{a:Addr}{xs:List V}(h:iW K H a xs) (s:H a=some (.tup xs)->H' a=some (.tup xs)):iW K H' a xs:=by
 rcases h with h|h
 .show .inl (s h)
 .show .inr h
theorem yy {X:Cx}:dB X (.builtin "isinstance") (λxs H Q=>(∃x n t b,xs=[x,.ty n]/\jN X.K H x t/\NL X.K t (.type n)=some b/\Q (.bl b) H)\/∃a ys,xs=[.ref a,.ty "tuple"]/\bL X.K H a ys/\Q (.bl true) H):=by
 intro pins s σ H xs us Q I r h;rcases h with h|⟨a,ys,rfl,L,q⟩
 .show dX pins s σ H xs us Q I r h
 .let#[u,c,rfl,G,J]:=vals2 r;obtain rfl:c=Value.type "tuple" := J;cases(show u=Value.ref a from G);let#[its,_,#[o,h1,h2,_],_]:=I.tuple L;show NV kitx_tuple I.kA #[o,h1,h2] (Fe _) (λz=>nomatch z) λtk=>#[.bl true,H,I.tok _,rfl,q]
end L2
namespace Tb
open PySem L2
structure AB (mg:Str->Option Value):Prop where
 BH:mg "isinstance" = none
 tuple:mg "tuple" = none
 list:mg "list" = none
 dict:mg "dict" = none
 len:mg "len" = none
 sorted:mg "sorted" = none
noncomputable def zK:V->Bool
 |.int _=>true
 |.str _=>true
 |.non=>true
 |_=>false
inductive rN (vs:List V) (H:Hp) (Q:VK) (e3:XK):Prop
 |mk (v:_) (_:vs=[v]) (_:zK v=true) (_:Q v H):rN vs H Q e3
noncomputable def uM (K:iF):Sp:=λvs H Q _=>(∃v,vs=[v]/\zK v=true/\Q v H)\/∃(a:Addr) (xs:List V),vs=[.ref a]/\iW K H a xs/\oo xs=true/\∀H' l,aZ H H'->H l=none->H' l=some (.tup xs)->Q (.ref l) H'
theorem CN:∀{v:V},AW v=true->zK v=true
 |.int _,_=>rfl
 |.str _,_=>rfl
section
variable {P:rz}{w:C1}{K:iF}{mg:Str->Option Value}{base:Heap}
theorem Il:aC ["value","copied","key"] ["value"] (aw xf):=L2.bC
theorem Bo {f:Addr}{fd:qj}(F:cI K "own_copy" "own_copy" xf f fd) (T:AB mg):a8 P w K mg base aV 1 f fd ["value"] rN:=by
 show F.dh Il (λI A outer s H vs Q E J h=>?_);let#[v,rfl,G,k]:=h;show#[_,(ag (aS (fB (aQ dX (by rfl) T.BH b8 (aa (pv 0) (aa (eV (v:=.ty "tuple") (by rfl) T.tuple m5 rfl) ai)))) (ak dY) aF)
  (ag (aS (fB (aQ dX (by rfl) T.BH b8 (aa (pv 0) (aa (eV (v:=.ty "list") (by rfl) T.list dU rfl) ai)))) (ak dY) aF)
  (ag (aS (fB (aQ dX (by rfl) T.BH b8 (aa (pv 0) (aa (eV (v:=.ty "dict") (by rfl) T.dict rj rfl) ai)))) (ag dY
  (ag dY
  (ak dY))) aF)
  (ak (aE (pv 0)))))),?_]
 cases v with
 |int i=>show#[0,.int i,"tuple",_,false,rfl,.int i,Ad _,false,rfl,bX #[0,.int i,"list",_,false,rfl,.int i,zY _,false,rfl,bX #[0,.int i,"dict",_,false,rfl,.int i,AF _,false,rfl,bX #[0,k]]]]
 |str i=>show#[0,.str i,"tuple",_,false,rfl,.str i,Au _,false,rfl,bX #[0,.str i,"list",_,false,rfl,.str i,y7 _,false,rfl,bX #[0,.str i,"dict",_,false,rfl,.str i,zd _,false,rfl,bX #[0,k]]]]
 |non=>show#[0,.non,"tuple",_,false,rfl,.non,zG _,false,rfl,bX #[0,.non,"list",_,false,rfl,.non,Bc _,false,rfl,bX #[0,.non,"dict",_,false,rfl,.non,AL _,false,rfl,bX #[0,k]]]]
 |_=>cases G
theorem Ci {f:Addr}{fd:qj}(F:cI K "own_copy" "own_copy" xf f fd) (T:AB mg) (U:Df P w K mg base aV 1 "own_copy" rN):a8 P w K mg base aV 2 f fd ["value"] (uM K):=by
 show F.ok Il (λvs H Q E h=>?_) (λam A outer s H vs Q E Y h=>?_)
 .rcases h with⟨v,rfl,_⟩|⟨a,xs,rfl,_⟩
  .rfl
  .rfl
 .show#[_,(ag (aS (fB (aQ yy (by rfl) T.BH b8 (aa (pv 0) (aa (eV (v:=.ty "tuple") (by rfl) T.tuple m5 rfl) ai)))) (ak (aE (bK oO (by rfl) T.tuple m5 (aa (gx (cl:=[]) (caps:=[]) #[rfl,ao,ao,rfl,by kernel_rfl,by intro p J;simp at J,by kernel_rfl,by intro p J;simp at J,ao] rfl (DY (pv 0)) (λ_ _ _ _=>fO) (λ_ _ _ _=>(pc U Y ax (aa (pv 0) ai)))) ai)))) aF)
   (ag (aS (fB (aQ dX (by rfl) T.BH b8 (aa (pv 0) (aa (eV (v:=.ty "list") (by rfl) T.list dU rfl) ai)))) (ak dY) aF)
   (ag (aS (fB (aQ dX (by rfl) T.BH b8 (aa (pv 0) (aa (eV (v:=.ty "dict") (by rfl) T.dict rj rfl) ai)))) (ag dY
   (ag dY
   (ak dY))) aF)
   (ak (aE (pv 0)))))),?_]
  rcases h with⟨v,rfl,hv,k⟩|⟨a,xs,rfl,L,N,k⟩
  .cases v with
   |int i=>show#[0,.inl #[.int i,"tuple",_,false,rfl,.int i,Ad _,false,rfl,bX #[0,.int i,"list",_,false,rfl,.int i,zY _,false,rfl,bX #[0,.int i,"dict",_,false,rfl,.int i,AF _,false,rfl,bX #[0,k]]]]]
   |str i=>show#[0,.inl #[.str i,"tuple",_,false,rfl,.str i,Au _,false,rfl,bX #[0,.str i,"list",_,false,rfl,.str i,y7 _,false,rfl,bX #[0,.str i,"dict",_,false,rfl,.str i,zd _,false,rfl,bX #[0,k]]]]]
   |non=>show#[0,.inl #[.non,"tuple",_,false,rfl,.non,zG _,false,rfl,bX #[0,.non,"list",_,false,rfl,.non,Bc _,false,rfl,bX #[0,.non,"dict",_,false,rfl,.non,AL _,false,rfl,bX #[0,k]]]]]
   |_=>cases hv
  .have hs:=vu;have hx:=CJ N;have hn:=BR N;show#[0,.inr #[a,xs,rfl,L.sq,true,rfl,eL ?_]];show#[0,a,rfl,#[xs,L.sq],?_];show xG (xs:=xs) (λi ys H'=>H'=H/\ys=xs.take i) #[1] (λi ys H' _ p=>by rw[p.1];show L.sq) (λi x ys H' hi p=>?_) (λys H' p l R=>?_)
   .let#[rfl,rfl]:=p;let#[ac,O]:=kz.mp hi;show#[0,x,rfl,CN (Lf.mp hx x (O▸L4 ac)),?_,5]
    .rw[HC];omega
    .rw[So,hi];rfl
   .let#[rfl,rfl]:=p;rw[LN];show#[l,xs,rfl,.inl #[bA.of ae,λI G=>?_]];have S:I≠l:=λz=>(by rw[z,ae]at G;cases G);have ab:H' I=none:=(by rw[ah S]at G;show G);show k _ I ((au R).trans (au G)) ab ae
end
structure Txt (K:iF) (mg:Str->Option Value) (C:Addr):Prop where
 cl:sg K C
 nF:c6 K C "first_step"
 sp:∃u,mg "STEP_PAGES" = some u/\RelV (.int 8) u
noncomputable def GX (H:Hp) (v:V):Option (List V)->Prop
 |none=>v=.non
 |some xs=>∃t,v=.ref t/\H t=some (.tup xs)
inductive hU (C:Addr) (vs:List V) (H:Hp) (Q:VK) (e3:XK):Prop
 |mk (p dx:Addr) (_:vs=[.ref p]) (_:H p=some (.ins C dx [])) (_:∀(fs:Addr) (H':Hp),H fs=none->TabAt C H' p fs []->Off (· = p) H H'->Q .non H'):hU C vs H Q e3
inductive nV (C:Addr) (vs:List V) (H:Hp) (Q:VK) (e3:XK):Prop
 |mk (p fs:Addr) (tb:js) (q:Int) (_:vs=[.ref p,.int q]) (_:TabAt C H p fs tb) (_:∀H' v,aZ H H'->GX H' v (de tb q)->Q v H'):nV C vs H Q e3
inductive sJ (K:iF) (C:Addr) (vs:List V) (H:Hp) (Q:VK) (e3:XK):Prop
 |mk (p fs t:Addr) (tb:js) (q:Int) (xs:List V) (_:vs=[.ref p,.int q,.ref t]) (_:TabAt C H p fs tb) (_:0<=q) (_:q<64) (_:iW K H t xs) (_:oo xs=true) (_:∀H' tb',TabAt C H' p fs tb'->(∀j,de tb' j=if j=q then some xs else de tb j)->Off (eI fs tb) H H'->(∀b,eI fs tb' b->eI fs tb b\/H b=none)->Q .non H'):sJ K C vs H Q e3
inductive qq (C:Addr) (vs:List V) (H:Hp) (Q:VK) (e3:XK):Prop
 |mk (p fs:Addr) (tb:js) (q:Int) (_:vs=[.ref p,.int q]) (_:TabAt C H p fs tb) (_:∀H' tb',TabAt C H' p fs tb'->(∀j,de tb' j=if j=q then none else de tb j)->(tb'.length=tb.length\/tb'.length+1=tb.length)->Off (eI fs tb) H H'->(∀b,eI fs tb' b->eI fs tb b\/H b=none)->Q .non H'):qq C vs H Q e3
noncomputable def fV (tb:js):List Int:=tb.flatMap λx=>x.2.2.map (·.1)
inductive ff (C:Addr) (vs:List V) (H:Hp) (Q:VK) (e3:XK):Prop
 |mk (p fs:Addr) (tb:js) (_:vs=[.ref p]) (_:TabAt C H p fs tb) (_:∀H' l (ns:List Int),aZ H H'->H l=none->H' l=some (.lst (ns.map V.int))->ns.Perm (fV tb)->ns.Pairwise (· <= ·)->Q (.ref l) H'):ff C vs H Q e3
theorem tU {C:Addr}{H:Hp}{p fs:Addr}{tb:js}(T:TabAt C H p fs tb) (q:Int):q∈fV tb↔de tb q≠none:=by
 unfold fV;rw[Ob];constructor
 .rintro⟨x,J,L⟩;let#[y,I,rfl]:=rr.mp L;have S:=T.hs x J;unfold de;rw[(S.ht y I).2.2.1,bJ T.nk J,Nx,bJ S.ns I];simp
 .intro h;unfold de at h;cases e:look tb (q/8)with
  |none=>rw[e]at h;show absurd rfl h
  |some a =>
   rw[e,Nx]at h;cases G:look a.2 q with
   |none=>rw[G]at h;show absurd rfl h
   |some b=>show#[_,az e,rr.mpr #[_,az G,rfl]]
theorem jS {C:Addr}{H:Hp}{p fs:Addr}{tb:js}(T:TabAt C H p fs tb):(fV tb).Nodup:=by
 have hs:=T.hs;have hk:=T.nk;clear T
 induction tb with
 |nil=>show Mt
 |cons x r U =>
  let#[S,n2]:=KW.mp (show(x.1::r.map (·.1)).Nodup from hk);change(x.2.2.map (·.1)++fV r).Nodup;rw[N2];show#[(hs x La).ns,U (λy G=>hs y (K5 _ G)) n2,λa Y b I e=>S ?_];let#[y,G,rfl]:=rr.mp Y;let#[z,J,I]:=Ob.mp I;let#[L,ab,rfl]:=rr.mp I;have O:=((hs x La).ht y G).2.2.1;have N:=((hs z (K5 _ J)).ht L ab).2.2.1;have R:y.1=L.1:=e;rw[<-O,R,N];show rr.mpr #[z,J,rfl]
theorem tL {C:Addr}{H:Hp}{p fs:Addr}{tb:js}(T:TabAt C H p fs tb) (i:Nat):(fV (tb.take i)).length<=64:=by
 have h1:(fV tb).length<=64:=BE 64 0 (fV tb) (jS T) λx G=>by
  have:=T.xv ((tU T x).mp G);omega
 have h2:(fV (tb.take i)).length<=(fV tb).length:=by
  conv=>rhs;rw[<-Mh i tb]
  unfold fV;rw[Ov,wh];omega
 omega
theorem t4 {tb:js}{q:Int}{d:Addr}{G:uh}(h:look tb (q/8)=some (d,G)):de tb q=(look G q).map (·.2):=by
 unfold de;rw[h,Nx]
theorem tP {tb:js}{q:Int}(h:look tb (q/8)=none):de tb q=none:=by
 unfold de;rw[h];rfl
theorem pW {tb:js}{k q:Int}{d:Addr}{I sec':uh}{o:Option (Addr×List V)}(G:look tb k=some (d,I)) (J:q/8=k) (h:∀j,look sec' j=if j=q then o else look I j) (j:Int) :
  de (aW tb k (d,sec')) j=if j=q then o.map (·.2)else de tb j:=by
 unfold de;rw[bM (j/8) G];by_cases c:j/8=k
 .rw[Tz c,Nx,h j,c,G,Nx];by_cases e:j=q
  .rw[Tz e,Tz e]
  .rw[Tx e,Tx e]
 .rw[Tx c,Tx (λe=>c (by rw[e];show J))]
theorem yi {tb:js}{k q:Int}{d:Addr}{sec':uh}{o:Option (Addr×List V)}(G:look tb k=none) (I:q/8=k) (h:∀j,look sec' j=if j=q then o else none) (j:Int) :
  de (tb++[(k,(d,sec'))]) j=if j=q then o.map (·.2)else de tb j:=by
 unfold de;rw[bu (j/8) G];by_cases c:j/8=k
 .rw[Tz c,Nx,h j,c,G];by_cases e:j=q
  .rw[Tz e,Tz e]
  .rw[Tx e,Tx e];rfl
 .rw[Tx c,Tx (λe=>c (by rw[e];show I))]
theorem xN {tb:js}{k q:Int}{d:Addr}{G:uh}(I:look tb k=some (d,G)) (J:q/8=k) (h:∀j,j≠q->look G j=none) (j:Int) :
  de (bf tb k) j=if j=q then none else de tb j:=by
 unfold de;rw[ck];by_cases c:j/8=k
 .rw[Tz c,c,I];by_cases e:j=q
  .rw[Tz e];rfl
  .rw[Tx e,Nx,h j e];rfl
 .rw[Tx c,Tx (λe=>c (by rw[e];show J))]
theorem B6 {H:Hp}{k q:Int}{I:uh}{l:Addr}{xs:List V}(S:gM H k I) (L:H l=some (.tup xs)) (N:oo xs=true) (O:q/8=k) (J:0<=q) (h1:q<64) :
  ∃sec',putK (dk fS I) (ti q) (.ref l)=dk fS sec'/\(∀j,look sec' j=if j=q then some (l,xs)else look I j)/\gM H k sec':=by
 cases e:look I q with
 |none =>
  show#[I++[(q,(l,xs))],cH (f:=fS) (a:=(l,xs)) e,λj=>bu j e,λy G=>?_,?_,by simp]
  .rcases n7.mp G with G|G
   .show S.ht y G
   .rw[nq.mp G];show#[L,N,O,J,h1]
  .rw[DO];show fJ S.ns (cf e)
 |some b =>
  show#[aW I q (l,xs),gU (f:=fS) (a:=(l,xs)) e,λj=>bM j e,λy G=>?_,3]
  .rcases mem_set G with rfl|⟨G,_⟩
   .show#[L,N,O,J,h1]
   .show S.ht y G
  .rw[fm];show S.ns
  .intro z;have:=fK I q (l,xs);rw[z]at this;show S.ne (Lx.mp this.symm)
theorem ig {B:Addr->Prop}{H H' G:Hp}(s:aZ H H') (o:Off B H' G):Off B H G:=λb u e I=>o b u (s b u e) I
theorem rM {B:Addr->Prop}{H:Hp}{a:Addr}{X:HO}(h:B a):Off B H (upd H a X):=λb u e G=>by rw[ah (λz=>G (by rw[z];show h))];show e
theorem Off.mono {B B':Addr->Prop}{H H':Hp}(o:Off B H H') (h:∀b,B b->B' b):Off B' H H':=λb u e G=>o b u e λz=>G (h b z)
theorem Ez {C:Addr}{H:Hp}{p fs:Addr}{tb:js}(T:TabAt C H p fs tb):(dk fF tb).length<sizeLine:=by
 have h:=T.len;have hs:=vu;rw[cj];omega
theorem Fn {H:Hp}{k:Int}{G:uh}(S:gM H k G):(dk fS G).length<sizeLine:=by
 have h:=S.len;have hs:=vu;rw[cj];omega
theorem xh {fs d:Addr}{tb:js}{k:Int}{J sec':uh}(I:(k,(d,J))∈tb) {b:Addr}(h:eI fs (aW tb k (d,sec')) b):eI fs tb b:=by
 rcases h with h|⟨x,G,h⟩
 .show .inl h
 .rcases mem_set G with rfl|⟨G,_⟩
  .show .inr #[_,I,h]
  .show .inr #[x,G,h]
theorem Cq {fs:Addr}{tb:js}{k:Int}{b:Addr}(h:eI fs (bf tb k) b):eI fs tb b:=by
 rcases h with h|⟨x,G,h⟩
 .show .inl h
 .show .inr #[x,(b9 G).1,h]
theorem kF (tb:js) (k:Int):bZ (dk fF tb) (ti k)=(look tb k).map fF:=cL fF k tb
theorem vN (G:uh) (k:Int):bZ (dk fS G) (ti k)=(look G k).map fS:=cL fS k G
section
variable {P:rz}{w:C1}{K:iF}{mg:Str->Option Value}{base:Heap}
theorem Je:aC ["self"] ["self"] (aw mW):=L2.bC
theorem rf {f C:Addr}{fd:qj}(F:cI K "__init__" "Table.__init__" mW f fd) (T:Txt K mg C):a8 P w K mg base aV 1 f fd ["self"] (hU C):=by
 show F.dh Je (λN A outer s H vs Q E O h=>?_);let#[p,dx,rfl,J,k]:=h;show#[_,(ak (fE (pv 0) dn rfl)),?_];intro fs I;have np:p≠fs:=ar J I;show#[0,p,C,dx,[],rfl,by rw[ah np];show J,T.cl,T.nF,av,?_];show k fs _ I #[#[dx,by rw[ae];rfl],by rw[ah (qw np),ae];rfl,λx G=>(DD G).elim,λx G=>(DD G).elim,.nil,λx G=>(DD G).elim,λx G=>(DD G).elim] λb u e L=>?_;rw[ah L,ah (ar e I)];show e
theorem Kg:aC ["self","page","second"] ["self","page"] (aw EH):=L2.bC
theorem En {f C:Addr}{fd:qj}(F:cI K "get" "Table.get" EH f fd) (T:Txt K mg C) (GC:Df P w K mg base aV 2 "own_copy" (uM K)):a8 P w K mg base aV 3 f fd ["self","page"] (nV C):=by
 let#[u8,Y,R]:=T.sp;show F.dh Kg (λab A outer s H vs Q E J h=>?_);let#[p,fs,tb,q,rfl,TT,k]:=h;let#[dx,h1]:=TT.ob;show#[_,(ag (dr 2 Kg.nd (lT (a9 J) (aK (pv 0) rfl) (aA br (pv 1) (cu (by rfl) Y R)) dn #[1,1]))
  (ak (aE (pc GC J ax (aa (zk (a9 J) (pv 2) (pv 1) #[1,1]) ai))))),?_]
 show#[0,p,C,dx,_,.ref fs,rfl,h1,T.cl,T.nF,ku fs,fs,rfl,.inl #[_,.inl TT.hf],0,_,0,rfl,#[av,av],λe U=>?_];have G:=au (X:=.dK []) U;have L:=TT.same G;show#[_,cZ.k (k:=.inl (q/8)) L.hf,?_];rw[kF];cases c:look tb (q/8)with
 |none =>
  show#[0,e,rfl,.inl #[_,.inl ae],0,_,cZ.k (k:=.inl q) ae,.inl #[.non,1,k _ _ G ?_]];rw[tP c];rfl
 |some a =>
  let#[d,O]:=a;have N:=az c;have hd:=L.hd _ N;show#[0,d,rfl,.inl #[_,.inl hd],0,_,cZ.k (k:=.inl q) hd,?_];rw[vN];have le:=t4 c;cases I:look O q with
  |none =>
   show .inl #[.non,1,k _ _ G ?_];rw[le,I];rfl
  |some b =>
   let#[t,xs]:=b;have hs:=(L.hs _ N).ht _ (az I);show .inr #[t,xs,rfl,.inl hs.1,hs.2.1,λH' l s' ac S=>k _ _ (G.trans s') ?_];rw[le,I];show#[l,rfl,S]
theorem Iq:aC ["self","page","entry","second"] ["self","page","entry"] (aw EY):=L2.bC
theorem E7 {f C:Addr}{fd:qj}(F:cI K "lay" "Table.lay" EY f fd) (T:Txt K mg C) (GC:Df P w K mg base aV 2 "own_copy" (uM K)):a8 P w K mg base aV 3 f fd ["self","page","entry"] (sJ K C):=by
 let#[u8,m8,r8]:=T.sp;show F.dh Iq (λas A outer s H vs Q E hr h=>?_);let#[p,fs,t,tb,q,xs,rfl,TT,q0,q1,ht,G,k]:=h;let#[dx,h1]:=TT.ob;show#[_,(ag (dr 3 Iq.nd (zP (aK (pv 0) rfl) (aA br (pv 1) (cu (by rfl) m8 r8)) dn #[1,1]))
  (ak (jQ (a9 hr) (pv 3) (pv 1) (pc GC hr ax (aa (pv 2) ai)) rfl))),?_]
 show#[0,p,C,dx,_,.ref fs,rfl,h1,T.cl,T.nF,ku fs,fs,rfl,.inl #[_,.inl TT.hf],0,_,0,rfl,#[av,av],λe N=>?_];have U:=au (X:=.dK []) N;have Y:=TT.same U;show#[_,.inl (q/8),Y.hf,rfl,Ez Y,λv I=>?_,λI=>?_]
 .rw[kF]at I;cases c:look tb (q/8)with
  |none=>rw[c]at I;cases I
  |some a =>
   let#[d,ap]:=a;rw[c]at I;obtain rfl:V.ref d=v:=rn I;have O:=az c;show#[0,.inr #[t,xs,rfl,ht.keep λo e=>U _ _ e,G,λH2 l s2 am R=>?_]];have S:=Y.same s2;let#[sec',e1,e2,S']:=B6 (S.hs _ O) R G rfl q0 q1;have hd:=S.hd _ O;show#[0,0,d,0,fC.k (k:=.inl q) hd (Fn (S.hs _ O)),?_];rw[e1];have L:Off (· = d) H2 (upd H2 d (.dK (dk fS sec'))):=rM rfl;show k _ _ (S.put c L ae (S'.keep λb ys J=>L _ _ J (cK J hd (by intro z;cases z)))) (λj=>pW c rfl e2 j) (ig (U.trans s2) (L.mono λb z=>.inr #[_,O,z])) λb z=>.inl (xh O z)
 .rw[kF]at I;have c:look tb (q/8)=none:=by
   cases c:look tb (q/8)with
   |none=>rfl
   |some a=>rw[c]at I;cases I
  have ep:putK (dk fF tb) (ti (q/8)) (.ref e)=dk fF (tb++[(q/8,(e,[]))]):=cH (f:=fF) (a:=(e,[])) c;rw[ep];have ef:e≠fs:=λz=>ar TT.hf N z.symm;have hE:upd (upd H e (.dK [])) fs (.dK (dk fF (tb++[(q/8,(e,[]))]))) e=some (.dK []):=(by rw[ah ef,ae]);have o1:Off (· = fs) H (upd (upd H e (.dK [])) fs (.dK (dk fF (tb++[(q/8,(e,[]))])))):=λb u J hb=>(by rw[ah hb,ah (ar J N)];show J);show#[0,.inr #[t,xs,rfl,ht.off λe=>o1 _ _ e (cK e TT.hf (by intro z;cases z)),G,λH2 l s2 am R=>?_]];have ab:=s2 _ _ hE;show#[0,0,e,0,fC.k (k:=.inl q) ab av,?_];have e1:putK ([]:List (Key×V)) (ti q) (.ref l)=dk fS [(q,(l,xs))]:=rfl;rw[e1];have L:Off (· = e) H2 (upd H2 e (.dK (dk fS [(q,(l,xs))]))):=rM rfl;have oA:Off (· = fs) H (upd H2 e (.dK (dk fS [(q,(l,xs))]))):=λb u J hb=>L b u (s2 _ _ (o1 b u J hb)) (ar J N);have ac:(upd H2 e (.dK (dk fS [(q,(l,xs))]))) l=some (.tup xs):=L _ _ R (cK R ab (by intro z;cases z));show k _ _ (TT.add (sec':=[(q,(l,xs))]) c N oA ?_ ae #[λy hy=>?_,?_,by simp]) (λj=>yi (o:=some (l,xs)) c rfl (λj=>?_) j) (oA.mono λb z=>.inl z) λb z=>?_
  rotate_left 4
  .rcases z with z|⟨x,G,z⟩
   .show .inl (.inl z)
   .rcases n7.mp G with G|G
    .show .inl (.inr #[x,G,z])
    .rw[nq.mp G]at z;rw[z];show .inr N
  .show L _ _ (s2 _ _ ae) (qw ef) |>.trans ?_;unfold dk;rw[DO,DO];rfl
  .rw[nq.mp hy];show#[ac,G,rfl,q0,q1]
  .simp
  .rw[aO,ie];by_cases z:j=q
   .rw[Tz z,Tz z.symm]
   .rw[Tx z,Tx (qw z)]
theorem Jh:aC ["self","page","k","second"] ["self","page"] (aw uS):=L2.bC
theorem zO {f C:Addr}{fd:qj}(F:cI K "clear" "Table.clear" uS f fd) (T:Txt K mg C) (TP:AB mg):a8 P w K mg base aV 1 f fd ["self","page"] (qq C):=by
 let#[u8,m8,r8]:=T.sp;have R:=T;show F.dh Jh (λap A outer s H vs Q E hr h=>?_);let#[p,fs,tb,q,rfl,TT,k]:=h;let#[dx,h1]:=TT.ob;replace T:=TP;show#[_,(ag (dr 2 Jh.nd (aA br (pv 1) (cu (by rfl) m8 r8)))
  (ag (dr 3 Jh.nd (lT (a9 hr) (aK (pv 0) rfl) (pv 2) dn #[1,1]))
  (ag (aS (ja (gj (a9 hr) (pv 1) (pv 3))) (ak qk) aF)
  (ag (aL (eG (pv 3) (pv 1) #[1,1]))
  (ak (aS (aD bR (aQ j9 (by rfl) T.len boot_len (aa (pv 3) ai)) aj (aI _)) (ak (aL (eG (aK (pv 0) rfl) (pv 2) #[1,1]))) aF)))))),?_]
 show#[0,_,0,rfl,#[av,av],?_];show#[0,p,C,dx,_,.ref fs,rfl,h1,R.cl,R.nF,ku fs,fs,rfl,.inl #[_,.inl TT.hf],0,λe he=>?_];have J:=au (X:=.dK []) he;have I:=TT.same J;show#[_,cZ.k (k:=.inl (q/8)) I.hf,?_];rw[kF];cases c:look tb (q/8)with
 |none =>
  show#[0,0,e,0,cZ.k (k:=.inl q) ae,true,rfl,eL ?_];show k _ _ I (λj=>?_) (.inl rfl) (ig J λb u O _=>O) λb z=>.inl z;by_cases z:j=q
  .rw[Tz z,z];show tP c
  .rw[Tx z]
 |some a =>
  let#[d,G]:=a;have L:=az c;have hd:=I.hd _ L;have S:=I.hs _ L;show#[0,0,d,0,cZ.k (k:=.inl q) hd,?_];rw[vN];cases c2:look G q with
  |none =>
   show#[true,rfl,eL ?_];show k _ _ I (λj=>?_) (.inl rfl) (ig J λb u O _=>O) λb z=>.inl z;by_cases z:j=q
   .rw[Tz z,z,t4 c,c2];rfl
   .rw[Tx z]
  |some b =>
   show#[false,rfl,bX ?_];show#[0,d,rfl,.inl #[_,.inl hd],0,_,.inl q,fS b,hd,rfl,by rw[vN,c2];rfl,?_];rw[eK];show#[0,d,0,ae,5];have N:Off (· = d) (upd H e (.dK [])) (upd (upd H e (.dK [])) d (.dK (dk fS (bf G q)))):=rM rfl;by_cases z:bf G q=[]
   .have U:decide (V.int ((dk fS (bf G q)).length:Nat)=V.int 0)=true:=(by rw[z];rfl);rw[U];show#[true,rfl,eL ?_];have am:d≠fs:=TT.nf _ L;have ab:(upd (upd H e (.dK [])) d (.dK (dk fS (bf G q)))) fs=some (.dK (dk fF tb)):=N _ _ I.hf (qw am);have ac:(upd (upd H e (.dK [])) d (.dK (dk fS (bf G q)))) p=some (.ins C dx (jv fs)):=N _ _ (J _ _ h1) (cK (J _ _ h1) hd (by intro z;cases z));show#[0,p,C,dx,_,.ref fs,rfl,ac,R.cl,R.nF,ku fs,fs,rfl,.inl #[_,.inl ab],0,_,.inl (q/8),fF (d,G),ab,rfl,by rw[kF,c];rfl,?_];rw[eK];have o3:Off (λb=>b=d\/b=fs) (upd H e (.dK [])) (upd (upd (upd H e (.dK [])) d (.dK (dk fS (bf G q)))) fs (.dK (dk fF (bf tb (q/8))))):=λb u O hb=>by
     rw[ah λz=>hb (.inr z),ah λz=>hb (.inl z)];show O
    show k _ _ (I.del c o3 ae) (λj=>xN c rfl (λj hj=>?_) j) (.inr ?_) (ig J (o3.mono λb z=>z.elim (λz=>.inr #[_,L,z]) .inl)) λb z=>.inl (Cq z)
    .have:=ck G q j;rw[z,ie,Tx hj]at this;show this.symm
    .show lF TT.nk c
   .have U:decide (V.int ((dk fS (bf G q)).length:Nat)=V.int 0)=false:=decide_eq_false λy=>by
     injection y with y;rw[cj]at y;show z (Lx.mp af)
    rw[U];show#[false,rfl,bX ?_];have S2:gM (upd (upd H e (.dK [])) d (.dK (dk fS (bf G q)))) (q/8) (bf G q):=#[λy hy=>?_,?_,z]
    .show k _ _ (I.put c N ae S2) (λj=>pW c rfl (λj=>ck G q j) j) (.inl (fK _ _ _)) (ig J (N.mono λb z=>.inr #[_,L,z])) λb z=>.inl (xh L z)
    .have Y:=S.ht y (b9 hy).1;show#[N _ _ Y.1 (cK Y.1 hd (by intro z;cases z)),Y.2]
    .rw[jw];show S.ns.filter _
theorem HY:aC ["self","found","k"] ["self"] (aw uU):=L2.bC
theorem zA {f C:Addr}{fd:qj}(F:cI K "pages" "Table.pages" uU f fd) (L:Txt K mg C) (T:AB mg):a8 P w K mg base aV 1 f fd ["self"] (ff C):=by
 show F.dh HY (λaT A outer s H vs Q E hr h=>?_);let#[p,fs,tb,rfl,TT,k]:=h;let#[dx,h1]:=TT.ob;have J:=TT.hf;have hs:=vu;show#[_,(ag (dr 1 HY.nd (cg ai))
  (ag (iO (cG D3 rfl (lG (aK (pv 0) rfl)) (gb 2 HY.nd) (ak (aL (ip LJ ML PB (uo rfl) (pv 1) (aa (bh (a9 hr) (aK (pv 0) rfl) (pv 2) bW) ai))))))
  (ak (aE (aQ qJ (by rfl) T.sorted kI (aa (pv 1) ai)))))),?_]
 have ab:∀o Y,H fs≠some (.bP o Y):=λo Y z=>(by rw[J]at z;cases z);show#[av,λl I=>?_];have sl:=au (X:=.lst []) I;have R:l≠fs:=λz=>ar J I z.symm;have ap:p≠l:=ar h1 I;have ac:p≠fs:=cK h1 J (by intro z;cases z);show#[0,p,C,dx,_,.ref fs,rfl,sl _ _ h1,L.cl,L.nF,ku fs,fs,0,sl _ _ J,ab,λo=>?_];show lV (kvs:=dk fF tb) (λi σ H'=>H'=upd (upd H l (.lst ((fV (tb.take i)).map V.int))) fs (.bP o (.dK (dk fF tb)))/\∃v,σ=[some (.ref p),some (.ref l),v]) #[rfl,0] (λi σ H' _ h=>by rw[h.1,ae]) (λi k v σ H' hi h=>?_) (λσ H' h=>?_)
 .let#[rfl,v',rfl]:=h;unfold dk at hi;rw[se]at hi;cases e:tb[i]? with
  |none=>rw[e]at hi;cases hi
  |some x =>
   rw[e]at hi;let#[rfl,rfl]:=Ph (rn hi);have N:x∈tb:=vr e;have hd:=TT.hd x N;have dl:x.2.1≠l:=ar hd I;have df:x.2.1≠fs:=TT.nf x N;have aB:i<tb.length:=(kz.mp e).1;have BE:=tL TT i;have bx:=(TT.hs x N).len;have U:(upd (upd H l (.lst ((fV (tb.take i)).map V.int))) fs (.bP o (.dK (dk fF tb)))) l=some (.lst ((fV (tb.take i)).map V.int)):=(by rw[ah R,ae]);show#[0,.inl #[4,bA.of U],0,p,C,dx,_,.ref fs,rfl,by rw[ah ac,ah ap];show h1,L.cl,L.nF,ku fs,0,fs,.ref x.2.1,rfl,.inl #[dk fF tb,.inl x.1,.inr #[o,ae],5],l,x.2.1,_,dk fS x.2.2,1,U,by rw[ah df,ah dl];show hd,3]
   .rw[kF,bJ TT.nk N];rfl
   .rw[mu,cj];omega
   .show#[?_,0];rw[So,e];funext b;by_cases z:b=l
    .rw[z,ae,ah R,ae];have ek:(dk fS x.2.2).map (λkv=>kV kv.1)=(x.2.2.map (·.1)).map V.int:=by
      unfold dk;rw[Mb,Mb];rfl
     rw[ek, <-DO];unfold fV;rw[Ov];simp
    .rw[ah z];by_cases O:b=fs
     .rw[O,ae,ae]
     .rw[ah O,ah O,ah z,ah z]
 .let#[rfl,v',rfl]:=h;show#[fs,o,_,ae,ab,?_];rw[cj,LN];have e0:upd (upd (upd H l (.lst ((fV tb).map V.int))) fs (.bP o (.dK (dk fF tb)))) fs (.dK (dk fF tb))=upd H l (.lst ((fV tb).map V.int)):=by
   funext b;by_cases z:b=fs
   .rw[z,ae,ah (qw R)];show J.symm
   .rw[ah z,ah z]
  rw[e0];have BE:=tL TT tb.length;rw[LN]at BE;have as:=au (X:=.lst ((fV tb).map V.int)) I;show#[0,l,fV tb,rfl,bA.of ae,jS TT,af,λS ns' G hp hs=>?_];have am:S≠l:=λz=>(by rw[z,ae]at G;cases G);show k _ S ns' (as.trans (au G)) (by rw[ah am]at G;show G) ae hp hs
end
end Tb
namespace Rm
open PySem L2
noncomputable def top (i:Nat):K4:=PySem.Challenge.pw_ownroom_k16_put_out_and_fetched.main.body.getD i (.Pass #[(0),(0),(0),(0)])
noncomputable abbrev jk:K4:=top 20
noncomputable abbrev kL:K4:=top 21
noncomputable abbrev uZ:K4:=top 22
noncomputable abbrev rE:K4:=top 23
noncomputable abbrev m9:K4:=top 24
noncomputable abbrev qz:K4:=top 25
noncomputable abbrev Bv:K4:=top 26
theorem au {H:Hp}{l:Addr}{X:HO}(h:H l=none):aZ H (upd H l X):=λb o e=>by rw[ah (ar e h)];show e
theorem Dc {H H':Hp}{l:Addr}{X:HO}(s:aZ H H') (h:H l=none):aZ H (upd H' l X):=λb o e=>by rw[ah (ar e h)];show s b o e
structure zM (mg:Str->Option Value):Prop where
 xv:∃u,mg "ROOM_PAGES" = some u/\RelV (.int 64) u
 cells:∃u,mg "PAGE_CELLS" = some u/\RelV (.int 8) u
 list:mg "list" = none
 range:mg "range" = none
 len:mg "len" = none
noncomputable def cE (p m:Int):Prop:=m<1\/p<0\/64<p+m
noncomputable def aM (p m:Int):List Int:=(KR m.toNat).map λk:Nat=>p+k
inductive eJ (vs:List V) (H:Hp) (Q:VK) (e3:XK):Prop
 |mk (p m:Int) (_:vs=[.int p,.int m]) (_:¬ cE p m) (_:∀(H':Hp) (l:Addr),aZ H H'->H l=none->H' l=some (.lst ((aM p m).map V.int))->Q (.ref l) H'):eJ vs H Q e3
theorem nW (q:Int):∀G:List Int,BA (.int q) (G.map V.int)=decide (q∈G)
 | []=>rfl
 |m::G=>by
  have I:=nW q G;unfold BA at I ⊢;rw[Mc,Ql,I];by_cases e:q=m
  .rw[e];simp[kE]
  .have J:m≠q:=qw e;simp[kE,e,J]
inductive gC (vs:List V) (H:Hp) (Q:VK) (e3:XK):Prop
 |mk (a b:Addr) (ms ps:List Int) (_:vs=[.ref a,.ref b]) (_:H a=some (.lst (ms.map V.int))) (_:H b=some (.lst (ps.map V.int))) (_:(∀q∈ps,q∈ms)) (_:Q .non H):gC vs H Q e3
section
variable {P:rz}{w:C1}{K:iF}{mg:Str->Option Value}{base:Heap}
theorem JU:aC ["page","many"] ["page","many"] (aw jk):=L2.bC
theorem rh {f:Addr}{fd:qj}(F:cI K "pages_from" "pages_from" jk f fd) (T:zM mg):a8 P w K mg base aV 1 f fd ["page","many"] eJ:=by
 let#[ac,Y,O]:=T.xv;show F.dh JU (λab A outer s H vs Q E hr h=>?_);let#[p,m,rfl,G,kQ]:=h;have hs:=vu;have d1:¬ m<1:=λz=>G (.inl z);have S:¬ p<0:=λz=>G (.inr (.inl z));have N:¬ 64<p+m:=λz=>G (.inr (.inr z));show#[_,(ag (aS (PW.pt (ic (aD gI (pv 1) aj (aI _)) (ic (aD gI (pv 0) aj (aI _)) (gF (aD gJ (aA bp (pv 0) (pv 1)) (cu (by rfl) Y O) (aI _)))))) cY aF)
  (ak (aE (bK (mf rfl) (by rfl) T.list dU (aa (bK yO (by rfl) T.range zf (aa (pv 0) (aa (aA bp (pv 0) (pv 1)) ai))) ai))))),?_]
 show gP λ_ U J=>?_;clear U;show#[0,_,0,rfl,0,?_];show gR (λc=>absurd (of_decide_eq_true c) d1) (λ_=>?_);show#[0,_,0,rfl,0,?_];show gR (λc=>absurd (of_decide_eq_true c) S) (λ_=>?_);show#[0,0,_,0,4,0,rfl,0,?_];show oU (λc=>absurd (of_decide_eq_true c) N) (λ_=>J _ ?_);show#[0,0,0,_,0,rfl,p,p+m,rfl,λL R=>?_];have s1:=au (X:=.rng p (p+m)) R;show#[L,p,m.toNat,rfl,by rw[ae,Ow af],af,af,af,λl I=>?_];show kQ _ l (s1.trans (au I)) (s1.free I) ?_;rw[ae];unfold aM;rw[Mb];rfl
theorem GY:aC ["mapped","pages","page"] ["mapped","pages"] (aw kL):=L2.bC
theorem tD {f:Addr}{fd:qj}(F:cI K "refuse_unmapped" "refuse_unmapped" kL f fd):a8 P w K mg base aV 1 f fd ["mapped","pages"] gC:=by
 show F.dh GY (λS A outer s H vs Q E U h=>?_);let#[a,b,Y,ps,rfl,N,G,J,R]:=h;show#[_,(ak (cG D3 rfl (fU (pv 1)) (gb 2 GY.nd) (ak (aS (aD jA (pv 2) (pv 0) (by with_unfolding_all rfl)) cY aF)))),?_];show#[0,b,rfl,#[_,bA.of G],?_];show fG (K:=K) (a:=b) (xs:=ps.map V.int) (λi σ H2=>∃v2:Option V,σ=[some (.ref a),some (.ref b),v2]/\H2=H) #[0,rfl] (λi σ H2 _ L=>by let#[_,_,e]:=L;rw[e];show bA.of G) ?_ ?_
 .rintro i x σ H2 I ⟨v2,rfl,rfl⟩;rw[se]at I;let#[q,O,rfl]:=pf.mp I;show#[0,0,a,0,.inl (bA.of N),rfl,eh _,0,?_];rw[nW,decide_eq_true (J q (vr O))];show bX #[0,rfl]
 .rintro σ H2 ⟨v2,rfl,rfl⟩;show R
end
theorem yg {p m:Int}(h:¬ cE p m):∀q∈aM p m,0<=q/\q<64/\q.natAbs.log2<1920:=λq G=>by
 unfold aM at G;let#[k,I,rfl]:=rr.mp G;rw[Lg]at I;have h1:¬ m<1:=λz=>h (.inl z);have h2:¬ p<0:=λz=>h (.inr (.inl z));have N:¬ 64<p+m:=λz=>h (.inr (.inr z));show#[af,af,?_];by_cases z:(p+(k:Int)).natAbs=0
 .rw[z];decide
 .rw[Nat.log2_lt z];have L:(p+(k:Int)).natAbs<64:=af;have J:(64:Nat)<2^1920:=ao;omega
inductive rq (vs:List V) (H:Hp) (Q:VK) (e3:XK):Prop
 |mk (a:Addr) (ms:List Int) (p m:Int) (_:vs=[.ref a,.int p,.int m]) (_:H a=some (.lst (ms.map V.int))) (_:¬ cE p m) (_:(∀q∈aM p m,¬ q∈ms)) (_:∀(H':Hp) (l:Addr),aZ H H'->H l=none->H' l=some (.lst ((aM p m).map V.int))->Q (.ref l) H'):rq vs H Q e3
inductive mR (vs:List V) (H:Hp) (Q:VK) (e3:XK):Prop
 |mk (a:Addr) (ms:List Int) (p m:Int) (_:vs=[.ref a,.int p,.int m]) (_:H a=some (.lst (ms.map V.int))) (_:¬ cE p m) (_:(∀q∈aM p m,q∈ms)) (_:∀(H':Hp) (l:Addr),aZ H H'->H l=none->H' l=some (.lst ((aM p m).map V.int))->Q (.ref l) H'):mR vs H Q e3
noncomputable def jm (ad:Int):Int:=ad/8
noncomputable def gZ (ad n:Int):Int:=(ad+n-1)/8-ad/8+1
noncomputable def cX (ad n:Int) (G:List Int):Prop:=n<0\/(0<n/\(cE (jm ad) (gZ ad n)\/¬ ∀q∈aM (jm ad) (gZ ad n),q∈G))
noncomputable def aq (ad n:Int):List Int:=if n=0 then[]else aM (jm ad) (gZ ad n)
inductive iT (vs:List V) (H:Hp) (Q:VK) (e3:XK):Prop
 |mk (a:Addr) (ms:List Int) (ad n:Int) (_:vs=[.ref a,.int ad,.int n]) (_:H a=some (.lst (ms.map V.int))) (_:¬ cX ad n ms) (_:∀(H':Hp) (l:Addr),aZ H H'->H l=none->H' l=some (.lst ((aq ad n).map V.int))->Q (.ref l) H'):iT vs H Q e3
section
variable {P:rz}{w:C1}{K:iF}{mg:Str->Option Value}{base:Heap}
theorem Fm:aC ["mapped","page","many","pages","wanted"] ["mapped","page","many"] (aw uZ):=L2.bC
theorem Aj {f:Addr}{fd:qj}(F:cI K "pages_to_map" "pages_to_map" uZ f fd) (GP:Df P w K mg base aV 1 "pages_from" eJ):a8 P w K mg base aV 2 f fd ["mapped","page","many"] rq:=by
 show F.dh Fm (λab A outer s H vs Q E S h=>?_);let#[a,ms,p,m,rfl,Y,R,L,kQ]:=h;show#[_,(ag (dr 3 Fm.nd (pc GP S ax (aa (pv 1) (aa (pv 2) ai))))
  (ag (cG D3 rfl (fU (pv 3)) (gb 4 Fm.nd) (ak (aS (aD gp (pv 4) (pv 0) (by with_unfolding_all rfl)) cY aF)))
  (ak (aE (pv 3))))),?_]
 show#[0,0,p,m,rfl,R,λH1 l s1 N G=>?_];show#[0,l,rfl,#[_,bA.of G],?_];show fG (K:=K) (a:=l) (xs:=(aM p m).map V.int) (λi σ H2=>∃I:Option V,σ=[some (.ref a),some (.int p),some (.int m),some (.ref l),I]/\H2=H1) #[0,rfl] (λi σ H2 _ O=>by let#[_,_,e]:=O;rw[e];show bA.of G) ?_ ?_
 .rintro i x σ H2 J ⟨I,rfl,rfl⟩;rw[se]at J;let#[q,U,rfl]:=pf.mp J;show#[0,0,a,0,.inl (bA.of (s1 _ _ Y)),rfl,eh _,0,?_];rw[nW,decide_eq_false (L q (vr U))];show bX #[0,rfl]
 .rintro σ H2 ⟨I,rfl,rfl⟩;show#[0,kQ _ l s1 N G]
theorem Gz:aC ["mapped","page","many","pages"] ["mapped","page","many"] (aw rE):=L2.bC
theorem yG {f:Addr}{fd:qj}(F:cI K "pages_to_drop" "pages_to_drop" rE f fd) (Y:Df P w K mg base aV 1 "pages_from" eJ) (L:Df P w K mg base aV 1 "refuse_unmapped" gC):a8 P w K mg base aV 2 f fd ["mapped","page","many"] mR:=by
 show F.dh Gz (λab A outer s H vs Q E I h=>?_);let#[a,S,p,m,rfl,R,J,N,U]:=h;show#[_,(ag (dr 3 Gz.nd (pc Y I ax (aa (pv 1) (aa (pv 2) ai))))
  (ag (aL (pc L I ax (aa (pv 0) (aa (pv 3) ai))))
  (ak (aE (pv 3))))),?_]
 show#[0,0,p,m,rfl,J,λH1 l s1 O G=>?_];show#[0,0,a,l,S,aM p m,rfl,s1 _ _ R,G,N,#[0,U _ l s1 O G]]
theorem CC:aC ["mapped","address","many","first","last","pages"] ["mapped","address","many"] (aw m9):=L2.bC
theorem vM {f:Addr}{fd:qj}(F:cI K "pages_of_cells" "pages_of_cells" m9 f fd) (T:zM mg) (GP:Df P w K mg base aV 1 "pages_from" eJ) (Y:Df P w K mg base aV 1 "refuse_unmapped" gC):a8 P w K mg base aV 2 f fd ["mapped","address","many"] iT:=by
 let#[u8,L,I]:=T.cells;show F.dh CC (λab A outer s H vs Q E R h=>?_);let#[a,S,ad,n,rfl,ha,G,U]:=h;show#[_,(ag (aS (aD bR (pv 2) aj (aI _)) (ak (aE (cg ai))) aF)
  (ag (aS (aD gI (pv 2) aj (aI _)) cY aF)
  (ag (dr 3 CC.nd (aA br (pv 1) (cu (by rfl) L I)))
  (ag (dr 4 CC.nd (aA br (aA jb (aA bp (pv 1) (pv 2)) aj) (cu (by rfl) L I)))
  (ag (dr 5 CC.nd (pc GP R ax (aa (pv 3) (aa (aA bp (aA jb (pv 4) (pv 3)) aj) ai))))
  (ag (aL (pc Y R ax (aa (pv 0) (aa (pv 5) ai))))
  (ak (aE (pv 5))))))))),?_]
 show#[0,rfl,0,?_];show gR (λc=>?_) (λc=>?_)
 .have e:n=0:=V.int.inj (of_decide_eq_true c);show#[av,λl J=>?_];show U _ l (au J) J ?_;rw[ae];unfold aq;rw[Tz e];rfl
 have ne:¬ n=0:=λz=>c (decide_eq_true (by rw[z]));have nn:¬ n<0:=λz=>G (.inl z);have N:0<n:=af;have np:¬ cE (jm ad) (gZ ad n):=λz=>G (.inr #[N,.inl z]);have ni:∀q∈aM (jm ad) (gZ ad n),q∈S:=Ny λz=>G (.inr #[N,.inr z]);show#[0,_,0,rfl,0,?_];show gR (λc'=>absurd (of_decide_eq_true c') nn) (λ_=>?_);show#[0,_,0,rfl,#[av,av],0,0,_,0,4,0,4,0,rfl,#[av,av],?_];show#[0,0,0,_,0,4,0,rfl,jm ad,gZ ad n,rfl,np,λH1 l s1 nl O=>?_];show#[0,0,a,l,S,aM (jm ad) (gZ ad n),rfl,s1 _ _ ha,O,ni,#[0,U _ l s1 nl ?_]];unfold aq;rw[Tx ne];show O
end
theorem rH {ws:List Int}{s n:Nat}:eS (ws.map V.int) (some (s:Int)) (some ((s:Int)+(n:Int)))=((ws.drop s).take n).map V.int:=by
 unfold eS;rw[mu,HT.lH,show((s:Int)+(n:Int))=((s+n:Nat):Int)by push_cast;rfl,HT.lH, <-SG, <-map_take];congr 1;by_cases h:s<=ws.length
 .rw[Ol h];by_cases h2:s+n<=ws.length
  .rw[Ol h2,show s+n-s=n by omega]
  .rw[OB af,LF (by rw[Mn];omega),LF (by rw[Mn];omega)]
 .rw[OB af,OB af,Nb (qs _),Nb af];simp
theorem p5 {ws:List Int}{s:Nat}:eS (ws.map V.int) none (some (s:Int))=(ws.take s).map V.int:=by
 unfold eS;rw[mu,HT.lH,show HT.dg ws.length 0 none=0 from rfl,Sg,Nat.sub_zero, <-map_take];congr 1;by_cases h:s<=ws.length
 .rw[Ol h]
 .rw[OB af,LF (qs _),LF af]
theorem xX {ws:List Int}{s:Nat}:eS (ws.map V.int) (some (s:Int)) none=(ws.drop s).map V.int:=by
 unfold eS;rw[mu,HT.lH,show HT.dg ws.length ws.length none=ws.length from rfl, <-SG, <-map_take];congr 1;by_cases h:s<=ws.length
 .rw[Ol h,LF (by rw[Mn];omega)]
 .rw[OB af,Nb (qs _),Nb af];simp
theorem eD {K:iF}{H H':Hp}{a:Addr}{xs:List V}(h:bA K H a xs) (s:∀o,H a=some o->H' a=some o):bA K H' a xs:=by
 rcases h with(h|⟨o,h⟩)|h
 .show .inl (.inl (s _ h))
 .show .inl (.inr #[o,s _ h])
 .show .inr h
theorem vR {α I:Type}{F G:α->I->Prop}(h:∀x y,F x y->G x y):∀{xs:List α}{ys:List I},Paired F xs ys->Paired G xs ys
 |_,_,.nil=>.nil
 |_,_,.cons q t=>.cons (h _ _ q) (vR h t)
theorem uE {α I:Type}{F:α->I->Prop}{xs J:List α}{ys G:List I}(p:Paired F xs ys) (h:Paired F J G):Paired F (xs++J) (ys++G):=by
 induction p with
 |nil=>show h
 |cons q _ L=>show .cons q L
theorem vb {α G:Type}{F:α->G->Prop}{x:α}{xs:List α}{ys:List G}(p:Paired F xs ys) (h:x∈xs):∃y,F x y:=by
 induction p with
 |nil=>cases h
 |cons q _ I =>
  rcases BY.mp h with e|h
  .show#[_,e▸q]
  .show I h
inductive mU (vs:List V) (H:Hp) (Q:VK) (e3:XK):Prop
 |mk (a:Addr) (ws:List Int) (ad:Int) (n:Nat) (_:vs=[.ref a,.int ad,.int n]) (_:H a=some (.lst (ws.map V.int))) (_:∀(H':Hp) (l:Addr),aZ H H'->H l=none->H' l=some (.lst (((ws.drop (ad%8).toNat).take n).map V.int))->Q (.ref l) H'):mU vs H Q e3
noncomputable def dS (ws:List Int) (s:Nat) (cs:List Int):List Int:=ws.take s++cs++ws.drop (s+cs.length)
noncomputable def f6 (k:Nat) (ws:List Int):List (List Int):=(KR k).map λi=>(ws.drop (8*i)).take 8
inductive vc (K:iF) (vs:List V) (H:Hp) (Q:VK) (e3:XK):Prop
 |mk (a c:Addr) (ws cs:List Int) (ad:Int) (k:Nat) (_:vs=[.ref a,.int ad,.ref c]) (_:H a=some (.lst (ws.map V.int))) (_:bA K H c (cs.map V.int)) (_:ws.length<=600) (_:cs.length<=600) (_:k<=64) (_:(dS ws (ad%8).toNat cs).length=8*k) (_:∀(H':Hp) (l:Addr) (rs:List Addr),aZ H H'->H l=none->H' l=some (.lst (rs.map V.ref))->Paired (λr (row:List Int)=>H' r=some (.lst (row.map V.int))) rs (f6 k (dS ws (ad%8).toNat cs))->(∀r∈rs,H r=none)->rs.Nodup->Q (.ref l) H'):vc K vs H Q e3
theorem IM:∀k:Nat,k<65->Builtin.Range.small 0 (8*(k:Int)) 8=true/\Builtin.Range.rangeSize 0 (8*(k:Int)) 8=(k:Int)/\Builtin.divisionGoesByPylong (8*(k:Int)-0) 8=false:=ao
section
variable {P:rz}{w:C1}{K:iF}{mg:Str->Option Value}{base:Heap}
theorem GW:aC ["whole","address","many","start"] ["whole","address","many"] (aw qz):=L2.bC
theorem yu {f:Addr}{fd:qj}(F:cI K "run_within" "run_within" qz f fd) (T:zM mg):a8 P w K mg base aV 1 f fd ["whole","address","many"] mU:=by
 let#[U,I,N]:=T.cells;show F.dh GW (λR A outer s H vs Q E S h=>?_);let#[a,ws,ad,n,rfl,L,k]:=h;show#[_,(ag (dr 3 GW.nd (aA bB (pv 1) (cu (by rfl) I N)))
  (ak (aE (cW fN (pv 0) (cO (pv 3)) (cO (aA bp (pv 3) (pv 2))))))),?_]
 show#[0,_,0,rfl,vz,?_];have O:=Lp ad (show(8:Int)≠0 by decide);show#[0,0,ad%8,rfl,0,0,_,0,rfl,ad%8+n,rfl,a,0,bA.of L,λl G=>?_];have e:ad%8=((ad%8).toNat:Int):=(Ow O).symm;have J:eS (ws.map V.int) (some (ad%8)) (some (ad%8+n))=((ws.drop (ad%8).toNat).take n).map V.int:=by
  rw[e];show rH
 show k _ l (au G) G (by rw[ae,J])
theorem Eh:aC ["whole","address","cells","start","changed"] ["whole","address","cells"] (aw Bv):=L2.bC
theorem Dj {f:Addr}{fd:qj}(F:cI K "pages_with" "pages_with" Bv f fd) (T:zM mg):a8 P w K mg base aV 1 f fd ["whole","address","cells"] (vc K):=by
 let#[u8,m8,Y]:=T.cells;show F.dh Eh (λa5 A outer s H vs Q E hr h=>?_);let#[a,c,ws,cs,ad,j,rfl,ha,hc,hw,a4,hj,aT,k]:=h;have hs:=vu;show#[_,(ag (dr 3 Eh.nd (aA bB (pv 1) (cu (by rfl) m8 Y)))
  (ag (dr 4 Eh.nd (aA wb (aA wb (cW fN (pv 0) eY (cO (pv 3))) (bK cU (by rfl) T.list dU (aa (pv 2) ai))) (cW fN (pv 0) (cO (aA bp (pv 3) (aQ bG (by rfl) T.len boot_len (aa (pv 2) ai)))) eY)))
  (ak (aE (gx (cl:=[("changed",s.heap.objs.size+1)]) (caps:=[("changed",4)]) #[rfl,ao,ao,rfl,by kernel_rfl,by intro p G;simp only[BY,DD,or_false]at G;rcases G with rfl<;>first|rfl|show#[rfl,.inl rfl,.inl rfl]|show#[rfl,.inl rfl,.inr rfl],by kernel_rfl,by intro p G;simp only[BY,DD,or_false]at G;rcases G with rfl<;>first|rfl|show#[rfl,.inl rfl,.inl rfl]|show#[rfl,.inl rfl,.inr rfl],ao] rfl (yE (by rfl) T.range (aa aj (aa (aQ bG (by rfl) T.len boot_len (aa (pv 4) ai)) (aa (cu (by rfl) m8 Y) ai)))) (λ_ _ _ _=>fO) (λ_ _ _ _=>(cW (show HS _ (E9 K)from fN) (pv 1) (cO (pv 0)) (cO (aA bp (pv 0) (cu (by rfl) m8 Y)))))))))),?_]
 show eM λ_ jt=>?_;show#[0,_,0,rfl,vz,?_];have m0:=Lp ad (show(8:Int)≠0 by decide);have e:ad%8=((ad%8).toNat:Int):=(Ow m0).symm;show jt _ _ ?_;change jL _ _ _ [some (V.ref a),some (.int ad),some (.ref c),some (.int (ad%8)),none] H;rw[e];generalize (ad%8).toNat=st at *;clear e m0;show eM λ_ jt=>?_;show#[0,0,(st:Int),rfl,a,0,bA.of ha,λO a3=>?_];rw[p5];have s1:=au (X:=.lst ((ws.take st).map V.int)) a3;have e1:(upd H O (.lst ((ws.take st).map V.int))) O=some (.lst ((ws.take st).map V.int)):=ae;show#[0,c,0,.inl (eD hc (s1 _)),λl2 aB=>?_];have s2:=au (X:=.lst (cs.map V.int)) aB;show#[O,l2,_,0,rfl,s2 _ _ e1,ae,by rw[mu,mu,HC];omega,λS a0=>?_];rw[<-DO];have s3:=au (X:=.lst ((ws.take st++cs).map V.int)) a0;have S3:=(s1.trans s2).trans s3;have e3:(upd (upd (upd H O (.lst ((ws.take st).map V.int))) l2 (.lst (cs.map V.int))) S (.lst ((ws.take st++cs).map V.int))) S=some (.lst ((ws.take st++cs).map V.int)):=ae;generalize upd (upd (upd H O (.lst ((ws.take st).map V.int))) l2 (.lst (cs.map V.int))) S (.lst ((ws.take st++cs).map V.int))=H3 at *;show#[0,0,0,c,0,.inl (eD hc (S3 _)),_,0,rfl,0,a,0,bA.of (S3 _ _ ha),λU a1=>?_];rw[show((st:Int)+((cs.map V.int).length:Nat))=((st+cs.length:Nat):Int)by rw[mu];push_cast;rfl,xX];have s4:=au (X:=.lst ((ws.drop (st+cs.length)).map V.int)) a1;show#[S,U,_,0,rfl,s4 _ _ e3,ae,by rw[mu,mu,wh,HC,Mn];omega,λN a2=>?_];rw[<-DO,show ws.take st++cs++ws.drop (st+cs.length)=dS ws st cs from rfl];have S5:aZ H (upd (upd H3 U (.lst ((ws.drop (st+cs.length)).map V.int))) N (.lst ((dS ws st cs).map V.int))):=(S3.trans s4).trans (au a2);have e5:(upd (upd H3 U (.lst ((ws.drop (st+cs.length)).map V.int))) N (.lst ((dS ws st cs).map V.int))) N=some (.lst ((dS ws st cs).map V.int)):=ae;generalize upd (upd H3 U (.lst ((ws.drop (st+cs.length)).map V.int))) N (.lst ((dS ws st cs).map V.int))=H5 at *;generalize dS ws st cs=sp at *;let#[r1,r2,r3]:=IM j af;show jt _ _ (I0 λ_ jr=>?_);show#[0,N,0,.inl (bA.of e5),(0),8*(j:Int),(8),j,by rw[mu,aT];push_cast;rfl,r1,r2,av,r3,?_];show qN (lo:=0) (st:=8) (n:=j) (λi ys R=>∃I:List Addr,Bw (ys=I.map V.ref) (I.length=i) (Paired (λr (ac:List Int)=>R r=some (.lst (ac.map V.int))) I (f6 i sp)) (aZ H5 R) ((∀r∈I,H5 r=none)) I.Nodup) #[[],1,.nil,aZ.refl _,(λ_ h=>nomatch h),Mt] ?_ ?_
 .rintro i ys R hi ⟨I,rfl,as,G,L,hn,nd⟩;show#[0,0,0,0,_,0,rfl,0,N,0,bA.of (L _ _ e5),λr ab=>?_];rw[show(0+(i:Int)*8)=((8*i:Nat):Int)by push_cast;omega,show(((8*i:Nat):Int)+8)=((8*i:Nat):Int)+((8:Nat):Int)from rfl,rH];have sr:=au (X:=.lst (((sp.drop (8*i)).take 8).map V.int)) ab;show#[by rw[mu];omega,I++[r],by rw[DO];rfl,by rw[wh,as];rfl,?_,L.trans sr,λx J=>?_,?_]
  .unfold f6 at G ⊢;rw[PY,DO];show uE (vR (λx y h=>sr _ _ h) G) (.cons ae .nil)
  .rcases n7.mp J with J|J
   .show hn x J
   .rw[nq.mp J];show L.free ab
  .show N2.mpr #[nd,KW.mpr #[by simp,Mt],λx J y hy=>?_];rw[nq.mp hy];intro z;let#[ac,ap]:=vb G J;rw[z,ab]at ap;cases ap
 .rintro ys R ⟨I,rfl,as,G,L,hn,nd⟩ l6 am;have s7:=au (X:=.lst (I.map V.ref)) am;show jr _ _ (k _ l6 I ((S5.trans L).trans s7) ((S5.trans L).free am) ae (vR (λx y h=>s7 _ _ h) G) (λr h=>S5.free (hn r h)) nd)
end
end Rm
namespace Pg
noncomputable def upd {α:Type}(f:Bool->α) (b:Bool) (v:α):Bool->α:=λc=>if c=b then v else f c
noncomputable def du {α:Type}(f:Int->α) (k:Int) (v:α):Int->α:=λj=>if j=k then v else f j
theorem ae {α:Type}{f:Bool->α}{b:Bool}{v:α}:upd f b v b=v:=Tz rfl
theorem aX {α:Type}{f:Bool->α}{b c:Bool}{v:α}(h:c≠b):upd f b v c=f c:=Tx h
theorem bj {α:Type}{f:Int->α}{b:Int}{v:α}:du f b v b=v:=Tz rfl
theorem aJ {α:Type}{f:Int->α}{b c:Int}{v:α}(h:c≠b):du f b v c=f c:=Tx h
structure PS where
 ow:Bool->List Int
 co:Bool->List (Option (List Int))
 pl:Int->Option (Bool×Nat)
 ls:Int
 inf:List Int
noncomputable def Vw (s:PS) (k:Int) (cs:List Int) (c:Int):Prop:=∃b n,s.pl k=some (b,n)/\(s.co b)[n]?=some (some cs)/\(s.ow b)[n]?=some c
structure Good (s:PS):Prop where
 rg:∀k p,s.pl k=some p->1<=k/\k<=s.ls
 va:∀k b n,s.pl k=some (b,n)->∃cs c,(s.co b)[n]?=some (some cs)/\(s.ow b)[n]?=some c/\1<=c/\cs.length=8
 inj:∀k j p,s.pl k=some p->s.pl j=some p->k=j
 on:∀b n c,(s.ow b)[n]?=some c->c=0\/∃k,s.pl k=some (b,n)
 ln:∀b,(s.co b).length=(s.ow b).length
 nd:s.inf.Nodup
 fi:∀k,k∈s.inf↔∃n,s.pl k=some (true,n)
noncomputable def xA (s:PS) (b:Bool) (k:Int) (cs:List Int) (c:Int):PS :=
 { ow:=upd s.ow b ((s.ow b).set ((s.ow b).idxOf 0) c),co:=upd s.co b ((s.co b).set ((s.ow b).idxOf 0) (some cs)),pl:=du s.pl k (some (b,(s.ow b).idxOf 0)),ls:=s.ls,inf:=if b=true then s.inf++[k]else s.inf }
noncomputable def oM (s:PS) (k:Int) (b:Bool) (n:Nat):PS :=
 { ow:=upd s.ow b ((s.ow b).set n 0),co:=s.co,pl:=du s.pl k none,ls:=s.ls,inf:=s.inf.erase k }
noncomputable def cD (s:PS) (b:Bool) (n:Nat) (c:Int):PS:={ s with ow:=upd s.ow b ((s.ow b).set n c) }
noncomputable def write (s:PS) (b:Bool) (n:Nat) (cs:List Int):PS:={ s with co:=upd s.co b ((s.co b).set n (some cs)) }
theorem uL {l:List Int}(h:(0:Int)∈l):l[l.idxOf 0]?=some 0:=by
 have G:l.idxOf 0<l.length:=LQ.mpr h;rw[tu G,ON G]
theorem wu {l:List Int}(h:(0:Int)∈l):l.idxOf 0<l.length:=LQ.mpr h
section
variable {s:PS}{b:Bool}{k:Int}{cs:List Int}{c:Int}{n:Nat}
theorem wR (G:Good s) (h:(0:Int)∈s.ow b):∀j,s.pl j≠some (b,(s.ow b).idxOf 0):=by
 intro j e;let#[cs,c,_,h2,I,_]:=G.va _ _ _ e;rw[uL h]at h2;cases h2;omega
theorem mC (G:Good s) (h0:(0:Int)∈s.ow b) (Y:s.pl k=none) (h1:1<=k) (h2:k<=s.ls) (h3:1<=c) (h4:cs.length=8):Good (xA s b k cs c):=by
 have hl:=wu h0;have U:=wR G h0;have ac:(s.ow b).idxOf 0<(s.co b).length:=(by rw[G.ln b];show hl);show#[3,3,3,?_]
 .intro j p e;by_cases L:j=k
  .subst L;show#[h1,h2]
  .show G.rg j p (by rw[<-e];show(aJ L).symm)
 .intro j J n' e;by_cases L:j=k
  .subst L;have e:some (b,(s.ow b).idxOf 0)=some (J,n'):=(by rw[<-e];show bj.symm);cases e;show#[cs,c,3,h3,h4]
   .change(upd s.co b _ b)[_]?=_;rw[ae,Ln ac]
   .change(upd s.ow b _ b)[_]?=_;rw[ae,Ln hl]
  .have O:s.pl j=some (J,n'):=(by rw[<-e];show(aJ L).symm);let#[ab,c',e1,e2,e3,e4]:=G.va _ _ _ O;show#[ab,c',3,e3,e4]
   .change(upd s.co b _ J)[_]?=_;by_cases I:J=b
    .subst I;rw[ae,Lb (λq=>U j (by rw[O,q]))];show e1
    .rw[aX I];show e1
   .change(upd s.ow b _ J)[_]?=_;by_cases I:J=b
    .subst I;rw[ae,Lb (λq=>U j (by rw[O,q]))];show e2
    .rw[aX I];show e2
 .intro j S p e N;by_cases L:j=k
  .by_cases R:S=k
   .rw[L,R]
   .subst L;have e:some (b,(s.ow b).idxOf 0)=some p:=(by rw[<-e];show bj.symm);have N:s.pl S=some p:=(by rw[<-N];show(aJ R).symm);show absurd (N.trans e.symm) (U S)
  .have O:s.pl j=some p:=(by rw[<-e];show(aJ L).symm);by_cases R:S=k
   .subst R;have N:some (b,(s.ow b).idxOf 0)=some p:=(by rw[<-N];show bj.symm);show absurd (O.trans N.symm) (U j)
   .have N:s.pl S=some p:=(by rw[<-N];show(aJ R).symm);show G.inj _ _ _ O N
 .intro J n' c' e;have e:(upd s.ow b ((s.ow b).set ((s.ow b).idxOf 0) c) J)[n']?=some c':=e;by_cases I:J=b
  .subst I;by_cases en:(s.ow J).idxOf 0=n'
   .show .inr #[k,by change du s.pl k _ k=_;rw[bj,en]]
   .rw[ae,Lb en]at e;rcases G.on _ _ _ e with h|⟨j,h⟩
    .show .inl h
    .show .inr #[j,?_];change du s.pl k _ j=_;rw[aJ (λq=>by rw[q,Y]at h;cases h)];show h
  .rw[aX I]at e;rcases G.on _ _ _ e with h|⟨j,h⟩
   .show .inl h
   .show .inr #[j,?_];change du s.pl k _ j=_;rw[aJ (λq=>by rw[q,Y]at h;cases h)];show h
 .intro J;change(upd s.co b _ J).length=(upd s.ow b _ J).length;by_cases I:J=b
  .subst I;rw[ae,ae,Ll,Ll];show G.ln _
  .rw[aX I,aX I];show G.ln _
 .change(if b=true then s.inf++[k]else s.inf).Nodup;by_cases I:b=true
  .rw[Tz I];show N2.mpr #[G.nd,by simp,?_];intro x hx y hy e;rw[nq]at hy;subst hy;subst e;let#[m,hm]:=(G.fi x).mp hx;rw[Y]at hm;cases hm
  .rw[Tx I];show G.nd
 .intro j;change j∈(if b=true then s.inf++[k]else s.inf)↔∃m,du s.pl k (some (b,(s.ow b).idxOf 0)) j=some (true,m);by_cases L:j=k
  .subst L;rw[bj];by_cases I:b=true
   .subst I;rw[Tz rfl];show#[λ_=>#[0],λ_=>by simp]
   .rw[Tx I,G.fi];show#[λ⟨m,h⟩=>(by rw[Y]at h;cases h),λ⟨m,h⟩=>(by cases h;show absurd rfl I)]
  .rw[aJ L, <-G.fi];by_cases I:b=true
   .rw[Tz I];simp[L]
   .rw[Tx I]
theorem mF (I:(0:Int)∈s.ow b) (G:Good s):Vw (xA s b k cs c) k cs c:=by
 show#[b,(s.ow b).idxOf 0,bj,3]
 .change(upd s.co b _ b)[_]?=_;rw[ae,Ln (by rw[G.ln b];show wu I)]
 .change(upd s.ow b _ b)[_]?=_;rw[ae,Ln (wu I)]
theorem kl (G:Good s) (Y:(0:Int)∈s.ow b) {j:Int}(R:j≠k) {S:List Int}{U:Int}:Vw (xA s b k cs c) j S U↔Vw s j S U:=by
 have hf:=wR G Y;have A:∀I n',s.pl j=some (I,n')->((xA s b k cs c).co I)[n']?=(s.co I)[n']?/\((xA s b k cs c).ow I)[n']?=(s.ow I)[n']?:=by
  intro I n' e;change(upd s.co b _ I)[n']?=_/\(upd s.ow b _ I)[n']?=_;by_cases O:I=b
  .subst O;have:(s.ow I).idxOf 0≠n':=λq=>hf j (by rw[e,q]);rw[ae,ae,Lb this,Lb this];show#[1]
  .rw[aX O,aX O];show#[1]
 constructor
 .rintro⟨I,n',J,L,N⟩;have J:s.pl j=some (I,n'):=(by rw[<-J];show(aJ R).symm);show#[I,n',J,by rw[<-(A _ _ J).1];show L,by rw[<-(A _ _ J).2];show N]
 .rintro⟨I,n',J,L,N⟩;show#[I,n',(aJ R).trans J,by rw[(A _ _ J).1];show L,by rw[(A _ _ J).2];show N]
theorem jF (G:Good s) (O:s.pl k=some (b,n)):Good (oM s k b n):=by
 let#[ac,c0,g1,g2,_,_]:=G.va _ _ _ O;have hn:n<(s.ow b).length:=(kz.mp g2).1;have up:∀{j p},(oM s k b n).pl j=some p->j≠k/\s.pl j=some p:=by
  intro j p e;by_cases J:j=k
  .subst J;have N:(none:Option (Bool×Nat))=some p:=(by rw[<-e];show bj.symm);cases N
  .show#[J,by rw[<-e];show(aJ J).symm]
 show#[3,3,3,?_]
 .intro j p e;show G.rg j p (up e).2
 .intro j I n' e;let#[J,N]:=up e;let#[ab,S,e1,U,e3,e4]:=G.va _ _ _ N;show#[ab,S,e1,?_,e3,e4];change(upd s.ow b _ I)[_]?=_;by_cases L:I=b
  .subst L;rw[ae,Lb (λq=>J (G.inj _ _ _ N (by rw[O,q])))];show U
  .rw[aX L];show U
 .intro j j' p e Y;show G.inj _ _ _ (up e).2 (up Y).2
 .intro I n' S e;have e:(upd s.ow b ((s.ow b).set n 0) I)[n']?=some S:=e;by_cases L:I=b
  .subst L;by_cases R:n=n'
   .subst R;rw[ae,Ln hn]at e;cases e;show .inl rfl
   .rw[ae,Lb R]at e;rcases G.on _ _ _ e with h|⟨j,h⟩
    .show .inl h
    .show .inr #[j,?_];change du s.pl k _ j=_;rw[aJ (λq=>by rw[q,O]at h;cases h;show R rfl)];show h
  .rw[aX L]at e;rcases G.on _ _ _ e with h|⟨j,h⟩
   .show .inl h
   .show .inr #[j,?_];change du s.pl k _ j=_;rw[aJ (λq=>by rw[q,O]at h;cases h;show L rfl)];show h
 .intro I;change(s.co I).length=(upd s.ow b _ I).length;by_cases L:I=b
  .subst L;rw[ae,Ll];show G.ln _
  .rw[aX L];show G.ln _
 .show G.nd.erase k
 .intro j;change j∈s.inf.erase k↔∃m,du s.pl k none j=some (true,m);rw[NF G.nd,G.fi];by_cases J:j=k
  .subst J;rw[bj];show#[λh=>absurd rfl h.1,λ⟨m,h⟩=>by cases h]
  .rw[aJ J];show#[λh=>h.2,λh=>#[J,h]]
theorem iH (G:Good s) (Y:s.pl k=some (b,n)) {j:Int}(L:j≠k) {R:List Int}{U:Int}:Vw (oM s k b n) j R U↔Vw s j R U:=by
 have A:∀I n',s.pl j=some (I,n')->((oM s k b n).ow I)[n']?=(s.ow I)[n']?:=by
  intro I n' e;change(upd s.ow b _ I)[n']?=_;by_cases S:I=b
  .subst S;rw[ae,Lb (λq=>L (G.inj _ _ _ e (by rw[Y,q])))]
  .rw[aX S]
 constructor
 .rintro⟨I,n',J,N,O⟩;have J:s.pl j=some (I,n'):=(by rw[<-J];show(aJ L).symm);show#[I,n',J,N,by rw[<-A _ _ J];show O]
 .rintro⟨I,n',J,N,O⟩;show#[I,n',(aJ L).trans J,N,by rw[A _ _ J];show O]
theorem tV (G:Good s) (L:s.pl k=some (b,n)):(0:Int)∈(oM s k b n).ow b:=by
 let#[R,N,O,I,_,_]:=G.va _ _ _ L;have J:n<(s.ow b).length:=(kz.mp I).1;change(0:Int)∈upd s.ow b _ b;rw[ae];show vr (Ln J)
theorem jB (G:Good s) (U:s.pl k=some (b,n)) (hc:1<=c):Good (cD s b n c):=by
 let#[ac,c0,g1,g2,_,g4]:=G.va _ _ _ U;have hn:n<(s.ow b).length:=(kz.mp g2).1;show#[G.rg,?_,G.inj,3,G.nd,G.fi]
 .intro j I n' e;let#[ab,O,e1,R,S,e4]:=G.va j I n' e;have A:∃N,(upd s.ow b ((s.ow b).set n c) I)[n']?=some N/\1<=N:=by
   by_cases J:I=b
   .subst J;rw[ae];by_cases L:n=n'
    .subst L;show#[c,Ln hn,hc]
    .rw[Lb L];show#[O,R,S]
   .rw[aX J];show#[O,R,S]
  let#[N,a1,Y]:=A;show#[ab,N,e1,a1,Y,e4]
 .intro I n' O e;have e:(upd s.ow b ((s.ow b).set n c) I)[n']?=some O:=e;by_cases J:I=b
  .subst J;rw[ae]at e;by_cases L:n=n'
   .subst L;show .inr #[k,U]
   .rw[Lb L]at e;show G.on _ _ _ e
  .rw[aX J]at e;show G.on _ _ _ e
 .intro I;change(s.co I).length=(upd s.ow b _ I).length;by_cases J:I=b
  .subst J;rw[ae,Ll];show G.ln _
  .rw[aX J];show G.ln _
theorem jn (G:Good s) (I:s.pl k=some (b,n)) {L:Int}(h:Vw s k cs L):Vw (cD s b n c) k cs c:=by
 let#[R,n',J,N,O]:=h;rw[I]at J;cases J;show#[b,n,I,N,?_];change(upd s.ow b _ b)[_]?=_;rw[ae,Ln (kz.mp O).1]
theorem dA (G:Good s) (Y:s.pl k=some (b,n)) {j:Int}(U:j≠k) {O:List Int}{S:Int}:Vw (cD s b n c) j O S↔Vw s j O S:=by
 have A:∀I n',s.pl j=some (I,n')->((cD s b n c).ow I)[n']?=(s.ow I)[n']?:=by
  intro I n' e;change(upd s.ow b _ I)[n']?=_;by_cases R:I=b
  .subst R;rw[ae,Lb (λq=>U (G.inj _ _ _ e (by rw[Y,q])))]
  .rw[aX R]
 constructor
 .rintro⟨I,n',J,L,N⟩;show#[I,n',J,L,by rw[<-A _ _ J];show N]
 .rintro⟨I,n',J,L,N⟩;show#[I,n',J,L,by rw[A _ _ J];show N]
theorem vh (G:Good s) (hk:s.pl k=some (b,n)) (hc:cs.length=8):Good (write s b n cs):=by
 let#[ab,c0,g1,g2,_,g4]:=G.va _ _ _ hk;have hn:n<(s.co b).length:=(kz.mp g1).1;show#[G.rg,?_,G.inj,G.on,?_,G.nd,G.fi]
 .intro j I n' e;let#[N,c',S,Y,e3,O]:=G.va j I n' e;have A:∃L,(upd s.co b ((s.co b).set n (some cs)) I)[n']?=some (some L)/\L.length=8:=by
   by_cases J:I=b
   .subst J;rw[ae];by_cases R:n=n'
    .subst R;show#[cs,Ln hn,hc]
    .rw[Lb R];show#[N,S,O]
   .rw[aX J];show#[N,S,O]
  let#[L,a1,U]:=A;show#[L,c',a1,Y,e3,U]
 .intro I;change(upd s.co b _ I).length=(s.ow I).length;by_cases J:I=b
  .subst J;rw[ae,Ll];show G.ln _
  .rw[aX J];show G.ln _
theorem zF (G:Good s) (I:s.pl k=some (b,n)) {N:List Int}(h:Vw s k N c):Vw (write s b n cs) k cs c:=by
 let#[R,n',J,L,O]:=h;rw[I]at J;cases J;show#[b,n,I,?_,O];change(upd s.co b _ b)[_]?=_;rw[ae,Ln (kz.mp L).1]
theorem iq (G:Good s) (Y:s.pl k=some (b,n)) {j:Int}(U:j≠k) {O:List Int}{S:Int}:Vw (write s b n cs) j O S↔Vw s j O S:=by
 have A:∀I n',s.pl j=some (I,n')->((write s b n cs).co I)[n']?=(s.co I)[n']?:=by
  intro I n' e;change(upd s.co b _ I)[n']?=_;by_cases R:I=b
  .subst R;rw[ae,Lb (λq=>U (G.inj _ _ _ e (by rw[Y,q])))]
  .rw[aX R]
 constructor
 .rintro⟨I,n',J,L,N⟩;show#[I,n',J,by rw[<-A _ _ J];show L,N]
 .rintro⟨I,n',J,L,N⟩;show#[I,n',J,by rw[A _ _ J];show L,N]
end
end Pg
namespace Pg
theorem sum_set {l:List Int}{n:Nat}{x y:Int}(h:l[n]?=some x):(l.set n y).sum=l.sum-x+y:=by
 induction l generalizing n with
 |nil=>cases h
 |cons a l G =>
  cases n with
  |zero =>
   cases h;change(y::l).sum=_;simp only[Ng];omega
  |succ n =>
   have h:l[n]?=some x:=h;change(a::l.set n y).sum=_;simp only[Ng,G h];omega
noncomputable def all (s:PS):Int:=(s.ow true).sum+(s.ow false).sum
theorem rT {ow:Bool->List Int}{b:Bool}{n:Nat}{x y:Int}(h:(ow b)[n]?=some x) :
  (upd ow b ((ow b).set n y) true).sum+(upd ow b ((ow b).set n y) false).sum=(ow true).sum+(ow false).sum-x+y:=by
 cases b
 .rw[aX av,ae,sum_set h];omega
 .rw[ae,aX av,sum_set h];omega
section
variable {s s':PS}{b:Bool}{k:Int}{cs:List Int}{c:Int}{n:Nat}
theorem qW (G:(0:Int)∈s.ow b):all (xA s b k cs c)=all s+c:=by
 have:=rT (ow:=s.ow) (y:=c) (uL G);unfold all xA;dsimp only;omega
theorem qE {G:Int}(h:(s.ow b)[n]?=some G):all (oM s k b n)=all s-G:=by
 have:=rT (ow:=s.ow) (y:=0) h;unfold all oM;dsimp only;omega
theorem kY {G:Int}(h:(s.ow b)[n]?=some G):all (cD s b n c)=all s-G+c:=by
 have:=rT (ow:=s.ow) (y:=c) h;unfold all cD;dsimp only;omega
theorem dD {f:Bool->List Int}{n:Nat}{x:Int}(G:Bool):(upd f b ((f b).set n x) G).length=(f G).length:=by
 by_cases e:G=b
 .subst e;rw[ae,Ll]
 .rw[aX e]
structure Kept (s s':PS) (k:Int):Prop where
 ot:∀j cs' c',j≠k->(Vw s' j cs' c'↔Vw s j cs' c')
 ln:∀b,(s'.ow b).length=(s.ow b).length
 fr:(0:Int)∈s'.ow true->(0:Int)∈s.ow true/\∀j m,j≠k->s.pl j=some (true,m)->s'.pl j=some (true,m)
theorem zV {l:List Int}{n:Nat}{x:Int}(G:x≠0) (h:(0:Int)∈l.set n x):(0:Int)∈l:=by
 rcases OU h with h|h
 .show h
 .show absurd h.symm G
theorem yc (G:Good s) (J:(0:Int)∈s.ow true) (N:1<=c):Kept s (xA s true k cs c) k :=
 #[λj L O I=>kl G J I,λb=>dD b,λh=>#[J,λj m I e=>(aJ I).trans e]]
noncomputable def out (s:PS) (G:Int) (I:Nat) (L:List Int) (J:Int):PS:=xA (oM s G true I) false G L J
theorem sY (G:Good s) {I:Int}{J:Nat}{N:List Int}{L:Int}(O:s.pl I=some (true,J)) (hv:Vw s I N L) (hf:(0:Int)∈s.ow false) :
  Good (out s I J N L)/\Vw (out s I J N L) I N L/\(∀j U c',j≠I->(Vw (out s I J N L) j U c'↔Vw s j U c'))/\(0:Int)∈(out s I J N L).ow true/\all (out s I J N L)=all s /\
  (∀b,((out s I J N L).ow b).length=(s.ow b).length)/\(∀j,j≠I->(out s I J N L).pl j=s.pl j):=by
 let#[b',n',e1,e2,e3]:=hv;rw[O]at e1;cases e1;let#[ab,c9,a1,a2,a3,a4]:=G.va _ _ _ O;rw[e2]at a1;cases a1;rw[e3]at a2;cases a2;have Y:=jF G O;have S:(0:Int)∈(oM s I true J).ow false:=by
  show(aX (f:=s.ow) (v:=(s.ow true).set J 0) (show false≠true by decide)).symm▸hf
 have hn:(oM s I true J).pl I=none:=bj;have hr:=G.rg _ _ O;show#[mC Y S hn hr.1 hr.2 a3 a4,mF S Y,3,3,?_]
 .intro j U c' R;show(kl Y S R).trans (iH G O R)
 .show(aX (f:=(oM s I true J).ow) (b:=false) (v:=((oM s I true J).ow false).set (((oM s I true J).ow false).idxOf 0) L) (show true≠false by decide)).symm▸tV G O
 .change all (xA _ _ _ _ _)=_;rw[qW S,qE e3];omega
 .intro b;show(dD (f:=(oM s I true J).ow) b).trans (dD b)
 .intro j R;show(aJ R).trans (aJ R)
inductive BI (s:PS) (k:Int) (cs:List Int) (c:Int):PS->Prop
 |free:(0:Int)∈s.ow true->BI s k cs c (xA s true k cs c)
 |full {k0:Int}{r:List Int}{n0:Nat}{cs0:List Int}{c0:Int}:¬ (0:Int)∈s.ow true->(0:Int)∈s.ow false->s.inf=k0::r->s.pl k0=some (true,n0)->Vw s k0 cs0 c0->BI s k cs c (xA (out s k0 n0 cs0 c0) true k cs c)
structure Kb (s:PS) (k:Int) (cs:List Int) (c:Int) (s':PS):Prop where
 good:Good s'
 vw:Vw s' k cs c
 fr:∃m,s'.pl k=some (true,m)
 kept:Kept s s' k
 ls:s'.ls=s.ls
 al:all s'=all s+c
theorem Du (G:Good s) (Y:s.pl k=none) (h1:1<=k) (h2:k<=s.ls) (h3:1<=c) (h4:cs.length=8) (h:BI s k cs c s'):Kb s k cs c s':=by
 cases h with
 |free h0=>show#[mC G h0 Y h1 h2 h3 h4,mF h0 G,#[_,bj],yc G h0 h3,rfl,qW h0]
 | @full J r I N L nf hf hi hp hv =>
  let#[g1,g2,g3,O,g5,g6,g7]:=sY G hp hv hf;have ab:k≠J:=λe=>(by rw[e,hp]at Y;cases Y);have ap:(out s J I N L).pl k=none:=(by rw[g7 k ab];show Y);show#[mC g1 O ap h1 h2 h3 h4,mF O g1,#[_,bj],#[3,?_],5]
  .intro j am c' hj;rw[kl g1 O hj];by_cases e:j=J
   .subst e;constructor
    .intro hw;let#[x1,x2,y1,y2,y3]:=hw;let#[z1,z2,R,S,U]:=g2;rw[y1]at R;cases R;rw[y2]at S;cases S;rw[y3]at U;cases U;show hv
    .intro hw;let#[x1,x2,y1,y2,y3]:=hw;let#[z1,z2,R,S,U]:=hv;rw[y1]at R;cases R;rw[y2]at S;cases S;rw[y3]at U;cases U;show g2
   .show g3 j am c' e
  .intro b;show(dD (f:=(out s J I N L).ow) b).trans (g6 b)
  .intro h;exfalso;apply nf;have h:(0:Int)∈upd (out s J I N L).ow true (((out s J I N L).ow true).set (((out s J I N L).ow true).idxOf 0) c) true:=h;rw[ae]at h;have e1:(out s J I N L).ow true=(s.ow true).set I 0:=by
    show(aX (f:=(oM s J true I).ow) (b:=false) (v:=((oM s J true I).ow false).set (((oM s J true I).ow false).idxOf 0) L) (show true≠false by decide)).trans (show upd s.ow true ((s.ow true).set I 0) true=_ from ae)
   rw[e1]at h;let#[i,ac,e]:=LX h;have hl:i<(s.ow true).length:=(by simpa using ac);have hz:(0:Int)∈(s.ow true).set I 0:=e1▸O;have e0:((s.ow true).set I 0).idxOf 0=I:=by
    have q:=uL hz;by_cases en:I=((s.ow true).set I 0).idxOf 0
    .show en.symm
    .rw[Lb en]at q;show absurd (vr q) nf
   rw[Rr]at e;split at e
   .omega
   .rename_i ne;rw[Rr]at e;split at e
    .rename_i e2;show absurd (e0.trans e2) ne
    .show e▸L4 hl
  .rw[qW O,g5]
theorem HQ (G:Good s) (hf:(0:Int)∈s.ow true\/(0:Int)∈s.ow false) (Y:s.ow true≠[]):((0:Int)∈s.ow true)\/(¬ (0:Int)∈s.ow true/\(0:Int)∈s.ow false/\∃I r J L N,s.inf=I::r/\s.pl I=some (true,J)/\Vw s I L N):=by
 by_cases h:(0:Int)∈s.ow true
 .show .inl h
 .show .inr #[h,hf.resolve_left h,?_];have S:0<(s.ow true).length:=Ox.mpr Y;have h0:(s.ow true)[0]?=some (s.ow true)[0]:=tu S;rcases G.on _ _ _ h0 with e|⟨j,e⟩
  .show absurd (e▸L4 S) h
  .have R:j∈s.inf:=(G.fi j).mpr #[_,e];cases hi:s.inf with
   |nil=>rw[hi]at R;cases R
   |cons I r =>
    let#[J,O]:=(G.fi I).mp (by rw[hi];show La);let#[L,N,a1,U,_,_]:=G.va _ _ _ O;show#[I,r,J,L,N,rfl,O,true,J,O,a1,U]
end
end Pg
namespace Pg
section
variable {s s':PS}{b:Bool}{k:Int}{cs:List Int}{c:Int}{n:Nat}
theorem Vw.one {L:List Int}{N:Int}(h:Vw s k cs c) (h':Vw s k L N):L=cs/\N=c:=by
 let#[U,x2,S,O,R]:=h;let#[Y,z2,I,G,J]:=h';rw[S]at I;cases I;rw[O]at G;cases G;rw[R]at J;cases J;show#[1]
theorem Good.vw (G:Good s) (h:Vw s k cs c):1<=c/\cs.length=8:=by
 let#[U,Y,S,N,R]:=h;let#[ab,c',J,I,O,L]:=G.va _ _ _ S;rw[N]at J;cases J;rw[R]at I;cases I;show#[O,L]
noncomputable def used (s:PS) (k:Int):PS:={ s with inf:=s.inf.erase k++[k] }
theorem yn (G:Good s) (L:s.pl k=some (true,n)):Good (used s k):=by
 show#[G.rg,G.va,G.inj,G.on,G.ln,3]
 .show N2.mpr #[G.nd.erase k,by simp,?_];intro x J y I e;rw[nq]at I;subst I;subst e;show((NF G.nd).mp J).1 rfl
 .intro j;change j∈s.inf.erase k++[k]↔_;rw[n7,nq,NF G.nd,G.fi];constructor
  .rintro(h|h)
   .show h.2
   .subst h;show#[n,L]
  .intro h;by_cases e:j=k
   .show .inr e
   .show .inl #[e,h]
inductive FE (s:PS) (k:Int):PS->Prop
 |here {n:Nat}:s.pl k=some (true,n)->FE s k (used s k)
 |away {n:Nat}{cs:List Int}{c:Int}{s':PS}:s.pl k=some (false,n)->Vw s k cs c->BI (oM s k false n) k cs c s'->FE s k s'
structure KA (s:PS) (k:Int) (s':PS):Prop where
 good:Good s'
 vw:∀j cs c,Vw s' j cs c↔Vw s j cs c
 fr:∃m,s'.pl k=some (true,m)
 kept:Kept s s' k
 ls:s'.ls=s.ls
 al:all s'=all s
theorem kZ (G:Good s) (h:FE s k s'):KA s k s':=by
 cases h with
 |here I=>show#[yn G I,λ_ _ _=>Iff.rfl,#[_,I],#[λ_ _ _ _=>Iff.rfl,λ_=>rfl,λh=>#[h,λ_ _ _ e=>e]],1]
 | @away n cs c _ I J hb =>
  have GR:=jF G I;have S:=G.rg _ _ I;have U:=G.vw J;have B:=Du GR (show du s.pl k none k=none from bj) S.1 S.2 U.1 U.2 hb;have e3:(s.ow false)[n]?=some c:=by
   let#[x1,x2,Y,y2,y3]:=J;rw[I]at Y;cases Y;show y3
  show#[B.good,?_,B.fr,#[3,?_],B.ls,?_]
  .intro j L R;by_cases e:j=k
   .subst e;constructor
    .intro h;let#[O,N]:=B.vw.one h;subst O;subst N;show J
    .intro h;let#[O,N]:=J.one h;subst O;subst N;show B.vw
   .show(B.kept.ot j L R e).trans (iH G I e)
  .intro j L R e;show(B.kept.ot j L R e).trans (iH G I e)
  .intro b;show(B.kept.ln b).trans (dD b)
  .intro h;let#[a1,a2]:=B.kept.fr h;have e0:(oM s k false n).ow true=s.ow true:=aX (f:=s.ow) (v:=(s.ow false).set n 0) (show true≠false by decide);show#[e0▸a1,λj m e hj=>a2 j m e ((aJ e).trans hj)]
  .rw[B.al,qE e3];omega
noncomputable def next (s:PS):PS:={ s with ls:=s.ls+1 }
theorem pI (G:Good s):Good (next s):=#[λk p h=>by have:=G.rg k p h;show#[this.1,by change k<=s.ls+1;omega],G.va,G.inj,G.on,G.ln,G.nd,G.fi]
theorem fh (G:Good s):s.pl (s.ls+1)=none:=by
 cases h:s.pl (s.ls+1)with
 |none=>rfl
 |some p=>have:=G.rg _ _ h;omega
theorem j4 (G:Good s) (J:0<=s.ls) (I:cs.length=8) (h:BI (next s) (s.ls+1) cs 1 s'):Kb (next s) (s.ls+1) cs 1 s' :=
 Du (pI G) (fh G) af (Lz _) (Lz _) I h
inductive BK (s:PS) (k:Int):PS->Prop
 |more {b:Bool}{n:Nat}{cs:List Int}{c:Int}:s.pl k=some (b,n)->Vw s k cs c->1<c->BK s k (cD s b n (c-1))
 |last {b:Bool}{n:Nat}{cs:List Int}:s.pl k=some (b,n)->Vw s k cs 1->BK s k (oM s k b n)
theorem tI (I:s.pl k=some (b,n)) (L:Vw s k cs c):(s.ow b)[n]?=some c:=by
 let#[O,R,G,N,J]:=L;rw[I]at G;cases G;show J
structure Kx (s:PS) (k:Int) (c:Int) (s':PS):Prop where
 good:Good s'
 ot:∀j cs' c',j≠k->(Vw s' j cs' c'↔Vw s j cs' c')
 me:∀cs' c',Vw s' k cs' c'↔(1<c/\c'=c-1/\Vw s k cs' c)
 pl:∀j,j≠k->s'.pl j=s.pl j
 ln:∀b,(s'.ow b).length=(s.ow b).length
 ls:s'.ls=s.ls
 al:all s'=all s-1
 kept:1<c->Kept s s' k
theorem wV (G:Good s) (N:Vw s k cs c) (h:BK s k s'):Kx s k c s':=by
 cases h with
 | @more b n ab c1 I U hc =>
  let#[L,O]:=N.one U;subst L;subst O;have Y:=tI I N;show#[jB G I af,λj R S J=>dA G I J,?_,λ_ _=>rfl,λb=>dD b,rfl,3]
  .intro R S;have W:=jn (c:=c1-1) G I N;constructor
   .intro h;let#[L,O]:=W.one h;subst L;subst O;show#[hc,rfl,N]
   .rintro⟨_,q,h⟩;let#[L,O]:=N.one h;subst L;subst q;show W
  .rw[kY Y];omega
  .intro _;show#[λj R S J=>dA G I J,λb=>dD b,λh=>#[?_,λ_ _ _ e=>e]];have h:(0:Int)∈upd s.ow b ((s.ow b).set n (c1-1)) true:=h;by_cases e:true=b
   .subst e;rw[ae]at h;show zV af h
   .rw[aX e]at h;show h
 | @last b n ab I U =>
  let#[L,O]:=N.one U;subst L;subst O;have Y:=tI I N;show#[jF G I,λj R S J=>iH G I J,?_,λ_ J=>aJ J,λb=>dD b,5,λh=>absurd h av]
  .intro R S;constructor
   .rintro⟨x1,x2,y1,_,_⟩;have y9:(none:Option (Bool×Nat))=some (x1,x2):=(by rw[<-y1];show bj.symm);cases y9
   .rintro⟨q,_,_⟩;show absurd q av
  .rw[qE Y]
theorem AJ (G:Good s) (J:s.pl k=some (b,n)) (I:Vw s k cs c):Good (cD s b n (c+1))/\Vw (cD s b n (c+1)) k cs (c+1)/\all (cD s b n (c+1))=all s+1:=by
 have:=G.vw I;show#[jB G J af,jn G J I,?_];rw[kY (tI J I)];omega
end
end Pg
namespace Pg
noncomputable abbrev Ent:=Option Int
noncomputable def full (es:List Ent):Int:=(es.countP (·.isSome):Nat)
structure RI (s:PS) (es:List Ent):Prop where
 good:Good s
 l0:0<=s.ls
 ne:s.ow true≠[]
 is:∀k,some k∈es->∃cs c,Vw s k cs c
 ct:∀k cs c,Vw s k cs c->c=(es.count (some k):Nat)
 al:all s=full es
 rm:es.length<=(s.ow true).length+(s.ow false).length
section
variable {s s':PS}{es r:List Ent}{k:Int}{cs:List Int}{c:Int}
theorem RI.perm {G:List Ent}(R:RI s es) (p:es.Perm G):RI s G :=
 #[R.good,R.l0,R.ne,λk h=>R.is k (p.mem_iff.mpr h),λk cs c h=>by rw[<-p.count_eq];show R.ct k cs c h,by rw[R.al];unfold full;rw[p.countP_eq],by rw[<-p.length_eq];show R.rm]
theorem iD:full (none::es)=full es:=by unfold full;rw[List.countP_cons_of_neg (by simp)]
theorem gi:full (some k::es)=full es+1:=by unfold full;rw[List.countP_cons_of_pos (by simp)];simp
theorem xj:full es<=es.length:=by unfold full;exact_mod_cast List.countP_le_length
theorem jl {j:Int}:(none::es).count (some j)=es.count (some j):=Qf (by simp)
theorem dE:(some k::es).count (some k)=es.count (some k)+1:=List.count_cons_self
theorem eE {j:Int}(h:j≠k):(some k::es).count (some j)=es.count (some j):=Qf (by simpa using qw h)
theorem RI.lay (R:RI s es) (h:es.length<(s.ow true).length+(s.ow false).length):RI s (none::es):=
 #[R.good,R.l0,R.ne,λk h=>R.is k (by simpa using h),λk cs c h=>by rw[jl];show R.ct k cs c h,by rw[iD];show R.al,h]
theorem RI.bare (R:RI s (none::es)):RI s es :=
 #[R.good,R.l0,R.ne,λk h=>R.is k (by simpa using h),λk cs c h=>by rw[<-jl];show R.ct k cs c h,by rw[<-iD];show R.al,Pf R.rm]
theorem RI.leave (R:RI s (some k::es)) (N:Vw s k cs c) (h:BK s k s'):RI s' es:=by
 have L:=wV R.good N h;have S:=R.ct _ _ _ N;rw[dE]at S;show#[L.good,by rw[L.ls];show R.l0,3,3,?_]
 .intro e;have:=L.ln true;rw[e]at this;show R.ne (Lx.mp this.symm)
 .intro j J;by_cases e:j=k
  .subst e;have:0<es.count (some j):=Mi.mpr J;show#[cs,c-1,(L.me cs (c-1)).mpr #[af,rfl,N]]
  .let#[G,I,q]:=R.is j (K5 _ J);show#[G,I,(L.ot j G I e).mpr q]
 .intro j G I J;by_cases e:j=k
  .subst e;let#[U,Y,q3]:=(L.me G I).mp J;omega
  .rw[<-eE e];show R.ct j G I ((L.ot j G I e).mp J)
 .have O:=R.al;rw[gi]at O;rw[L.al,O];omega
 .rw[L.ln,L.ln];show Pf R.rm
theorem RI.share {b:Bool}{n:Nat}(R:RI s es) (J:s.pl k=some (b,n)) (N:Vw s k cs c) (h:es.length<(s.ow true).length+(s.ow false).length):RI (cD s b n (c+1)) (some k::es):=by
 let#[g,v,a]:=AJ R.good J N;have O:=R.ct _ _ _ N;show#[g,R.l0,3,3,?_]
 .intro e;have:=dD (f:=s.ow) (b:=b) (n:=n) (x:=c+1) true;have e:upd s.ow b ((s.ow b).set n (c+1)) true=[]:=e;rw[e]at this;show R.ne (Lx.mp this.symm)
 .intro j G;by_cases e:j=k
  .subst e;show#[cs,c+1,v]
  .let#[I,L,q]:=R.is j (by simpa[e]using G);show#[I,L,(dA R.good J e).mpr q]
 .intro j I L G;by_cases e:j=k
  .subst e;let#[_,q]:=v.one G;rw[dE];omega
  .rw[eE e];show R.ct j I L ((dA R.good J e).mp G)
 .rw[a,gi,R.al]
 .change es.length+1<=(upd s.ow b _ true).length+(upd s.ow b _ false).length;rw[dD,dD];show h
theorem RI.DE (R:RI s es) (h:FE s k s'):RI s' es:=by
 have F:=kZ R.good h;show#[F.good,by rw[F.ls];show R.l0,3,?_,by rw[F.al];show R.al,by rw[F.kept.ln,F.kept.ln];show R.rm]
 .intro e;have:=F.kept.ln true;rw[e]at this;show R.ne (Lx.mp this.symm)
 .intro j G;let#[cs,c,q]:=R.is j G;show#[cs,c,(F.vw j cs c).mpr q]
 .intro j cs c G;show R.ct j cs c ((F.vw j cs c).mp G)
theorem RI.fill (R:RI s (none::r)) (O:cs.length=8) (h:BI (next s) (s.ls+1) cs 1 s'):RI s' (some (s.ls+1)::r):=by
 have B:=j4 R.good R.l0 O h;have S:r.count (some (s.ls+1))=0:=by
  apply PZ;intro q;let#[G,I,U,Y,N,_]:=R.is _ (K5 _ (Mi.mp q));rw[fh R.good]at N;cases N
 show#[B.good,by rw[B.ls];change 0<=s.ls+1;have:=R.l0;omega,3,3,?_]
 .intro e;have:=B.kept.ln true;rw[e]at this;show R.ne (Lx.mp this.symm)
 .intro j J;by_cases e:j=s.ls+1
  .subst e;show#[cs,(1),B.vw]
  .let#[G,I,q]:=R.is j (by simpa[e]using J);show#[G,I,(B.kept.ot j G I e).mpr q]
 .intro j G I J;by_cases e:j=s.ls+1
  .subst e;let#[_,q]:=B.vw.one J;rw[dE,S,q];rfl
  .rw[eE e, <-jl];show R.ct j G I ((B.kept.ot j G I e).mp J)
 .have L:=R.al;rw[iD]at L;rw[B.al,gi, <-L];rfl
 .rw[B.kept.ln,B.kept.ln];show R.rm
theorem jH {l:List Int}(h:∀x∈l,1<=x):(l.length:Int)<=l.sum:=by
 induction l with
 |nil=>show Lz _
 |cons a l I =>
  have h1:=h a La;have h2:=I λx G=>h x (K5 _ G);rw[Ng,KO];omega
theorem Good.pos (G:Good s) {b:Bool}(h:¬ (0:Int)∈s.ow b):∀x∈s.ow b,1<=x:=by
 intro x J;let#[n,L]:=Qt J;rcases G.on _ _ _ L with e|⟨j,e⟩
 .show absurd (e▸J) h
 .let#[cs,c,_,I,N,_]:=G.va _ _ _ e;rw[L]at I;cases I;show N
theorem RI.room (R:RI s (none::r)):(0:Int)∈s.ow true\/(0:Int)∈s.ow false:=by
 by_cases h1:(0:Int)∈s.ow true
 .show .inl h1
 .by_cases h2:(0:Int)∈s.ow false
  .show .inr h2
  .exfalso;have L:=jH (R.good.pos h1);have J:=jH (R.good.pos h2);have G:=R.al;rw[iD]at G;have N:=xj (es:=r);have I:=R.rm;rw[KO]at I;unfold all at G;omega
theorem tE {l:List Int}(h:∀x∈l,1<=x) {n:Nat}{c:Int}(G:l[n]?=some c):(l.length:Int)+c-1<=l.sum:=by
 induction l generalizing n with
 |nil=>cases G
 |cons a l J =>
  have h2:∀x∈l,1<=x:=λx I=>h x (K5 _ I);have h1:=h a La;cases n with
  |zero =>
   cases G;have:=jH h2;rw[Ng,KO];omega
  |succ n =>
   have:=J h2 (show l[n]?=some c from G);rw[Ng,KO];omega
theorem RI.HZ (R:RI s es) (I:Vw s k cs c) (O:1<c):(0:Int)∈s.ow true\/(0:Int)∈s.ow false:=by
 by_cases h1:(0:Int)∈s.ow true
 .show .inl h1
 .by_cases h2:(0:Int)∈s.ow false
  .show .inr h2
  .exfalso;have N:=jH (R.good.pos h1);have L:=jH (R.good.pos h2);have J:=R.al;have U:=xj (es:=es);have S:=R.rm;unfold all at J;let#[b,n,_,_,G]:=I;cases b
   .have:=tE (R.good.pos h2) G;omega
   .have:=tE (R.good.pos h1) G;omega
end
end Pg
namespace Pg
noncomputable def xM (s:PS) (e:Ent) (cs:List Int):Prop:=match e with
 |none=>cs=replicate 8 0
 |some k=>∃c,Vw s k cs c
noncomputable def aZ (es:List Ent) (s s':PS):Prop:=∀e∈es,∀cs,xM s e cs->xM s' e cs
theorem aZ.refl {es:List Ent}{s:PS}:aZ es s s:=λ_ _ _ h=>h
section
variable {s s':PS}{es r:List Ent}{k:Int}{cs:List Int}{c:Int}
theorem RI.uD (R:RI s (some k::es)) (G:Vw s k cs c) (h:BK s k s'):aZ es s s':=by
 have L:=wV R.good G h;have U:=R.ct _ _ _ G;rw[dE]at U;intro e S Y q;cases e with
 |none=>show q
 |some j =>
  let#[J,q]:=q;by_cases I:j=k
  .subst I;let#[N,O]:=G.one q;subst N;subst O;have:0<es.count (some j):=Mi.mpr S;show#[J-1,(L.me _ _).mpr #[af,rfl,G]]
  .show#[J,(L.ot j _ _ I).mpr q]
theorem wx {b:Bool}{n:Nat}(G:Good s) (L:s.pl k=some (b,n)) (I:Vw s k cs c):aZ es s (cD s b n (c+1)):=by
 intro e S U q;cases e with
 |none=>show q
 |some j =>
  let#[O,q]:=q;by_cases J:j=k
  .subst J;let#[N,R]:=I.one q;subst N;show#[c+1,jn G L I]
  .show#[O,(dA G L J).mpr q]
theorem wd (G:Good s) (h:FE s k s'):aZ es s s':=by
 intro e J L q;cases e with
 |none=>show q
 |some j =>
  let#[I,q]:=q;show#[I,((kZ G h).vw _ _ _).mpr q]
theorem RI.xS (R:RI s (none::r)) (I:cs.length=8) (h:BI (next s) (s.ls+1) cs 1 s'):aZ r s s':=by
 have B:=j4 R.good R.l0 I h;intro e O S q;cases e with
 |none=>show q
 |some j =>
  let#[L,q]:=q;have J:j≠s.ls+1:=by
   intro e;let#[N,U,G,_]:=q;rw[e,fh R.good]at G;cases G
  show#[L,(B.kept.ot _ _ _ J).mpr q]
theorem RI.part {s1 s2:PS}{ab:List Int}{O:Int}(R:RI s (some k::r)) (hv:Vw s k ab O) (hc:1<O) (h4:cs.length=8) (hB:BI (next s) (s.ls+1) cs 1 s1) (hL:BK s1 k s2) :
  RI s2 (some (s.ls+1)::r)/\aZ r s s2/\xM s2 (some (s.ls+1)) cs/\(∃m,s2.pl (s.ls+1)=some (true,m))/\s2.ls=s.ls+1 /\
  ((0:Int)∈s2.ow true->(0:Int)∈s.ow true/\∀j m,s.pl j=some (true,m)->s2.pl j=some (true,m))/\(∀b,(s2.ow b).length=(s.ow b).length):=by
 have B:=j4 R.good R.l0 h4 hB;have Y:=fh R.good;have kn:k≠s.ls+1:=by
  intro e;let#[x1,x2,I,_]:=hv;rw[e,Y]at I;cases I
 have U:Vw s1 k ab O:=(B.kept.ot _ _ _ kn).mpr hv;have L:=wV B.good U hL;have K:=L.kept hc;have am:=R.ct _ _ _ hv;rw[dE]at am;have no:r.count (some (s.ls+1))=0:=by
  apply PZ;intro q;let#[S,N,x1,x2,I,_]:=R.is _ (K5 _ (Mi.mp q));rw[Y]at I;cases I
 have vn:Vw s2 (s.ls+1) cs 1:=(L.ot _ _ _ (qw kn)).mpr B.vw;have ln:∀b,(s2.ow b).length=(s.ow b).length:=λb=>(L.ln b).trans (B.kept.ln b);show#[#[L.good,3,3,3],?_,#[(1),vn],3,?_,ln]
 .rw[L.ls,B.ls];change 0<=s.ls+1;have:=R.l0;omega
 .intro e;have:=ln true;rw[e]at this;show R.ne (Lx.mp this.symm)
 .intro j J;by_cases e:j=s.ls+1
  .subst e;show#[cs,(1),vn]
  .have J:some j∈r:=(by simpa[e]using J);by_cases G:j=k
   .subst G;show#[ab,O-1,(L.me _ _).mpr #[hc,rfl,U]]
   .let#[S,N,q]:=R.is j (K5 _ J);show#[S,N,(L.ot _ _ _ G).mpr ((B.kept.ot _ _ _ e).mpr q)]
 .intro j S N J;by_cases e:j=s.ls+1
  .subst e;let#[_,q]:=vn.one J;rw[dE,no,q];rfl
  .rw[eE e];by_cases G:j=k
   .subst G;let#[q1,q2,q3]:=(L.me _ _).mp J;omega
   .rw[<-eE G];show R.ct j S N ((B.kept.ot _ _ _ e).mp ((L.ot _ _ _ G).mp J))
 .have h9:=R.al;rw[gi]at h9;rw[L.al,B.al,gi, <-h9];change all s+1-1=all s;omega
 .rw[ln,ln];show R.rm
 .intro e he S q;cases e with
  |none=>show q
  |some j =>
   let#[N,q]:=q;have ej:j≠s.ls+1:=by
    intro e;let#[x1,x2,I,_]:=q;rw[e,Y]at I;cases I
   by_cases G:j=k
   .subst G;let#[q1,q2]:=hv.one q;subst q1;show#[O-1,(L.me _ _).mpr #[hc,rfl,U]]
   .show#[N,(L.ot _ _ _ G).mpr ((B.kept.ot _ _ _ ej).mpr q)]
 .let#[m,hm]:=B.fr;show#[m,(L.pl _ (qw kn)).trans hm]
 .rw[L.ls,B.ls];rfl
 .intro h;let#[a1,a2]:=K.fr h;let#[b1,b2]:=B.kept.fr a1;show#[b1,?_];intro j m e;have ej:j≠s.ls+1:=(by intro q;rw[q,Y]at e;cases e);have e1:=b2 j m ej e;by_cases G:j=k
  .subst G;cases hL with
   |more hk ac ap=>show e1
   |last hk ac =>
    have:=(U.one ac).2;omega
  .show a2 j m G e1
theorem RI.write {s1:PS}{m:Nat}(R:RI s (some k::r)) {U:List Int}(hv:Vw s k U 1) (h4:cs.length=8) (Y:FE s k s1) (I:s1.pl k=some (true,m)) :
  RI (write s1 true m cs) (some k::r)/\aZ r s (write s1 true m cs)/\xM (write s1 true m cs) (some k) cs:=by
 have F:=kZ R.good Y;have G:=R.DE Y;have S:Vw s1 k U 1:=(F.vw _ _ _).mpr hv;have ab:=R.ct _ _ _ hv;rw[dE]at ab;have no:¬ some k∈r:=λh=>(by have:0<r.count (some k):=Mi.mpr h;omega);have O:=zF (cs:=cs) G.good I S;show#[#[vh G.good I h4,G.l0,G.ne,3,G.al,G.rm],?_,#[(1),O]]
 .intro j L;by_cases e:j=k
  .subst e;show#[cs,(1),O]
  .let#[N,J,q]:=G.is j L;show#[N,J,(iq G.good I e).mpr q]
 .intro j N J L;by_cases e:j=k
  .subst e;let#[_,q]:=O.one L;rw[q];show G.ct _ _ _ S
  .show G.ct j N J ((iq G.good I e).mp L)
 .intro e he N q;cases e with
  |none=>show q
  |some j =>
   let#[J,q]:=q;have ek:j≠k:=λe=>no (e▸he);show#[J,(iq G.good I ek).mpr ((F.vw _ _ _).mpr q)]
end
end Pg
namespace St
open PySem L2
noncomputable abbrev zv:K4:=top 12
noncomputable abbrev rG:K4:=top 13
section
variable {P:rz}{w:C1}{K:iF}{mg:Str->Option Value}{base:Heap}
theorem aU.keep {C p ow co:Addr}{M:Addr->Prop}{os:List Int}{pg:List (Option (List Int))}{H H':Hp}(S:aU C H M p ow co os pg) (h:Off (λ_=>False) H H'):aU C H' M p ow co os pg:=by
 let#[#[dx,h1],G,cs,J,I]:=S;show#[#[dx,h _ _ h1 id],h _ _ G id,cs,h _ _ J id,iK h (λ_ z=>z.elim) I]
theorem cQ {H:Hp}{l:Addr}{o:HO}(h:H l=none):Off (λ_=>False) H (upd H l o):=by
 intro b o' e _;rw[ah (λz=>by rw[z,h]at e;cases e)];show e
theorem fM {os:List Int}{n:Nat}{x:Int}(h:n<os.length):dR (os.set n x) n=x:=by
 unfold dR;rw[Tx (by rw[Ll];omega)];simp[h]
theorem eU {os:List Int}{n:Nat}{x:Int}(h:os[n]?=some x):dR os n=x:=by
 let#[h1,h2]:=kz.mp h;unfold dR;rw[Tx af];simp[h1,h2]
theorem Cz {os:List Int}{n:Nat}{x:Int}(h:os[n]?=some x):os.set n x=os:=by
 let#[h1,h2]:=kz.mp h;rw[<-h2];show List.set_getElem_self h1
inductive rS (C:Addr) (vs:List V) (H:Hp) (Q:VK) (e3:XK):Prop
 |mk (p ow co:Addr) (M:Addr->Prop) (os:List Int) (pg:List (Option (List Int))) (n:Nat) (ns:List Int) (c:Nat) (_:vs=[.ref p,.int n]) (_:aU C H M p ow co os pg) (_:M ow) (_:M co) (_:(∀b,M b->H b≠none)) (_:ow≠co) (_:os.length<=60) (_:os[n]?=some (c:Int)) (_:1<=c) (_:c<=1000) (_:pg[n]?=some (some ns)) (_:∀(H':Hp) (t l:Addr),H t=none->H' t=some (.tup [.ref l,.int c])->¬ M l->H' l=some (.lst (ns.map V.int))->aU C H' M p ow co (os.set n 0) pg->Off (λb=>b=ow\/b=co) H H'->Q (.ref t) H'):rS C vs H Q e3
theorem Gm:aC ["store","n","moved"] ["store","n"] (aw zv):=L2.bC
theorem BP {f C:Addr}{fd:qj}(F:cI K "lift" "lift" zv f fd) (T:Txt K mg C) (GE:Md P w K mg base aV 3 C "cells" (lN C)) (GC:Md P w K mg base aV 1 C "count" (gD C)) (GL:Md P w K mg base aV 3 C "less" (qV C)) :
  a8 P w K mg base aV 4 f fd ["store","n"] (rS C):=by
 show F.dh Gm (λa6 A outer s H vs Q E R h=>?_);let#[p,ow,co,M,os,pg,n,ns,c,rfl,S,mw,mc,mt,as,N,O,c1,c2,hg,k]:=h;let#[#[dx,h1],hw,cs,a0,hp]:=id S;let#[Y,_]:=kz.mp O;have hc:dR os n≠0:=(by rw[eU O];omega);show#[_,(ag (dr 2 Gm.nd (b7 (aa (pm (pv 0) T.cl GE R ax (aa (pv 1) ai)) (aa (pm (pv 0) T.cl GC R ax (aa (pv 1) ai)) ai))))
  (ag (sD D3 (aD gJ (pm (pv 0) T.cl GC R ax (aa (pv 1) ai)) aj (aI _)) (ak (aL (pm (pv 0) T.cl GL R ax (aa (pv 1) ai)))))
  (ak (aE (pv 2))))),?_]
 show#[0,p,dx,0,h1,aY _ _ ao ao,0,p,ow,co,M,os,pg,n,ns,rfl,S,N,hc,hg,?_];intro l fl;have L:=S.keep (cQ (o:=.lst (ns.map V.int)) fl);have aT:upd H l (.lst (ns.map V.int)) l=some (.lst (ns.map V.int)):=ae;have O1:Off (λb=>b=ow\/b=co) H (upd H l (.lst (ns.map V.int))):=λb o e _=>cQ fl b o e id;generalize upd H l (.lst (ns.map V.int))=H1 at *;let#[ap,aB]:=L.ob;show#[0,p,ap,0,aB,aY _ _ ao ao,0,p,ow,co,M,os,pg,n,rfl,L,N,?_];rw[eU O];show#[dZ,λt G=>?_];have S2:=L.keep (cQ (o:=.tup [.ref l,.int c]) G);have ht:upd H1 t (.tup [.ref l,.int c]) t=some (.tup [.ref l,.int c]):=ae;have am:upd H1 t (.tup [.ref l,.int c]) l=some (.lst (ns.map V.int)):=cQ G l _ aT id;have O2:Off (λb=>b=ow\/b=co) H (upd H1 t (.tup [.ref l,.int c])):=λb o e z=>cQ G b o (O1 b o e z) id;have U:¬ M l:=λz=>mt l z fl;have fH:H t=none:=by
  cases e:H t with
  |none=>rfl
  |some o =>
   exfalso;by_cases z:t=ow\/t=co
   .rcases z with z|z
    .subst z;rw[L.hw]at G;cases G
    .subst z;let#[_,q,_]:=L.hc;rw[q]at G;cases G
   .rw[O1 t o e z]at G;cases G
 generalize upd H1 t (.tup [.ref l,.int c])=H2 at *;show#[λm σ H3=>∃c':Nat,m=c'/\σ=[some (.ref p),some (.int n),some (.ref t)]/\aU C H3 M p ow co (os.set n c') pg/\H3 t=some (.tup [.ref l,.int c])/\H3 l=some (.lst (ns.map V.int))/\Off (λb=>b=ow\/b=co) H H3,
  #[c,c,1,by rw[Cz O];show S2,ht,am,O2],?_]
 rintro m σ H3 ⟨c',rfl,rfl,J,I,l3,O3⟩;let#[ac,h3]:=J.ob;show#[0,p,ac,0,h3,aY _ _ ao ao,0,p,ow,co,M,_,pg,n,rfl,J,by rw[Ll];show N,?_];rw[fM Y];show#[_,0,rfl,0,?_];by_cases z:(0:Int)<m
 .rw[decide_eq_true z];show#[λab H'=>ab=[some (.ref p),some (.int n),some (.ref t)]/\aU C H' M p ow co (os.set n (m-1:Nat)) pg/\H' t=some (.tup [.ref l,.int c])/\H' l=some (.lst (ns.map V.int))/\Off (λb=>b=ow\/b=co) H H',3]
  .rintro ab H' ⟨a1,a2,a3,a4,a5⟩;show#[m-1,af,m-1,rfl,a1,a2,a3,a4,a5]
  .show#[0,p,ac,0,h3,aY _ _ ao ao,0,p,ow,co,M,_,pg,n,rfl,J,mw,mc,as,by rw[Ll];show N,by rw[fM Y];omega,?_];intro H4 S4 O4;rw[fM Y,show(n:Int).toNat=n from Ml n,Rg]at S4;show#[rfl,3,3]
   .have e:((m-1:Nat):Int)=(m:Int)-1:=af;rw[e];show S4
   .show O4 _ _ I λq=>?_;rcases q with q|q
    .subst q;rw[J.hw]at I;cases I
    .subst q;let#[_,y,_]:=J.hc;rw[y]at I;cases I
   .show O4 _ _ l3 λq=>?_;rcases q with q|q
    .show U (q▸mw)
    .show U (q▸mc)
   .intro b o e q;show O4 b o (O3 b o e q) q
 .rw[decide_eq_false z];have e:m=0:=af;subst e;show#[0,k H3 t l fH I U l3 J O3]
theorem pF {C p ow co:Addr}{M:Addr->Prop}{os:List Int}{pg:List (Option (List Int))}{H H':Hp}(S:aU C H' M p ow co os pg) (h:Off (λb=>b=ow\/b=co) H H') (mt:∀b,M b->H b≠none):∀b,M b->H' b≠none:=by
 intro b I e;by_cases z:b=ow\/b=co
 .rcases z with z|z
  .subst z;rw[S.hw]at e;cases e
  .subst z;let#[_,q,_]:=S.hc;rw[q]at e;cases e
 .cases G:H b with
  |none=>show mt b I G
  |some o=>rw[h b o G z]at e;cases e
inductive jX (C:Addr) (vs:List V) (H:Hp) (Q:VK) (e3:XK):Prop
 |mk (p ow co t l:Addr) (M:Addr->Prop) (os:List Int) (pg:List (Option (List Int))) (ns:List Int) (c:Nat) (_:vs=[.ref p,.ref t]) (_:aU C H M p ow co os pg) (_:M ow) (_:M co) (_:(∀b,M b->H b≠none)) (_:ow≠co) (_:os.length=pg.length) (_:os.length<=60) (_:(0:Int)∈os) (_:H t=some (.tup [.ref l,.int c])) (_:H l=some (.lst (ns.map V.int))) (_:¬ M l) (_:1<=c) (_:c<=1000) (_:∀H':Hp,aU C H' M p ow co (os.set (os.idxOf 0) c) (pg.set (os.idxOf 0) (some ns))->Off (λb=>b=ow\/b=co) H H'->Q (.int (os.idxOf 0:Nat)) H'):jX C vs H Q e3
theorem CK:aC ["store","moved","n"] ["store","moved"] (aw rG):=L2.bC
theorem yx {f C:Addr}{fd:qj}(F:cI K "settle" "settle" rG f fd) (T:Txt K mg C) (GT:Md P w K mg base aV 1 C "take" (vC C)) (GP:Md P w K mg base aV 3 C "put" (wM K C)) (GC:Md P w K mg base aV 1 C "count" (gD C)) (GM:Md P w K mg base aV 3 C "more" (qc C)) :
  a8 P w K mg base aV 4 f fd ["store","moved"] (jX C):=by
 show F.dh CK (λa5 A outer s H vs Q E U h=>?_);let#[p,ow,co,t,l,M,os,pg,ns,c,rfl,S,N,mc,mt,ab,ap,L,h0,I,a0,nM,c1,c2,k]:=h;let#[dx,h1]:=S.ob;have J:os.idxOf 0<os.length:=LQ.mpr h0;show#[_,(ag (dr 2 CK.nd (ug (pv 0) T.cl GT U ax))
  (ag (aL (pm (pv 0) T.cl GP U ax (aa (pv 2) (aa (aP aN (pv 1) aj bW) ai))))
  (ag (sD D3 (aD gI (pm (pv 0) T.cl GC U ax (aa (pv 2) ai)) (aP aN (pv 1) aj bW) (aI _)) (ak (aL (pm (pv 0) T.cl GM U ax (aa (pv 2) ai)))))
  (ak (aE (pv 2)))))),?_]
 show#[0,p,dx,0,h1,aY _ _ ao ao,p,ow,co,M,os,pg,rfl,S,N,mc,mt,ab,ap,L,λz=>absurd h0 z,λ_ H1 S1 O=>?_];generalize os.idxOf 0=j at *;let#[as,aT]:=S1.ob;have Y:¬ (t=ow\/t=co):=λq=>by
  rcases q with q|q
  .subst q;rw[S.hw]at I;cases I
  .subst q;let#[_,y,_]:=S.hc;rw[y]at I;cases I
 have aB:¬ (l=ow\/l=co):=λq=>by
  rcases q with q|q
  .show nM (q▸N)
  .show nM (q▸mc)
 have t1:=O _ _ I Y;have l1:=O _ _ a0 aB;show#[0,p,as,0,aT,aY _ _ ao ao,0,0,t,_,(0),0,rfl,bL.of t1,rfl,p,ow,co,l,M,2,_,ns,rfl,S1,N,mc,pF S1 O mt,ab,by rw[Ll,Ll];show ap,by rw[Ll];show L,by rw[fM J];decide,bA.of l1,?_];intro H2 S2 O2;rw[show(j:Int).toNat=j from Ml j,Rg]at S2;show#[λm σ H3=>∃G:Nat,m+G=c/\1<=G/\σ=[some (.ref p),some (.ref t),some (.int j)]/\aU C H3 M p ow co (os.set j G) (pg.set j (some ns))/\H3 t=some (.tup [.ref l,.int c])/\Off (λb=>b=ow\/b=co) H H3,
  #[c-1,(1),af,qs _,rfl,S2,O2 _ _ t1 Y,λb o e q=>O2 b o (O b o e q) q],?_]
 rintro m σ H3 ⟨G,em,p1,rfl,R,t3,O3⟩;let#[am,h3]:=R.ob;show#[0,p,am,0,h3,aY _ _ ao ao,0,p,ow,co,M,2,j,rfl,R,by rw[Ll];show L,?_];rw[fM J];show#[0,t,_,(1),0,rfl,bL.of t3,4,0,rfl,0,?_];by_cases z:(G:Int)<c
 .rw[decide_eq_true z];show#[λac H'=>ac=[some (.ref p),some (.ref t),some (.int j)]/\aU C H' M p ow co (os.set j (G+1:Nat)) (pg.set j (some ns))/\H' t=some (.tup [.ref l,.int c])/\Off (λb=>b=ow\/b=co) H H',3]
  .rintro ac H' ⟨a1,a2,a3,a4⟩;show#[m-1,af,G+1,af,af,a1,a2,a3,a4]
  .show#[0,p,am,0,h3,aY _ _ ao ao,0,p,ow,co,M,2,j,rfl,R,N,mc,ab,by rw[Ll];show L,by rw[fM J];omega,?_];intro H4 S4 O4;rw[fM J,show(j:Int).toNat=j from Ml j,Rg]at S4;show#[rfl,S4,O4 _ _ t3 Y,λb o e q=>O4 b o (O3 b o e q) q]
 .rw[decide_eq_false z];have e:G=c:=af;subst e;show#[0,k H3 R O3]
end
structure PA where
 pg:Addr
 fp:Addr
 fo:Addr
 fc:Addr
 sp:Addr
 so:Addr
 sc:Addr
 pd:Addr
 il:Addr
noncomputable def cN (A:PA) (n:Int):List (Str×V):=bo "in_frames" (.ref A.il) (bo "last_sheet" (.int n) (bo "places" (.ref A.pd) (bo "slots" (.ref A.sp) (bo "frames" (.ref A.fp) []))))
noncomputable abbrev Er:=List (Int×Addr×Bool×Nat)
noncomputable def sh (x:Addr×Bool×Nat):V:=.ref x.1
noncomputable def jZ (b:Bool) (n:Nat):List V:=[.str (if b=true then "frame" else "slot"),.int n]
structure bN (C CS:Addr) (H:Hp) (M:Addr->Prop) (A:PA) (s:Pg.PS):Prop where
 ob:∃dx,H A.pg=some (.ins C dx (cN A s.ls))
 fr:aU CS H M A.fp A.fo A.fc (s.ow true) (s.co true)
 sl:aU CS H M A.sp A.so A.sc (s.ow false) (s.co false)
 il:H A.il=some (.lst (s.inf.map V.int))
 le:∀b,(s.ow b).length<=60
 pd:∃l:Er,H A.pd=some (.dK (Tb.dk sh l))/\(l.map (·.1)).Nodup/\(∀x∈l,H x.2.1=some (.tup (jZ x.2.2.1 x.2.2.2)))/\(∀k,(Tb.look l k).map (·.2)=s.pl k)/\l.length<=1000
structure ox (K:iF) (mg:Str->Option Value) (C:Addr):Prop where
 cl:sg K C
 nF:c6 K C "frames"
 nS:c6 K C "slots"
 nP:c6 K C "places"
 nL:c6 K C "last_sheet"
 nI:c6 K C "in_frames"
 list:mg "list" = none
noncomputable abbrev vT:K4:=inClass (top 14) 9
section
variable {P:rz}{w:C1}{K:iF}{mg:Str->Option Value}{base:Heap}
inductive iB (C CS:Addr) (vs:List V) (H:Hp) (Q:VK) (e3:XK):Prop
 |mk (M:Addr->Prop) (A:PA) (s:Pg.PS) (k:Int) (b:Bool) (n:Nat) (_:vs=[.ref A.pg,.int k]) (_:bN C CS H M A s) (_:s.pl k=some (b,n)) (_:∀t,H t=some (.tup (jZ b n))->Q (.ref t) H):iB C CS vs H Q e3
theorem pP (A:PA) (n:Int):(cN A n).lookup ("places" : Str)=some (.ref A.pd):=by
 unfold cN;rw[aG,Tx ao,aG,Tx ao,aG,Tz rfl]
theorem Jm:aC ["self","sheet"] ["self","sheet"] (aw vT):=L2.bC
theorem zB {f C CS:Addr}{fd:qj}(F:cI K "place" "Paging.place" vT f fd) (T:ox K mg C):a8 P w K mg base aV 1 f fd ["self","sheet"] (iB C CS):=by
 show F.dh Jm (λab A outer s H vs Q E N h=>?_);let#[M,I,s',k,b,n,rfl,G,U,q]:=h;let#[dx,h1]:=G.ob;let#[l,hd,nd,Y,S,_]:=G.pd;show#[_,(ag (aS (ja (gj (a9 N) (pv 1) (aK (pv 0) rfl))) cY aF)
  (ak (aE (bh (a9 N) (aK (pv 0) rfl) (pv 1) bW)))),?_]
 obtain⟨x,R,ex⟩:∃x,Tb.look l k=some x/\x.2=(b,n):=by
  have:=S k;rw[U]at this;show pf.mp this
 have O:cZ H I.pd (.int k) (some (sh x)):=by
  have L:=cZ.k (k:=ti k) hd;rw[Tb.cL,R]at L;show L
 have J:=Y _ (Tb.az R);show#[0,0,I.pg,C,dx,_,0,h1,T.cl,T.nP,pP _ _,I.pd,0,O,0,?_];show bX #[0,I.pg,C,dx,_,0,h1,T.cl,T.nP,pP _ _,0,I.pd,sh x,rfl,O,q x.1 ?_];rw[show x.2.1=b by rw[ex],show x.2.2=n by rw[ex]]at J;show J
noncomputable abbrev km:K4:=inClass (top 14) 10
noncomputable abbrev mN:K4:=inClass (top 14) 11
inductive dt (C CS:Addr) (vs:List V) (H:Hp) (Q:VK) (e3:XK):Prop
 |mk (M:Addr->Prop) (A:PA) (s:Pg.PS) (k:Int) (b:Bool) (n:Nat) (_:vs=[.ref A.pg,.int k]) (_:bN C CS H M A s) (_:s.pl k=some (b,n)) (_:Q (.int n) H):dt C CS vs H Q e3
noncomputable def PA.st (A:PA) (b:Bool):Addr:=if b=true then A.fp else A.sp
inductive fj (C CS:Addr) (vs:List V) (H:Hp) (Q:VK) (e3:XK):Prop
 |mk (M:Addr->Prop) (A:PA) (s:Pg.PS) (k:Int) (b:Bool) (n:Nat) (_:vs=[.ref A.pg,.int k]) (_:bN C CS H M A s) (_:s.pl k=some (b,n)) (_:Q (.ref (A.st b)) H):fj C CS vs H Q e3
theorem cJ (A:PA) (n:Int) {m:Str}(h1:¬ m = "in_frames") (h2:¬ m = "last_sheet") (I:¬ m = "places") (J:¬ m = "slots") (G:¬ m = "frames"):(cN A n).lookup m=none:=by
 unfold cN;rw[aG,Tx h1,aG,Tx h2,aG,Tx I,aG,Tx J,aG,Tx G]
 all_goals rfl
theorem ml (A:PA) (n:Int):(cN A n).lookup ("frames" : Str)=some (.ref A.fp):=by
 unfold cN;rw[aG,Tx ao,aG,Tx ao,aG,Tx ao,aG,Tx ao,aG,Tz rfl]
theorem tH (A:PA) (n:Int):(cN A n).lookup ("slots" : Str)=some (.ref A.sp):=by
 unfold cN;rw[aG,Tx ao,aG,Tx ao,aG,Tx ao,aG,Tz rfl]
theorem JC:aC ["self","sheet"] ["self","sheet"] (aw km):=L2.bC
theorem tJ {f C CS:Addr}{fd:qj}(F:cI K "number_of" "Paging.number_of" km f fd) (T:ox K mg C) (L:Md P w K mg base aV 1 C "place" (iB C CS)):a8 P w K mg base aV 2 f fd ["self","sheet"] (dt C CS):=by
 show F.dh JC (λR A outer s H vs Q E J h=>?_);let#[M,I,s',k,b,n,rfl,G,O,q]:=h;let#[dx,h1]:=G.ob;show#[_,(ak (aE (aP aN (pm (pv 0) T.cl L J ax (aa (pv 1) ai)) aj bW))),?_];show#[0,I.pg,dx,0,h1,cJ _ _ ao ao ao ao ao,0,M,I,s',k,b,n,rfl,G,O,λt N=>?_];show#[t,_,(1),0,rfl,bL.of N,rfl,q]
theorem JJ:aC ["self","sheet"] ["self","sheet"] (aw mN):=L2.bC
theorem vD {f C CS:Addr}{fd:qj}(F:cI K "store_of" "Paging.store_of" mN f fd) (T:ox K mg C) (L:Md P w K mg base aV 1 C "place" (iB C CS)):a8 P w K mg base aV 2 f fd ["self","sheet"] (fj C CS):=by
 show F.dh JJ (λR A outer s H vs Q E J h=>?_);let#[M,I,s',k,b,n,rfl,G,O,q]:=h;let#[dx,h1]:=G.ob;show#[_,(ag (aS (aD bR (aP aN (pm (pv 0) T.cl L J ax (aa (pv 1) ai)) aj bW) aH (aI _)) (ak (aE (aK (pv 0) rfl))) aF)
  (ak (aE (aK (pv 0) rfl)))),?_]
 show#[0,I.pg,dx,0,h1,cJ _ _ ao ao ao ao ao,0,M,I,s',k,b,n,rfl,G,O,λt N=>?_];show#[t,_,(0),0,rfl,bL.of N,1,0,?_];cases b with
 |true=>show eL #[0,I.pg,C,dx,_,0,h1,T.cl,T.nF,ml _ _,q]
 |false=>show bX #[0,I.pg,C,dx,_,0,h1,T.cl,T.nS,tH _ _,q]
noncomputable abbrev rJ:K4:=inClass (top 14) 12
noncomputable abbrev qv:K4:=inClass (top 14) 4
noncomputable def PA.ow (A:PA) (b:Bool):Addr:=if b=true then A.fo else A.so
noncomputable def PA.co (A:PA) (b:Bool):Addr:=if b=true then A.fc else A.sc
theorem bN.st {C CS:Addr}{H:Hp}{M:Addr->Prop}{A:PA}{s:Pg.PS}(G:bN C CS H M A s) (b:Bool):aU CS H M (A.st b) (A.ow b) (A.co b) (s.ow b) (s.co b):=by
 cases b
 .show G.sl
 .show G.fr
inductive oq (C CS:Addr) (vs:List V) (H:Hp) (Q:VK) (e3:XK):Prop
 |mk (M:Addr->Prop) (A:PA) (s:Pg.PS) (k:Int) (cs:List Int) (c:Int) (_:vs=[.ref A.pg,.int k]) (_:bN C CS H M A s) (_:Pg.Vw s k cs c) (_:Q (.int c) H):oq C CS vs H Q e3
inductive m7 (C CS:Addr) (vs:List V) (H:Hp) (Q:VK) (e3:XK):Prop
 |mk (M:Addr->Prop) (A:PA) (s:Pg.PS) (k:Int) (cs:List Int) (c:Int) (_:vs=[.ref A.pg,.int k]) (_:bN C CS H M A s) (_:Pg.Vw s k cs c) (_:c≠0) (_:∀l,H l=none->Q (.ref l) (upd H l (.lst (cs.map V.int)))):m7 C CS vs H Q e3
theorem ve:aC ["self","sheet"] ["self","sheet"] (aw rJ):=L2.bC
theorem ym {f C CS:Addr}{fd:qj}(F:cI K "count" "Paging.count" rJ f fd) (T:ox K mg C) (TS:Txt K mg CS) (Y:Md P w K mg base aV 2 C "store_of" (fj C CS)) (U:Md P w K mg base aV 2 C "number_of" (dt C CS)) (O:Md P w K mg base aV 1 CS "count" (gD CS)):a8 P w K mg base aV 3 f fd ["self","sheet"] (oq C CS):=by
 show F.dh ve (λac A outer s H vs Q E J h=>?_);let#[M,I,s',k,cs,c,rfl,G,#[b,n,L,ab,R],q]:=h;let#[dx,h1]:=G.ob;have S:=G.st b;let#[N,h2]:=S.ob;show#[_,(ak (aE (pm (pm (pv 0) T.cl Y J ax (aa (pv 1) ai)) TS.cl O J ax (aa (pm (pv 0) T.cl U J ax (aa (pv 1) ai)) ai)))),?_];show#[0,I.pg,dx,0,h1,cJ _ _ ao ao ao ao ao,0,M,I,s',k,b,n,rfl,G,L,?_];show#[_,N,0,h2,aY _ _ ao ao,?_];show#[0,I.pg,dx,0,h1,cJ _ _ ao ao ao ao ao,0,M,I,s',k,b,n,rfl,G,L,?_];show#[2,_,M,2,n,rfl,S,G.le b,?_];rw[eU R];show q
theorem Jy:aC ["self","sheet"] ["self","sheet"] (aw qv):=L2.bC
theorem xY {f C CS:Addr}{fd:qj}(F:cI K "cells" "Paging.cells" qv f fd) (T:ox K mg C) (TS:Txt K mg CS) (ab:Md P w K mg base aV 2 C "store_of" (fj C CS)) (Y:Md P w K mg base aV 2 C "number_of" (dt C CS)) (GE:Md P w K mg base aV 3 CS "cells" (lN CS)):a8 P w K mg base aV 4 f fd ["self","sheet"] (m7 C CS):=by
 show F.dh Jy (λac A outer s H vs Q E J h=>?_);let#[M,I,s',k,cs,c,rfl,G,#[b,n,L,R,U],O,q]:=h;let#[dx,h1]:=G.ob;have S:=G.st b;let#[N,h2]:=S.ob;show#[_,(ak (aE (pm (pm (pv 0) T.cl ab J ax (aa (pv 1) ai)) TS.cl GE J ax (aa (pm (pv 0) T.cl Y J ax (aa (pv 1) ai)) ai)))),?_];show#[0,I.pg,dx,0,h1,cJ _ _ ao ao ao ao ao,0,M,I,s',k,b,n,rfl,G,L,?_];show#[_,N,0,h2,aY _ _ ao ao,?_];show#[0,I.pg,dx,0,h1,cJ _ _ ao ao ao ao ao,0,M,I,s',k,b,n,rfl,G,L,?_];show#[2,_,M,2,n,cs,rfl,S,G.le b,by rw[eU U];show O,by rw[show(n:Int).toNat=n from Ml n];show R,q]
end
theorem aU.off {C p ow co:Addr}{B M:Addr->Prop}{os:List Int}{pg:List (Option (List Int))}{H H':Hp}(S:aU C H M p ow co os pg) (h:Off B H H') (O:∀b,B b->M b) (I:¬ B p) (N:¬ B ow) (G:¬ B co):aU C H' M p ow co os pg:=by
 let#[#[dx,h1],J,cs,R,L]:=S;show#[#[dx,h _ _ h1 I],h _ _ J N,cs,h _ _ R G,iK h O L]
structure PA.Ok (A:PA) (M:Addr->Prop):Prop where
 ds:[A.pg,A.fp,A.fo,A.fc,A.sp,A.so,A.sc,A.pd,A.il].Nodup
 mm:∀x∈[A.pg,A.fp,A.fo,A.fc,A.sp,A.so,A.sc,A.pd,A.il],M x
noncomputable def PA.own (A:PA):Addr->Prop:=λb=>b∈[A.pg,A.fo,A.fc,A.so,A.sc,A.pd,A.il]
noncomputable abbrev qO:K4:=inClass (top 14) 8
theorem nE {α:Type}{l:List α}(h:l.Nodup) (i j:Nat) {a b:α}(hi:l[i]?=some a) (J:l[j]?=some b) (L:i≠j):a≠b:=by
 let#[h1,I]:=kz.mp hi;let#[h2,G]:=kz.mp J;have q:=Ma.mp h;rcases Nat.lt_or_gt_of_ne L with z|z
 .rw[<-I, <-G];show q i j h1 h2 z
 .rw[<-I, <-G];show qw (q j i h2 h1 z)
theorem gv {a b c:Addr}(h1:a≠b) (h2:a≠c):¬ (a=b\/a=c):=λz=>z.elim h1 h2
theorem Ih {M:Addr->Prop}{a b:Addr}(h1:M a) (h2:M b):∀c,c=a\/c=b->M c:=λc z=>z.elim (λe=>by rw[e];show h1) λe=>by rw[e];show h2
theorem in1 {M:Addr->Prop}{a:Addr}(h1:M a):∀c,c=a->M c:=λc e=>by rw[e];show h1
section
variable {A:PA}{M:Addr->Prop}
theorem PA.Ok.n (ok:A.Ok M) (i j:Nat) {a b:Addr}(hi:[A.pg,A.fp,A.fo,A.fc,A.sp,A.so,A.sc,A.pd,A.il][i]?=some a) (I:[A.pg,A.fp,A.fo,A.fc,A.sp,A.so,A.sc,A.pd,A.il][j]?=some b) (G:i≠j):a≠b:=nE ok.ds i j hi I G
theorem PA.Ok.m (ok:A.Ok M) (i:Nat) {a:Addr}(hi:[A.pg,A.fp,A.fo,A.fc,A.sp,A.so,A.sc,A.pd,A.il][i]?=some a):M a:=ok.mm a (vr hi)
theorem PA.eT (i:Nat) {a:Addr}(hi:[A.pg,A.fo,A.fc,A.so,A.sc,A.pd,A.il][i]?=some a):A.own a:=vr hi
theorem PA.Ok.own (ok:A.Ok M):∀b,A.own b->M b:=by
 intro b h;unfold PA.own at h;simp only[BY,DD,or_false]at h;rcases h with h|h|h|h|h|h|h<;>rw[h]
 .show ok.m 0 rfl
 .show ok.m 2 rfl
 .show ok.m 3 rfl
 .show ok.m 5 rfl
 .show ok.m 6 rfl
 .show ok.m 7 rfl
 .show ok.m 8 rfl
theorem bN.alive {C CS:Addr}{H H':Hp}{s:Pg.PS}(G:bN C CS H' M A s) (o:Off A.own H H') (mt:∀b,M b->H b≠none):∀b,M b->H' b≠none:=by
 intro b N e;by_cases z:A.own b
 .unfold PA.own at z;simp only[BY,DD,or_false]at z;let#[dx,h1]:=G.ob;let#[_,L,_]:=G.fr.hc;let#[_,J,_]:=G.sl.hc;let#[l,O,_]:=G.pd;rcases z with z|z|z|z|z|z|z<;>rw[z]at e
  .rw[h1]at e;cases e
  .rw[G.fr.hw]at e;cases e
  .rw[L]at e;cases e
  .rw[G.sl.hw]at e;cases e
  .rw[J]at e;cases e
  .rw[O]at e;cases e
  .rw[G.il]at e;cases e
 .cases I:H b with
  |none=>show mt b N I
  |some o'=>rw[o b o' I z]at e;cases e
theorem bN.keep {C CS:Addr}{H H':Hp}{s:Pg.PS}(G:bN C CS H M A s) (h:Off (λ_=>False) H H'):bN C CS H' M A s:=by
 let#[dx,h1]:=G.ob;let#[l,hd,J,L,I,O]:=G.pd;show#[#[dx,h _ _ h1 id],G.fr.keep h,G.sl.keep h,h _ _ G.il id,G.le,#[l,h _ _ hd id,J,λx N=>h _ _ (L x N) id,I,O]]
theorem bN.oh {C CS:Addr}{H:Hp}{s:Pg.PS}(G:bN C CS H M A s) (ok:A.Ok M) (r:List Int):bN C CS (upd H A.il (.lst (r.map V.int))) M A { s with inf:=r }:=by
 have o:Off (· = A.il) H (upd H A.il (.lst (r.map V.int))):=λb o e z=>(by rw[ah z];show e);let#[dx,h1]:=G.ob;let#[l,hd,L,I,O,N]:=G.pd;show#[#[dx,o _ _ h1 (ok.n 0 8 rfl rfl av)],G.fr.off o (in1 (ok.m 8 rfl)) (ok.n 1 8 rfl rfl av) (ok.n 2 8 rfl rfl av) (ok.n 3 8 rfl rfl av),G.sl.off o (in1 (ok.m 8 rfl)) (ok.n 4 8 rfl rfl av) (ok.n 5 8 rfl rfl av) (ok.n 6 8 rfl rfl av),ae,G.le,
  #[l,o _ _ hd (ok.n 7 8 rfl rfl av),L,λx J=>o _ _ (I x J) (cK (I x J) G.il (by intro z;cases z)),O,N]]
theorem bN.D7 {C CS:Addr}{H:Hp}{s s':Pg.PS}(G:bN C CS H M A s) (I:s'.ow=s.ow) (J:s'.co=s.co) (S:s'.ls=s.ls) (N:s'.inf=s.inf) (U:∀j,s'.pl j=s.pl j):bN C CS H M A s':=by
 let#[l,hd,O,R,L,Y]:=G.pd;show#[by rw[S];show G.ob,by rw[I,J];show G.fr,by rw[I,J];show G.sl,by rw[N];show G.il,by rw[I];show G.le,#[l,hd,O,R,λj=>by rw[U];show L j,Y]]
theorem BW {H:Hp}{l:Er}{f:Int->Option (Bool×Nat)}{k:Int}{t:Addr}{b:Bool}{n:Nat}(J:(l.map (·.1)).Nodup) (O:∀x∈l,H x.2.1=some (.tup (jZ x.2.2.1 x.2.2.2))) (N:∀j,(Tb.look l j).map (·.2)=f j) (S:l.length<=999\/(f k≠none/\l.length<=1000)) (L:H t=some (.tup (jZ b n))) :
  ∃G:Er,putK (Tb.dk sh l) (ti k) (.ref t)=Tb.dk sh G/\(G.map (·.1)).Nodup/\(∀x∈G,H x.2.1=some (.tup (jZ x.2.2.1 x.2.2.2)))/\(∀j,(Tb.look G j).map (·.2)=Pg.du f k (some (b,n)) j)/\G.length<=1000:=by
 have R:∀G:Er,(∀j,Tb.look G j=if j=k then some (t,b,n)else Tb.look l j)->∀j,(Tb.look G j).map (·.2)=Pg.du f k (some (b,n)) j:=by
  intro G h j;rw[h j];by_cases e:j=k
  .rw[Tz e,e,Pg.bj];rfl
  .rw[Tx e,Pg.aJ e];show N j
 cases e:Tb.look l k with
 |none =>
  have U:f k=none:=(by rw[<-N k,e];rfl);show#[l++[(k,(t,b,n))],Tb.cH (f:=sh) (a:=(t,b,n)) e,?_,λx I=>?_,R _ λj=>Tb.bu j e,?_]
  .rw[DO];show fJ J (Tb.cf e)
  .rcases n7.mp I with I|I
   .show O x I
   .rw[nq.mp I];show L
  .rw[wh,LK];rcases S with h|h
   .omega
   .show absurd U h.1
 |some y =>
  show#[Tb.aW l k (t,b,n),Tb.gU (f:=sh) (a:=(t,b,n)) e,by rw[Tb.fm];show J,λx I=>?_,R _ λj=>Tb.bM j e,?_]
  .rcases Tb.mem_set I with rfl|⟨I,_⟩
   .show L
   .show O x I
  .rw[Tb.fK];omega
theorem bN.zZ {C CS t:Addr}{H:Hp}{s:Pg.PS}{l:Er}{f:Int->Option (Bool×Nat)}{k:Int}{b:Bool}{n:Nat}(ok:A.Ok M)
  (ob:∃dx,H A.pg=some (.ins C dx (cN A s.ls))) (fr:aU CS H M A.fp A.fo A.fc (s.ow true) (s.co true)) (sl:aU CS H M A.sp A.so A.sc (s.ow false) (s.co false)) (il:H A.il=some (.lst (s.inf.map V.int))) (le:∀b,(s.ow b).length<=60)
  (hd:H A.pd=some (.dK (Tb.dk sh l))) (J:(l.map (·.1)).Nodup) (ht:∀x∈l,H x.2.1=some (.tup (jZ x.2.2.1 x.2.2.2))) (S:∀j,(Tb.look l j).map (·.2)=f j) (Y:l.length<=999\/(f k≠none/\l.length<=1000)) (N:H t=some (.tup (jZ b n))) (O:∀j,s.pl j=Pg.du f k (some (b,n)) j) :
  bN C CS (upd H A.pd (.dK (putK (Tb.dk sh l) (ti k) (.ref t)))) M A s:=by
 have o:Off (· = A.pd) H (upd H A.pd (.dK (putK (Tb.dk sh l) (ti k) (.ref t)))):=λb o e z=>(by rw[ah z];show e);let#[U,e1,L,G,R,e5]:=BW (k:=k) J ht S Y N;let#[dx,h1]:=ob;show#[#[dx,o _ _ h1 (ok.n 0 7 rfl rfl av)],fr.off o (in1 (ok.m 7 rfl)) (ok.n 1 7 rfl rfl av) (ok.n 2 7 rfl rfl av) (ok.n 3 7 rfl rfl av),sl.off o (in1 (ok.m 7 rfl)) (ok.n 4 7 rfl rfl av) (ok.n 5 7 rfl rfl av) (ok.n 6 7 rfl rfl av),o _ _ il (ok.n 8 7 rfl rfl av),le,
  #[U,by rw[ae,e1],L,λx I=>o _ _ (G x I) (cK (G x I) hd (by intro z;cases z)),λj=>by rw[O j];show R j,e5]]
theorem lF {α:Type}{k:Int}:∀{l:List (Int×α)},(l.map (·.1)).Nodup->l.length<=(Tb.bf l k).length+1
 | [],_=>KU _
 |x::r,h=>by
  let#[J,I]:=KW.mp (show(x.1::r.map (·.1)).Nodup from h);have L:=lF (k:=k) I;unfold Tb.bf at L ⊢;rw[Mo];by_cases c:x.1=k
  .rw[Tx (by simp[c])];have:r.filter (λx=>decide (x.1≠k))=r:=by
    rw[OQ];intro y G;have:y.1≠k:=λe=>J (by rw[c, <-e];show rr.mpr #[y,G,rfl]);simpa using this
   rw[this,KO];show qs _
  .rw[Tz (by simpa using c),KO,KO];omega
theorem Cy {s:Pg.PS}(G:Pg.Good s) (le:∀b,(s.ow b).length<=60) {l:Er}(U:(l.map (·.1)).Nodup) (I:∀x∈l,s.pl x.1=some x.2.2):l.length<=120:=by
 have lt:∀x∈l,x.2.2.2<60:=λx J=>by
  let#[cs,c,_,h2,_,_]:=G.va x.1 x.2.2.1 x.2.2.2 (I x J);have h3:=(kz.mp h2).1;have h4:=le x.2.2.1;omega
 have:=Tb.BE 120 0 (l.map λx=>if x.2.2.1=true then(x.2.2.2:Int)else 60+(x.2.2.2:Int)) ?_ ?_
 .rwa [mu]at this
 .show Nn.mpr ((Nn.mp U).imp_of_mem ?_);intro a b N O S e;have h1:=lt a N;have h2:=lt b O;show S (G.inj a.1 b.1 b.2.2 ?_ (I b O));rw[I a N];congr 1;have e:(if a.2.2.1=true then(a.2.2.2:Int)else 60+(a.2.2.2:Int))=if b.2.2.1=true then(b.2.2.2:Int)else 60+(b.2.2.2:Int):=e
  show Q4 ?_ ?_
  .cases L:a.2.2.1<;>cases R:b.2.2.1
   .rfl
   .rw[L,R,Tx av,Tz rfl]at e;omega
   .rw[L,R,Tz rfl,Tx av]at e;omega
   .rfl
  .split at e<;>split at e<;>omega
 .intro x J;let#[y,Y,rfl]:=rr.mp J;have h1:=lt y Y;split<;>omega
theorem wG {s:Pg.PS}(G:Pg.Good s) (le:(s.ow true).length<=60):s.inf.length<=60:=by
 have:=Tb.BE 60 0 (s.inf.map λk=>match s.pl k with|some p=>(p.2:Int)|none=>0) ?_ ?_
 .rwa [mu]at this
 .show Nn.mpr (G.nd.imp_of_mem ?_);intro a b N S L e;let#[n,I]:=(G.fi a).mp N;let#[m,J]:=(G.fi b).mp S;rw[I,J]at e;have e:(n:Int)=m:=e;have e:n=m:=af;subst e;show L (G.inj _ _ _ I J)
 .intro x R;let#[y,O,rfl]:=rr.mp R;let#[n,I]:=(G.fi y).mp O;let#[cs,c,_,h2,_,_]:=G.va _ _ _ I;have U:=(kz.mp h2).1;rw[I];change 0<=(n:Int)/\(n:Int)<0+(60:Nat);omega
end
section
variable {P:rz}{w:C1}{K:iF}{mg:Str->Option Value}{base:Heap}
inductive mr (C CS:Addr) (vs:List V) (H:Hp) (Q:VK) (e3:XK):Prop
 |mk (M:Addr->Prop) (A:PA) (s:Pg.PS) (k:Int) (n:Nat) (cs:List Int) (c:Nat) (_:vs=[.ref A.pg,.int k]) (_:bN C CS H M A s) (_:A.Ok M) (_:(∀b,M b->H b≠none)) (_:s.pl k=some (true,n)) (_:Pg.Vw s k cs c) (_:¬ k∈s.inf) (_:(0:Int)∈s.ow false) (_:(∀b,(s.co b).length=(s.ow b).length)) (_:1<=c) (_:c<=1000) (_:∀H':Hp,bN C CS H' M A (Pg.out s k n cs c)->Off A.own H H'->Q .non H'):mr C CS vs H Q e3
theorem Hm:aC ["self","sheet","moved"] ["self","sheet"] (aw qO):=L2.bC
theorem uX {f C CS:Addr}{fd:qj}(F:cI K "put_out" "Paging.put_out" qO f fd) (T:ox K mg C) (a1:Df P w K mg base aV 4 "lift" (rS CS)) (a2:Df P w K mg base aV 4 "settle" (jX CS)) (as:Md P w K mg base aV 2 C "number_of" (dt C CS)):a8 P w K mg base aV 5 f fd ["self","sheet"] (mr C CS):=by
 show F.dh Hm (λba A outer s H vs Q E R h=>?_);let#[M,I,s',k,n,cs,c,rfl,G,ok,mt,S,hv,ni,h0,a0,c1,Y,q]:=h;let#[dx,h1]:=G.ob;let#[b',n',e1,e2,e3]:=hv;rw[S]at e1;cases e1;let#[l,hd,nd,J,hl,a3]:=G.pd;have hs:=vu;show#[_,(ag (dr 2 Hm.nd (pc a1 R ax (aa (aK (pv 0) rfl) (aa (pm (pv 0) T.cl as R ax (aa (pv 1) ai)) ai))))
  (ak (jQ (a9 R) (aK (pv 0) rfl) (pv 1) (b7 (aa aH (aa (pc a2 R ax (aa (aK (pv 0) rfl) (aa (pv 2) ai))) ai))) rfl))),?_]
 show#[0,I.pg,C,dx,_,0,h1,T.cl,T.nF,ml _ _,?_];show#[0,I.pg,dx,0,h1,cJ _ _ ao ao ao ao ao,0,M,I,s',k,true,n,rfl,G,S,?_];show#[I.fp,I.fo,I.fc,M,2,n,cs,c,rfl,G.fr,ok.m 2 rfl,ok.m 3 rfl,mt,ok.n 2 3 rfl rfl av,G.le true,e3,c1,Y,e2,?_];intro H1 t l0 ft ab nl a6 S1 O;have aB:=O _ _ h1 (gv (ok.n 0 2 rfl rfl av) (ok.n 0 3 rfl rfl av));have a5:=G.sl.off O (Ih (ok.m 2 rfl) (ok.m 3 rfl)) (gv (ok.n 4 2 rfl rfl av) (ok.n 4 3 rfl rfl av)) (gv (ok.n 5 2 rfl rfl av) (ok.n 5 3 rfl rfl av)) (gv (ok.n 6 2 rfl rfl av) (ok.n 6 3 rfl rfl av));show#[0,I.pg,C,dx,_,0,aB,T.cl,T.nS,tH _ _,0,I.sp,I.so,I.sc,t,l0,M,2,cs,c,rfl,a5,ok.m 5 rfl,ok.m 6 rfl,pF S1 O mt,ok.n 5 6 rfl rfl av,(a0 false).symm,G.le false,h0,ab,a6,nl,c1,Y,?_];intro H2 S2 O2;show#[dZ,λu U=>?_];have am:=(S1.off O2 (Ih (ok.m 5 rfl) (ok.m 6 rfl)) (gv (ok.n 1 5 rfl rfl av) (ok.n 1 6 rfl rfl av)) (gv (ok.n 2 5 rfl rfl av) (ok.n 2 6 rfl rfl av)) (gv (ok.n 3 5 rfl rfl av) (ok.n 3 6 rfl rfl av))).keep (cQ (o:=.tup (jZ false ((s'.ow false).idxOf 0))) U);have ac:=S2.keep (cQ (o:=.tup (jZ false ((s'.ow false).idxOf 0))) U);have L:∀b o,H b=some o->¬ (b=I.fo\/b=I.fc)->¬ (b=I.so\/b=I.sc)->upd H2 u (.tup (jZ false ((s'.ow false).idxOf 0))) b=some o:=λb o e z1 z2=>cQ U b o (O2 b o (O b o e z1) z2) id;have hu:upd H2 u (.tup (jZ false ((s'.ow false).idxOf 0))) u=some (.tup (jZ false ((s'.ow false).idxOf 0))):=ae;have kd:=L _ _ hd (gv (ok.n 7 2 rfl rfl av) (ok.n 7 3 rfl rfl av)) (gv (ok.n 7 5 rfl rfl av) (ok.n 7 6 rfl rfl av));have ko:=L _ _ h1 (gv (ok.n 0 2 rfl rfl av) (ok.n 0 3 rfl rfl av)) (gv (ok.n 0 5 rfl rfl av) (ok.n 0 6 rfl rfl av));have ki:=L _ _ G.il (gv (ok.n 8 2 rfl rfl av) (ok.n 8 3 rfl rfl av)) (gv (ok.n 8 5 rfl rfl av) (ok.n 8 6 rfl rfl av));have aT:=G.fr.hw;have a4:=G.sl.hw;let#[_,a7,_]:=G.fr.hc;let#[_,ap,_]:=G.sl.hc;have kt:∀x∈l,upd H2 u (.tup (jZ false ((s'.ow false).idxOf 0))) x.2.1=some (.tup (jZ x.2.2.1 x.2.2.2)):=λx N=>L _ _ (J x N) (gv (cK (J x N) aT (by intro z;cases z)) (cK (J x N) a7 (by intro z;cases z))) (gv (cK (J x N) a4 (by intro z;cases z)) (cK (J x N) ap (by intro z;cases z)));change BZ K _ _ _ (upd H2 u (.tup (jZ false ((s'.ow false).idxOf 0)))) _;generalize upd H2 u (.tup (jZ false ((s'.ow false).idxOf 0)))=H3 at *;show#[0,I.pg,C,dx,_,0,ko,T.cl,T.nP,pP _ _,0,I.pd,0,fC.k (k:=ti k) kd (by rw[Tb.cj];omega),?_];show q _ (bN.zZ (s:=Pg.out s' k n cs c) (f:=s'.pl) (b:=false) (n:=(s'.ow false).idxOf 0) ok #[dx,ko] am ac ?_ ?_ kd nd kt hl (.inr #[by rw[S];simp,a3]) hu ?_) ?_
 .change H3 I.il=some (.lst ((s'.inf.erase k).map V.int));rw[Nk ni];show ki
 .intro b;cases b
  .change(Tj _ _ _).length<=60;rw[Ll];show G.le false
  .change(Tj _ _ _).length<=60;rw[Ll];show G.le true
 .intro j;by_cases e:j=k
  .subst e;show Pg.bj.trans Pg.bj.symm
  .show(Pg.aJ e).trans ((Pg.aJ e).trans (Pg.aJ e).symm)
 .intro b o e z;rw[ah (λy=>z (by rw[y];show PA.eT 5 rfl))];show L b o e (λy=>z (y.elim (λy=>by rw[y];show PA.eT 1 rfl) λy=>by rw[y];show PA.eT 2 rfl)) (λy=>z (y.elim (λy=>by rw[y];show PA.eT 3 rfl) λy=>by rw[y];show PA.eT 4 rfl))
noncomputable abbrev oe:K4:=inClass (top 14) 7
inductive iA (C CS:Addr) (vs:List V) (H:Hp) (Q:VK) (e3:XK):Prop
 |mk (M:Addr->Prop) (A:PA) (s:Pg.PS) (k:Int) (t l:Addr) (cs:List Int) (c:Nat) (_:vs=[.ref A.pg,.int k,.ref t]) (_:bN C CS H M A s) (_:A.Ok M) (_:(∀b,M b->H b≠none)) (_:Pg.Good { s with pl:=Pg.du s.pl k none }) (_:((0:Int)∈s.ow true\/(0:Int)∈s.ow false)) (_:s.ow true≠[]) (_:(∀b,∀x∈s.ow b,x<=1000)) (_:H t=some (.tup [.ref l,.int c])) (_:H l=some (.lst (cs.map V.int))) (_:¬ M l) (_:1<=c) (_:c<=1000) (_:∀(H':Hp) (s':Pg.PS),Pg.BI { s with pl:=Pg.du s.pl k none } k cs c s'->bN C CS H' M A s'->Off A.own H H'->Q .non H'):iA C CS vs H Q e3
theorem tR (A:PA) (n:Int):(cN A n).lookup ("in_frames" : Str)=some (.ref A.il):=by
 unfold cN;rw[aG,Tz rfl]
theorem JL:aC ["self","sheet","moved"] ["self","sheet","moved"] (aw oe):=L2.bC
theorem sZ {f C CS:Addr}{fd:qj}(F:cI K "bring_in" "Paging.bring_in" oe f fd) (T:ox K mg C) (TS:Txt K mg CS) (GF:Md P w K mg base aV 1 CS "free" (qp CS)) (a4:Md P w K mg base aV 5 C "put_out" (mr C CS)) (be:Df P w K mg base aV 4 "settle" (jX CS)):a8 P w K mg base aV 6 f fd ["self","sheet","moved"] (iA C CS):=by
 show F.dh JL (λbY A outer s H vs Q E hr h=>?_);let#[M,I,s',k,t,l0,cs,c,rfl,G,ok,mt,gd,hf,hn,hb,L,bl,nl,c1,c2,q]:=h;let#[dx,h1]:=G.ob;let#[ba,h2]:=G.fr.ob;have hs:=vu;have bb:¬ I.own l0:=λz=>nl (ok.own _ z);show#[_,(ag (aS (aD bR (ug (aK (pv 0) rfl) TS.cl GF hr ax) aj (aI _)) (ak (aL (pm (pv 0) T.cl a4 hr ax (aa (ip LJ PySem.F.slot_list_pop PySem.F.type_list_pop AY (aK (pv 0) rfl) (aa aj ai)) ai)))) aF)
  (ag (jQ (a9 hr) (aK (pv 0) rfl) (pv 1) (b7 (aa aH (aa (pc be hr ax (aa (aK (pv 0) rfl) (aa (pv 2) ai))) ai))) rfl)
  (ak (aL (ip LJ NG NH ky (aK (pv 0) rfl) (aa (pv 1) ai)))))),?_]
 show share (λσ H9=>BD λ(s1 s2:Pg.PS)=>HE (σ=[some (.ref I.pg),some (.int k),some (.ref t)]) (bN C CS H9 M I s1) (s2.ow=s1.ow) (s2.co=s1.co) (s2.ls=s1.ls) (s2.inf=s1.inf) ((∀j,j≠k->s2.pl j=s1.pl j)) (Pg.Good s2) ((0:Int)∈s2.ow true) (Pg.BI { s' with pl:=Pg.du s'.pl k none } k cs c (Pg.xA s2 true k cs c)) (Off I.own H H9)) (λu' aB=>?A) ?B
 case A =>
  show#[0,I.pg,C,dx,_,0,h1,T.cl,T.nF,ml _ _,I.fp,ba,0,h2,aY _ _ ao ao,I.fp,I.fo,I.fc,M,_,0,G.fr,rfl,0,?_];show gR (λz'=>?_) (λz'=>?_)
  rotate_left
  .have z:(0:Int)∈s'.ow true:=Ny λn=>z' (by rw[QO.mpr n];simp);show aB _ _ #[s', { s' with pl:=Pg.du s'.pl k none },rfl,G,1,1,λj hj=>Pg.aJ hj,gd,z,.free z,λb o e _=>e]
  .have z:¬ (0:Int)∈s'.ow true:=QO.mp (by
    have:(((s'.ow true).count 0:Nat):Int)=0:=(by simpa using z');omega)
   rcases Pg.HQ gd hf hn with h|⟨_,ac,N,r,n0,as,c0,hi,R,ab⟩
   .show absurd h z
   .have bi:N≠k:=λe=>by
     have R:Pg.du s'.pl k none N=some (true,n0):=R;rw[e,Pg.bj]at R;cases R
    have hi:s'.inf=N::r:=hi;have b0:=(gd.vw ab).1;let#[og,_,_,bn,_,_,bF]:=Pg.sY gd R ab ac;let#[b1,n1,e1,e2,e3]:=id ab;rw[R]at e1;cases e1;have aT:s'.pl N=some (true,n0):=(by rw[<-R];show(Pg.aJ bi).symm);have bE:=hb true c0 (vr e3);obtain⟨a0,rfl⟩:∃c':Nat,c0=c':=#[c0.toNat,af];have O:=gd.nd;have O:s'.inf.Nodup:=O;rw[hi]at O;let#[n1,n2]:=KW.mp O;have J:=G.oh ok r;have S:Off I.own H (upd H I.il (.lst (r.map V.int))):=λb o e z=>(by rw[ah (λy=>z (by rw[y];show PA.eT 6 rfl))];show e);have am:=G.il;rw[hi]at am;show#[0,I.pg,dx,0,h1,cJ _ _ ao ao ao ao ao,0,I.pg,C,dx,_,0,h1,T.cl,T.nI,tR _ _,.inl #[4,bA.of am],I.il,_,(0),(0),.int N,1,am,av,av,Pb (Lz _) (by rw[mu,KO];omega),5];show#[M,I,_,N,n0,as,a0,rfl,J,ok,J.alive S mt,aT,#[true,n0,aT,e2,e3],n1,ac,gd.ln,af,af,λH2 G2 O2=>?_];show aB _ _ #[_,Pg.out { s' with pl:=Pg.du s'.pl k none } N n0 as a0,rfl,G2,1,rfl,3,og,bn,.full z ac hi R ab,λb o e y=>O2 b o (S b o e y) y]
    .change s'.inf.erase N=r.erase N;rw[hi,List.erase_cons_head,Nk n1]
    .intro j hj;by_cases e:j=N
     .subst e;show Pg.bj.trans Pg.bj.symm
     .show(Pg.aJ e).trans ((Pg.aJ e).trans ((Pg.aJ hj).trans ((Pg.aJ e).trans (Pg.aJ e)).symm))
 case B =>
  rintro σ H9 ⟨s1,s2,rfl,J,U,w2,w3,w4,w5,g2,z0,bx,S⟩;let#[ap,h3]:=J.ob;have bv:H9 t=some (.tup [.ref l0,.int c]):=S _ _ L λy=>by
   let#[_,q1,_]:=G.fr.hc;let#[_,q2,_]:=G.sl.hc;let#[_,q3,_]:=G.pd;have q4:=G.fr.hw;have q5:=G.sl.hw;have q6:=G.il;unfold PA.own at y;simp only[BY,DD,or_false]at y;rcases y with y|y|y|y|y|y|y<;>rw[y]at L
   .rw[h1]at L;cases L
   .rw[q4]at L;cases L
   .rw[q1]at L;cases L
   .rw[q5]at L;cases L
   .rw[q2]at L;cases L
   .rw[q3]at L;cases L
   .rw[q6]at L;cases L
  have a3:=S _ _ bl bb;let#[l,hd,O,ht,hl,bI]:=J.pd;have bm:l.length<=999:=by
   have a1:=lF (k:=k) O;have a2:=Cy g2 (λb=>by rw[U];show J.le b) (l:=Tb.bf l k) (by rw[Tb.jw];show O.filter _) λx Y=>by
    let#[Y,a5]:=Tb.b9 Y;have:=hl x.1;rw[Tb.bJ O Y]at this;rw[w5 x.1 a5, <-this];rfl
   omega
  rw[U]at z0;have bd:(s1.co true).length=(s1.ow true).length:=(by rw[<-U, <-w2];show g2.ln true);show#[0,I.pg,C,ap,_,0,h3,T.cl,T.nF,ml _ _,0,I.fp,I.fo,I.fc,t,l0,M,2,cs,c,rfl,J.fr,ok.m 2 rfl,ok.m 3 rfl,J.alive S mt,ok.n 2 3 rfl rfl av,bd.symm,J.le true,z0,bv,a3,nl,c1,c2,?_];intro H2 S2 O2;show#[dZ,λu fu=>?_];have bz:=S2.keep (cQ (o:=.tup (jZ true ((s1.ow true).idxOf 0))) fu);have a7:=(J.sl.off O2 (Ih (ok.m 2 rfl) (ok.m 3 rfl)) (gv (ok.n 4 2 rfl rfl av) (ok.n 4 3 rfl rfl av)) (gv (ok.n 5 2 rfl rfl av) (ok.n 5 3 rfl rfl av)) (gv (ok.n 6 2 rfl rfl av) (ok.n 6 3 rfl rfl av))).keep (cQ (o:=.tup (jZ true ((s1.ow true).idxOf 0))) fu);have kp:∀b o,H9 b=some o->¬ (b=I.fo\/b=I.fc)->upd H2 u (.tup (jZ true ((s1.ow true).idxOf 0))) b=some o:=λb o e z1=>cQ fu b o (O2 b o e z1) id;have hu:upd H2 u (.tup (jZ true ((s1.ow true).idxOf 0))) u=some (.tup (jZ true ((s1.ow true).idxOf 0))):=ae;have kd:=kp _ _ hd (gv (ok.n 7 2 rfl rfl av) (ok.n 7 3 rfl rfl av));have ko:=kp _ _ h3 (gv (ok.n 0 2 rfl rfl av) (ok.n 0 3 rfl rfl av));have ki:=kp _ _ J.il (gv (ok.n 8 2 rfl rfl av) (ok.n 8 3 rfl rfl av));have bc:=J.fr.hw;let#[_,bq,_]:=J.fr.hc;have kt:∀x∈l,upd H2 u (.tup (jZ true ((s1.ow true).idxOf 0))) x.2.1=some (.tup (jZ x.2.2.1 x.2.2.2)):=λx Y=>kp _ _ (ht x Y) (gv (cK (ht x Y) bc (by intro z;cases z)) (cK (ht x Y) bq (by intro z;cases z)));change BZ K _ _ _ (upd H2 u (.tup (jZ true ((s1.ow true).idxOf 0)))) _;generalize upd H2 u (.tup (jZ true ((s1.ow true).idxOf 0)))=H3 at *;show#[0,I.pg,C,ap,_,0,ko,T.cl,T.nP,pP _ _,0,I.pd,0,fC.k (k:=ti k) kd (by rw[Tb.cj];omega),?_];have G4:=bN.zZ (C:=C) (CS:=CS) (s:={ Pg.xA s1 true k cs c with inf:=s1.inf }) (f:=s1.pl) (k:=k) (b:=true) (n:=(s1.ow true).idxOf 0) ok #[ap,ko] bz a7 ki (λb=>by
   cases b
   .show J.le false
   .change(Tj _ _ _).length<=60;rw[Ll];show J.le true) kd O kt hl (.inl bm) hu (λj=>rfl)
  have O4:Off I.own H (upd H3 I.pd (.dK (putK (Tb.dk sh l) (ti k) (.ref u)))):=λb o e z=>by
   rw[ah (λy=>z (by rw[y];show PA.eT 5 rfl))];show kp b o (S b o e z) (λy=>z (y.elim (λy=>by rw[y];show PA.eT 1 rfl) λy=>by rw[y];show PA.eT 2 rfl))
  generalize upd H3 I.pd (.dK (putK (Tb.dk sh l) (ti k) (.ref u)))=H4 at *;let#[a6,h4]:=G4.ob;have b2:s1.inf.length<=60:=(by rw[<-w4];show wG g2 (by rw[U];show J.le true));show#[0,I.pg,C,a6,_,0,h4,T.cl,T.nI,tR _ _,.inl #[4,bA.of G4.il],0,I.il,_,.int k,1,G4.il,by rw[mu];change s1.inf.length<_;omega,?_];have G5:=G4.oh ok (s1.inf++[k]);rw[DO]at G5;show q _ _ bx (G5.D7 ?_ ?_ w3 ?_ ?_) λb o e z=>by
   rw[ah (λy=>z (by rw[y];show PA.eT 6 rfl))];show O4 b o e z
  .change Pg.upd s2.ow true _=Pg.upd s1.ow true _;rw[U]
  .change Pg.upd s2.co true _=Pg.upd s1.co true _;rw[U,w2]
  .change s2.inf++[k]=s1.inf++[k];rw[w4]
  .intro j;change Pg.du s2.pl k _ j=Pg.du s1.pl k _ j;by_cases e:j=k
   .rw[e,Pg.bj,Pg.bj,U]
   .rw[Pg.aJ e,Pg.aJ e];show w5 j e
end
end St
namespace Pg
theorem tK {α:Type}{f:Bool->α}{b:Bool}:upd f b (f b)=f:=by
 funext c;by_cases e:c=b
 .rw[e,ae]
 .rw[aX e]
theorem yP {α:Type}{f:Int->α}{k:Int}{v:α}(h:f k=v):du f k v=f:=by
 funext c;by_cases e:c=k
 .rw[e,bj,h]
 .rw[aJ e]
theorem vL {s:PS}(G:Good s):({ next s with pl:=du (next s).pl (s.ls+1) none }:PS)=next s:=by
 have e:du s.pl (s.ls+1) none=s.pl:=yP (fh G);change PS.mk s.ow s.co (du s.pl (s.ls+1) none) (s.ls+1) s.inf=PS.mk s.ow s.co s.pl (s.ls+1) s.inf;rw[e]
theorem wI {s:PS}{k:Int}{n:Nat}(G:Good s) (J:s.pl k=some (false,n)):¬ k∈s.inf:=λh=>by
 let#[m,I]:=(G.fi k).mp h;rw[J]at I;cases I
theorem um {s:PS}{k:Int}{n:Nat}(G:Good s) (I:s.pl k=some (false,n)):({ cD s false n 0 with pl:=du (cD s false n 0).pl k none }:PS)=oM s k false n:=by
 change PS.mk (upd s.ow false ((s.ow false).set n 0)) s.co (du s.pl k none) s.ls s.inf=PS.mk (upd s.ow false ((s.ow false).set n 0)) s.co (du s.pl k none) s.ls (s.inf.erase k);rw[Nk (wI G I)]
noncomputable def Cb (s:PS):Prop:=∀b,∀x∈s.ow b,x<=1000
theorem Ee {ow:Bool->List Int}{b:Bool}{n:Nat}{x:Int}(h:∀b,∀x∈ow b,x<=1000) (I:x<=1000):∀c,∀y∈upd ow b ((ow b).set n x) c,y<=1000:=by
 intro c y G;by_cases e:c=b
 .rw[e,ae]at G;rcases OU G with h' |h'
  .show h b y h'
  .rw[h'];show I
 .rw[aX e]at G;show h c y G
end Pg
namespace Pg
theorem RI.cb {s:PS}{es:List Ent}(R:RI s es) (le:∀b,(s.ow b).length<=60):Cb s:=by
 intro b x J;let#[n,G]:=Qt J;rcases R.good.on b n x G with e|⟨k,I⟩
 .omega
 .let#[cs,c,h1,h2,_,_]:=R.good.va _ _ _ I;rw[G]at h2;cases h2;have N:=R.ct k cs x #[b,n,I,h1,G];have L:=List.count_le_length (a:=some k) (l:=es);have O:=R.rm;have U:=le true;have S:=le false;omega
end Pg
namespace St
open PySem L2
section
variable {A:PA}{M:Addr->Prop}
theorem AK (A:PA) (n:Int):(cN A n).lookup ("last_sheet" : Str)=some (.int n):=by
 unfold cN;rw[aG,Tx ao,aG,Tz rfl]
theorem Bh (A:PA) (n:Int):cN A n=([("frames",.ref A.fp),("slots",.ref A.sp),("places",.ref A.pd),("last_sheet",.int n),("in_frames",.ref A.il)]:List (Str×V)):=by
 have Y:¬ (("frames" : Str) = "slots"):=ao;have I:¬ (("frames" : Str) = "places"):=ao;have N:¬ (("frames" : Str) = "last_sheet"):=ao;have S:¬ (("frames" : Str) = "in_frames"):=ao;have R:¬ (("slots" : Str) = "places"):=ao;have O:¬ (("slots" : Str) = "last_sheet"):=ao;have G:¬ (("slots" : Str) = "in_frames"):=ao;have J:¬ (("places" : Str) = "last_sheet"):=ao;have L:¬ (("places" : Str) = "in_frames"):=ao;have U:¬ (("last_sheet" : Str) = "in_frames"):=ao;unfold cN;simp only[bo,Tx Y,Tx I,Tx N,Tx S,Tx R,Tx O,Tx G,Tx J,Tx L,Tx U]
theorem Fq (A:PA) (n m:Int):bo "last_sheet" (.int m) (cN A n)=cN A m:=by
 have I:¬ (("frames" : Str) = "last_sheet"):=ao;have J:¬ (("slots" : Str) = "last_sheet"):=ao;have G:¬ (("places" : Str) = "last_sheet"):=ao;rw[Bh,Bh];simp only[bo,Tx I,Tx J,Tx G,if_true]
theorem bN.Gp {C CS dx:Addr}{H:Hp}{s:Pg.PS}(G:bN C CS H M A s) (ok:A.Ok M) (n:Int):bN C CS (upd H A.pg (.ins C dx (cN A n))) M A { s with ls:=n }:=by
 have o:Off (· = A.pg) H (upd H A.pg (.ins C dx (cN A n))):=λb o e z=>(by rw[ah z];show e);let#[R,h1]:=G.ob;let#[l,hd,L,I,O,N]:=G.pd;show#[#[dx,ae],G.fr.off o (in1 (ok.m 0 rfl)) (ok.n 1 0 rfl rfl av) (ok.n 2 0 rfl rfl av) (ok.n 3 0 rfl rfl av),G.sl.off o (in1 (ok.m 0 rfl)) (ok.n 4 0 rfl rfl av) (ok.n 5 0 rfl rfl av) (ok.n 6 0 rfl rfl av),o _ _ G.il (ok.n 8 0 rfl rfl av),G.le,
  #[l,o _ _ hd (ok.n 7 0 rfl rfl av),L,λx J=>o _ _ (I x J) (cK (I x J) h1 (by intro z;cases z)),O,N]]
theorem bN.DJ {C CS:Addr}{H H':Hp}{s:Pg.PS}(G:bN C CS H M A s) (ok:A.Ok M) (b:Bool) {os:List Int}{pg:List (Option (List Int))}(S:aU CS H' M (A.st b) (A.ow b) (A.co b) os pg) (o:Off (λx=>x=A.ow b\/x=A.co b) H H') (hl:os.length<=60):bN C CS H' M A { s with ow:=Pg.upd s.ow b os,co:=Pg.upd s.co b pg }:=by
 let#[R,h1]:=G.ob;let#[l,hd,L,I,U,N]:=G.pd;have le:∀c,(Pg.upd s.ow b os c).length<=60:=λc=>by
  by_cases e:c=b
  .rw[e,Pg.ae];show hl
  .rw[Pg.aX e];show G.le c
 have Y:=(G.st b).hw;let#[_,hc,_]:=(G.st b).hc;have O:∀x∈l,H' x.2.1=some (.tup (jZ x.2.2.1 x.2.2.2)):=λx J=>o _ _ (I x J) (gv (cK (I x J) Y (by intro z;cases z)) (cK (I x J) hc (by intro z;cases z)));cases b
 .show#[#[R,o _ _ h1 (gv (ok.n 0 5 rfl rfl av) (ok.n 0 6 rfl rfl av))],G.fr.off o (Ih (ok.m 5 rfl) (ok.m 6 rfl)) (gv (ok.n 1 5 rfl rfl av) (ok.n 1 6 rfl rfl av)) (gv (ok.n 2 5 rfl rfl av) (ok.n 2 6 rfl rfl av)) (gv (ok.n 3 5 rfl rfl av) (ok.n 3 6 rfl rfl av)),S,o _ _ G.il (gv (ok.n 8 5 rfl rfl av) (ok.n 8 6 rfl rfl av)),le,
   #[l,o _ _ hd (gv (ok.n 7 5 rfl rfl av) (ok.n 7 6 rfl rfl av)),L,O,U,N]]
 .show#[#[R,o _ _ h1 (gv (ok.n 0 2 rfl rfl av) (ok.n 0 3 rfl rfl av))],S,G.sl.off o (Ih (ok.m 2 rfl) (ok.m 3 rfl)) (gv (ok.n 4 2 rfl rfl av) (ok.n 4 3 rfl rfl av)) (gv (ok.n 5 2 rfl rfl av) (ok.n 5 3 rfl rfl av)) (gv (ok.n 6 2 rfl rfl av) (ok.n 6 3 rfl rfl av)),o _ _ G.il (gv (ok.n 8 2 rfl rfl av) (ok.n 8 3 rfl rfl av)),le,
   #[l,o _ _ hd (gv (ok.n 7 2 rfl rfl av) (ok.n 7 3 rfl rfl av)),L,O,U,N]]
theorem bN.AZ {C CS:Addr}{H H':Hp}{s:Pg.PS}(G:bN C CS H M A s) (ok:A.Ok M) (b:Bool) {os:List Int}(S:aU CS H' M (A.st b) (A.ow b) (A.co b) os (s.co b)) (o:Off (λx=>x=A.ow b\/x=A.co b) H H') (I:os.length<=60):bN C CS H' M A { s with ow:=Pg.upd s.ow b os }:=
 (G.DJ ok b S o I).D7 rfl Pg.tK.symm rfl rfl λ_=>rfl
theorem bN.Gx {C CS:Addr}{H H':Hp}{s:Pg.PS}(G:bN C CS H M A s) (ok:A.Ok M) (b:Bool) {pg:List (Option (List Int))}(S:aU CS H' M (A.st b) (A.ow b) (A.co b) (s.ow b) pg) (o:Off (λx=>x=A.ow b\/x=A.co b) H H'):bN C CS H' M A { s with co:=Pg.upd s.co b pg }:=
 (G.DJ ok b S o (G.le b)).D7 Pg.tK.symm rfl rfl rfl λ_=>rfl
theorem PA.kJ (b:Bool):∀x,x=A.ow b\/x=A.co b->A.own x:=by
 intro x h;cases b
 .rcases h with h|h<;>rw[h]
  .show PA.eT 3 rfl
  .show PA.eT 4 rfl
 .rcases h with h|h<;>rw[h]
  .show PA.eT 1 rfl
  .show PA.eT 2 rfl
theorem PA.Ok.mo (ok:A.Ok M) (b:Bool):M (A.ow b):=ok.own _ (PA.kJ b _ (.inl rfl))
theorem PA.Ok.mc (ok:A.Ok M) (b:Bool):M (A.co b):=ok.own _ (PA.kJ b _ (.inr rfl))
theorem PA.Ok.oc (ok:A.Ok M) (b:Bool):A.ow b≠A.co b:=by
 cases b
 .show ok.n 5 6 rfl rfl av
 .show ok.n 2 3 rfl rfl av
theorem Off.mono {B B':Addr->Prop}{H H':Hp}(o:Off B H H') (h:∀b,B b->B' b):Off B' H H':=λb u e z=>o b u e λy=>z (h b y)
theorem Off.trans {B:Addr->Prop}{H H' G:Hp}(o:Off B H H') (o':Off B H' G):Off B H G:=λb u e z=>o' b u (o b u e z) z
theorem Off.wr {B:Addr->Prop}{H:Hp}{a:Addr}{o:HO}(h:B a):Off B H (upd H a o):=λb u e z=>by rw[ah (λy=>z (by rw[y];show h))];show e
theorem Off.new {B:Addr->Prop}{H:Hp}{a:Addr}{o:HO}(h:H a=none):Off B H (upd H a o):=λb u e z=>cQ h b u e id
theorem bN.EF {C CS:Addr}{H:Hp}{s:Pg.PS}{l:Er}(G:bN C CS H M A s) (ok:A.Ok M) (k:Int) (hd:H A.pd=some (.dK (Tb.dk sh l))) (L:(l.map (·.1)).Nodup) (J:∀x∈l,H x.2.1=some (.tup (jZ x.2.2.1 x.2.2.2))) (O:∀j,(Tb.look l j).map (·.2)=s.pl j) (N:l.length<=1000) :
  bN C CS (upd H A.pd (.dK (Tb.dk sh (Tb.bf l k)))) M A { s with pl:=Pg.du s.pl k none }:=by
 have o:Off (· = A.pd) H (upd H A.pd (.dK (Tb.dk sh (Tb.bf l k)))):=λb o e z=>(by rw[ah z];show e);let#[dx,h1]:=G.ob;show#[#[dx,o _ _ h1 (ok.n 0 7 rfl rfl av)],G.fr.off o (in1 (ok.m 7 rfl)) (ok.n 1 7 rfl rfl av) (ok.n 2 7 rfl rfl av) (ok.n 3 7 rfl rfl av),G.sl.off o (in1 (ok.m 7 rfl)) (ok.n 4 7 rfl rfl av) (ok.n 5 7 rfl rfl av) (ok.n 6 7 rfl rfl av),o _ _ G.il (ok.n 8 7 rfl rfl av),G.le,
  #[Tb.bf l k,ae,by rw[Tb.jw];show L.filter _,λx I=>?_,λj=>?_,G0 (Nj _ _) N]]
 .have I:=(Tb.b9 I).1;show o _ _ (J x I) (cK (J x I) hd (by intro z;cases z))
 .rw[Tb.ck];change _=Pg.du s.pl k none j;by_cases e:j=k
  .rw[Tz e,e,Pg.bj];rfl
  .rw[Tx e,Pg.aJ e];show O j
end
theorem zX {D:Ends}{σ:St}{H:Hp}(h:D.nx σ H):nc D σ H:=h
noncomputable abbrev kh:K4:=inClass (top 14) 1
noncomputable abbrev uz:K4:=inClass (top 14) 2
noncomputable abbrev uY:K4:=inClass (top 14) 3
noncomputable abbrev qB:K4:=inClass (top 14) 5
noncomputable abbrev vP:K4:=inClass (top 14) 6
structure HW (C CS:Addr) (H:Hp) (M:Addr->Prop) (A:PA) (s:Pg.PS):Prop where
 at_:bN C CS H M A s
 ok:A.Ok M
 mt:∀b,M b->H b≠none
 gd:Pg.Good s
 ne:s.ow true≠[]
 cb:Pg.Cb s
 l0:0<=s.ls
inductive gB (K:iF) (C CS:Addr) (vs:List V) (H:Hp) (Q:VK) (e3:XK):Prop
 |mk (M:Addr->Prop) (A:PA) (s:Pg.PS) (ca:Addr) (cs:List Int) (_:vs=[.ref A.pg,.ref ca]) (_:HW C CS H M A s) (_:((0:Int)∈s.ow true\/(0:Int)∈s.ow false)) (_:bA K H ca (cs.map V.int)) (_:ca≠A.pg) (_:cs.length=8) (_:∀(H':Hp) (s':Pg.PS),Pg.BI (Pg.next s) (s.ls+1) cs 1 s'->bN C CS H' M A s'->Off A.own H H'->Q (.int (s.ls+1)) H'):gB K C CS vs H Q e3
inductive lE (C CS:Addr) (vs:List V) (H:Hp) (Q:VK) (e3:XK):Prop
 |mk (M:Addr->Prop) (A:PA) (s:Pg.PS) (k:Int) (cs:List Int) (c:Int) (_:vs=[.ref A.pg,.int k]) (_:HW C CS H M A s) (_:Pg.Vw s k cs c) (_:∀(H':Hp) (s':Pg.PS),Pg.FE s k s'->bN C CS H' M A s'->Off A.own H H'->Q .non H'):lE C CS vs H Q e3
inductive rQ (C CS:Addr) (vs:List V) (H:Hp) (Q:VK) (e3:XK):Prop
 |mk (M:Addr->Prop) (A:PA) (s:Pg.PS) (k:Int) (b:Bool) (n:Nat) (cs:List Int) (c:Int) (_:vs=[.ref A.pg,.int k]) (_:HW C CS H M A s) (_:s.pl k=some (b,n)) (_:Pg.Vw s k cs c) (_:∀H':Hp,bN C CS H' M A (Pg.cD s b n (c+1))->Off A.own H H'->Q .non H'):rQ C CS vs H Q e3
inductive lI (C CS:Addr) (vs:List V) (H:Hp) (Q:VK) (e3:XK):Prop
 |mk (M:Addr->Prop) (A:PA) (s:Pg.PS) (k:Int) (cs:List Int) (c:Int) (_:vs=[.ref A.pg,.int k]) (_:bN C CS H M A s) (_:A.Ok M) (_:(∀b,M b->H b≠none)) (_:Pg.Good s) (_:Pg.Vw s k cs c) (_:∀(H':Hp) (s':Pg.PS),Pg.BK s k s'->bN C CS H' M A s'->Off A.own H H'->Q .non H'):lI C CS vs H Q e3
inductive nK (C CS:Addr) (vs:List V) (H:Hp) (Q:VK) (e3:XK):Prop
 |mk (M:Addr->Prop) (A:PA) (s:Pg.PS) (k:Int) (ca:Addr) (cs0:List Int) (c0:Int) (cs:List Int) (_:vs=[.ref A.pg,.int k,.ref ca]) (_:HW C CS H M A s) (_:Pg.Vw s k cs0 c0) (_:H ca=some (.lst (cs.map V.int))) (_:¬ A.own ca) (_:cs.length=8) (_:(1<c0->(0:Int)∈s.ow true\/(0:Int)∈s.ow false)) (_:(1<c0->∀(H':Hp) (s1 s2:Pg.PS),Pg.BI (Pg.next s) (s.ls+1) cs 1 s1->Pg.BK s1 k s2->bN C CS H' M A s2->Off A.own H H'->Q (.int (s.ls+1)) H')) (_:(c0=1->∀(H':Hp) (s1:Pg.PS) (m:Nat),Pg.FE s k s1->s1.pl k=some (true,m)->bN C CS H' M A (Pg.write s1 true m cs)->Off A.own H H'->Q (.int k) H')):nK C CS vs H Q e3
section
variable {P:rz}{w:C1}{K:iF}{mg:Str->Option Value}{base:Heap}
theorem J1:aC ["self","cells"] ["self","cells"] (aw kh):=L2.bC
theorem qX {f C CS:Addr}{fd:qj}(F:cI K "new_sheet" "Paging.new_sheet" kh f fd) (T:ox K mg C) (TS:Txt K mg CS) (U:Md P w K mg base aV 1 CS "free" (qp CS)) (a3:Md P w K mg base aV 6 C "bring_in" (iA C CS)):a8 P w K mg base aV 7 f fd ["self","cells"] (gB K C CS):=by
 show F.dh J1 (λa4 A outer s H vs Q E O h=>?_);let#[M,I,s',Y,cs,rfl,R,hf,aB,a2,h8,q]:=h;have G:=R.at_;have ok:=R.ok;let#[dx,h1]:=G.ob;let#[am,h2]:=G.fr.ob;let#[ap,h3]:=G.sl.ob;have hs:=vu;show#[_,(ag (aS (aD bR (aA bp (ug (aK (pv 0) rfl) TS.cl U O ax) (ug (aK (pv 0) rfl) TS.cl U O ax)) aj (aI _)) cY aF)
  (ag (xU (pv 0) aj E1)
  (ag (aL (pm (pv 0) T.cl a3 O ax (aa (aK (pv 0) rfl) (aa (b7 (aa (bK cU (by rfl) T.list dU (aa (pv 1) ai)) (aa aj ai))) ai))))
  (ak (aE (aK (pv 0) rfl)))))),?_]
 show#[0,I.pg,C,dx,_,0,h1,T.cl,T.nF,ml _ _,I.fp,am,0,h2,aY _ _ ao ao,I.fp,I.fo,I.fc,M,_,0,G.fr,?_];show#[0,I.pg,C,dx,_,0,h1,T.cl,T.nS,tH _ _,I.sp,ap,0,h3,aY _ _ ao ao,I.sp,I.so,I.sc,M,_,0,G.sl,_,0,1,0,?_];show gR (λz=>?_) (λ_=>?_)
 .exfalso;have z:(((s'.ow true).count 0:Nat):Int)+(((s'.ow false).count 0:Nat):Int)=0:=(by simpa using z);rcases hf with h|h
  .have:=Mi.mpr h;omega
  .have:=Mi.mpr h;omega
 show#[0,I.pg,C,dx,_,0,h1,T.cl,T.nL,AK _ _,_,0,rfl,dx,_,h1,by rw[Bh];change 5<1000;decide,?_];rw[Fq];have G1:=G.Gp (dx:=dx) ok (s'.ls+1);have S:Off I.own H (upd H I.pg (.ins C dx (cN I (s'.ls+1)))):=Off.wr (PA.eT 0 rfl);have a0:bA K (upd H I.pg (.ins C dx (cN I (s'.ls+1)))) Y (cs.map V.int):=Rm.eD aB λo e=>(by rw[ah a2];show e);have ab:=G1.alive S R.mt;have ac:upd H I.pg (.ins C dx (cN I (s'.ls+1))) I.pg=some (.ins C dx (cN I (s'.ls+1))):=ae;generalize upd H I.pg (.ins C dx (cN I (s'.ls+1)))=H1 at *;show#[0,I.pg,dx,0,ac,cJ _ _ ao ao ao ao ao,0,I.pg,C,dx,_,0,ac,T.cl,T.nL,AK _ _,0,Y,0,.inl a0,λl L=>?_];show#[dZ,λt J=>?_];have O2:Off I.own H1 (upd (upd H1 l (.lst (cs.map V.int))) t (.tup [.ref l,.int 1])):=(Off.new L).trans (Off.new J);have aT:t≠l:=λe=>(by rw[e,ae]at J;cases J);have ht:upd (upd H1 l (.lst (cs.map V.int))) t (.tup [.ref l,.int 1]) t=some (.tup [.ref l,.int 1]):=ae;have hl:upd (upd H1 l (.lst (cs.map V.int))) t (.tup [.ref l,.int 1]) l=some (.lst (cs.map V.int)):=(by rw[ah (qw aT),ae]);have G2:bN C CS (upd (upd H1 l (.lst (cs.map V.int))) t (.tup [.ref l,.int 1])) M I { s' with ls:=s'.ls+1 }:=(G1.keep (cQ L)).keep (cQ J);generalize upd (upd H1 l (.lst (cs.map V.int))) t (.tup [.ref l,.int 1])=H2 at *;have es:=Pg.vL R.gd;show#[M,I,Pg.next s',s'.ls+1,t,l,cs,(1),rfl,G2,ok,G2.alive O2 ab,by rw[es];show Pg.pI R.gd,hf,R.ne,R.cb,ht,hl,λz=>ab l z L,qs _,av,λH3 s3 N G3 O3=>?_];rw[es]at N;let#[as,h4]:=G3.ob;have a1:s3.ls=s'.ls+1:=(Pg.j4 R.gd R.l0 h8 N).ls;show#[0,I.pg,C,as,_,0,h4,T.cl,T.nL,AK _ _,?_];rw[a1];show q H3 s3 N G3 ((S.trans O2).trans O3)
theorem Ig:aC ["self","sheet","place"] ["self","sheet"] (aw vP):=L2.bC
theorem Bf {f C CS:Addr}{fd:qj}(F:cI K "fetch" "Paging.fetch" vP f fd) (T:ox K mg C) (Dh:Md P w K mg base aV 1 C "place" (iB C CS)) (aB:Md P w K mg base aV 6 C "bring_in" (iA C CS)) (ap:Df P w K mg base aV 4 "lift" (rS CS)):a8 P w K mg base aV 7 f fd ["self","sheet"] (lE C CS):=by
 show F.dh Ig (λa1 A outer s H vs Q E U h=>?_);let#[M,I,s',k,cs,c,rfl,R,Y,q]:=h;have G:=R.at_;have ok:=R.ok;have hc:=(R.gd.vw Y).1;let#[b,n,J,e2,e3]:=id Y;let#[dx,h1]:=G.ob;have hs:=vu;show#[_,(ag (dr 2 Ig.nd (pm (pv 0) T.cl Dh U ax (aa (pv 1) ai)))
  (ag (aS (aD bR (aP aN (pv 2) aj bW) aH (aI _)) (ag (aL (ip LJ Pz Pm oZ (aK (pv 0) rfl) (aa (pv 1) ai)))
  (ag (aL (ip LJ NG NH ky (aK (pv 0) rfl) (aa (pv 1) ai)))
  (ak qk))) aF)
  (ak (aL (pm (pv 0) T.cl aB U ax (aa (pv 1) (aa (pc ap U ax (aa (aK (pv 0) rfl) (aa (aP aN (pv 2) aj bW) ai))) ai))))))),?_]
 show#[0,I.pg,dx,0,h1,cJ _ _ ao ao ao ao ao,0,M,I,s',k,b,n,rfl,G,J,λt ht=>?_];show#[0,t,_,(0),0,rfl,bL.of ht,1,0,?_];cases b with
 |true =>
  show eL ?_;have hi:k∈s'.inf:=(R.gd.fi k).mpr #[n,J];show#[0,I.pg,C,dx,_,0,h1,T.cl,T.nI,tR _ _,.inl #[4,bA.of G.il],0,I.il,s'.inf,k,1,G.il,hi,?_];have L:=G.oh ok (s'.inf.erase k);have N:Off I.own H (upd H I.il (.lst ((s'.inf.erase k).map V.int))):=Off.wr (PA.eT 6 rfl);generalize upd H I.il (.lst ((s'.inf.erase k).map V.int))=H1 at *;let#[ac,h2]:=L.ob;have hl:=wG R.gd (G.le true);have a0:(s'.inf.erase k).length<=s'.inf.length:=List.length_erase_le;show#[0,I.pg,C,ac,_,0,h2,T.cl,T.nI,tR _ _,.inl #[4,bA.of L.il],0,I.il,_,.int k,1,L.il,by rw[mu];change(s'.inf.erase k).length<_;omega,?_];have O:=L.oh ok (s'.inf.erase k++[k]);rw[DO]at O;show q _ _ (.here J) O (N.trans (Off.wr (PA.eT 6 rfl)))
 |false =>
  show bX ?_;obtain⟨S,rfl⟩:∃S:Nat,c=S:=#[c.toNat,af];have a2:=R.cb false _ (vr e3);show#[0,I.pg,dx,0,h1,cJ _ _ ao ao ao ao ao,0,0,I.pg,C,dx,_,0,h1,T.cl,T.nS,tH _ _,0,t,_,(1),0,rfl,bL.of ht,5];show#[I.sp,I.so,I.sc,M,2,n,cs,S,rfl,G.sl,ok.m 5 rfl,ok.m 6 rfl,R.mt,ok.n 5 6 rfl rfl av,G.le false,e3,af,af,e2,?_];intro H1 t1 l1 aT am nl as S1 N;have L:=G.AZ ok false S1 N (by rw[Ll];show G.le false);have ab:Off I.own H H1:=N.mono (PA.kJ false);have es:=Pg.um R.gd J;show#[M,I,Pg.cD s' false n 0,k,t1,l1,cs,S,rfl,L,ok,L.alive ab R.mt,by rw[es];show Pg.jF R.gd J,.inr (Pg.tV R.gd J),R.ne,Pg.Ee R.cb av,am,as,nl,af,af,λH2 s2 hb O O2=>?_];rw[es]at hb;show q _ _ (.away J Y hb) O (ab.trans O2)
theorem IS:aC ["self","sheet"] ["self","sheet"] (aw uz):=L2.bC
theorem y0 {f C CS:Addr}{fd:qj}(F:cI K "share" "Paging.share" uz f fd) (T:ox K mg C) (TS:Txt K mg CS) (am:Md P w K mg base aV 2 C "store_of" (fj C CS)) (ac:Md P w K mg base aV 2 C "number_of" (dt C CS)) (GM:Md P w K mg base aV 3 CS "more" (qc CS)):a8 P w K mg base aV 4 f fd ["self","sheet"] (rQ C CS):=by
 show F.dh IS (λap A outer s H vs Q E L h=>?_);let#[M,I,s',k,b,n,cs,c,rfl,R,J,Y,q]:=h;have G:=R.at_;have ok:=R.ok;have hc:=(R.gd.vw Y).1;have O:=Pg.tI J Y;let#[dx,h1]:=G.ob;have S:=G.st b;let#[ab,h2]:=S.ob;show#[_,(ak (aL (pm (pm (pv 0) T.cl am L ax (aa (pv 1) ai)) TS.cl GM L ax (aa (pm (pv 0) T.cl ac L ax (aa (pv 1) ai)) ai)))),?_];show#[0,I.pg,dx,0,h1,cJ _ _ ao ao ao ao ao,0,M,I,s',k,b,n,rfl,G,J,?_];show#[_,ab,0,h2,aY _ _ ao ao,?_];show#[0,I.pg,dx,0,h1,cJ _ _ ao ao ao ao ao,0,M,I,s',k,b,n,rfl,G,J,?_];show#[2,_,M,2,n,rfl,S,ok.mo b,ok.mc b,ok.oc b,G.le b,by rw[eU O];omega,λH1 U N=>?_];rw[eU O,show(n:Int).toNat=n from Ml n]at U;show q H1 (G.AZ ok b U N (by rw[Ll];show G.le b)) (N.mono (PA.kJ b))
theorem DR:aC ["self","sheet","store","n"] ["self","sheet"] (aw uY):=L2.bC
theorem zL {f C CS:Addr}{fd:qj}(F:cI K "leave" "Paging.leave" uY f fd) (T:ox K mg C) (TS:Txt K mg CS) (aB:Md P w K mg base aV 2 C "store_of" (fj C CS)) (as:Md P w K mg base aV 2 C "number_of" (dt C CS)) (GL:Md P w K mg base aV 3 CS "less" (qV CS)) (GC:Md P w K mg base aV 1 CS "count" (gD CS)):a8 P w K mg base aV 4 f fd ["self","sheet"] (lI C CS):=by
 show F.dh DR (λa1 A outer s H vs Q E N h=>?_);let#[M,I,s',k,cs,c,rfl,G,ok,mt,gd,U,q]:=h;have hc:=(gd.vw U).1;let#[b,n,J,e2,e3]:=id U;let#[nl,_]:=kz.mp e3;let#[dx,h1]:=G.ob;have S:=G.st b;let#[aT,h2]:=S.ob;show#[_,(ag (dr 2 DR.nd (pm (pv 0) T.cl aB N ax (aa (pv 1) ai)))
  (ag (dr 3 DR.nd (pm (pv 0) T.cl as N ax (aa (pv 1) ai)))
  (ag (aL (pm (pv 2) TS.cl GL N ax (aa (pv 3) ai)))
  (ag (aS (aD gJ (pm (pv 2) TS.cl GC N ax (aa (pv 3) ai)) aj (aI _)) (ak qk) aF)
  (ag (aS (aD bR (aP aN (bh (a9 N) (aK (pv 0) rfl) (pv 1) bW) aj bW) aH (aI _)) (ak (aL (ip LJ Pz Pm oZ (aK (pv 0) rfl) (aa (pv 1) ai)))) aF)
  (ak (aL (eG (aK (pv 0) rfl) (pv 1) #[1,1])))))))),?_]
 show#[0,I.pg,dx,0,h1,cJ _ _ ao ao ao ao ao,0,M,I,s',k,b,n,rfl,G,J,?_];show#[0,I.pg,dx,0,h1,cJ _ _ ao ao ao ao ao,0,M,I,s',k,b,n,rfl,G,J,?_];show#[0,_,aT,0,h2,aY _ _ ao ao,0,2,_,M,2,n,rfl,S,ok.mo b,ok.mc b,ok.oc b,G.le b,by rw[eU e3];omega,λH1 R O1=>?_];rw[eU e3,show(n:Int).toNat=n from Ml n]at R;have L:=G.AZ ok b R O1 (by rw[Ll];show G.le b);have ab:Off I.own H H1:=O1.mono (PA.kJ b);let#[a0,h3]:=R.ob;show#[0,_,a0,0,h3,aY _ _ ao ao,0,2,_,M,2,n,rfl,R,by rw[Ll];show G.le b,?_];rw[fM nl];show#[_,0,rfl,0,?_];by_cases z:(0:Int)<c-1
 .rw[decide_eq_true z];show q _ _ (.more J U af) L ab
 .rw[decide_eq_false z];have ec:c=1:=af;subst ec;show bX (zX ?_);let#[ac,h4]:=L.ob;let#[l,hd,nd,ht,O,hn]:=L.pd;obtain⟨x,Y,ex⟩:∃x,Tb.look l k=some x/\x.2=(b,n):=by
   have h9:(Tb.look l k).map (·.2)=some (b,n):=(O k).trans J;show pf.mp h9
  have hg:cZ H1 I.pd (.int k) (some (sh x)):=by
   have q9:=cZ.k (k:=ti k) hd;rw[Tb.cL,Y]at q9;show q9
  have hm:=ht _ (Tb.az Y);rw[show x.2.1=b by rw[ex],show x.2.2=n by rw[ex]]at hm;dsimp only;show share (λσ H9=>σ=[some (.ref I.pg),some (.int k),some (.ref (I.st b)),some (.int n)]/\bN C CS H9 M I { Pg.cD s' b n 0 with inf:=s'.inf.erase k }/\Off I.own H H9) (λu' am=>?A) ?B
  case A =>
   show#[0,I.pg,C,ac,_,0,h4,T.cl,T.nP,pP _ _,0,I.pd,sh x,rfl,hg,x.1,_,(0),0,rfl,bL.of hm,1,0,?_];cases b with
   |true =>
    show eL ?_;have hi:k∈s'.inf:=(gd.fi k).mpr #[n,J];show#[0,I.pg,C,ac,_,0,h4,T.cl,T.nI,tR _ _,.inl #[4,bA.of L.il],0,I.il,s'.inf,k,1,L.il,hi,?_];show am _ _ #[rfl,L.oh ok (s'.inf.erase k),ab.trans (Off.wr (PA.eT 6 rfl))]
   |false =>
    show bX ?_;show am _ _ #[5,ab];rw[Nk (Pg.wI gd J)];show L
  case B =>
   rintro σ H9 ⟨rfl,G9,O9⟩;let#[ap,h5]:=G9.ob;let#[l,hd,nd,ht,O,hn]:=G9.pd;obtain⟨x,Y,ex⟩:∃x,Tb.look l k=some x/\x.2=(b,n):=by
    have h9:(Tb.look l k).map (·.2)=some (b,n):=(O k).trans J;show pf.mp h9
   show#[0,I.pg,C,ap,_,0,h5,T.cl,T.nP,pP _ _,I.pd,rfl,.inl #[_,.inl hd],0,_,ti k,sh x,hd,rfl,by rw[Tb.cL,Y];rfl,?_];rw[Tb.eK];show q _ _ (.last J U) (G9.EF ok k hd nd ht O hn) (O9.trans (Off.wr (PA.eT 5 rfl)))
theorem F2:aC ["self","sheet","cells","made"] ["self","sheet","cells"] (aw qB):=L2.bC
theorem yH {f C CS:Addr}{fd:qj}(F:cI K "change" "Paging.change" qB f fd) (T:ox K mg C) (TS:Txt K mg CS) (aB:Md P w K mg base aV 3 C "count" (oq C CS)) (aT:Md P w K mg base aV 7 C "new_sheet" (gB K C CS)) (a1:Md P w K mg base aV 4 C "leave" (lI C CS)) (as:Md P w K mg base aV 7 C "fetch" (lE C CS)) (a3:Md P w K mg base aV 2 C "number_of" (dt C CS)) (GP:Md P w K mg base aV 3 CS "put" (wM K CS)):a8 P w K mg base aV 8 f fd ["self","sheet","cells"] (nK C CS):=by
 show F.dh F2 (λa4 A outer s H vs Q E O h=>?_);let#[M,I,s',k,ca,Y,N,cs,rfl,R,S,ac,am,h8,hf,q1,q2]:=h;have G:=R.at_;have ok:=R.ok;have hc:=(R.gd.vw S).1;let#[dx,h1]:=G.ob;show#[_,(ag (aS (aD gJ (pm (pv 0) T.cl aB O ax (aa (pv 1) ai)) aj (aI _)) (ag (dr 3 F2.nd (pm (pv 0) T.cl aT O ax (aa (pv 2) ai)))
  (ag (aL (pm (pv 0) T.cl a1 O ax (aa (pv 1) ai)))
  (ak (aE (pv 3))))) aF)
  (ag (aL (pm (pv 0) T.cl as O ax (aa (pv 1) ai)))
  (ag (aL (pm (aK (pv 0) rfl) TS.cl GP O ax (aa (pm (pv 0) T.cl a3 O ax (aa (pv 1) ai)) (aa (pv 2) ai))))
  (ak (aE (pv 1)))))),?_]
 show#[0,I.pg,dx,0,h1,cJ _ _ ao ao ao ao ao,0,M,I,s',k,Y,N,rfl,G,S,?_];show#[_,0,rfl,0,?_];by_cases z:(1:Int)<N
 .rw[decide_eq_true z];show#[0,I.pg,dx,0,h1,cJ _ _ ao ao ao ao ao,0,M,I,s',ca,cs,rfl,R,hf z,bA.of ac,λe=>am (by rw[e];show PA.eT 0 rfl),h8,λH1 s1 hb J L=>?_];let#[U,h2]:=J.ob;have B:=Pg.j4 R.gd R.l0 h8 hb;have kn:k≠s'.ls+1:=by
   intro e;let#[x1,x2,y1,_]:=S;rw[e,Pg.fh R.gd]at y1;cases y1
  show#[0,I.pg,U,0,h2,cJ _ _ ao ao ao ao ao,0,M,I,s1,k,Y,N,rfl,J,ok,J.alive L R.mt,B.good,(B.kept.ot _ _ _ kn).mpr S,λH2 s2 hl G2 O2=>?_];show#[0,q1 z H2 s1 s2 hb hl G2 (L.trans O2)]
 .rw[decide_eq_false z];have ec:N=1:=af;show#[0,I.pg,dx,0,h1,cJ _ _ ao ao ao ao ao,0,M,I,s',k,Y,N,rfl,R,S,λH1 s1 ab J L=>?_];have FF:=Pg.kZ R.gd ab;let#[m,hm]:=FF.fr;have ap:=(FF.vw k Y N).mpr S;have e3:=Pg.tI hm ap;let#[U,h2]:=J.ob;let#[a0,h3]:=J.fr.ob;have a2:=L _ _ ac am;show#[0,I.pg,C,U,_,0,h2,T.cl,T.nF,ml _ _,I.fp,a0,0,h3,aY _ _ ao ao,?_];show#[0,I.pg,U,0,h2,cJ _ _ ao ao ao ao ao,0,M,I,s1,k,true,m,rfl,J,hm,?_];show#[0,I.fp,I.fo,I.fc,ca,M,2,m,cs,rfl,J.fr,ok.m 2 rfl,ok.m 3 rfl,J.alive L R.mt,ok.n 2 3 rfl rfl av,(FF.good.ln true).symm,J.le true,by rw[eU e3];omega,bA.of a2,λH2 S2 O2=>?_];rw[show(m:Int).toNat=m from Ml m]at S2;show#[0,q2 ec H2 s1 m ab hm (J.Gx ok true S2 O2) (L.trans (O2.mono (PA.kJ true)))]
end
end St
namespace Tb
open PySem L2
section
variable {α:Type}
theorem Cm {l:List (Int×α)}{k:Int}(h:¬ k∈l.map (·.1)):bf l k=l:=by
 unfold bf;rw[OQ];intro y G;have:y.1≠k:=λe=>h (rr.mpr #[y,G,e]);simpa using this
theorem kg {k:Int}{a:α}:∀{l:List (Int×α)},(l.map (·.1)).Nodup->look l k=some a->l.Perm ((k,a)::bf l k)
 | [],_,h=>by cases h
 |x::r,I,h=>by
  let#[L,J]:=KW.mp (show(x.1::r.map (·.1)).Nodup from I);rw[aO]at h;by_cases c:x.1=k
  .rw[Tz c]at h;have e:x=(k,a):=Q4 c (rn h);have G:bf (x::r) k=r:=by
    change filter _ (x::r)=r;rw[Mo,Tx (by simp[c])];show Cm (c▸L)
   rw[G,e]
  .rw[Tx c]at h;have G:bf (x::r) k=x::bf r k:=by
    change filter _ (x::r)=_;rw[Mo,Tz (by simpa using c)];rfl
   rw[G];show((kg J h).cons x).trans (List.Perm.swap _ _ _)
theorem xr (l:List (Int×α)) (k:Int) (a:α):bf (aW l k a) k=bf l k:=by
 induction l with
 |nil=>rfl
 |cons x r G =>
  change filter _ ((if x.1=k then(k,a)else x)::aW r k a)=filter _ (x::r);by_cases c:x.1=k
  .rw[Tz c,Mo,Tx (by simp),Mo,Tx (by simp[c])];show G
  .rw[Tx c,Mo,Tz (by simpa using c),Mo,Tz (by simpa using c)];congr 1
theorem ma {l:List (Int×α)}{k:Int}(G:(l.map (·.1)).Nodup):((bf l k).map (·.1)).Nodup:=G.sublist (List.Sublist.map _ List.filter_sublist)
theorem EL {l:List (Int×α)}{k:Int}{a:α}(I:(l.map (·.1)).Nodup):(((k,a)::bf l k).map (·.1)).Nodup:=by
 show KW.mpr #[λh=>?_,ma I];let#[y,G,e]:=rr.mp h;have:=(Nc.mp G).2;simp at this;show this e
theorem nD {l:List (Int×α)}{k:Int}{x:Int×α}(h:x∈l) (G:x.1≠k):x∈bf l k:=Nc.mpr #[h,by simpa using G]
theorem qA {f:α->V}{l:List (Int×α)}{k:Int}{a b:α}(G:(l.map (·.1)).Nodup) (h:look l k=some b) (e:f a=f b):dk f (aW l k a)=dk f l:=by
 unfold dk aW;rw[Mb];show Mp λx I=>?_;change((ti (if x.1=k then(k,a)else x).1:Key),f (if x.1=k then(k,a)else x).2)=(ti x.1,f x.2);by_cases c:x.1=k
 .have:look l k=some x.2:=bJ G (by rw[<-c];show I);rw[h]at this;rw[Tz c,c,e,rn this]
 .rw[Tx c]
theorem gh (l:List (Int×α)) (k j:Int) (a:α):look ((k,a)::bf l k) j=if j=k then some a else look l j:=by
 rw[aO,ck];by_cases c:j=k
 .rw[Tz c.symm,Tz c]
 .rw[Tx (qw c),Tx c,Tx c]
end
theorem TabAt.off {B:Addr->Prop}{C:Addr}{H H':Hp}{p fs:Addr}{tb:js}(T:TabAt C H p fs tb) (o:Off B H H') (N:¬ B p) (I:∀b,eI fs tb b->¬ B b) (J:∀b xs,H b=some (.tup xs)->¬ B b):TabAt C H' p fs tb:=by
 let#[#[dx,h1],h2,U,L,O,S,R]:=T;show#[#[dx,o _ _ h1 N],o _ _ h2 (I _ (.inl rfl)),λx G=>o _ _ (U x G) (I _ (.inr #[x,G,rfl])),λx G=>(L x G).keep λb xs e=>o _ _ e (J b xs e),O,S,R]
theorem TabAt.dK {C:Addr}{H:Hp}{p fs:Addr}{tb:js}(T:TabAt C H p fs tb) {b:Addr}(h:eI fs tb b):∃kvs,H b=some (.dK kvs):=by
 rcases h with h|⟨x,G,h⟩
 .show#[_,by rw[h];show T.hf]
 .show#[_,by rw[h];show T.hd x G]
end Tb
namespace St
open PySem L2
structure TD where
 p:Addr
 fs:Addr
 tb:Tb.js
 t:List (Int×Pg.Ent)
noncomputable abbrev di:=List (Int×TD)
noncomputable def fR (x:TD):V:=.ref x.p
noncomputable def yq:Pg.Ent->List V
 |none=>[.str "blank"]
 |some k=>[.str "sheet",.int k]
noncomputable def TD.eI (x:TD):Addr->Prop:=Tb.eI x.fs x.tb
structure dq (CT:Addr) (H:Hp) (x:TD):Prop where
 at_:Tb.TabAt CT H x.p x.fs x.tb
 nd:(x.t.map (·.1)).Nodup
 lk:∀q,Tb.de x.tb q=(Tb.look x.t q).map yq
noncomputable def ue (t:List (Int×Pg.Ent)):List Pg.Ent:=t.map (·.2)
noncomputable def ents (W:di):List Pg.Ent:=W.flatMap λx=>ue x.2.t
theorem kN {W:di}{t:Int}{x:TD}(G:(W.map (·.1)).Nodup) (h:Tb.look W t=some x):(ents W).Perm (ue x.t++ents (Tb.bf W t)):=(Tb.kg G h).flatMap_right _
theorem gY {W:di}{t:Int}{x y:TD}(G:(W.map (·.1)).Nodup) (h:Tb.look W t=some x):(ents (Tb.aW W t y)).Perm (ue y.t++ents (Tb.bf W t)):=by
 have:=kN (W:=Tb.aW W t y) (t:=t) (x:=y) (by rw[Tb.fm];show G) (by rw[Tb.bM t h,Tz rfl])
 rwa [Tb.xr]at this
theorem tj {t:List (Int×Pg.Ent)}{q:Int}{e:Pg.Ent}(G:(t.map (·.1)).Nodup) (h:Tb.look t q=some e):(ue t).Perm (e::ue (Tb.bf t q)):=(Tb.kg G h).map _
noncomputable def eQ (pg:Addr) (t:Int) (rd:Addr):List (Str×V):=bo "rooms" (.ref rd) (bo "total" (.int t) (bo "paging" (.ref pg) []))
section
variable (pg:Addr) (t:Int) (rd:Addr)
theorem fP:(eQ pg t rd).lookup ("rooms" : Str)=some (.ref rd):=by
 unfold eQ;rw[aG,Tz rfl]
theorem G8:(eQ pg t rd).lookup ("total" : Str)=some (.int t):=by
 unfold eQ;rw[aG,Tx ao,aG,Tz rfl]
theorem kW:(eQ pg t rd).lookup ("paging" : Str)=some (.ref pg):=by
 unfold eQ;rw[aG,Tx ao,aG,Tx ao,aG,Tz rfl]
theorem fA {m:Str}(h1:¬ m = "rooms") (h2:¬ m = "total") (G:¬ m = "paging"):(eQ pg t rd).lookup m=none:=by
 unfold eQ;rw[aG,Tx h1,aG,Tx h2,aG,Tx G]
 all_goals rfl
end
noncomputable def bH (s:Pg.PS):Int:=((s.ow true).length+(s.ow false).length:Nat)
theorem vk {s s':Pg.PS}(h:∀b,(s'.ow b).length=(s.ow b).length):bH s'=bH s:=by
 unfold bH;rw[h,h]
structure CA where
 C:Addr
 P:Addr
 S:Addr
 T:Addr
structure RA where
 A:PA
 rp:Addr
 rd:Addr
structure ay (c:CA) (H:Hp) (M:Addr->Prop) (a:RA) (s:Pg.PS) (W:di):Prop where
 ob:∃dx,H a.rp=some (.ins c.C dx (eQ a.A.pg (bH s) a.rd))
 pg:bN c.P c.S H M a.A s
 ok:a.A.Ok M
 mt:∀b,M b->H b≠none
 hd:H a.rd=some (.dK (Tb.dk fR W))
 nd:(W.map (·.1)).Nodup
 tb:∀x∈W,dq c.T H x.2
 dm:∀x∈W,∀b,x.2.eI b->M b/\¬ a.A.own b/\b≠a.rd
 np:∀x∈W,¬ a.A.own x.2.p
 dj:∀x∈W,∀y∈W,x.1≠y.1->∀b,x.2.eI b->¬ y.2.eI b
 Dv:M a.rd
 BC:¬ a.A.own a.rd
 yW:¬ a.A.own a.rp
noncomputable def RA.own (a:RA) (W:di):Addr->Prop:=λb=>a.A.own b\/b=a.rd\/∃x∈W,x.2.eI b
structure Step (H:Hp) (M O:Addr->Prop) (H':Hp) (M' O':Addr->Prop):Prop where
 off:Off O H H'
 mm:∀b,M b->¬ O b->M' b
 mn:∀b,M' b->M b\/H b=none
 on:∀b,O' b->O b\/H b=none
 mt:∀b,M b->H b≠none
 om:∀b,O b->M b
theorem Step.gone {H H':Hp}{M O M' G:Addr->Prop}(a:Step H M O H' M' G) {b:Addr}(h:H' b=none):O b\/H b=none:=by
 cases e:H b with
 |none=>show .inr rfl
 |some u =>
  by_cases z:O b
  .show .inl z
  .rw[a.off b u e z]at h;cases h
theorem Step.trans {H H' L:Hp}{M O M' J G I:Addr->Prop}(a:Step H M O H' M' J) (b:Step H' M' J L G I):Step H M O L G I:=by
 show#[λx o e z=>b.off x o (a.off x o e z) λy=>?_,λx h z=>b.mm x (a.mm x h z) λy=>?_,λx h=>?_,λx h=>?_,a.mt,a.om]
 .rcases a.on x y with y|y
  .show z y
  .rw[e]at y;cases y
 .rcases a.on x y with y|y
  .show z y
  .show a.mt x h y
 .rcases b.mn x h with h|h
  .show a.mn x h
  .rcases a.gone h with h|h
   .show .inl (a.om x h)
   .show .inr h
 .rcases b.on x h with h|h
  .show a.on x h
  .show a.gone h
theorem dP.grow {M M':Addr->Prop}{H:Hp}(h:∀b,M' b->M b\/H b=none):∀{v:V}{x:Option (List Int)},dP H M v x->dP H M' v x
 |.non,none,_=>trivial
 |.ref a,some ns,⟨h1,h2⟩=>#[λz=>(h a z).elim h1 λe=>(by rw[h2]at e;cases e),h2]
theorem aU.grow {C p ow co:Addr}{M M':Addr->Prop}{os:List Int}{pg:List (Option (List Int))}{H:Hp}(S:aU C H M p ow co os pg) (h:∀b,M' b->M b\/H b=none):aU C H M' p ow co os pg:=by
 let#[h1,G,cs,J,I]:=S;show#[h1,G,cs,J,Paired.Ah I λ_ _ z=>z.grow h]
section
variable {A:PA}{M M' B:Addr->Prop}{H H':Hp}
theorem bN.iS {C CS:Addr}{s:Pg.PS}(G:bN C CS H M A s):∀b xs,H b=some (.tup xs)->¬ A.own b:=by
 intro b xs e y;let#[dx,h1]:=G.ob;let#[_,J,_]:=G.fr.hc;let#[_,L,_]:=G.sl.hc;let#[_,O,_]:=G.pd;have I:=G.fr.hw;have N:=G.sl.hw;have R:=G.il;unfold PA.own at y;simp only[BY,DD,or_false]at y;rcases y with y|y|y|y|y|y|y<;>rw[y]at e
 .rw[h1]at e;cases e
 .rw[I]at e;cases e
 .rw[J]at e;cases e
 .rw[N]at e;cases e
 .rw[L]at e;cases e
 .rw[O]at e;cases e
 .rw[R]at e;cases e
theorem aU.less {C p ow co:Addr}{M M':Addr->Prop}{os:List Int}{pg:List (Option (List Int))}{H:Hp}(S:aU C H M p ow co os pg) (h:∀b,M' b->M b):aU C H M' p ow co os pg:=S.grow λb z=>.inl (h b z)
theorem bN.move {C CS:Addr}{s:Pg.PS}(G:bN C CS H M A s) (o:Off B H H') (N:∀b,B b->M b) (O:∀b,M' b->M b\/H b=none) (I:∀b,A.own b->¬ B b) (U:¬ B A.fp) (n2:¬ B A.sp) (R:∀b xs,H b=some (.tup xs)->¬ B b):bN C CS H' M' A s:=by
 let#[dx,h1]:=G.ob;let#[l,hd,S,J,hl,Y]:=G.pd;show#[#[dx,o _ _ h1 (I _ (PA.eT 0 rfl))],((G.fr.grow (M':=λb=>M b\/M' b) λb z=>z.elim .inl (O b)).off o (λb z=>.inl (N b z)) U (I _ (PA.eT 1 rfl)) (I _ (PA.eT 2 rfl))).less λb z=>.inr z,
  ((G.sl.grow (M':=λb=>M b\/M' b) λb z=>z.elim .inl (O b)).off o (λb z=>.inl (N b z)) n2 (I _ (PA.eT 3 rfl)) (I _ (PA.eT 4 rfl))).less λb z=>.inr z,o _ _ G.il (I _ (PA.eT 6 rfl)),G.le,
  #[l,o _ _ hd (I _ (PA.eT 5 rfl)),S,λx L=>o _ _ (J x L) (R _ _ (J x L)),hl,Y]]
end
section
variable {c:CA}{H H':Hp}{M M' B:Addr->Prop}{a:RA}{s s':Pg.PS}{W:di}{t:Int}{x y:TD}
theorem ay.Iw {es:List Pg.Ent}(R:ay c H M a s W) (G:Pg.RI s es):HW c.P c.S H M a.A s:=#[R.pg,R.ok,R.mt,G.good,G.ne,G.cb R.pg.le,G.l0]
theorem dq.off (T:dq c.T H x) (o:Off B H H') (I:¬ B x.p) (G:∀b,x.eI b->¬ B b) (J:∀b xs,H b=some (.tup xs)->¬ B b):dq c.T H' x:=#[T.at_.off o I G J,T.nd,T.lk]
theorem ay.j7 (R:ay c H M a s W) (G:bN c.P c.S H' M a.A s') (o:Off a.A.own H H') (J:∀b,(s'.ow b).length=(s.ow b).length):ay c H' M a s' W:=by
 let#[dx,h1]:=R.ob;show#[#[dx,by rw[vk J];show o _ _ h1 R.yW],G,R.ok,G.alive o R.mt,o _ _ R.hd R.BC,R.nd,λx I=>(R.tb x I).off o (R.np x I) (λb z=>(R.dm x I b z).2.1) R.pg.iS,R.dm,R.np,R.dj,R.Dv,R.BC,R.yW]
theorem ay.dw (R:ay c H M a s W):∀b,a.own W b->M b:=λb h=>by
 rcases h with h|h|⟨x,G,h⟩
 .show R.ok.own b h
 .rw[h];show R.Dv
 .show(R.dm x G b h).1
theorem ay.refl (R:ay c H M a s W):Step H M (a.own W) H M (a.own W):=#[λ_ _ e _=>e,λ_ h _=>h,λ_ h=>.inl h,λ_ h=>.inl h,R.mt,R.dw]
theorem ay.iy (R:ay c H M a s W) (e:aZ H H'):Step H M (a.own W) H' M (a.own W):=#[λb o h _=>e b o h,λ_ h _=>h,λ_ h=>.inl h,λ_ h=>.inl h,R.mt,R.dw]
theorem ay.Gy (R:ay c H M a s W) (G:bN c.P c.S H' M a.A s') (o:Off a.A.own H H'):Step H M (a.own W) H' M (a.own W):=
 #[o.mono λ_ z=>.inl z,λ_ h _=>h,λ_ h=>.inl h,λ_ h=>.inl h,R.mt,R.dw]
theorem ay.same (R:ay c H M a s W) (e:aZ H H'):ay c H' M a s W:=by
 let#[dx,h1]:=R.ob;show#[#[dx,e _ _ h1],R.pg.keep (λb o h _=>e b o h),R.ok,λb I z=>?_,e _ _ R.hd,R.nd,λx G=>#[(R.tb x G).at_.same e,(R.tb x G).nd,(R.tb x G).lk],R.dm,R.np,R.dj,R.Dv,R.BC,R.yW];cases h:H b with
 |none=>show R.mt b I h
 |some o=>rw[e b o h]at z;cases z
theorem ay.BJ (R:ay c H M a s W) (o:Off B H H') (G:∀b,B b->M b/\¬ a.own W b) (U:∀b,B b->(∃xs,H b=some (.lst xs))\/∃kvs,H b=some (.dK kvs)) (Y:∀b,M' b->M b\/H b=none) (L:∀b,M b->¬ B b->M' b) (mt:∀b,M' b->H' b≠none):ay c H' M' a s W:=by
 let#[dx,h1]:=R.ob;have J:∀{b C dx fs},H b=some (.ins C dx fs)->¬ B b:=λe z=>by
  rcases U _ z with⟨_,h⟩|⟨_,h⟩
  .rw[e]at h;cases h
  .rw[e]at h;cases h
 have O:∀b xs,H b=some (.tup xs)->¬ B b:=λb xs e z=>by
  rcases U _ z with⟨_,h⟩|⟨_,h⟩
  .rw[e]at h;cases h
  .rw[e]at h;cases h
 let#[ac,N]:=R.pg.fr.ob;let#[am,S]:=R.pg.sl.ob;show#[#[dx,o _ _ h1 (J h1)],R.pg.move o (λb z=>(G b z).1) Y (λb z y=>(G b y).2 (.inl z)) (J N) (J S) O,#[R.ok.ds,λb z=>L b (R.ok.mm b z) λq=>?_],mt,o _ _ R.hd (λz=>(G _ z).2 (.inr (.inl rfl))),R.nd,λx I=>?_,λx I b z=>#[L b (R.dm x I b z).1 λq=>(G b q).2 (.inr (.inr #[x,I,z])),(R.dm x I b z).2],R.np,R.dj,L _ R.Dv (λz=>(G _ z).2 (.inr (.inl rfl))),R.BC,R.yW]
 .simp only[BY,DD,or_false]at z;rcases z with z|z|z|z|z|z|z|z|z<;>rw[z]at q
  .show(G _ q).2 (.inl (PA.eT 0 rfl))
  .show J N q
  .show(G _ q).2 (.inl (PA.eT 1 rfl))
  .show(G _ q).2 (.inl (PA.eT 2 rfl))
  .show J S q
  .show(G _ q).2 (.inl (PA.eT 3 rfl))
  .show(G _ q).2 (.inl (PA.eT 4 rfl))
  .show(G _ q).2 (.inl (PA.eT 5 rfl))
  .show(G _ q).2 (.inl (PA.eT 6 rfl))
 .let#[ab,h3]:=(R.tb x I).at_.ob;show(R.tb x I).off o (J h3) (λb z y=>(G b y).2 (.inr (.inr #[x,I,z]))) O
theorem ay.uH (R:ay c H M a s W) (hx:Tb.look W t=some x) (ep:y.p=x.p) (T:dq c.T H' y) (o:Off x.eI H H') (hn:∀b,y.eI b->x.eI b\/H b=none):ay c H' (λb=>(M b/\¬ x.eI b)\/y.eI b) a s (Tb.aW W t y):=by
 have N:=Tb.az hx;have X:=R.tb _ N;have dK:∀{b},x.eI b->∃kvs,H b=some (.dK kvs):=λz=>X.at_.dK z;have J:=R.dm _ N;have O:∀{b C dx fs},H b=some (.ins C dx fs)->¬ x.eI b:=λe z=>by
  let#[_,h]:=dK z;rw[e]at h;cases h
 have nt:∀b xs,H b=some (.tup xs)->¬ x.eI b:=λb xs e z=>by
  let#[_,h]:=dK z;rw[e]at h;cases h
 let#[dx,h1]:=R.ob;let#[aT,f1]:=R.pg.fr.ob;let#[a0,f2]:=R.pg.sl.ob;have hM:∀b,(M b/\¬ x.eI b)\/y.eI b->M b\/H b=none:=λb z=>z.elim (λz=>.inl z.1) λz=>(hn b z).elim (λz=>.inl (J b z).1) .inr;show#[#[dx,o _ _ h1 (O h1)],R.pg.move o (λb z=>(J b z).1) hM (λb z y=>(J b y).2.1 z) (O f1) (O f2) nt,#[R.ok.ds,λb z=>.inl #[R.ok.mm b z,λq=>?_]],λb z e=>?_,?_,by rw[Tb.fm];show R.nd,λI G=>?_,λI G b z=>?_,λI G=>?_,λx1 Y x2 ab ac b L U=>?_,.inl #[R.Dv,λq=>(J _ q).2.2 rfl],R.BC,R.yW]
 .simp only[BY,DD,or_false]at z;rcases z with z|z|z|z|z|z|z|z|z<;>rw[z]at q
  .show(J _ q).2.1 (PA.eT 0 rfl)
  .show O f1 q
  .show(J _ q).2.1 (PA.eT 1 rfl)
  .show(J _ q).2.1 (PA.eT 2 rfl)
  .show O f2 q
  .show(J _ q).2.1 (PA.eT 3 rfl)
  .show(J _ q).2.1 (PA.eT 4 rfl)
  .show(J _ q).2.1 (PA.eT 5 rfl)
  .show(J _ q).2.1 (PA.eT 6 rfl)
 .rcases z with z|z
  .cases e2:H b with
   |none=>show R.mt b z.1 e2
   |some u=>rw[o b u e2 z.2]at e;cases e
  .let#[_,h]:=T.at_.dK z;rw[e]at h;cases h
 .rw[Tb.qA R.nd hx (show V.ref y.p=V.ref x.p by rw[ep])];show o _ _ R.hd λz=>(J _ z).2.2 rfl
 .rcases Tb.mem_set G with rfl|⟨G,S⟩
  .show T
  .let#[aB,h3]:=(R.tb I G).at_.ob;show(R.tb I G).off o (O h3) (λb z z'=>R.dj I G _ N S b z z') nt
 .rcases Tb.mem_set G with rfl|⟨G,S⟩
  .show#[.inr z,?_];rcases hn b z with z|z
   .show(J b z).2
   .show#[λq=>R.mt b (R.ok.own b q) z,λq=>by rw[q,R.hd]at z;cases z]
  .show#[.inl #[(R.dm I G b z).1,λq=>R.dj I G _ N S b z q],(R.dm I G b z).2]
 .rcases Tb.mem_set G with rfl|⟨G,S⟩
  .change ¬ a.A.own y.p;rw[ep];show R.np _ N
  .show R.np I G
 .have am:∀I∈W,I.1≠t->∀b,I.2.eI b->¬ y.eI b:=λI G S b L U=>by
   rcases hn b U with z|z
   .show R.dj I G _ N S b L z
   .let#[_,h]:=(R.tb I G).at_.dK L;rw[z]at h;cases h
  rcases Tb.mem_set Y with rfl|⟨Y,as⟩<;>rcases Tb.mem_set ab with rfl|⟨ab,ap⟩
  .show ac rfl
  .show am x2 ab ap b U L
  .show am x1 Y as b L U
  .show R.dj x1 Y x2 ab ac b L U
theorem ay.qf (R:ay c H M a s W) (L:Tb.look W t=some x) (o:Off x.eI H H') (J:∀b,y.eI b->x.eI b\/H b=none):Step H M (a.own W) H' (λb=>(M b/\¬ x.eI b)\/y.eI b) (a.own (Tb.aW W t y)):=by
 have G:=Tb.az L;show#[o.mono λb z=>.inr (.inr #[_,G,z]),λb z q=>.inl #[z,λw=>q (.inr (.inr #[_,G,w]))],λb z=>z.elim (λz=>.inl z.1) λz=>(J b z).elim (λz=>.inl (R.dm _ G b z).1) .inr,λb z=>?_,R.mt,R.dw];rcases z with z|z|⟨N,I,z⟩
 .show .inl (.inl z)
 .show .inl (.inr (.inl z))
 .rcases Tb.mem_set I with rfl|⟨I,O⟩
  .show(J b z).elim (λz=>.inl (.inr (.inr #[_,G,z]))) .inr
  .show .inl (.inr (.inr #[N,I,z]))
theorem ay.Hy (R:ay c H M a s W) {W':di}(N:(W'.map (·.1)).Nodup) (tb:∀x∈W',dq c.T H x.2) (L:∀x∈W',∀b,x.2.eI b->M b/\¬ a.A.own b/\b≠a.rd) (np:∀x∈W',¬ a.A.own x.2.p) (O:∀x∈W',∀y∈W',x.1≠y.1->∀b,x.2.eI b->¬ y.2.eI b) :
  ay c (upd H a.rd (.dK (Tb.dk fR W'))) M a s W':=by
 have o:Off (· = a.rd) H (upd H a.rd (.dK (Tb.dk fR W'))):=λb o e z=>(by rw[ah z];show e);have G:∀{b C dx fs},H b=some (.ins C dx fs)->¬ b=a.rd:=λe z=>(by rw[z,R.hd]at e;cases e);have J:∀b xs,H b=some (.tup xs)->¬ b=a.rd:=λb xs e z=>(by rw[z,R.hd]at e;cases e);have al:∀b,upd H a.rd (.dK (Tb.dk fR W')) b=none->H b=none:=λb e=>by
  by_cases z:b=a.rd
  .rw[z,ae]at e;cases e
  .rw[ah z]at e;show e
 let#[dx,h1]:=R.ob;let#[ac,Y]:=R.pg.fr.ob;let#[am,S]:=R.pg.sl.ob;show#[#[dx,o _ _ h1 (G h1)],R.pg.move o (λb z=>by rw[z];show R.Dv) (λb z=>.inl z) (λb z y=>R.BC (y▸z)) (G Y) (G S) J,R.ok,λb U e=>R.mt b U (al b e),ae,N,λx I=>?_,L,np,O,R.Dv,R.BC,R.yW];let#[ab,h3]:=(tb x I).at_.ob;show(tb x I).off o (G h3) (λb z y=>(L x I b z).2.2 y) J
theorem ay.zN (R:ay c H M a s W) (U:Tb.look W t=none) (T:dq c.T H y) (I:∀b,y.eI b->M b/\¬ a.own W b) (np:¬ a.A.own y.p):ay c (upd H a.rd (.dK (Tb.dk fR (W++[(t,y)])))) M a s (W++[(t,y)]):=by
 show R.Hy ?_ (λx G=>?_) (λx G=>?_) (λx G=>?_) (λN h1 O h2 S b J L=>?_)
 .rw[DO];show fJ R.nd (Tb.cf U)
 .rcases n7.mp G with G|G
  .show R.tb x G
  .rw[nq.mp G];show T
 .rcases n7.mp G with G|G
  .show R.dm x G
  .rw[nq.mp G];show λb z=>#[(I b z).1,λq=>(I b z).2 (.inl q),λq=>(I b z).2 (.inr (.inl q))]
 .rcases n7.mp G with G|G
  .show R.np x G
  .rw[nq.mp G];show np
 .rcases n7.mp h1 with h1|h1<;>rcases n7.mp h2 with h2|h2
  .show R.dj N h1 O h2 S b J L
  .rw[nq.mp h2]at L;show(I b L).2 (.inr (.inr #[N,h1,J]))
  .rw[nq.mp h1]at J;show(I b J).2 (.inr (.inr #[O,h2,L]))
  .show S (by rw[nq.mp h1,nq.mp h2])
theorem ay.FD (R:ay c H M a s W) (t:Int):ay c (upd H a.rd (.dK (Tb.dk fR (Tb.bf W t)))) M a s (Tb.bf W t):=
 R.Hy (Tb.ma R.nd) (λx G=>R.tb x (Tb.b9 G).1) (λx G=>R.dm x (Tb.b9 G).1) (λx G=>R.np x (Tb.b9 G).1) (λx G y I=>R.dj x (Tb.b9 G).1 y (Tb.b9 I).1)
end
end St
namespace Pg
variable {s s' s1 s2 s3:PS}{k c:Int}{cs:List Int}
noncomputable def Up (s s':PS):Prop:=∀j p,s'.pl j=some p->s.pl j=some p
theorem Up.refl:Up s s:=λ_ _ h=>h
theorem Up.trans (a:Up s1 s2) (b:Up s2 s3):Up s1 s3:=λj p h=>a j p (b j p h)
theorem F3 (h:BK s k s'):Up s s':=λj p e=>by
 cases h with
 |more _ _ _=>show e
 |last _ _ =>
  by_cases z:j=k
  .rw[z]at e;have:(none:Option (Bool×Nat))=some p:=(bj (f:=s.pl)).symm.trans e;cases this
  .show(aJ (f:=s.pl) z).symm.trans e
noncomputable def KB (s s':PS):Prop:=(0:Int)∈s'.ow true->(0:Int)∈s.ow true/\∀j,(∃m,s.pl j=some (true,m))->∃m,s'.pl j=some (true,m)
theorem KB.refl:KB s s:=λh=>#[h,λ_ h=>h]
theorem KB.trans (a:KB s1 s2) (b:KB s2 s3):KB s1 s3:=λh=>by
 let#[h2,I]:=b h;let#[h1,G]:=a h2;show#[h1,λj z=>I j (G j z)]
theorem Kept.kb (h:Kept s s' k) (f:∃m,s'.pl k=some (true,m)):KB s s':=λz=>by
 let#[h1,h2]:=h.fr z;show#[h1,λj y=>?_];by_cases e:j=k
 .rw[e];show f
 .let#[m,G]:=y;show#[m,h2 j m e G]
theorem Gg (G:Good s) (h:FE s k s'):KB s s':=(kZ G h).kept.kb (kZ G h).fr
end Pg
namespace L2
open PySem PySem.Spec PyProof.Rows
noncomputable def JW (K:iF):R2:=λx y H Q=>∃p q xs ys,x=.ref p/\y=.ref q/\bL K H p xs/\bL K H q ys/\xs.all dC=true/\ys.all dC=true/\Q (.bl (!gS xs ys)) H
section
variable {X:Cx}
theorem ur (hu:X.A.units<NQ):k6 X (LY .NotEq) (JW X.K):=by
 intro pins s σ H x y v u Q I rx ry h;let#[p,q,xs,ys,rfl,rfl,hx,hy,fx,fy,Y]:=h;cases rx;cases ry;let#[its,r,pl,hz]:=I.tuple hx;let#[L,N,U,am]:=I.tuple hy;have hl:=r.length;have O:=N.length;show Sv (e:=λj=>kE (xs.getD j .non) (ys.getD j .non)) pl U hu (λj h1 h2=>?_) _ _ _ _ #[.bl (!gS xs ys),H,I,?_,Y]
 .rw[pq]at h1 h2;have G:j<xs.length:=af;have J:j<ys.length:=af;let#[a,ea,ra]:=r.get (i:=j) (x:=xs[j]) (by simp[G]);let#[b,eb,S]:=N.get (i:=j) (x:=ys[j]) (by simp[J]);let#[_,ab]:=kz.mp ea;let#[_,ac]:=kz.mp eb;have g1:xs.getD j .non=xs[j]:=(by simp[G]);have g2:ys.getD j .non=ys[j]:=(by simp[J]);change OG _ _ its.toArray[j] L.toArray[j] (kE (xs.getD j .non) (ys.getD j .non));have a1:its.toArray[j]=a:=(by simpa using ab);have R:L.toArray[j]=b:=(by simpa using ac);rw[g1,g2,a1,R];show nY ra S (Lf.mp fx _ (L4 G)) (Lf.mp fy _ (L4 J))
 .change Value.bool _=Value.bool _;rw[pq,pq, <-hl, <-O,pJ]
end
end L2
namespace St
open PySem L2
noncomputable abbrev qU:K4:=top 17
noncomputable abbrev rC:K4:=top 18
noncomputable abbrev u3:K4:=top 19
noncomputable abbrev qe:K4:=inClass (top 33) 1
noncomputable abbrev qK:K4:=inClass (top 33) 2
noncomputable abbrev As:K4:=inClass (top 33) 3
noncomputable abbrev vy:K4:=inClass (top 33) 4
noncomputable abbrev u4:K4:=inClass (top 33) 5
noncomputable abbrev wk:K4:=inClass (top 33) 6
noncomputable abbrev uq:K4:=inClass (top 33) 7
noncomputable abbrev vi:K4:=inClass (top 33) 8
noncomputable abbrev qr:K4:=inClass (top 33) 9
noncomputable abbrev qm:K4:=inClass (top 33) 11
noncomputable abbrev qx:K4:=inClass (top 33) 12
noncomputable abbrev rK:K4:=inClass (top 33) 13
structure oQ (K:iF) (mg:Str->Option Value) (c:CA):Prop where
 cl:sg K c.C
 nP:c6 K c.C "paging"
 nT:c6 K c.C "total"
 nR:c6 K c.C "rooms"
 bl:∃aB,mg "BLANK" = some (.ref aB)/\bL K (λ_=>none) aB [.str "blank"]
 pc:∃u,mg "PAGE_CELLS" = some u/\RelV (.int 8) u
 len:mg "len" = none
 sum:mg "sum" = none
 zip:mg "zip" = none
noncomputable def Cv (s:Pg.PS) (W:di) (cv:Int->Int->List Int):Prop:=∀t x,Tb.look W t=some x->∀q e,Tb.look x.t q=some e->Pg.xM s e (cv t q)
theorem jP {W:di}{t q:Int}{x:TD}{e:Pg.Ent}(G:Tb.look W t=some x) (I:Tb.look x.t q=some e):e∈ents W :=
 Ob.mpr #[(t,x),Tb.az G,rr.mpr #[(q,e),Tb.az I,rfl]]
theorem Cv.next {s s':Pg.PS}{W W':di}{cv:Int->Int->List Int}(h:Cv s W cv) (hs:Pg.aZ (ents W') s s') (L:∀t G,Tb.look W' t=some G->∃x,Tb.look W t=some x/\∀q e,Tb.look G.t q=some e->Tb.look x.t q=some e):Cv s' W' cv:=by
 intro t G I q e J;let#[x,h1,h2]:=L t G I;show hs e (jP I J) _ (h t x h1 q e (h2 q e J))
theorem Cv.keep {s s':Pg.PS}{W:di}{cv:Int->Int->List Int}(h:Cv s W cv) (hs:Pg.aZ (ents W) s s'):Cv s' W cv:=h.next hs λt x G=>#[x,G,λ_ _ e=>e]
theorem iE {W:di}{t:Int}{x y:TD}(h:Tb.look W t=some x):Tb.look (Tb.aW W t y) t=some y:=by rw[Tb.bM t h,Tz rfl]
theorem set_set {W:di}{t:Int}{x y:TD}:Tb.aW (Tb.aW W t x) t y=Tb.aW W t y:=by
 unfold Tb.aW;rw[Mb];show Mp λz _=>?_;change(if (if z.1=t then(t,x)else z).1=t then(t,y)else(if z.1=t then(t,x)else z))=if z.1=t then(t,y)else z
 by_cases c:z.1=t
 .rw[Tz c,Tz rfl,Tz c]
 .simp only[Tx c]
theorem cM {W:di}{t:Int}{x:TD}(I:(W.map (·.1)).Nodup) (h:Tb.look W t=some x):Tb.aW W t x=W:=by
 unfold Tb.aW
 conv=>rhs;rw[<-Tn W]
 show Mp λz G=>?_;change(if z.1=t then(t,x)else z)=z;by_cases c:z.1=t
 .have:=Tb.bJ I G;rw[c,h]at this;rw[Tz c,rn this, <-c]
 .rw[Tx c]
theorem yR {W:di}{t q:Int}{x y:TD}{e:Pg.Ent}(G:(W.map (·.1)).Nodup) (I:Tb.look W t=some x) (nx:(x.t.map (·.1)).Nodup) (L:Tb.look x.t q=some e) (J:y.t=Tb.bf x.t q):(ents W).Perm (e::ents (Tb.aW W t y)):=by
 show(kN G I).trans (((tj nx L).append_right _).trans ?_);rw[<-J];show((gY G I).symm).cons e
theorem Av {W:di}{t q:Int}{x y:TD}{e:Pg.Ent}(I:(W.map (·.1)).Nodup) (J:Tb.look W t=some x) (G:y.t=(q,e)::Tb.bf x.t q):(ents (Tb.aW W t y)).Perm (e::(ue (Tb.bf x.t q)++ents (Tb.bf W t))):=by
 show(gY I J).trans ?_;rw[G];show List.Perm.refl _
theorem dq.mem {c:CA}{H:Hp}{x:TD}(T:dq c.T H x) {ns:List Int}(p:ns.Perm (Tb.fV x.tb)) (q:Int):q∈ns↔Tb.look x.t q≠none:=by
 rw[p.mem_iff,Tb.tU T.at_,T.lk];cases Tb.look x.t q<;>simp
theorem dq.pg {c:CA}{H:Hp}{x:TD}(T:dq c.T H x) {q:Int}(h:Tb.look x.t q≠none):0<=q/\q<64:=T.at_.xv (by
 rw[T.lk];cases e:Tb.look x.t q with
 |none=>show absurd e h
 |some _=>simp)
inductive dQ (vs:List V) (H:Hp) (Q:VK) (e3:XK):Prop
 |mk (a:Addr) (W:di) (t:Int) (x:TD) (_:vs=[.ref a,.int t]) (_:H a=some (.dK (Tb.dk fR W))) (_:Tb.look W t=some x) (_:Q (.ref x.p) H):dQ vs H Q e3
inductive jD (vs:List V) (H:Hp) (Q:VK) (e3:XK):Prop
 |mk (a:Addr) (W:di) (t:Int) (_:vs=[.ref a,.int t]) (_:H a=some (.dK (Tb.dk fR W))) (_:Tb.look W t=none) (_:Q .non H):jD vs H Q e3
inductive lP (vs:List V) (H:Hp) (Q:VK) (e3:XK):Prop
 |mk (h t:Int) (_:vs=[.int h,.int t]) (_:¬ t<h) (_:Q .non H):lP vs H Q e3
inductive eX (c:CA) (vs:List V) (H:Hp) (Q:VK) (e3:XK):Prop
 |mk (M:Addr->Prop) (a:RA) (s:Pg.PS) (W:di) (cv:Int->Int->List Int) (t:Int) (x:TD) (lp:Addr) (ps:List Int) (_:vs=[.ref a.rp,.ref x.p,.ref lp]) (_:ay c H M a s W) (_:Pg.RI s (ents W)) (_:Cv s W cv) (_:Tb.look W t=some x) (_:H lp=some (.lst (ps.map V.int))) (_:¬ M lp) (_:ps.Nodup) (_:(∀q∈ps,Tb.look x.t q≠none)) (_:∀(H':Hp) (M':Addr->Prop) (s':Pg.PS) (y:TD),ay c H' M' a s' (Tb.aW W t y)->Pg.RI s' (ents (Tb.aW W t y))->Cv s' (Tb.aW W t y) cv->(∀q,Tb.look y.t q=if q∈ps then none else Tb.look x.t q)->Step H M (a.own W) H' M' (a.own (Tb.aW W t y))->((∀b,(s'.ow b).length=(s.ow b).length)/\Pg.Up s s')->Q .non H'):eX c vs H Q e3
inductive vm (c:CA) (vs:List V) (H:Hp) (Q:VK) (e3:XK):Prop
 |mk (M:Addr->Prop) (a:RA) (s:Pg.PS) (W:di) (cv:Int->Int->List Int) (t p m:Int) (x:TD) (_:vs=[.ref a.rp,.int t,.int p,.int m]) (_:ay c H M a s W) (_:Pg.RI s (ents W)) (_:Cv s W cv) (_:Tb.look W t=some x) (_:¬ Rm.cE p m) (_:(∀q∈Rm.aM p m,Tb.look x.t q≠none)) (_:∀(H':Hp) (M':Addr->Prop) (s':Pg.PS) (y:TD),ay c H' M' a s' (Tb.aW W t y)->Pg.RI s' (ents (Tb.aW W t y))->Cv s' (Tb.aW W t y) cv->(∀q,Tb.look y.t q=if q∈Rm.aM p m then none else Tb.look x.t q)->Step H M (a.own W) H' M' (a.own (Tb.aW W t y))->((∀b,(s'.ow b).length=(s.ow b).length)/\Pg.Up s s')->Q .non H'):vm c vs H Q e3
inductive mE (c:CA) (vs:List V) (H:Hp) (Q:VK) (e3:XK):Prop
 |mk (M:Addr->Prop) (a:RA) (s:Pg.PS) (W:di) (cv:Int->Int->List Int) (t:Int) (x:TD) (_:vs=[.ref a.rp,.int t]) (_:ay c H M a s W) (_:Pg.RI s (ents W)) (_:Cv s W cv) (_:Tb.look W t=some x) (_:∀(H':Hp) (M':Addr->Prop) (s':Pg.PS),ay c H' M' a s' (Tb.bf W t)->Pg.RI s' (ents (Tb.bf W t))->Cv s' (Tb.bf W t) cv->Step H M (a.own W) H' M' (a.own (Tb.bf W t))->((∀b,(s'.ow b).length=(s.ow b).length)/\Pg.Up s s')->Q .non H'):mE c vs H Q e3
inductive nH (c:CA) (vs:List V) (H:Hp) (Q:VK) (e3:XK):Prop
 |mk (M:Addr->Prop) (a:RA) (s:Pg.PS) (W:di) (t:Int) (_:vs=[.ref a.rp,.int t]) (_:ay c H M a s W) (_:Tb.look W t=none) (_:W.length<=1000) (_:∀(H':Hp) (M':Addr->Prop) (y:TD),y.t=[]->ay c H' M' a s (W++[(t,y)])->Step H M (a.own W) H' M' (a.own (W++[(t,y)]))->Q .non H'):nH c vs H Q e3
section
variable {P:rz}{w:C1}{K:iF}{mg:Str->Option Value}{base:Heap}
theorem fZ {α:Type}{f:α->V}{H:Hp}{a:Addr}{l:List (Int×α)}{t:Int}(h:H a=some (.dK (Tb.dk f l))):cZ H a (.int t) ((Tb.look l t).map f):=by
 have q:=cZ.k (k:=ti t) h;rw[Tb.cL]at q;show q
theorem Jp:aC ["rooms","task"] ["rooms","task"] (aw qU):=L2.bC
theorem yA {f:Addr}{fd:qj}(F:cI K "room_of" "room_of" qU f fd):a8 P w K mg base aV 1 f fd ["rooms","task"] dQ:=by
 show F.dh Jp (λN A outer s H vs Q E I h=>?_);let#[a,W,t,x,rfl,J,L,k]:=h;show#[_,(ag (aS (ja (gj (a9 I) (pv 1) (pv 0))) cY aF)
  (ak (aE (bh (a9 I) (pv 0) (pv 1) bW)))),?_]
 have G:=fZ (t:=t) J;rw[L]at G;show#[0,0,a,0,G,0,bX #[0,0,a,fR x,rfl,G,k]]
theorem J0:aC ["rooms","task"] ["rooms","task"] (aw rC):=L2.bC
theorem xJ {f:Addr}{fd:qj}(F:cI K "refuse_second_room" "refuse_second_room" rC f fd):a8 P w K mg base aV 1 f fd ["rooms","task"] jD:=by
 show F.dh J0 (λN A outer s H vs Q E I h=>?_);let#[a,W,t,rfl,J,L,k]:=h;show#[_,(ak (aS (ja (nX (a9 I) (pv 1) (pv 0))) cY aF)),?_];have G:=fZ (t:=t) J;rw[L]at G;show#[0,0,a,0,G,0,bX k]
theorem Jd:aC ["held","total"] ["held","total"] (aw u3):=L2.bC
theorem AG {f:Addr}{fd:qj}(F:cI K "refuse_above" "refuse_above" u3 f fd):a8 P w K mg base aV 1 f fd ["held","total"] lP:=by
 show F.dh Jd (λI A outer s H vs Q E J h=>?_);let#[h,t,rfl,G,k]:=h;show#[_,(ak (aS (aD gJ (pv 0) (pv 1) (aI _)) cY aF)),?_];show#[0,0,_,0,rfl,0,?_];show gR (λc=>absurd (of_decide_eq_true c) G) (λc=>k)
theorem EC:aC ["self","table","pages","page","entry"] ["self","table","pages"] (aw qm):=L2.bC
theorem oS {f:Addr}{fd:qj}{c:CA}(F:cI K "leave_pages" "Rooms.leave_pages" qm f fd) (T:oQ K mg c) (TT:Tb.Txt K mg c.T) (TP:ox K mg c.P) (GG:Md P w K mg base aV 3 c.T "get" (Tb.nV c.T)) (GK:Md P w K mg base aV 1 c.T "clear" (Tb.qq c.T)) (bm:Md P w K mg base aV 4 c.P "leave" (lI c.P c.S)):a8 P w K mg base aV 5 f fd ["self","table","pages"] (eX c):=by
 let#[aB,mB,sB]:=T.bl;have rB:RelV (.ref aB) (.ref aB):=rfl;show F.dh EC (λbY A outer s H vs Q E hr h=>?_);let#[M,a,s',W,cv,t,x,lp,ps,rfl,R,ri,bi,Y,a0,bv,a6,bI,q]:=h;show#[_,(ak (cG D3 rfl (fU (pv 2)) (gb 3 EC.nd) (ag (dr 4 EC.nd (pm (pv 1) TT.cl GG hr ax (aa (pv 3) ai)))
  (ag (aL (pm (pv 1) TT.cl GK hr ax (aa (pv 3) ai)))
  (ak (aS (aD (ur hr.ix) (pv 4) (cu (by rfl) mB rB) (aI _)) (ak (aL (pm (aK (pv 0) rfl) TP.cl bm hr ax (aa (aP aN (pv 4) aj bW) ai)))) aF)))))),?_]
 have bd:¬ a.own W lp:=λz=>bv (R.dw lp z);show#[0,lp,rfl,#[_,bA.of a0],?_];show fG (K:=K) (a:=lp) (xs:=ps.map V.int) (λi σ H2=>BF λ(v3 v4:Option V) (M2:Addr->Prop) (s2:Pg.PS) (y:TD)=>IQ (σ=[some (.ref a.rp),some (.ref y.p),some (.ref lp),v3,v4]) (ay c H2 M2 a s2 (Tb.aW W t y)) (Pg.RI s2 (ents (Tb.aW W t y))) (Cv s2 (Tb.aW W t y) cv) ((∀q,Tb.look y.t q=if q∈ps.take i then none else Tb.look x.t q)) (Step H M (a.own W) H2 M2 (a.own (Tb.aW W t y))) ((∀b,(s2.ow b).length=(s'.ow b).length)/\Pg.Up s' s2))
  #[2,M,s',x,rfl,by rw[cM R.nd Y];show R,by rw[cM R.nd Y];show ri,by rw[cM R.nd Y];show bi,λq=>by simp,by rw[cM R.nd Y];show R.refl,λ_=>rfl,Pg.Up.refl] (λi σ H2 _ z0=>by let#[_,_,_,_,_,_,_,_,_,_,st,_]:=z0;show bA.of (st.off _ _ a0 bd)) ?_ ?_
 .rintro i u σ H2 hu ⟨v3,v4,M2,s2,y,rfl,R2,as,ap,ac,aT,am⟩;rw[se]at hu;let#[p,hp,rfl]:=pf.mp hu;have bc:=vr hp;let#[hi,b0]:=kz.mp hp;have bq:¬ p∈ps.take i:=λz=>by
   let#[j,hj,e]:=LX z;rw[NY]at e;rw[HC]at hj;show nE a6 j i (tu af) hp af e
  have ab:=iE (y:=y) Y;obtain⟨e,he⟩:∃e,Tb.look y.t p=some e:=by
   rw[ac p,Tx bq];cases z:Tb.look x.t p with
   |none=>show absurd z (bI p bc)
   |some e=>show#[e,rfl]
  have T2:=R2.tb _ (Tb.az ab);let#[ba,ht]:=T2.at_.ob;show#[0,y.p,ba,0,ht,Tb.aY _ ao,0,y.p,y.fs,y.tb,p,rfl,T2.at_,λH3 v s3 N=>?_];rw[T2.lk,he]at N;let#[tt,rfl,a5]:=N;have R3:=R2.same s3;have T3:=R3.tb _ (Tb.az ab);let#[bz,bx]:=T3.at_.ob;show#[0,y.p,bz,0,bx,Tb.aY _ ao,0,y.p,y.fs,y.tb,p,rfl,T3.at_,λH4 I T4 l4 _ o4 n4=>?_];have bE:dq c.T H4 #[y.p,y.fs,I,Tb.bf y.t p]:=#[T4,Tb.ma T3.nd,λj=>by
   rw[l4 j,Tb.ck];by_cases z:j=p
   .rw[Tz z,Tz z];rfl
   .rw[Tx z,Tx z];show T3.lk j]
  have G:=R3.uH (y:=#[y.p,y.fs,I,Tb.bf y.t p]) ab rfl bE o4 n4;have S4:=aT.trans ((R2.iy s3).trans (R3.qf (y:=#[y.p,y.fs,I,Tb.bf y.t p]) ab o4 n4));have pe:=yR (y:=#[y.p,y.fs,I,Tb.bf y.t p]) R2.nd ab T2.nd he rfl;rw[set_set]at G S4 pe;have U:=as.perm pe;have a2:∀j,Tb.look (Tb.bf y.t p) j=if j∈ps.take (i+1)then none else Tb.look x.t j:=λj=>by
   rw[Tb.ck,ac j,LA,hp];by_cases z:j=p
   .rw[Tz z,Tz (by rw[z];simp)]
   .rw[Tx z];by_cases J:j∈ps.take i
    .rw[Tz J,Tz (LR _ J)]
    .rw[Tx J,Tx (by simp[z,J])]
  have a4:∀t' x',Tb.look (Tb.aW W t #[y.p,y.fs,I,Tb.bf y.t p]) t'=some x'->∃a1,Tb.look (Tb.aW W t y) t'=some a1/\∀q e,Tb.look x'.t q=some e->Tb.look a1.t q=some e:=by
   intro t' x' h';rw[Tb.bM t' Y]at h' ⊢;by_cases z:t'=t
   .rw[Tz z]at h' ⊢;cases h';show#[y,rfl,λq e O=>?_];have O:Tb.look (Tb.bf y.t p) q=some e:=O;rw[Tb.ck]at O;by_cases J:q=p
    .rw[Tz J]at O;cases O
    .rw[Tx J]at O;show O
   .rw[Tx z]at h' ⊢;show#[x',h',λ_ _ h=>h]
  have a7:¬ y.eI tt:=λz=>by
   let#[_,h]:=T3.at_.dK z;rw[a5]at h;cases h
  have a3:=o4 _ _ a5 a7;show#[0,tt,aB,_,0,rfl,bL.of a3,iW.sq (.inr sB),?_];cases e with
  |none =>
   show#[1,0,bX ?_];show#[2,_,s2,#[y.p,y.fs,I,Tb.bf y.t p],rfl,G,U.bare,ap.next Pg.aZ.refl a4,a2,S4,am]
  |some k =>
   show#[1,0,eL ?_];let#[be,bF]:=G.ob;let#[bn,bb]:=G.pg.ob;let#[cs,cc,N]:=U.is k La;show#[0,a.rp,c.C,be,_,0,bF,T.cl,T.nP,kW _ _ _,a.A.pg,bn,0,bb,cJ _ _ ao ao ao ao ao,0,tt,_,(1),0,rfl,bL.of a3,4,a.A,s2,k,cs,cc,rfl,G.pg,G.ok,G.mt,U.good,N,λH5 s5 le G5 O5=>?_];have L:=Pg.wV U.good N le;show#[2,_,s5,#[y.p,y.fs,I,Tb.bf y.t p],rfl,G.j7 G5 O5 L.ln,U.leave N le,ap.next (U.uD N le) a4,a2,S4.trans (G.Gy G5 O5),λb=>(L.ln b).trans (am.1 b),am.2.trans (Pg.F3 le)]
 .rintro σ H2 ⟨v3,v4,M2,s2,y,rfl,R2,as,ap,ac,aT,am⟩;rw[mu,LN]at ac;show q H2 M2 s2 y R2 as ap ac aT am
theorem HR:aC ["self","task","page","many","table"] ["self","task","page","many"] (aw vy):=L2.bC
theorem CZ {f:Addr}{fd:qj}{c:CA}(F:cI K "drop" "Rooms.drop" vy f fd) (T:oQ K mg c) (TT:Tb.Txt K mg c.T) (GR:Df P w K mg base aV 1 "room_of" dQ) (GD:Df P w K mg base aV 2 "pages_to_drop" Rm.mR) (a2:Md P w K mg base aV 1 c.T "pages" (Tb.ff c.T)) (aB:Md P w K mg base aV 5 c.C "leave_pages" (eX c)):a8 P w K mg base aV 6 f fd ["self","task","page","many"] (vm c):=by
 show F.dh HR (λa5 A outer s H vs Q E I h=>?_);let#[M,a,s',W,cv,t,p,m,x,rfl,R,ri,as,L,G,S,q]:=h;let#[dx,N]:=R.ob;have J:=R.tb _ (Tb.az L);let#[ap,ht]:=J.at_.ob;have b1:¬ m<1:=λz=>G (.inl z);have b2:¬ p<0:=λz=>G (.inr (.inl z));have b3:¬ 64<p+m:=λz=>G (.inr (.inr z));show#[_,(ag (dr 4 HR.nd (pc GR I ax (aa (aK (pv 0) rfl) (aa (pv 1) ai))))
  (ak (aL (pm (pv 0) T.cl aB I ax (aa (pv 4) (aa (pc GD I ax (aa (ug (pv 4) TT.cl a2 I ax) (aa (pv 2) (aa (pv 3) ai)))) ai)))))),?_]
 show#[0,a.rp,c.C,dx,_,0,N,T.cl,T.nR,fP _ _ _,0,a.rd,W,t,x,rfl,R.hd,L,?_];show#[0,a.rp,dx,0,N,fA _ _ _ ao ao ao,0,0,x.p,ap,0,ht,Tb.aY _ ao,x.p,x.fs,x.tb,rfl,J.at_,λH1 l1 ns s1 a6 a0 pm a7=>?_];show#[0,0,l1,ns,p,m,rfl,a0,G,λq hq=>(J.mem pm q).mpr (S q hq),λH2 U s2 a4 ab=>?_]
 .have O:=s1.trans s2;show#[M,a,s',W,cv,t,x,U,Rm.aM p m,rfl,R.same O,ri,as,L,ab,λz=>R.mt _ z (s1.free a4),?_,S,λH3 M3 s3 y R3 Y a1 a3 aT am=>q H3 M3 s3 y R3 Y a1 a3 ((R.iy O).trans aT) am];unfold Rm.aM;show Nn.mpr (Rt.imp ?_);intro i j ac e;show ac af
theorem Ha:aC ["self","task","table"] ["self","task"] (aw qK):=L2.bC
theorem xW {f:Addr}{fd:qj}{c:CA}(F:cI K "close" "Rooms.close" qK f fd) (T:oQ K mg c) (TT:Tb.Txt K mg c.T) (GR:Df P w K mg base aV 1 "room_of" dQ) (a5:Md P w K mg base aV 1 c.T "pages" (Tb.ff c.T)) (a0:Md P w K mg base aV 5 c.C "leave_pages" (eX c)):a8 P w K mg base aV 6 f fd ["self","task"] (mE c):=by
 show F.dh Ha (λa7 A outer s H vs Q E U h=>?_);let#[M,a,s',W,cv,t,x,rfl,R,ri,aT,I,q]:=h;let#[dx,Y]:=R.ob;have J:=R.tb _ (Tb.az I);let#[am,ht]:=J.at_.ob;show#[_,(ag (dr 2 Ha.nd (pc GR U ax (aa (aK (pv 0) rfl) (aa (pv 1) ai))))
  (ag (aL (pm (pv 0) T.cl a0 U ax (aa (pv 2) (aa (ug (pv 2) TT.cl a5 U ax) ai))))
  (ak (aL (eG (aK (pv 0) rfl) (pv 1) #[1,1]))))),?_]
 show#[0,a.rp,c.C,dx,_,0,Y,T.cl,T.nR,fP _ _ _,0,a.rd,W,t,x,rfl,R.hd,I,?_];show#[0,a.rp,dx,0,Y,fA _ _ _ ao ao ao,0,0,x.p,am,0,ht,Tb.aY _ ao,x.p,x.fs,x.tb,rfl,J.at_,λH1 l1 ns s1 a4 a2 pm ba=>?_];show#[M,a,s',W,cv,t,x,l1,ns,rfl,R.same s1,ri,aT,I,a2,λz=>R.mt _ z a4,pm.nodup_iff.mpr (Tb.jS J.at_),λq hq=>(J.mem pm q).mp hq,λH3 M3 s3 y G ab a3 a6 a1 ac=>?_];have aB:=iE (y:=y) I;have ey:y.t=[]:=by
  cases e:y.t with
  |nil=>rfl
  |cons z r =>
   exfalso;have h1:=a6 z.1;rw[e,Tb.aO,Tz rfl]at h1;by_cases O:z.1∈ns
   .rw[Tz O]at h1;cases h1
   .rw[Tx O]at h1;show O ((J.mem pm z.1).mpr (by rw[<-h1];simp))
 let#[ap,as]:=G.ob;show#[0,a.rp,c.C,ap,_,0,as,T.cl,T.nR,fP _ _ _,a.rd,rfl,.inl #[_,.inl G.hd],0,_,ti t,fR y,G.hd,rfl,by rw[Tb.cL,aB];rfl,?_];have R4:=G.FD t;rw[Tb.eK];rw[Tb.xr]at R4 ⊢;have N:=gY (y:=y) R.nd I;rw[ey]at N;have N:(ents (Tb.aW W t y)).Perm (ents (Tb.bf W t)):=N;show q _ M3 s3 R4 (ab.perm N) (a3.next Pg.aZ.refl λt' L h'=>?_) (((R.iy s1).trans a1).trans ?_) ac
 .rw[Tb.ck]at h';by_cases z:t'=t
  .rw[Tz z]at h';cases h'
  .rw[Tx z]at h';show#[L,by rw[Tb.bM t' I,Tx z];show h',λ_ _ h=>h]
 .show#[Off.wr (.inr (.inl rfl)),λ_ h _=>h,λ_ h=>.inl h,λb z=>.inl ?_,G.mt,G.dw];rcases z with z|z|⟨L,S,z⟩
  .show .inl z
  .show .inr (.inl z)
  .let#[S,ne]:=Tb.b9 S;show .inr (.inr #[L,?_,z]);unfold Tb.aW;show rr.mpr #[L,S,by rw[Tx ne]]
theorem JE:aC ["self","task"] ["self","task"] (aw qe):=L2.bC
theorem yd {f Y:Addr}{fd S:qj}{c:CA}(F:cI K "begin" "Rooms.begin" qe f fd) (T:oQ K mg c) (MK:Mk K c.T Y) (ap:mg "Table" = some (.ref c.T)) (GS:Df P w K mg base aV 1 "refuse_second_room" jD) (GI:a8 P w K mg base aV 1 Y S ["self"] (Tb.hU c.T)) (bI:Binds K S ["self"] []):a8 P w K mg base aV 3 f fd ["self","task"] (nH c):=by
 show F.dh JE (λaB A outer s H vs Q E N h=>?_);let#[M,a,s',W,t,rfl,R,J,hl,q]:=h;let#[dx,ho]:=R.ob;have hs:=vu;show#[_,(ag (aL (pc GS N ax (aa (aK (pv 0) rfl) (aa (pv 1) ai))))
  (ak (jQ (a9 N) (aK (pv 0) rfl) (pv 1) (t6 MK GI (N.mono av) (by rfl) ap bI .nil ax) rfl))),?_]
 show#[0,a.rp,c.C,dx,_,0,ho,T.cl,T.nR,fP _ _ _,0,a.rd,W,t,rfl,R.hd,J,?_];show λp as np U aT=>#[p,as,rfl,ae,λfs H1 ab T1 off=>#[5]];have s1:aZ H H1:=λb u e=>off b u (by rw[ah (ar e np),ah (ar e U)];show e) (ar e np);have I:H fs=none:=by
  cases e:H fs with
  |none=>rfl
  |some u=>rw[ah (ar e np),ah (ar e U),e]at ab;cases ab
 have O:=R.BJ (H':=H1) (B:=λ_=>False) (M':=λb=>M b\/b=fs) (λb o e _=>s1 b o e) (λb z=>z.elim) (λb z=>z.elim) (λb z=>z.elim .inl λz=>.inr (by rw[z];show I)) (λb z _=>.inl z) (λb z e=>z.elim (λz=>(R.same s1).mt b z e) λz=>by rw[z,T1.hf]at e;cases e)
 .let#[am,ac]:=O.ob;show#[0,a.rp,c.C,am,_,0,ac,T.cl,T.nR,fP _ _ _,0,a.rd,0,fC.k (k:=ti t) O.hd (by rw[Tb.cj];omega),?_];rw[show(V.ref p)=fR #[p,fs,[],[]]from rfl,Tb.cH J];have TI:dq c.T H1 #[p,fs,[],[]]:=#[T1,Mt,λq=>rfl];have L:∀b,(TD.mk p fs [] []).eI b->b=fs:=λb z=>by
   rcases z with z|⟨_,hx,_⟩
   .show z
   .cases hx
  have R2:=O.zN J TI (λb z=>#[.inr (L b z),λy=>?_]) (λy=>?_)
  .show q _ _ #[p,fs,[],[]] rfl R2 #[?_,λb z _=>.inl z,λb z=>z.elim .inl λz=>.inr (by rw[z];show I),λb z=>?_,R.mt,R.dw]
   .intro b o e z;rw[ah (λy=>z (.inr (.inl y)))];show s1 _ _ e
   .rcases z with z|z|⟨x',G,z⟩
    .show .inl (.inl z)
    .show .inl (.inr (.inl z))
    .rcases n7.mp G with G|G
     .show .inl (.inr (.inr #[x',G,z]))
     .rw[nq.mp G]at z;rw[L b z];show .inr I
  .rw[L b z]at y;show R.mt _ (R.dw _ y) I
  .show R.mt _ (R.ok.own _ y) np
end
theorem vX:K8 "sum" = some (.builtin "sum"):=ao
inductive iI (c:CA) (vs:List V) (H:Hp) (Q:VK) (e3:XK):Prop
 |mk (M:Addr->Prop) (a:RA) (s:Pg.PS) (W:di) (tt:Addr) (e:Pg.Ent) (cs:List Int) (_:vs=[.ref a.rp,.ref tt]) (_:ay c H M a s W) (_:Pg.Good s) (_:H tt=some (.tup (yq e))) (_:Pg.xM s e cs) (_:∀(H':Hp) (l:Addr),aZ H H'->H l=none->H' l=some (.lst (cs.map V.int))->Q (.ref l) H'):iI c vs H Q e3
inductive gW (c:CA) (vs:List V) (H:Hp) (Q:VK) (e3:XK):Prop
 |mk (M:Addr->Prop) (a:RA) (s:Pg.PS) (W:di) (tt ca:Addr) (e:Pg.Ent) (r:List Pg.Ent) (cs:List Int) (_:vs=[.ref a.rp,.ref tt,.ref ca]) (_:ay c H M a s W) (_:Pg.RI s (e::r)) (_:H tt=some (.tup (yq e))) (_:H ca=some (.lst (cs.map V.int))) (_:¬ M ca) (_:cs.length=8) (_:∀(H':Hp) (s':Pg.PS) (k:Int),ay c H' M a s' W->Pg.RI s' (some k::r)->Pg.aZ r s s'->Pg.xM s' (some k) cs->Step H M (a.own W) H' M (a.own W)->((∀b,(s'.ow b).length=(s.ow b).length)/\Pg.KB s s'/\∃m,s'.pl k=some (true,m))->Q (.int k) H'):gW c vs H Q e3
noncomputable def heldW (W:di):Int:=(W.map λx=>(x.2.t.length:Int)).sum
theorem mL:∀W:di,heldW W=((ents W).length:Int)
 | []=>rfl
 |x::W=>by
  have G:=mL W;unfold heldW at G ⊢;rw[Mc,Ng,G];change _=(((ue x.2.t++ents W).length:Nat):Int);rw[wh];unfold ue;rw[mu];omega
inductive jz (c:CA) (vs:List V) (H:Hp) (Q:VK) (e3:XK):Prop
 |mk (M:Addr->Prop) (a:RA) (s:Pg.PS) (W:di) (_:vs=[.ref a.rp]) (_:ay c H M a s W) (_:W.length<=1000) (_:∀H',aZ H H'->Q (.int (ents W).length) H'):jz c vs H Q e3
noncomputable def Gv (s:Pg.PS) (H:Hp) (v:V):Option Pg.Ent->Prop
 |none=>v=.non
 |some none=>∃t,v=.ref t/\H t=some (.tup [.str "blank"])
 |some (some k)=>∃t b n,v=.ref t/\s.pl k=some (b,n)/\H t=some (.tup (jZ b n))
inductive nj (c:CA) (vs:List V) (H:Hp) (Q:VK) (e3:XK):Prop
 |mk (M:Addr->Prop) (a:RA) (s:Pg.PS) (W:di) (t q:Int) (x:TD) (_:vs=[.ref a.rp,.int t,.int q]) (_:ay c H M a s W) (_:Pg.RI s (ents W)) (_:Tb.look W t=some x) (_:∀H' v,aZ H H'->Gv s H' v (Tb.look x.t q)->Q v H'):nj c vs H Q e3
noncomputable def gH (cv:Int->Int->List Int) (t:Int) (ps:List Int):Int->Int->List Int:=λt' q=>if t'=t/\q∈ps then replicate 8 0 else cv t' q
inductive vE (c:CA) (vs:List V) (H:Hp) (Q:VK) (e3:XK):Prop
 |mk (M:Addr->Prop) (a:RA) (s:Pg.PS) (W:di) (cv:Int->Int->List Int) (t p m:Int) (x:TD) (_:vs=[.ref a.rp,.int t,.int p,.int m]) (_:ay c H M a s W) (_:Pg.RI s (ents W)) (_:Cv s W cv) (_:W.length<=1000) (_:Tb.look W t=some x) (_:¬ Rm.cE p m) (_:(∀q∈Rm.aM p m,Tb.look x.t q=none)) (_:(ents W).length+m<=bH s) (_:∀(H':Hp) (M':Addr->Prop) (y:TD),ay c H' M' a s (Tb.aW W t y)->Pg.RI s (ents (Tb.aW W t y))->Cv s (Tb.aW W t y) (gH cv t (Rm.aM p m))->(∀q,Tb.look y.t q=if q∈Rm.aM p m then some none else Tb.look x.t q)->Step H M (a.own W) H' M' (a.own (Tb.aW W t y))->Q .non H'):vE c vs H Q e3
theorem dq.len {c:CA}{H:Hp}{x:TD}(T:dq c.T H x) {ns:List Int}(p:ns.Perm (Tb.fV x.tb)):ns.length=x.t.length:=by
 have h:ns.Perm (x.t.map (·.1)):=by
  rw[OR (p.nodup_iff.mpr (Tb.jS T.at_)) T.nd];intro q;rw[T.mem p q];constructor
  .intro h;cases e:Tb.look x.t q with
   |none=>show absurd e h
   |some v=>show rr.mpr #[_,Tb.az e,rfl]
  .intro h e;show Tb.cf e h
 rw[h.length_eq,mu]
theorem vf {p m:Int}(h:¬ Rm.cE p m):((Rm.aM p m).length:Int)=m:=by
 have:¬ m<1:=λz=>h (.inl z);unfold Rm.aM;rw[mu,Lr];omega
theorem pR (p m:Int):(Rm.aM p m).Nodup:=by
 unfold Rm.aM;show Nn.mpr (Rt.imp ?_);intro i j G e;show G af
theorem yK {cv:Int->Int->List Int}{t:Int}:gH cv t []=cv:=by
 funext t' q;unfold gH;rw[Tx (by simp)]
theorem sO {cv:Int->Int->List Int}{t t' q p:Int}{l:List Int}(h:¬ (t'=t/\q=p)):gH cv t (l++[p]) t' q=gH cv t l t' q:=by
 unfold gH;by_cases z:t'=t/\q∈l
 .rw[Tz z,Tz #[z.1,LR _ z.2]]
 .rw[Tx z,Tx (λy=>by
   rcases n7.mp y.2 with w|w
   .show z #[y.1,w]
   .show h #[y.1,nq.mp w])]
section
variable {P:rz}{w:C1}{K:iF}{mg:Str->Option Value}{base:Heap}
theorem JQ:aC ["self","entry"] ["self","entry"] (aw qx):=L2.bC
theorem uk {f:Addr}{fd:qj}{c:CA}(F:cI K "cells_of" "Rooms.cells_of" qx f fd) (T:oQ K mg c) (TP:ox K mg c.P) (Im:Md P w K mg base aV 4 c.P "cells" (m7 c.P c.S)):a8 P w K mg base aV 5 f fd ["self","entry"] (iI c):=by
 let#[I,mB,sB]:=T.bl;let#[u8,m8,r8]:=T.pc;have rB:RelV (.ref I) (.ref I):=rfl;show F.dh JQ (λam A outer s H vs Q E N h=>?_);let#[M,a,s',W,tt,e,cs,rfl,R,gd,O,G,q]:=h;have hs:=vu;show#[_,(ag (aS (aD (vZ N.ix) (pv 1) (cu (by rfl) mB rB) (aI _)) (ak (aE (aA mz (cg (aa aj ai)) (cu (by rfl) m8 r8)))) aF)
  (ak (aE (pm (aK (pv 0) rfl) TP.cl Im N ax (aa (aP aN (pv 1) aj bW) ai))))),?_]
 show#[0,tt,I,_,0,rfl,bL.of O,iW.sq (.inr sB),?_];cases e with
 |none =>
  show#[1,0,eL ?_];show#[av,λl1 ac=>?_];show#[l1,(8),0,rfl,ae,af,af,by rw[LK];omega,λY J=>?_];have s1:=Tb.au (X:=.lst [V.int 0]) ac;have s2:=Tb.au (X:=.lst ((replicate (8:Int).toNat [V.int 0]).flatten)) J;have G:cs=replicate 8 0:=G;show q _ Y (s1.trans s2) (s1.free J) ?_;rw[ae,G];rfl
 |some k =>
  show#[1,0,bX ?_];let#[cc,U]:=G;let#[dx,ho]:=R.ob;let#[ab,h2]:=R.pg.ob;show#[0,a.rp,c.C,dx,_,0,ho,T.cl,T.nP,kW _ _ _,a.A.pg,ab,0,h2,cJ _ _ ao ao ao ao ao,0,tt,_,(1),0,rfl,bL.of O,rfl,M,a.A,s',k,cs,cc,rfl,R.pg,U,?_,λl L=>q _ l (Tb.au L) L ae];have:=(gd.vw U).1;omega
theorem JF:aC ["self","entry","cells"] ["self","entry","cells"] (aw rK):=L2.bC
theorem rF {f:Addr}{fd:qj}{c:CA}(F:cI K "sheet_with" "Rooms.sheet_with" rK f fd) (T:oQ K mg c) (TP:ox K mg c.P) (aT:Md P w K mg base aV 7 c.P "new_sheet" (gB K c.P c.S)) (a0:Md P w K mg base aV 8 c.P "change" (nK c.P c.S)):a8 P w K mg base aV 9 f fd ["self","entry","cells"] (gW c):=by
 let#[aB,mB,sB]:=T.bl;have rB:RelV (.ref aB) (.ref aB):=rfl;show F.dh JF (λbb A outer s H vs Q E hr h=>?_);let#[M,a,s',W,tt,ca,e,r,cs,rfl,R,G,ht,am,ba,L,q]:=h;have ap:¬ a.A.own ca:=λz=>ba (R.ok.own _ z);let#[dx,ho]:=R.ob;let#[ab,h2]:=R.pg.ob;show#[_,(ag (aS (aD (vZ hr.ix) (pv 1) (cu (by rfl) mB rB) (aI _)) (ak (aE (pm (aK (pv 0) rfl) TP.cl aT hr ax (aa (pv 2) ai)))) aF)
  (ak (aE (pm (aK (pv 0) rfl) TP.cl a0 hr ax (aa (aP aN (pv 1) aj bW) (aa (pv 2) ai)))))),?_]
 show#[0,tt,aB,_,0,rfl,bL.of ht,iW.sq (.inr sB),?_];cases e with
 |none =>
  show#[1,0,eL ?_];show#[0,a.rp,c.C,dx,_,0,ho,T.cl,T.nP,kW _ _ _,a.A.pg,ab,0,h2,cJ _ _ ao ao ao ao ao,0,M,a.A,s',ca,cs,rfl,R.Iw G,G.room,bA.of am,λe=>ap (by rw[e];show PA.eT 0 rfl),L,λH1 s1 N J I=>?_];have B:=Pg.j4 G.good G.l0 L N;show q H1 s1 _ (R.j7 J I B.kept.ln) (G.fill L N) (G.xS L N) #[(1),B.vw] (R.Gy J I) #[B.kept.ln,B.kept.kb B.fr,B.fr]
 |some k =>
  show#[1,0,bX ?_];let#[as,c0,Y]:=G.is k La;show#[0,a.rp,c.C,dx,_,0,ho,T.cl,T.nP,kW _ _ _,a.A.pg,ab,0,h2,cJ _ _ ao ao ao ao ao,0,tt,_,(1),0,rfl,bL.of ht,rfl,0,M,a.A,s',k,ca,as,c0,cs,rfl,R.Iw G,Y,am,ap,L,λz=>G.HZ Y z,λz H1 s1 s2 N hl J I=>?_,λz H1 s1 m ac O J I=>?_]
  .let#[a1,a2,a3,a4,a5,a6,a7]:=G.part Y z L N hl;show q H1 s2 _ (R.j7 J I a7) a1 a2 a3 (R.Gy J I) #[a7,λz=>#[(a6 z).1,λj y=>by let#[m,O]:=y;show#[m,(a6 z).2 j m O]],a4]
  .subst z;let#[a1,a2,a3]:=G.write Y L ac O;have U:=Pg.kZ G.good ac;show q H1 _ k (R.j7 J I U.kept.ln) a1 a2 a3 (R.Gy J I) #[U.kept.ln,U.kept.kb U.fr,m,O]
theorem Jq:aC ["self"] ["self"] (aw vi):=L2.bC
theorem Ao {f:Addr}{fd:qj}{c:CA}(F:cI K "held" "Rooms.held" vi f fd) (T:oQ K mg c) (TT:Tb.Txt K mg c.T) (aB:Md P w K mg base aV 1 c.T "pages" (Tb.ff c.T)):a8 P w K mg base aV 2 f fd ["self"] (jz c):=by
 show F.dh Jq (λa3 A outer s H vs Q E hr h=>?_);let#[M,a,s',W,rfl,R,lw,k]:=h;have hs:=vu;let#[dx,h1]:=R.ob;show#[_,(ak (aE (aQ (mG rfl) (by rfl) T.sum vX (aa (xb (gx (cl:=[("self",s.heap.objs.size+1)]) (caps:=[("self",0)]) #[rfl,ao,ao,rfl,by kernel_rfl,by intro p L;simp only[BY,DD,or_false]at L;rcases L with rfl<;>first|rfl|show#[rfl,.inl rfl,.inl rfl]|show#[rfl,.inl rfl,.inr rfl],by kernel_rfl,by intro p L;simp only[BY,DD,or_false]at L;rcases L with rfl<;>first|rfl|show#[rfl,.inl rfl,.inl rfl]|show#[rfl,.inl rfl,.inr rfl],ao] rfl (lG (aK (pv 0) rfl)) (λ_ _ _ _=>fO) (λ_ _ _ _=>(aQ (show dB _ _ (wZ K)from xT) (by rfl) T.len boot_len (aa (ug (bh (a9 hr) (show PE _ _ (BZ K _ "rooms")from aK (pv 1) rfl) (pv 0) bW) TT.cl aB hr ax) ai))))) ai)))),?_];have hn:∀(o:Obj) Y,H a.rd≠some (.bP o Y):=λo Y z=>(by rw[R.hd]at z;cases z);show#[0,a.rp,c.C,dx,_,0,h1,T.cl,T.nR,fP _ _ _,a.rd,0,R.hd,hn,λo=>?_];have a0:a.rp≠a.rd:=λz=>(by rw[z,R.hd]at h1;cases h1);have N:Off (· = a.rd) H (upd H a.rd (.bP o (.dK (Tb.dk fR W)))):=Off.wr rfl;have O:(upd H a.rd (.bP o (.dK (Tb.dk fR W)))) a.rd=some (.bP o (.dK (Tb.dk fR W))):=ae;have aT:=N _ _ h1 a0;have as:∀x∈W,dq c.T (upd H a.rd (.bP o (.dK (Tb.dk fR W)))) x.2:=λx I=>by
  let#[a2,h3]:=(R.tb x I).at_.ob;show(R.tb x I).off N (λz=>by rw[z,R.hd]at h3;cases h3) (λb z=>(R.dm x I b z).2.2) (λb xs e z=>by rw[z,R.hd]at e;cases e)
 show vG (a:=a.rd) (o:=o) (kvs:=Tb.dk fR W) (λi ys H2=>ys=((W.take i).map λx=>(x.2.t.length:Int)).map V.int/\aZ (upd H a.rd (.bP o (.dK (Tb.dk fR W)))) H2) #[rfl,λ_ _ e=>e] (λi zs H2 _ ⟨_,e⟩=>e _ _ O) ?_ ?_
 .rintro i kk v zs H2 hk ⟨rfl,G⟩;have ab:(W.map λx:Int×TD=>((ti x.1:Key),fR x.2))[i]?=some (kk,v):=hk;rw[se]at ab;let#[x,I,e]:=pf.mp ab;cases e;have hm:=vr I;have hi:i<W.length:=(kz.mp I).1;have a1:Tb.look W x.1=some x.2:=Tb.bJ R.nd hm;have hg:cZ H2 a.rd (.int x.1) (some (fR x.2)):=.inl #[Tb.dk fR W,ti x.1,.inr #[o,G _ _ O],rfl,by rw[Tb.cL,a1];rfl];have TX:=as x hm;have T2:=TX.at_.same G;let#[ap,ht]:=T2.ob;show#[0,a.rp,c.C,dx,_,0,G _ _ aT,T.cl,T.nR,fP _ _ _,0,a.rd,fR x.2,rfl,hg,x.2.p,ap,0,ht,Tb.aY _ ao,x.2.p,x.2.fs,x.2.tb,rfl,T2,λH3 l ns s3 fl J pm a4=>?_];show#[l,0,.inl (bA.of J),3,G.trans s3]
  .rw[mu,mu,HC];omega
  .rw[mu,TX.len pm,LA,I,DO,DO];rfl
 .rintro zs H2 ⟨rfl,G⟩ l J;have am:=G _ _ O;have ac:l≠a.rd:=λz=>(by rw[z,am]at J;cases J);show#[a.rd,o,Tb.dk fR W,by rw[ah (qw ac)];show am,hn,l,(W.map λx=>(x.2.t.length:Int)),rfl,bA.of ?_,?_]
  .rw[ah ac,ae,Tb.cj,LN]
  .have U:=mL W;unfold heldW at U;rw[U];show k _ λb u e=>?_;by_cases z:b=a.rd
   .rw[z,ae, <-e,z,R.hd]
   .have S:H2 b=some u:=G _ _ (N _ _ e z);rw[ah z,ah (λy=>by rw[y,J]at S;cases S)];show S
theorem HJ:aC ["self","task","page","entry"] ["self","task","page"] (aw qr):=L2.bC
theorem yQ {f:Addr}{fd:qj}{c:CA}(F:cI K "place" "Rooms.place" qr f fd) (T:oQ K mg c) (TT:Tb.Txt K mg c.T) (TP:ox K mg c.P) (GR:Df P w K mg base aV 1 "room_of" dQ) (GG:Md P w K mg base aV 3 c.T "get" (Tb.nV c.T)) (Dh:Md P w K mg base aV 1 c.P "place" (iB c.P c.S)):a8 P w K mg base aV 4 f fd ["self","task","page"] (nj c):=by
 let#[J,mB,sB]:=T.bl;have rB:RelV (.ref J) (.ref J):=rfl;show F.dh HJ (λaT A outer s H vs Q E I h=>?_);let#[M,a,s',W,t,q,x,rfl,R,ri,O,k]:=h;let#[dx,ho]:=R.ob;have N:=R.tb _ (Tb.az O);let#[am,ht]:=N.at_.ob;show#[_,(ag (dr 3 HJ.nd (pm (pc GR I ax (aa (aK (pv 0) rfl) (aa (pv 1) ai))) TT.cl GG I ax (aa (pv 2) ai)))
  (ag (aS (PW.pt (ic (aD Fd (pv 3) rY (aI _)) (gF (aD (vZ I.ix) (pv 3) (cu (by rfl) mB rB) (aI _))))) (ak (aE (pv 3))) aF)
  (ak (aE (pm (aK (pv 0) rfl) TP.cl Dh I ax (aa (aP aN (pv 3) aj bW) ai)))))),?_]
 show#[0,a.rp,c.C,dx,_,0,ho,T.cl,T.nR,fP _ _ _,0,a.rd,W,t,x,rfl,R.hd,O,?_];show#[x.p,am,0,ht,Tb.aY _ ao,0,x.p,x.fs,x.tb,q,rfl,N.at_,λH1 v s1 G=>?_];rw[N.lk]at G;cases L:Tb.look x.t q with
 |none =>
  rw[L]at G k;have G:v=.non:=G;subst G;show#[0,rfl,0,eL (eL #[0,k H1 _ s1 rfl])]
 |some e =>
  rw[L]at G k;let#[tt,rfl,Y]:=G;have U:=R.same s1;let#[as,ac]:=U.ob;let#[ab,h2]:=U.pg.ob;show#[0,rfl,0,bX ?_];show#[0,tt,J,_,0,rfl,bL.of Y,iW.sq (.inr sB),?_];cases e with
  |none=>show#[1,0,eL #[0,k H1 _ s1 #[tt,rfl,Y]]]
  |some j =>
   show#[1,0,bX ?_];let#[cs,cc,b,n,hj,_,_]:=ri.is j (jP O L);show#[0,a.rp,c.C,as,_,0,ac,T.cl,T.nP,kW _ _ _,a.A.pg,ab,0,h2,cJ _ _ ao ao ao ao ao,0,tt,_,(1),0,rfl,bL.of Y,rfl,M,a.A,s',j,b,n,rfl,U.pg,hj,λt' ap=>k H1 _ s1 #[t',b,n,rfl,hj,ap]]
theorem B7:aC ["self","task","page","many","table","pages","wanted"] ["self","task","page","many"] (aw As):=L2.bC
theorem Dl {f:Addr}{fd:qj}{c:CA}(F:cI K "map" "Rooms.map" As f fd) (T:oQ K mg c) (TT:Tb.Txt K mg c.T) (GR:Df P w K mg base aV 1 "room_of" dQ) (GM:Df P w K mg base aV 2 "pages_to_map" Rm.rq) (GA:Df P w K mg base aV 1 "refuse_above" lP) (bi:Md P w K mg base aV 1 c.T "pages" (Tb.ff c.T)) (GH:Md P w K mg base aV 2 c.C "held" (jz c)) (GL:Md P w K mg base aV 3 c.T "lay" (Tb.sJ K c.T)):a8 P w K mg base aV 4 f fd ["self","task","page","many"] (vE c):=by
 let#[aB,mB,sB]:=T.bl;have rB:RelV (.ref aB) (.ref aB):=rfl;show F.dh B7 (λb4 A outer s H vs Q E U h=>?_);let#[M,a,s',W,cv,t,p,m,x,rfl,R,ri,bd,lw,I,O,a3,bE,q]:=h;let#[dx,ho]:=R.ob;have TX:=R.tb _ (Tb.az I);let#[ba,ht]:=TX.at_.ob;have b1:¬ m<1:=λz=>O (.inl z);have b2:¬ p<0:=λz=>O (.inr (.inl z));have b3:¬ 64<p+m:=λz=>O (.inr (.inr z));have pl:=vf O;show#[_,(ag (dr 4 B7.nd (pc GR U ax (aa (aK (pv 0) rfl) (aa (pv 1) ai))))
  (ag (dr 5 B7.nd (pc GM U ax (aa (ug (pv 4) TT.cl bi U ax) (aa (pv 2) (aa (pv 3) ai)))))
  (ag (aL (pc GA U ax (aa (aA bp (ug (pv 0) T.cl GH U ax) (aQ bG (by rfl) T.len boot_len (aa (pv 5) ai))) (aa (aK (pv 0) rfl) ai))))
  (ak (cG D3 rfl (fU (pv 5)) (gb 6 B7.nd) (ak (aL (pm (pv 4) TT.cl GL U ax (aa (pv 6) (aa (cu (by rfl) mB rB) ai)))))))))),?_]
 show#[0,a.rp,c.C,dx,_,0,ho,T.cl,T.nR,fP _ _ _,0,a.rd,W,t,x,rfl,R.hd,I,?_];show#[0,x.p,ba,0,ht,Tb.aY _ ao,x.p,x.fs,x.tb,rfl,TX.at_,λH1 l1 ns s1 b6 b0 pm ca=>?_];show#[0,0,l1,ns,p,m,rfl,b0,O,λz h1 h2=>absurd (a3 z h1) ((TX.mem pm z).mp h2),λH2 N s2 bv a5=>?_];have S2:=s1.trans s2;have R2:=R.same S2;let#[bx,bY]:=R2.ob;show#[0,a.rp,bx,0,bY,fA _ _ _ ao ao ao,M,a,s',W,rfl,R2,lw,λH3 s3=>?_];have aT:=s3 _ _ a5;have R3:=R2.same s3;let#[bF,bc]:=R3.ob;show#[0,N,0,.inl (bA.of aT),_,0,rfl,0,a.rp,c.C,bF,_,0,bc,T.cl,T.nT,G8 _ _ _,_,0,3]
 .rw[mu,pl];omega
 have S3:=S2.trans s3;have bq:¬ M N:=λz=>R.mt _ z (s1.free bv);have bb:¬ a.own W N:=λz=>bq (R.dw N z);show#[0,N,rfl,#[_,bA.of aT],?_];show fG (K:=K) (a:=N) (xs:=(Rm.aM p m).map V.int) (λi σ H4=>Hb λ(v6:Option V) (M4:Addr->Prop) (y:TD)=>IQ (σ=[some (.ref a.rp),some (.int t),some (.int p),some (.int m),some (.ref y.p),some (.ref N),v6]) (ay c H4 M4 a s' (Tb.aW W t y)) (Pg.RI s' (ents (Tb.aW W t y))) ((ents (Tb.aW W t y)).length=(ents W).length+i) (Cv s' (Tb.aW W t y) (gH cv t ((Rm.aM p m).take i))) ((∀q,Tb.look y.t q=if q∈(Rm.aM p m).take i then some none else Tb.look x.t q)) (Step H3 M (a.own W) H4 M4 (a.own (Tb.aW W t y))))
  #[_,M,x,rfl,by rw[cM R.nd I];show R3,by rw[cM R.nd I];show ri,by rw[cM R.nd I];rfl,by rw[cM R.nd I,Qw,yK];show bd,λq=>by simp,by rw[cM R.nd I];show R3.refl] (λi σ H4 _ z0=>by let#[_,_,_,_,_,_,_,_,_,st]:=z0;show bA.of (st.off _ _ aT bb)) ?_ ?_
 .rintro i u σ H4 hu ⟨v6,M4,y,rfl,Y,a1,a2,ap,ac,a0⟩;rw[se]at hu;let#[G,hp,rfl]:=pf.mp hu;have a4:=vr hp;let#[hi,b5]:=kz.mp hp;have bz:¬ G∈(Rm.aM p m).take i:=λz=>by
   let#[j,hj,e]:=LX z;rw[NY]at e;rw[HC]at hj;show nE (pR p m) j i (tu af) hp af e
  have as:=iE (y:=y) I;have T4:=Y.tb _ (Tb.az as);let#[bn,a7]:=T4.at_.ob;have bm:Tb.look y.t G=none:=(by rw[ac,Tx bz];show a3 G a4);let#[r1,r2,_]:=Rm.yg O G a4;show#[0,y.p,bn,0,a7,Tb.aY _ ao,0,y.p,y.fs,aB,y.tb,G,[.str "blank"],rfl,T4.at_,r1,r2,.inr sB,rfl,λH5 ab T5 l5 o5 n5=>?_];have be:dq c.T H5 #[y.p,y.fs,ab,(G,none)::y.t]:=#[T5,KW.mpr #[Tb.cf bm,T4.nd],λj=>by
   rw[l5 j,Tb.aO];by_cases z:j=G
   .rw[Tz z,Tz z.symm];rfl
   .rw[Tx z,Tx (qw z)];show T4.lk j]
  have R5:=Y.uH (y:=#[y.p,y.fs,ab,(G,none)::y.t]) as rfl be o5 n5;have S5:=a0.trans (Y.qf (y:=#[y.p,y.fs,ab,(G,none)::y.t]) as o5 n5);have pe:(ents (Tb.aW W t #[y.p,y.fs,ab,(G,none)::y.t])).Perm (none::ents (Tb.aW W t y)):=(gY R.nd I).trans ((gY (y:=y) R.nd I).symm.cons none);rw[set_set]at R5 S5;have bI:(ents (Tb.aW W t y)).length<(s'.ow true).length+(s'.ow false).length:=by
   rw[a2];unfold bH at bE;omega
  show#[2,#[y.p,y.fs,ab,(G,none)::y.t],rfl,R5,(a1.lay bI).perm pe.symm,by rw[pe.length_eq,KO,a2];omega,3,S5]
  .intro S a6 am q e L;rw[Tb.bM S I]at am;rw[LA,hp];by_cases z:S=t
   .rw[Tz z]at am;cases am;have L:Tb.look ((G,none)::y.t) q=some e:=L;rw[Tb.aO]at L;by_cases J:G=q
    .rw[Tz J]at L;cases L;change gH cv t _ S q=_;unfold gH;rw[Tz #[z,by rw[<-J];simp]]
    .rw[Tx J]at L;rw[show(some G).toList=[G]from rfl,sO (λh=>J h.2.symm)];show ap S y (by rw[z];show as) q e L
   .rw[Tx z]at am;rw[show(some G).toList=[G]from rfl,sO (λh=>z h.1)];show ap S a6 (by rw[Tb.bM S I,Tx z];show am) q e L
  .intro j;change Tb.look ((G,none)::y.t) j=_;rw[Tb.aO,ac j,LA,hp];by_cases z:G=j
   .rw[Tz z,Tz (by rw[<-z];simp)]
   .rw[Tx z];by_cases J:j∈(Rm.aM p m).take i
    .rw[Tz J,Tz (LR _ J)]
    .rw[Tx J,Tx (by simp[qw z,J])]
 .rintro σ H4 ⟨v6,M4,y,rfl,Y,a1,a2,ap,ac,a0⟩;rw[mu,LN]at ap ac;show q H4 M4 y Y a1 ap ac ((R.iy S3).trans a0)
end
end St
namespace Rm
theorem gy {ad n:Int}{G:List Int}(h:¬ cX ad n G):(aq ad n).length<=64/\∀q∈aq ad n,q∈G:=by
 unfold aq;by_cases e:n=0
 .rw[Tz e];show#[KU _,λ_ h=>nomatch h]
 .rw[Tx e];have I:0<n:=by
   have:¬ n<0:=λz=>h (.inl z);omega
  have h1:¬ cE (jm ad) (gZ ad n):=λz=>h (.inr #[I,.inl z]);have h2:∀q∈aM (jm ad) (gZ ad n),q∈G:=Ny λz=>h (.inr #[I,.inr z]);show#[?_,h2];unfold aM;rw[mu,Lr];have L:¬ jm ad<0:=λz=>h1 (.inr (.inl z));have J:¬ 64<jm ad+gZ ad n:=λz=>h1 (.inr (.inr z));omega
theorem wF {ad n:Int}{I J:List Int}(h:∀q,q∈I->q∈J) (G:cX ad n J):cX ad n I:=by
 rcases G with G|⟨h1,h2⟩
 .show .inl G
 .show .inr #[h1,h2.imp id λz y=>z λq L=>h q (y q L)]
end Rm
namespace St
open PySem L2
noncomputable def bS (f:Int->List Int) (ps:List Int):List Int:=(ps.map f).flatten
theorem fb {f:Int->List Int}{ps:List Int}{i:Nat}{q:Int}(h:ps[i]?=some q):bS f (ps.take (i+1))=bS f (ps.take i)++f q:=by
 unfold bS;rw[LA,h,DO,List.flatten_append];simp
theorem xM.len {s:Pg.PS}{e:Pg.Ent}{cs:List Int}(G:Pg.Good s) (h:Pg.xM s e cs):cs.length=8:=by
 cases e with
 |none=>rw[show cs=replicate 8 0 from h];simp
 |some k=>let#[c,h]:=h;show(G.vw h).2
noncomputable def m6 (x:List (Int×Pg.Ent)) (ps:List Int) (i:Nat) (s:Pg.PS):Prop:=∀j q k,i=j+1->ps[j]?=some q->Tb.look x q=some (some k)->∃m,s.pl k=some (true,m)
inductive q8 (c:CA) (vs:List V) (H:Hp) (Q:VK) (e3:XK):Prop
 |mk (M:Addr->Prop) (a:RA) (s:Pg.PS) (W:di) (cv:Int->Int->List Int) (t ad:Int) (n:Nat) (x:TD) (_:vs=[.ref a.rp,.int t,.int ad,.int n]) (_:ay c H M a s W) (_:Pg.RI s (ents W)) (_:Cv s W cv) (_:Tb.look W t=some x) (_:n<=600) (_:0<=ad) (_:ad<=1000) (_:¬ Rm.cX ad n (x.t.map (·.1))) (_:∀(H':Hp) (M':Addr->Prop) (s':Pg.PS) (l:Addr),ay c H' M' a s' W->Pg.RI s' (ents W)->Cv s' W cv->Step H M (a.own W) H' M' (a.own W)->((∀b,(s'.ow b).length=(s.ow b).length)/\Pg.KB s s'/\m6 x.t (Rm.aq ad n) (Rm.aq ad n).length s')->H l=none->H' l=some (.lst ((((bS (cv t) (Rm.aq ad n)).drop (ad%8).toNat).take n).map V.int))->Q (.ref l) H'):q8 c vs H Q e3
section
variable {P:rz}{w:C1}{K:iF}{mg:Str->Option Value}{base:Heap}
variable {c:CA}{H H':Hp}{M M' B:Addr->Prop}{a:RA}{s s':Pg.PS}{W:di}{t:Int}{x y:TD}
theorem nameQ {i:Nat}{v:V}{σ:L2.St}{H:Hp}{Q:L2.St->Hp->Prop}(h:Q (σ.set i (some v)) H):lX i v σ H Q:=h
theorem ay.J2 (R:ay c H M a s W) {l:Addr}{xs ys:List V}(I:H l=some (.lst xs)) (G:M l) (J:¬ a.own W l):ay c (upd H l (.lst ys)) M a s W :=
 R.BJ (B:=(· = l)) (Off.wr rfl) (λb z=>by rw[z];show#[G,J]) (λb z=>.inl #[xs,by rw[z];show I]) (λb z=>.inl z) (λb z _=>z) (λb z e=>by
  by_cases q:b=l
  .rw[q,ae]at e;cases e
  .rw[ah q]at e;show R.mt b z e)
theorem ay.FX (R:ay c H M a s W) {l:Addr}{o:HO}(G:H l=none):ay c (upd H l o) (λb=>M b\/b=l) a s W :=
 R.BJ (B:=λ_=>False) (λb u e _=>cQ G b u e id) (λb z=>z.elim) (λb z=>z.elim) (λb z=>z.elim .inl λz=>.inr (by rw[z];show G)) (λb z _=>.inl z) (λb z e=>by
  by_cases q:b=l
  .rw[q,ae]at e;cases e
  .rw[ah q]at e;show z.elim (λz=>R.mt b z e) q)
theorem dq.keys (T:dq c.T H x) (q:Int):q∈x.t.map (·.1)↔Tb.look x.t q≠none:=by
 constructor
 .intro h e;show Tb.cf e h
 .intro h;cases e:Tb.look x.t q with
  |none=>show absurd e h
  |some v=>show rr.mpr #[_,Tb.az e,rfl]
theorem Aq:aC ["self","task","address","many","table","whole","page","entry"] ["self","task","address","many"] (aw u4):=L2.bC
theorem zT {f:Addr}{fd:qj}{c:CA}(F:cI K "peek" "Rooms.peek" u4 f fd) (T:oQ K mg c) (TT:Tb.Txt K mg c.T) (TP:ox K mg c.P) (GR:Df P w K mg base aV 1 "room_of" dQ) (GO:Df P w K mg base aV 2 "pages_of_cells" Rm.iT) (b1:Df P w K mg base aV 1 "run_within" Rm.mU) (bx:Md P w K mg base aV 1 c.T "pages" (Tb.ff c.T)) (GG:Md P w K mg base aV 3 c.T "get" (Tb.nV c.T)) (ce:Md P w K mg base aV 7 c.P "fetch" (lE c.P c.S)) (bq:Md P w K mg base aV 5 c.C "cells_of" (iI c)):a8 P w K mg base aV 8 f fd ["self","task","address","many"] (q8 c):=by
 let#[aB,mB,sB]:=T.bl;have rB:RelV (.ref aB) (.ref aB):=rfl;show F.dh Aq (λcp A outer s H vs Q E N h=>?_);let#[M,a,s',W,cv,t,ad,n,x,rfl,R,ri,ch,hx,n6,cm,cr,hb,q]:=h;have hs:=vu;let#[dx,ho]:=R.ob;have TX:=R.tb _ (Tb.az hx);let#[c1,c2]:=Rm.gy hb;show#[_,(ag (dr 4 Aq.nd (pc GR N ax (aa (aK (pv 0) rfl) (aa (pv 1) ai))))
  (ag (dr 5 Aq.nd (cg ai))
  (ag (cG D3 rfl (fU (pc GO N ax (aa (ug (pv 4) TT.cl bx N ax) (aa (pv 2) (aa (pv 3) ai))))) (gb 6 Aq.nd) (ag (dr 7 Aq.nd (pm (pv 4) TT.cl GG N ax (aa (pv 6) ai)))
  (ag (aS (aD (ur N.ix) (pv 7) (cu (by rfl) mB rB) (aI _)) (ak (aL (pm (aK (pv 0) rfl) TP.cl ce N ax (aa (aP aN (pv 7) aj bW) ai)))) aF)
  (ak (aL (ip LJ ML PB pS (pv 5) (aa (pm (pv 0) T.cl bq N ax (aa (pv 7) ai)) ai)))))))
  (ak (aE (pc b1 N ax (aa (pv 5) (aa (pv 2) (aa (pv 3) ai))))))))),?_]
 show#[0,a.rp,c.C,dx,_,0,ho,T.cl,T.nR,fP _ _ _,0,a.rd,W,t,x,rfl,R.hd,hx,?_];show#[av,λG ab=>?_];have R1:=R.FX (o:=.lst []) ab;have s1:aZ H (upd H G (.lst [])):=Tb.au ab;have a3:upd H G (.lst []) G=some (.lst []):=ae;generalize upd H G (.lst [])=H1 at *;have a7:¬ a.own W G:=λz=>R.mt _ (R.dw _ z) ab;have a5:=R1.tb _ (Tb.az hx);let#[bn,ht]:=a5.at_.ob;show#[0,x.p,bn,0,ht,Tb.aY _ ao,x.p,x.fs,x.tb,rfl,a5.at_,λH2 l2 ns s2 cx b2 pm cz=>?_];have bi:∀{z},z∈x.t.map (·.1)->z∈ns:=λ{z} h=>(TX.mem pm z).mpr ((TX.keys z).mp h);show#[0,0,l2,ns,ad,n,rfl,b2,λh=>hb (Rm.wF (λz hz=>bi hz) h),λH3 l3 s3 b5 a6=>?_];have S3:=s2.trans s3;have R3:=R1.same S3;have bY:=S3 _ _ a3;have aT:H1 l3=none:=s2.free b5;have ci:¬ a.own W l3:=λz=>R1.mt _ (R1.dw _ z) aT;have bz:l3≠G:=λz=>(by rw[z,a3]at aT;cases aT);show#[l3,rfl,#[_,bA.of a6],?_];show fG (K:=K) (a:=l3) (xs:=(Rm.aq ad n).map V.int) (λi σ H4=>Hb λ(v6 v7:Option V) (s4:Pg.PS)=>ID (σ=[some (.ref a.rp),some (.int t),some (.int ad),some (.int n),some (.ref x.p),some (.ref G),v6,v7]) (ay c H4 (λb=>M b\/b=G) a s4 W) (Pg.RI s4 (ents W)) (Cv s4 W cv) (H4 G=some (.lst ((bS (cv t) ((Rm.aq ad n).take i)).map V.int))) ((bS (cv t) ((Rm.aq ad n).take i)).length=8*i) (Off (λb=>a.own W b\/b=G) H3 H4) ((∀b,(s4.ow b).length=(s'.ow b).length)/\Pg.KB s' s4/\m6 x.t (Rm.aq ad n) i s4))
  #[2,s',rfl,R3,ri,ch,bY,rfl,λ_ _ e _=>e,λ_=>rfl,Pg.KB.refl,λ_ _ _ h=>(by cases h)] (λi σ H4 _ z0=>by let#[_,_,_,_,_,_,_,_,_,O,_]:=z0;show bA.of (O _ _ a6 λz=>z.elim ci bz)) ?_ ?_
 .rintro i u σ H4 hu ⟨v6,v7,s4,rfl,R4,J,ap,am,b0,O,Y⟩;rw[se]at hu;let#[p,hp,rfl]:=pf.mp hu;have b4:=vr hp;let#[hi,cq]:=kz.mp hp;have T4:=R4.tb _ (Tb.az hx);let#[b6,b3]:=T4.at_.ob;obtain⟨e,he⟩:∃e,Tb.look x.t p=some e:=by
   cases z:Tb.look x.t p with
   |none=>show absurd z ((TX.keys p).mp (c2 p b4))
   |some e=>show#[e,rfl]
  show#[0,x.p,b6,0,b3,Tb.aY _ ao,0,x.p,x.fs,x.tb,p,rfl,T4.at_,λH5 v U hv=>?_];rw[T4.lk,he]at hv;let#[tt,rfl,ac]:=hv;have L:=R4.same U;have a4:=U _ _ am;show nameQ ?_;dsimp only;show share (λσ H6=>∃I:Pg.PS,ID (σ=[some (.ref a.rp),some (.int t),some (.int ad),some (.int n),some (.ref x.p),some (.ref G),some (.int p),some (.ref tt)]) (ay c H6 (λb=>M b\/b=G) a I W) (Pg.RI I (ents W)) (Cv I W cv) (H6 tt=some (.tup (yq e))) (H6 G=some (.lst ((bS (cv t) ((Rm.aq ad n).take i)).map V.int))) (Off (λb=>a.own W b\/b=G) H3 H6) ((∀b,(I.ow b).length=(s'.ow b).length)/\Pg.KB s' I/\∀k,e=some k->∃m,I.pl k=some (true,m))) (λu' a2=>?A) ?B
  case A =>
   show#[0,tt,aB,_,0,rfl,bL.of ac,iW.sq (.inr sB),?_];cases e with
   |none =>
    show#[1,0,bX ?_];show a2 _ _ #[s4,rfl,L,J,ap,ac,a4,λb o e z=>U _ _ (O b o e z),Y.1,Y.2.1,λ_ h=>(by cases h)]
   |some k =>
    show#[1,0,eL ?_];let#[bv,bE]:=L.ob;let#[a0,bI]:=L.pg.ob;let#[cs,cc,hv]:=J.is k (jP hx he);show#[0,a.rp,c.C,bv,_,0,bE,T.cl,T.nP,kW _ _ _,a.A.pg,a0,0,bI,cJ _ _ ao ao ao ao ao,0,tt,_,(1),0,rfl,bL.of ac,4,a.A,s4,k,cs,cc,rfl,L.Iw J,hv,λH6 I fe G6 O6=>?_];have FF:=Pg.kZ J.good fe;show a2 _ _ #[I,rfl,L.j7 G6 O6 FF.kept.ln,J.DE fe,ap.keep (Pg.wd J.good fe),O6 _ _ ac (L.pg.iS _ _ ac),O6 _ _ a4 (λz=>a7 (.inl z)),λb o e z=>O6 _ _ (U _ _ (O b o e z)) (λy=>z (.inl (.inl y))),λb=>(FF.kept.ln b).trans (Y.1 b),Y.2.1.trans (Pg.Gg J.good fe),λk' h=>by cases h;show FF.fr]
  case B =>
   rintro σ H6 ⟨I,rfl,R6,a1,bc,bF,bd,o6,as⟩;let#[a0,bm]:=R6.ob;have bb:=bc t x hx p e he;have c8:=xM.len a1.good bb;show#[0,.inl #[4,bA.of bd],0,a.rp,a0,0,bm,fA _ _ _ ao ao ao,0,_,a,I,W,tt,e,cv t p,rfl,R6,a1.good,bF,bb,λH7 l7 s7 f7 h7=>?_];have R7:=R6.same s7;have be:=s7 _ _ bd;show#[G,l7,_,0,rfl,be,h7,by rw[mu,mu];omega,?_];rw[<-DO, <-fb hp];show#[2,I,rfl,R7.J2 be (.inr rfl) a7,a1,bc,ae,by rw[fb hp,wh];omega,λb o e z=>by rw[ah (λy=>z (.inr y))];show s7 _ _ (o6 b o e z),as.1,as.2.1,λj q k hj hq hk=>by
    have:j=i:=af;subst this;rw[hp]at hq;cases hq;rw[he]at hk;cases hk;show as.2.2 k rfl]
 .rintro σ H4 ⟨v6,v7,s4,rfl,R4,J,ap,am,b0,O,Y⟩;rw[mu,LN]at am;show#[0,0,0,G,_,ad,n,rfl,am,λH5 l5 U ba ca=>?_];have L:=R4.same U;have oA:Off (a.own W) H H5:=λb o e z=>U _ _ (O _ _ (S3 _ _ (s1 _ _ e)) λy=>y.elim z λy=>by rw[y,ab]at e;cases e);show q H5 _ s4 l5 L J ap #[oA,λb z _=>.inl z,λb z=>z.elim .inl λz=>.inr (by rw[z];show ab),λb z=>.inl z,R.mt,R.dw] (by rw[mu]at Y;show Y) ?_ ca;cases z:H l5 with
  |none=>rfl
  |some o =>
   exfalso;by_cases w:a.own W l5
   .show R4.mt _ (R4.dw _ w) ba
   .have:=O _ _ (S3 _ _ (s1 _ _ z)) λy=>y.elim w λy=>(by rw[y,ab]at z;cases z);rw[ba]at this;cases this
end
end St
namespace Rm
theorem m4 {ad:Int}{cs ws:List Int}{O:List Int}(h:¬ cX ad cs.length O) (G:ws.length=8*(aq ad cs.length).length):(dS ws (ad%8).toNat cs).length=8*(aq ad cs.length).length:=by
 unfold dS;rw[wh,wh,HC,Mn];by_cases e:((cs.length:Nat):Int)=0
 .have:aq ad cs.length=[]:=(by unfold aq;rw[Tz e]);rw[this]at G ⊢;have L:ws.length=0:=G;have N:cs.length=0:=af;rw[L,N];simp
 .have J:(aq ad cs.length).length=(gZ ad cs.length).toNat:=by
   unfold aq;rw[Tx e];unfold aM;rw[mu,Lr]
  have I:0<((cs.length:Nat):Int):=af;have h1:¬ cE (jm ad) (gZ ad cs.length):=λz=>h (.inr #[I,.inl z]);have h2:¬ gZ ad cs.length<1:=λz=>h1 (.inl z);rw[J]at G ⊢;unfold gZ at *;omega
theorem EI {k:Nat}{ws:List Int}(h:ws.length=8*k):∀G∈f6 k ws,G.length=8:=by
 intro G I;unfold f6 at I;let#[i,hi,rfl]:=rr.mp I;have:=Lg.mp hi;rw[HC,Mn,h];omega
end Rm
namespace St
open PySem L2
noncomputable def fY (cv:Int->Int->List Int) (t:Int) (l:List (Int×List Int)):Int->Int->List Int:=λt' q=>if t'=t then(Tb.look l q).getD (cv t' q)else cv t' q
theorem vg {cv:Int->Int->List Int}{t:Int}:fY cv t []=cv:=by
 funext t' q;unfold fY;by_cases z:t'=t
 .rw[Tz z];rfl
 .rw[Tx z]
theorem sj {cv:Int->Int->List Int}{t t' q:Int}{l:List (Int×List Int)}{p:Int}{r:List Int}:fY cv t ((p,r)::l) t' q=if t'=t/\q=p then r else fY cv t l t' q:=by
 unfold fY;by_cases z:t'=t
 .rw[Tz z,Tz z,Tb.aO];by_cases G:p=q
  .rw[Tz G,Tz #[z,G.symm]];rfl
  .rw[Tx G,Tx (λh=>G h.2.symm)]
 .rw[Tx z,Tx z,Tx (λh=>z h.1)]
noncomputable def eO (f:Int->List Int) (ad:Int) (cs:List Int):List (List Int):=Rm.f6 (Rm.aq ad cs.length).length (Rm.dS (bS f (Rm.aq ad cs.length)) (ad%8).toNat cs)
noncomputable def Ep (y:List (Int×Pg.Ent)) (ps:List Int) (s:Pg.PS):Prop:=(0:Int)∈s.ow true->∀q∈ps,∀k,Tb.look y q=some (some k)->∃m,s.pl k=some (true,m)
inductive qS (K:iF) (c:CA) (vs:List V) (H:Hp) (Q:VK) (e3:XK):Prop
 |mk (M:Addr->Prop) (a:RA) (s:Pg.PS) (W:di) (cv:Int->Int->List Int) (t ad:Int) (ca:Addr) (cs:List Int) (x:TD) (_:vs=[.ref a.rp,.int t,.int ad,.ref ca]) (_:ay c H M a s W) (_:Pg.RI s (ents W)) (_:Cv s W cv) (_:Tb.look W t=some x) (_:bA K H ca (cs.map V.int)) (_:cs.length<=500) (_:0<=ad) (_:ad<=1000) (_:¬ Rm.cX ad cs.length (x.t.map (·.1))) (_:∀(H':Hp) (M':Addr->Prop) (s':Pg.PS) (y:TD),ay c H' M' a s' (Tb.aW W t y)->Pg.RI s' (ents (Tb.aW W t y))->Cv s' (Tb.aW W t y) (fY cv t (((Rm.aq ad cs.length).zip (eO (cv t) ad cs)).reverse))->(∀q,¬ q∈Rm.aq ad cs.length->Tb.look y.t q=Tb.look x.t q)->(∀q∈Rm.aq ad cs.length,∃k,Tb.look y.t q=some (some k))->Step H M (a.own W) H' M' (a.own (Tb.aW W t y))->((∀b,(s'.ow b).length=(s.ow b).length)/\Pg.KB s s'/\Ep y.t (Rm.aq ad cs.length) s'/\m6 y.t (Rm.aq ad cs.length) (Rm.aq ad cs.length).length s')->Q .non H'):qS K c vs H Q e3
theorem jC (ad n:Int):(Rm.aq ad n).Nodup:=by
 unfold Rm.aq;by_cases e:n=0
 .rw[Tz e];show Mt
 .rw[Tx e];show pR _ _
theorem kT {α G:Type}{F:α->G->Prop}:∀{xs:List α}{ys:List G}{i:Nat}{x:α},Paired F xs ys->xs[i]?=some x->∃y,ys[i]?=some y/\F x y
 |_,_,_,_,.nil,e=>by simp at e
 |_,_,0,_,.cons r _,e=>by simp at e;subst e;show#[0,r]
 |_,_,i+1,x,.cons _ t,e=>by
  let#[u,h1,h2]:=kT (i:=i) (x:=x) t (by simpa using e);show#[u,by simpa using h1,h2]
section
variable {P:rz}{w:C1}{K:iF}{mg:Str->Option Value}{base:Heap}
theorem qQ:aC ["self","task","address","cells","table","pages","whole","page","changed"] ["self","task","address","cells"] (aw wk):=L2.bC
theorem y4 {f:Addr}{fd:qj}{c:CA}(F:cI K "poke" "Rooms.poke" wk f fd) (T:oQ K mg c) (TT:Tb.Txt K mg c.T) (GR:Df P w K mg base aV 1 "room_of" dQ) (GO:Df P w K mg base aV 2 "pages_of_cells" Rm.iT) (ei:Df P w K mg base aV 1 "pages_with" (Rm.vc K)) (dj:Md P w K mg base aV 1 c.T "pages" (Tb.ff c.T)) (GG:Md P w K mg base aV 3 c.T "get" (Tb.nV c.T)) (GL:Md P w K mg base aV 3 c.T "lay" (Tb.sJ K c.T)) (db:Md P w K mg base aV 5 c.C "cells_of" (iI c)) (em:Md P w K mg base aV 9 c.C "sheet_with" (gW c)):a8 P w K mg base aV 10 f fd ["self","task","address","cells"] (qS K c):=by
 show F.dh qQ (λeq A outer s H vs Q E U h=>?_);let#[M,a,s',W,cv,t,ad,ca,cs,x,rfl,R,ri,ci,Y,bx,n6,eo,et,hb,q]:=h;have hs:=vu;let#[dx,ho]:=R.ob;have TX:=R.tb _ (Tb.az Y);let#[c0,ht]:=TX.at_.ob;let#[c1,c2]:=Rm.gy hb;show#[_,(ag (dr 4 qQ.nd (pc GR U ax (aa (aK (pv 0) rfl) (aa (pv 1) ai))))
  (ag (dr 5 qQ.nd (pc GO U ax (aa (ug (pv 4) TT.cl dj U ax) (aa (pv 2) (aa (aQ bG (by rfl) T.len boot_len (aa (pv 3) ai)) ai)))))
  (ag (dr 6 qQ.nd (cg ai))
  (ag (cG D3 rfl (fU (pv 5)) (gb 7 qQ.nd) (ak (aL (ip LJ ML PB pS (pv 6) (aa (pm (pv 0) T.cl db U ax (aa (pm (pv 4) TT.cl GG U ax (aa (pv 7) ai)) ai)) ai)))))
  (ak (cG D3 rfl (FJ (by rfl) T.zip (aa (pv 5) (aa (pc ei U ax (aa (pv 6) (aa (pv 2) (aa (pv 3) ai)))) ai))) (dF rfl (bg (gb 7 qQ.nd) (bg (gb 8 qQ.nd) cV))) (ak (aL (pm (pv 4) TT.cl GL U ax (aa (pv 7) (aa (b7 (aa aH (aa (pm (pv 0) T.cl em U ax (aa (pm (pv 4) TT.cl GG U ax (aa (pv 7) ai)) (aa (pv 8) ai))) ai))) ai))))))))))),?_]
 show#[0,a.rp,c.C,dx,_,0,ho,T.cl,T.nR,fP _ _ _,0,a.rd,W,t,x,rfl,R.hd,Y,?_];show#[0,x.p,c0,0,ht,Tb.aY _ ao,x.p,x.fs,x.tb,rfl,TX.at_,λH1 l1 ns s1 ew ek pm ey=>?_];have bi:∀{z},z∈x.t.map (·.1)->z∈ns:=λ{z} h=>(TX.mem pm z).mpr ((TX.keys z).mp h);show#[0,0,ca,0,.inl (Rm.eD bx (s1 _)),l1,ns,ad,cs.length,by rw[mu];rfl,ek,λh=>hb (Rm.wF (λz hz=>bi hz) h),λH2 l2 s2 ea bd=>?_];generalize eP:Rm.aq ad cs.length=ps at *;have d5:ps.Nodup:=(by rw[<-eP];show jC _ _);have S2:=s1.trans s2;have R2:=R.same S2;show#[av,λG a6=>?_];have R3:=R2.FX (o:=.lst []) a6;have s3:aZ H2 (upd H2 G (.lst [])):=Tb.au a6;have ee:upd H2 G (.lst []) G=some (.lst []):=ae;generalize upd H2 G (.lst [])=H3 at *;have ba:H G=none:=S2.free a6;have dp:¬ a.own W G:=λz=>R.mt _ (R.dw _ z) ba;have bm:=s3 _ _ bd;have c5:H l2=none:=s1.free ea;have en:¬ a.own W l2:=λz=>R.mt _ (R.dw _ z) c5;have b6:l2≠G:=λz=>(by rw[z,a6]at bd;cases bd);have ce:∀p∈ps,∃e,Tb.look x.t p=some e:=λp aT=>by
  cases z:Tb.look x.t p with
  |none=>show absurd z ((TX.keys p).mp (c2 p aT))
  |some e=>show#[e,rfl]
 show#[0,l2,rfl,#[_,bA.of bm],?_];show fG (K:=K) (a:=l2) (xs:=ps.map V.int) (λi σ H4=>∃v7:Option V,FT (σ=[some (.ref a.rp),some (.int t),some (.int ad),some (.ref ca),some (.ref x.p),some (.ref l2),some (.ref G),v7,none]) (ay c H4 (λb=>M b\/b=G) a s' W) (H4 G=some (.lst ((bS (cv t) (ps.take i)).map V.int))) ((bS (cv t) (ps.take i)).length=8*i) (Off (· = G) H3 H4))
  #[0,R3,ee,rfl,λ_ _ e _=>e] (λi σ H4 _ z0=>by let#[_,_,_,_,_,o4]:=z0;show bA.of (o4 _ _ bm b6)) ?_ ?_
 .rintro i u σ H4 hu ⟨v7,rfl,R4,a4,bc,o4⟩;rw[se]at hu;let#[p,J,rfl]:=pf.mp hu;have aT:=vr J;let#[hi,dV]:=kz.mp J;have T4:=R4.tb _ (Tb.az Y);let#[dl,cT]:=T4.at_.ob;let#[d4,ef]:=R4.ob;let#[e,he]:=ce p aT;have b4:=ci t x Y p e he;have c8:=xM.len ri.good b4;show#[0,.inl #[4,bA.of a4],0,a.rp,d4,0,ef,fA _ _ _ ao ao ao,0,x.p,dl,0,cT,Tb.aY _ ao,0,x.p,x.fs,x.tb,p,rfl,T4.at_,λH5 v s5 hv=>?_];rw[T4.lk,he]at hv;let#[tt,rfl,bv]:=hv;show#[_,a,s',W,tt,e,cv t p,rfl,R4.same s5,ri.good,bv,b4,λH7 l7 s7 f7 h7=>?_];have S7:=s5.trans s7;have R7:=R4.same S7;have cz:=S7 _ _ a4;show#[G,l7,_,0,rfl,cz,h7,by rw[mu,mu];omega,?_];rw[<-DO, <-fb J];show#[0,R7.J2 cz (.inr rfl) dp,ae,by rw[fb J,wh];omega,λb o e z=>by rw[ah z];show S7 _ _ (o4 b o e z)]
 .rintro σ H4 ⟨v7,rfl,R4,a4,bc,o4⟩;rw[mu,LN]at a4 bc;have d1:bA K H4 ca (cs.map V.int):=Rm.eD bx λo e=>o4 _ _ (s3 _ _ (S2 _ _ e)) (λz=>by rw[z,ba]at e;cases e);have ec:=o4 _ _ bm b6;have bl:=Rm.m4 hb (ws:=bS (cv t) ps) (by rw[eP];show bc);rw[eP]at bl;show#[0,0,0,0,G,ca,_,cs,ad,ps.length,rfl,a4,d1,by rw[bc];omega,af,c1,bl,λH5 l5 rs s5 dL b2 bb d8 ev=>?_];have R5:=R4.same s5;have cq:=s5 _ _ ec;have bF:rs.length=ps.length:=by
   rw[bb.length];unfold Rm.f6;rw[mu,Lr]
  have h8:=Rm.EI bl;generalize eC:Rm.f6 ps.length (Rm.dS (bS (cv t) ps) (ad%8).toNat cs)=ch at bb h8;have dM:ch.length=ps.length:=(by rw[<-bb.length,bF]);have el:eO (cv t) ad cs=ch:=(by unfold eO;rw[eP];show eC);have cS:Step H M (a.own W) H5 (λb=>M b\/b=G) (a.own W):=#[λb o e z=>s5 _ _ (o4 _ _ (s3 _ _ (S2 _ _ e)) (λy=>by rw[y,ba]at e;cases e)),λb z _=>.inl z,λb z=>z.elim .inl λz=>.inr (by rw[z];show ba),λb z=>.inl z,R.mt,R.dw];have b3:∀r∈rs,¬ (M r\/r=G):=λr U z=>R4.mt r z (d8 r U);have dd:∀{l},H4 l=none->¬ a.own W l:=λh z=>R4.mt _ (R4.dw _ z) h;show#[l2,l5,rfl,#[_,bA.of cq],#[_,bA.of b2],?_];show CH (K:=K) (a:=l2) (b:=l5) (xs:=ps.map V.int) (ys:=rs.map V.ref) (λi σ H6=>BF λ(v7 v8:Option V) (M6:Addr->Prop) (O:Pg.PS) (y:TD)=>ID (σ=[some (.ref a.rp),some (.int t),some (.int ad),some (.ref ca),some (.ref y.p),some (.ref l2),some (.ref G),v7,v8]) (ay c H6 M6 a O (Tb.aW W t y)) (Pg.RI O (ents (Tb.aW W t y))) (Cv O (Tb.aW W t y) (fY cv t (((ps.zip ch).take i).reverse))) ((∀q,¬ q∈ps.take i->Tb.look y.t q=Tb.look x.t q)) ((∀q∈ps.take i,∃k,Tb.look y.t q=some (some k))) (Step H5 (λb=>M b\/b=G) (a.own W) H6 M6 (a.own (Tb.aW W t y))) ((∀b,(O.ow b).length=(s'.ow b).length)/\Pg.KB s' O/\Ep y.t (ps.take i) O/\m6 y.t ps i O))
   #[2,_,s',x,rfl,by rw[cM R.nd Y];show R5,by rw[cM R.nd Y];show ri,by rw[cM R.nd Y,Qw];change Cv s' W (fY cv t []);rw[vg];show ci,λ_ _=>rfl,λq L=>by simp at L,by rw[cM R.nd Y];show R5.refl,λ_=>rfl,Pg.KB.refl,λ_ q L=>(by simp at L),λ_ _ _ h=>(by cases h)] (by rw[mu,mu,bF]) (λi σ H6 _ z0=>by
    let#[_,_,_,_,_,_,_,_,_,_,_,st,_]:=z0;show#[bA.of (st.off _ _ cq en),bA.of (st.off _ _ b2 (dd dL))]) ?_ ?_
  .rintro i u v σ H6 z hu hv hz ⟨v7,v8,M6,O,y,rfl,R6,bq,a1,a3,a7,a5,as⟩;rw[se]at hu hv;let#[p,J,rfl]:=pf.mp hu;let#[r,bI,rfl]:=pf.mp hv;have bY:r∈rs:=vr bI;have aT:=vr J;let#[hi,dV]:=kz.mp J;let#[ac,bz,cm]:=kT bb bI;have eg:=h8 ac (vr bz);have eb:¬ p∈ps.take i:=λz=>by
    let#[j,I,e]:=LX z;rw[NY]at e;rw[HC]at I;show nE d5 j i (tu af) J af e
   have d7:=a5.off _ _ cm (λw=>b3 r bY (R5.dw _ w));have c3:¬ M6 r:=λw=>(a5.mn r w).elim (b3 r bY) λw=>(by rw[cm]at w;cases w);have sT:=Tb.au (X:=.tup [.int p,.ref r]) hz;show#[z,[.int p,.ref r],rfl,bL.of ae,rfl,.int p,[.ref r],rfl,.ref r,[],1,?_];have R7:=R6.same sT;have S7:=a5.trans (R6.iy sT);have c4:=sT _ _ d7;generalize upd H6 z (.tup [.int p,.ref r])=H7 at *;have am:=iE (y:=y) Y;have T7:=R7.tb _ (Tb.az am);let#[b5,cP]:=T7.at_.ob;let#[d2,da]:=R7.ob;let#[e,cx]:=ce p aT;have he:Tb.look y.t p=some e:=(a3 p eb).trans cx;show#[0,y.p,b5,0,cP,Tb.aY _ ao,0,0,a.rp,d2,0,da,fA _ _ _ ao ao ao,0,y.p,b5,0,cP,Tb.aY _ ao,0,y.p,y.fs,y.tb,p,rfl,T7.at_,λH8 v s8 hv=>?_];rw[T7.lk,he]at hv;let#[tt,rfl,bv]:=hv;have R8:=R7.same s8;have S8:=S7.trans (R7.iy s8);have pe:(ents (Tb.aW W t y)).Perm (e::(ue (Tb.bf y.t p)++ents (Tb.bf (Tb.aW W t y) t))):=(kN R7.nd am).trans ((tj T7.nd he).append_right _);show#[0,M6,a,O,Tb.aW W t y,tt,r,e,_,ac,rfl,R8,bq.perm pe,bv,s8 _ _ c4,c3,eg,λH9 s9 k R9 d3 b0 dm c7 aB=>?_];show#[dZ,λu fu=>?_];have sU:=Tb.au (X:=.tup [.str "sheet",.int k]) fu;have bn:=R9.same sU;have dO:=(S8.trans c7).trans (R9.iy sU);have dI:upd H9 u (.tup [.str "sheet",.int k]) u=some (.tup [.str "sheet",.int k]):=ae;have dz:=bn.tb _ (Tb.az am);let#[g1,g2]:=TX.pg (q:=p) (by rw[cx];simp);show#[y.p,y.fs,u,y.tb,p,[.str "sheet",.int k],rfl,dz.at_,g1,g2,.inl dI,rfl,λdT a2 c9 d6 cp cc=>?_];have TI:dq c.T dT #[y.p,y.fs,a2,(p,some k)::Tb.bf y.t p]:=#[c9,Tb.EL T7.nd,λj=>by
    rw[d6 j,Tb.gh];by_cases w:j=p
    .rw[Tz w,Tz w];rfl
    .rw[Tx w,Tx w];show T7.lk j]
   have b1:=bn.uH (y:=#[y.p,y.fs,a2,(p,some k)::Tb.bf y.t p]) am rfl TI cp cc;have bE:=dO.trans (bn.qf (y:=#[y.p,y.fs,a2,(p,some k)::Tb.bf y.t p]) am cp cc);have cr:=Av (y:=#[y.p,y.fs,a2,(p,some k)::Tb.bf y.t p]) (e:=some k) (q:=p) R7.nd am rfl;rw[set_set]at b1 bE cr;have ej:(ps.zip ch)[i]?=some (p,ac):=by
    rw[OV];show#[J,bz]
   show#[2,_,s9,#[y.p,y.fs,a2,(p,some k)::Tb.bf y.t p],rfl,b1,d3.perm cr.symm,3,?_,bE,λb=>(aB.1 b).trans (as.1 b),as.2.1.trans aB.2.1,λz q L k' N=>?_,λj q k' I L N=>?_]
   .intro ap be a0 q S ab;rw[LA,ej,show(some (p,ac)).toList=[(p,ac)]from rfl,NZ,show([(p,ac)]:List (Int×List Int)).reverse=[(p,ac)]from rfl,List.singleton_append,sj];rw[Tb.bM ap Y]at a0;have cC:∀{S},S∈ue (Tb.bf y.t p)\/S∈ents (Tb.bf (Tb.aW W t y) t)->S∈ue (Tb.bf y.t p)++ents (Tb.bf (Tb.aW W t y) t):=λh=>n7.mpr h;by_cases w:ap=t
    .rw[Tz w]at a0;cases a0;have ab:Tb.look ((p,some k)::Tb.bf y.t p) q=some S:=ab;rw[Tb.gh]at ab;by_cases w2:q=p
     .rw[Tz w2]at ab;cases ab;rw[Tz #[w,w2]];show dm
     .rw[Tx w2]at ab;rw[Tx (λh=>w2 h.2)];show b0 S (cC (.inl ?_)) _ (a1 ap y (by rw[w];show am) q S ab);show rr.mpr #[(q,S),Tb.nD (Tb.az ab) w2,rfl]
    .rw[Tx w]at a0;rw[Tx (λh=>w h.1)];have h2:Tb.look (Tb.aW W t y) ap=some be:=(by rw[Tb.bM ap Y,Tx w];show a0);show b0 S (cC (.inr ?_)) _ (a1 ap be h2 q S ab);show Ob.mpr #[(ap,be),Tb.nD (Tb.az h2) w,rr.mpr #[(q,S),Tb.az ab,rfl]]
   .intro j I;rw[LA,J]at I;have w:j≠p:=λw=>I (by rw[w];simp);change Tb.look ((p,some k)::Tb.bf y.t p) j=_;rw[Tb.gh,Tx w];show a3 j λh=>I (LR _ h)
   .intro j I;change ∃k',Tb.look ((p,some k)::Tb.bf y.t p) j=some (some k');rw[Tb.gh];by_cases w:j=p
    .rw[Tz w];show#[k,rfl]
    .rw[Tx w];rw[LA,J]at I;rcases n7.mp I with I|I
     .show a7 j I
     .show absurd (by simpa using I) w
   .have N:Tb.look ((p,some k)::Tb.bf y.t p) q=some (some k'):=N;rw[Tb.gh]at N;by_cases w:q=p
    .rw[Tz w]at N;cases N;show aB.2.2
    .rw[Tx w]at N;rw[LA,J]at L;rcases n7.mp L with L|L
     .show(aB.2.1 z).2 k' (as.2.2.1 (aB.2.1 z).1 q L k' N)
     .show absurd (by simpa using L) w
   .have:j=i:=af;subst this;rw[J]at L;cases L;have N:Tb.look ((p,some k)::Tb.bf y.t p) p=some (some k'):=N;rw[Tb.gh,Tz rfl]at N;cases N;show aB.2.2
  .rintro σ H6 ⟨v7,v8,M6,O,y,rfl,R6,bq,a1,a3,a7,a5,as⟩;rw[mu,LN]at a3 a7 as;rw[mu,LF (by rw[List.length_zip,dM];omega), <-el]at a1;show q H6 M6 O y R6 bq a1 a3 a7 (cS.trans a5) as
end
noncomputable def my (cv:Int->Int->List Int) (t o:Int):Int->Int->List Int:=λt' q=>if t'=o then cv t q else cv t' q
inductive qY (c:CA) (vs:List V) (H:Hp) (Q:VK) (e3:XK):Prop
 |mk (M:Addr->Prop) (a:RA) (s:Pg.PS) (W:di) (cv:Int->Int->List Int) (t o:Int) (x:TD) (_:vs=[.ref a.rp,.int t,.int o]) (_:ay c H M a s W) (_:Pg.RI s (ents W)) (_:Cv s W cv) (_:W.length<=1000) (_:Tb.look W t=some x) (_:Tb.look W o=none) (_:(ents W).length+x.t.length<=bH s) (_:∀(H':Hp) (M':Addr->Prop) (s':Pg.PS) (y:TD),(∀q,Tb.look y.t q=Tb.look x.t q)->ay c H' M' a s' (W++[(o,y)])->Pg.RI s' (ents (W++[(o,y)]))->Cv s' (W++[(o,y)]) (my cv t o)->Step H M (a.own W) H' M' (a.own (W++[(o,y)]))->((∀b,(s'.ow b).length=(s.ow b).length)/\Pg.Up s s')->Q .non H'):qY c vs H Q e3
theorem l9 (W:di) (o:Int) (y:TD):ents (W++[(o,y)])=ents W++ue y.t:=by
 unfold ents;rw[Ov];simp
section
variable {P:rz}{w:C1}{K:iF}{mg:Str->Option Value}{base:Heap}
theorem yo:aC ["self","task","other","table","pages","copied","page","entry"] ["self","task","other"] (aw uq):=L2.bC
theorem zD {f fI:Addr}{fd dI:qj}{c:CA}(F:cI K "copy" "Rooms.copy" uq f fd) (T:oQ K mg c) (TT:Tb.Txt K mg c.T) (TP:ox K mg c.P) (MK:Mk K c.T fI) (da:mg "Table" = some (.ref c.T)) (GR:Df P w K mg base aV 1 "room_of" dQ) (GS:Df P w K mg base aV 1 "refuse_second_room" jD) (GA:Df P w K mg base aV 1 "refuse_above" lP) (GI:a8 P w K mg base aV 1 fI dI ["self"] (Tb.hU c.T)) (bI:Binds K dI ["self"] []) (cq:Md P w K mg base aV 1 c.T "pages" (Tb.ff c.T)) (GH:Md P w K mg base aV 2 c.C "held" (jz c)) (GG:Md P w K mg base aV 3 c.T "get" (Tb.nV c.T)) (GL:Md P w K mg base aV 3 c.T "lay" (Tb.sJ K c.T)) (dm:Md P w K mg base aV 4 c.P "share" (rQ c.P c.S)):a8 P w K mg base aV 5 f fd ["self","task","other"] (qY c):=by
 let#[aB,mB,sB]:=T.bl;have rB:RelV (.ref aB) (.ref aB):=rfl;show F.dh yo (λdz A outer s H vs Q E L h=>?_);let#[M,a,s',W,cv,t,o,x,rfl,R,ri,c3,lw,hx,a2,cS,q]:=h;have hs:=vu;let#[dx,ho]:=R.ob;have TX:=R.tb _ (Tb.az hx);let#[b6,ht]:=TX.at_.ob;show#[_,(ag (dr 3 yo.nd (pc GR L ax (aa (aK (pv 0) rfl) (aa (pv 1) ai))))
  (ag (aL (pc GS L ax (aa (aK (pv 0) rfl) (aa (pv 2) ai))))
  (ag (dr 4 yo.nd (ug (pv 3) TT.cl cq L ax))
  (ag (aL (pc GA L ax (aa (aA bp (ug (pv 0) T.cl GH L ax) (aQ bG (by rfl) T.len boot_len (aa (pv 4) ai))) (aa (aK (pv 0) rfl) ai))))
  (ag (dr 5 yo.nd (t6 MK GI (L.mono av) (by rfl) da bI .nil ax))
  (ag (cG D3 rfl (fU (pv 4)) (gb 6 yo.nd) (ag (dr 7 yo.nd (pm (pv 3) TT.cl GG L ax (aa (pv 6) ai)))
  (ag (aL (pm (pv 5) TT.cl GL L ax (aa (pv 6) (aa (pv 7) ai))))
  (ak (aS (aD (ur L.ix) (pv 7) (cu (by rfl) mB rB) (aI _)) (ak (aL (pm (aK (pv 0) rfl) TP.cl dm L ax (aa (aP aN (pv 7) aj bW) ai)))) aF)))))
  (ak (jQ (a9 L) (aK (pv 0) rfl) (pv 2) (pv 5) rfl)))))))),?_]
 show#[0,a.rp,c.C,dx,_,0,ho,T.cl,T.nR,fP _ _ _,0,a.rd,W,t,x,rfl,R.hd,hx,?_];show#[0,a.rp,c.C,dx,_,0,ho,T.cl,T.nR,fP _ _ _,0,a.rd,W,o,rfl,R.hd,a2,?_];show#[0,x.p,b6,0,ht,Tb.aY _ ao,x.p,x.fs,x.tb,rfl,TX.at_,λH1 O ns s1 dp dl pm dM=>?_];have R1:=R.same s1;have ch:ns.length=x.t.length:=TX.len pm;let#[ci,c0]:=R1.ob;show#[0,a.rp,ci,0,c0,fA _ _ _ ao ao ao,M,a,s',W,rfl,R1,lw,λH2 s2=>?_];have R2:=R1.same s2;have a7:=s2 _ _ dl;let#[cC,dj]:=R2.ob;show#[0,O,0,.inl (bA.of a7),_,0,rfl,0,a.rp,c.C,cC,_,0,dj,T.cl,T.nT,G8 _ _ _,_,0,by rw[mu,ch];omega,?_];have S2:=s1.trans s2;show λp cp np bz dO=>#[p,cp,rfl,ae,λfs H3 bn T3 off=>#[5]];have s3:aZ H2 H3:=λb u e=>off b u (by rw[ah (ar e np),ah (ar e bz)];show e) (ar e np);have a4:H2 fs=none:=by
  cases e:H2 fs with
  |none=>rfl
  |some u=>rw[ah (ar e np),ah (ar e bz),e]at bn;cases bn
 have bd:H fs=none:=S2.free a4;have cP:H p=none:=S2.free np;have R3:=R2.BJ (H':=H3) (B:=λ_=>False) (M':=λb=>M b\/b=fs) (λb o e _=>s3 b o e) (λb z=>z.elim) (λb z=>z.elim) (λb z=>z.elim .inl λz=>.inr (by rw[z];show a4)) (λb z _=>.inl z) (λb z e=>z.elim (λz=>(R2.same s3).mt b z e) λz=>by rw[z,T3.hf]at e;cases e);have bm:=s3 _ _ a7;have ce:¬ a.own W O:=λz=>R.mt _ (R.dw _ z) dp;have c4:Step H M (a.own W) H3 (λb=>M b\/b=fs) (a.own W):=#[λb o e _=>s3 _ _ (S2 _ _ e),λb z _=>.inl z,λb z=>z.elim .inl λz=>.inr (by rw[z];show bd),λb z=>.inl z,R.mt,R.dw];have dd:∀b,(TD.mk p fs [] []).eI b->b=fs:=λb z=>by
  rcases z with z|⟨_,hx,_⟩
  .show z
  .cases hx
 have c8:ns.Nodup:=pm.nodup_iff.mpr (Tb.jS TX.at_);show#[0,O,rfl,#[_,bA.of bm],?_];show fG (K:=K) (a:=O) (xs:=ns.map V.int) (λi σ H4=>BF λ(v6 v7:Option V) (M4:Addr->Prop) (s4:Pg.PS) (y:TD)=>Ia (σ=[some (.ref a.rp),some (.int t),some (.int o),some (.ref x.p),some (.ref O),some (.ref y.p),v6,v7]) (ay c H4 M4 a s4 W) (dq c.T H4 y) ((∀b,y.eI b->M4 b/\¬ a.own W b/\H b=none/\b≠O)) (¬ a.A.own y.p) ((∀q,Tb.look y.t q=if q∈ns.take i then Tb.look x.t q else none)) (Pg.RI s4 (ue y.t++ents W)) (y.t.length=i) (Cv s4 W cv) ((∀q e,Tb.look y.t q=some e->Pg.xM s4 e (cv t q))) (Step H M (a.own W) H4 M4 (a.own W)) (H4 O=some (.lst (ns.map V.int))) ((∀b,(s4.ow b).length=(s'.ow b).length)/\Pg.Up s' s4))
  #[2,_,s',#[p,fs,[],[]],rfl,R3,#[T3,Mt,λq=>rfl],λb z=>?_,λz=>R.mt _ (R.ok.own _ z) cP,λq=>by simp[Tb.ie],ri,rfl,c3,λq e h=>(by cases h),c4,bm,λ_=>rfl,Pg.Up.refl] (λi σ H4 _ z0=>by let#[_,_,_,_,_,_,_,_,_,_,_,_,_,_,_,_,h,_]:=z0;show bA.of h) ?_ ?_
 .rw[dd b z];show#[.inr rfl,λw=>R.mt _ (R.dw _ w) bd,bd,λw=>by rw[w,a7]at a4;cases a4]
 .rintro i u σ H4 hu ⟨v6,v7,M4,s4,y,rfl,N,Y,J,a1,a0,ab,a6,aT,a3,ap,bc,am⟩;rw[se]at hu;let#[G,hp,rfl]:=pf.mp hu;have ca:=vr hp;let#[hi,dL]:=kz.mp hp;have c9:¬ G∈ns.take i:=λz=>by
   let#[j,hj,e]:=LX z;rw[NY]at e;rw[HC]at hj;show nE c8 j i (tu af) hp af e
  obtain⟨e,he⟩:∃e,Tb.look x.t G=some e:=by
   cases z:Tb.look x.t G with
   |none=>show absurd z ((TX.mem pm G).mp ca)
   |some e=>show#[e,rfl]
  have cr:Tb.look y.t G=none:=(by rw[a0,Tx c9]);have X4:=N.tb _ (Tb.az hx);let#[cx,b4]:=X4.at_.ob;show#[0,x.p,cx,0,b4,Tb.aY _ ao,0,x.p,x.fs,x.tb,G,rfl,X4.at_,λH5 v s5 hv=>?_];rw[X4.lk,he]at hv;let#[tt,rfl,be]:=hv;have R5:=N.same s5;have T5:dq c.T H5 y:=#[Y.at_.same s5,Y.nd,Y.lk];let#[cm,c7]:=T5.at_.ob;let#[g1,g2]:=TX.pg (q:=G) (by rw[he];simp);have c5:Tb.oo (yq e)=true:=(by cases e<;>rfl);show#[0,y.p,cm,0,c7,Tb.aY _ ao,0,0,y.p,y.fs,tt,y.tb,G,yq e,rfl,T5.at_,g1,g2,.inl be,c5,λH6 ac T6 l6 o6 n6=>?_];have cT:¬ y.eI tt:=λz=>by
   let#[_,h]:=T5.at_.dK z;rw[be]at h;cases h
  have b1:=o6 _ _ be cT;have bb:dq c.T H6 #[y.p,y.fs,ac,(G,e)::y.t]:=#[T6,KW.mpr #[Tb.cf cr,Y.nd],λj=>by
   rw[l6 j,Tb.aO];by_cases z:j=G
   .rw[Tz z,Tz z.symm];rfl
   .rw[Tx z,Tx (qw z)];show Y.lk j]
  have bE:∀{b},H5 b=none->¬ a.own W b/\H b=none:=λ{b} h=>by
   have no:¬ a.own W b:=λz=>R5.mt _ (R5.dw _ z) h;show#[no,((ap.trans (N.iy s5)).gone h).resolve_left no]
  have U:=R5.BJ (H':=H6) (B:=y.eI) (M':=λb=>(M4 b/\¬ y.eI b)\/(TD.mk y.p y.fs ac ((G,e)::y.t)).eI b) o6 (λb z=>#[(J b z).1,(J b z).2.1]) (λb z=>.inr (T5.at_.dK z)) (λb z=>z.elim (λz=>.inl z.1) λz=>(n6 b z).elim (λz=>.inl (J b z).1) .inr) (λb z w=>.inl #[z,w]) (λb z w=>by
   rcases z with z|z
   .cases e2:H5 b with
    |none=>show R5.mt b z.1 e2
    |some u=>rw[o6 b u e2 z.2]at w;cases w
   .let#[_,h]:=bb.at_.dK z;rw[w]at h;cases h)
  have a5:∀b,(TD.mk y.p y.fs ac ((G,e)::y.t)).eI b->((M4 b/\¬ y.eI b)\/(TD.mk y.p y.fs ac ((G,e)::y.t)).eI b)/\¬ a.own W b/\H b=none/\b≠O:=λb z=>by
   rcases n6 b z with w|w
   .show#[.inr z,(J b w).2]
   .show#[.inr z,(bE w).1,(bE w).2,λy=>by rw[y,s5 _ _ bc]at w;cases w]
  have ba:=ap.trans (N.iy s5);have b2:Step H M (a.own W) H6 (λb=>(M4 b/\¬ y.eI b)\/(TD.mk y.p y.fs ac ((G,e)::y.t)).eI b) (a.own W):=#[λb o e z=>o6 _ _ (ba.off b o e z) (λw=>by rw[(J b w).2.2.1]at e;cases e),λb z w=>.inl #[ba.mm b z w,λy=>R.mt b z (J b y).2.2.1],λb z=>z.elim (λz=>ba.mn b z.1) λz=>.inr (a5 b z).2.2.1,λb z=>.inl z,R.mt,R.dw];have bx:=o6 _ _ (s5 _ _ bc) λz=>(J _ z).2.2.2 rfl;have bF:∀j,Tb.look ((G,e)::y.t) j=if j∈ns.take (i+1)then Tb.look x.t j else none:=λj=>by
   rw[Tb.aO,a0 j,LA,hp];by_cases z:G=j
   .rw[Tz z, <-z,Tz (by simp),he]
   .rw[Tx z];by_cases z2:j∈ns.take i
    .rw[Tz z2,Tz (LR _ z2)]
    .rw[Tx z2,Tx (by simp[qw z,z2])]
  have bq:(ue y.t++ents W).length<(s4.ow true).length+(s4.ow false).length:=by
   have e1:(ue y.t).length=i:=(by unfold ue;rw[mu];show a6);rw[wh,e1,am.1,am.1];unfold bH at cS;omega
  have bv:=aT t x hx G e he;show#[0,tt,aB,_,0,rfl,bL.of b1,iW.sq (.inr sB),?_];cases e with
  |none =>
   show#[1,0,bX ?_];show#[2,_,s4,#[y.p,y.fs,ac,(G,none)::y.t],rfl,U,bb,a5,a1,bF,ab.lay bq,by rw[KO,a6],aT,λj I h'=>?_,b2,bx,am];have h':Tb.look ((G,none)::y.t) j=some I:=h';rw[Tb.aO]at h';by_cases z:G=j
   .rw[Tz z]at h';cases h';rw[<-z];show bv
   .rw[Tx z]at h';show a3 j I h'
  |some k =>
   show#[1,0,eL ?_];let#[b5,b3]:=U.ob;let#[c1,cz]:=U.pg.ob;let#[cs,cc,hv]:=ab.is k (K0 _ (jP hx he));let#[b0,n0,hk,_,_]:=id hv;show#[0,a.rp,c.C,b5,_,0,b3,T.cl,T.nP,kW _ _ _,a.A.pg,c1,0,cz,cJ _ _ ao ao ao ao ao,0,tt,_,(1),0,rfl,bL.of b1,4,a.A,s4,k,b0,n0,cs,cc,rfl,U.Iw ab,hk,hv,λH7 G7 O7=>?_];have sm:=λI=>Pg.wx (es:=[I]) ab.good hk hv I (nq.mpr rfl);have bY:∀b,((Pg.cD s4 b0 n0 (cc+1)).ow b).length=(s4.ow b).length:=λb=>Pg.dD b;show#[2,2,#[y.p,y.fs,ac,(G,some k)::y.t],rfl,U.j7 G7 O7 bY,bb.off O7 a1 (λb z w=>(a5 b z).2.1 (.inl w)) U.pg.iS,a5,a1,bF,ab.share hk hv bq,by rw[KO,a6],aT.keep λI _=>sm I,λj I h'=>?_,b2.trans (U.Gy G7 O7),O7 _ _ bx (λz=>ce (.inl z)),λb=>(bY b).trans (am.1 b),am.2.trans λ_ _ h=>h];have h':Tb.look ((G,some k)::y.t) j=some I:=h';rw[Tb.aO]at h';by_cases z:G=j
   .rw[Tz z]at h';cases h';rw[<-z];show sm _ _ bv
   .rw[Tx z]at h';show sm _ _ (a3 j I h')
 .rintro σ H4 ⟨v6,v7,M4,s4,y,rfl,N,Y,J,a1,a0,ab,a6,aT,a3,ap,bc,am⟩;rw[mu,LN]at a0;have hy:∀j,Tb.look y.t j=Tb.look x.t j:=λj=>by
   rw[a0 j];by_cases z:j∈ns
   .rw[Tz z]
   .rw[Tx z];cases w:Tb.look x.t j with
    |none=>rfl
    |some e=>show absurd ((TX.mem pm j).mpr (by rw[w];simp)) z
  let#[c2,db]:=N.ob;show#[0,0,a.rp,c.C,c2,_,0,db,T.cl,T.nR,fP _ _ _,0,a.rd,0,fC.k (k:=ti o) N.hd (by rw[Tb.cj];omega),?_];rw[show(V.ref y.p)=fR y from rfl,Tb.cH a2];have R5:=N.zN a2 Y (λb z=>#[(J b z).1,(J b z).2.1]) a1;show q _ M4 s4 y hy R5 (by rw[l9];show ab.perm Nv) ?_ #[?_,ap.mm,ap.mn,λb z=>?_,R.mt,R.dw] am
  .intro t' x' h' j I bi;rw[Tb.bu t' a2]at h';unfold my;by_cases z:t'=o
   .rw[Tz z]at h' ⊢;cases h';show a3 j I bi
   .rw[Tx z]at h' ⊢;show aT t' x' h' j I bi
  .intro b u e z;rw[ah (λw=>z (.inr (.inl w)))];show ap.off b u e z
  .rcases z with z|z|⟨x',as,z⟩
   .show .inl (.inl z)
   .show .inl (.inr (.inl z))
   .rcases n7.mp as with as|as
    .show .inl (.inr (.inr #[x',as,z]))
    .rw[nq.mp as]at z;show .inr (J b z).2.2.1
end
noncomputable abbrev vJ:K4:=inClass (top 14) 0
noncomputable abbrev vd:K4:=inClass (top 33) 0
noncomputable def s0 (nf ns:Nat):Pg.PS:=#[λb=>replicate (if b=true then nf else ns) 0,λb=>replicate (if b=true then nf else ns) none,λ_=>none,(0),[]]
theorem FW {nf ns:Nat}(h:0<nf):Pg.RI (s0 nf ns) []:=by
 have I:∀(b:Bool) (n:Nat) (c:Int),((s0 nf ns).ow b)[n]?=some c->c=0:=λb n c e=>by
  have e:(replicate (if b=true then nf else ns) (0:Int))[n]?=some c:=e;show(QP.mp (vr e)).2
 have G:∀n:Nat,(replicate n (0:Int)).sum=0:=λn=>by
  induction n with
  |zero=>rfl
  |succ n J=>rw[Mu,Ng,J];rfl
 show#[#[(λk p e=>by cases e),(λk b n e=>by cases e),(λk j p e=>by cases e),λb n c e=>.inl (I b n c e),λb=>?_,Mt,λk=>#[(λz=>by cases z),(λ⟨n,e⟩=>by cases e)]],Lz _,λe=>?_,(λk z=>by cases z),λk cs c z=>?_,?_,KU _]
 .change(replicate _ _).length=(replicate _ _).length;rw[Lu,Lu]
 .have:(replicate nf (0:Int)).length=0:=(by rw[show replicate nf (0:Int)=[]from e];rfl);rw[Lu]at this;omega
 .let#[b,n,e,_]:=z;cases e
 .change(replicate nf (0:Int)).sum+(replicate ns (0:Int)).sum=0;rw[G,G];rfl
noncomputable def PA.nine (A:PA):List Addr:=[A.pg,A.fp,A.fo,A.fc,A.sp,A.so,A.sc,A.pd,A.il]
inductive qT (C CS:Addr) (vs:List V) (H:Hp) (Q:VK) (e3:XK):Prop
 |mk (p dx:Addr) (nf ns:Nat) (_:vs=[.ref p,.int nf,.int ns]) (_:nf<=60) (_:ns<=60) (_:H p=some (.ins C dx [])) (_:∀(H':Hp) (A:PA),A.pg=p->A.nine.Nodup->(∀b∈A.nine,b=p\/H b=none)->(∀M,bN C CS H' M A (s0 nf ns))->Off (· = p) H H'->Q .non H'):qT C CS vs H Q e3
inductive qD (c:CA) (vs:List V) (H:Hp) (Q:VK) (e3:XK):Prop
 |mk (p dx:Addr) (nf ns:Nat) (_:vs=[.ref p,.int nf,.int ns]) (_:nf<=60) (_:ns<=60) (_:0<nf) (_:H p=some (.ins c.C dx [])) (_:∀(H':Hp) (M:Addr->Prop) (a:RA),a.rp=p->ay c H' M a (s0 nf ns) []->(∀b,M b->H b=none)->Off (· = p) H H'->Q .non H'):qD c vs H Q e3
theorem cB {H:Hp}{a b:Addr}{o:HO}(h:upd H a o b=none):b≠a/\H b=none:=by
 by_cases z:b=a
 .rw[z,ae]at h;cases h
 .rw[ah z]at h;show#[z,h]
theorem hJ {C p ow co:Addr}{B:Addr->Prop}{os:List Int}{pg:List (Option (List Int))}{H H':Hp}(S:∀M,aU C H M p ow co os pg) (o:Off B H H') (I:¬ B p) (J:¬ B ow) (G:¬ B co):∀M,aU C H' M p ow co os pg:=λM =>
 ((S λb=>M b\/B b).off o (λb z=>.inr z) I J G).less λb z=>.inl z
theorem iw {C CS p dx q ow co:Addr}{fs:List (Str×V)}{os:List Int}{pg:List (Option (List Int))}{H:Hp}(G:H p=some (.ins C dx fs)) (S:∀M,aU CS H M q ow co os pg):∀b,b=p\/b=q\/b=ow\/b=co->H b≠none:=by
 intro b z e;have S:=S λ_=>False;let#[J,h2]:=S.ob;let#[_,I,_]:=S.hc;rcases z with z|z|z|z<;>rw[z]at e
 .rw[G]at e;cases e
 .rw[h2]at e;cases e
 .rw[S.hw]at e;cases e
 .rw[I]at e;cases e
theorem mJ {C CS:Addr}{H:Hp}{M:Addr->Prop}{A:PA}{s:Pg.PS}(G:bN C CS H M A s):∀b∈A.nine,H b≠none:=by
 intro b z e;unfold PA.nine at z;simp only[BY,DD,or_false]at z;let#[dx,h1]:=G.ob;let#[_,O]:=G.fr.ob;let#[_,I]:=G.sl.ob;let#[_,L,_]:=G.fr.hc;let#[_,J,_]:=G.sl.hc;let#[l,N,_]:=G.pd;rcases z with z|z|z|z|z|z|z|z|z<;>rw[z]at e
 .rw[h1]at e;cases e
 .rw[O]at e;cases e
 .rw[G.fr.hw]at e;cases e
 .rw[L]at e;cases e
 .rw[I]at e;cases e
 .rw[G.sl.hw]at e;cases e
 .rw[J]at e;cases e
 .rw[N]at e;cases e
 .rw[G.il]at e;cases e
section
variable {P:rz}{w:C1}{K:iF}{mg:Str->Option Value}{base:Heap}
theorem Jo:aC ["self","frames","slots"] ["self","frames","slots"] (aw vJ):=L2.bC
theorem AO {f C CS bb:Addr}{fd bi:qj}(F:cI K "__init__" "Paging.__init__" vJ f fd) (T:ox K mg C) (MS:Mk K CS bb) (bz:mg "Store" = some (.ref CS))
  (bE:a8 P w K mg base aV 1 bb bi ["self","many"] (hU CS)) (bn:Binds K bi ["self","many"] []):a8 P w K mg base aV 3 f fd ["self","frames","slots"] (qT C CS):=by
 show F.dh Jo (λcp A outer s H vs Q E hr h=>?_);let#[p,dx,nf,ns,rfl,n1,n2,hp,k]:=h;show#[_,(ag (fE (pv 0) (ly MS bE (hr.mono av) (by rfl) bz bn .nil ax (aa (pv 1) ai)) rfl)
  (ag (fE (pv 0) (ly MS bE (hr.mono av) (by rfl) bz bn .nil ax (aa (pv 2) ai)) rfl)
  (ag (fE (pv 0) dn rfl)
  (ag (fE (pv 0) aj rfl)
  (ak (fE (pv 0) (cg ai) rfl)))))),?_]
 show#[0,λfp ci aT bl bI=>#[fp,ci,nf,rfl,n1,ae,λO S H1 Y U ch S1 o1=>#[5]]];have m1:aZ H H1:=λb u e=>o1 b u (by rw[ah (ar e aT),ah (ar e bl)];show e) (ar e aT);let#[q1,Y]:=cB Y;let#[q2,U]:=cB U;have Y:=(cB Y).2;have U:=(cB U).2;have b6:=m1 _ _ hp;have ab:fp≠p:=qw (ar hp aT);have ap:O≠p:=qw (ar hp Y);have as:S≠p:=qw (ar hp U);clear o1 bl bI;show#[0,p,C,dx,[],rfl,b6,T.cl,T.nF,av,?_];have o2:Off (· = p) H1 (upd H1 p (.ins C dx (bo "frames" (.ref fp) []))):=Off.wr rfl;have be:upd H1 p (.ins C dx (bo "frames" (.ref fp) [])) p=some (.ins C dx (bo "frames" (.ref fp) [])):=ae;generalize upd H1 p (.ins C dx (bo "frames" (.ref fp) []))=H2 at *;have S2:=hJ S1 o2 ab ap as;have O2:Off (· = p) H H2:=λb o e z=>o2 b o (m1 b o e) z;show#[0,λsp bY a7 bF ca=>#[sp,bY,ns,rfl,n2,ae,λso sc H3 ac am ce S3 o3=>#[5]]];have m3:aZ H2 H3:=λb u e=>o3 b u (by rw[ah (ar e a7),ah (ar e bF)];show e) (ar e a7);let#[q3,ac]:=cB ac;let#[q4,am]:=cB am;have ac:=(cB ac).2;have am:=(cB am).2;clear o3 bF ca;have aB:∀b,b=p\/b=fp\/b=O\/b=S->H2 b≠none:=iw be S2;have cm:=hJ (B:=λ_=>False) S2 (λb o e _=>m3 b o e) id id id;have cc:=m3 _ _ be;show#[0,p,C,dx,0,cc,T.cl,T.nS,by change 1<1000;decide,?_];have ba:∀{b},H2 b=none->b≠p/\b≠fp/\b≠O/\b≠S/\H b=none:=λ{b} h=>#[λz=>aB b (.inl z) h,λz=>aB b (.inr (.inl z)) h,λz=>aB b (.inr (.inr (.inl z))) h,λz=>aB b (.inr (.inr (.inr z))) h,by
  cases e:H b with
  |none=>rfl
  |some u=>rw[O2 b u e λz=>aB b (.inl z) h]at h;cases h]
 let#[a1,a2,a3,a4,a5]:=ba a7;let#[b1,b2,b3,b4,b5]:=ba ac;let#[c1,c2,c3,c4,c5]:=ba am;have o4:Off (· = p) H3 (upd H3 p (.ins C dx (bo "slots" (.ref sp) (bo "frames" (.ref fp) [])))):=Off.wr rfl;have a0:upd H3 p (.ins C dx (bo "slots" (.ref sp) (bo "frames" (.ref fp) []))) p=some (.ins C dx (bo "slots" (.ref sp) (bo "frames" (.ref fp) []))):=ae;generalize upd H3 p (.ins C dx (bo "slots" (.ref sp) (bo "frames" (.ref fp) [])))=H4 at *;have bm:=hJ cm o4 ab ap as;have bc:=hJ S3 o4 a1 b1 c1;have O4:Off (· = p) H H4:=λb o e z=>o4 b o (m3 b o (O2 b o e z)) z;have b0:∀{b},H4 b=none->b≠p/\b≠fp/\b≠O/\b≠S/\b≠sp/\b≠so/\b≠sc/\H b=none:=λ{b} h=>by
  have N:=iw a0 bm;have R:=iw a0 bc;show#[λz=>N b (.inl z) h,λz=>N b (.inr (.inl z)) h,λz=>N b (.inr (.inr (.inl z))) h,λz=>N b (.inr (.inr (.inr z))) h,λz=>R b (.inr (.inl z)) h,λz=>R b (.inr (.inr (.inl z))) h,λz=>R b (.inr (.inr (.inr z))) h,?_];cases e:H b with
  |none=>rfl
  |some u=>rw[O4 b u e λz=>N b (.inl z) h]at h;cases h
 intro I bv;let#[d1,d2,d3,d4,d5,d6,d7,d8]:=b0 bv;show#[0,p,C,dx,0,by rw[ah (qw d1)];show a0,T.cl,T.nP,by change 2<1000;decide,?_];show#[0,p,C,dx,0,ae,T.cl,T.nL,by change 3<1000;decide,?_];have o7:Off (· = p) H4 (upd (upd (upd H4 I (.dK [])) p (.ins C dx (bo "places" (.ref I) (bo "slots" (.ref sp) (bo "frames" (.ref fp) []))))) p (.ins C dx (bo "last_sheet" (.int 0) (bo "places" (.ref I) (bo "slots" (.ref sp) (bo "frames" (.ref fp) [])))))):=λb o e z=>by
  rw[ah z,ah z,ah (ar e bv)];show e
 have a6:upd (upd (upd H4 I (.dK [])) p (.ins C dx (bo "places" (.ref I) (bo "slots" (.ref sp) (bo "frames" (.ref fp) []))))) p (.ins C dx (bo "last_sheet" (.int 0) (bo "places" (.ref I) (bo "slots" (.ref sp) (bo "frames" (.ref fp) []))))) p=some (.ins C dx (bo "last_sheet" (.int 0) (bo "places" (.ref I) (bo "slots" (.ref sp) (bo "frames" (.ref fp) []))))):=ae;have bd:upd (upd (upd H4 I (.dK [])) p (.ins C dx (bo "places" (.ref I) (bo "slots" (.ref sp) (bo "frames" (.ref fp) []))))) p (.ins C dx (bo "last_sheet" (.int 0) (bo "places" (.ref I) (bo "slots" (.ref sp) (bo "frames" (.ref fp) []))))) I=some (.dK []):=(by rw[ah d1,ah d1,ae]);generalize upd (upd (upd H4 I (.dK [])) p (.ins C dx (bo "places" (.ref I) (bo "slots" (.ref sp) (bo "frames" (.ref fp) []))))) p (.ins C dx (bo "last_sheet" (.int 0) (bo "places" (.ref I) (bo "slots" (.ref sp) (bo "frames" (.ref fp) [])))))=H7 at *;have bq:=hJ bm o7 ab ap as;have bx:=hJ bc o7 a1 b1 c1;have O7:Off (· = p) H H7:=λb o e z=>o7 b o (O4 b o e z) z;show#[av,λG L=>?_];have N:=iw a6 bq;have R:=iw a6 bx;have i1:G≠p:=λz=>N G (.inl z) L;have i2:G≠fp:=λz=>N G (.inr (.inl z)) L;have i3:G≠O:=λz=>N G (.inr (.inr (.inl z))) L;have i4:G≠S:=λz=>N G (.inr (.inr (.inr z))) L;have i5:G≠sp:=λz=>R G (.inr (.inl z)) L;have i6:G≠so:=λz=>R G (.inr (.inr (.inl z))) L;have i7:G≠sc:=λz=>R G (.inr (.inr (.inr z))) L;have i8:G≠I:=λz=>(by rw[z,bd]at L;cases L);have i9:H G=none:=by
  cases e:H G with
  |none=>rfl
  |some u=>rw[O7 G u e i1]at L;cases L
 show#[0,p,C,dx,0,by rw[ah (qw i1)];show a6,T.cl,T.nI,by change 4<1000;decide,?_];have o9:Off (· = p) H7 (upd (upd H7 G (.lst [])) p (.ins C dx (cN #[p,fp,O,S,sp,so,sc,I,G] 0))):=λb o e z=>by
  rw[ah z,ah (ar e L)];show e
 show k _ #[p,fp,O,S,sp,so,sc,I,G] rfl ?_ ?_ (λM=>#[#[dx,ae],hJ bq o9 ab ap as M,hJ bx o9 a1 b1 c1 M,3,[],?_,Mt,(λx hx=>by cases hx),λ_=>rfl,KU _]) (λb o e z=>o9 b o (O7 b o e z) z)
 .unfold PA.nine;simp only[KW,BY,DD,or_false,not_or,not_false_eq_true,Mt,and_true];show#[#[λh=>ab h.symm,λh=>ap h.symm,λh=>as h.symm,λh=>a1 h.symm,λh=>b1 h.symm,λh=>c1 h.symm,λh=>d1 h.symm,λh=>i1 h.symm],#[λh=>q1 h.symm,λh=>q2 h.symm,λh=>a2 h.symm,λh=>b2 h.symm,λh=>c2 h.symm,λh=>d2 h.symm,λh=>i2 h.symm],#[λh=>(qw ch) h.symm,λh=>a3 h.symm,λh=>b3 h.symm,λh=>c3 h.symm,λh=>d3 h.symm,λh=>i3 h.symm],#[λh=>a4 h.symm,λh=>b4 h.symm,λh=>c4 h.symm,λh=>d4 h.symm,λh=>i4 h.symm],#[λh=>q3 h.symm,λh=>q4 h.symm,λh=>d5 h.symm,λh=>i5 h.symm],#[λh=>(qw ce) h.symm,λh=>d6 h.symm,λh=>i6 h.symm],#[λh=>d7 h.symm,λh=>i7 h.symm],λh=>i8 h.symm]
 .intro b J;unfold PA.nine at J;simp only[BY,DD,or_false]at J;rcases J with J|J|J|J|J|J|J|J|J<;>rw[J]
  .show .inl rfl
  .show .inr aT
  .show .inr Y
  .show .inr U
  .show .inr a5
  .show .inr b5
  .show .inr c5
  .show .inr d8
  .show .inr i9
 .change upd (upd H7 G (.lst [])) p _ G=_;rw[ah i1,ae];rfl
 .intro b;change(replicate _ _).length<=60;rw[Lu];cases b
  .show n2
  .show n1
 .change upd (upd H7 G (.lst [])) p _ I=_;rw[ah d1,ah (qw i8)];show bd
theorem IZ:aC ["self","frames","slots"] ["self","frames","slots"] (aw vd):=L2.bC
theorem Aw {f aT:Addr}{fd ac:qj}{c:CA}(F:cI K "__init__" "Rooms.__init__" vd f fd) (T:oQ K mg c) (MP:Mk K c.P aT) (a1:mg "Paging" = some (.ref c.P))
  (a0:a8 P w K mg base aV 3 aT ac ["self","frames","slots"] (qT c.P c.S)) (a2:Binds K ac ["self","frames","slots"] []):a8 P w K mg base aV 5 f fd ["self","frames","slots"] (qD c):=by
 show F.dh IZ (λbd A outer s H vs Q E hr h=>?_);let#[p,dx,nf,ns,rfl,n1,n2,n3,hp,k]:=h;show#[_,(ag (fE (pv 0) (ly MP a0 (hr.mono av) (by rfl) a1 a2 .nil ax (aa (pv 1) (aa (pv 2) ai))) rfl)
  (ag (fE (pv 0) (aA bp (pv 1) (pv 2)) rfl)
  (ak (fE (pv 0) dn rfl)))),?_]
 show#[0,0,λpg a7 ab ba bc=>#[pg,a7,nf,ns,rfl,n1,n2,ae,λH1 G eA a5 am GA o1=>#[5]]];have R:aZ H H1:=λb u e=>o1 b u (by rw[ah (ar e ab),ah (ar e ba)];show e) (ar e ab);have fr:∀b∈G.nine,H b=none:=λb N=>by
  rcases am b N with h|h
  .rw[h];show ab
  .show(cB (cB h).2).2
 have as:=R _ _ hp;clear o1 am;show#[0,p,c.C,dx,[],rfl,as,T.cl,T.nP,av,?_];show#[0,0,_,0,5];show#[0,p,c.C,dx,0,ae,T.cl,T.nT,by change 1<1000;decide,?_];rw[<-eA];have O:Off (· = p) H1 (upd (upd H1 p (.ins c.C dx (bo "paging" (.ref G.pg) []))) p (.ins c.C dx (bo "total" (.int ((nf:Int)+ns)) (bo "paging" (.ref G.pg) [])))):=λb o e z=>(by rw[ah z,ah z];show e);have aB:upd (upd H1 p (.ins c.C dx (bo "paging" (.ref G.pg) []))) p (.ins c.C dx (bo "total" (.int ((nf:Int)+ns)) (bo "paging" (.ref G.pg) []))) p=some (.ins c.C dx (bo "total" (.int ((nf:Int)+ns)) (bo "paging" (.ref G.pg) []))):=ae;generalize upd (upd H1 p (.ins c.C dx (bo "paging" (.ref G.pg) []))) p (.ins c.C dx (bo "total" (.int ((nf:Int)+ns)) (bo "paging" (.ref G.pg) [])))=H3 at *;intro rd J;have L:rd≠p:=qw (ar aB J);show#[0,p,c.C,dx,0,by rw[ah (qw L)];show aB,T.cl,T.nR,by change 2<1000;decide,?_];have o5:Off (· = p) H1 (upd (upd H3 rd (.dK [])) p (.ins c.C dx (eQ G.pg ((nf:Int)+ns) rd))):=λb o e z=>(by rw[ah z,ah (ar (O b o e z) J)];show O b o e z);have U:∀b∈G.nine,b≠p:=λb N z=>(by rw[z]at N;have:=fr p N;rw[hp]at this;cases this);have Y:∀b,G.own b->b∈G.nine:=λb h=>by
  unfold PA.own at h;unfold PA.nine;simp only[BY,DD,or_false]at h ⊢;rcases h with h|h|h|h|h|h|h<;>simp[h]
 have n9:∀i {b},G.nine[i]?=some b->b≠p:=λi b h=>U b (vr h);have G5:∀M,bN c.P c.S (upd (upd H3 rd (.dK [])) p (.ins c.C dx (eQ G.pg ((nf:Int)+ns) rd))) M G (s0 nf ns):=λM=>(GA λb=>M b\/b=p).move o5 (λb z=>.inr z) (λb z=>.inl (.inl z)) (λb z=>U b (Y b z)) (n9 1 rfl) (n9 4 rfl) (λb xs e z=>by rw[z,as]at e;cases e);have bb:upd (upd H3 rd (.dK [])) p (.ins c.C dx (eQ G.pg ((nf:Int)+ns) rd)) p=some (.ins c.C dx (eQ G.pg ((nf:Int)+ns) rd)):=ae;have ap:upd (upd H3 rd (.dK [])) p (.ins c.C dx (eQ G.pg ((nf:Int)+ns) rd)) rd=some (.dK []):=(by rw[ah L,ae]);have BC:¬ rd∈G.nine:=λz=>by
  have a3:=mJ (GA λ_=>False) rd z;cases e:H1 rd with
  |none=>show a3 e
  |some u=>rw[O _ _ e L]at J;cases J
 have a6:H rd=none:=by
  cases e:H rd with
  |none=>rfl
  |some u=>rw[O _ _ (R _ _ e) L]at J;cases J
 have a4:Off (· = p) H (upd (upd H3 rd (.dK [])) p (.ins c.C dx (eQ G.pg ((nf:Int)+ns) rd))):=λb o e z=>o5 b o (R b o e) z;show k _ (λb=>b∈G.nine\/b=rd) #[G,p,rd] rfl #[#[dx,?_],G5 _,#[a5,λx I=>.inl I],λb z=>?_,ap,Mt,(λx I=>by cases I),(λx I=>by cases I),(λx I=>by cases I),(λx I=>by cases I),.inr rfl,λz=>BC (Y _ z),λz=>U _ (Y _ z) rfl] (λb z=>z.elim (fr b) λz=>by rw[z];show a6) a4
 .have e:bH (s0 nf ns)=(nf:Int)+ns:=by
   unfold bH;rw[show((s0 nf ns).ow true).length=nf from Lu,show((s0 nf ns).ow false).length=ns from Lu];omega
  rw[e];show bb
 .rcases z with z|z
  .show mJ (G5 λ_=>False) b z
  .intro w;rw[z]at w;show absurd (ap.symm.trans w) (by simp)
end
end St
namespace HT
open PySem PySem.Spec PyProof.Rows
section
variable {prog:rz}{w:C1}{A:KY}{E:Value->ll->Prop}{s:ll}
theorem jT {t sl:Addr}{items:Array Value}{I L:Value}{lo hi:Option Int}{Q:Value->ll->Prop}(G:IsTup s.heap t items) (hs:s.heap.IsSliceOf sl I L .none) (pl:PL I lo) (N:PL L hi)
  (J:dg items.size 0 lo=0/\dg items.size items.size hi=items.size) (h:Q (.ref t) s):wpAny (model prog w) A (Od (.ref t) (.ref sl)) Q E s:=by
 let#[os,S,O,Y]:=id hs;have R:s.TypeIs (.ref sl) "slice" := #[os,S,O];unfold Od
 try with_reducible show Mj ?_
 first|show iN (qi ?_)|skip
 show iN (Q5 G.typeIs av ?_);show iN (NS (name:=Str.ofString "__getitem__") G.typeIs Lj
  (Ms Lj G.typeIs Qx ?_ (QK _ _)))
 change wpAny _ _ (Builtin.Tuple.tupleItemsOf (.ref t)>>=_) _ _ s;show iN (tupleItemsOf_ G ?_);show iN (PM R ?_);rw[Tz av];show iN (gc hs pl N ?_);have U:(((dg items.size 0 lo:Nat):Int)==0&&(1:Int)==1&&(dg items.size items.size hi-dg items.size 0 lo)==items.size)=true:=by
  rw[J.1,J.2];simp
 change wpAny _ _ (if (((dg items.size 0 lo:Nat):Int)==0&&(1:Int)==1&&(dg items.size items.size hi-dg items.size 0 lo)==items.size)=true then _ else _) _ _ s;rw[Tz U];unfold Builtin.Tuple.tupleIsExact;show iN (iN (PM G.typeIs (qi ?_)));rw[Tz av];show iN (Np ?_);show qi #[0,qi h]
end
end HT
namespace L2
open PySem PySem.Spec PyProof.Rows
inductive DL (K:iF) (x:V) (lo:Option Int) (hi:Option Int) (H:Hp) (Q:VK):Prop
 |mk (a:_) (xs:_) (_:x=.ref a) (_:bL K H a xs) (_:((HT.dg xs.length 0 lo=0/\HT.dg xs.length xs.length hi=xs.length)->Q (.ref a) H)) (_:(¬ (HT.dg xs.length 0 lo=0/\HT.dg xs.length xs.length hi=xs.length)->∀p,H p=none->Q (.ref p) (upd H p (.tup (eS xs lo hi))))):DL K x lo hi H Q
theorem lM {X:Cx}:HS X (DL X.K):=by
 intro pins s σ H x v U Y lo hi sl Q I G hs pl J h;let#[a,xs,rfl,N,R,O]:=h;by_cases c:HT.dg xs.length 0 lo=0/\HT.dg xs.length xs.length hi=xs.length
 .cases G;let#[its,r,L,hz]:=I.tuple N;have S:its.toArray.size=xs.length:=(by rw[pq];show r.length.symm);show#["tuple",_,Lj.lookup,L.typeIs,?_];show HT.jT L hs pl J (by rw[S];show c) #[.ref a,H,I,rfl,R c]
 .show Fl pins s σ H (.ref a) v U Y lo hi sl Q I G hs pl J #[a,xs,rfl,N,c,O c]
theorem j6 {a:Addr}{o:Obj}{kvs:List (Key×V)}{g:TG}{tb:TS}{D:Ends}{σ:St}{H:Hp}(Pv:Nat->St->Hp->Prop) (S:Pv 0 σ H) (R:∀i σ H,i<=kvs.length->Pv i σ H->H a=some (.bP o (.dK kvs)))
  (hs:∀i k v σ H T,kvs[i]?=some (k,v)->H T=none->Pv i σ H->g (.ref T) σ (upd H T (.tup [kV k,v])) λI H2=>tb { D with nx:=Pv (i+1),ct:=Pv (i+1),bk:=D.nx } I H2) (hd:∀σ H,Pv kvs.length σ H->D.nx σ H) :
  ∃W:Nat->Nat->St->Hp->Prop,(∃m,W 0 m σ H)/\∀i m σ H,W i m σ H ->
   ((FR a o kvs).stop i H/\D.nx σ H)\/((FR a o kvs).go i H/\∃N:St->Hp->Prop,(∀G H',N G H'->∃L,L<m/\W (i+1) L G H')/\∀x H',(FR a o kvs).Bx i H x H'->g x σ H' λI H2=>tb { D with nx:=N,ct:=N,bk:=D.nx } I H2):=by
 show#[λi m σ H=>m=kvs.length-i/\i<=kvs.length/\Pv i σ H,#[kvs.length,by simp,KU _,S],?_];rintro i m σ H ⟨rfl,hi,p⟩;have q:=R i σ H hi p;by_cases J:i<kvs.length
 .show .inr #[#[q,J],Pv (i+1),λG H' O=>#[kvs.length-(i+1),Ls (Mm kvs) i J,rfl,J,O],?_];rintro v H' ⟨T,k,x,rfl,U,Y,rfl⟩;show hs i k x σ H T Y U p
 .have e:i=kvs.length:=af;subst e;show .inl #[#[q,qs _],hd σ H p]
theorem vQ {a:Addr}{o:Obj}{kvs:List (Key×V)}{caps:List (Str×Nat)}{te:TE}{σ:St}{H:Hp}{I:List V->Hp->Prop}(Pv:Nat->List V->Hp->Prop) (O:Pv 0 [] H)
  (R:∀i zs H,i<=kvs.length->Pv i zs H->H a=some (.bP o (.dK kvs)))
  (hs:∀i k v zs H,kvs[i]?=some (k,v)->Pv i zs H->te (fW caps σ (some v)) H (λz H3=>zs.length<sizeLine/\Pv (i+1) (zs++[z]) H3))
  (hd:∀zs H,Pv kvs.length zs H->I zs H):∃W:Nat->Nat->List V->Hp->Prop,(∃m,W 0 m [] H)/\hX caps oH te σ (Io a o kvs) I W:=by
 show#[λi m zs H=>m=kvs.length-i/\i<=kvs.length/\Pv i zs H,#[kvs.length,by simp,KU _,O],?_];rintro i m zs H ⟨rfl,hi,p⟩;have J:=R i zs H hi p;by_cases G:i<kvs.length
 .show .inr #[#[J,G],Pv (i+1),λS H' L=>#[kvs.length-(i+1),Ls (Mm kvs) i G,rfl,G,L],?_];rintro v H' ⟨rfl,k,N⟩;unfold oH;dsimp only;rw[Tz rfl];show hs i k v zs H' N p
 .have e:i=kvs.length:=af;subst e;show .inl #[#[J,qs _],hd zs H p]
section
variable {X:Cx}
theorem vY:dB X (.type "dict") (λxs H Q=>∃(d:Addr) (kvs:List (Key×V)),xs=[.ref d]/\H d=some (.dK kvs)/\∀a,H a=none->Q (.ref a) (upd H a (.dK kvs))):=by
 intro pins s σ H xs us Q I r h;let#[d,kvs,rfl,hd,q]:=h;let#[u,rfl,J]:=vals1 r;obtain rfl:u=Value.ref d:=J;let#[L,R,vs,G,O]:=gL I.bE hd;have U:=G.length;show kt_call_dict (knd:=bt X.prog X.w) R O af λh' S N=>?_;show#[.ref s.heap.objs.size,_,I.laid (t':=s.toks) (h':=h') (λb o e=>?_) (qs _) (mT L ?_ G S),rfl,q _ I.fresh]
 .show(N.2 b (Lc (Heap.lt_size e))).trans (Heap.get?_push_of_some _ e)
 .show beq_false_of_ne (QX I.big)
theorem range_any (bs:List Bool):((KR bs.length).any λi=>(bs[i]?).getD true)=bs.any id:=by
 rw[Nd,Nw,Nw];constructor
 .rintro⟨i,hi,e⟩;have G:=Lg.mp hi;rw[tu G,Rq]at e;show#[_,L4 G,e]
 .rintro⟨b,J,e⟩;let#[i,hi,I]:=LX J;show#[i,Lg.mpr hi,?_];rw[tu hi,Rq,I];show e
theorem Fj:K8 "any" = some (.builtin "any"):=ao
theorem x9 (Y:X.calm=true):dB X (.builtin "any") (λxs H Q=>∃(l:Addr) (bs:List Bool),xs=[.ref l]/\bA X.K H l (bs.map V.bl)/\Q (.bl (bs.any id)) H):=by
 intro pins s σ H xs us Q I r h;let#[l,bs,rfl,O,q]:=h;let#[u,rfl,ru]:=vals1 r;obtain rfl:u=Value.ref l:=ru;let#[its,U,p,_]:=I.list O;have ei:=qC U;subst ei;have J:=p.isList;have R:l<s.heap.objs.size:=let ⟨_,e,_⟩:=J;Heap.lt_size e;show call_any_walk (O8 J ?_);show#[s.heap.objs.size,[s.heap.objs.size,l],[s.heap.objs.size],(bs.map Value.bool).toArray.size,2,λi=>(bs[i]?).getD true,rfl,Tt (A:=X.A.in1) (I.ok.hd Y) _ l (Lc R) (bs.map Value.bool).toArray,
  #[#[_,Heap.get?_push_size _ rfl,1],J.push _],λi v s' Q' E' hP N=>?_,λh' tk hk=>?_]
 .have ab:(bs.map Value.bool).toArray[i]?=some v:=hP;have G:(bs.map Value.bool)[i]?=some v:=(by simpa using ab);rw[se]at G;cases L:bs[i]? with
  |none=>rw[L]at G;cases G
  |some b =>
   rw[L]at G;have S:Value.bool b=v:=rn G;subst S;simp only[L,Rq]at N;show LV N
 .have e:((KR (bs.map Value.bool).toArray.size).any λi=>(bs[i]?).getD true)=bs.any id:=by
   rw[pq,mu];show range_any bs
  rw[e];show#[.bl _,H,I.kept (SF hk),rfl,q]
noncomputable def Hr:yw:=λo i v H Q=>∃a H',o=.ref a/\fC H a i v H'/\Q H'
theorem set_dict (O:X.A.units+1<NQ):BN X Hr:=by
 intro pins s σ H o i v ov R u Q I G N J h;let#[a,H',rfl,g,q]:=h;obtain rfl:ov=Value.ref a:=G;show pC O I g N J λs' L=>#[H',L,q]
end
end L2
namespace Lw
open PySem L2 St
noncomputable abbrev wt:K4:=top 35
noncomputable abbrev p9:K4:=top 36
noncomputable abbrev vF:K4:=top 37
noncomputable abbrev lR:K4:=top 38
noncomputable abbrev vp:K4:=top 39
noncomputable abbrev wj:K4:=top 40
noncomputable abbrev lW:K4:=top 41
noncomputable abbrev EN:K4:=top 42
noncomputable abbrev Ai:K4:=top 43
noncomputable abbrev pZ:K4:=top 44
noncomputable abbrev u6:K4:=top 46
noncomputable abbrev zz:K4:=top 47
noncomputable abbrev vI:K4:=top 48
structure ke (mg:Str->Option Value):Prop where
 range:mg "range" = none
 enumerate:mg "enumerate" = none
 sum:mg "sum" = none
 int:mg "int" = none
 BH:mg "isinstance" = none
 min:mg "min" = none
 max:mg "max" = none
 list:mg "list" = none
 len:mg "len" = none
 dict:mg "dict" = none
 bool:mg "bool" = none
 tuple:mg "tuple" = none
 sorted:mg "sorted" = none
 all:mg "all" = none
 any:mg "any" = none
inductive qZ (vs:List V) (H:Hp) (Q:VK) (e3:XK):Prop
 |mk (c k:Int) (_:vs=[.int c,.int k]) (_:∀v:Int,Q (.int v) H):qZ vs H Q e3
inductive nv (K:iF) (vs:List V) (H:Hp) (Q:VK) (e3:XK):Prop
 |mk (a:Addr) (ns:List Int) (k:Nat) (_:vs=[.ref a,.int k]) (_:bA K H a (ns.map V.int)) (_:ns.length<=100) (_:k<=100) (_:∀(v:Int) (H':Hp),aZ H H'->Q (.int v) H'):nv K vs H Q e3
inductive qM (vs:List V) (H:Hp) (Q:VK) (e3:XK):Prop
 |mk (i:Int) (_:vs=[.int i]) (_:Q (.bl true) H):qM vs H Q e3
inductive kB (vs:List V) (H:Hp) (Q:VK) (e3:XK):Prop
 |mk (m:Int) (n:Nat) (_:vs=[.int m,.int n]) (_:n<=100) (_:∀(cs:List Int) (H':Hp) (l:Addr),cs.length=n->aZ H H'->H l=none->H' l=some (.lst (cs.map V.int))->Q (.ref l) H'):kB vs H Q e3
noncomputable def sH (m:Int):List Int:=[2,3,4,2+m/4%9]
noncomputable def tY (m:Int):List Int:=[m/40%5,m/40%30,60]
noncomputable def ou (m:Int):Nat:=((sH m).getD (m%4).toNat 0).toNat
noncomputable def pG (m:Int):Nat:=((tY m).getD (m/7%3).toNat 0).toNat
theorem at_of {xs:List Int}{i n:Int}(I:0<=i) (h1:i<n) (J:n=xs.length):wo (xs.map V.int) i=some (.int (xs.getD i.toNat 0))/\xs.getD i.toNat 0∈xs:=by
 obtain⟨j,rfl⟩:∃j:Nat,i=j:=#[i.toNat,af];have G:j<xs.length:=af;have e:xs.getD (N4 (j:Int)) 0=xs[j]:=(by simp[G]);rw[e];show#[jR (by rw[se,tu G];rfl),L4 G]
theorem Ay (m:Int):wo ((sH m).map V.int) (m%4)=some (.int (ou m))/\2<=ou m/\ou m<=40:=by
 let#[h1,h2]:=at_of (xs:=sH m) (i:=m%4) (n:=4) af af rfl;have G:2<=(sH m).getD (m%4).toNat 0/\(sH m).getD (m%4).toNat 0<=40:=by
  unfold sH at h2 ⊢;simp only[BY,DD,or_false]at h2;rcases h2 with h|h|h|h<;>rw[h]<;>omega
 have e:((ou m:Nat):Int)=(sH m).getD (m%4).toNat 0:=(by unfold ou;omega);rw[e];show#[h1,by unfold ou;omega,by unfold ou;omega]
theorem zr (m:Int):wo ((tY m).map V.int) (m/7%3)=some (.int (pG m))/\pG m<=60:=by
 let#[h1,h2]:=at_of (xs:=tY m) (i:=m/7%3) (n:=3) af af rfl;have G:0<=(tY m).getD (m/7%3).toNat 0/\(tY m).getD (m/7%3).toNat 0<=60:=by
  unfold tY at h2 ⊢;simp only[BY,DD,or_false]at h2;rcases h2 with h|h|h<;>rw[h]<;>omega
 have e:((pG m:Nat):Int)=(tY m).getD (m/7%3).toNat 0:=(by unfold pG;omega);rw[e];show#[h1,by unfold pG;omega]
inductive qd (vs:List V) (H:Hp) (Q:VK) (e3:XK):Prop
 |mk (m:Int) (_:vs=[.int m]) (_:∀(H':Hp) (t:Addr),aZ H H'->H t=none->H' t=some (.tup [.int (ou m),.int (pG m)])->Q (.ref t) H'):qd vs H Q e3
theorem JI (x y:Int):AU (x%2305843009213693951) y:=by
 have:=Lp x (show(2305843009213693951:Int)≠0 by decide);have:=Li x (show(0:Int)<2305843009213693951 by decide);show .inl #[af,af]
theorem HI (x y:Int):AU (x%2305843009213693907) y:=by
 have:=Lp x (show(2305843009213693907:Int)≠0 by decide);have:=Li x (show(0:Int)<2305843009213693907 by decide);show .inl #[af,af]
section
variable {P:rz}{w:C1}{K:iF}{mg:Str->Option Value}{base:Heap}
theorem Iy:aC ["_law_cell","_law_k","_law_once","_law_twice"] ["_law_cell","_law_k"] (aw wt):=L2.bC
theorem AM {f:Addr}{fd:qj}(F:cI K "_law_mixed" "_law_mixed" wt f fd):a8 P w K mg base aV 1 f fd ["_law_cell","_law_k"] qZ:=by
 show F.dh Iy (λG A outer s H vs Q E I h=>?_);let#[c,j,rfl,k]:=h;show#[_,(ag (dr 2 Iy.nd (aA bB (aA er (aA bp (aA bp (aA bB (pv 0) aj) (aA er aj (pv 1))) aj) aj) aj))
  (ag (dr 2 Iy.nd (aA bB (aA er (pv 2) (pv 2)) aj))
  (ag (dr 3 Iy.nd (aA bB (aA er (aA bp (aA bp (pv 2) (aA er aj (pv 1))) aj) aj) aj))
  (ak (aE (aA bp (aA er (aA bB (aA er (pv 3) (pv 3)) aj) aj) (pv 2))))))),?_]
 show#[0,_,0,rfl,(by change(0:Int)<2305843009213693951;decide),0,_,0,rfl,.inl #[av,av],_,0,4,0,4,0,rfl,.inr #[av,av],_,0,rfl,(by change(0:Int)<2305843009213693951;decide),?_];show#[0,0,_,0,rfl,JI _ _,_,0,rfl,(by change(0:Int)<2305843009213693921;decide),?_];show#[0,0,_,0,rfl,.inl #[av,av],_,0,4,0,4,0,rfl,.inr #[av,av],_,0,rfl,(by change(0:Int)<2305843009213693907;decide),?_];show#[0,0,_,0,rfl,HI _ _,_,0,rfl,(by change(0:Int)<2305843009213693951;decide),_,0,rfl,.inr #[av,av],0,_,0,rfl,k _]
theorem Gw:aC ["_law_script","_law_k","_law_cell"] ["_law_script","_law_k"] (aw p9):=L2.bC
theorem xF {f:Addr}{fd:qj}(F:cI K "_law_number" "_law_number" p9 f fd) (T:ke mg) (GM:Df P w K mg base aV 1 "_law_mixed" qZ):a8 P w K mg base aV 2 f fd ["_law_script","_law_k"] (nv K):=by
 show F.dh Gw (λam A outer s H vs Q E hr h=>?_);let#[a,ns,j,rfl,J,hn,hj,k]:=h;have hs:=vu;show#[_,(ag (dr 2 Gw.nd (aP cw (aA wb (cW fN (pv 0) (cO (pv 1)) (cO (aA bp (pv 1) aj))) (cg (aa (aA bp (aA er (pv 1) (pv 1)) aj) ai))) aj bW))
  (ag (aS (aD bR (aA bB (aQ (mG rfl) (by rfl) T.sum vX (aa (cW fN (pv 0) eY (cO aj)) ai)) aj) aj (aI _)) (ak (aE (aA bB (pv 2) (aA vo aj aj)))) aF)
  (ak (aE (pc GM hr ax (aa (pv 2) (aa (pv 1) ai))))))),?_]
 show eM λ_ S=>?_;have O:eS (ns.map V.int) (some (j:Int)) (some ((j:Int)+1))=((ns.drop j).take 1).map V.int:=Rm.rH (n:=1);show#[0,0,0,0,_,0,rfl,0,a,0,J,λp hp=>?_];change FV _ _ (upd H p (.lst (eS (ns.map V.int) (some (j:Int)) (some ((j:Int)+1))))) _;rw[O];have s1:=Tb.au (X:=.lst (((ns.drop j).take 1).map V.int)) hp;have h1:upd H p (.lst (((ns.drop j).take 1).map V.int)) p=some (.lst (((ns.drop j).take 1).map V.int)):=ae;generalize upd H p (.lst (((ns.drop j).take 1).map V.int))=H1 at *;show#[0,0,_,0,rfl,.inl #[af,af],_,0,rfl,Ge,λp2 Y=>?_];have s2:=Tb.au (X:=.lst [V.int ((j:Int)*j+3)]) Y;show#[p,p2,_,0,rfl,s2 _ _ h1,ae,?_,λG ac=>?_]
 .rw[mu,HC];change min 1 _+1<=sizeLine;omega
 have s3:=Tb.au (X:=.lst (((ns.drop j).take 1).map V.int++[V.int ((j:Int)*j+3)])) ac;have U:((ns.drop j).take 1).map V.int++[V.int ((j:Int)*j+3)]=((ns.drop j).take 1++[(j:Int)*j+3]).map V.int:=(by rw[DO];rfl);have I:=s1.trans (s2.trans s3);let#[L,_]:=at_of (xs:=(ns.drop j).take 1++[(j:Int)*j+3]) (i:=0) (n:=((ns.drop j).take 1++[(j:Int)*j+3]).length) (Lz _) (by rw[wh,LK];omega) rfl;rw[<-U]at L;show#[G,_,(0),0,rfl,bA.of ae,L,S _ _ ?_];generalize ((ns.drop j).take 1++[(j:Int)*j+3]).getD (N4 0) 0=cl;have ab:=Rm.eD J (I _);change jL _ _ _ _ (upd (upd H1 p2 (.lst [V.int ((j:Int)*j+3)])) G (.lst (((ns.drop j).take 1).map V.int++[V.int ((j:Int)*j+3)])));generalize upd (upd H1 p2 (.lst [V.int ((j:Int)*j+3)])) G (.lst (((ns.drop j).take 1).map V.int++[V.int ((j:Int)*j+3)]))=H3 at *;have N:eS (ns.map V.int) none (some (1:Int))=(ns.take 1).map V.int:=Rm.p5 (s:=1);show#[0,0,a,0,ab,λp4 R=>?_];have s4:=Tb.au (X:=.lst ((ns.take 1).map V.int)) R;show#[p4,ns.take 1,rfl,bA.of (by rw[<-N];show ae),_,0,rfl,Gk,rfl,0,?_];rw[show eS (ns.map V.int) none (some (1:Int))=(ns.take 1).map V.int from N];show gR (λ_=>?_) (λ_=>?_)
 .show#[0,_,0,rfl,#[av,av,av],_,0,rfl,(by change(0:Int)<10^40;decide),k _ _ (I.trans s4)]
 .show#[0,0,cl,j,rfl,λv=>k v _ (I.trans s4)]
theorem Jw:aC ["_law_found"] ["_law_found"] (aw vF):=L2.bC
theorem zq {f:Addr}{fd:qj}(F:cI K "_law_whole" "_law_whole" vF f fd) (T:ke mg):a8 P w K mg base aV 1 f fd ["_law_found"] qM:=by
 show F.dh Jw (λG A outer s H vs Q E I h=>?_);let#[i,rfl,k]:=h;show#[_,(ak (aE (Fz (aQ dX (by rfl) T.BH b8 (aa (pv 0) (aa (eV (v:=.ty "int") (by rfl) T.int iu rfl) ai))) (AV (Fb (aQ dX (by rfl) T.BH b8 (aa (pv 0) (aa (eV (v:=.ty "bool") (by rfl) T.bool Cr rfl) ai)))))))),?_];show#[0,.int i,"int",_,true,rfl,.int i,Ew _,true,rfl,eL #[0,.int i,"bool",_,false,rfl,.int i,Fw _,false,rfl,k]]
theorem Ce:aC ["_law_m","_law_many","_law_cells_here","_law_k"] ["_law_m","_law_many"] (aw lR):=L2.bC
theorem uj {f:Addr}{fd:qj}(F:cI K "_law_cells" "_law_cells" lR f fd) (T:ke mg):a8 P w K mg base aV 1 f fd ["_law_m","_law_many"] kB:=by
 show F.dh Ce (λS A outer s H vs Q E U h=>?_);let#[m,n,rfl,R,k]:=h;have hs:=vu;show#[_,(ag (dr 2 Ce.nd (cg ai))
  (ag (cG D3 rfl (o8 (by rfl) T.range (aa (pv 1) ai)) (gb 3 Ce.nd) (ag (aL (ip LJ NG NH ky (pv 2) (aa (aA bB (aA bp (pv 0) (aA er (aA er aj (pv 3)) (aA bB (aA br (pv 0) aj) aj))) aj) ai)))
  (ak (aS (aD bR (aA bB (pv 3) aj) aj (aI _)) (ak (dr 0 Ce.nd (aA br (pv 0) aj))) aF))))
  (ak (aE (pv 2))))),?_]
 show#[av,λl I=>?_];have s0:=Tb.au (X:=.lst []) I;show#[0,0,af,af,?_];show gk (lo:=0) (n:=(n:Int).toNat) (λi σ H2=>Hb λ(G:Int) (v3:Option V) (cs:List Int)=>Fg (σ=[some (.int G),some (.int n),some (.ref l),v3]) (cs.length=i) (H2 l=some (.lst (cs.map V.int))) (aZ H H2)) #[m,_,[],1,ae,s0] ?_ ?_
 .rintro i σ H2 hi ⟨G,v3,cs,rfl,N,h2,s2⟩;show#[0,.inl #[4,bA.of h2],0,0,_,0,rfl,.inl #[av,av],0,_,0,rfl,#[av,av],_,0,rfl,(by change(0:Int)<7;decide),_,0,rfl,.inr #[3],_,0,4,0,rfl,(by change(0:Int)<256;decide),l,_,0,rfl,h2,by rw[mu];omega,?_]
  .have:=Lp (G/256) (show(7:Int)≠0 by decide);omega
  .have:=Li (G/256) (show(0:Int)<7 by decide);omega
  have s3:=Rm.Dc s2 I (X:=.lst ((cs++[(G+37*(0+(i:Int))*(G/256%7))%256]).map V.int));have O:cs.map V.int++[V.int ((G+37*(0+(i:Int))*(G/256%7))%256)]=(cs++[(G+37*(0+(i:Int))*(G/256%7))%256]).map V.int:=(by rw[DO];rfl);show#[0,_,0,rfl,vz,rfl,0,?_];have L:(cs++[(G+37*(0+(i:Int))*(G/256%7))%256]).length=i+1:=(by rw[wh,N];rfl);rw[<-O]at s3;have J:upd H2 l (.lst (cs.map V.int++[V.int ((G+37*(0+(i:Int))*(G/256%7))%256)])) l=some (.lst ((cs++[(G+37*(0+(i:Int))*(G/256%7))%256]).map V.int)):=(by rw[<-O];show ae);show gR (λ_=>#[0,_,0,rfl,#[av,av],2,0,L,J,s3]) (λ_=>#[2,0,L,J,s3])
 .rintro σ H2 ⟨G,v3,cs,rfl,N,h2,s2⟩;show#[0,k cs H2 l af s2 I h2]
theorem JG:aC ["_law_m"] ["_law_m"] (aw u6):=L2.bC
theorem AD {f:Addr}{fd:qj}(F:cI K "_law_sizes" "_law_sizes" u6 f fd):a8 P w K mg base aV 1 f fd ["_law_m"] qd:=by
 show F.dh JG (λS A outer s H vs Q E U h=>?_);let#[m,rfl,k]:=h;show#[_,(ak (aE (b7 (aa (aP cw (cg (aa aj (aa aj (aa aj (aa (aA bp aj (aA bB (aA br (pv 0) aj) aj)) ai))))) (aA bB (pv 0) aj) bW) (aa (aP cw (cg (aa (aA bB (aA br (pv 0) aj) aj) (aa (aA bB (aA br (pv 0) aj) aj) (aa aj ai)))) (aA bB (aA br (pv 0) aj) aj) bW) ai))))),?_];let#[R,_]:=Ay m;let#[N,_]:=zr m;show#[0,_,0,rfl,#[av,av],_,0,rfl,(by change(0:Int)<9;decide),_,0,rfl,oE,λO J=>#[0,_,0,rfl,DQ,O,2,.int (ou m),1,bA.of ae,R,?_]];have s0:=Tb.au (X:=.lst ((sH m).map V.int)) J;show#[0,_,0,rfl,#[av,av],_,0,rfl,(by change(0:Int)<5;decide),0,_,0,rfl,#[av,av],_,0,rfl,(by change(0:Int)<30;decide),HK,λL I=>#[0,_,0,rfl,#[av,av],_,0,rfl,GQ,L,2,.int (pG m),1,bA.of ae,N,dZ,λt G=>?_]];have s1:=Tb.au (X:=.lst ((tY m).map V.int)) I;have s2:=Tb.au (X:=.tup [.int (ou m),.int (pG m)]) G;show k _ t (s0.trans (s1.trans s2)) (s0.free (s1.free G)) ae
end
structure MT where
 ra:Addr
 sa:Addr
 pl:List (Int×Addr×Int)
noncomputable abbrev Zs:=List (Int×MT)
noncomputable def d0 (z:MT):V:=.ref z.ra
noncomputable def sf (z:MT):V:=.ref z.sa
noncomputable def dJ (x:Addr×Int):V:=.ref x.1
noncomputable def oJ (x:Addr×Int):V:=.int x.2
noncomputable def oN (G ls:Addr) (bH pk:Int):List (Key×V):=[(KP "rooms",.ref G),(KP "stands",.ref ls),(KP "total",.int bH),(KP "pokes",.int pk)]
structure MA where
 md:Addr
 lr:Addr
 ls:Addr
structure cF (H:Hp) (m:MA) (bH pk:Int) (Z:Zs):Prop where
 hm:H m.md=some (.dK (oN m.lr m.ls bH pk))
 hr:H m.lr=some (.dK (Tb.dk d0 Z))
 hs:H m.ls=some (.dK (Tb.dk sf Z))
 rm:∀x∈Z,H x.2.ra=some (.dK (Tb.dk dJ x.2.pl))
 st:∀x∈Z,H x.2.sa=some (.dK (Tb.dk oJ x.2.pl))
 cl:∀x∈Z,∀y∈x.2.pl,∃ns:List Int,H y.2.1=some (.lst (ns.map V.int))/\ns.length=8
 nd:(Z.map (·.1)).Nodup
 np:∀x∈Z,(x.2.pl.map (·.1)).Nodup
 rg:∀x∈Z,∀y∈x.2.pl,0<=y.1/\y.1<64
 da:∀x∈Z,∀y∈Z,x.1≠y.1->x.2.ra≠y.2.ra/\x.2.sa≠y.2.sa
 rs:∀x∈Z,∀y∈Z,x.2.ra≠y.2.sa
 d3:∀x∈Z,x.2.ra≠m.md/\x.2.ra≠m.lr/\x.2.ra≠m.ls/\x.2.sa≠m.md/\x.2.sa≠m.lr/\x.2.sa≠m.ls
 n3:m.md≠m.lr/\m.md≠m.ls/\m.lr≠m.ls
noncomputable def cA (m:MA) (Z:Zs):Addr->Prop:=λb=>b=m.md\/b=m.lr\/b=m.ls\/∃x∈Z,b=x.2.ra\/b=x.2.sa\/∃y∈x.2.pl,b=y.2.1
theorem ks_ne {a b:Str}(h:a≠b):¬ V.str a=V.str b:=λe=>h (by injection e)
theorem yk (G ls:Addr) (bH pk:Int):bZ (oN G ls bH pk) (KP "rooms")=some (.ref G):=cn rfl
theorem J8:¬ ((KP ("rooms" : Str):Key)=KP ("stands" : Str)):=ao
theorem J3:¬ ((KP ("rooms" : Str):Key)=KP ("total" : Str)):=ao
theorem JH:¬ ((KP ("rooms" : Str):Key)=KP ("pokes" : Str)):=ao
theorem J6:¬ ((KP ("stands" : Str):Key)=KP ("total" : Str)):=ao
theorem IK:¬ ((KP ("stands" : Str):Key)=KP ("pokes" : Str)):=ao
theorem Jz:¬ ((KP ("total" : Str):Key)=KP ("pokes" : Str)):=ao
theorem Jg (G ls:Addr) (bH pk:Int):bZ (oN G ls bH pk) (KP "stands")=some (.ref ls):=by
 unfold oN;rw[bD J8,cn rfl]
theorem BV (G ls:Addr) (bH pk:Int):bZ (oN G ls bH pk) (KP "total")=some (.int bH):=by
 unfold oN;rw[bD J3,bD J6,cn rfl]
theorem Gd (G ls:Addr) (bH pk:Int):bZ (oN G ls bH pk) (KP "pokes")=some (.int pk):=by
 unfold oN;rw[bD JH,bD IK,bD Jz,cn rfl]
theorem yf (G ls:Addr) (bH pk:Int):j5 [] (oN G ls bH pk)=oN G ls bH pk:=by
 have s2:putK ([(KP "rooms",V.ref G)]:List (Key×V)) (KP "stands") (V.ref ls)=([(KP "rooms",V.ref G),(KP "stands",V.ref ls)]:List (Key×V)):=jE _ (bD J8);have s3:putK ([(KP "rooms",V.ref G),(KP "stands",V.ref ls)]:List (Key×V)) (KP "total") (V.int bH)=([(KP "rooms",V.ref G),(KP "stands",V.ref ls),(KP "total",V.int bH)]:List (Key×V)):=jE _ ((bD J3).trans (bD J6));have s4:putK ([(KP "rooms",V.ref G),(KP "stands",V.ref ls),(KP "total",V.int bH)]:List (Key×V)) (KP "pokes") (V.int pk)=([(KP "rooms",V.ref G),(KP "stands",V.ref ls),(KP "total",V.int bH),(KP "pokes",V.int pk)]:List (Key×V)):=jE _ ((bD JH).trans ((bD IK).trans (bD Jz)));change putK (putK (putK ([(KP "rooms",V.ref G)]:List (Key×V)) (KP "stands") (V.ref ls)) (KP "total") (V.int bH)) (KP "pokes") (V.int pk)=_;rw[s2,s3,s4];rfl
theorem AR (G ls:Addr) (bH pk:Int):(oN G ls bH pk).map (λI=>(kV I.1,I.2))=[(.str "rooms",.ref G),(.str "stands",.ref ls),(.str "total",.int bH),(.str "pokes",.int pk)]:=rfl
section
variable {H H':Hp}{m:MA}{bH pk:Int}{Z:Zs}
theorem cF.g {k:Str}{v:V}(M:cF H m bH pk Z) (h:bZ (oN m.lr m.ls bH pk) (KP k)=some v):cZ H m.md (.str k) (some v):=by
 have q:=cZ.k (k:=KP k) M.hm;rw[h]at q;show q
theorem cF.off {B:Addr->Prop}(M:cF H m bH pk Z) (o:Off B H H') (h:∀b,cA m Z b->¬ B b):cF H' m bH pk Z:=by
 show#[o _ _ M.hm (h _ (.inl rfl)),o _ _ M.hr (h _ (.inr (.inl rfl))),o _ _ M.hs (h _ (.inr (.inr (.inl rfl)))),λx G=>o _ _ (M.rm x G) (h _ (.inr (.inr (.inr #[x,G,.inl rfl])))),λx G=>o _ _ (M.st x G) (h _ (.inr (.inr (.inr #[x,G,.inr (.inl rfl)])))),λx G y I=>?_,M.nd,M.np,M.rg,M.da,M.rs,M.d3,M.n3];let#[ns,h1,h2]:=M.cl x G y I;show#[ns,o _ _ h1 (h _ (.inr (.inr (.inr #[x,G,.inr (.inr #[y,I,rfl])])))),h2]
theorem cF.same (M:cF H m bH pk Z) (s:aZ H H'):cF H' m bH pk Z:=M.off (B:=λ_=>False) (λb o e _=>s b o e) λ_ _=>id
end
noncomputable def sM (Z:Zs):Int:=(Z.map λx=>(x.2.pl.length:Int)).sum
inductive rP (vs:List V) (H:Hp) (Q:VK) (e3:XK):Prop
 |mk (bH:Int) (_:vs=[.int bH]) (_:∀(H':Hp) (m:MA),aZ H H'->H m.md=none->H m.lr=none->H m.ls=none->cF H' m bH 0 []->Q (.ref m.md) H'):rP vs H Q e3
inductive iP (vs:List V) (H:Hp) (Q:VK) (e3:XK):Prop
 |mk (m:MA) (bH pk:Int) (Z:Zs) (_:vs=[.ref m.md]) (_:cF H m bH pk Z) (_:Z.length<=1000) (_:∀H',aZ H H'->Q (.int (sM Z)) H'):iP vs H Q e3
noncomputable def wL (pl:List (Int×Addr×Int)) (ad:Int) (n:Nat):Prop:=ad+n<=512/\∀i:Nat,i<n->Tb.look pl ((ad+i)/8)≠none
inductive kq (vs:List V) (H:Hp) (Q:VK) (e3:XK):Prop
 |mk (ra:Addr) (pl:List (Int×Addr×Int)) (ad:Int) (n:Nat) (_:vs=[.ref ra,.int ad,.int n]) (_:H ra=some (.dK (Tb.dk dJ pl))) (_:0<=ad) (_:ad<=1000) (_:1<=n) (_:n<=100) (_:∀(b:Bool) (H':Hp),aZ H H'->(b=true->wL pl ad n)->Q (.bl b) H'):kq vs H Q e3
section
variable {P:rz}{w:C1}{K:iF}{mg:Str->Option Value}{base:Heap}
theorem Jr:aC ["_law_total"] ["_law_total"] (aw vp):=L2.bC
theorem Am {f:Addr}{fd:qj}(F:cI K "_law_model" "_law_model" vp f fd):a8 P w K mg base aV 1 f fd ["_law_total"] rP:=by
 show F.dh Jr (λac A outer s H vs Q E hr h=>?_);let#[bH,rfl,k]:=h;show#[_,(ak (aE (CW (keys:=[some _,some _,some _,some _]) (values:=[_,_,_,_]) (jG aH dn (jG aH dn (jG aH (pv 0) (jG aH aj BQ)))) rfl rfl (List.cons_ne_nil _ _) (Qc rfl)))),?_];show λmd Y I O ls J=>#[0,?_];have N:I≠md:=λe=>(by rw[e,ae]at O;cases O);have ab:H I=none:=(by rw[ah N]at O;show O);have R:ls≠I:=λe=>(by rw[e,ae]at J;cases J);rw[ah R]at J;have L:ls≠md:=λe=>(by rw[e,ae]at J;cases J);have U:H ls=none:=(by rw[ah L]at J;show J);show#[by rw[ah (qw L),ah (qw N),ae],oN I ls bH 0,(AR I ls bH 0).symm,by change 4<=15;decide,?_];rw[yf];show k _ #[md,I,ls] (λb o e=>?_) Y ab U #[ae,3,(λx G=>by cases G),(λx G=>by cases G),(λx G=>by cases G),Mt,(λx G=>by cases G),(λx G=>by cases G),(λx G=>by cases G),(λx G=>by cases G),(λx G=>by cases G),#[qw N,qw L,qw R]]
 .have S:b≠md:=ar e Y;rw[ah S,ah (ar e U),ah (ar e ab),ah S];show e
 .change upd _ md _ I=_;rw[ah N,ah (qw R),ae];rfl
 .change upd _ md _ ls=_;rw[ah L,ae];rfl
theorem IY:aC ["_law_model_here"] ["_law_model_here"] (aw wj):=L2.bC
theorem Bu {f:Addr}{fd:qj}(F:cI K "_law_held" "_law_held" wj f fd) (T:ke mg):a8 P w K mg base aV 1 f fd ["_law_model_here"] iP:=by
 show F.dh IY (λab A outer s H vs Q E hr h=>?_);let#[m,bH,pk,Z,rfl,M,lz,k]:=h;have hs:=vu;show#[_,(ak (aE (aQ (mG rfl) (by rfl) T.sum vX (aa (xb (gx (cl:=[]) (caps:=[]) #[rfl,ao,ao,rfl,by kernel_rfl,by intro p I;simp at I,by kernel_rfl,by intro p I;simp at I,ao] rfl (C5 (bh (a9 hr) (pv 0) aH bW)) (λ_ _ _ _=>fO) (λ_ _ _ _=>(aQ j9 (by rfl) T.len boot_len (aa (pv 0) ai))))) ai)))),?_];have R:∀(o:Obj) S,H m.lr≠some (.bP o S):=λo S z=>(by rw[M.hr]at z;cases z);show#[0,m.md,.ref m.lr,rfl,M.g (yk _ _ _ _),m.lr,0,M.hr,R,λo=>?_];have Y:Off (· = m.lr) H (upd H m.lr (.bP o (.dK (Tb.dk d0 Z)))):=Off.wr rfl;have L:(upd H m.lr (.bP o (.dK (Tb.dk d0 Z)))) m.lr=some (.bP o (.dK (Tb.dk d0 Z))):=ae;show vQ (a:=m.lr) (o:=o) (kvs:=Tb.dk d0 Z) (λi ys H2=>ys=((Z.take i).map λx=>(x.2.pl.length:Int)).map V.int/\H2=upd H m.lr (.bP o (.dK (Tb.dk d0 Z)))) #[1] (λi zs H2 _ ⟨_,e⟩=>by rw[e];show L) ?_ ?_
 .rintro i kk v zs H2 hk ⟨rfl,rfl⟩;have U:(Z.map λx:Int×MT=>((ti x.1:Key),d0 x.2))[i]?=some (kk,v):=hk;rw[se]at U;let#[x,N,e]:=pf.mp U;cases e;have O:=vr N;have hi:i<Z.length:=(kz.mp N).1;show#[0,x.2.ra,0,Y _ _ (M.rm x O) (M.d3 x O).2.1,3,rfl]
  .rw[mu,mu,HC];omega
  .rw[Tb.cj,LA,N,DO,DO];rfl
 .rintro zs H2 ⟨rfl,rfl⟩ l G;have J:l≠m.lr:=λz=>(by rw[z,L]at G;cases G);show#[m.lr,o,Tb.dk d0 Z,by rw[ah (qw J)];show L,R,l,(Z.map λx=>(x.2.pl.length:Int)),rfl,bA.of ?_,?_]
  .rw[ah J,ae,Tb.cj,LN]
  .show k _ λb u e=>?_;by_cases z:b=m.lr
   .rw[z,ae, <-e,z,M.hr]
   .rw[ah z,ah (λy=>by rw[y]at e;rw[ah J,e]at G;cases G),ah z];show e
theorem CK:aC ["_law_room","_law_address","_law_many"] ["_law_room","_law_address","_law_many"] (aw lW):=L2.bC
theorem uP {f:Addr}{fd:qj}(F:cI K "_law_stretch" "_law_stretch" lW f fd) (T:ke mg):a8 P w K mg base aV 1 f fd ["_law_room","_law_address","_law_many"] kq:=by
 show F.dh CK (λU A outer s H vs Q E N h=>?_);let#[I,pl,ad,n,rfl,J,Y,S,R,O,k]:=h;have hs:=vu;show#[_,(ag (aS (aD gI (pv 2) aj (aI _)) (ak (aE kX)) aF)
  (ag (aS (PW.pt (kR (aD gJ (pv 2) aj (aI _)) (iJ (PW.pt (ic (aD gI (pv 1) aj (aI _)) (gF (aD gJ (aA bp (pv 1) (pv 2)) aj (aI _)))))))) (ak (aE kX)) aF)
  (ak (aE (Ic (iC bR (pv 2) aj (aI _)) (AV (aQ (kH rfl) (by rfl) T.all uK (aa (gx (cl:=[("_law_room",s.heap.objs.size+1)]) (caps:=[("_law_room",0)]) #[rfl,ao,ao,rfl,by kernel_rfl,by intro p G;simp only[BY,DD,or_false]at G;rcases G with rfl<;>first|rfl|show#[rfl,.inl rfl,.inl rfl]|show#[rfl,.inl rfl,.inr rfl],by kernel_rfl,by intro p G;simp only[BY,DD,or_false]at G;rcases G with rfl<;>first|rfl|show#[rfl,.inl rfl,.inl rfl]|show#[rfl,.inl rfl,.inr rfl],ao] rfl (fg (by rfl) T.range (aa (pv 1) (aa (aA bp (pv 1) (pv 2)) ai))) (λ_ _ _ _=>fO) (λ_ _ _ _=>(uF (nX (a9 N) (aA br (pv 0) aj) (pv 1))))) ai)))))))),?_]
 show#[0,_,0,rfl,0,?_];rw[decide_eq_false af];show bX (zX ?_);dsimp only;show#[0,_,0,rfl,0,?_];rw[decide_eq_true af];show eL ?_;show#[0,_,0,rfl,0,?_];rw[decide_eq_false af];show bX ?_;show#[0,0,_,0,4,0,rfl,0,?_];by_cases c:(512:Int)<ad+n
 .rw[decide_eq_true c];show eL (k false H (aZ.refl H) (λz=>by cases z))
 .rw[decide_eq_false c];show bX (zX ?_);dsimp only;show#[0,rfl,0,?_];show gR (λz=>?_) (λ_=>?_)
  .exfalso;have:((n:Nat):Int)=0:=(by simpa using z);omega
  show#[0,0,0,_,0,4,0,#[af,af,af,af],?_];show fL (lo:=ad) (n:=(ad+(n:Int)-ad).toNat) (λi ys H2=>ys=((KR i).map λj:Nat=>(Tb.look pl ((ad+j)/8)).isSome).map V.bl/\H2=H) #[1] ?_ ?_
  .rintro i ys H2 hi ⟨rfl,rfl⟩;show#[0,_,0,rfl,#[av,av],0,I,0,fZ J,3,rfl]
   .rw[mu,mu,Lr];omega
   .rw[PY,DO,DO];change _++[V.bl ((Tb.look pl ((ad+(i:Int))/8)).map dJ).isSome]=_;rw[OO];rfl
  .rintro ys H2 ⟨rfl,rfl⟩ l L;show#[l,0,bA.of ae,k _ _ (Tb.au L) λz=>#[af,λi hi=>?_]];have e:=Lf.mp z ((Tb.look pl ((ad+(i:Int))/8)).isSome) (rr.mpr #[i,Lg.mpr af,rfl]);intro w;rw[w]at e;cases e
end
inductive Dd where
 |begin (t:Int)
 |close (t:Int)
 |map (t p m:Int)
 |drop (t p m:Int)
 |peek (t ad:Int) (n:Nat)
 |poke (t ad:Int) (c:Addr) (cs:List Int)
 |copy (t o:Int)
noncomputable def pz:Dd->List V
 |.begin t=>[.str "begin",.int t]
 |.close t=>[.str "close",.int t]
 |.map t p m=>[.str "map",.int t,.int p,.int m]
 |.drop t p m=>[.str "drop",.int t,.int p,.int m]
 |.peek t ad n=>[.str "peek",.int t,.int ad,.int n]
 |.poke t ad c _=>[.str "poke",.int t,.int ad,.ref c]
 |.copy t o=>[.str "copy",.int t,.int o]
noncomputable def lg:Dd->Str
 |.begin _ => "begin" |.close _ => "close" |.map .. => "map" |.drop .. => "drop" |.peek .. => "peek" |.poke .. => "poke" |.copy .. => "copy"
noncomputable def Dz:Dd->Int
 |.begin t=>t|.close t=>t|.map t _ _=>t|.drop t _ _=>t|.peek t _ _=>t|.poke t _ _ _=>t|.copy t _=>t
noncomputable def gO (H:Hp) (d:Addr) (D:Dd):Prop:=H d=some (.tup (pz D))/\∀t ad c cs,D=.poke t ad c cs->H c=some (.lst (cs.map V.int))
noncomputable def uR:Dd->Prop
 |.begin _=>False
 |.map _ p m=>0<=p/\p<64/\1<=m/\m<=64
 |.drop _ p m=>0<=p/\p<64/\1<=m/\m<=64
 |.peek _ ad n=>0<=ad/\ad<=1000/\1<=n/\n<=100
 |.poke _ ad _ cs=>0<=ad/\ad<=1000/\1<=cs.length/\cs.length<=11
 |_=>True
noncomputable def yN (Z:Zs) (bH:Int):Dd->Prop
 |.begin t=>Tb.look Z t=none
 |.close t=>∃z,Tb.look Z t=some z
 |.map t p m=>∃z,Tb.look Z t=some z/\¬ Rm.cE p m/\(∀q∈Rm.aM p m,Tb.look z.pl q=none)/\sM Z+m<=bH
 |.drop t p m=>∃z,Tb.look Z t=some z/\¬ Rm.cE p m/\∀q∈Rm.aM p m,Tb.look z.pl q≠none
 |.peek t ad n=>∃z,Tb.look Z t=some z/\wL z.pl ad n
 |.poke t ad _ cs=>∃z,Tb.look Z t=some z/\wL z.pl ad cs.length
 |.copy t o=>∃z,Tb.look Z t=some z/\Tb.look Z o=none/\sM Z+z.pl.length<=bH
inductive xC (vs:List V) (H:Hp) (Q:VK) (e3:XK):Prop
 |mk (m:MA) (bH pk:Int) (Z:Zs) (d:Addr) (D:Dd) (_:vs=[.ref m.md,.ref d]) (_:cF H m bH pk Z) (_:Z.length<=1000) (_:gO H d D) (_:uR D) (_:∀(r:Str) (H':Hp),aZ H H'->(r = "" -> yN Z bH D)->Q (.str r) H'):xC vs H Q e3
theorem at2 {a b:V}(k:Bool):wo [a,b] (if k=true then 1 else 0)=some (if k=true then b else a):=by cases k<;>rfl
theorem El (D:Dd):eS (pz D) none (some 2)=[.str (lg D),.int (Dz D)]:=by cases D<;>rfl
theorem Bz {D:Dd}(h:HT.dg (pz D).length 0 none=0/\HT.dg (pz D).length (pz D).length (some 2)=(pz D).length):pz D=[.str (lg D),.int (Dz D)]:=by
 let#[_,h]:=h;cases D<;>first|rfl|(show absurd (show HT.dg 4 4 (some 2)=4 from h) av)|(show absurd (show HT.dg 3 3 (some 2)=3 from h) av)
section
variable {P:rz}{w:C1}{K:iF}{mg:Str->Option Value}{base:Heap}
theorem sQ:aC ["_law_model_here","_law_deed","_law_rooms","_law_name","_law_task","_law_room","_law_page","_law_many","_law_there"] ["_law_model_here","_law_deed"] (aw EN):=L2.bC
theorem bU {a b:Str}(h:a≠b:=by dsimp only[lg];decide +kernel):¬ V.str a=V.str b:=ks_ne h
section
variable {D:Ends}{σ:L2.St}{H:Hp}{t u:TS}{i:Nat}{x y:V}
theorem jY (h:σ[i]?=some (some x)) (s:tf x y=true) (n:¬ x=y) (k:u D σ H):jL (mV (oj (BB E5 (sW i) (tC y))) t nc) u D σ H:=gP λ_ _ e=>yV (iV h) iU s n (e _ k)
theorem Cw (h:σ[i]?=some (some x)) (s:tf x x=true) (k:t { D with nx:=u D } σ H):jL (mV (oj (BB E5 (sW i) (tC x))) t nc) u D σ H:=gP λ_ e _=>eqT (iV h) iU s (e _ k)
theorem oP (h:σ[i]?=some (some x)) (s:tf x y=true) (n:¬ x=y) (k:u D σ H):mV (oj (BB E5 (sW i) (tC y))) t u D σ H:=yV (iV h) iU s n (bX k)
theorem FQ (h:σ[i]?=some (some x)) (s:tf x x=true) (k:t D σ H):mV (oj (BB E5 (sW i) (tC x))) t u D σ H:=eqT (iV h) iU s (eL k)
end
theorem D9 {f:Addr}{fd:qj}(F:cI K "_law_due" "_law_due" EN f fd) (T:ke mg) (a3:Df P w K mg base aV 1 "_law_held" iP) (a5:Df P w K mg base aV 1 "_law_stretch" kq) :
  a8 P w K mg base aV 2 f fd ["_law_model_here","_law_deed"] xC:=by
 show F.dh sQ (λbb A outer s H vs Q E L h=>?_);let#[m,bH,pk,Z,d,D,rfl,M,lz,hd,ab,k]:=h;have hs:=vu;show#[_,(ag (dr 2 sQ.nd (bh (a9 L) (pv 0) aH bW))
  (ag (cR (cW lM (pv 1) eY (cO aj)) (dF rfl (bg (gb 3 sQ.nd) (bg (gb 4 sQ.nd) cV))))
  (ag (aS (aD bR (pv 3) aH (aI _)) (ak (aE (aP cw (cg (aa aH (aa aH ai))) (bK ed (by rfl) T.int iu (aa (uF (nX (a9 L) (pv 4) (pv 2))) ai)) bW))) aF)
  (ag (aS (ja (gj (a9 L) (pv 4) (pv 2))) (ak (aE aH)) aF)
  (ag (dr 5 sQ.nd (bh (a9 L) (pv 2) (pv 4) bW))
  (ag (aS (PW.pt (ic (aD bR (pv 3) aH (aI _)) (gF (aD bR (pv 3) aH (aI _))))) (ag (cR (cW lM (pv 1) (cO aj) eY) (dF rfl (bg (gb 6 sQ.nd) (bg (gb 7 sQ.nd) cV))))
  (ag (aS (PW.pt (ic (aD gI (pv 7) aj (aI _)) (ic (aD gI (pv 6) aj (aI _)) (gF (aD gJ (aA bp (pv 6) (pv 7)) aj (aI _)))))) (ak (aE aH)) aF)
  (ag (CM (i:=8) (cl:=[("_law_room",s.heap.objs.size+1)]) (caps:=[("_law_room",5)]) sQ.nd rfl (Tr rfl) #[rfl,ao,ao,rfl,by kernel_rfl,by intro p Y;simp only[BY,DD,or_false]at Y;rcases Y with rfl<;>first|rfl|show#[rfl,.inl rfl,.inl rfl]|show#[rfl,.inl rfl,.inr rfl],by kernel_rfl,by intro p Y;simp only[BY,DD,or_false]at Y;rcases Y with rfl<;>first|rfl|show#[rfl,.inl rfl,.inl rfl]|show#[rfl,.inl rfl,.inr rfl],ao] rfl (fg (by rfl) T.range (aa (pv 6) (aa (aA bp (pv 6) (pv 7)) ai))) (λ_ _ _ _=>fO) (λ_ _ _ _=>(uF (nX (a9 L) (pv 0) (pv 1)))))
  (ag (aS (aD bR (pv 3) aH (aI _)) (ak (aE (aP cw (cg (aa aH (aa aH ai))) (bK ed (by rfl) T.int iu (aa (aQ (kH rfl) (by rfl) T.all uK (aa (pv 8) ai)) ai)) bW))) aF)
  (ag (aS (fB (aQ (x9 rfl) (by rfl) T.any Fj (aa (pv 8) ai))) (ak (aE aH)) aF)
  (ak (aE (aP cw (cg (aa aH (aa aH ai))) (bK ed (by rfl) T.int iu (aa (iC gJ (aA bp (pc a3 L ax (aa (pv 0) ai)) (pv 7)) (bh (a9 L) (pv 0) aH bW) (aI _)) ai)) bW)))))))) aF)
  (ag (aS (aD bR (pv 3) aH (aI _)) (ak (aE (aP cw (cg (aa aH (aa aH ai))) (bK ed (by rfl) T.int iu (aa (pc a5 L ax (aa (pv 5) (aa (aP aN (pv 1) aj bW) (aa (aP aN (pv 1) aj bW) ai)))) ai)) bW))) aF)
  (ag (aS (aD bR (pv 3) aH (aI _)) (ak (aE (aP cw (cg (aa aH (aa aH ai))) (bK ed (by rfl) T.int iu (aa (pc a5 L ax (aa (pv 5) (aa (aP aN (pv 1) aj bW) (aa (aQ bG (by rfl) T.len boot_len (aa (aP aN (pv 1) aj bW) ai)) ai)))) ai)) bW))) aF)
  (ag (aS (aD bR (pv 3) aH (aI _)) (ag (aS (ja (nX (a9 L) (aP aN (pv 1) aj bW) (pv 2))) (ak (aE aH)) aF)
  (ak (aE (aP cw (cg (aa aH (aa aH ai))) (bK ed (by rfl) T.int iu (aa (iC gJ (aA bp (pc a3 L ax (aa (pv 0) ai)) (aQ j9 (by rfl) T.len boot_len (aa (pv 5) ai))) (bh (a9 L) (pv 0) aH bW) (aI _)) ai)) bW)))) aF)
  (ak (aE aH))))))))))),?_]
 show eM λ_ jt=>?_;show#[0,m.md,.ref m.lr,rfl,M.g (yk _ _ _ _),jt _ _ ?_];show share (λσ H1=>aZ H H1/\σ=[some (.ref m.md),some (.ref d),some (.ref m.lr),some (.str (lg D)),some (.int (Dz D)),none,none,none,none]) (λu' a4=>?A) ?B
 case A =>
  show#[0,0,d,0,bL.of hd.1,λc=>?_,λ_ p Y=>?_]
  .show#[d,0,bL.of hd.1,by rw[Bz c];rfl,by rw[Bz c];show#[_,0,_,0,rfl,a4 _ _ #[aZ.refl H,rfl]]]
  .rw[El];show#[p,0,bL.of ae,4,0,_,0,rfl,a4 _ _ #[Tb.au Y,rfl]]
 case B =>
 rintro σ H1 ⟨s1,rfl⟩;have M1:=M.same s1;have O:H1 d=some (.tup (pz D)):=s1 _ _ hd.1;have a6:∀t ad c cs,D=.poke t ad c cs->H1 c=some (.lst (cs.map V.int)):=λt ad c cs e=>s1 _ _ (hd.2 t ad c cs e);have nb:lg D ≠ "begin" := by
  cases D with
  |begin t=>show absurd ab id
  |close t=>show(show ¬ (("close" : Str) = "begin")by decide +kernel)
  |map t p m=>show(show ¬ (("map" : Str) = "begin")by decide +kernel)
  |drop t p m=>show(show ¬ (("drop" : Str) = "begin")by decide +kernel)
  |peek t p m=>show(show ¬ (("peek" : Str) = "begin")by decide +kernel)
  |poke t p m q=>show(show ¬ (("poke" : Str) = "begin")by decide +kernel)
  |copy t p=>show(show ¬ (("copy" : Str) = "begin")by decide +kernel)
 show gP λ_ J I=>?_;show yV (iV rfl) iU rfl (ks_ne nb) (I _ ?_);clear J I;show gP λ_ J I=>?_;show#[0,0,m.lr,0,fZ (t:=Dz D) M1.hr,?_];cases R:Tb.look Z (Dz D)with
 |none=>show#[true,rfl,J _ (k "NoTask" H1 s1 (λz=>absurd z ao))]
 |some z =>
 show#[false,rfl,I _ ?_];clear J I;have hg:=fZ (t:=Dz D) M1.hr;rw[R]at hg;have ap:=Tb.az R;show eM λ_ jt=>?_;show#[0,0,m.lr,d0 z,rfl,hg,jt _ _ ?_];clear jt;cases D with
 |begin t=>show absurd ab id
 |close t =>
  show gP λ_ J I=>?_;show yV (iV rfl) iU rfl bU (bX (yV (iV rfl) iU rfl bU (I _ ?_)));show jY rfl rfl bU (jY rfl rfl bU ?_);show jY rfl rfl bU ?_;show k "" H1 s1 λ_=>#[z,R]
 |peek t ad n =>
  show gP λ_ J I=>?_;show yV (iV rfl) iU rfl bU (bX (yV (iV rfl) iU rfl bU (I _ ?_)));show Cw rfl rfl ?_;let#[a0,a1,n0,n1]:=ab;show#[dZ,λl N=>?_];have s2:=Tb.au (X:=.lst [.str "NoPage",.str ""]) N;have h2:upd H1 l (.lst [.str "NoPage",.str ""]) l=some (.lst [.str "NoPage",.str ""]):=ae;show#[0,0,d,2,.int ad,1,bL.of (s2 _ _ O),rfl,0,d,2,.int n,1,bL.of (s2 _ _ O),rfl,z.ra,z.pl,ad,n,rfl,s2 _ _ (M1.rm _ ap),a0,a1,n0,n1,λb H3 s3 hb=>?_];show .inr #[b,rfl,l,2,0,rfl,bA.of (s3 _ _ h2),at2 b,?_];cases b
  .show k "NoPage" H3 (s1.trans (s2.trans s3)) (λw=>absurd w ao)
  .show k "" H3 (s1.trans (s2.trans s3)) (λ_=>#[z,R,hb rfl])
 |poke t ad c cs =>
  show gP λ_ J I=>?_;show yV (iV rfl) iU rfl bU (bX (yV (iV rfl) iU rfl bU (I _ ?_)));show jY rfl rfl bU (Cw rfl rfl ?_);let#[a0,a1,n0,a7]:=ab;have n1:cs.length<=100:=G0 a7 av;show#[dZ,λl N=>?_];have s2:=Tb.au (X:=.lst [.str "NoPage",.str ""]) N;have h2:upd H1 l (.lst [.str "NoPage",.str ""]) l=some (.lst [.str "NoPage",.str ""]):=ae;show#[0,0,d,2,.int ad,1,bL.of (s2 _ _ O),rfl,0,d,2,.ref c,1,bL.of (s2 _ _ O),rfl,c,0,.inl (bA.of (s2 _ _ (a6 _ _ _ _ rfl))),z.ra,z.pl,ad,cs.length,by rw[mu];rfl,s2 _ _ (M1.rm _ ap),a0,a1,n0,n1,λb H3 s3 hb=>?_];show .inr #[b,rfl,l,2,0,rfl,bA.of (s3 _ _ h2),at2 b,?_];cases b
  .show k "NoPage" H3 (s1.trans (s2.trans s3)) (λw=>absurd w ao)
  .show k "" H3 (s1.trans (s2.trans s3)) (λ_=>#[z,R,hb rfl])
 |copy t o =>
  show gP λ_ J I=>?_;show yV (iV rfl) iU rfl bU (bX (yV (iV rfl) iU rfl bU (I _ ?_)));show jY rfl rfl bU (jY rfl rfl bU ?_);show Cw rfl rfl ?_;show gP λ_ J I=>?_;show#[0,d,2,.int o,1,bL.of O,rfl,0,m.lr,0,fZ (t:=o) M1.hr,?_];cases eo:Tb.look Z o with
  |some _=>show#[true,rfl,J _ (k "Taken" H1 s1 (λw=>absurd w ao))]
  |none =>
  show#[false,rfl,I _ ?_];show#[dZ,λl N=>?_];have s2:=Tb.au (X:=.lst [.str "",.str "NoRoom"]) N;have h2:upd H1 l (.lst [.str "",.str "NoRoom"]) l=some (.lst [.str "",.str "NoRoom"]):=ae;show#[0,m,bH,pk,Z,rfl,M1.same s2,lz,λH3 s3=>?_];have M3:=(M1.same s2).same s3;show#[0,z.ra,0,M3.rm _ ap,_,0,rfl,0,m.md,.int bH,rfl,M3.g (BV _ _ _ _),_,0,5];show .inr #[0,l,2,0,rfl,bA.of (s3 _ _ h2),at2 _,?_];rw[Tb.cj];by_cases c:bH<sM Z+z.pl.length
  .rw[decide_eq_true c];show k "NoRoom" H3 (s1.trans (s2.trans s3)) (λw=>absurd w ao)
  .rw[decide_eq_false c];show k "" H3 (s1.trans (s2.trans s3)) (λ_=>#[z,R,eo,af])
 |map t p G =>
  show gP λ_ J I=>?_;show eqT (iV rfl) iU rfl (eL (J _ ?_));let#[p0,p1,m0,m1]:=ab;show#[0,0,d,0,bL.of O,λc=>absurd c (by rintro⟨c,_⟩;show absurd (show HT.dg 4 0 (some 2)=0 from c) av),λ_ p' aT=>?_];have s2:=Tb.au (X:=.tup [.int p,.int G]) aT;have ec:∀x:Str,eS [V.str x,V.int t,V.int p,V.int G] (some 2) none=[V.int p,V.int G]:=λ_=>rfl;dsimp only[pz];rw[ec];show#[p',[.int p,.int G],rfl,bL.of ae,4,0,_,0,5];have ba:=s2 _ _ O;have M2:=M1.same s2;generalize upd H1 p' (.tup [.int p,.int G])=H2 at *;show gP λ_ ac am=>?_;show#[0,_,0,rfl,0,?_];rw[decide_eq_false af];show bX ?_;show#[0,_,0,rfl,0,?_];rw[decide_eq_false af];show bX ?_;show#[0,0,_,0,4,0,rfl,0,?_];by_cases c:(64:Int)<p+G
  .rw[decide_eq_true c];show ac _ (k "NoPage" H2 (s1.trans s2) (λw=>absurd w ao))
  rw[decide_eq_false c];show am _ ?_;clear ac am;have aB:¬ Rm.cE p G:=λh=>by
   rcases h with h|h|h<;>omega
  show#[0,0,0,_,0,4,0,#[af,af,af,af],?_];show fL (lo:=p) (n:=(p+G-p).toNat) (λi ys H3=>ys=((KR i).map λj:Nat=>(Tb.look z.pl (p+j)).isSome).map V.bl/\H3=H2) #[1] ?_ ?_
  .rintro i ys H3 hi ⟨rfl,rfl⟩;show#[0,0,z.ra,0,fZ (M2.rm _ ap),3,rfl]
   .rw[mu,mu,Lr];omega
   .rw[PY,DO,DO];change _++[V.bl ((Tb.look z.pl (p+(i:Int))).map dJ).isSome]=_;rw[OO];rfl
  rintro ys H3 ⟨rfl,rfl⟩ l N;have s3:=Tb.au (X:=.lst (((KR (p+G-p).toNat).map λj:Nat=>(Tb.look z.pl (p+j)).isSome).map V.bl)) N;have h3:upd H3 l (.lst (((KR (p+G-p).toNat).map λj:Nat=>(Tb.look z.pl (p+j)).isSome).map V.bl)) l=some (.lst (((KR (p+G-p).toNat).map λj:Nat=>(Tb.look z.pl (p+j)).isSome).map V.bl)):=ae;have a2:Rm.aM p G=(KR (p+G-p).toNat).map λj:Nat=>p+j:=(by unfold Rm.aM;rw[show p+G-p=G by omega]);generalize upd H3 l (.lst (((KR (p+G-p).toNat).map λj:Nat=>(Tb.look z.pl (p+j)).isSome).map V.bl))=H4 at *;have M4:=M2.same s3;have S4:=s1.trans (s2.trans s3);show nameQ ?_;dsimp only;show jY rfl rfl bU ?_;show gP λ_ J I=>?_;show#[0,l,0,bA.of h3,0,?_];cases ea:(((KR (p+G-p).toNat).map λj:Nat=>(Tb.look z.pl (p+j)).isSome)).any id with
  |true=>show J _ (k "Taken" H4 S4 (λw=>absurd w ao))
  |false =>
  show I _ ?_;show#[dZ,λU as=>?_];have S:=Tb.au (X:=.lst [.str "",.str "NoRoom"]) as;have h5:upd H4 U (.lst [.str "",.str "NoRoom"]) U=some (.lst [.str "",.str "NoRoom"]):=ae;show#[0,m,bH,pk,Z,rfl,M4.same S,lz,λH6 s6=>?_];have M6:=(M4.same S).same s6;show#[0,_,0,rfl,0,m.md,.int bH,rfl,M6.g (BV _ _ _ _),_,0,5];show .inr #[0,U,2,0,rfl,bA.of (s6 _ _ h5),at2 _,?_];by_cases c2:bH<sM Z+G
  .rw[decide_eq_true c2];show k "NoRoom" H6 (S4.trans (S.trans s6)) (λw=>absurd w ao)
  .rw[decide_eq_false c2];show k "" H6 (S4.trans (S.trans s6)) (λ_=>#[z,R,aB,λq hq=>?_,af]);rw[a2]at hq;let#[j,hj,rfl]:=rr.mp hq;have e:=QY.mp ea ((Tb.look z.pl (p+(j:Int))).isSome) (rr.mpr #[j,hj,rfl]);cases w:Tb.look z.pl (p+(j:Int))with
   |none=>rfl
   |some _=>rw[w]at e;show absurd rfl e
 |drop t p G =>
  show gP λ_ J I=>?_;show yV (iV rfl) iU rfl bU (bX (eqT (iV rfl) iU rfl (J _ ?_)));let#[p0,p1,m0,m1]:=ab;show#[0,0,d,0,bL.of O,λc=>absurd c (by rintro⟨c,_⟩;show absurd (show HT.dg 4 0 (some 2)=0 from c) av),λ_ p' aT=>?_];have s2:=Tb.au (X:=.tup [.int p,.int G]) aT;have ec:∀x:Str,eS [V.str x,V.int t,V.int p,V.int G] (some 2) none=[V.int p,V.int G]:=λ_=>rfl;dsimp only[pz];rw[ec];show#[p',[.int p,.int G],rfl,bL.of ae,4,0,_,0,5];have ba:=s2 _ _ O;have M2:=M1.same s2;generalize upd H1 p' (.tup [.int p,.int G])=H2 at *;show gP λ_ ac am=>?_;show#[0,_,0,rfl,0,?_];rw[decide_eq_false af];show bX ?_;show#[0,_,0,rfl,0,?_];rw[decide_eq_false af];show bX ?_;show#[0,0,_,0,4,0,rfl,0,?_];by_cases c:(64:Int)<p+G
  .rw[decide_eq_true c];show ac _ (k "NoPage" H2 (s1.trans s2) (λw=>absurd w ao))
  rw[decide_eq_false c];show am _ ?_;clear ac am;have aB:¬ Rm.cE p G:=λh=>by
   rcases h with h|h|h<;>omega
  show#[0,0,0,_,0,4,0,#[af,af,af,af],?_];show fL (lo:=p) (n:=(p+G-p).toNat) (λi ys H3=>ys=((KR i).map λj:Nat=>(Tb.look z.pl (p+j)).isSome).map V.bl/\H3=H2) #[1] ?_ ?_
  .rintro i ys H3 hi ⟨rfl,rfl⟩;show#[0,0,z.ra,0,fZ (M2.rm _ ap),3,rfl]
   .rw[mu,mu,Lr];omega
   .rw[PY,DO,DO];change _++[V.bl ((Tb.look z.pl (p+(i:Int))).map dJ).isSome]=_;rw[OO];rfl
  rintro ys H3 ⟨rfl,rfl⟩ l N;have s3:=Tb.au (X:=.lst (((KR (p+G-p).toNat).map λj:Nat=>(Tb.look z.pl (p+j)).isSome).map V.bl)) N;have h3:upd H3 l (.lst (((KR (p+G-p).toNat).map λj:Nat=>(Tb.look z.pl (p+j)).isSome).map V.bl)) l=some (.lst (((KR (p+G-p).toNat).map λj:Nat=>(Tb.look z.pl (p+j)).isSome).map V.bl)):=ae;have a2:Rm.aM p G=(KR (p+G-p).toNat).map λj:Nat=>p+j:=(by unfold Rm.aM;rw[show p+G-p=G by omega]);generalize upd H3 l (.lst (((KR (p+G-p).toNat).map λj:Nat=>(Tb.look z.pl (p+j)).isSome).map V.bl))=H4 at *;have M4:=M2.same s3;have S4:=s1.trans (s2.trans s3);show nameQ ?_;dsimp only;show Cw rfl rfl ?_;show#[dZ,λU as=>?_];have S:=Tb.au (X:=.lst [.str "NoPage",.str ""]) as;have h5:upd H4 U (.lst [.str "NoPage",.str ""]) U=some (.lst [.str "NoPage",.str ""]):=ae;show#[0,l,0,bA.of (S _ _ h3),?_];show .inr #[0,U,2,0,rfl,bA.of h5,at2 _,?_];cases ea:(((KR (p+G-p).toNat).map λj:Nat=>(Tb.look z.pl (p+j)).isSome)).all id with
  |false=>show k "NoPage" _ (S4.trans S) (λw=>absurd w ao)
  |true =>
   show k "" _ (S4.trans S) (λ_=>#[z,R,aB,λq hq=>?_]);rw[a2]at hq;let#[j,hj,rfl]:=rr.mp hq;have e:=Lf.mp ea ((Tb.look z.pl (p+(j:Int))).isSome) (rr.mpr #[j,hj,rfl]);intro w;rw[w]at e;cases e
end
theorem Dm:∀{L:List (List Int)}{i o:Nat},(∀r∈L,r.length=8)->o<8->L.flatten[8*i+o]?=(L[i]?).bind (·[o]?)
 | [],i,o,_,_=>by simp
 |r::L,0,o,h,G=>by
  have:=h r La;rw[MD,LG af];simp
 |r::L,i+1,o,h,G=>by
  have:=h r La;rw[MD,LC af,show 8*(i+1)+o-r.length=8*i+o by omega,Dm (λx I=>h x (K5 _ I)) G];simp
theorem wH {ad:Int}{n:Nat}{i:Nat}(h:i<(Rm.aq ad n).length):(Rm.aq ad n)[i]?=some (ad/8+i):=by
 unfold Rm.aq at h ⊢;by_cases e:((n:Nat):Int)=0
 .rw[Tz e]at h;cases h
 .rw[Tx e]at h ⊢;unfold Rm.aM at h ⊢;rw[mu,Lr]at h;rw[se,Nq h];rfl
theorem Fp {ad:Int}{n:Nat}{j:Nat}(h:j<n):((ad+j)/8-ad/8).toNat<(Rm.aq ad n).length:=by
 unfold Rm.aq;rw[Tx af];unfold Rm.aM;rw[mu,Lr];change _<((ad+n-1)/8-ad/8+1).toNat;omega
variable {F:Int->List Int}{ad:Int}{n:Nat}
theorem zm (I:∀q∈Rm.aq ad n,(F q).length=8) {i o:Nat}(hi:i<(Rm.aq ad n).length) (L:o<8):(bS F (Rm.aq ad n))[8*i+o]?=(F (ad/8+i))[o]?:=by
 unfold bS;rw[Dm (λr J=>by let#[q,G,rfl]:=rr.mp J;show I q G) L,se,wH hi];rfl
noncomputable def pE (F:Int->List Int) (ad:Int) (n:Nat):List Int:=(KR n).map λj:Nat=>(F ((ad+(j:Int))/8)).getD ((ad+(j:Int))%8).toNat 0
theorem xa (J:∀q∈Rm.aq ad n,(F q).length=8):((bS F (Rm.aq ad n)).drop (ad%8).toNat).take n=pE F ad n:=by
 show MY λj=>?_;unfold pE;rw[Of,Pj,se];by_cases G:j<n
 .rw[Tz G,Nq G];have hi:=Fp (ad:=ad) G;have e:(ad%8).toNat+j=8*((ad+j)/8-ad/8).toNat+((ad+j)%8).toNat:=af;have I:ad/8+(((ad+j)/8-ad/8).toNat:Int)=(ad+j)/8:=af;rw[e,zm J hi af,I];have L:(ad+(j:Int))/8∈Rm.aq ad n:=by
   have:=vr (wH hi);rw[I]at this;show this
  have:=J _ L;change _=some ((F ((ad+(j:Int))/8)).getD ((ad+(j:Int))%8).toNat 0);rw[Lq,tu af];rfl
 .rw[Tx G,Ly (by rw[Lr];omega)];rfl
noncomputable def jo (r:List Int) (ad:Int) (cs:List Int) (q:Int):List Int:=(KR 8).map λo:Nat=>if ad<=8*q+(o:Int)/\8*q+(o:Int)<ad+cs.length then cs.getD (8*q+(o:Int)-ad).toNat 0 else r.getD o 0
theorem gq {r:List Int}{cs:List Int}{q:Int}:(jo r ad cs q).length=8:=by unfold jo;rw[mu,Lr]
theorem gE {r:List Int}{cs:List Int}{q:Int}{o:Nat}(h:o<8):(jo r ad cs q)[o]?=some (if ad<=8*q+(o:Int)/\8*q+(o:Int)<ad+cs.length then cs.getD (8*q+(o:Int)-ad).toNat 0 else r.getD o 0):=by
 unfold jo;rw[se,Nq h];rfl
theorem Bi {r:List Int}{q:Int}(h:r.length=8):jo r ad [] q=r:=by
 show MY λo=>?_;by_cases G:o<8
 .rw[gE G,Tx (by rw[QM];omega),Lq,tu af];rfl
 .rw[Ly (by rw[gq];omega),Ly af]
theorem x8 {r cs:List Int}{c:Int}{q:Int}:jo r ad (cs++[c]) q=if (ad+(cs.length:Int))/8=q then(jo r ad cs q).set ((ad+(cs.length:Int))%8).toNat c else jo r ad cs q:=by
 have I:(cs++[c]).length=cs.length+1:=(by rw[wh];rfl);have L:∀k:Nat,k<cs.length->(cs++[c]).getD k 0=cs.getD k 0:=λk h=>(by rw[Lq,Lq,LG h]);have N:(cs++[c]).getD cs.length 0=c:=(by rw[Lq,LC (qs _)];simp);show MY λo=>?_;by_cases G:o<8
 .by_cases e:(ad+(cs.length:Int))/8=q
  .rw[Tz e,List.getElem?_set,gq,gE G,gE G,I];by_cases J:((ad+(cs.length:Int))%8).toNat=o
   .rw[Tz J,Tz (show((ad+(cs.length:Int))%8).toNat<8 by omega),Tz af,show(8*q+(o:Int)-ad).toNat=cs.length by omega,N]
   .rw[Tx J];by_cases h:ad<=8*q+(o:Int)/\8*q+(o:Int)<ad+cs.length
    .rw[Tz h,Tz af,L _ af]
    .rw[Tx h,Tx af]
  .rw[Tx e,gE G,gE G,I];by_cases h:ad<=8*q+(o:Int)/\8*q+(o:Int)<ad+cs.length
   .rw[Tz h,Tz af,L _ af]
   .rw[Tx h,Tx af]
 .have:(if (ad+(cs.length:Int))/8=q then(jo r ad cs q).set ((ad+(cs.length:Int))%8).toNat c else jo r ad cs q).length=8:=(by split<;>simp[gq]);rw[Ly (by rw[gq];omega),Ly af]
theorem zj {cs:List Int}(J:∀q∈Rm.aq ad cs.length,(F q).length=8) {i:Nat}(hi:i<(Rm.aq ad cs.length).length) (O:(Rm.dS (bS F (Rm.aq ad cs.length)) (ad%8).toNat cs).length=8*(Rm.aq ad cs.length).length):(eO F ad cs)[i]?=some (jo (F (ad/8+i)) ad cs (ad/8+i)):=by
 unfold eO Rm.f6;rw[se,Nq hi];change some _=some _;congr 1;have wl:(bS F (Rm.aq ad cs.length)).length=8*(Rm.aq ad cs.length).length:=by
  unfold bS;have:∀(L:List (List Int)),(∀r∈L,r.length=8)->L.flatten.length=8*L.length:=λL=>by
   induction L with
   |nil=>intro _;rfl
   |cons r L S=>intro h;rw[MD,wh,h r La,S λx U=>h x (K5 _ U),KO];omega
  rw[this _ (λr N=>by let#[q,G,rfl]:=rr.mp N;show J q G),mu]
 show MY λo=>?_;by_cases I:o<8
 .rw[Of,Tz I,Pj,gE I];have G:ad/8+(i:Int)∈Rm.aq ad cs.length:=vr (wH hi);have N:=J _ G;have R:(bS F (Rm.aq ad cs.length))[8*i+o]?=some ((F (ad/8+i)).getD o 0):=by
   rw[zm J hi I,Lq,tu af];rfl
  unfold Rm.dS at O ⊢;rw[wh,wh,HC,Mn]at O;by_cases Y:8*i+o<(ad%8).toNat
  .rw[Tx af,K9,LG (by rw[HC];omega),Of,Tz Y,R]
  .by_cases c2:8*i+o<(ad%8).toNat+cs.length
   .rw[Tz af,K9,LC (by rw[HC];omega),HC,LG af,Lq,show 8*i+o-min (ad%8).toNat (bS F (Rm.aq ad cs.length)).length=(8*(ad/8+(i:Int))+(o:Int)-ad).toNat by omega,tu af];rfl
   .rw[Tx af,LC (by rw[wh,HC];omega),Pj,wh,HC,show(ad%8).toNat+cs.length+(8*i+o-(min (ad%8).toNat (bS F (Rm.aq ad cs.length)).length+cs.length))=8*i+o by omega,R]
 .rw[Ly (by rw[HC];omega),Ly (by rw[gq];omega)]
theorem Jt {s:Pg.PS}{W:di}{cv:Int->Int->List Int}{t:Int}{x:TD}(I:Pg.RI s (ents W)) (G:Cv s W cv) (J:Tb.look W t=some x) (O:¬ Rm.cX ad n (x.t.map (·.1))):∀q∈Rm.aq ad n,(cv t q).length=8:=λq L=>by
 have h:=(Rm.gy O).2 q L;cases e:Tb.look x.t q with
 |none=>show absurd h (Tb.cf e)
 |some N=>show xM.len I.good (G t x J q N e)
theorem C6 (J:∀q∈Rm.aq ad n,(F q).length=8):(bS F (Rm.aq ad n)).length=8*(Rm.aq ad n).length:=by
 have:∀(L:List (List Int)),(∀r∈L,r.length=8)->L.flatten.length=8*L.length:=λL=>by
  induction L with
  |nil=>intro _;rfl
  |cons r L I=>intro h;rw[MD,wh,h r La,I λx G=>h x (K5 _ G),KO];omega
 unfold bS;rw[this _ (λr N=>by let#[q,O,rfl]:=rr.mp N;show J q O),mu]
noncomputable def tZ (cv:Int->Int->List Int) (t ad:Int) (cs:List Int):Int->Int->List Int:=λt' q=>if t'=t/\q∈Rm.aq ad cs.length then jo (cv t q) ad cs q else cv t' q
theorem uv {cv:Int->Int->List Int}{t:Int}{cs:List Int}{S:List Int}(O:¬ Rm.cX ad cs.length S) (J:∀q∈Rm.aq ad cs.length,(cv t q).length=8):fY cv t (((Rm.aq ad cs.length).zip (eO (cv t) ad cs)).reverse)=tZ cv t ad cs:=by
 have N:=Rm.m4 O (ws:=bS (cv t) (Rm.aq ad cs.length)) (C6 J);have U:(eO (cv t) ad cs).length=(Rm.aq ad cs.length).length:=(by unfold eO Rm.f6;rw[mu,Lr]);have I:((Rm.aq ad cs.length).zip (eO (cv t) ad cs)).map (·.1)=Rm.aq ad cs.length:=Rl af;have L:((((Rm.aq ad cs.length).zip (eO (cv t) ad cs)).reverse).map (·.1)).Nodup:=by
  rw[List.map_reverse,I];show((List.reverse_perm _).nodup_iff).mpr (jC _ _)
 funext t' q;unfold fY tZ;by_cases c:t'=t
 .rw[Tz c];by_cases m:q∈Rm.aq ad cs.length
  .rw[Tz #[c,m]];let#[i,hi,e]:=LX m;have G:=wH hi;rw[tu hi,e]at G;have R:=rn G;rw[Tb.bJ L (LL.mpr (vr (i:=i) (a:=(q,jo (cv t q) ad cs q)) (by rw[OV];show#[by rw[tu hi,e],by rw[R];show zj J hi N])))];rfl
  .rw[Tx (λh=>m h.2)];have:Tb.look (((Rm.aq ad cs.length).zip (eO (cv t) ad cs)).reverse) q=none:=by
    cases e:Tb.look (((Rm.aq ad cs.length).zip (eO (cv t) ad cs)).reverse) q with
    |none=>rfl
    |some r=>show absurd (by rw[<-I];show rr.mpr #[_,LL.mp (Tb.az e),rfl]) m
   rw[this];rfl
 .rw[Tx c,Tx (λh=>c h.1)]
noncomputable def qu (D:Dd) (h h':Int->Bool):Prop:=match D with
 |.begin t=>∀t',h' t'=(decide (t'=t)||h t')
 |.close t=>∀t',h' t'=(decide (t'≠t)&&h t')
 |.copy _ o=>∀t',h' t'=(decide (t'=o)||h t')
 |_=>∀t',h' t'=h t'
noncomputable def lj {α:Type}(I:α) (ok:α->Prop) (D:Dd) (e G:Int->Int->Option α):Prop:=match D with
 |.begin t=>∀t' q,G t' q=if t'=t then none else e t' q
 |.close t=>∀t' q,G t' q=if t'=t then none else e t' q
 |.map t p m=>∀t' q,G t' q=if t'=t/\q∈Rm.aM p m then some I else e t' q
 |.drop t p m=>∀t' q,G t' q=if t'=t/\q∈Rm.aM p m then none else e t' q
 |.peek _ _ _=>∀t' q,G t' q=e t' q
 |.poke t ad _ cs=>∀t' q,if t'=t/\q∈Rm.aq ad cs.length then ∃k,G t' q=some k/\ok k else G t' q=e t' q
 |.copy t o=>∀t' q,G t' q=if t'=o then e t q else e t' q
noncomputable def hW (W:di) (t:Int):Bool:=(Tb.look W t).isSome
noncomputable def eW (W:di) (t q:Int):Option Pg.Ent:=(Tb.look W t).bind λx=>Tb.look x.t q
noncomputable def hZ (Z:Zs) (t:Int):Bool:=(Tb.look Z t).isSome
noncomputable def eZ (Z:Zs) (t q:Int):Option Int:=(Tb.look Z t).bind λz=>(Tb.look z.pl q).map (·.2)
structure Tw (W:di) (Z:Zs):Prop where
 h:∀t,hW W t=hZ Z t
 e:∀t q,(eW W t q).map isNone=(eZ Z t q).map λv=>decide (v=0)
theorem map_if {α G:Type}{c:Prop} [Decidable c] {f:α->G}{a b:Option α}:(if c then a else b).map f=if c then a.map f else b.map f:=by split<;>rfl
theorem Tw.next {W W':di}{Z Z':Zs}{D:Dd}(T:Tw W Z) (h1:qu D (hW W) (hW W')) (h2:qu D (hZ Z) (hZ Z')) (I:lj none (λx=>∃k,x=some k) D (eW W) (eW W')) (G:lj 0 (λv=>v≠0) D (eZ Z) (eZ Z')):Tw W' Z':=by
 show#[λt'=>?_,λt' q=>?_]
 .cases D with
  |begin t=>show(h1 t').trans (by rw[T.h t'];show(h2 t').symm)
  |close t=>show(h1 t').trans (by rw[T.h t'];show(h2 t').symm)
  |copy t o=>show(h1 t').trans (by rw[T.h t'];show(h2 t').symm)
  |map t p m=>show(h1 t').trans ((T.h t').trans (h2 t').symm)
  |drop t p m=>show(h1 t').trans ((T.h t').trans (h2 t').symm)
  |peek t ad n=>show(h1 t').trans ((T.h t').trans (h2 t').symm)
  |poke t ad c cs=>show(h1 t').trans ((T.h t').trans (h2 t').symm)
 .cases D with
  |begin t=>rw[I t' q,G t' q,map_if,map_if,T.e];rfl
  |close t=>rw[I t' q,G t' q,map_if,map_if,T.e];rfl
  |copy t o=>rw[I t' q,G t' q,map_if,map_if,T.e,T.e]
  |map t p m=>rw[I t' q,G t' q,map_if,map_if,T.e];rfl
  |drop t p m=>rw[I t' q,G t' q,map_if,map_if,T.e];rfl
  |peek t ad n=>rw[I t' q,G t' q,T.e]
  |poke t ad c cs =>
   have L:=I t' q;have J:=G t' q;by_cases z:t'=t/\q∈Rm.aq ad cs.length
   .rw[Tz z]at L J;let#[k,O,j,rfl]:=L;let#[v,N,R]:=J;rw[O,N];change some (isNone (some j))=some (decide (v=0));rw[decide_eq_false R];rfl
   .rw[Tx z]at L J;rw[L,J];show T.e t' q
theorem rA {W:di}{t:Int}{x y:TD}(h:Tb.look W t=some x) (t':Int):hW (Tb.aW W t y) t'=hW W t':=by
 unfold hW;rw[Tb.bM t' h];by_cases z:t'=t
 .rw[Tz z,z,h];rfl
 .rw[Tx z]
theorem qy {W:di}{t:Int}{x y:TD}(h:Tb.look W t=some x) (t' q:Int):eW (Tb.aW W t y) t' q=if t'=t then Tb.look y.t q else eW W t' q:=by
 unfold eW;rw[Tb.bM t' h];by_cases z:t'=t
 .rw[Tz z,Tz z];rfl
 .rw[Tx z,Tx z]
theorem k7 {W:di}{t:Int}{x:TD}(h:Tb.look W t=some x) (q:Int):eW W t q=Tb.look x.t q:=by unfold eW;rw[h];rfl
noncomputable def Ds (W:di) (tt:Int):Dd->Prop
 |.begin _=>False
 |.close t=>∃x,Tb.look W t=some x
 |.map t p m=>∃x,Tb.look W t=some x/\¬ Rm.cE p m/\(∀q∈Rm.aM p m,Tb.look x.t q=none)/\(ents W).length+m<=tt
 |.drop t p m=>∃x,Tb.look W t=some x/\¬ Rm.cE p m/\∀q∈Rm.aM p m,Tb.look x.t q≠none
 |.peek t ad n=>∃x,Tb.look W t=some x/\¬ Rm.cX ad n (x.t.map (·.1))/\0<=ad/\ad<=1000/\n<=100
 |.poke t ad _ cs=>∃x,Tb.look W t=some x/\¬ Rm.cX ad cs.length (x.t.map (·.1))/\0<=ad/\ad<=1000/\cs.length<=100
 |.copy t o=>∃x,Tb.look W t=some x/\Tb.look W o=none/\(ents W).length+x.t.length<=tt
structure FL (P:rz) (w:C1) (K:iF) (mg:Str->Option Value) (base:Heap) (c:CA):Prop where
 Jf:Md P w K mg base aV 3 c.C "begin" (nH c)
 KG:Md P w K mg base aV 6 c.C "close" (mE c)
 J5:Md P w K mg base aV 4 c.C "map" (vE c)
 KI:Md P w K mg base aV 6 c.C "drop" (vm c)
 Ku:Md P w K mg base aV 5 c.C "copy" (qY c)
 Im:Md P w K mg base aV 8 c.C "peek" (q8 c)
 Dh:Md P w K mg base aV 4 c.C "place" (nj c)
 Ky:Md P w K mg base aV 10 c.C "poke" (qS K c)
noncomputable def pB (D:Dd) (cv:Int->Int->List Int):Int->Int->List Int:=match D with
 |.map t p m=>gH cv t (Rm.aM p m)
 |.copy t o=>my cv t o
 |.poke t ad _ cs=>tZ cv t ad cs
 |_=>cv
noncomputable def Gi (D:Dd) (cv:Int->Int->List Int) (H H':Hp) (v:V):Prop:=match D with
 |.peek t ad n=>∃l,v=.ref l/\H l=none/\H' l=some (.lst ((pE (cv t) ad n).map V.int))
 |_=>True
noncomputable def IJ (D:Dd) (s s':Pg.PS) (W':di):Prop:=match D with
 |.peek t ad n=>Pg.KB s s'/\∃y,Tb.look W' t=some y/\m6 y.t (Rm.aq ad n) (Rm.aq ad n).length s'
 |.poke t ad _ cs=>Pg.KB s s'/\∃y,Tb.look W' t=some y/\Ep y.t (Rm.aq ad cs.length) s'/\m6 y.t (Rm.aq ad cs.length) (Rm.aq ad cs.length).length s'
 |_=>Pg.Up s s'
inductive mQ (c:CA) (vs:List V) (H:Hp) (Q:VK) (e3:XK):Prop
 |mk (M:Addr->Prop) (a:RA) (s:Pg.PS) (W:di) (cv:Int->Int->List Int) (d:Addr) (D:Dd) (_:vs=[.ref a.rp,.ref d]) (_:ay c H M a s W) (_:Pg.RI s (ents W)) (_:Cv s W cv) (_:W.length<=1000) (_:gO H d D) (_:Ds W (bH s) D) (_:∀(H':Hp) (M':Addr->Prop) (s':Pg.PS) (W':di) (cv':Int->Int->List Int) (v:V),ay c H' M' a s' W'->Pg.RI s' (ents W')->(Cv s' W' cv'/\cv'=pB D cv/\Gi D cv H H' v)->Step H M (a.own W) H' M' (a.own W')->((∀b,(s'.ow b).length=(s.ow b).length)/\IJ D s s' W')->W'.length<=W.length+1->qu D (hW W) (hW W')->lj none (λx=>∃k,x=some k) D (eW W) (eW W')->Q v H'):mQ c vs H Q e3
section
variable {P:rz}{w:C1}{K:iF}{mg:Str->Option Value}{base:Heap}
theorem EK:aC ["_law_kept","_law_deed","_law_name","_law_task"] ["_law_kept","_law_deed"] (aw pZ):=L2.bC
theorem yl {f:Addr}{fd:qj}{c:CA}(F:cI K "_law_called" "_law_called" pZ f fd) (T:oQ K mg c) (M:FL P w K mg base c):a8 P w K mg base aV 11 f fd ["_law_kept","_law_deed"] (mQ c):=by
 show F.dh EK (λas A outer s H vs Q E hr h=>?_);let#[MM,a,s',W,cv,d,D,rfl,R,ri,ab,lw,hd,fi,q]:=h;show#[_,(ag (cR (cW lM (pv 1) eY (cO aj)) (dF rfl (bg (gb 2 EK.nd) (bg (gb 3 EK.nd) cV))))
  (ag (aS (aD bR (pv 2) aH (aI _)) (ak (aE (pm (pv 0) T.cl M.Jf hr ax (aa (pv 3) ai)))) aF)
  (ag (aS (aD bR (pv 2) aH (aI _)) (ak (aE (pm (pv 0) T.cl M.KG hr ax (aa (pv 3) ai)))) aF)
  (ag (aS (aD bR (pv 2) aH (aI _)) (ak (aE (pm (pv 0) T.cl M.J5 hr ax (aa (pv 3) (aa (aP aN (pv 1) aj bW) (aa (aP aN (pv 1) aj bW) ai)))))) aF)
  (ag (aS (aD bR (pv 2) aH (aI _)) (ak (aE (pm (pv 0) T.cl M.KI hr ax (aa (pv 3) (aa (aP aN (pv 1) aj bW) (aa (aP aN (pv 1) aj bW) ai)))))) aF)
  (ag (aS (aD bR (pv 2) aH (aI _)) (ak (aE (pm (pv 0) T.cl M.Ku hr ax (aa (pv 3) (aa (aP aN (pv 1) aj bW) ai))))) aF)
  (ag (aS (aD bR (pv 2) aH (aI _)) (ak (aE (pm (pv 0) T.cl M.Im hr ax (aa (pv 3) (aa (aP aN (pv 1) aj bW) (aa (aP aN (pv 1) aj bW) ai)))))) aF)
  (ak (aE (pm (pv 0) T.cl M.Ky hr ax (aa (pv 3) (aa (aP aN (pv 1) aj bW) (aa (aP aN (pv 1) aj bW) ai))))))))))))),?_]
 show share (λσ H1=>aZ H H1/\σ=[some (.ref a.rp),some (.ref d),some (.str (lg D)),some (.int (Dz D))]) (λu' ac=>?A) ?B
 case A =>
  show#[0,0,d,0,bL.of hd.1,λc=>?_,λ_ p hp=>?_]
  .show#[d,0,bL.of hd.1,by rw[Bz c];rfl,by rw[Bz c];show#[_,0,_,0,rfl,ac _ _ #[aZ.refl H,rfl]]]
  .rw[El];show#[p,0,bL.of ae,4,0,_,0,rfl,ac _ _ #[Tb.au hp,rfl]]
 case B =>
 rintro σ H1 ⟨s1,rfl⟩;have R1:=R.same s1;have S1:=R.iy s1;have Y:H1 d=some (.tup (pz D)):=s1 _ _ hd.1;let#[dx,ho]:=R1.ob;have no:∀mm:Str,¬ mm = "rooms" -> ¬ mm = "total" -> ¬ mm = "paging" -> (eQ a.A.pg (bH s') a.rd).lookup mm=none:=λmm=>fA _ _ _;have l0:∀{t y},(Tb.aW W t y).length<=W.length+1:=λ{t y}=>(by rw[Tb.fK];omega);cases D with
 |begin t=>show absurd fi id
 |close t =>
  let#[x,G]:=fi;show jY rfl rfl bU (Cw rfl rfl ?_);show#[0,a.rp,dx,0,ho,no "close" ao ao ao,0,MM,a,s',W,cv,t,x,rfl,R1,ri,ab,G,λH2 M2 s2 R2 N O S L=>q H2 M2 s2 _ cv _ R2 N #[O,rfl,trivial] (S1.trans S) L (G0 (Nj _ _) (Oz _)) ?_ ?_]
  .intro t';unfold hW;rw[Tb.ck];by_cases z:t'=t
   .rw[Tz z,decide_eq_false (λy=>y z)];rfl
   .rw[Tx z,decide_eq_true z];rfl
  .intro t' q;unfold eW;rw[Tb.ck];by_cases z:t'=t
   .rw[Tz z,Tz z];rfl
   .rw[Tx z,Tx z]
 |map t p m =>
  let#[x,G,J,U,f3]:=fi;show jY rfl rfl bU (jY rfl rfl bU ?_);show Cw rfl rfl ?_;show#[0,a.rp,dx,0,ho,no "map" ao ao ao,0,0,d,2,.int p,1,bL.of Y,rfl,0,d,2,.int m,1,bL.of Y,rfl,MM,a,s',W,cv,t,p,m,x,rfl,R1,ri,ab,lw,G,J,U,f3,λH2 M2 y R2 N O hy S=>q H2 M2 s' _ _ _ R2 N #[O,rfl,trivial] (S1.trans S) #[λ_=>rfl,Pg.Up.refl] l0 (rA G) λt' j=>?_];rw[qy G];by_cases z:t'=t
  .rw[Tz z,hy j];by_cases I:j∈Rm.aM p m
   .rw[Tz I,Tz #[z,I]]
   .rw[Tx I,Tx (λh=>I h.2),z,k7 G]
  .rw[Tx z,Tx (λh=>z h.1)]
 |drop t p m =>
  let#[x,G,J,U]:=fi;show jY rfl rfl bU (jY rfl rfl bU ?_);show jY rfl rfl bU (Cw rfl rfl ?_);show#[0,a.rp,dx,0,ho,no "drop" ao ao ao,0,0,d,2,.int p,1,bL.of Y,rfl,0,d,2,.int m,1,bL.of Y,rfl,MM,a,s',W,cv,t,p,m,x,rfl,R1,ri,ab,G,J,U,λH2 M2 s2 y R2 N O hy S L=>q H2 M2 s2 _ _ _ R2 N #[O,rfl,trivial] (S1.trans S) L l0 (rA G) λt' j=>?_];rw[qy G];by_cases z:t'=t
  .rw[Tz z,hy j];by_cases I:j∈Rm.aM p m
   .rw[Tz I,Tz #[z,I]]
   .rw[Tx I,Tx (λh=>I h.2),z,k7 G]
  .rw[Tx z,Tx (λh=>z h.1)]
 |copy t o =>
  let#[x,G,J,U]:=fi;show jY rfl rfl bU (jY rfl rfl bU ?_);show jY rfl rfl bU (jY rfl rfl bU ?_);show Cw rfl rfl ?_;show#[0,a.rp,dx,0,ho,no "copy" ao ao ao,0,0,d,2,.int o,1,bL.of Y,rfl,MM,a,s',W,cv,t,o,x,rfl,R1,ri,ab,lw,G,J,U,λH2 M2 s2 y hy R2 N O S L=>q H2 M2 s2 _ _ _ R2 N #[O,rfl,trivial] (S1.trans S) L (by rw[wh];show qs _) ?_ ?_]
  .intro t';unfold hW;rw[Tb.bu t' J];by_cases z:t'=o
   .rw[Tz z,decide_eq_true z];rfl
   .rw[Tx z,decide_eq_false z];rfl
  .intro t' j;unfold eW;rw[Tb.bu t' J];by_cases z:t'=o
   .rw[Tz z,Tz z,G];show hy j
   .rw[Tx z,Tx z]
 |peek t ad n =>
  let#[x,G,J,U,f3,f4]:=fi;show jY rfl rfl bU (jY rfl rfl bU ?_);show jY rfl rfl bU (jY rfl rfl bU ?_);show jY rfl rfl bU (Cw rfl rfl ?_);show#[0,a.rp,dx,0,ho,no "peek" ao ao ao,0,0,d,2,.int ad,1,bL.of Y,rfl,0,d,2,.int n,1,bL.of Y,rfl,MM,a,s',W,cv,t,ad,n,x,rfl,R1,ri,ab,G,af,U,f3,J,λH2 M2 s2 l R2 N O S L fl hl=>q H2 M2 s2 _ _ _ R2 N #[O,rfl,l,rfl,s1.free fl,by rw[<-xa (Jt ri ab G J)];show hl] (S1.trans S) #[L.1,L.2.1,x,G,L.2.2] (Oz _) (λ_=>rfl) λ_ _=>rfl]
 |poke t ad cc cs =>
  let#[x,G,J,U,f3,f4]:=fi;show jY rfl rfl bU (jY rfl rfl bU ?_);show jY rfl rfl bU (jY rfl rfl bU ?_);show jY rfl rfl bU (jY rfl rfl bU ?_);show#[0,a.rp,dx,0,ho,no "poke" ao ao ao,0,0,d,2,.int ad,1,bL.of Y,rfl,0,d,2,.ref cc,1,bL.of Y,rfl,MM,a,s',W,cv,t,ad,cc,cs,x,rfl,R1,ri,ab,G,bA.of (s1 _ _ (hd.2 _ _ _ _ rfl)),af,U,f3,J,λH2 M2 s2 y R2 N O ap am S L=>q H2 M2 s2 _ _ _ R2 N #[O,uv J (Jt ri ab G J),trivial] (S1.trans S) #[L.1,L.2.1,y,by rw[Tb.bM t G,Tz rfl],L.2.2] l0 (rA G) λt' j=>?_];rw[qy G];by_cases z:t'=t
  .by_cases I:j∈Rm.aq ad cs.length
   .rw[Tz #[z,I],Tz z];let#[k,hk]:=am j I;show#[some k,hk,k,rfl]
   .rw[Tx (λh=>I h.2),Tz z,ap j I,z,k7 G]
  .rw[Tx (λh=>z h.1),Tx z]
end
theorem d9 {α:Type}{f:α->V}{H:Hp}{a:Addr}{l:List (Int×α)}{t:Int}{x:α}(h:H a=some (.dK (Tb.dk f l))) (G:Tb.look l t=some x):cZ H a (.int t) (some (f x)):=by
 have q:=fZ (t:=t) h;rw[G]at q;show q
section
variable {H H':Hp}{m:MA}{bH pk:Int}{Z:Zs}{t:Int}{z:MT}
theorem cF.alive (M:cF H m bH pk Z):∀b,cA m Z b->(∃xs,H b=some (.lst xs))\/∃kvs,H b=some (.dK kvs):=by
 intro b h;rcases h with h|h|h|⟨x,G,h|h|⟨y,I,h⟩⟩<;>rw[h]
 .show .inr #[_,M.hm]
 .show .inr #[_,M.hr]
 .show .inr #[_,M.hs]
 .show .inr #[_,M.rm x G]
 .show .inr #[_,M.st x G]
 .let#[ns,h1,_]:=M.cl x G y I;show .inl #[_,h1]
theorem cF.add (M:cF H m bH pk Z) (U:Tb.look Z t=none) (o:Off (λb=>b=m.lr\/b=m.ls) H H') (hr:H' m.lr=some (.dK (Tb.dk d0 (Z++[(t,z)])))) (hs:H' m.ls=some (.dK (Tb.dk sf (Z++[(t,z)])))) (h1:H' z.ra=some (.dK (Tb.dk dJ z.pl))) (h2:H' z.sa=some (.dK (Tb.dk oJ z.pl)))
  (h3:∀y∈z.pl,∃ns:List Int,H' y.2.1=some (.lst (ns.map V.int))/\ns.length=8) (np:(z.pl.map (·.1)).Nodup) (hg:∀y∈z.pl,0<=y.1/\y.1<64) (L:H z.ra=none) (J:H z.sa=none) (f3:z.ra≠z.sa):cF H' m bH pk (Z++[(t,z)]):=by
 have Y:∀{b xs},H b=some (.lst xs)->¬ (b=m.lr\/b=m.ls):=λe w=>by
  rcases w with w|w
  .rw[w,M.hr]at e;cases e
  .rw[w,M.hs]at e;cases e
 have N:∀x∈Z,z.ra≠x.2.ra/\z.sa≠x.2.sa/\z.ra≠x.2.sa/\z.sa≠x.2.ra:=λx G=>#[(λe=>by rw[e,M.rm x G]at L;cases L),(λe=>by rw[e,M.st x G]at J;cases J),(λe=>by rw[e,M.st x G]at L;cases L),(λe=>by rw[e,M.rm x G]at J;cases J)];show#[o _ _ M.hm (gv M.n3.1 M.n3.2.1),hr,hs,λx G=>?_,λx G=>?_,λx G y I=>?_,?_,λx G=>?_,λx G=>?_,λx G y I O=>?_,λx G y I=>?_,λx G=>?_,M.n3]
 .rcases n7.mp G with G|G
  .show o _ _ (M.rm x G) (gv (M.d3 x G).2.1 (M.d3 x G).2.2.1)
  .rw[nq.mp G];show h1
 .rcases n7.mp G with G|G
  .show o _ _ (M.st x G) (gv (M.d3 x G).2.2.2.2.1 (M.d3 x G).2.2.2.2.2)
  .rw[nq.mp G];show h2
 .rcases n7.mp G with G|G
  .let#[ns,R,S]:=M.cl x G y I;show#[ns,o _ _ R (Y R),S]
  .rw[nq.mp G]at I;show h3 y I
 .rw[DO];show fJ M.nd (Tb.cf U)
 .rcases n7.mp G with G|G
  .show M.np x G
  .rw[nq.mp G];show np
 .rcases n7.mp G with G|G
  .show M.rg x G
  .rw[nq.mp G];show hg
 .rcases n7.mp G with G|G<;>rcases n7.mp I with I|I
  .show M.da x G y I O
  .rw[nq.mp I];show#[qw (N x G).1,qw (N x G).2.1]
  .rw[nq.mp G];show#[(N y I).1,(N y I).2.1]
  .show absurd (by rw[nq.mp G,nq.mp I]) O
 .rcases n7.mp G with G|G<;>rcases n7.mp I with I|I
  .show M.rs x G y I
  .rw[nq.mp I];show qw (N x G).2.2.2
  .rw[nq.mp G];show(N y I).2.2.1
  .rw[nq.mp G,nq.mp I];show f3
 .rcases n7.mp G with G|G
  .show M.d3 x G
  .rw[nq.mp G];show#[(λe=>by rw[e,M.hm]at L;cases L),(λe=>by rw[e,M.hr]at L;cases L),(λe=>by rw[e,M.hs]at L;cases L),(λe=>by rw[e,M.hm]at J;cases J),(λe=>by rw[e,M.hr]at J;cases J),(λe=>by rw[e,M.hs]at J;cases J)]
theorem cF.del (M:cF H m bH pk Z) (o:Off (λb=>b=m.lr\/b=m.ls) H H') (O:H' m.lr=some (.dK (Tb.dk d0 (Tb.bf Z t)))) (hs:H' m.ls=some (.dK (Tb.dk sf (Tb.bf Z t)))):cF H' m bH pk (Tb.bf Z t):=by
 have N:∀{b xs},H b=some (.lst xs)->¬ (b=m.lr\/b=m.ls):=λe w=>by
  rcases w with w|w
  .rw[w,M.hr]at e;cases e
  .rw[w,M.hs]at e;cases e
 have sub:∀{x},x∈Tb.bf Z t->x∈Z:=λh=>(Tb.b9 h).1;show#[o _ _ M.hm (gv M.n3.1 M.n3.2.1),O,hs,λx G=>?_,λx G=>?_,λx G y I=>?_,Tb.ma M.nd,λx G=>M.np x (sub G),λx G=>M.rg x (sub G),λx G y I=>M.da x (sub G) y (sub I),λx G y I=>M.rs x (sub G) y (sub I),λx G=>M.d3 x (sub G),M.n3]
 .have G:=sub G;show o _ _ (M.rm x G) (gv (M.d3 x G).2.1 (M.d3 x G).2.2.1)
 .have G:=sub G;show o _ _ (M.st x G) (gv (M.d3 x G).2.2.2.2.1 (M.d3 x G).2.2.2.2.2)
 .let#[ns,J,L]:=M.cl x (sub G) y I;show#[ns,o _ _ J (N J),L]
theorem cF.DT (M:cF H m bH pk Z) (R:Tb.look Z t=some z) {pk':Int}{pl:List (Int×Addr×Int)}(o:Off (λb=>b=m.md\/b=z.ra\/b=z.sa) H H') (hm:H' m.md=some (.dK (oN m.lr m.ls bH pk'))) (h1:H' z.ra=some (.dK (Tb.dk dJ pl))) (h2:H' z.sa=some (.dK (Tb.dk oJ pl)))
  (h3:∀y∈pl,∃ns:List Int,H' y.2.1=some (.lst (ns.map V.int))/\ns.length=8) (np:(pl.map (·.1)).Nodup) (hg:∀y∈pl,0<=y.1/\y.1<64):cF H' m bH pk' (Tb.aW Z t #[z.ra,z.sa,pl]):=by
 have I:=Tb.az R;have nl:∀{b xs},H b=some (.lst xs)->¬ (b=m.md\/b=z.ra\/b=z.sa):=λe w=>by
  rcases w with w|w|w
  .rw[w,M.hm]at e;cases e
  .rw[w,M.rm _ I]at e;cases e
  .rw[w,M.st _ I]at e;cases e
 have O:∀{b},b≠m.md->b≠z.ra->b≠z.sa->¬ (b=m.md\/b=z.ra\/b=z.sa):=λa b c w=>w.elim a λw=>w.elim b c;have N:=M.d3 _ I;show#[hm,3,λx G=>?_,λx G=>?_,λx G y J=>?_,by rw[Tb.fm];show M.nd,λx G=>?_,λx G=>?_,λx G y J L=>?_,λx G y J=>?_,λx G=>?_,M.n3]
 .rw[Tb.qA (f:=d0) (a:=(#[z.ra,z.sa,pl]:MT)) (b:=z) M.nd R rfl];show o _ _ M.hr (O (qw M.n3.1) (qw N.2.1) (qw N.2.2.2.2.1))
 .rw[Tb.qA (f:=sf) (a:=(#[z.ra,z.sa,pl]:MT)) (b:=z) M.nd R rfl];show o _ _ M.hs (O (qw M.n3.2.1) (qw N.2.2.1) (qw N.2.2.2.2.2))
 .rcases Tb.mem_set G with rfl|⟨G,L⟩
  .show h1
  .show o _ _ (M.rm x G) (O (M.d3 x G).1 (M.da x G _ I L).1 (M.rs x G _ I))
 .rcases Tb.mem_set G with rfl|⟨G,L⟩
  .show h2
  .show o _ _ (M.st x G) (O (M.d3 x G).2.2.2.1 (qw (M.rs _ I x G)) (M.da x G _ I L).2)
 .rcases Tb.mem_set G with rfl|⟨G,L⟩
  .show h3 y J
  .let#[ns,Y,e2]:=M.cl x G y J;show#[ns,o _ _ Y (nl Y),e2]
 .rcases Tb.mem_set G with rfl|⟨G,L⟩
  .show np
  .show M.np x G
 .rcases Tb.mem_set G with rfl|⟨G,L⟩
  .show hg
  .show M.rg x G
 .rcases Tb.mem_set G with rfl|⟨G,S⟩<;>rcases Tb.mem_set J with rfl|⟨J,U⟩
  .show absurd rfl L
  .show M.da (t,z) I y J (qw U)
  .show M.da x G (t,z) I S
  .show M.da x G y J L
 .rcases Tb.mem_set G with rfl|⟨G,S⟩<;>rcases Tb.mem_set J with rfl|⟨J,U⟩
  .show M.rs (t,z) I (t,z) I
  .show M.rs (t,z) I y J
  .show M.rs x G (t,z) I
  .show M.rs x G y J
 .rcases Tb.mem_set G with rfl|⟨G,S⟩
  .show N
  .show M.d3 x G
theorem cF.E2 (M:cF H m bH pk Z) {l:Addr}{xs:List V}(L:H l=some (.lst xs)) {ns':List Int}(O:ns'.length=8):cF (upd H l (.lst (ns'.map V.int))) m bH pk Z:=by
 have o:Off (· = l) H (upd H l (.lst (ns'.map V.int))):=Off.wr rfl;have I:∀{b kvs},H b=some (.dK kvs)->¬ b=l:=λe w=>(by rw[w,L]at e;cases e);show#[o _ _ M.hm (I M.hm),o _ _ M.hr (I M.hr),o _ _ M.hs (I M.hs),λx G=>o _ _ (M.rm x G) (I (M.rm x G)),λx G=>o _ _ (M.st x G) (I (M.st x G)),λx G y J=>?_,M.nd,M.np,M.rg,M.da,M.rs,M.d3,M.n3];by_cases w:y.2.1=l
 .show#[ns',by rw[w,ae],O]
 .let#[ns,R,N]:=M.cl x G y J;show#[ns,o _ _ R w,N]
end
section
variable {Z:Zs}{t:Int}{z y:MT}
theorem uC (h:Tb.look Z t=some z) (t':Int):hZ (Tb.aW Z t y) t'=hZ Z t':=by
 unfold hZ;rw[Tb.bM t' h];by_cases c:t'=t
 .rw[Tz c,c,h];rfl
 .rw[Tx c]
theorem vA (h:Tb.look Z t=some z) (t' q:Int):eZ (Tb.aW Z t y) t' q=if t'=t then(Tb.look y.pl q).map (·.2)else eZ Z t' q:=by
 unfold eZ;rw[Tb.bM t' h];by_cases c:t'=t
 .rw[Tz c,Tz c];rfl
 .rw[Tx c,Tx c]
theorem tO (h:Tb.look Z t=some z) (q:Int):eZ Z t q=(Tb.look z.pl q).map (·.2):=by unfold eZ;rw[h];rfl
end
theorem Jj {t u:TS}{D:Ends}{σ:L2.St}{H:Hp}(h:t { D with nx:=u D } σ H):jL t u D σ H:=h
theorem Ag {α:Type}{W:List (Int×α)}{t:Int}{x y:α}:Tb.aW (Tb.aW W t x) t y=Tb.aW W t y:=by
 unfold Tb.aW;rw[Mb];show Mp λz _=>?_;change(if (if z.1=t then(t,x)else z).1=t then(t,y)else(if z.1=t then(t,x)else z))=if z.1=t then(t,y)else z
 by_cases c:z.1=t
 .rw[Tz c,Tz rfl,Tz c]
 .simp only[Tx c]
theorem yZ {α:Type}{W:List (Int×α)}{t:Int}{x y:α}(h:Tb.look W t=some x):Tb.look (Tb.aW W t y) t=some y:=by rw[Tb.bM t h,Tz rfl]
theorem xK {Z:Zs}{t:Int}{z:MT}(I:(Z.map (·.1)).Nodup) (h:Tb.look Z t=some z):Tb.aW Z t #[z.ra,z.sa,z.pl]=Z:=by
 unfold Tb.aW
 conv=>rhs;rw[<-Tn Z]
 show Mp λy G=>?_;change(if y.1=t then(t,(#[z.ra,z.sa,z.pl]:MT))else y)=y;by_cases c:y.1=t
 .have:=Tb.bJ I G;rw[c,h]at this;rw[Tz c,rn this, <-c]
 .rw[Tx c]
theorem cF.len {H:Hp}{m:MA}{bH pk:Int}{Z:Zs}(M:cF H m bH pk Z) {x:Int×MT}(G:x∈Z):x.2.pl.length<=64:=by
 have:=Tb.BE 64 0 (x.2.pl.map (·.1)) (M.np x G) λq J=>by
  let#[y,I,rfl]:=rr.mp J;have:=M.rg x G y I;omega
 rwa [mu]at this
theorem mH {m:MA}{Z:Zs}{t:Int}{z:MT}{pl:List (Int×Addr×Int)}{H:Hp}(L:Tb.look Z t=some z) (h:∀y∈pl,(∃I∈z.pl,y.2.1=I.2.1)\/H y.2.1=none):∀b,cA m (Tb.aW Z t #[z.ra,z.sa,pl]) b->cA m Z b\/H b=none:=by
 intro b w;have G:=Tb.az L;rcases w with w|w|w|⟨x,J,w⟩
 .show .inl (.inl w)
 .show .inl (.inr (.inl w))
 .show .inl (.inr (.inr (.inl w)))
 .rcases Tb.mem_set J with rfl|⟨J,_⟩
  .rcases w with w|w|⟨y,N,w⟩
   .show .inl (.inr (.inr (.inr #[_,G,.inl w])))
   .show .inl (.inr (.inr (.inr #[_,G,.inr (.inl w)])))
   .rcases h y N with⟨I,h1,h2⟩|h
    .show .inl (.inr (.inr (.inr #[_,G,.inr (.inr #[I,h1,w.trans h2])])))
    .rw[w];show .inr h
  .show .inl (.inr (.inr (.inr #[x,J,w])))
theorem dv {ad q:Int}{n:Nat}:q∈Rm.aq ad n↔∃j:Nat,j<n/\(ad+j)/8=q:=by
 unfold Rm.aq;by_cases e:((n:Nat):Int)=0
 .rw[Tz e];show#[(λh=>nomatch h),(λ⟨j,h,_⟩=>by omega)]
 .rw[Tx e];unfold Rm.aM Rm.jm Rm.gZ;rw[rr];constructor
  .rintro⟨k,G,rfl⟩;have G:=Lg.mp G;show#[(8*(ad/8+k)-ad).toNat,af,af]
  .rintro⟨j,I,rfl⟩;show#[((ad+j)/8-ad/8).toNat,Lg.mpr af,af]
theorem Cj (G ls:Addr) (bH pk pk':Int):putK (oN G ls bH pk) (KP "pokes") (.int pk')=oN G ls bH pk':=by
 unfold putK oN;rw[Tz (by simp)];simp only[Mc,RH,Tx JH,Tx IK,Tx Jz,if_true,decide_eq_true_eq]
theorem pK {pl G:List (Int×Addr×Int)}(h:(G.map λy=>(y.1,y.2.1))=pl.map λy=>(y.1,y.2.1)) (q:Int):Tb.look G q=none↔Tb.look pl q=none:=by
 have J:G.map (·.1)=pl.map (·.1):=by
  have:=congrArg (To (·.1)) h;rw[Mb,Mb]at this;show this
 have I:∀{l:List (Int×Addr×Int)},Tb.look l q=none↔¬ q∈l.map (·.1):=λ{l}=>#[Tb.cf,λh=>by
  cases e:Tb.look l q with
  |none=>rfl
  |some a=>show absurd (rr.mpr #[_,Tb.az e,rfl]) h]
 rw[I,I,J]
theorem kr {α G:Type}(g:α->G) (k:Int):∀l:List (Int×α),Tb.look (l.map λx=>(x.1,g x.2)) k=(Tb.look l k).map g
 | []=>rfl
 |x::l=>by
  rw[Mc,Tb.aO,Tb.aO,kr g k l];by_cases e:x.1=k
  .rw[Tz e,Tz e];rfl
  .rw[Tx e,Tx e]
theorem lu {α:Type}(f:α->V) (l:List (Int×α)) (o:Int) (a:α):Tb.dk f (l++[(o,a)])=Tb.dk f l++[(ti o,f a)]:=by
 unfold Tb.dk;rw[DO];rfl
theorem Ie {pl G:List (Int×Addr×Int)}(h:(G.map λy=>(y.1,y.2.2))=pl.map λy=>(y.1,y.2.2)):Tb.dk oJ G=Tb.dk oJ pl:=by
 have e:∀l:List (Int×Addr×Int),Tb.dk oJ l=(l.map λy=>(y.1,y.2.2)).map λp=>((ti p.1:Key),V.int p.2):=λl=>by
  unfold Tb.dk;rw[Mb];rfl
 rw[e,e,h]
noncomputable def mq (m:MA) (H:Hp) (Z:Zs) (H':Hp) (Z':Zs):Prop:=Off (cA m Z) H H'/\∀b,cA m Z' b->cA m Z b\/H b=none
noncomputable def eA (Z:Zs) (t q:Int):Option Addr:=(Tb.look Z t).bind λz=>(Tb.look z.pl q).map (·.1)
structure Ct (H:Hp) (Z:Zs) (cv:Int->Int->List Int):Prop where
 at_:∀t q a,eA Z t q=some a->H a=some (.lst ((cv t q).map V.int))
 inj:∀t q t' q' a,eA Z t q=some a->eA Z t' q'=some a->t=t'/\q=q'
section
variable {H H':Hp}{Z Z':Zs}{cv cv':Int->Int->List Int}{t:Int}{z z':MT}
theorem rR (h:Tb.look Z t=none) (t' q:Int):eA (Z++[(t,z)]) t' q=if t'=t then(Tb.look z.pl q).map (·.1)else eA Z t' q:=by
 unfold eA;rw[Tb.bu t' h];split<;>rfl
theorem Ek (t' q:Int):eA (Tb.bf Z t) t' q=if t'=t then none else eA Z t' q:=by
 unfold eA;rw[Tb.ck];split<;>rfl
theorem kj (h:Tb.look Z t=some z) (t' q:Int):eA (Tb.aW Z t z') t' q=if t'=t then(Tb.look z'.pl q).map (·.1)else eA Z t' q:=by
 unfold eA;rw[Tb.bM t' h];split<;>rfl
theorem wC (h:Tb.look Z t=some z) (q:Int):eA Z t q=(Tb.look z.pl q).map (·.1):=by unfold eA;rw[h];rfl
theorem Ct.keep (C:Ct H Z cv) (k:∀a xs,H a=some (.lst xs)->H' a=some (.lst xs)) (e:∀t q a,eA Z' t q=some a->eA Z t q=some a):Ct H' Z' cv :=
 #[λt q a h=>k _ _ (C.at_ t q a (e _ _ _ h)),λt q t' G a h h'=>C.inj _ _ _ _ _ (e _ _ _ h) (e _ _ _ h')]
theorem Ct.congr (C:Ct H Z cv) (e:∀t q a,eA Z t q=some a->cv t q=cv' t q):Ct H Z cv':=#[λt q a h=>by rw[<-e t q a h];show C.at_ t q a h,C.inj]
theorem Ct.new {I:Int}{l:Addr}{r:List Int}(C:Ct H Z cv) (t:Int) (e:∀t' q,eA Z' t' q=if t'=t/\q=I then some l else eA Z t' q) (O:H' l=some (.lst (r.map V.int))) (f:H l=none) (k:∀a xs,H a=some (.lst xs)->H' a=some (.lst xs)):Ct H' Z' (λt' q=>if t'=t/\q=I then r else cv t' q):=by
 have L:∀{t' q},eA Z t' q=some l->False:=λh=>(by have:=C.at_ _ _ _ h;rw[f]at this;cases this);show#[λt' q a h=>?_,λt' q J N a h h2=>?_]
 .rw[e]at h;by_cases c:t'=t/\q=I
  .rw[Tz c]at h ⊢;cases h;show O
  .rw[Tx c]at h;rw[Tx c];show k _ _ (C.at_ _ _ _ h)
 .rw[e]at h h2;by_cases c:t'=t/\q=I
  .rw[Tz c]at h;cases h;by_cases G:J=t/\N=I
   .show#[c.1.trans G.1.symm,c.2.trans G.2.symm]
   .rw[Tx G]at h2;show(L h2).elim
  .rw[Tx c]at h;by_cases G:J=t/\N=I
   .rw[Tz G]at h2;cases h2;show(L h).elim
   .rw[Tx G]at h2;show C.inj _ _ _ _ _ h h2
theorem Ct.cell {G:Int}{l:Addr}{r:List Int}(C:Ct H Z cv) (I:eA Z t G=some l):Ct (upd H l (.lst (r.map V.int))) Z (λt' q=>if t'=t/\q=G then r else cv t' q):=by
 show#[λt' q a h=>?_,C.inj];by_cases c:t'=t/\q=G
 .rw[c.1,c.2,I]at h;cases h;rw[Tz c];show ae
 .rw[Tx c,ah (λz=>c (by rw[z]at h;show C.inj _ _ _ _ _ h I))];show C.at_ _ _ _ h
theorem Ct.IX {o:Int}{d1 d2:Addr}{pl:List (Int×Addr×Int)}(C:Ct H Z cv) (R:Tb.look Z o=none) (h:∀u∈pl,H' u.2.1=some (.lst ((cv t u.1).map V.int))/\H u.2.1=none) (nd:(pl.map (·.2.1)).Nodup) (k:∀a xs,H a=some (.lst xs)->H' a=some (.lst xs)):Ct H' (Z++[(o,#[d1,d2,pl])]) (my cv t o):=by
 have pg:∀{q a},(Tb.look pl q).map (·.1)=some a->∃u∈pl,u.1=q/\u.2.1=a:=λ{q a} e=>by
  let#[u,h1,h2]:=pf.mp e;show#[(q,u),Tb.az h1,rfl,h2]
 have S:∀{t' q a},eA Z t' q=some a->∀u∈pl,u.2.1=a->False:=λh1 u J e=>by
  have:=C.at_ _ _ _ h1;rw[<-e,(h u J).2]at this;cases this
 show#[λt' q a e=>?_,λt' q O q2 a e G=>?_]
 .rw[rR R]at e;unfold my;by_cases c:t'=o
  .rw[Tz c]at e;let#[u,J,rfl,rfl]:=pg e;rw[Tz c];show(h u J).1
  .rw[Tx c]at e;rw[Tx c];show k _ _ (C.at_ _ _ _ e)
 .rw[rR R]at e G;by_cases c:t'=o
  .rw[Tz c]at e;let#[u,J,rfl,rfl]:=pg e;by_cases I:O=o
   .rw[Tz I]at G;let#[L,N,rfl,g]:=pg G;show#[c.trans I.symm,?_];let#[i,hi,U]:=LX J;let#[j,hj,Y]:=LX N;have:i=j:=by
     show Decidable.byContradiction λn=>nE nd i j (a:=u.2.1) (b:=L.2.1) ?_ ?_ n g.symm
     .rw[se,tu hi,U];rfl
     .rw[se,tu hj,Y];rfl
    subst this;rw[<-U, <-Y]
   .rw[Tx I]at G;show(S G u J rfl).elim
  .rw[Tx c]at e;by_cases I:O=o
   .rw[Tz I]at G;let#[L,N,_,g]:=pg G;show(S e L N g).elim
   .rw[Tx I]at G;show C.inj _ _ _ _ _ e G
end
noncomputable def C8 (cv:Int->Int->List Int) (t p:Int) (i:Nat):Int->Int->List Int:=λt' q=>if t'=t/\p<=q/\q<p+(i:Int)then replicate 8 0 else cv t' q
theorem Ab {cv:Int->Int->List Int}{t p:Int}:C8 cv t p 0=cv:=by
 funext t' q;unfold C8;rw[Tx af]
theorem y8 {cv:Int->Int->List Int}{t p:Int}{i:Nat}:C8 cv t p (i+1)=λt' q=>if t'=t/\q=p+(i:Int)then replicate 8 0 else C8 cv t p i t' q:=by
 funext t' q;unfold C8;by_cases c:t'=t/\q=p+(i:Int)
 .rw[Tz c,Tz af]
 .rw[Tx c];by_cases G:t'=t/\p<=q/\q<p+(i:Int)
  .rw[Tz G,Tz af]
  .rw[Tx G,Tx af]
theorem Dg {cv:Int->Int->List Int}{t p G:Int}:C8 cv t p (p+G-p).toNat=gH cv t (Rm.aM p G):=by
 funext t' q;unfold C8 gH Rm.aM;have:(q∈(KR G.toNat).map λk:Nat=>p+(k:Int))↔(p<=q/\q<p+((p+G-p).toNat:Int)):=by
  rw[rr];constructor
  .rintro⟨j,I,rfl⟩;have:=Lg.mp I;omega
  .intro h;show#[(q-p).toNat,Lg.mpr af,af]
 by_cases c:t'=t/\p<=q/\q<p+((p+G-p).toNat:Int)
 .rw[Tz c,Tz #[c.1,this.mpr c.2]]
 .rw[Tx c,Tx (λh=>c #[h.1,this.mp h.2])]
theorem yb {r cs:List Int}{ad q:Int}(h:r.length=8) (n:¬ q∈Rm.aq ad cs.length):jo r ad cs q=r:=by
 show MY λo=>?_;by_cases G:o<8
 .rw[gE G,Tx (λc=>n (dv.mpr #[(8*q+(o:Int)-ad).toNat,af,af])),Lq,tu af];rfl
 .rw[Ly (by rw[gq];omega),Ly af]
theorem jU:∀{xs ys:List Int},xs.map V.int=ys.map V.int->xs=ys
 | [],[],_=>rfl
 | [],_::_,h=>by cases h
 |_::_,[],h=>by cases h
 |x::xs,y::ys,h=>by
  injection h with h1 h2;injection h1 with h1;rw[h1,jU h2]
theorem Ct.Ey {H:Hp}{m:MA}{bH pk:Int}{Z:Zs}{cv:Int->Int->List Int}{t q:Int}{a:Addr}(C:Ct H Z cv) (M:cF H m bH pk Z) (h:eA Z t q=some a):(cv t q).length=8:=by
 let#[z,h1,h2]:=MN.mp h;let#[y,L,I]:=pf.mp h2;let#[ns,J,G]:=M.cl _ (Tb.az h1) _ (Tb.az L);have:=C.at_ t q a h;rw[<-I,J]at this;rw[<-jU (HO.lst.inj (rn this))];show G
noncomputable def DN (cv:Int->Int->List Int) (t ad:Int) (cs:List Int):Int->Int->List Int:=λt' q=>if t'=t then jo (cv t q) ad cs q else cv t' q
inductive nG (vs:List V) (H:Hp) (Q:VK) (e3:XK):Prop
 |mk (m:MA) (bH pk:Int) (Z:Zs) (d:Addr) (D:Dd) (_:vs=[.ref m.md,.ref d]) (_:cF H m bH pk Z) (_:0<=pk) (_:Z.length<=1000) (_:gO H d D) (_:yN Z bH D) (_:(∀t ad c cs,D=.poke t ad c cs->¬ cA m Z c/\0<=ad/\ad<=1000/\cs.length<=100)) (_:(∀t ad n,D=.peek t ad n->0<=ad/\ad<=1000/\n<=100)) (_:∀(H':Hp) (pk':Int) (Z':Zs) (v:V),cF H' m bH pk' Z'->(0<=pk'/\∀cv,Ct H Z cv->Ct H' Z' (pB D cv)/\Gi D cv H H' v)->mq m H Z H' Z'->Z'.length<=Z.length+1->qu D (hZ Z) (hZ Z')->lj 0 (λv=>v≠0) D (eZ Z) (eZ Z')->Q v H'):nG vs H Q e3
inductive Kd (m:MA) (bH:Int) (Z:Zs) (H:Hp) (D:Dd) (σ:L2.St) (H2:Hp):Prop
 |mk (pk':Int) (Z':Zs) (_:(cF H2 m bH pk' Z')) (_:(0<=pk'/\∀cv,Ct H Z cv->Ct H2 Z' (pB D cv)/\Gi D cv H H2 .non)) (_:(mq m H Z H2 Z')) (_:(Z'.length<=Z.length+1)) (_:(qu D (hZ Z) (hZ Z'))) (_:(lj 0 (λv=>v≠0) D (eZ Z) (eZ Z'))):Kd m bH Z H D σ H2
inductive Kj (m:MA) (d:Addr) (bH pk:Int) (Z:Zs) (H:Hp) (t p:Int) (z:MT) (i:Nat) (σ:L2.St) (H2:Hp):Prop
 |mk (v6:Option V) (pl:List (Int×Addr×Int)) (_:(σ=[some (.ref m.md),some (.ref d),some (.ref m.lr),some (.ref m.ls),some (.str "map"),some (.int t),v6,none,none,none,none])) (_:(cF H2 m bH pk (Tb.aW Z t #[z.ra,z.sa,pl]))) (_:((∀q,(Tb.look pl q).map (·.2)=if p<=q/\q<p+(i:Int)then some 0 else(Tb.look z.pl q).map (·.2)))) (_:((∀y∈pl,y∈z.pl\/H y.2.1=none))) (_:(Off (cA m Z) H H2)) (_:((∀b,H2 b=none->H b=none)/\∀cv,Ct H Z cv->Ct H2 (Tb.aW Z t #[z.ra,z.sa,pl]) (C8 cv t p i))):Kj m d bH pk Z H t p z i σ H2
inductive Kc (m:MA) (d:Addr) (bH pk:Int) (Z:Zs) (H:Hp) (t p:Int) (z:MT) (i:Nat) (σ:L2.St) (H2:Hp):Prop
 |mk (v6:Option V) (pl:List (Int×Addr×Int)) (_:(σ=[some (.ref m.md),some (.ref d),some (.ref m.lr),some (.ref m.ls),some (.str "drop"),some (.int t),v6,none,none,none,none])) (_:(cF H2 m bH pk (Tb.aW Z t #[z.ra,z.sa,pl]))) (_:((∀q,(Tb.look pl q).map (·.2)=if p<=q/\q<p+(i:Int)then none else(Tb.look z.pl q).map (·.2)))) (_:((∀y∈pl,y∈z.pl\/H y.2.1=none))) (_:(Off (cA m Z) H H2)) (_:(∀cv,Ct H Z cv->Ct H2 (Tb.aW Z t #[z.ra,z.sa,pl]) cv)):Kc m d bH pk Z H t p z i σ H2
inductive Ki (m:MA) (d:Addr) (Z:Zs) (H:Hp) (t:Int) (z:MT) (d1:Addr) (HF:Hp) (i:Nat) (σ:L2.St) (H6:Hp):Prop
 |mk (v6 v7:Option V) (pl:List (Int×Addr×Int)) (_:(σ=[some (.ref m.md),some (.ref d),some (.ref m.lr),some (.ref m.ls),some (.str "copy"),some (.int t),v6,v7,none,none,none])) (_:(H6 d1=some (.dK (Tb.dk dJ pl)))) (_:((pl.map λy=>(y.1,y.2.2))=((z.pl.take i).map λy=>(y.1,y.2.2)))) (_:((∀y∈pl,(∃ns:List Int,H6 y.2.1=some (.lst (ns.map V.int))/\ns.length=8)/\HF y.2.1=none))) (_:(Off (· = d1) HF H6/\(pl.map (·.2.1)).Nodup/\∀cv,Ct H Z cv->∀u∈pl,H6 u.2.1=some (.lst ((cv t u.1).map V.int)))):Ki m d Z H t z d1 HF i σ H6
inductive Kl (m:MA) (d:Addr) (bH:Int) (Z:Zs) (H H1:Hp) (t ad:Int) (z:MT) (cs:List Int) (i:Nat) (σ:L2.St) (H2:Hp):Prop
 |mk (v8 v9 v10:Option V) (pk2:Int) (pl:List (Int×Addr×Int)) (_:(σ=[some (.ref m.md),some (.ref d),some (.ref m.lr),some (.ref m.ls),some (.str "poke"),some (.int t),none,none,v8,v9,v10])) (_:(cF H2 m bH pk2 (Tb.aW Z t #[z.ra,z.sa,pl]))) (_:(0<=pk2)) (_:((pl.map λy=>(y.1,y.2.1))=(z.pl.map λy=>(y.1,y.2.1)))) (_:((∀q,(∃j:Nat,j<i/\(ad+j)/8=q)->∃v,(Tb.look pl q).map (·.2)=some v/\v≠0))) (_:((∀q,(¬ ∃j:Nat,j<i/\(ad+j)/8=q)->(Tb.look pl q).map (·.2)=(Tb.look z.pl q).map (·.2)))) (_:(Off (cA m Z) H1 H2/\∀cv,Ct H Z cv->Ct H2 (Tb.aW Z t #[z.ra,z.sa,pl]) (DN cv t ad (cs.take i)))):Kl m d bH Z H H1 t ad z cs i σ H2
section
variable {P:rz}{w:C1}{K:iF}{mg:Str->Option Value}{base:Heap}
theorem lh:aC ["_law_model_here","_law_deed","_law_rooms","_law_stands","_law_name","_law_task","_law_page","_law_cells_here","_law_k","_law_cell","_law_at"] ["_law_model_here","_law_deed"] (aw Ai):=L2.bC
theorem BL {f:Addr}{fd:qj}(F:cI K "_law_done" "_law_done" Ai f fd) (T:ke mg):a8 P w K mg base aV 1 f fd ["_law_model_here","_law_deed"] nG:=by
 show F.dh lh (λfk A outer s H vs Q E hr h=>?_);let#[m,bH,pk,Z,d,D,rfl,M,p0,lz,hd,fi,d8,ee,k]:=h;have hs:=vu;show#[_,(ag (cR (b7 (aa (bh (a9 hr) (pv 0) aH bW) (aa (bh (a9 hr) (pv 0) aH bW) ai))) (dF rfl (bg (gb 2 lh.nd) (bg (gb 3 lh.nd) cV))))
  (ag (cR (cW lM (pv 1) eY (cO aj)) (dF rfl (bg (gb 4 lh.nd) (bg (gb 5 lh.nd) cV))))
  (ag (aS (aD bR (pv 4) aH (aI _)) (ak (cR (b7 (aa dn (aa dn ai))) (dF rfl (bg (dW (pv 2) (pv 5) (set_dict (a9 hr))) (bg (dW (pv 3) (pv 5) (set_dict (a9 hr))) cV))))) (ak (aS (aD bR (pv 4) aH (aI _)) (ag (aL (eG (pv 2) (pv 5) #[1,1]))
  (ak (aL (eG (pv 3) (pv 5) #[1,1])))) (ak (aS (aD bR (pv 4) aH (aI _)) (ak (cG D3 rfl (fg (by rfl) T.range (aa (aP aN (pv 1) aj bW) (aa (aA bp (aP aN (pv 1) aj bW) (aP aN (pv 1) aj bW)) ai))) (gb 6 lh.nd) (ak (cR (b7 (aa (aA mz (cg (aa aj ai)) aj) (aa aj ai))) (dF rfl (bg (dW (bh (a9 hr) (pv 2) (pv 5) bW) (pv 6) (set_dict (a9 hr))) (bg (dW (bh (a9 hr) (pv 3) (pv 5) bW) (pv 6) (set_dict (a9 hr))) cV))))))) (ak (aS (aD bR (pv 4) aH (aI _)) (ak (cG D3 rfl (fg (by rfl) T.range (aa (aP aN (pv 1) aj bW) (aa (aA bp (aP aN (pv 1) aj bW) (aP aN (pv 1) aj bW)) ai))) (gb 6 lh.nd) (ag (aL (eG (bh (a9 hr) (pv 2) (pv 5) bW) (pv 6) #[1,1]))
  (ak (aL (eG (bh (a9 hr) (pv 3) (pv 5) bW) (pv 6) #[1,1])))))) (ak (aS (aD bR (pv 4) aH (aI _)) (ag (cR (bK vY (by rfl) T.dict rj (aa (bh (a9 hr) (pv 3) (pv 5) bW) ai)) (dW (pv 3) (aP aN (pv 1) aj bW) (set_dict (a9 hr))))
  (ag (cR dn (dW (pv 2) (aP aN (pv 1) aj bW) (set_dict (a9 hr))))
  (ak (iO (cG D3 rfl (nN (bh (a9 hr) (pv 2) (pv 5) bW)) (dF rfl (bg (gb 6 lh.nd) (bg (gb 7 lh.nd) cV))) (ak (cR (bK cU (by rfl) T.list dU (aa (pv 7) ai)) (dW (bh (a9 hr) (pv 2) (aP aN (pv 1) aj bW) bW) (pv 6) (set_dict (a9 hr)))))))))) (ak (aS (aD bR (pv 4) aH (aI _)) (ak (aE (gx (cl:=[("_law_task",s.heap.objs.size+2),("_law_rooms",s.heap.objs.size+1)]) (caps:=[("_law_rooms",2),("_law_task",5)]) #[rfl,ao,ao,rfl,by kernel_rfl,by intro p hp;simp only[BY,DD,or_false]at hp;rcases hp with rfl|rfl<;>first|rfl|show#[rfl,.inl rfl,.inl rfl]|show#[rfl,.inl rfl,.inr rfl],by kernel_rfl,by intro p hp;simp only[BY,DD,or_false]at hp;rcases hp with rfl|rfl<;>first|rfl|show#[rfl,.inl rfl,.inl rfl]|show#[rfl,.inl rfl,.inr rfl],ao] rfl (fg (by rfl) T.range (aa (aP aN (pv 1) aj bW) (aa (aA bp (aP aN (pv 1) aj bW) (aP aN (pv 1) aj bW)) ai))) (λ_ _ _ _=>fO) (λ_ _ _ _=>(aP (show IC _ (Ck K)from cw) (bh (a9 hr) (bh (a9 hr) (pv 1) (pv 2) bW) (aA br (pv 0) aj) bW) (aA bB (pv 0) aj) bW))))) (ak (cG D3 rfl (xk (by rfl) T.enumerate (aa (aP aN (pv 1) aj bW) ai)) (dF rfl (bg (gb 8 lh.nd) (bg (gb 9 lh.nd) cV))) (ag (dr 10 lh.nd (aA bp (aP aN (pv 1) aj bW) (pv 8)))
  (ag (cR (pv 9) (dW (bh (a9 hr) (bh (a9 hr) (pv 2) (pv 5) bW) (aA br (pv 10) aj) bW) (aA bB (pv 10) aj) set_list))
  (ak (aS (PW.pt (ic (aD bR (pv 8) aj (aI _)) (gF (aD bR (aA bB (pv 10) aj) aj (aI _))))) (ag (cR (aA bp (bh (a9 hr) (pv 0) aH bW) aj) (dW (pv 0) aH (set_dict (a9 hr))))
  (ak (cR (bh (a9 hr) (pv 0) aH bW) (dW (bh (a9 hr) (pv 3) (pv 5) bW) (aA br (pv 10) aj) (set_dict (a9 hr)))))) aF)))))))))))))))))
  (ak (aE rY))))),?_]
 show share (λσ H1=>aZ H H1/\σ=[some (.ref m.md),some (.ref d),some (.ref m.lr),some (.ref m.ls),none,none,none,none,none,none,none]) (λu' as=>?A) ?B
 case A =>
  show#[0,m.md,.ref m.lr,rfl,M.g (yk _ _ _ _),0,m.md,.ref m.ls,rfl,M.g (Jg _ _ _ _),dZ,λtp bx=>?_];show#[tp,0,bL.of ae,4,0,_,0,rfl,as _ _ #[Tb.au bx,rfl]]
 case B =>
 rintro σ H0 ⟨s0,rfl⟩;have dm:H0 d=some (.tup (pz D)):=s0 _ _ hd.1;show share (λσ H1=>aZ H H1/\σ=[some (.ref m.md),some (.ref d),some (.ref m.lr),some (.ref m.ls),some (.str (lg D)),some (.int (Dz D)),none,none,none,none,none]) (λu' as=>?A2) ?B2
 case A2 =>
  show#[0,0,d,0,bL.of dm,λc=>?_,λ_ p hp=>?_]
  .show#[d,0,bL.of dm,by rw[Bz c];rfl,by rw[Bz c];show#[_,0,_,0,rfl,as _ _ #[s0,rfl]]]
  .rw[El];show#[p,0,bL.of ae,4,0,_,0,rfl,as _ _ #[s0.trans (Tb.au hp),rfl]]
 case B2 =>
 rintro σ H1 ⟨s1,rfl⟩;have M1:=M.same s1;have ap:H1 d=some (.tup (pz D)):=s1 _ _ hd.1;show share (Kd m bH Z H D) (λu' as=>?A3) ?B3
 case B3 =>
  rintro σ H2 ⟨pk',Z',a1,a2,a3,a4,a5,a6⟩;show k H2 pk' Z' .non a1 a2 a3 a4 a5 a6
 case A3 =>
 show Jj ?_;dsimp only;have zo:∀{b},H b=none->H1 b=none->True:=λ_ _=>trivial;cases D with
 |begin t =>
  show FQ rfl rfl ?_;have fi:Tb.look Z t=none:=fi;intro I h1 J h2;have bc:J≠I:=λe=>(by rw[e,ae]at h2;cases h2);have eH:H1 J=none:=(by rw[ah bc]at h2;show h2);have sA:=(Tb.au (X:=.dK []) h1).trans (Tb.au (X:=.dK []) h2);have e1:upd (upd H1 I (.dK [])) J (.dK []) I=some (.dK []):=(by rw[ah (qw bc),ae]);have e2:upd (upd H1 I (.dK [])) J (.dK []) J=some (.dK []):=ae;generalize upd (upd H1 I (.dK [])) J (.dK [])=H2 at *;show#[dZ,λtp bx=>?_];have sB:=Tb.au (X:=.tup [.ref I,.ref J]) bx;show#[tp,0,bL.of ae,4,0,?_];have M3:=(M1.same sA).same sB;have e1:=sB _ _ e1;have e2:=sB _ _ e2;have S3:=s1.trans (sA.trans sB);generalize upd H2 tp (.tup [.ref I,.ref J])=H3 at *;show#[0,0,m.lr,0,fC.k (k:=ti t) M3.hr (by rw[Tb.cj];omega),?_];rw[show(V.ref I)=d0 #[I,J,[]]from rfl,Tb.cH (f:=d0) fi];show#[_,0,0,0,m.ls,0,fC.k (k:=ti t) (by rw[ah (qw M3.n3.2.2)];show M3.hs) (by rw[Tb.cj];omega),5];rw[show(V.ref J)=sf #[I,J,[]]from rfl,Tb.cH (f:=sf) fi];have oC:Off (λb=>b=m.lr\/b=m.ls) H3 (upd (upd H3 m.lr (.dK (Tb.dk d0 (Z++[(t,#[I,J,[]])])))) m.ls (.dK (Tb.dk sf (Z++[(t,#[I,J,[]])])))):=λb o e w=>(by rw[ah (λy=>w (.inr y)),ah (λy=>w (.inl y))];show e);have b0:∀{b},H b=none->b≠m.lr/\b≠m.ls:=λh=>#[(λe=>by rw[e,M.hr]at h;cases h),(λe=>by rw[e,M.hs]at h;cases h)];have f1:H I=none:=s1.free h1;have f2:H J=none:=s1.free eH;have M4:cF (upd (upd H3 m.lr (.dK (Tb.dk d0 (Z++[(t,#[I,J,[]])])))) m.ls (.dK (Tb.dk sf (Z++[(t,#[I,J,[]])])))) m bH pk (Z++[(t,#[I,J,[]])]):=
   M.add fi (λb o e w=>oC b o (S3 b o e) w) (by rw[ah M.n3.2.2,ae]) ae (oC _ _ e1 λw=>w.elim (b0 f1).1 (b0 f1).2) (oC _ _ e2 λw=>w.elim (b0 f2).1 (b0 f2).2) (λy G=>by cases G) Mt (λy G=>by cases G) f1 f2 (qw bc)
  show as _ _ #[pk,_,M4,#[p0,λcv C=>#[C.keep (λa xs e=>oC a _ (S3 a _ e) (λw=>by rcases w with w|w;rw[w,M.hr]at e;cases e;rw[w,M.hs]at e;cases e)) (λt' q a h=>by rw[rR fi]at h;by_cases c:t'=t;rw[Tz c]at h;cases h;rw[Tx c]at h;show h),trivial]],#[λb o e w=>oC b o (S3 b o e) λy=>w (y.elim (λy=>.inr (.inl y)) λy=>.inr (.inr (.inl y))),λb w=>?_],by rw[wh];show qs _,λt'=>?_,λt' q=>?_]
  .rcases w with w|w|w|⟨x,hx,w⟩
   .show .inl (.inl w)
   .show .inl (.inr (.inl w))
   .show .inl (.inr (.inr (.inl w)))
   .rcases n7.mp hx with hx|hx
    .show .inl (.inr (.inr (.inr #[x,hx,w])))
    .rw[nq.mp hx]at w;rcases w with w|w|⟨y,G,_⟩
     .rw[w];show .inr f1
     .rw[w];show .inr f2
     .cases G
  .unfold hZ;rw[Tb.bu t' fi];by_cases c:t'=t
   .rw[Tz c,decide_eq_true c];rfl
   .rw[Tx c,decide_eq_false c];rfl
  .unfold eZ;rw[Tb.bu t' fi];by_cases c:t'=t
   .rw[Tz c,Tz c];rfl
   .rw[Tx c,Tx c]
 |close t =>
  show oP rfl rfl bU (FQ rfl rfl ?_);let#[z,L]:=fi;show#[0,m.lr,rfl,.inl #[_,.inl M1.hr],0,_,ti t,d0 z,M1.hr,rfl,by rw[Tb.cL,L];rfl,?_];rw[Tb.eK];show#[0,m.ls,rfl,.inl #[_,.inl (by rw[ah (qw M1.n3.2.2)];show M1.hs)],0,_,ti t,sf z,by rw[ah (qw M1.n3.2.2)];show M1.hs,rfl,by rw[Tb.cL,L];rfl,?_];rw[Tb.eK];have oC:Off (λb=>b=m.lr\/b=m.ls) H1 (upd (upd H1 m.lr (.dK (Tb.dk d0 (Tb.bf Z t)))) m.ls (.dK (Tb.dk sf (Tb.bf Z t)))):=λb o e w=>(by rw[ah (λy=>w (.inr y)),ah (λy=>w (.inl y))];show e);have M4:=M1.del (t:=t) oC (by rw[ah M.n3.2.2,ae]) ae;show as _ _ #[pk,_,M4,#[p0,λcv C=>#[C.keep (λa xs e=>oC a _ (s1 a _ e) (λw=>by rcases w with w|w;rw[w,M.hr]at e;cases e;rw[w,M.hs]at e;cases e)) (λt' q a h=>by rw[Ek]at h;by_cases c:t'=t;rw[Tz c]at h;cases h;rw[Tx c]at h;show h),trivial]],#[λb o e w=>oC b o (s1 b o e) λy=>w (y.elim (λy=>.inr (.inl y)) λy=>.inr (.inr (.inl y))),λb w=>.inl ?_],G0 (Nj _ _) (Oz _),λt'=>?_,λt' q=>?_]
  .rcases w with w|w|w|⟨x,hx,w⟩
   .show .inl w
   .show .inr (.inl w)
   .show .inr (.inr (.inl w))
   .show .inr (.inr (.inr #[x,(Tb.b9 hx).1,w]))
  .unfold hZ;rw[Tb.ck];by_cases c:t'=t
   .rw[Tz c,decide_eq_false (λy=>y c)];rfl
   .rw[Tx c,decide_eq_true c];rfl
  .unfold eZ;rw[Tb.ck];by_cases c:t'=t
   .rw[Tz c,Tz c];rfl
   .rw[Tx c,Tx c]
 |map t p mm =>
  show oP rfl rfl bU (oP rfl rfl bU ?_);show FQ rfl rfl ?_;let#[z,L,ba,dV,_]:=fi;have S:=Tb.az L;have b1:¬ mm<1:=λw=>ba (.inl w);have b2:¬ p<0:=λw=>ba (.inr (.inl w));have b3:¬ 64<p+mm:=λw=>ba (.inr (.inr w));show#[0,d,2,.int p,1,bL.of ap,rfl,0,d,2,.int p,1,bL.of ap,rfl,0,d,2,.int mm,1,bL.of ap,4,0,4,0,#[af,af,af,af],?_];show gk (lo:=p) (n:=(p+mm-p).toNat) (Kj m d bH pk Z H t p z) #[_,z.pl,rfl,by rw[xK M.nd L];show M1,λq=>by rw[Tx af],λy G=>.inl G,λb o e _=>s1 b o e,λb e=>s1.free e,λcv C=>by rw[Ab,xK M.nd L];show C.keep (λa xs e=>s1 _ _ e) λ_ _ _ h=>h] ?_ ?_
  .rintro i σ H2 hi ⟨v6,pl,rfl,M2,ac,bd,o2,bz,N⟩;have am:=yZ (y:=(#[z.ra,z.sa,pl]:MT)) L;have O:=Tb.az am;have ce:p+(i:Int)∈Rm.aM p mm:=by
    unfold Rm.aM;show rr.mpr #[i,Lg.mpr af,rfl]
   have bv:Tb.look pl (p+(i:Int))=none:=by
    have:=ac (p+(i:Int));rw[Tx af,dV _ ce]at this;show N1.mp this
   have cp:=M2.len O;show#[av,λl1 dI=>?_];show#[l1,(8),0,rfl,ae,af,af,by rw[LK];omega,λl2 bi=>?_];have sA:=(Tb.au (X:=.lst [V.int 0]) dI).trans (Tb.au (X:=.lst ((replicate (8:Int).toNat [V.int 0]).flatten)) bi);have f2:H2 l2=none:=(Tb.au (X:=.lst [V.int 0]) dI).free bi;have e2:upd (upd H2 l1 (.lst [V.int 0])) l2 (.lst ((replicate (8:Int).toNat [V.int 0]).flatten)) l2=some (.lst ((replicate 8 (0:Int)).map V.int)):=ae;generalize upd (upd H2 l1 (.lst [V.int 0])) l2 (.lst ((replicate (8:Int).toNat [V.int 0]).flatten))=H3 at *;show#[dZ,λtp bx=>?_];have sB:=Tb.au (X:=.tup [.ref l2,.int 0]) bx;show#[tp,0,bL.of ae,4,0,?_];have M4:=(M2.same sA).same sB;have S4:=sA.trans sB;have e4:=sB _ _ e2;generalize upd H3 tp (.tup [.ref l2,.int 0])=H4 at *;show#[0,0,m.lr,0,d9 M4.hr am,0,z.ra,0,fC.k (k:=ti (p+(i:Int))) (M4.rm _ O) (by rw[Tb.cj];have:pl.length<=64:=cp;change pl.length<_;omega),?_];have e5:putK (Tb.dk dJ pl) (ti (p+(i:Int))) (.ref l2)=Tb.dk dJ (pl++[(p+(i:Int),(l2,0))]):=Tb.cH (f:=dJ) (a:=(l2,0)) bv;have e6:putK (Tb.dk oJ pl) (ti (p+(i:Int))) (.int 0)=Tb.dk oJ (pl++[(p+(i:Int),(l2,0))]):=Tb.cH (f:=oJ) (a:=(l2,0)) bv;have dz:=M.d3 _ S;have aT:=M.rs _ S _ S;change Bj _ _ _ _ (upd H4 z.ra (.dK (putK (Tb.dk dJ pl) (ti (p+(i:Int))) (.ref l2)))) _;rw[e5];have o5:Off (· = z.ra) H4 (upd H4 z.ra (.dK (Tb.dk dJ (pl++[(p+(i:Int),(l2,0))])))):=Off.wr rfl;show#[_,0,0,0,m.ls,0,d9 (o5 _ _ M4.hs (qw dz.2.2.1)) am,0,z.sa,0,fC.k (k:=ti (p+(i:Int))) (o5 _ _ (M4.st _ O) (qw aT)) (by rw[Tb.cj];have:pl.length<=64:=cp;change pl.length<_;omega),5];have o6:Off (λb=>b=m.md\/b=z.ra\/b=z.sa) H4 (upd (upd H4 z.ra (.dK (Tb.dk dJ (pl++[(p+(i:Int),(l2,0))])))) z.sa (.dK (putK (Tb.dk oJ pl) (ti (p+(i:Int))) (.int 0)))):=λb o e w=>(by rw[ah (λy=>w (.inr (.inr y))),ah (λy=>w (.inr (.inl y)))];show e);have M7:=M4.DT (pk':=pk) (pl:=pl++[(p+(i:Int),(l2,0))]) am o6 (by rw[ah (qw dz.2.2.2.1),ah (qw dz.1)];show M4.hm) (by change upd _ z.sa _ z.ra=_;rw[ah aT,ae]) (by change upd _ z.sa _ z.sa=_;rw[ae,e6]) (λy G=>by
     rcases n7.mp G with G|G
     .let#[ns,Y,N]:=M4.cl _ O y G;show#[ns,o6 _ _ Y (λw=>by
       rcases w with w|w|w
       .rw[w,M4.hm]at Y;cases Y
       .rw[w,M4.rm _ O]at Y;cases Y
       .rw[w,M4.st _ O]at Y;cases Y),N]
     .rw[nq.mp G];show#[replicate 8 0,o6 _ _ e4 (λw=>by
       have w:l2=m.md\/l2=z.ra\/l2=z.sa:=w;rcases w with w|w|w
       .rw[w,M4.hm]at e4;cases e4
       .rw[w,M4.rm _ O]at e4;cases e4
       .rw[w,M4.st _ O]at e4;cases e4),by simp]) (by rw[DO];show fJ (M2.np _ O) (Tb.cf bv)) (λy G=>by
     rcases n7.mp G with G|G
     .show M2.rg _ O y G
     .rw[nq.mp G];change 0<=p+(i:Int)/\p+(i:Int)<64;omega)
   rw[Ag]at M7;show#[_,pl++[(p+(i:Int),(l2,0))],rfl,M7,λq=>?_,λy G=>?_,λb o e w=>o6 b o (S4 b o (o2 b o e w)) λy=>w ?_,λb e=>bz b (S4.free (cB (cB e).2).2),λcv C=>?_]
   .rw[Tb.bu q bv];by_cases c:q=p+(i:Int)
    .rw[Tz c,Tz (by rw[c];omega)];rfl
    .rw[Tx c,ac q];by_cases N:p<=q/\q<p+(i:Int)
     .rw[Tz N,Tz af]
     .rw[Tx N,Tx af]
   .rcases n7.mp G with G|G
    .show bd y G
    .rw[nq.mp G];show .inr (bz l2 f2)
   .rcases y with y|y|y
    .show .inl y
    .show .inr (.inr (.inr #[_,S,.inl y]))
    .show .inr (.inr (.inr #[_,S,.inr (.inl y)]))
   .rw[y8];show(N cv C).new t (λt' q=>?_) (o6 _ _ e4 (λw=>by
     rcases w with w|w|w
     .rw[w,M4.hm]at e4;cases e4
     .rw[w,M4.rm _ O]at e4;cases e4
     .rw[w,M4.st _ O]at e4;cases e4)) f2 (λa xs e=>by
     have e:=S4 _ _ e;show o6 a _ e (λw=>?_);rcases w with w|w|w
     .rw[w,M4.hm]at e;cases e
     .rw[w,M4.rm _ O]at e;cases e
     .rw[w,M4.st _ O]at e;cases e)
    rw[kj L,kj L];by_cases c:t'=t
    .rw[Tz c,Tz c];change(Tb.look (pl++[(p+(i:Int),(l2,0))]) q).map (·.1)=_;rw[Tb.bu q bv];by_cases c3:q=p+(i:Int)
     .rw[Tz c3,Tz #[c,c3]];rfl
     .rw[Tx c3,Tx (λh=>c3 h.2)]
    .rw[Tx c,Tx c,Tx (λh=>c h.1)]
  .rintro σ H2 ⟨v6,pl,rfl,M2,ac,bd,o2,bz,N⟩;show as _ _ #[pk,_,M2,#[p0,λcv C=>#[by rw[show pB (.map t p mm) cv=C8 cv t p (p+mm-p).toNat from Dg.symm];show N cv C,trivial]],#[o2,mH L λy G=>(bd y G).imp (λh=>#[y,h,rfl]) id],by rw[Tb.fK];omega,uC L,λt' q=>?_];rw[vA L];have bq:q∈Rm.aM p mm↔(p<=q/\q<p+((p+mm-p).toNat:Int)):=by
    unfold Rm.aM;rw[rr];constructor
    .rintro⟨j,hj,rfl⟩;have:=Lg.mp hj;omega
    .intro h;show#[(q-p).toNat,Lg.mpr af,af]
   by_cases c:t'=t
   .rw[Tz c,ac q];by_cases N:q∈Rm.aM p mm
    .rw[Tz (bq.mp N),Tz #[c,N]]
    .rw[Tx (λh=>N (bq.mpr h)),Tx (λh=>N h.2),c,tO L]
   .rw[Tx c,Tx (λh=>c h.1)]
 |drop t p mm =>
  show oP rfl rfl bU (oP rfl rfl bU ?_);show oP rfl rfl bU (FQ rfl rfl ?_);let#[z,L,ba,ef]:=fi;have S:=Tb.az L;have b1:¬ mm<1:=λw=>ba (.inl w);have b2:¬ p<0:=λw=>ba (.inr (.inl w));have b3:¬ 64<p+mm:=λw=>ba (.inr (.inr w));show#[0,d,2,.int p,1,bL.of ap,rfl,0,d,2,.int p,1,bL.of ap,rfl,0,d,2,.int mm,1,bL.of ap,4,0,4,0,#[af,af,af,af],?_];show gk (lo:=p) (n:=(p+mm-p).toNat) (Kc m d bH pk Z H t p z) #[_,z.pl,rfl,by rw[xK M.nd L];show M1,λq=>by rw[Tx af],λy G=>.inl G,λb o e _=>s1 b o e,λcv C=>by rw[xK M.nd L];show C.keep (λa xs e=>s1 _ _ e) λ_ _ _ h=>h] ?_ ?_
  .rintro i σ H2 hi ⟨v6,pl,rfl,M2,ac,bd,o2,N⟩;have am:=yZ (y:=(#[z.ra,z.sa,pl]:MT)) L;have O:=Tb.az am;have ce:p+(i:Int)∈Rm.aM p mm:=by
    unfold Rm.aM;show rr.mpr #[i,Lg.mpr af,rfl]
   obtain⟨y,G⟩:∃y,Tb.look pl (p+(i:Int))=some y:=by
    have h1:=ac (p+(i:Int));rw[Tx af]at h1;cases e:Tb.look pl (p+(i:Int))with
    |some y=>show#[y,rfl]
    |none =>
     rw[e]at h1;show absurd (N1.mp h1.symm) (ef _ ce)
   have dz:=M.d3 _ S;have aT:=M.rs _ S _ S;show#[0,0,m.lr,0,d9 M2.hr am,z.ra,rfl,.inl #[_,.inl (M2.rm _ O)],0,_,ti (p+(i:Int)),dJ y,M2.rm _ O,rfl,by rw[Tb.cL,G];rfl,?_];rw[Tb.eK];have o5:Off (· = z.ra) H2 (upd H2 z.ra (.dK (Tb.dk dJ (Tb.bf pl (p+(i:Int)))))):=Off.wr rfl;have h5:=o5 _ _ (M2.st _ O) (qw aT);show#[0,0,m.ls,0,d9 (o5 _ _ M2.hs (qw dz.2.2.1)) am,z.sa,rfl,.inl #[_,.inl h5],0,_,ti (p+(i:Int)),oJ y,h5,rfl,by rw[Tb.cL,G];rfl,?_];rw[Tb.eK];have o6:Off (λb=>b=m.md\/b=z.ra\/b=z.sa) H2 (upd (upd H2 z.ra (.dK (Tb.dk dJ (Tb.bf pl (p+(i:Int)))))) z.sa (.dK (Tb.dk oJ (Tb.bf pl (p+(i:Int)))))):=λb o e w=>(by rw[ah (λy=>w (.inr (.inr y))),ah (λy=>w (.inr (.inl y)))];show e);have M7:=M2.DT (pk':=pk) (pl:=Tb.bf pl (p+(i:Int))) am o6 (by rw[ah (qw dz.2.2.2.1),ah (qw dz.1)];show M2.hm) (by change upd _ z.sa _ z.ra=_;rw[ah aT,ae]) (by change upd _ z.sa _ z.sa=_;rw[ae]) (λy G=>by
     let#[ns,Y,N]:=M2.cl _ O y (Tb.b9 G).1;show#[ns,o6 _ _ Y (λw=>by
       rcases w with w|w|w
       .rw[w,M2.hm]at Y;cases Y
       .rw[w,M2.rm _ O]at Y;cases Y
       .rw[w,M2.st _ O]at Y;cases Y),N]) (Tb.ma (M2.np _ O)) (λy G=>M2.rg _ O y (Tb.b9 G).1)
   rw[Ag]at M7;show#[_,Tb.bf pl (p+(i:Int)),rfl,M7,λq=>?_,λy G=>bd y (Tb.b9 G).1,λb o e w=>o6 b o (o2 b o e w) λy=>w ?_,λcv C=>(N cv C).keep (λa xs e=>?_) λt' q' a h=>?_]
   .rw[Tb.ck];by_cases c:q=p+(i:Int)
    .rw[Tz c,Tz (by rw[c];omega)];rfl
    .rw[Tx c,ac q];by_cases N:p<=q/\q<p+(i:Int)
     .rw[Tz N,Tz af]
     .rw[Tx N,Tx af]
   .rcases y with y|y|y
    .show .inl y
    .show .inr (.inr (.inr #[_,S,.inl y]))
    .show .inr (.inr (.inr #[_,S,.inr (.inl y)]))
   .show o6 a _ e (λw=>?_);rcases w with w|w|w
    .rw[w,M2.hm]at e;cases e
    .rw[w,M2.rm _ O]at e;cases e
    .rw[w,M2.st _ O]at e;cases e
   .rw[kj L]at h ⊢;by_cases c:t'=t
    .rw[Tz c]at h ⊢;have h:(Tb.look (Tb.bf pl (p+(i:Int))) q').map (·.1)=some a:=h;rw[Tb.ck]at h;by_cases c3:q'=p+(i:Int)
     .rw[Tz c3]at h;cases h
     .rw[Tx c3]at h;show h
    .rw[Tx c]at h ⊢;show h
  .rintro σ H2 ⟨v6,pl,rfl,M2,ac,bd,o2,bz⟩;show as _ _ #[pk,_,M2,#[p0,λcv C=>#[bz cv C,trivial]],#[o2,mH L λy G=>(bd y G).imp (λh=>#[y,h,rfl]) id],by rw[Tb.fK];omega,uC L,λt' q=>?_];rw[vA L];have bq:q∈Rm.aM p mm↔(p<=q/\q<p+((p+mm-p).toNat:Int)):=by
    unfold Rm.aM;rw[rr];constructor
    .rintro⟨j,hj,rfl⟩;have:=Lg.mp hj;omega
    .intro h;show#[(q-p).toNat,Lg.mpr af,af]
   by_cases c:t'=t
   .rw[Tz c,ac q];by_cases N:q∈Rm.aM p mm
    .rw[Tz (bq.mp N),Tz #[c,N]]
    .rw[Tx (λh=>N (bq.mpr h)),Tx (λh=>N h.2),c,tO L]
   .rw[Tx c,Tx (λh=>c h.1)]
 |copy t o =>
  show oP rfl rfl bU (oP rfl rfl bU ?_);show oP rfl rfl bU (oP rfl rfl bU ?_);show FQ rfl rfl ?_;let#[z,L,eo,_]:=fi;have S:=Tb.az L;have dz:=M.d3 _ S;have aT:=M.rs _ S _ S;have ev:t≠o:=λe=>(by rw[e,eo]at L;cases L);show#[0,0,m.ls,0,d9 M1.hs L,z.sa,0,M1.st _ S,λJ h2=>?_];have f2:H J=none:=s1.free h2;have sA:=Tb.au (X:=.dK (Tb.dk oJ z.pl)) h2;have e2:upd H1 J (.dK (Tb.dk oJ z.pl)) J=some (.dK (Tb.dk oJ z.pl)):=ae;have M2:=M1.same sA;have S2:=s1.trans sA;have eb:=sA _ _ ap;generalize upd H1 J (.dK (Tb.dk oJ z.pl))=H2 at *;show#[0,0,d,2,.int o,1,bL.of eb,rfl,m.ls,0,fC.k (k:=ti o) M2.hs (by rw[Tb.cj];omega),?_];rw[show(V.ref J)=sf #[J,J,[]]from rfl,Tb.cH (f:=sf) eo,lu];change jL _ _ _ _ (upd H2 m.ls (.dK (Tb.dk sf Z++[(ti o,V.ref J)])));have o3:Off (· = m.ls) H2 (upd H2 m.ls (.dK (Tb.dk sf Z++[(ti o,V.ref J)]))):=Off.wr rfl;have c5:upd H2 m.ls (.dK (Tb.dk sf Z++[(ti o,V.ref J)])) m.ls=some (.dK (Tb.dk sf Z++[(ti o,V.ref J)])):=ae;generalize upd H2 m.ls (.dK (Tb.dk sf Z++[(ti o,V.ref J)]))=H3 at *;have cP:J≠m.ls:=λe=>(by rw[e,M.hs]at f2;cases f2);have ej:J≠m.lr:=λe=>(by rw[e,M.hr]at f2;cases f2);have fa:∀{b kvs},H b=some (.dK kvs)->b≠m.ls->H3 b=some (.dK kvs):=λe n=>o3 _ _ (S2 _ _ e) n;have ec:∀{b xs},H b=some (.tup xs)->H3 b=some (.tup xs):=λe=>o3 _ _ (S2 _ _ e) (λw=>by rw[w,M.hs]at e;cases e);have fl:∀{b xs},H b=some (.lst xs)->H3 b=some (.lst xs):=λe=>o3 _ _ (S2 _ _ e) (λw=>by rw[w,M.hs]at e;cases e);intro I h1;have f1:H I=none:=by
   cases e:H I with
   |none=>rfl
   |some u =>
    by_cases w:I=m.ls
    .rw[w,c5]at h1;cases h1
    .rw[o3 _ _ (S2 _ _ e) w]at h1;cases h1
  have bc:I≠J:=λe=>(by rw[e,o3 _ _ e2 cP]at h1;cases h1);have bF:I≠m.lr:=λe=>(by rw[e,M.hr]at f1;cases f1);have da:I≠m.ls:=λe=>(by rw[e,M.hs]at f1;cases f1);have d5:upd H3 I (.dK []) m.lr=some (.dK (Tb.dk d0 Z)):=(by rw[ah (qw bF)];show fa M.hr M.n3.2.2);show#[0,0,d,2,.int o,1,bL.of (Tb.au h1 _ _ (ec hd.1)),rfl,m.lr,0,fC.k (k:=ti o) d5 (by rw[Tb.cj];omega),?_];rw[show(V.ref I)=d0 #[I,J,[]]from rfl,Tb.cH (f:=d0) eo];have o5:Off (λb=>b=m.lr\/b=m.ls) H (upd (upd H3 I (.dK [])) m.lr (.dK (Tb.dk d0 (Z++[(o,#[I,J,[]])])))):=λb u e w=>by
   rw[ah (λy=>w (.inl y)),ah (ar e f1)];show o3 _ _ (S2 _ _ e) λy=>w (.inr y)
  have dj:upd (upd H3 I (.dK [])) m.lr (.dK (Tb.dk d0 (Z++[(o,#[I,J,[]])]))) m.lr=some (.dK (Tb.dk d0 (Z++[(o,#[I,J,[]])]))):=ae;have eg:upd (upd H3 I (.dK [])) m.lr (.dK (Tb.dk d0 (Z++[(o,#[I,J,[]])]))) m.ls=some (.dK (Tb.dk sf Z++[(ti o,V.ref J)])):=(by rw[ah (qw M.n3.2.2),ah (qw da)];show c5);have fc:upd (upd H3 I (.dK [])) m.lr (.dK (Tb.dk d0 (Z++[(o,#[I,J,[]])]))) I=some (.dK []):=(by rw[ah bF,ae]);have e9:upd (upd H3 I (.dK [])) m.lr (.dK (Tb.dk d0 (Z++[(o,#[I,J,[]])]))) J=some (.dK (Tb.dk oJ z.pl)):=(by rw[ah ej,ah (qw bc)];show o3 _ _ e2 cP);generalize upd (upd H3 I (.dK [])) m.lr (.dK (Tb.dk d0 (Z++[(o,#[I,J,[]])])))=H5 at *;have bn:∀{b},b≠m.lr->b≠m.ls->¬ (b=m.lr\/b=m.ls):=λa b w=>w.elim a b;have hn:∀(ob:Obj) u',H z.ra≠some (.bP ob u'):=λob u' w=>(by rw[M.rm _ S]at w;cases w);have ei:Tb.look (Z++[(o,(#[I,J,[]]:MT))]) t=some z:=(by rw[Tb.bu t eo,Tx ev];show L);have dO:Tb.look (Z++[(o,(#[I,J,[]]:MT))]) o=some #[I,J,[]]:=(by rw[Tb.bu o eo,Tz rfl]);have dL:=o5 _ _ (M.rm _ S) (bn dz.2.1 dz.2.2.1);show#[0,0,m.lr,0,d9 dj ei,z.ra,0,dL,hn,λob=>?_];have bY:I≠z.ra:=λe=>(by rw[e,M.rm _ S]at f1;cases f1);have dd:J≠z.ra:=λe=>(by rw[e,M.rm _ S]at f2;cases f2);have oF:Off (· = z.ra) H5 (upd H5 z.ra (.bP ob (.dK (Tb.dk dJ z.pl)))):=Off.wr rfl;have hF:upd H5 z.ra (.bP ob (.dK (Tb.dk dJ z.pl))) z.ra=some (.bP ob (.dK (Tb.dk dJ z.pl))):=ae;have b4:=oF _ _ fc bY;have ek:=oF _ _ e9 dd;have bE:=oF _ _ dj (qw dz.2.1);have c9:=oF _ _ eg (qw dz.2.2.1);have ca:=oF _ _ (o5 _ _ hd.1 (bn (λw=>by have:=hd.1;rw[w,M.hr]at this;cases this) (λw=>by have:=hd.1;rw[w,M.hs]at this;cases this))) (λw=>by have:=hd.1;rw[w,M.rm _ S]at this;cases this);have cT:∀{b},upd H5 z.ra (.bP ob (.dK (Tb.dk dJ z.pl))) b=none->H b=none:=λ{b} e=>by
   cases e2:H b with
   |none=>rfl
   |some u =>
    exfalso;by_cases w1:b=z.ra
    .rw[w1,hF]at e;cases e
    .by_cases w2:b=m.lr
     .rw[w2,bE]at e;cases e
     .by_cases w3:b=m.ls
      .rw[w3,c9]at e;cases e
      .rw[oF _ _ (o5 _ _ e2 (bn w2 w3)) w1]at e;cases e
  have em:∀y∈z.pl,∃ns:List Int,upd H5 z.ra (.bP ob (.dK (Tb.dk dJ z.pl))) y.2.1=some (.lst (ns.map V.int))/\ns.length=8:=λy G=>by
   let#[ns,Y,N]:=M.cl _ S y G;show#[ns,oF _ _ (o5 _ _ Y (bn (λw=>by rw[w,M.hr]at Y;cases Y) (λw=>by rw[w,M.hs]at Y;cases Y))) (λw=>by rw[w,M.rm _ S]at Y;cases Y),N]
  have OF:∀b u,H b=some u->b≠m.lr->b≠m.ls->b≠z.ra->upd H5 z.ra (.bP ob (.dK (Tb.dk dJ z.pl))) b=some u:=λb u e a1 a2 a3=>oF _ _ (o5 _ _ e (bn a1 a2)) a3;generalize upd H5 z.ra (.bP ob (.dK (Tb.dk dJ z.pl)))=HF at *;have bm:(z.pl.map (·.1)).Nodup:=M.np _ S;show j6 (a:=z.ra) (o:=ob) (kvs:=Tb.dk dJ z.pl) (Ki m d Z H t z I HF)
   #[2,[],rfl,b4,rfl,(λy G=>by cases G),λ_ _ e _=>e,Mt,λcv C u U=>by cases U] (λi σ H6 _ z0=>by let#[_,_,_,_,_,_,_,o6]:=z0;show o6.1 _ _ hF (qw bY)) ?_ ?_
  .rintro i kk v σ H6 T' hk hT ⟨v6,v7,pl,rfl,b6,a7,be,o6,cx,ch⟩;have dl:(z.pl.map λx:Int×Addr×Int=>((ti x.1:Key),dJ x.2))[i]?=some (kk,v):=hk;rw[se]at dl;let#[y,G,e]:=pf.mp dl;cases e;have dp:=vr G;let#[hi,fe]:=kz.mp G;have cp:z.pl.length<=64:=M.len S;have fn:pl.length=i:=by
    have:=congrArg Mm a7;rw[mu,mu,HC]at this;omega
   have e0:Tb.look pl y.1=none:=by
    cases e:Tb.look pl y.1 with
    |none=>rfl
    |some u =>
     exfalso;have h1:(y.1,u.2)∈pl.map λy=>(y.1,y.2.2):=rr.mpr #[_,Tb.az e,rfl];rw[a7]at h1;let#[y',h2,h3]:=rr.mp h1;let#[j,hj,e3]:=LX h2;rw[NY]at e3;rw[HC]at hj;show nE bm j i (a:=y'.1) (b:=y.1) ?_ ?_ af (Ph h3).1
     .rw[se,tu af,e3];rfl
     .rw[se,G];rfl
   let#[ns,Y,N]:=em y dp;have d4:y.2.1≠I:=λw=>(by rw[w,b4]at Y;cases Y);have sT:=Tb.au (X:=.tup [kV (ti y.1),dJ y.2]) hT;show#[T',[.int y.1,.ref y.2.1],rfl,bL.of ae,4,0,_,0,5];have c7:=sT _ _ (o6 _ _ Y d4);have bI:=sT _ _ b6;have ea:=sT _ _ (o6 _ _ bE (qw bF));have d6:=sT _ _ (o6 _ _ ca (λw=>by rw[w,b4]at ca;cases ca));have O7:Off (· = I) HF (upd H6 T' (.tup [kV (ti y.1),dJ y.2])):=λb u e w=>sT _ _ (o6 _ _ e w);have C7:∀u∈pl,(∃ns:List Int,upd H6 T' (.tup [kV (ti y.1),dJ y.2]) u.2.1=some (.lst (ns.map V.int))/\ns.length=8)/\HF u.2.1=none:=λu U=>by
    let#[#[aB,a1,a2],a3]:=be u U;show#[#[aB,sT _ _ a1,a2],a3]
   have ew:∀cv,Ct H Z cv->(∀u∈pl,upd H6 T' (.tup [kV (ti y.1),dJ y.2]) u.2.1=some (.lst ((cv t u.1).map V.int)))/\ns.map V.int=(cv t y.1).map V.int:=λcv C=>by
    show#[λu U=>sT _ _ (ch cv C u U),?_];have e:=C.at_ t y.1 y.2.1 (by rw[wC L,Tb.bJ bm dp];rfl);have e2:=OF _ _ e (λw=>by rw[w,M.hr]at e;cases e) (λw=>by rw[w,M.hs]at e;cases e) (λw=>by rw[w,M.rm _ S]at e;cases e);show HO.lst.inj (rn (Y.symm.trans e2))
   generalize upd H6 T' (.tup [kV (ti y.1),dJ y.2])=H7 at *;show#[0,y.2.1,0,.inl (bA.of c7),λl hl=>?_];have sL:=Tb.au (X:=.lst (ns.map V.int)) hl;have cr:HF l=none:=by
    cases e:HF l with
    |none=>rfl
    |some u =>
     by_cases w:l=I
     .rw[w,bI]at hl;cases hl
     .rw[O7 _ _ e w]at hl;cases hl
   have cC:l≠I:=λw=>(by rw[w,b4]at cr;cases cr);show#[0,0,d,2,.int o,1,bL.of (sL _ _ d6),rfl,m.lr,0,d9 (sL _ _ ea) dO,0,I,0,fC.k (k:=ti y.1) (sL _ _ bI) (by rw[Tb.cj];omega),?_];have e8:putK (Tb.dk dJ pl) (ti y.1) (.ref l)=Tb.dk dJ (pl++[(y.1,(l,y.2.2))]):=Tb.cH (f:=dJ) (a:=(l,y.2.2)) e0;show#[2,pl++[(y.1,(l,y.2.2))],rfl,by rw[<-e8];show ae,?_,λu U=>?_,λb u e w=>by rw[ah w];show sL _ _ (O7 _ _ e w),?_,λcv C u U=>?_]
   .rw[DO,a7,LA,G,DO];rfl
   .rcases n7.mp U with U|U
    .let#[#[aB,a1,a2],a3]:=C7 u U;show#[#[aB,by rw[ah (λw=>by rw[w,bI]at a1;cases a1)];show sL _ _ a1,a2],a3]
    .rw[nq.mp U];show#[#[ns,by change upd _ I _ l=_;rw[ah cC,ae],N],cr]
   .rw[DO];show fJ cx (λm'=>?_);let#[u,U,e]:=rr.mp m';let#[#[aB,a1,_],_]:=C7 u U;rw[e,hl]at a1;cases a1
   .let#[g1,g2]:=ew cv C;rcases n7.mp U with U|U
    .have a1:=g1 u U;rw[ah (λw=>by rw[w,bI]at a1;cases a1)];show sL _ _ a1
    .rw[nq.mp U];change upd _ I _ l=_;rw[ah cC,ae];show congrArg (λx=>some (HO.lst x)) g2
  .rintro σ H6 ⟨v6,v7,pl,rfl,b6,a7,be,o6,cx,ch⟩;rw[Tb.cj,LN]at a7;show#[z.ra,ob,_,o6 _ _ hF (qw bY),hn,?_];have o7:Off (λb=>b=m.lr\/b=m.ls) H (upd H6 z.ra (.dK (Tb.dk dJ z.pl))):=λb u e w=>by
    by_cases w1:b=z.ra
    .rw[w1,ae, <-e,w1,M.rm _ S]
    .rw[ah w1];show o6 _ _ (OF b u e (λy=>w (.inl y)) (λy=>w (.inr y)) w1) (ar e f1)
   have cS:(pl.map (·.1))=z.pl.map (·.1):=by
    have:=congrArg (To (·.1)) a7;rw[Mb,Mb]at this;show this
   have M8:cF (upd H6 z.ra (.dK (Tb.dk dJ z.pl))) m bH pk (Z++[(o,#[I,J,pl])]):=M.add (z:=#[I,J,pl]) eo o7
    (by rw[ah (qw dz.2.1),lu];rw[lu]at bE;show o6 _ _ bE (qw bF))
    (by rw[ah (qw dz.2.2.1),lu];show o6 _ _ c9 (qw da))
    (by change upd H6 z.ra _ I=_;rw[ah bY];show b6)
    (by change upd H6 z.ra _ J=_;rw[ah dd,o6 _ _ ek (qw bc),Ie a7])
    (λy G=>by
     let#[#[aB,a1,a2],a3]:=be y G;show#[aB,by rw[ah (λw=>by rw[w,hF]at a3;cases a3)];show a1,a2])
    (by rw[cS];show bm)
    (λy G=>by
     have h1:y.1∈pl.map (·.1):=rr.mpr #[y,G,rfl];rw[cS]at h1;let#[y',h2,h3]:=rr.mp h1;rw[<-h3];show M.rg _ S y' h2) f1 f2 bc
   show as _ _ #[pk,_,M8,#[p0,λcv C=>#[C.IX eo (λu U=>#[by rw[ah (λw=>by have:=(be u U).2;rw[w,hF]at this;cases this)];show ch cv C u U,cT (be u U).2]) cx (λa xs e=>o7 a _ e (λw=>by rcases w with w|w;rw[w,M.hr]at e;cases e;rw[w,M.hs]at e;cases e)),trivial]],#[λb u e w=>o7 b u e λy=>w (y.elim (λy=>.inr (.inl y)) λy=>.inr (.inr (.inl y))),λb w=>?_],by rw[wh];show qs _,λt'=>?_,λt' q=>?_]
   .rcases w with w|w|w|⟨x,hx,w⟩
    .show .inl (.inl w)
    .show .inl (.inr (.inl w))
    .show .inl (.inr (.inr (.inl w)))
    .rcases n7.mp hx with hx|hx
     .show .inl (.inr (.inr (.inr #[x,hx,w])))
     .rw[nq.mp hx]at w;rcases w with w|w|⟨y,G,w⟩
      .rw[w];show .inr f1
      .rw[w];show .inr f2
      .rw[w];show .inr (cT (be y G).2)
   .unfold hZ;rw[Tb.bu t' eo];by_cases c:t'=o
    .rw[Tz c,decide_eq_true c];rfl
    .rw[Tx c,decide_eq_false c];rfl
   .unfold eZ;rw[Tb.bu t' eo];by_cases c:t'=o
    .rw[Tz c,Tz c,L];change(Tb.look pl q).map (·.2)=(Tb.look z.pl q).map (·.2);have h1:=kr (λx:Addr×Int=>x.2) q pl;have h2:=kr (λx:Addr×Int=>x.2) q z.pl;rw[<-h1, <-h2];change Tb.look (pl.map λy=>(y.1,y.2.2)) q=Tb.look (z.pl.map λy=>(y.1,y.2.2)) q;rw[a7]
    .rw[Tx c,Tx c]
 |peek t ad n =>
  show oP rfl rfl bU (oP rfl rfl bU ?_);show oP rfl rfl bU (oP rfl rfl bU ?_);show oP rfl rfl bU (FQ rfl rfl ?_);let#[z,L,eP,ci]:=fi;let#[a0,a1,n1]:=ee _ _ _ rfl;have S:=Tb.az L;show#[0,d,2,.int ad,1,bL.of ap,rfl,0,d,2,.int ad,1,bL.of ap,rfl,0,d,2,.int n,1,bL.of ap,4,0,4,0,#[af,af,af,af],?_];show fL (lo:=ad) (n:=(ad+(n:Int)-ad).toNat) (λi ys H2=>ys.length=i/\(∀cv,Ct H Z cv->ys=((KR i).map λj:Nat=>(cv t ((ad+(j:Int))/8)).getD ((ad+(j:Int))%8).toNat 0).map V.int)/\H2=H1) #[rfl,λ_ _=>rfl,rfl] ?_ ?_
  .rintro i ys H2 hi ⟨hl,hc,rfl⟩;obtain⟨y,G⟩:∃y,Tb.look z.pl ((ad+(i:Int))/8)=some y:=by
    cases e:Tb.look z.pl ((ad+(i:Int))/8)with
    |some y=>show#[y,rfl]
    |none=>show absurd e (ci i af)
   let#[ns,Y,N]:=M1.cl _ S _ (Tb.az G);let#[b1,_]:=at_of (xs:=ns) (i:=(ad+(i:Int))%8) (n:=8) af af af;show#[0,0,m.lr,d0 z,rfl,d9 M1.hr L,0,_,0,rfl,#[av,av],z.ra,dJ y,rfl,d9 (M1.rm _ S) G,0,_,0,rfl,vz,y.1,2,0,rfl,bA.of Y,b1,af,by rw[wh,hl];rfl,λcv C=>by
    have e:=C.at_ t _ y.1 (by rw[wC L,G];rfl);rw[PY,DO,DO,hc cv C];have:=jU (HO.lst.inj (rn (Y.symm.trans (s1 _ _ e))));rw[this];rfl,rfl]
  .rintro ys H2 ⟨hl,hc,rfl⟩ l bi;have s2:=Tb.au (X:=.lst ys) bi;show k _ pk Z (.ref l) (M1.same s2) #[p0,λcv C=>#[C.keep (λa xs e=>s2 _ _ (s1 _ _ e)) (λ_ _ _ h=>h),l,rfl,s1.free bi,by rw[ae,hc cv C,show(ad+(n:Int)-ad).toNat=n by omega];rfl]] #[λb o e _=>s2 _ _ (s1 _ _ e),λb w=>.inl w] (Oz _) (λ_=>rfl) λ_ _=>rfl
 |poke t ad c cs =>
  show oP rfl rfl bU (oP rfl rfl bU ?_);show oP rfl rfl bU (oP rfl rfl bU ?_);show oP rfl rfl bU (oP rfl rfl bU ?_);let#[z,L,eP,ci]:=fi;let#[el,a0,a1,n1]:=d8 _ _ _ _ rfl;have S:=Tb.az L;have db:=s1 _ _ (hd.2 _ _ _ _ rfl);have dz:=M.d3 _ S;have aT:=M.rs _ S _ S;have bm:¬ cA m Z d:=λw=>by
   rcases M1.alive d w with⟨_,e⟩|⟨_,e⟩
   .rw[ap]at e;cases e
   .rw[ap]at e;cases e
  show#[0,d,2,.ref c,1,bL.of ap,rfl,c,rfl,#[_,bA.of db],?_];show tS (K:=K) (a:=c) (xs:=cs.map V.int) (Kl m d bH Z H H1 t ad z cs)
   #[2,_,pk,z.pl,rfl,by rw[xK M.nd L];show M1,p0,rfl,λq ⟨j,h,_⟩=>af,λ_ _=>rfl,λ_ _ e _=>e,λcv C=>by
    rw[xK M.nd L];show(C.keep (λa xs e=>s1 _ _ e) (λ_ _ _ h=>h)).congr λt' q a h=>?_;unfold DN;by_cases R:t'=t
    .rw[Tz R,Qw,R,Bi (C.Ey M (by rw[<-R];show h))]
    .rw[Tx R]] (λi σ H2 _ z0=>by let#[_,_,_,_,_,_,_,_,_,_,_,o2]:=z0;show bA.of (o2.1 _ _ db el)) ?_ ?_
  .rintro i x σ H2 T' hx hT ⟨v8,v9,dT,ab,pl,rfl,M2,p2,bb,ac,bl,o2,N⟩;have hi:i<cs.length:=(by simpa using(kz.mp hx).1);rw[se]at hx;let#[cell,eC,rfl]:=pf.mp hx;have am:=yZ (y:=(#[z.ra,z.sa,pl]:MT)) L;have O:=Tb.az am;have sT:=Tb.au (X:=.tup [.int i,.int cell]) hT;have M3:=M2.same sT;show#[T',[.int i,.int cell],rfl,bL.of ae,4,0,_,0,5];have eq:=sT _ _ (o2 _ _ ap bm);have c3:∀cv,Ct H Z cv->Ct (upd H2 T' (.tup [.int i,.int cell])) (Tb.aW Z t #[z.ra,z.sa,pl]) (DN cv t ad (cs.take i)):=λcv C=>(N cv C).keep (λa xs e=>sT _ _ e) λ_ _ _ h=>h;have O3:Off (cA m Z) H1 (upd H2 T' (.tup [.int i,.int cell])):=λb o e w=>sT _ _ (o2 _ _ e w);generalize upd H2 T' (.tup [.int i,.int cell])=H3 at *;show#[0,d,2,.int ad,1,bL.of eq,rfl,0,_,0,5];obtain⟨y,G⟩:∃y,Tb.look pl ((ad+(i:Int))/8)=some y:=by
    cases e:Tb.look pl ((ad+(i:Int))/8)with
    |some y=>show#[y,rfl]
    |none=>show absurd ((pK bb _).mp e) (ci i hi)
   let#[ns,Y,N]:=M3.cl _ O _ (Tb.az G);have Y:H3 y.1=some (.lst (ns.map V.int)):=Y;have hj:vU (ns.map V.int).length ((ad+(i:Int))%8)=some ((ad+(i:Int))%8).toNat:=by
    unfold vU;rw[mu,Tz af,Tz af]
   show#[0,0,0,m.lr,0,d9 M3.hr am,0,_,0,rfl,#[av,av],z.ra,0,d9 (M3.rm _ O) G,0,_,0,rfl,vz,y.1,2,0,rfl,Y,hj,?_];rw[<-S0];have M4:=M3.E2 Y (ns':=ns.set ((ad+(i:Int))%8).toNat cell) (by rw[Ll];show N);obtain⟨y',d7,eN⟩:∃y'∈z.pl,y'.2.1=y.1:=by
    have h1:((ad+(i:Int))/8,y.1)∈pl.map λy=>(y.1,y.2.1):=rr.mpr #[_,Tb.az G,rfl];rw[bb]at h1;let#[y',h2,h3]:=rr.mp h1;show#[y',h2,(Ph h3).2]
   have O4:Off (cA m Z) H1 (upd H3 y.1 (.lst ((ns.set ((ad+(i:Int))%8).toNat cell).map V.int))):=λb o e w=>by
    rw[ah (λh=>w (.inr (.inr (.inr #[_,S,.inr (.inr #[y',d7,h.trans eN.symm])]))))];show O3 b o e w
   have c4:eA (Tb.aW Z t #[z.ra,z.sa,pl]) t ((ad+(i:Int))/8)=some y.1:=by
    rw[kj L,Tz rfl];change(Tb.look pl ((ad+(i:Int))/8)).map (·.1)=some y.1;rw[G];rfl
   have C4:∀cv,Ct H Z cv->Ct (upd H3 y.1 (.lst ((ns.set ((ad+(i:Int))%8).toNat cell).map V.int))) (Tb.aW Z t #[z.ra,z.sa,pl]) (DN cv t ad (cs.take (i+1))):=λcv C=>by
    have D:=c3 cv C;have en:ns=DN cv t ad (cs.take i) t ((ad+(i:Int))/8):=jU (HO.lst.inj (rn (Y.symm.trans (D.at_ _ _ _ c4))));have et:cs.take (i+1)=cs.take i++[cell]:=(by rw[LA,eC];rfl);have lt:(cs.take i).length=i:=(by rw[HC];omega);show(D.cell (r:=ns.set ((ad+(i:Int))%8).toNat cell) c4).congr λt' q a _=>?_;unfold DN at en ⊢;rw[Tz rfl]at en;by_cases R:t'=t
    .rw[Tz R,Tz R,et,x8,lt];by_cases cq:q=(ad+(i:Int))/8
     .rw[Tz #[R,cq],Tz cq.symm,en,cq]
     .rw[Tx (λh=>cq h.2),Tx (qw cq)]
    .rw[Tx (λh=>R h.1),Tx R,Tx R]
   generalize upd H3 y.1 (.lst ((ns.set ((ad+(i:Int))%8).toNat cell).map V.int))=H4 at *;dsimp only;show tq λQ jt je=>?_;show#[0,rfl,0,?_];have cz:∀Hx,Hx=H4->Q true Hx:=λHx ex=>by
    subst ex;show jt _ ?_;show#[0,m.md,.int ab,rfl,M4.g (Gd _ _ _ _),_,0,rfl,0,m.md,0,fC.k (k:=KP "pokes") M4.hm (by change 4<sizeLine;omega),?_];dsimp only;rw[Cj];have o5:Off (· = m.md) Hx (upd Hx m.md (.dK (oN m.lr m.ls bH (ab+1)))):=Off.wr rfl;have g5:cZ (upd Hx m.md (.dK (oN m.lr m.ls bH (ab+1)))) m.md (.str "pokes") (some (.int (ab+1))):=by
     have q:=cZ.k (k:=KP "pokes") (H:=upd Hx m.md (.dK (oN m.lr m.ls bH (ab+1)))) ae;rw[Gd]at q;show q
    show#[0,m.md,.int (ab+1),rfl,g5,0,0,m.ls,0,d9 (o5 _ _ M4.hs (qw M.n3.2.1)) am,0,_,0,rfl,#[av,av],z.sa,0,fC.k (k:=ti ((ad+(i:Int))/8)) (o5 _ _ (M4.st _ O) dz.2.2.2.1) (by rw[Tb.cj];have:pl.length<=64:=M2.len O;change pl.length<_;omega),?_];have e6:putK (Tb.dk oJ pl) (ti ((ad+(i:Int))/8)) (.int (ab+1))=Tb.dk oJ (Tb.aW pl ((ad+(i:Int))/8) (y.1,ab+1)):=Tb.gU (f:=oJ) (a:=(y.1,ab+1)) G;have e7:Tb.dk dJ (Tb.aW pl ((ad+(i:Int))/8) (y.1,ab+1))=Tb.dk dJ pl:=Tb.qA (f:=dJ) (a:=(y.1,ab+1)) (b:=y) (M2.np _ O) G rfl;have o6:Off (λb=>b=m.md\/b=z.ra\/b=z.sa) Hx (upd (upd Hx m.md (.dK (oN m.lr m.ls bH (ab+1)))) z.sa (.dK (putK (Tb.dk oJ pl) (ti ((ad+(i:Int))/8)) (.int (ab+1))))):=λb o e w=>(by rw[ah (λy=>w (.inr (.inr y))),ah (λy=>w (.inl y))];show e);have M7:=M4.DT (pk':=ab+1) (pl:=Tb.aW pl ((ad+(i:Int))/8) (y.1,ab+1)) am o6 (by rw[ah (qw dz.2.2.2.1),ae]) (by change upd _ z.sa _ z.ra=_;rw[ah aT,ah dz.1,e7];show M4.rm _ O) (by change upd _ z.sa _ z.sa=_;rw[ae,e6]) (λu U=>by
      have ey:∃u'∈pl,u'.2.1=u.2.1:=by
       rcases Tb.mem_set U with rfl|⟨U,_⟩
       .show#[_,Tb.az G,rfl]
       .show#[u,U,rfl]
      let#[u',h1,h2]:=ey;let#[aB,I,J]:=M4.cl _ O u' h1;rw[<-h2];show#[aB,o6 _ _ I (λw=>by
       rcases w with w|w|w
       .rw[w,M4.hm]at I;cases I
       .rw[w,M4.rm _ O]at I;cases I
       .rw[w,M4.st _ O]at I;cases I),J]) (by rw[Tb.fm];show M2.np _ O) (λu U=>by
      rcases Tb.mem_set U with rfl|⟨U,_⟩
      .have h9:=M2.rg _ O ((ad+(i:Int))/8,y) (Tb.az G);show h9
      .show M2.rg _ O u U)
    rw[Ag]at M7;show#[2,_,ab+1,Tb.aW pl ((ad+(i:Int))/8) (y.1,ab+1),rfl,M7,af,?_,λq hq=>?_,λq hq=>?_,λb o e w=>o6 b o (O4 b o e w) λu=>w ?_,λcv C=>(C4 cv C).keep (λa xs e=>?_) λt' q a h=>?_]
    .rw[<-bb];unfold Tb.aW;rw[Mb];show Mp λu U=>?_;change((if u.1=(ad+(i:Int))/8 then((ad+(i:Int))/8,(y.1,ab+1))else u).1,(if u.1=(ad+(i:Int))/8 then((ad+(i:Int))/8,(y.1,ab+1))else u).2.1)=(u.1,u.2.1);by_cases R:u.1=(ad+(i:Int))/8
     .have h1:=Tb.bJ (M2.np _ O) U;rw[R,G]at h1;rw[Tz R, <-R,rn h1]
     .rw[Tx R]
    .rw[Tb.bM q G];by_cases R:q=(ad+(i:Int))/8
     .rw[Tz R];show#[ab+1,rfl,af]
     .rw[Tx R];let#[j,h1,h2]:=hq;show ac q #[j,?_,h2];by_cases b5:j=i
      .subst b5;show absurd h2.symm R
      .omega
    .rw[Tb.bM q G,Tx (λR=>hq #[i,N7 _,R.symm])];show bl q λ⟨j,h1,h2⟩=>hq #[j,Og h1,h2]
    .rcases u with u|u|u
     .show .inl u
     .show .inr (.inr (.inr #[_,S,.inl u]))
     .show .inr (.inr (.inr #[_,S,.inr (.inl u)]))
    .show o6 a _ e (λw=>?_);rcases w with w|w|w
     .rw[w,M4.hm]at e;cases e
     .rw[w,M4.rm _ O]at e;cases e
     .rw[w,M4.st _ O]at e;cases e
    .rw[kj L]at h ⊢;by_cases R:t'=t
     .rw[Tz R]at h ⊢;have h:(Tb.look (Tb.aW pl ((ad+(i:Int))/8) (y.1,ab+1)) q).map (·.1)=some a:=h;change(Tb.look pl q).map (·.1)=some a;rw[Tb.bM q G]at h;by_cases cq:q=(ad+(i:Int))/8
      .rw[Tz cq]at h;rw[cq,G];show h
      .rw[Tx cq]at h;show h
     .rw[Tx R]at h ⊢;show h
   show gR (λ_=>cz _ rfl) (λc0=>?_);show#[0,_,0,rfl,vz,rfl,0,?_];show oU (λ_=>cz _ rfl) (λc8=>je _ ?_);have c0:¬ ((i:Nat):Int)=0:=λh=>c0 (by rw[h];simp);have c8:¬ (ad+(i:Int))%8=0:=λh=>c8 (decide_eq_true (show V.int ((ad+(i:Int))%8)=V.int 0 by rw[h]));show#[2,_,ab,pl,rfl,M4,p2,bb,λq ⟨j,h1,h2⟩=>?_,λq hq=>bl q λ⟨j,h1,h2⟩=>hq #[j,Og h1,h2],O4,C4];by_cases b5:j=i
   .subst b5;show ac q #[j-1,af,af]
   .show ac q #[j,af,h2]
  .rintro σ H2 ⟨v8,v9,dT,ab,pl,rfl,M2,p2,bb,ac,bl,o2,N⟩;rw[mu]at ac bl N;have dM:∀y∈pl,(∃y'∈z.pl,y.2.1=y'.2.1)\/H y.2.1=none:=λy G=>by
    have h1:(y.1,y.2.1)∈pl.map λy=>(y.1,y.2.1):=rr.mpr #[y,G,rfl];rw[bb]at h1;let#[y',h2,h3]:=rr.mp h1;show .inl #[y',h2,(Ph h3).2.symm]
   show as _ _ #[ab,_,M2,#[p2,λcv C=>#[(N cv C).congr (λt' q a h=>by
    rw[LN];change DN cv t ad cs t' q=tZ cv t ad cs t' q;unfold DN tZ;by_cases R:t'=t
    .rw[Tz R];by_cases cm:q∈Rm.aq ad cs.length
     .rw[Tz #[R,cm]]
     .rw[Tx (λh=>cm h.2),R];rw[R,kj L,Tz rfl]at h;let#[u,U,_]:=pf.mp h;have U:Tb.look pl q=some u:=U;cases e5:Tb.look z.pl q with
      |none=>rw[(pK bb q).mpr e5]at U;cases U
      |some u'=>show yb (C.Ey M (a:=u'.1) (by rw[wC L,e5];rfl)) cm
    .rw[Tx R,Tx (λh=>R h.1)]),trivial]],#[λb o e w=>o2 b o (s1 b o e) w,mH L dM],by rw[Tb.fK];omega,uC L,λt' q=>?_]
   rw[vA L];by_cases R:t'=t
   .by_cases N:q∈Rm.aq ad cs.length
    .rw[Tz #[R,N],Tz R];show ac q (dv.mp N)
    .rw[Tx (λh=>N h.2),Tz R,bl q (λh=>N (dv.mpr h)),R,tO L]
   .rw[Tx (λh=>R h.1),Tx R]
end
inductive uG (vs:List V) (H:Hp) (Q:VK) (e3:XK):Prop
 |mk (n:Int) (m:MA) (bH pk:Int) (Z:Zs) (tl:Addr) (ts:List Int) (_:vs=[.int n,.ref m.md,.ref tl]) (_:cF H m bH pk Z) (_:Z≠[]) (_:Z.length<=1000) (_:H tl=some (.lst (ts.map V.int))) (_:ts.length=5) (_:∀(H':Hp) (d:Addr) (D:Dd),aZ H H'->gO H' d D->uR D->(∀t ad c cs,D=.poke t ad c cs->H c=none)->(∀o,D=.close o->∃t,t≠o/\∃z,Tb.look Z t=some z)->Q (.ref d) H'):uG vs H Q e3
section
variable {P:rz}{w:C1}{K:iF}{mg:Str->Option Value}{base:Heap}
theorem oy:aC ["_law_m","_law_model_here","_law_tasks","_law_rooms","_law_there","_law_kind","_law_rest","_law_task","_law_pages","_law_other","_law_left","_law_at","_law_address"] ["_law_m","_law_model_here","_law_tasks"] (aw zz):=L2.bC
theorem CG {f:Addr}{fd:qj}(F:cI K "_law_busy" "_law_busy" zz f fd) (T:ke mg) (a5:Df P w K mg base aV 1 "_law_held" iP) (bb:Df P w K mg base aV 1 "_law_cells" kB):a8 P w K mg base aV 2 f fd ["_law_m","_law_model_here","_law_tasks"] uG:=by
 show F.dh oy (λbv A outer s H vs Q E hr h=>?_);let#[n,m,bH,pk,Z,tl,ts,rfl,M,zn,lz,be,l5,k]:=h;have hs:=vu;show#[_,(ag (dr 3 oy.nd (bh (a9 hr) (pv 1) aH bW))
  (ag (dr 4 oy.nd (aQ (jy rfl) (by rfl) T.sorted kI (aa (pv 3) ai)))
  (ag (Ec (i:=5) (j:=6) rfl oy.nd rfl rfl av rfl rfl (aa (aA bB (pv 0) aj) (aa (aA br (pv 0) aj) ai)) rfl)
  (ag (dr 7 oy.nd (aP cw (pv 4) (aA bB (aA br (pv 0) aj) (aQ bG (by rfl) T.len boot_len (aa (pv 4) ai))) bW))
  (ag (dr 8 oy.nd (aQ (jy rfl) (by rfl) T.sorted kI (aa (bh (a9 hr) (pv 3) (pv 7) bW) ai)))
  (ag (dr 9 oy.nd (aP cw (pv 2) (aA bB (pv 6) (aQ bG (by rfl) T.len boot_len (aa (pv 2) ai))) bW))
  (ag (aS (PW.pt (ic (aD gI (pv 5) aj (aI _)) (gF (aD (Ff hr.ix) (pv 8) (cg ai) (aI _))))) (ag (dr 10 oy.nd (aA jb (bh (a9 hr) (pv 1) aH bW) (pc a5 hr ax (aa (pv 1) ai))))
  (ak (aE (b7 (aa aH (aa (pv 7) (aa (aA bB (pv 6) aj) (aa (aA bp aj (aA bB (aA br (pv 6) aj) (aQ (pQ rfl) (by rfl) T.max zi (aa aj (aa (aQ (pV rfl) (by rfl) T.min zW (aa aj (aa (pv 10) ai))) ai))))) ai)))))))) aF)
  (ag (aS (PW.pt (kR (aD gI (pv 5) aj (aI _)) (iJ (ja (gj (a9 hr) (pv 9) (pv 3)))))) (ak (aE (b7 (aa aH (aa (pv 7) (aa (pv 9) ai)))))) aF)
  (ag (aS (PW.pt (kR (aD bR (pv 5) aj (aI _)) (iJ (aD DK (pv 9) (pv 7) (aI _))))) (ak (aE (b7 (aa aH (aa (pv 9) ai))))) aF)
  (ag (dr 11 oy.nd (aA bB (pv 6) (aQ bG (by rfl) T.len boot_len (aa (pv 8) ai))))
  (ag (aS (aD bR (pv 5) aj (aI _)) (ak (aE (b7 (aa aH (aa (pv 7) (aa (aP cw (pv 8) (pv 11) bW) (aa aj ai))))))) aF)
  (ag (dr 12 oy.nd (aA bp (aA er aj (aP cw (pv 8) (pv 11) bW)) (aA bB (aA br (pv 6) aj) aj)))
  (ag (aS (aD gI (pv 5) aj (aI _)) (ak (aE (b7 (aa aH (aa (pv 7) (aa (pv 12) (aa (aA bp aj (aA bB (aA br (pv 6) aj) aj)) ai))))))) aF)
  (ak (aE (b7 (aa aH (aa (pv 7) (aa (pv 12) (aa (pc bb hr ax (aa (aA br (pv 6) aj) (aa (aA bp aj (aA bB (aA br (pv 6) aj) aj)) ai))) ai)))))))))))))))))))),?_]
 have bc:(Tb.dk d0 Z).map (·.1)=(Z.map (·.1)).map ti:=(by unfold Tb.dk;rw[Mb,Mb];rfl);show eM λ_ I=>?_;show#[0,m.md,.ref m.lr,rfl,M.g (yk _ _ _ _),I _ _ ?_];clear I;show eM λ_ I=>?_;show#[0,m.lr,_,Z.map (·.1),rfl,M.hr,bc,M.nd,by rw[mu];show lz,λO ks bi aB _=>I _ _ ?_];clear I;have s1:=Tb.au (X:=.lst (ks.map V.int)) bi;have h1:upd H O (.lst (ks.map V.int)) O=some (.lst (ks.map V.int)):=ae;have M1:=M.same s1;generalize upd H O (.lst (ks.map V.int))=H1 at *;have bn:0<ks.length:=by
  rw[aB.length_eq,mu];show Ox.mpr zn
 show#[0,_,0,rfl,(by change(0:Int)<16;decide),0,_,0,rfl,#[av,av],_,0,?_];have bq:=Lp n (show(16:Int)≠0 by decide);have bE:=Li n (show(0:Int)<16 by decide);dsimp only;generalize n%16=kd at *;generalize n/96=G;show eM λ_ I=>?_;let#[b1,b2]:=at_of (xs:=ks) (i:=n/16%(ks.length:Int)) (n:=ks.length) (Lp _ af) (Li _ af) rfl;generalize ks.getD (n/16%(ks.length:Int)).toNat 0=tk at b1 b2;show#[0,0,_,0,rfl,#[av,av],0,O,0,.inl (bA.of h1),_,0,rfl,by change(0:Int)<((ks.map V.int).length:Nat);rw[mu];omega,O,2,.int tk,1,bA.of h1,by rw[mu];show b1,I _ _ ?_];clear I;obtain⟨z,ez⟩:∃z,Tb.look Z tk=some z:=by
  have h2:=aB.mem_iff.mp b2;cases e:Tb.look Z tk with
  |some z=>show#[z,rfl]
  |none=>show absurd h2 (Tb.cf e)
 have ac:=Tb.az ez;have bl:(Tb.dk dJ z.pl).map (·.1)=(z.pl.map (·.1)).map ti:=(by unfold Tb.dk;rw[Mb,Mb];rfl);show eM λ_ I=>?_;show#[0,0,m.lr,0,d9 M1.hr ez,z.ra,_,z.pl.map (·.1),rfl,M1.rm _ ac,bl,M1.np _ ac,by rw[mu];have:z.pl.length<=64:=M1.len ac;omega,λJ ps a6 bm _=>I _ _ ?_];clear I;have s2:=Tb.au (X:=.lst (ps.map V.int)) a6;have h2:upd H1 J (.lst (ps.map V.int)) J=some (.lst (ps.map V.int)):=ae;have M2:=M1.same s2;have S2:=s1.trans s2;generalize upd H1 J (.lst (ps.map V.int))=H2 at *;have aT:=S2 _ _ be;show eM λ_ I=>?_;let#[b3,_]:=at_of (xs:=ts) (i:=G%5) (n:=5) af af af;generalize ts.getD (G%5).toNat 0=N at b3;show#[0,0,0,tl,0,.inl (bA.of aT),_,0,rfl,by change(0:Int)<((ts.map V.int).length:Nat);rw[mu,l5];decide,tl,2,.int N,1,bA.of aT,by rw[mu,l5];show b3,I _ _ ?_];clear I;have bz:∀q∈ps,0<=q/\q<64:=λq hq=>by
  let#[y,hy,e]:=rr.mp (bm.mem_iff.mp hq);rw[<-e];show M.rg _ ac y hy
 have ab:∀{S d} (D:Dd),aZ H2 S->gO S d D->uR D->(∀t ad c cs,D=.poke t ad c cs->H c=none)->(∀o,D=.close o->∃t,t≠o/\∃z,Tb.look Z t=some z)->Q (.ref d) S:=λ{S d} D sx a1 a2 a3 a4=>k S d D (S2.trans sx) a1 a2 a3 a4;show hV (λσ H9=>aZ H2 H9/\ps≠[]/\σ=[some (.int n),some (.ref m.md),some (.ref tl),some (.ref m.lr),some (.ref O),some (.int kd),some (.int G),some (.int tk),some (.ref J),some (.int N),none,none,none]) (λ_ QQ R L=>?A) ?B
 case A =>
  have mp:∀S,aZ H2 S->QQ true S:=λS sx=>by
   have Mx:=M2.same sx;show R _ ?_;show#[0,m.md,.int bH,rfl,Mx.g (BV _ _ _ _),0,m,bH,pk,Z,rfl,Mx,lz,λH4 s4=>?_];show#[_,0,5];have mx:∀U:Int,0<(if (if U<9 then U else 9)>1 then(if U<9 then U else 9)else 1)/\(if (if U<9 then U else 9)>1 then(if U<9 then U else 9)else 1)<=(9:Int):=λU=>(by split<;>split<;>omega);let#[x1,x2]:=mx (bH-sM Z);have r0:=Lp G (show(64:Int)≠0 by decide);have r1:=Li G (show(0:Int)<64 by decide);have q0:=Lp (G/64) (show(if (if bH-sM Z<9 then bH-sM Z else 9)>1 then(if bH-sM Z<9 then bH-sM Z else 9)else 1)≠0 by omega);have q1:=Li (G/64) x1;show#[0,0,_,0,rfl,(by change(0:Int)<64;decide),0,_,0,rfl,#[av,av],0,_,0,_,0,_,0,rfl,x1,_,0,rfl,oE,λd hd=>?_];show ab (.map tk (G%64) (1+G/64%(if (if bH-sM Z<9 then bH-sM Z else 9)>1 then(if bH-sM Z<9 then bH-sM Z else 9)else 1))) (sx.trans (s4.trans (Tb.au hd))) #[ae,λ_ _ _ _ e=>by cases e] #[r0,r1,af,af] (λ_ _ _ _ e=>by cases e) (λ_ e=>by cases e)
  show#[0,_,0,rfl,0,?_];by_cases c2:kd<2
  .rw[decide_eq_true c2];show eL (mp _ (aZ.refl H2))
  .rw[decide_eq_false c2];show bX ?_;show#[0,av,λl3 a7=>?_];have s3:=Tb.au (X:=.lst []) a7;show#[J,l3,_,0,rfl,bA.of (s3 _ _ h2),bA.of ae,eh _,rfl,0,?_];cases ps with
   |nil=>show mp _ s3
   |cons q r=>show L _ #[s3,(λe=>by cases e),rfl]
 case B =>
 rintro σ H3 ⟨s3,pn,rfl⟩;have M3:=M2.same s3;have bx:0<ps.length:=Ox.mpr pn;show hV (λσ H9=>H9=H3/\σ=[some (.int n),some (.ref m.md),some (.ref tl),some (.ref m.lr),some (.ref O),some (.int kd),some (.int G),some (.int tk),some (.ref J),some (.int N),none,none,none]) (λ_ QQ R L=>?A2) ?B2
 case A2 =>
  show#[0,_,0,rfl,0,?_];by_cases c2:kd<5
  .rw[decide_eq_true c2];show eL ?_;show#[0,0,m.lr,0,fZ (t:=N) M3.hr,?_];cases eo:Tb.look Z N with
   |some _=>show#[false,rfl,L _ #[1]]
   |none =>
    show#[true,rfl,R _ ?_];show#[0,0,HK,λd hd=>ab (.copy tk N) (s3.trans (Tb.au hd)) #[ae,λ_ _ _ _ e=>by cases e] trivial (λ_ _ _ _ e=>by cases e) (λ_ e=>by cases e)]
  .rw[decide_eq_false c2];show bX (L _ #[1])
 case B2 =>
 rintro σ ba ⟨e3,rfl⟩;subst e3;show hV (λσ H9=>H9=ba/\σ=[some (.int n),some (.ref m.md),some (.ref tl),some (.ref m.lr),some (.ref O),some (.int kd),some (.int G),some (.int tk),some (.ref J),some (.int N),none,none,none]) (λ_ QQ R L=>?A3) ?B3
 case A3 =>
  show#[0,rfl,0,?_];show gR (λ_=>?_) (λ_=>L _ #[1]);show#[0,0,rfl,0,?_];show oU (λc3=>R _ ?_) (λ_=>L _ #[1]);have c3:N≠tk:=λe=>(by rw[e]at c3;simp at c3);show#[0,dZ,λd hd=>ab (.close N) (s3.trans (Tb.au hd)) #[ae,λ_ _ _ _ e=>by cases e] trivial (λ_ _ _ _ e=>by cases e) (λo e=>by cases e;show#[tk,qw c3,z,ez])]
 case B3 =>
 rintro σ H4 ⟨e4,rfl⟩;subst e4;have am:=s3 _ _ h2;have p0:0<=G%(ps.length:Int):=Lp _ af;have p1:G%(ps.length:Int)<ps.length:=Li _ af;let#[b5,b6]:=at_of (xs:=ps) (i:=G%(ps.length:Int)) (n:=ps.length) p0 p1 rfl;generalize ps.getD (G%(ps.length:Int)).toNat 0=Y at b5 b6;let#[z0,z1]:=bz Y b6;show eM λ_ I=>?_;show#[0,0,J,0,.inl (bA.of am),_,0,rfl,by change(0:Int)<((ps.map V.int).length:Nat);rw[mu];omega,I _ _ ?_];clear I;rw[mu];show hV (λσ H9=>H9=H4/\σ=[some (.int n),some (.ref m.md),some (.ref tl),some (.ref m.lr),some (.ref O),some (.int kd),some (.int G),some (.int tk),some (.ref J),some (.int N),none,some (.int (G%(ps.length:Int))),none]) (λ_ QQ R L=>?A4) ?B4
 case A4 =>
  show#[0,rfl,0,?_];show oU (λ_=>R _ ?_) (λ_=>L _ #[1]);show#[0,0,0,J,2,.int Y,1,bA.of am,b5,oE,λd hd=>ab (.drop tk Y 1) (s3.trans (Tb.au hd)) #[ae,λ_ _ _ _ e=>by cases e] #[z0,z1,av,av] (λ_ _ _ _ e=>by cases e) (λ_ e=>by cases e)]
 case B4 =>
 rintro σ H5 ⟨e5,rfl⟩;subst e5;have a0:=Lp (G/64) (show(8:Int)≠0 by decide);have a1:=Li (G/64) (show(0:Int)<8 by decide);have m0:=Lp (G/512) (show(11:Int)≠0 by decide);have m1:=Li (G/512) (show(0:Int)<11 by decide);obtain⟨nn,as⟩:∃nn:Nat,(nn:Int)=1+G/512%11:=#[(1+G/512%11).toNat,af];show eM λ_ I=>?_;show#[0,0,J,2,.int Y,1,bA.of am,b5,_,0,rfl,.inl #[av,av],0,_,0,rfl,#[av,av],_,0,rfl,vz,_,0,rfl,I _ _ ?_];clear I
 try dsimp only
 show gP λQQ R L=>?_;show#[0,_,0,rfl,0,?_];by_cases ap:kd<10
 .rw[decide_eq_true ap];show R _ ?_;show#[0,0,0,_,0,rfl,#[av,av],_,0,rfl,(by change(0:Int)<11;decide),_,0,rfl,oE,λd hd=>?_];dsimp only at *;show ab (.peek tk (8*Y+G/64%8) nn) (s3.trans (Tb.au hd)) #[?_,λ_ _ _ _ e=>by cases e] #[af,af,af,af] (λ_ _ _ _ e=>by cases e) (λ_ e=>by cases e);change upd H5 d _ d=some (.tup [.str "peek",.int tk,.int (8*Y+G/64%8),.int nn]);rw[ae,as]
 .rw[decide_eq_false ap];show L _ ?_;show#[0,0,0,_,0,rfl,#[av,av],0,_,0,rfl,#[av,av],_,0,rfl,(by change(0:Int)<11;decide),_,0,rfl,G/4096,nn,by rw[as];rfl,af,λcs H6 cl lc s6 bd h6=>?_];show#[oE,λd hd=>?_];have s7:=Tb.au (X:=.tup [V.str "poke",V.int tk,V.int (8*Y+G/64%8),V.ref cl]) hd;show ab (.poke tk (8*Y+G/64%8) cl cs) (s3.trans (s6.trans s7)) #[ae,λ_ _ _ _ e=>by cases e;show s7 _ _ h6] #[af,af,af,af] (λ_ _ _ _ e=>by cases e;show S2.free (s3.free bd)) (λ_ e=>by cases e)
end
structure xn (c:CA) (H:Hp) (M:Addr->Prop) (a:RA) (m:MA) (nf ns k:Nat) (s:Pg.PS) (cv:Int->Int->List Int) (pk:Int) (W:di) (Z:Zs):Prop where
 R:ay c H M a s W
 ri:Pg.RI s (ents W)
 cv:Cv s W cv
 D:cF H m (bH s) pk Z
 p0:0<=pk
 sp:∀b,cA m Z b->M b/\¬ a.own W b
 tw:Tw W Z
 lf:(s.ow true).length=nf
 ls:(s.ow false).length=ns
 zn:Z≠[]
 lw:W.length<=k
 lz:Z.length<=k
section
variable {c:CA}{H H' H2:Hp}{M M':Addr->Prop}{a:RA}{m:MA}{nf ns k:Nat}{s s':Pg.PS}{cv:Int->Int->List Int}{pk tt:Int}{W W':di}{Z Z':Zs}
theorem xn.same (S:xn c H M a m nf ns k s cv pk W Z) (e:aZ H H'):xn c H' M a m nf ns k s cv pk W Z:=#[S.R.same e,S.ri,S.cv,S.D.same e,S.p0,S.sp,S.tw,S.lf,S.ls,S.zn,S.lw,S.lz]
theorem mO (R:ay c H M a s W) (D:cF H m tt pk Z) (sp:∀b,cA m Z b->M b/\¬ a.own W b) {pk':Int}(I:cF H' m tt pk' Z') (st:mq m H Z H' Z') :
  ay c H' (λb=>(M b/\¬ cA m Z b)\/cA m Z' b) a s W/\∀b,cA m Z' b->((M b/\¬ cA m Z b)\/cA m Z' b)/\¬ a.own W b:=by
 show#[R.BJ (B:=cA m Z) st.1 sp D.alive (λb z=>z.elim (λz=>.inl z.1) λz=>(st.2 b z).elim (λz=>.inl (sp b z).1) .inr) (λb z w=>.inl #[z,w]) (λb z e=>?_),λb z=>#[.inr z,?_]]
 .rcases z with z|z
  .cases G:H b with
   |none=>show R.mt b z.1 G
   |some u=>rw[st.1 b u G z.2]at e;cases e
  .rcases I.alive b z with⟨_,h⟩|⟨_,h⟩
   .rw[e]at h;cases h
   .rw[e]at h;cases h
 .rcases st.2 b z with z|z
  .show(sp b z).2
  .show λw=>R.mt b (R.dw b w) z
theorem nU (D:cF H m tt pk Z) (sp:∀b,cA m Z b->M b/\¬ a.own W b) (st:Step H M (a.own W) H' M' (a.own W')):cF H' m tt pk Z/\∀b,cA m Z b->M' b/\¬ a.own W' b:=by
 show#[D.off st.off λb z=>(sp b z).2,λb z=>#[st.mm b (sp b z).1 (sp b z).2,λw=>?_]];rcases st.on b w with w|w
 .show(sp b z).2 w
 .rcases D.alive b z with⟨_,h⟩|⟨_,h⟩
  .rw[w]at h;cases h
  .rw[w]at h;cases h
theorem uc {α L:Type}{l:List (Int×α)}{G:List (Int×L)}(N:(l.map (·.1)).Nodup) (O:(G.map (·.1)).Nodup) (h:∀q,Tb.look l q=none↔Tb.look G q=none):(l.map (·.1)).Perm (G.map (·.1)):=by
 have J:∀{I:Type}{l:List (Int×I)}{q:Int},q∈l.map (·.1)↔¬ Tb.look l q=none:=λ{I l q}=>#[λh e=>Tb.cf e h,λh=>by
  cases e:Tb.look l q with
  |none=>show absurd e h
  |some a=>show rr.mpr #[_,Tb.az e,rfl]]
 rw[OR N O];intro q;rw[J,J,h q]
theorem Tw.look (T:Tw W Z) (t:Int):Tb.look W t=none↔Tb.look Z t=none:=by
 have h:=T.h t;unfold hW hZ at h;cases I:Tb.look W t with
 |none=>cases G:Tb.look Z t with
  |none=>show#[λ_=>rfl,λ_=>rfl]
  |some z=>rw[I,G]at h;cases h
 |some x=>cases G:Tb.look Z t with
  |none=>rw[I,G]at h;cases h
  |some z=>show#[nofun,nofun]
theorem Tw.vK (T:Tw W Z) {t:Int}{x:TD}{z:MT}(L:Tb.look W t=some x) (J:Tb.look Z t=some z) (q:Int):Tb.look x.t q=none↔Tb.look z.pl q=none:=by
 have h:=T.e t q;rw[k7 L,tO J]at h;cases I:Tb.look x.t q with
 |none=>cases G:Tb.look z.pl q with
  |none=>show#[λ_=>rfl,λ_=>rfl]
  |some z=>rw[I,G]at h;cases h
 |some x=>cases G:Tb.look z.pl q with
  |none=>rw[I,G]at h;cases h
  |some z=>show#[nofun,nofun]
theorem Tw.get (T:Tw W Z) {t:Int}{z:MT}(G:Tb.look Z t=some z):∃x,Tb.look W t=some x:=by
 cases e:Tb.look W t with
 |some x=>show#[x,rfl]
 |none=>rw[(T.look t).mp e]at G;cases G
theorem z7 {l G:List Int}(p:l.Perm G):l.sum=G.sum:=by
 induction p with
 |nil=>rfl
 |cons x _ J=>rw[Ng,Ng,J]
 |swap x y l=>rw[Ng,Ng,Ng,Ng];omega
 |trans _ _ L I=>show L.trans I
theorem Tw.len (T:Tw W Z) (R:ay c H M a s W) (D:cF H m tt pk Z) {t:Int}{x:TD}{z:MT}(G:Tb.look W t=some x) (I:Tb.look Z t=some z):x.t.length=z.pl.length:=by
 have:=(uc (R.tb _ (Tb.az G)).nd (D.np _ (Tb.az I)) (T.vK G I)).length_eq;rw[mu,mu]at this;show this
theorem Tw.held (T:Tw W Z) (R:ay c H M a s W) (D:cF H m tt pk Z):sM Z=((ents W).length:Int):=by
 rw[<-mL];have p:=(uc R.nd D.nd T.look).symm;have q:=z7 (p.map λt:Int=>(((Tb.look W t).map λx=>(x.t.length:Int)).getD 0));rw[Mb,Mb]at q;unfold sM heldW;rw[show(Z.map λx=>(x.2.pl.length:Int))=Z.map ((λt:Int=>(((Tb.look W t).map λx=>(x.t.length:Int)).getD 0))∘(·.1))from Mp λx G=>by
  have J:=Tb.bJ D.nd G;let#[y,I]:=T.get J;change((x.2.pl.length:Nat):Int)=(((Tb.look W x.1).map λx=>(x.t.length:Int)).getD 0);rw[I, <-T.len R D I J];rfl]
 rw[q];show congrArg List.sum (Mp λx G=>?_);change(((Tb.look W x.1).map λx=>(x.t.length:Int)).getD 0)=(x.2.t.length:Int);rw[Tb.bJ R.nd G];rfl
theorem rV {x:TD}{z:MT}{ad:Int}{n:Nat}(O:∀q,Tb.look x.t q=none↔Tb.look z.pl q=none) (S:0<=ad) (h:wL z.pl ad n):¬ Rm.cX ad n (x.t.map (·.1)):=by
 let#[h1,h2]:=h;rintro(w|⟨w,G⟩)
 .omega
 .rcases G with G|G
  .unfold Rm.cE Rm.jm Rm.gZ at G;omega
  .show G λq R=>?_;have N:q∈Rm.aq ad n:=by
    unfold Rm.aq;rw[Tx af];show R
   let#[j,L,e]:=dv.mp N;have J:=h2 j L;rw[e]at J;cases I:Tb.look x.t q with
   |none=>show absurd ((O q).mp I) J
   |some v=>show rr.mpr #[_,Tb.az I,rfl]
theorem Dw (T:Tw W Z) (R:ay c H M a s W) (D:cF H m tt pk Z) {Dd:Dd}(ok:uR Dd) (f:yN Z (bH s) Dd):Ds W (bH s) Dd:=by
 have O:=T.held R D;cases Dd with
 |begin t=>show ok
 |close t=>let#[z,G]:=f;show T.get G
 |map t p U =>
  let#[z,G,J,L,S]:=f;let#[x,I]:=T.get G;show#[x,I,J,λq N=>(T.vK I G q).mpr (L q N),by rw[<-O];show S]
 |drop t p U =>
  let#[z,G,J,L]:=f;let#[x,I]:=T.get G;show#[x,I,J,λq N w=>L q N ((T.vK I G q).mp w)]
 |peek t ad n =>
  let#[z,G,J]:=f;let#[x,I]:=T.get G;show#[x,I,rV (T.vK I G) ok.1 J,ok.1,ok.2.1,ok.2.2.2]
 |poke t ad Y cs =>
  let#[z,G,J]:=f;let#[x,I]:=T.get G;show#[x,I,rV (T.vK I G) ok.1 J,ok.1,ok.2.1,G0 ok.2.2.2 av]
 |copy t o =>
  let#[z,G,J,L]:=f;let#[x,I]:=T.get G;show#[x,I,(T.look o).mpr J,by rw[<-O,T.len R D I G];show L]
end
inductive qg (c:CA) (vs:List V) (H:Hp) (Q:VK) (e3:XK):Prop
 |mk (n:Int) (_:vs=[.int n]) (_:∀(H':Hp) (t:Addr) (M:Addr->Prop) (a:RA) (m:MA) (s:Pg.PS) (cv:Int->Int->List Int) (pk:Int) (W:di) (Z:Zs),aZ H H'->xn c H' M a m (ou n) (pG n) 1 s cv pk W Z->Ct H' Z cv->(∀t,hZ Z t=decide (t=1))->(∀b,M b->H b=none)->H' t=some (.tup [.ref a.rp,.ref m.md])->Q (.ref t) H'):qg c vs H Q e3
section
variable {P:rz}{w:C1}{K:iF}{mg:Str->Option Value}{base:Heap}
theorem Az:aC ["_law_m","_law_frames","_law_slots","_law_kept","_law_model_here"] ["_law_m"] (aw vI):=L2.bC
theorem An {f am:Addr}{fd ap:qj}{c:CA}(F:cI K "_law_begun" "_law_begun" vI f fd) (TR:oQ K mg c) (MK:FL P w K mg base c) (MR:Mk K c.C am) (a2:mg "Rooms" = some (.ref c.C)) (a3:Df P w K mg base aV 1 "_law_sizes" qd) (bc:a8 P w K mg base aV 5 am ap ["self","frames","slots"] (qD c)) (as:Binds K ap ["self","frames","slots"] []) (be:Df P w K mg base aV 1 "_law_model" rP) (a1:Df P w K mg base aV 1 "_law_done" nG):a8 P w K mg base aV 7 f fd ["_law_m"] (qg c):=by
 show F.dh Az (λbv A outer s H vs Q E J h=>?_);let#[n,rfl,k]:=h;have hs:=vu;let#[_,f2,bl]:=Ay n;let#[_,bm]:=zr n;show#[_,(ag (cR (pc a3 J ax (aa (pv 0) ai)) (dF rfl (bg (gb 1 Az.nd) (bg (gb 2 Az.nd) cV))))
  (ag (dr 3 Az.nd (ly MR bc (J.mono av) (by rfl) a2 as .nil ax (aa (pv 1) (aa (pv 2) ai))))
  (ag (dr 4 Az.nd (pc be J ax (aa (aA bp (pv 1) (pv 2)) ai)))
  (ag (aL (pm (pv 3) TR.cl MK.Jf J ax (aa aj ai)))
  (ag (aL (pc a1 J ax (aa (pv 4) (aa (b7 (aa aH (aa aj ai))) ai))))
  (ak (aE (b7 (aa (pv 3) (aa (pv 4) ai)))))))))),?_]
 show#[0,n,rfl,λH1 t1 s1 bq aB=>#[t1,0,bL.of aB,4,0,_,0,5]];show#[0,0,λrp dx np a0 bn=>#[rp,dx,ou n,pG n,rfl,af,af,af,ae,λH2 M a ea R fr o2=>#[5]]];have s2:aZ H1 H2:=λb u e=>o2 b u (by rw[ah (ar e np),ah (ar e a0)];show e) (ar e np);have ac:∀b,M b->H b=none:=λb z=>s1.free (cB (cB (fr b z)).2).2;clear o2 fr;rw[<-ea];have et:bH (s0 (ou n) (pG n))=((ou n:Nat):Int)+((pG n:Nat):Int):=by
  unfold bH;rw[show((s0 (ou n) (pG n)).ow true).length=ou n from Lu,show((s0 (ou n) (pG n)).ow false).length=pG n from Lu];omega
 show#[0,0,_,0,rfl,0,λH3 m s3 g1 g2 g3 Y=>?_];rw[<-et]at Y;have O:=s1.trans s2;have a6:∀b,cA m [] b->H3 b≠none:=λb z e=>by
  rcases Y.alive b z with⟨_,h⟩|⟨_,h⟩
  .rw[e]at h;cases h
  .rw[e]at h;cases h
 have N:∀b,cA m [] b->H2 b=none:=λb z=>by
  rcases z with z|z|z|⟨x,G,_⟩
  .rw[z];show g1
  .rw[z];show g2
  .rw[z];show g3
  .cases G
 have R3:=R.BJ (H':=H3) (B:=λ_=>False) (M':=λb=>M b\/cA m [] b) (λb o e _=>s3 b o e) (λb z=>z.elim) (λb z=>z.elim) (λb z=>z.elim .inl λz=>.inr (N b z)) (λb z _=>.inl z) (λb z e=>z.elim (λz=>(R.same s3).mt b z e) λz=>a6 b z e);have bi:∀b,cA m [] b->(M b\/cA m [] b)/\¬ a.own [] b:=λb z=>#[.inr z,λw=>R.mt b (R.dw b w) (N b z)];let#[ba,ho]:=R3.ob;show#[0,a.rp,ba,0,ho,fA _ _ _ ao ao ao,_,a,_,[],(1),rfl,R3,rfl,KU _,λH4 M4 y ey R4 U=>?_];let#[D4,ab]:=nU Y bi U;have S:∀b,M4 b->H b=none:=λb z=>by
  rcases U.mn b z with z|z
  .show z.elim (ac b) λz=>O.free (N b z)
  .show O.free (s3.free z)
 have S4:aZ H H4:=λb u e=>U.off b u (s3 _ _ (O _ _ e)) λw=>by
  have:=R3.dw b w;rcases this with h|h
  .rw[ac b h]at e;cases e
  .rw[O.free (N b h)]at e;cases e
 show#[0,dZ,λd hd=>?_];have I:=Tb.au (X:=.tup [V.str "begin",V.int 1]) hd;show#[m,_,(0),[],d,.begin 1,rfl,D4.same I,Lz _,KU _,#[ae,λ_ _ _ _ e=>by cases e],rfl,(λ_ _ _ _ e=>by cases e),(λ_ _ _ e=>by cases e),λH6 a5 L v D6 p6 z6 l6 h6 e6=>?_];have R5:=R4.same I;let#[R6,bd]:=mO R5 (D4.same I) ab D6 z6;have a4:∀b,((M4 b/\¬ cA m [] b)\/cA m L b)->H b=none:=λb z=>by
  rcases z with z|z
  .show S b z.1
  .rcases z6.2 b z with z|z
   .show S b (ab b z).1
   .show S4.free (I.free z)
 have S6:aZ H H6:=λb u e=>z6.1 b u (I _ _ (S4 _ _ e)) λw=>(by rw[S b (ab b w).1]at e;cases e);show#[0,0,dZ,λtp bb=>?_];have st:=Tb.au (X:=.tup [.ref a.rp,.ref m.md]) bb;have a7:Pg.RI (s0 (ou n) (pG n)) (ents ([]++[(1,y)])):=by
  rw[l9,ey];show FW af
 have T0:Tw [] []:=#[λ_=>rfl,λ_ _=>rfl];have T6:Tw ([]++[(1,y)]) L:=T0.next (D:=.begin 1) (λt'=>by
   unfold hW;rw[Tb.bu t' rfl];by_cases z:t'=1
   .rw[Tz z,decide_eq_true z];rfl
   .rw[Tx z,decide_eq_false z];rfl) h6 (λt' q=>by
   unfold eW;rw[Tb.bu t' rfl];by_cases z:t'=1
   .rw[Tz z,Tz z,Nx,ey];rfl
   .rw[Tx z,Tx z]) e6
 have aT:L≠[]:=λe=>by
  have:=T6.h 1;rw[e]at this;unfold hW hZ at this;rw[Tb.bu 1 rfl,Tz rfl]at this;cases this
 show k _ tp _ a m _ (λ_ _=>[]) a5 _ L (S6.trans st) (xn.same #[R6,a7,λt x G q e he=>?_,D6,p6.1,bd,T6,Lu,Lu,aT,qs _,l6] st) (by have C0:Ct (upd H4 d (.tup [V.str "begin",V.int 1])) [] (λ_ _=>[]):=#[λ_ _ _ e=>(by cases e),λ_ _ _ _ _ e=>(by cases e)];show(p6.2 _ C0).1.keep (λa xs e=>st _ _ e) λ_ _ _ h=>h) (λt=>(h6 t).trans (SE _)) a4 ae;rw[Tb.bu t rfl]at G;by_cases z:t=1
 .rw[Tz z]at G;cases G;rw[ey]at he;cases he
 .rw[Tx z]at G;cases G
end
noncomputable abbrev mY:K4:=top 45
noncomputable abbrev yY:K4:=top 49
inductive iM (vs:List V) (H:Hp) (Q:VK) (e3:XK):Prop
 |mk (p q:Addr) (xs:List Int) (_:vs=[.ref p,.ref q]) (_:H p=some (.lst (xs.map V.int))) (_:H q=some (.lst (xs.map V.int))) (_:xs.length<=100) (_:∀H',aZ H H'->Q (.bl true) H'):iM vs H Q e3
theorem JR {c:CA}{H H':Hp}{M M' B:Addr->Prop}{a:RA}{s:Pg.PS}{W:di}(R:ay c H M a s W) (o:Off B H H') (G:∀b,B b->M b/\¬ a.own W b) (J:∀{b C dx fs},H b=some (.ins C dx fs)->¬ B b) (N:∀b xs,H b=some (.tup xs)->¬ B b) (U:∀b,M' b->M b\/H b=none) (L:∀b,M b->¬ B b->M' b) (mt:∀b,M' b->H' b≠none):ay c H' M' a s W:=by
 let#[dx,h1]:=R.ob;let#[ac,S]:=R.pg.fr.ob;let#[am,O]:=R.pg.sl.ob;show#[#[dx,o _ _ h1 (J h1)],R.pg.move o (λb z=>(G b z).1) U (λb z y=>(G b y).2 (.inl z)) (J S) (J O) N,#[R.ok.ds,λb z=>L b (R.ok.mm b z) λq=>?_],mt,o _ _ R.hd (λz=>(G _ z).2 (.inr (.inl rfl))),R.nd,λx I=>?_,λx I b z=>#[L b (R.dm x I b z).1 λq=>(G b q).2 (.inr (.inr #[x,I,z])),(R.dm x I b z).2],R.np,R.dj,L _ R.Dv (λz=>(G _ z).2 (.inr (.inl rfl))),R.BC,R.yW]
 .simp only[BY,DD,or_false]at z;rcases z with z|z|z|z|z|z|z|z|z<;>rw[z]at q
  .show(G _ q).2 (.inl (PA.eT 0 rfl))
  .show J S q
  .show(G _ q).2 (.inl (PA.eT 1 rfl))
  .show(G _ q).2 (.inl (PA.eT 2 rfl))
  .show J O q
  .show(G _ q).2 (.inl (PA.eT 3 rfl))
  .show(G _ q).2 (.inl (PA.eT 4 rfl))
  .show(G _ q).2 (.inl (PA.eT 5 rfl))
  .show(G _ q).2 (.inl (PA.eT 6 rfl))
 .let#[ab,Y]:=(R.tb x I).at_.ob;show(R.tb x I).off o (J Y) (λb z y=>(G b y).2 (.inr (.inr #[x,I,z]))) N
theorem yh {F:Int->List Int}{q:Int}(h:(F q).length=8):pE F (8*q) 8=F q:=by
 show MY λj=>?_;unfold pE;rw[se];by_cases G:j<8
 .rw[Nq G];change some ((F ((8*q+(j:Int))/8)).getD ((8*q+(j:Int))%8).toNat 0)=_;rw[show(8*q+(j:Int))/8=q by omega,show((8*q+(j:Int))%8).toNat=j by omega,Lq,tu af];rfl
 .rw[Ly (by rw[Lr];omega),Ly af];rfl
structure oK (c:CA) (H0:Hp) (M0:Addr->Prop) (a:RA) (s0:Pg.PS) (W:di) (cv:Int->Int->List Int) (H:Hp) (M:Addr->Prop) (s:Pg.PS):Prop where
 R:ay c H M a s W
 ri:Pg.RI s (ents W)
 cv:Cv s W cv
 st:Step H0 M0 (a.own W) H M (a.own W)
 ln:∀b,(s.ow b).length=(s0.ow b).length
section
variable {c:CA}{H0 H H':Hp}{M0 M M':Addr->Prop}{a:RA}{s0 s s':Pg.PS}{W:di}{cv:Int->Int->List Int}
theorem oK.same (P:oK c H0 M0 a s0 W cv H M s) (h:aZ H H'):oK c H0 M0 a s0 W cv H' M s:=#[P.R.same h,P.ri,P.cv,P.st.trans (P.R.iy h),P.ln]
theorem oK.next (P:oK c H0 M0 a s0 W cv H M s) (R:ay c H' M' a s' W) (G:Pg.RI s' (ents W)) (h:Cv s' W cv) (st:Step H M (a.own W) H' M' (a.own W)) (I:∀b,(s'.ow b).length=(s.ow b).length):oK c H0 M0 a s0 W cv H' M' s':=#[R,G,h,P.st.trans st,λb=>(I b).trans (P.ln b)]
end
section
variable {c:CA}{H0 H H2 H3 H4:Hp}{M0 M M2 M3 M4:Addr->Prop}{a:RA}{s s0 s2 s3 s4:Pg.PS}{W:di}{cv:Int->Int->List Int}{r:Addr}{kvs:List (Key×V)}{ob:Obj}
theorem oK.bP (P:oK c H0 M0 a s0 W cv H3 M3 s3) (I:H3 r=some (.dK kvs)) (G:M3 r/\¬ a.own W r):oK c (upd H3 r (.bP ob (.dK kvs))) M3 a s3 W cv (upd H3 r (.bP ob (.dK kvs))) M3 s3:=by
 have R:ay c (upd H3 r (.bP ob (.dK kvs))) M3 a s3 W:=P.R.BJ (B:=(· = r)) (Off.wr rfl) (λb z=>by rw[z];show G) (λb z=>.inr #[_,(congrArg H3 z).trans I]) (λb z=>.inl z) (λb z _=>z) (λb z e=>by
  by_cases q:b=r
  .rw[q,ae]at e;cases e
  .rw[ah q]at e;show P.R.mt b z e)
 show#[R,P.ri,P.cv,R.refl,λ_=>rfl]
theorem oK.back (P:oK c H0 M0 a s0 W cv H3 M3 s3) (O:H3 r=some (.dK kvs)) (I:M3 r/\¬ a.own W r) (G:oK c (upd H3 r (.bP ob (.dK kvs))) M3 a s3 W cv H4 M4 s4):oK c H0 M0 a s0 W cv (upd H4 r (.dK kvs)) M4 s4:=by
 have h2:=G.st.off r _ ae I.2;have N:Off (a.own W) H3 (upd H4 r (.dK kvs)):=λb u q n=>by
  by_cases z:b=r
  .rw[z,ae, <-q,z,O]
  .rw[ah z];show G.st.off _ _ (by rw[ah z];show q) n
 have J:∀b,M4 b->upd H4 r (.dK kvs) b≠none:=λb z q=>by
  by_cases y:b=r
  .rw[y,ae]at q;cases q
  .rw[ah y]at q;show G.R.mt b z q
 have L:M4 r:=G.st.mm _ I.1 I.2;have R2:ay c (upd H4 r (.dK kvs)) M4 a s4 W:=JR (B:=(· = r)) G.R (Off.wr rfl) (λb z=>by rw[z];show#[L,I.2]) (λq z=>by rw[z,h2]at q;cases q) (λb xs q z=>by rw[z,h2]at q;cases q) (λb z=>.inl z) (λb z _=>z) J;show#[R2,G.ri,G.cv,P.st.trans #[N,G.st.mm,λb z=>(G.st.mn b z).imp id λq=>(cB q).2,λb z=>.inl z,P.R.mt,P.R.dw],λb=>(G.ln b).trans (P.ln b)]
theorem zl {m:MA}{nf ns G:Nat}{pk:Int}{Z:Zs}(S:xn c H M a m nf ns G s cv pk W Z) (C:Ct H Z cv) (P:oK c H M a s W cv H2 M2 s2):xn c H2 M2 a m nf ns G s2 cv pk W Z/\Ct H2 Z cv:=by
 let#[L,J]:=nU S.D S.sp P.st;show#[#[P.R,P.ri,P.cv,?_,S.p0,J,S.tw,(P.ln true).trans S.lf,(P.ln false).trans S.ls,S.zn,S.lw,S.lz],#[λt q b h=>?_,C.inj]]
 .rw[vk P.ln];show L
 .let#[z,h1,h2]:=MN.mp h;let#[y,N,I]:=pf.mp h2;show P.st.off _ _ (C.at_ _ _ _ h) (S.sp _ (.inr (.inr (.inr #[_,Tb.az h1,.inr (.inr #[_,Tb.az N,I.symm])])))).2
end
inductive we (c:CA) (vs:List V) (H:Hp) (Q:VK) (e3:XK):Prop
 |mk (M:Addr->Prop) (a:RA) (m:MA) (nf ns kk:Nat) (s:Pg.PS) (cv:Int->Int->List Int) (pk:Int) (W:di) (Z:Zs) (_:vs=[.ref a.rp,.ref m.md]) (_:xn c H M a m nf ns kk s cv pk W Z) (_:Ct H Z cv) (_:kk<=1000) (_:∀H' M' s',xn c H' M' a m nf ns kk s' cv pk W Z->Ct H' Z cv->Step H M (a.own W) H' M' (a.own W)->Q (.bl true) H'):we c vs H Q e3
section
variable {P:rz}{w:C1}{K:iF}{mg:Str->Option Value}{base:Heap}
theorem Jl:aC ["_law_found","_law_due_here"] ["_law_found","_law_due_here"] (aw mY):=L2.bC
theorem uW {f:Addr}{fd:qj}(F:cI K "_law_numbers" "_law_numbers" mY f fd) (T:ke mg) (O:Df P w K mg base aV 1 "_law_whole" qM) :
  a8 P w K mg base aV 2 f fd ["_law_found","_law_due_here"] iM:=by
 show F.dh Jl (λU A outer s H vs Q E J h=>?_);let#[p,q,xs,rfl,G,R,I,k]:=h;have hs:=vu;show#[_,(ag (aS (PW.pt (ic (qP (fB (aQ dX (by rfl) T.BH b8 (aa (pv 0) (aa (eV (v:=.ty "list") (by rfl) T.list dU rfl) ai))))) (gF (aD (ET J.ix) (pv 0) (pv 1) (aI _))))) (ak (aE kX)) aF)
  (ak (aE (aQ (kH rfl) (by rfl) T.all uK (aa (gx (cl:=[]) (caps:=[]) #[rfl,ao,ao,rfl,by kernel_rfl,by intro p G;simp at G,by kernel_rfl,by intro p G;simp at G,ao] rfl (fU (pv 0)) (λ_ _ _ _=>fO) (λ_ _ _ _=>(pc O J ax (aa (pv 0) ai)))) ai))))),?_]
 show#[0,.ref p,"list",_,true,rfl,.lst G,Eo _,true,rfl,bX ?_];show#[0,0,p,q,_,0,rfl,bA.of G,bA.of R,eh _,eh _,0,?_];rw[pH,decide_eq_true rfl];show bX ?_;show#[0,p,rfl,#[_,bA.of G],?_];show vj (K:=K) (a:=p) (xs:=xs.map V.int) (λi ys H2=>i<=xs.length/\ys=(replicate i true).map V.bl/\H2=H) #[KU _,1] (λi ys H2 _ z=>by rw[z.2.2];show bA.of G) ?_ ?_
 .rintro i x ys H2 L ⟨hi,rfl,rfl⟩;rw[se]at L;let#[n,N,rfl]:=pf.mp L;show#[0,n,5,(kz.mp N).1,?_,rfl]
  .rw[mu,Lu];omega
  .rw[List.replicate_succ',DO];rfl
 .rintro ys H2 ⟨_,rfl,rfl⟩ l I;show#[l,0,bA.of ae,?_];rw[show(replicate (To V.int xs).length true).all id=true from Lf.mpr λb S=>(QP.mp S).2];show k _ (Tb.au I)
theorem CP:aC ["_law_kept","_law_model_here","_law_task","_law_room","_law_page"] ["_law_kept","_law_model_here"] (aw yY):=L2.bC
theorem CY {f:Addr}{fd:qj}{c:CA}(F:cI K "_law_all_right" "_law_all_right" yY f fd) (TR:oQ K mg c) (MK:FL P w K mg base c) (a2:Df P w K mg base aV 2 "_law_numbers" iM) (aT:Df P w K mg base aV 1 "_law_held" iP) (a5:Md P w K mg base aV 2 c.C "held" (jz c)) :
  a8 P w K mg base aV 11 f fd ["_law_kept","_law_model_here"] (we c):=by
 show F.dh CP (λbE A outer s H vs Q E Y h=>?_);let#[M,a,m,nf,ns,kk,s',cv,pk,W,Z,rfl,S,C,bF,k]:=h;have hs:=vu;have am:M m.lr/\¬ a.own W m.lr:=S.sp _ (.inr (.inl rfl));have hn:∀(ob:Obj) u',H m.lr≠some (.bP ob u'):=λob u' w=>(by rw[S.D.hr]at w;cases w);show#[_,(ag (iO (cG D3 rfl (nN (bh (a9 Y) (pv 1) aH bW)) (dF rfl (bg (gb 2 CP.nd) (bg (gb 3 CP.nd) cV))) (ak (iO (cG D3 rfl (lG (pv 3)) (gb 4 CP.nd) (ak (aS (qP (fB (pc a2 Y ax (aa (pm (pv 0) TR.cl MK.Im Y ax (aa (pv 2) (aa (aA er aj (pv 4)) (aa aj ai)))) (aa (bh (a9 Y) (pv 3) (pv 4) bW) ai))))) (ak (aE kX)) aF)))))))
  (ak (aE (iC bR (ug (pv 0) TR.cl a5 Y ax) (pc aT Y ax (aa (pv 1) ai)) (aI _))))),?_]
 show#[0,m.md,.ref m.lr,rfl,S.D.g (yk _ _ _ _),m.lr,0,S.D.hr,hn,λob=>?_];have oF:Off (· = m.lr) H (upd H m.lr (.bP ob (.dK (Tb.dk d0 Z)))):=Off.wr rfl;have hF:upd H m.lr (.bP ob (.dK (Tb.dk d0 Z))) m.lr=some (.bP ob (.dK (Tb.dk d0 Z))):=ae;have PS:oK c H M a s' W cv H M s':=#[S.R,S.ri,S.cv,S.R.refl,λ_=>rfl];have P0:=PS.bP (ob:=ob) S.D.hr am;have back:∀{O M9 L},oK c (upd H m.lr (.bP ob (.dK (Tb.dk d0 Z)))) M a s' W cv O M9 L->oK c H M a s' W cv (upd O m.lr (.dK (Tb.dk d0 Z))) M9 L:=λP=>PS.back S.D.hr am P;have a0:∀x∈Z,upd H m.lr (.bP ob (.dK (Tb.dk d0 Z))) x.2.ra=some (.dK (Tb.dk dJ x.2.pl)):=λx hx=>oF _ _ (S.D.rm x hx) (S.D.d3 x hx).2.1;have bx:∀t q G,eA Z t q=some G->upd H m.lr (.bP ob (.dK (Tb.dk d0 Z))) G=some (.lst ((cv t q).map V.int)):=λt q G e=>oF _ _ (C.at_ _ _ _ e) (λz=>by have:=C.at_ _ _ _ e;rw[z,S.D.hr]at this;cases this);have zo:∀t q G,eA Z t q=some G->cA m Z G:=λt q G e=>by
  let#[z,h1,h2]:=MN.mp e;let#[y,U,h4]:=pf.mp h2;show .inr (.inr (.inr #[_,Tb.az h1,.inr (.inr #[_,Tb.az U,h4.symm])]))
 generalize bz:upd H m.lr (.bP ob (.dK (Tb.dk d0 Z)))=HF at *;show j6 (a:=m.lr) (o:=ob) (kvs:=Tb.dk d0 Z) (λj σ H2=>BF λ(v2 v3 v4:Option V) (M2:Addr->Prop) (s2:Pg.PS)=>σ=[some (.ref a.rp),some (.ref m.md),v2,v3,v4]/\oK c HF M a s' W cv H2 M2 s2) #[2,_,M,s',rfl,P0] (λj σ H2 _ z0=>by let#[_,_,_,_,_,_,I2]:=z0;show I2.st.off _ _ hF am.2) ?_ ?_
 .rintro j bd v σ H2 T' hk bi ⟨v2,v3,v4,M2,s2,rfl,P2⟩;have ac:(Z.map λx:Int×MT=>((ti x.1:Key),d0 x.2))[j]?=some (bd,v):=hk;rw[se]at ac;let#[x,hx,e]:=pf.mp ac;cases e;have N:=vr hx;have ez:Tb.look Z x.1=some x.2:=Tb.bJ S.D.nd N;let#[xx,ap]:=S.tw.get ez;have bb:=S.tw.vK ap ez;show#[T',[.int x.1,.ref x.2.ra],rfl,bL.of ae,4,0,_,0,5];have P3:=P2.same (Tb.au (X:=.tup [kV (ti x.1),d0 x.2]) bi);generalize upd H2 T' (.tup [kV (ti x.1),d0 x.2])=H3 at *;have ab:¬ a.own W x.2.ra:=(S.sp _ (.inr (.inr (.inr #[x,N,.inl rfl])))).2;have as:M2 x.2.ra/\¬ a.own W x.2.ra:=#[P3.st.mm _ (S.sp _ (.inr (.inr (.inr #[x,N,.inl rfl])))).1 ab,ab];have U:=P3.st.off _ _ (a0 x N) ab;have aB:∀(ob:Obj) u',H x.2.ra≠some (.bP ob u'):=λob u' w=>(by rw[S.D.rm x N]at w;cases w);show#[0,x.2.ra,0,U,aB,λJ=>?_];have hG:upd H3 x.2.ra (.bP J (.dK (Tb.dk dJ x.2.pl))) x.2.ra=some (.bP J (.dK (Tb.dk dJ x.2.pl))):=ae;have PG:=P3.bP (ob:=J) U as;have bn:∀{O M9 L},oK c (upd H3 x.2.ra (.bP J (.dK (Tb.dk dJ x.2.pl)))) M2 a s2 W cv O M9 L->oK c HF M a s' W cv (upd O x.2.ra (.dK (Tb.dk dJ x.2.pl))) M9 L:=λP=>P3.back U as P;have bc:∀t q G,eA Z t q=some G->upd H3 x.2.ra (.bP J (.dK (Tb.dk dJ x.2.pl))) G=some (.lst ((cv t q).map V.int)):=λt q G e=>by
   have e2:=P3.st.off _ _ (bx t q G e) (S.sp _ (zo _ _ _ e)).2;rw[ah (λz=>by rw[z,U]at e2;cases e2)];show e2
  generalize upd H3 x.2.ra (.bP J (.dK (Tb.dk dJ x.2.pl)))=HG at *;show lV (a:=x.2.ra) (o:=J) (kvs:=Tb.dk dJ x.2.pl) (λi σ H4=>Hb λ(v4:Option V) (M4:Addr->Prop) (s4:Pg.PS)=>σ=[some (.ref a.rp),some (.ref m.md),some (.int x.1),some (.ref x.2.ra),v4]/\oK c HG M2 a s2 W cv H4 M4 s4) #[_,M2,s2,rfl,PG] (λi σ H4 _ z0=>by let#[_,_,_,_,I]:=z0;show I.st.off _ _ hG ab) ?_ ?_
  .rintro i a3 v σ H4 hk ⟨a1,M4,s4,rfl,I⟩;have ac:(x.2.pl.map λy:Int×Addr×Int=>((ti y.1:Key),dJ y.2))[i]?=some (a3,v):=hk;rw[se]at ac;let#[#[pg,y],hy,e]:=pf.mp ac;cases e;have a7:=vr hy;have ep:Tb.look x.2.pl pg=some y:=Tb.bJ (S.D.np x N) a7;show nameQ ?_;dsimp only;show tq λQQ ji je=>?_;let#[g0,g1]:=S.D.rg x N (pg,y) (Tb.az ep);have g0:0<=pg:=g0;have g1:pg<64:=g1;have hb:=rV (x:=xx) (z:=x.2) (ad:=8*pg) (n:=8) bb af #[af,λi hi=>by rw[show(8*pg+(i:Int))/8=pg by omega,ep];show λq=>by cases q];let#[bl,ba]:=I.R.ob;have ea:eA Z x.1 pg=some y.1:=(by rw[wC ez,ep];rfl);have l8:=C.Ey S.D ea;show#[0,a.rp,bl,0,ba,fA _ _ _ ao ao ao,0,0,_,0,5,M4,a,s4,W,cv,x.1,8*pg,(8),xx,rfl,I.R,I.ri,I.cv,ap,av,af,af,hb,λH5 M5 s5 l R5 be bq a4 bv fl hl=>?_]
   .show .inl #[av,av]
   have P5:=I.next R5 be bq a4 bv.1;rw[xa (Jt I.ri I.cv ap hb),yh l8]at hl;have h5:=P5.st.off _ _ hG ab;have c5:=P5.st.off _ _ (bc _ _ _ ea) (S.sp _ (zo _ _ _ ea)).2;show#[0,0,x.2.ra,0,(.inl #[_,ti pg,.inr #[J,h5],rfl,by rw[Tb.cL,ep];rfl]:cZ _ _ _ (some (dJ y))),l,y.1,cv x.1 pg,rfl,hl,c5,af,λH6 s6=>#[true,rfl,je _ #[_,M5,s5,rfl,P5.same s6]]]
  .rintro σ H4 ⟨a1,M4,s4,rfl,I⟩;show#[x.2.ra,J,_,I.st.off _ _ hG ab,aB,2,_,M4,s4,rfl,bn I]
 .rintro σ H2 ⟨v2,v3,v4,M2,s2,rfl,P2⟩;show#[m.lr,ob,_,P2.st.off _ _ hF am.2,hn,?_];have PE:=back P2;let#[S2,C2]:=zl S C PE;let#[bm,a6]:=S2.R.ob;show#[0,a.rp,bm,0,a6,fA _ _ _ ao ao ao,M2,a,s2,W,rfl,S2.R,by have:=S.lw;omega,λH8 s8=>?_];have P8:=PE.same s8;show#[0,m,_,pk,Z,rfl,(S2.same s8).D,by have:=S.lz;omega,λO L=>#[5]];have P9:=P8.same L;let#[S9,C9]:=zl S C P9;rw[S.tw.held S.R S.D,decide_eq_true rfl];show k _ M2 s2 S9 C9 P9.st
end
structure Lv (c:CA) (H0:Hp) (a:RA) (m:MA) (nf ns:Nat) (tl:Addr) (tv:HO) (k:Nat) (H:Hp) (M:Addr->Prop) (s:Pg.PS) (cv:Int->Int->List Int) (pk:Int) (W:di) (Z:Zs):Prop where
 S:xn c H M a m nf ns k s cv pk W Z
 C:Ct H Z cv
 sm:aZ H0 H
 fr:∀b,M b->H0 b=none
 ht:H tl=some tv
 nt:¬ M tl
section
variable {c:CA}{H0 H H':Hp}{M M':Addr->Prop}{a:RA}{m:MA}{nf ns k:Nat}{tl:Addr}{tv:HO}{s s':Pg.PS}{cv cv':Int->Int->List Int}{pk:Int}{W W':di}{Z:Zs}
theorem iS (R:ay c H M a s W) {b:Addr}{xs:List V}(h:H b=some (.tup xs)):¬ a.own W b:=λw=>by
 let#[dx,h1]:=R.pg.ob;let#[cs,h2,_]:=R.pg.fr.hc;let#[N,L,_]:=R.pg.sl.hc;let#[l,I,_]:=R.pg.pd;rcases w with w|w|⟨x,G,w⟩
 .unfold PA.own at w;simp only[BY,DD,or_false]at w;rcases w with w|w|w|w|w|w|w<;>rw[w]at h
  .rw[h1]at h;cases h
  .rw[R.pg.fr.hw]at h;cases h
  .rw[h2]at h;cases h
  .rw[R.pg.sl.hw]at h;cases h
  .rw[L]at h;cases h
  .rw[I]at h;cases h
  .rw[R.pg.il]at h;cases h
 .rw[w,R.hd]at h;cases h
 .rcases w with w|⟨y,J,w⟩
  .rw[w,(R.tb x G).at_.hf]at h;cases h
  .rw[w,(R.tb x G).at_.hd y J]at h;cases h
theorem Ct.same (C:Ct H Z cv) (h:aZ H H'):Ct H' Z cv:=C.keep (λa xs e=>h _ _ e) λ_ _ _ h=>h
theorem Lv.same (L:Lv c H0 a m nf ns tl tv k H M s cv pk W Z) (h:aZ H H'):Lv c H0 a m nf ns tl tv k H' M s cv pk W Z:=#[L.S.same h,L.C.same h,L.sm.trans h,L.fr,h _ _ L.ht,L.nt]
theorem xn.up (S:xn c H M a m nf ns k s cv pk W Z) {j:Nat}(h:k<=j):xn c H M a m nf ns j s cv pk W Z:=#[S.R,S.ri,S.cv,S.D,S.p0,S.sp,S.tw,S.lf,S.ls,S.zn,G0 S.lw h,G0 S.lz h]
theorem Lv.up (L:Lv c H0 a m nf ns tl tv k H M s cv pk W Z) {j:Nat}(h:k<=j):Lv c H0 a m nf ns tl tv j H M s cv pk W Z:=#[L.S.up h,L.C,L.sm,L.fr,L.ht,L.nt]
theorem CQ {D:Dd}{Z2:Zs}(U:Z≠[]) (h:qu D (hZ Z) (hZ Z2)) (S:∀o,D=.close o->∃t,t≠o/\∃z,Tb.look Z t=some z):Z2≠[]:=λe=>by
 have I:∀t,hZ Z2 t=false:=λt=>(by rw[e];rfl);obtain⟨G,J⟩:∃G,hZ Z G=true:=by
  cases N:Z with
  |nil=>show absurd N U
  |cons x r =>
   show#[x.1,?_];unfold hZ;rw[Tb.aO,Tz rfl];rfl
 cases D with
 |begin t=>have:=h G;rw[I G,J]at this;simp at this
 |close o =>
  let#[L,O,Y,R]:=S o rfl;have:=h L;rw[I L,decide_eq_true O]at this;unfold hZ at this;rw[R]at this;cases this
 |copy t o=>have:=h G;rw[I G,J]at this;simp at this
 |map t p q=>have:=h G;rw[I G,J]at this;cases this
 |drop t p q=>have:=h G;rw[I G,J]at this;cases this
 |peek t p q=>have:=h G;rw[I G,J]at this;cases this
 |poke t p q r=>have:=h G;rw[I G,J]at this;cases this
theorem Lv.Ak (L:Lv c H0 a m nf ns tl tv k H M s cv pk W Z) {d:Addr}{D:Dd}(hd:gO H d D) (J:∀t ad G cs,D=.poke t ad G cs->¬ M G) {H2:Hp}{Z2:Zs}(I:mq m H Z H2 Z2):gO H2 d D:=by
 show#[I.1 _ _ hd.1 λw=>?_,λt ad G cs e=>I.1 _ _ (hd.2 t ad G cs e) λw=>J t ad G cs e (L.S.sp _ w).1];rcases L.S.D.alive _ w with⟨_,h⟩|⟨_,h⟩
 .rw[hd.1]at h;cases h
 .rw[hd.1]at h;cases h
theorem Lv.Eg (L:Lv c H0 a m nf ns tl tv k H M s cv pk W Z) {D:Dd}(a3:∀o,D=.close o->∃t,t≠o/\∃z,Tb.look Z t=some z)
  {H2:Hp}{N:Int}{Z2:Zs}{v:V}(D2:cF H2 m (bH s) N Z2) (p2:0<=N/\∀cv,Ct H Z cv->Ct H2 Z2 (pB D cv)/\Gi D cv H H2 v) (I:mq m H Z H2 Z2) (l2:Z2.length<=Z.length+1) (h2:qu D (hZ Z) (hZ Z2)) (e2:lj 0 (λv=>v≠0) D (eZ Z) (eZ Z2))
  {H3:Hp}{M3:Addr->Prop}{s3:Pg.PS}{W3:di}{J:Int->Int->List Int}{v3:V}(R3:ay c H3 M3 a s3 W3) (aT:Pg.RI s3 (ents W3)) (U:Cv s3 W3 J/\J=pB D cv/\Gi D cv H2 H3 v3) (st:Step H2 (λb=>(M b/\¬ cA m Z b)\/cA m Z2 b) (a.own W) H3 M3 (a.own W3)) (O:∀b,(s3.ow b).length=(s.ow b).length) (lw:W3.length<=W.length+1) (h3:qu D (hW W) (hW W3)) (e3:lj none (λx=>∃k,x=some k) D (eW W) (eW W3)) :
  Lv c H0 a m nf ns tl tv (k+1) H3 M3 s3 J N W3 Z2:=by
 have G:=L.S;let#[aB,as]:=mO G.R G.D G.sp D2 I;have ab:aZ H0 H2:=λb u e=>I.1 b u (L.sm _ _ e) λw=>(by rw[L.fr b (G.sp b w).1]at e;cases e);have Y:∀b,((M b/\¬ cA m Z b)\/cA m Z2 b)->H0 b=none:=λb z=>by
  rcases z with z|z
  .show L.fr b z.1
  .rcases I.2 b z with z|z
   .show L.fr b (G.sp b z).1
   .show L.sm.free z
 have am:=I.1 _ _ L.ht λw=>L.nt (G.sp _ w).1;have ap:¬ ((M tl/\¬ cA m Z tl)\/cA m Z2 tl):=λz=>by
  rcases z with z|z
  .show L.nt z.1
  .rcases I.2 _ z with z|z
   .show L.nt (G.sp _ z).1
   .rw[L.ht]at z;cases z
 let#[a7,a1]:=nU D2 as st;have a6:=G.tw.next h3 h2 e3 e2;have a4:aZ H0 H3:=λb u e=>st.off b u (ab _ _ e) λw=>(by rw[Y b (aB.dw b w)]at e;cases e);have a0:∀b,M3 b->H0 b=none:=λb z=>(st.mn b z).elim (Y b) λz=>ab.free z;have a5:=st.off _ _ am λw=>ap (aB.dw _ w);have a2:¬ M3 tl:=λz=>(st.mn _ z).elim ap λz=>(by rw[am]at z;cases z);have ac:Ct H2 Z2 J:=(by rw[U.2.1];show(p2.2 cv L.C).1);show#[#[R3,aT,U.1,?_,p2.1,a1,a6,(O true).trans G.lf,(O false).trans G.ls,CQ G.zn h2 a3,3],?_,a4,a0,a5,a2]
 .rw[vk O];show a7
 .have:=G.lw;omega
 .have:=G.lz;omega
 .show#[λt q b h=>?_,ac.inj];let#[z,h5,hh]:=MN.mp h;let#[y,h6,h7]:=pf.mp hh;show st.off _ _ (ac.at_ _ _ _ h) (as _ (.inr (.inr (.inr #[_,Tb.az h5,.inr (.inr #[_,Tb.az h6,h7.symm])])))).2
end
end Lw
namespace L2
open PySem PySem.Spec PyProof.Rows
section
variable {prog:rz}{w:C1}{A:KY}{E:Value->ll->Prop}{s:ll}{d it:Addr}{o:Obj}{es:Array DictEntry}{ep i:Nat}
theorem Co {Q:Value->ll->Prop}(G:s.TypeIs (.ref d) "dict") (hd:(d==Mf)=false) (I:s.heap.get? d=some o) (J:o.data=.dict es ep)
  (k:Q (.ref s.heap.objs.size) { s with heap:=s.heap.push { cls:=.type "dict_keyiterator",data:=.fields ([.ref d,.int 0 0,.int es.size 0,.int ep 0].toArray) } }):wpAny (model prog w) A (pyIter (.ref d)) Q E s:=by
 show Rf G F.slot_dict_iter (Ms F.slot_dict_iter G F.entry_dict_iter ?_ (F.args_dict_iter_1 _));unfold Builtin.«dict.__iter__» Builtin.Dict.dictSlotNone;show iN (iN (wpAny_notOrdered_dict G (qi ?_)));show iN (qi ?_);unfold Builtin.Dict.showsAll;rw[Tx (by rw[hd];show vl)];show iN (qi (iN (Rh I J (iN (wpAny_dictEpoch I J (iN (LM (qi #[0,"dict_keyiterator",_,#[_,Heap.get?_push_size _ rfl,rfl],F.slot_dict_keyiterator_next.lookup,k]))))))))
theorem wO {Q:Option Value->ll->Prop}(Y:A.handled=none) (st:s.heap.IsKeyIter it d i es.size ep) (N:s.heap.get? d=some o) (R:o.data=.dict es ep)
  (k1:∀e h',es[i]?=some e->h'.IsKeyIter it d (i+1) es.size ep->Heap.SameBut it s.heap h'->Q (some e.key) { s with heap:=h' })
  (S:∀h',es[i]?=none->Heap.ExtBut it s.heap h'->Q none { s with heap:=h' }):wpAny (model prog w) A (pyNext (.ref it)) Q E s:=by
 let#[oi,hi,U,I]:=id st;have G:=st.typeIs;unfold pyNext;show iN (wpAny_attempt (NS (name:=Str.ofString "__next__") G F.slot_dict_keyiterator_next (Ms F.slot_dict_keyiterator_next G F.entry_dict_keyiterator_next ?_ (F.args_dict_keyiterator_next_1 _))));show iN (qi (iN (iN ?_)))
 first|show iN (MQ G (qi ?_))|show iN (NJ G (qi ?_))
 show iN (wpAny_fieldsOf hi I ?_);have J:Builtin.Dict_items.ownsTuple "dict_keyiterator" = false:=av;rw[J];simp only[LU,if_false];change wpAny _ _ (ite ((Value.ref d==Value.none)=true) _ _) _ _ s;rw[Tx (show ¬ ((Value.ref d==Value.none)=true)from vl)];show iN (qi (iN (Rh N R ?_)));rw[Tx (by simp)];show iN (qi (iN (wpAny_dictEpoch N R ?_)));rw[Tx (by simp)];show qi ?_;simp only[show ¬ ((i:Int)<0)from by omega,if_false,Ml];cases O:es[i]? with
 |some e =>
  show iN ?_
  first|show iN (MQ G (qi ?_))|show iN (NJ G (qi ?_))
  show iN (Qg G ?_);show iN (wpAny_setField hi I (by rw[J];simp) ?_);have L:(s.heap.update it (Obj.mapFields (·.setIfInBounds 1 (rawInt ((i:Int)+1))))).IsKeyIter it d (i+1) es.size ep :=
   #[_,Heap.get?_update_self _ hi (Obj.isFreed_of_fields (Obj.data_mapFields I _)),(Obj.cls_mapFields ..).trans U,by rw[Obj.data_mapFields I];simp[rawInt]]
  show iN (Mj (iN (Qg (s:={ s with heap:=s.heap.update it (Obj.mapFields (·.setIfInBounds 1 (rawInt ((i:Int)+1)))) }) L.typeIs ?_)));show qi (qi #[0,qi (k1 _ _ O L (Heap.SameBut.update ..))])
 |none =>
  show iN ?_
  first|show iN (MQ G (qi ?_))|show iN (NJ G (qi ?_))
  show iN (wpAny_setField hi I (by rw[J];simp) (iN ?_));simp only[newExc,newTuple];show iN (LM ?_ (by size_fits));show iN (m:=firstArgMember _ _) (wpAny_of_eq (a:=Value.none) (by first|rfl|(simp only[firstArgMember];rfl)) (LM ?_ (by size_fits)));simp only[raiseNew];show iN (wpAny_handled ?_);rw[show A.in1.handled=none from Y];show iN (qi (wpAny_throw ?_));show iN (wpAny_isInstance (T := "StopIteration") (b:=true) #[_,Heap.get?_push_size _ rfl,rfl] isSubtype_stop ?_);show qi (S _ O (((Heap.SameBut.update ..).extBut.push _).push _))
end
noncomputable def FO (a:Addr) (o:Obj) (kvs:List (List Key×V)):It :=
 #[λi H=>H a=some (.bP o (.dT kvs))/\i<kvs.length,λi H x H'=>H'=H/\∃b k v,kvs[i]?=some (k,v)/\x=.ref b/\H b=some (.tup (k.map kV)),λi H=>H a=some (.bP o (.dT kvs))/\kvs.length<=i]
theorem kt_at {H:Hp}{l:List (List Key×V)}{m:List (List Key×Addr×Value)}(r:KT H l m):∀i:Nat,(l[i]?=none/\m[i]?=none)\/∃p q,l[i]?=some p/\m[i]?=some q/\H q.2.1=some (.tup (p.1.map kV)):=by
 induction r with
 |nil=>intro i;show .inl #[1]
 | @cons p q ps J I t G =>
  intro i;cases i with
  |zero=>show .inr #[p,q,1,I.2.1]
  |succ j=>show G j
theorem wW {P:rz}{w:C1}{H:Hp}{h:Heap}{a:Addr}{o:Obj}{kvs:List (List Key×V)}(ok:iY P w H h) (e:H a=some (.bP o (.dT kvs))) :
  (a==Mf)=false/\h.get? a=some o/\∃es,o.data=.dict es (r6 o)/\es.size=kvs.length/\∀i:Nat,(kvs[i]?=none/\es[i]?=none)\/∃p x b,kvs[i]?=some p/\es[i]?=some x/\x.key=.ref b/\H b=some (.tup (p.1.map kV)):=by
 let#[N,_,hd,xs,r,o',es,ep,h1,h2,O,J,U]:=(show bT P w H h a (.bP o (.dT kvs))from ok a _ e);rw[N]at h1;cases h1;have S:r6 o=ep:=(by unfold r6;rw[O]);have L:∀i:Nat,es[i]?=(xs[i]?).map (entryOfKey (N5 (bt P w))):=λi=>(by rw[<-L0,J,se]);show#[hd,N,es,by rw[S];show O,by rw[<-LI,J,mu];show(Paired.length r).symm,λi=>?_];rcases kt_at r i with⟨I,G⟩|⟨p,q,I,G,R⟩
 .show .inl #[I,by rw[L,G];rfl]
 .show .inr #[p,_,q.2.1,I,by rw[L,G];rfl,rfl,R]
theorem wA {P:rz}{w:C1}{K:iF}{tg:KZ}(a it:Addr) (ap:a≠it) (o:Obj) (kvs:List (List Key×V)):Turn P w K tg (FO a o kvs) [it] it (λi h=>h.IsKeyIter it a i kvs.length (r6 o)) where
 mem:=by simp
 obj:=λi h st b N=>by
  have e:b=it:=(by simpa using N);subst e;let#[ob,h1,_,h3]:=st;show#[ob,h1,λv z=>by rw[h3]at z;cases z]
 keep:=λi h h' st k=>st.at λo e=>k it (by simp) o e
 item:=by
  intro X hP hw hK U i pins s σ H E I O st hg;subst hP hw hK;let#[ab,S]:=hg;let#[f0,f1,f2,f3,f4,Y]:=O it (by simp);let#[hd,ho,es,he,R,al]:=wW I.bE ab;rw[<-R]at st ⊢;show wO (I.ok.hd U) st ho he (λe h' G ac am=>?_) (λh' G _=>?_)
  .have I1:Inv X pins σ H { s with heap:=h',toks:=s.toks }:=I.turned (λb o N e=>(am.2 b N).trans e) f0 f1 f3 f4 Y;let#[ob,h1,h2,h3]:=id ac;rcases al i with⟨_,J⟩|⟨p,x,b,L,J,a3,a4⟩
   .rw[J]at G;cases G
   .rw[J]at G;cases G;rw[a3];show#[0,mX (s:={ s with heap:=h' }) (n := "dict_keyiterator") h1 h2 h3 av #[.ref b,H,I1,rfl,#[rfl,b,p.1,p.2,L,rfl,a4],ac,λb N=>(O b N).1]]
  .rcases al i with⟨L,_⟩|⟨p,x,b,L,J,_⟩
   .rw[tu S]at L;cases L
   .rw[J]at G;cases G
 done:=by
  intro X hP hw hK U i pins s σ H E I O st hg;subst hP hw hK;let#[ab,S]:=hg;let#[f0,f1,f2,f3,f4,Y]:=O it (by simp);let#[hd,ho,es,he,R,al]:=wW I.bE ab;rw[<-R]at st;show wO (I.ok.hd U) st ho he (λe h' G _ _=>?_) (λh' G eb=>#[rfl,I.turned (t':=s.toks) (λb o N e=>eb b o N e) f0 f1 f3 f4 Y]);rcases al i with⟨_,J⟩|⟨p,x,b,L,J,_⟩
  .rw[J]at G;cases G
  .rw[Ly S]at L;cases L
 self:=λ_ _ _ _ _ st h=>Qr st h
noncomputable def Ef (H₀:Hp) (td:TE):TI:=λσ H R=>td σ H λx H1=>BD λa kvs=>Fg (x=.ref a) (H1 a=some (.dT kvs)) ((∀o G,H₀ a≠some (.bP o G))) (∀o,R (FO a o kvs) (upd H1 a (.bP o (.dT kvs))))
section
variable {X:Cx}{tg:KZ}
theorem Bl {l:KZ}{td:TE}(hl:PE X l td):PI X tg l (Ef X.H₀ td):=by
 intro pins s σ H R I h;show bV (hl pins s σ H _ I h) λv s1 U=>?_;let#[x,H1,L,r1,a,kvs,e,G,Y,q]:=U;subst e;cases r1;let#[_,hd,xs,ab,N]:=Dx L.bE G;have hT:=N.typeIs;let#[ob,es,ep,h1,h2,O,S,h5]:=id N;have J:Inv X pins σ (upd H1 a (.bP ob (.dT kvs))) s1:=L.swap G Y (λ_ z=>nomatch z) (λ_ z=>nomatch z) (λ_ z=>nomatch z) #[h1,(show bT X.prog X.w H1 s1.heap a (.dT kvs)from L.bE a _ G).mK (λ_ _ _ z=>z) (λc z=>by rw[ah (λe=>by rw[e,G]at z;cases z)];show z) λc xs z=>by rw[ah (λe=>by rw[e,G]at z;cases z)];show z];have lt:a<s1.heap.objs.size:=Heap.lt_size h1;show Co hT hd h1 O ?_;show#[s1.heap.objs.size,[s1.heap.objs.size],_,FO a ob kvs,0,J.kept (t':=s1.toks) λb o e=>Heap.get?_push_of_some _ e,wA a _ (Lc lt) ob kvs,#[_,Heap.get?_push_size _ rfl,5],λb hb=>?_,q ob]
 .rw[Paired.length ab,show r6 ob=ep by unfold r6;rw[O],show es.size=xs.length by rw[<-LI,S,mu]];rfl
 .have e:b=s1.heap.objs.size:=(by simpa using hb);subst e;show J.jd (qs _) (J.bE.fresh (qs _))
noncomputable def EX (H₀:Hp) (t:TS):TS:=λD σ H=>t { D with
 nx:=λI H'=>∃a o kvs,H' a=some (.bP o (.dT kvs))/\(∀o G,H₀ a≠some (.bP o G))/\D.nx I (upd H' a (.dT kvs))
 rt:=λv H'=>∃a o kvs,H' a=some (.bP o (.dT kvs))/\(∀o G,H₀ a≠some (.bP o G))/\D.rt v (upd H' a (.dT kvs)) } σ H
theorem Inv.Dt {pins:List (Addr×Obj)}{σ:St}{H:Hp}{s:ll}{a:Addr}{o:Obj}{kvs:List (List Key×V)}(I:Inv X pins σ H s) (h:H a=some (.bP o (.dT kvs))) (h1:∀o G,X.H₀ a≠some (.bP o G)):Inv X pins σ (upd H a (.dT kvs)) s :=
 I.swap h h1 (λ_ z=>nomatch z) (λ_ z=>nomatch z) (λ_ z=>nomatch z) ((show bT X.prog X.w H s.heap a (.bP o (.dT kvs))from I.bE a _ h).2.mK (λ_ _ _ z=>z) (λc z=>by rw[ah (λe=>by rw[e,h]at z;cases z)];show z) λc xs z=>by rw[ah (λe=>by rw[e,h]at z;cases z)];show z)
theorem zC {st:K4}{t:TS}(h:PS X st t):PS X st (EX X.H₀ t):=by
 intro pins s σ H D I q;show bV (h pins s σ H _ I q) λf s1 G=>?_;cases f with
 |next =>
  let#[J,H',R,a,o,kvs,O,L,N]:=G;show#[J,_,R.Dt O L,N]
 |ret u =>
  let#[v,J,H',R,r,a,o,kvs,O,L,N]:=G;show#[v,J,_,R.Dt O L,r,N]
 |brk=>show G
 |cont=>show G
end
theorem yr {a:Addr}{o:Obj}{kvs:List (List Key×V)}{g:TG}{tb:TS}{D:Ends}{σ:St}{H:Hp}(Pv:Nat->St->Hp->Prop) (Y:Pv 0 σ H) (R:∀i σ H,i<=kvs.length->Pv i σ H->H a=some (.bP o (.dT kvs)))
  (hs:∀i b k v σ H,kvs[i]?=some (k,v)->H b=some (.tup (k.map kV))->Pv i σ H->g (.ref b) σ H λI H2=>tb { D with nx:=Pv (i+1),ct:=Pv (i+1),bk:=D.nx } I H2) (hd:∀σ H,Pv kvs.length σ H->D.nx σ H) :
  ∃W:Nat->Nat->St->Hp->Prop,(∃m,W 0 m σ H)/\∀i m σ H,W i m σ H ->
   ((FO a o kvs).stop i H/\D.nx σ H)\/((FO a o kvs).go i H/\∃N:St->Hp->Prop,(∀G H',N G H'->∃J,J<m/\W (i+1) J G H')/\∀x H',(FO a o kvs).Bx i H x H'->g x σ H' λI H2=>tb { D with nx:=N,ct:=N,bk:=D.nx } I H2):=by
 show#[λi m σ H=>m=kvs.length-i/\i<=kvs.length/\Pv i σ H,#[kvs.length,by simp,KU _,Y],?_];rintro i m σ H ⟨rfl,hi,p⟩;have q:=R i σ H hi p;by_cases L:i<kvs.length
 .show .inr #[#[q,L],Pv (i+1),λG H' O=>#[kvs.length-(i+1),af,rfl,L,O],λx H' y=>?_];let#[e,b,k,v,S,ex,U]:=y;subst e ex;show hs i b k v σ _ S U p
 .have e:i=kvs.length:=af;subst e;show .inl #[#[q,qs _],hd σ H p]
end L2
namespace Lw
open PySem L2 St
noncomputable abbrev nQ:K4:=inClass (top 14) 13
noncomputable abbrev mI:K4:=inClass (top 33) 10
noncomputable abbrev rZ:K4:=top 51
noncomputable abbrev uw:K4:=top 52
structure HV (H H':Hp) (s:Pg.PS) (p l1 l2:Addr):Prop where
 sm:aZ H H'
 f1:H l1=none
 f2:H l2=none
 fp:H p=none
 n:l1≠l2
 h1:H' l1=some (.lst ((s.ow true).map V.int))
 h2:H' l2=some (.lst ((s.ow false).map V.int))
 hp:H' p=some (.tup [.ref l1,.ref l2])
inductive j8 (C CS:Addr) (vs:List V) (H:Hp) (Q:VK) (e3:XK):Prop
 |mk (M:Addr->Prop) (A:PA) (s:Pg.PS) (_:vs=[.ref A.pg]) (_:bN C CS H M A s) (_:∀H' p l1 l2,HV H H' s p l1 l2->Q (.ref p) H'):j8 C CS vs H Q e3
inductive kO (c:CA) (vs:List V) (H:Hp) (Q:VK) (e3:XK):Prop
 |mk (M:Addr->Prop) (a:RA) (s:Pg.PS) (W:di) (_:vs=[.ref a.rp]) (_:ay c H M a s W) (_:∀H' p l1 l2,HV H H' s p l1 l2->Q (.ref p) H'):kO c vs H Q e3
noncomputable def kP (t q:Int):List Key:=[.inl t,.inl q]
theorem Dk {s:Pg.PS}{H H':Hp}{v:V}{e:Option Pg.Ent}(h:Gv s H v e) (k:∀b xs,H b=some (.tup xs)->H' b=some (.tup xs)):Gv s H' v e:=by
 cases e with
 |none=>show h
 |some e =>
  cases e with
  |none=>let#[t,a,b]:=h;show#[t,a,k _ _ b]
  |some x=>let#[t,b,n,a,c,d]:=h;show#[t,b,n,a,c,k _ _ d]
noncomputable def yT (s:Pg.PS) (W:di) (H:Hp) (kvs:List (List Key×V)):Prop:=∀k v,bZ kvs k=some v->∃t q e,k=kP t q/\eW W t q=some e/\Gv s H v (some e)
theorem yT.keep {s:Pg.PS}{W:di}{H H':Hp}{kvs:List (List Key×V)}(h:yT s W H kvs) (k:∀b xs,H b=some (.tup xs)->H' b=some (.tup xs)):yT s W H' kvs:=λx v e=>by
 let#[t,q,e,a,b,c]:=h x v e;show#[t,q,e,a,b,Dk c k]
structure LP (HB H:Hp) (s:Pg.PS) (W:di) (d:Addr) (n:Nat) (B:Int->Int->Prop):Prop where
 sm:aZ HB H
 fd:HB d=none
 dd:∃kvs,H d=some (.dT kvs)/\kvs.length<=n/\yT s W H kvs/\∀t q,B t q->∃v,bZ kvs (kP t q)=some v
inductive ng (c:CA) (vs:List V) (H:Hp) (Q:VK) (e3:XK):Prop
 |mk (M:Addr->Prop) (a:RA) (m:MA) (nf ns kk:Nat) (s:Pg.PS) (cv:Int->Int->List Int) (pk:Int) (W:di) (Z:Zs) (_:vs=[.ref a.rp,.ref m.md]) (_:xn c H M a m nf ns kk s cv pk W Z) (_:Z.length<=1000) (_:∀(H':Hp) (d:Addr) (kvs:List (List Key×V)),aZ H H'->H d=none->H' d=some (.dT kvs)->yT s W H' kvs->(∀t q,eZ Z t q≠none->∃v,bZ kvs (kP t q)=some v)->Q (.ref d) H'):ng c vs H Q e3
theorem Ir (D:Dd):wo (pz D) 0=some (.str (lg D)):=by cases D<;>rfl
noncomputable def Wd (H:Hp) (v:V) (x:Str):Prop:=∃t r,v=.ref t/\H t=some (.tup (.str x::r))
noncomputable def Js:Dd->Nat
 |.peek _ _ n=>n
 |.poke _ _ _ cs=>cs.length
 |_=>0
inductive rl (c:CA) (vs:List V) (H:Hp) (Q:VK) (e3:XK):Prop
 |mk (M:Addr->Prop) (a:RA) (s:Pg.PS) (W:di) (md d b f:Addr) (kb kf:List (List Key×V)) (D:Dd) (_:vs=[.ref a.rp,.ref md,.ref d,.ref b,.ref f]) (_:ay c H M a s W) (_:gO H d D) (_:H b=some (.dT kb)) (_:H f=some (.dT kf)) (_:b≠f) (_:(0:Int)∈s.ow true->∀k v,bZ kf k=some v->∃x,Wd H v x/\(x = "slot" -> ∀u,bZ kb k=some u->∃y,Wd H u y/\y ≠ "frame")) (_:∀t ad,(∃n,D=.peek t ad n)\/(∃cc cs,D=.poke t ad cc cs)->∃v x,bZ kf (kP t ((ad+Js D-1)/8))=some v/\Wd H v x/\x ≠ "slot") (_:∀H',aZ H H'->Q (.bl true) H'):rl c vs H Q e3
section
variable {HB H H':Hp}{s:Pg.PS}{W:di}{d:Addr}{n n':Nat}{B B':Int->Int->Prop}
theorem LP.same (I:LP HB H s W d n B) (h:aZ H H'):LP HB H' s W d n B:=by
 let#[G,fd,kvs,a,b,c,e]:=I;show#[G.trans h,fd,kvs,h _ _ a,b,c.keep λb xs z=>h _ _ z,e]
theorem LP.imp (I:LP HB H s W d n B) (l:n<=n') (h:∀t q,B' t q->B t q):LP HB H s W d n' B':=by
 let#[G,fd,kvs,a,b,c,e]:=I;show#[G,fd,kvs,a,G0 b l,c,λt q z=>e t q (h t q z)]
theorem LP.wr (I:LP HB H s W d n B) {r:Addr}{o:HO}(G:d≠r) (J:∀xs,H r≠some (.tup xs)):LP (upd HB r o) (upd H r o) s W d n B:=by
 let#[L,fd,kvs,a,b,c,e]:=I;show#[λc u e=>?_,by rw[ah G];show fd,kvs,by rw[ah G];show a,b,c.keep λb xs z=>by rw[ah (λy=>J xs (by rw[<-y];show z))];show z,e];by_cases z:c=r
 .rw[z,ae]at e ⊢;show e
 .rw[ah z]at e ⊢;show L c u e
theorem LP.back {r:Addr}{o u:HO}(I:LP (upd HB r o) H s W d n B) (L:HB r=some u) (J:∀xs,H r≠some (.tup xs)):LP HB (upd H r u) s W d n B:=by
 let#[N,fd,kvs,a,b,c,e]:=I;have G:d≠r:=λz=>(by rw[z,ae]at fd;cases fd);show#[λc w e=>?_,by rw[ah G]at fd;show fd,kvs,by rw[ah G];show a,b,c.keep λb xs z=>by rw[ah (λy=>J xs (by rw[<-y];show z))];show z,e];by_cases z:c=r
 .rw[z,ae, <-L, <-z];show e
 .rw[ah z];show N c w (by rw[ah z];show e)
theorem LP.put {kvs:List (List Key×V)}{t q:Int}{v:V}{e:Pg.Ent}(S:aZ HB H) (fd:HB d=none) (h:H d=some (.dT kvs)) (l:kvs.length<=n) (A:yT s W H kvs) (J:∀t q,B t q->∃v,bZ kvs (kP t q)=some v) (U:eW W t q=some e) (R:Gv s H v (some e)):LP HB (upd H d (.dT (putK kvs (kP t q) v))) s W d (n+1) (λt' G=>B t' G\/(t'=t/\G=q)):=by
 have I:∀b xs,H b=some (.tup xs)->upd H d (.dT (putK kvs (kP t q) v)) b=some (.tup xs):=λb xs z=>(by rw[ah (λy=>by rw[y,h]at z;cases z)];show z);show#[λc u z=>?_,fd,_,ae,G0 (eF _ _ _) (Rj l),λk u z=>?_,λt' G z=>?_]
 .rw[ah (λy=>by rw[y,fd]at z;cases z)];show S c u z
 .rw[su]at z;by_cases c:k=kP t q
  .rw[Tz c]at z;cases z;show#[t,q,e,c,U,Dk R I]
  .rw[Tx c]at z;let#[t1,O,e1,N,L,Y]:=A k u z;show#[t1,O,e1,N,L,Dk Y I]
 .rw[su];by_cases c:kP t' G=kP t q
  .rw[Tz c];show#[0]
  .rw[Tx c];rcases z with z|⟨rfl,rfl⟩
   .show J _ _ z
   .show absurd rfl c
end
section
variable {P:rz}{w:C1}{K:iF}{mg:Str->Option Value}{base:Heap}
theorem qQ:aC ["self"] ["self"] (aw nQ):=L2.bC
theorem uQ {f C CS:Addr}{fd:qj}(F:cI K "counts" "Paging.counts" nQ f fd) (T:ox K mg C) (TS:Txt K mg CS):a8 P w K mg base aV 1 f fd ["self"] (j8 C CS):=by
 show F.dh qQ (λac A outer s H vs Q E hr h=>?_);let#[M,I,s',rfl,G,k]:=h;let#[dx,Y]:=G.ob;let#[d1,hf]:=G.fr.ob;show#[_,(ak (aE (b7 (aa (bK cU (by rfl) T.list dU (aa (aK (aK (pv 0) rfl) rfl) ai)) (aa (bK cU (by rfl) T.list dU (aa (aK (aK (pv 0) rfl) rfl) ai)) ai))))),?_];show#[0,I.pg,C,dx,_,0,Y,T.cl,T.nF,ml _ _,I.fp,CS,d1,_,0,hf,TS.cl,TS.nO,eB _ _,I.fo,0,.inl (bA.of G.fr.hw),λR ab=>?_];have J:=Tb.au (X:=.lst ((s'.ow true).map V.int)) ab;let#[d2,hg]:=G.sl.ob;show#[0,I.pg,C,dx,_,0,J _ _ Y,T.cl,T.nS,tH _ _,I.sp,CS,d2,_,0,J _ _ hg,TS.cl,TS.nO,eB _ _,I.so,0,.inl (bA.of (J _ _ G.sl.hw)),λS L=>?_];have O:=Tb.au (X:=.lst ((s'.ow false).map V.int)) L;show#[dZ,λp U=>?_];have N:=Tb.au (X:=.tup [.ref R,.ref S]) U;show k _ p R S #[J.trans (O.trans N),ab,J.free L,J.free (O.free U),(λz=>by rw[z,ae]at L;cases L),N _ _ (O _ _ ae),N _ _ ae,ae]
theorem Jn:aC ["self"] ["self"] (aw mI):=L2.bC
theorem u5 {f:Addr}{fd:qj}{c:CA}(F:cI K "counts" "Rooms.counts" mI f fd) (T:oQ K mg c) (TP:ox K mg c.P) (L:Md P w K mg base aV 1 c.P "counts" (j8 c.P c.S)) :
  a8 P w K mg base aV 2 f fd ["self"] (kO c):=by
 show F.dh Jn (λN A outer s H vs Q E I h=>?_);let#[M,a,s',W,rfl,R,k]:=h;let#[dx,J]:=R.ob;let#[G,h2]:=R.pg.ob;show#[_,(ak (aE (ug (aK (pv 0) rfl) TP.cl L I ax))),?_];show#[0,a.rp,c.C,dx,_,0,J,T.cl,T.nP,kW _ _ _,a.A.pg,G,0,h2,cJ _ _ ao ao ao ao ao,M,a.A,s',rfl,R.pg,k]
theorem ve:aC ["_law_kept","_law_model_here","_law_places_here","_law_task","_law_room","_law_page"] ["_law_kept","_law_model_here"] (aw rZ):=L2.bC
theorem xP {f:Addr}{fd:qj}{c:CA}(F:cI K "_law_places" "_law_places" rZ f fd) (TR:oQ K mg c) (MK:FL P w K mg base c) :
  a8 P w K mg base aV 5 f fd ["_law_kept","_law_model_here"] (ng c):=by
 show F.dh ve (λbl A outer s H vs Q E hr h=>?_);let#[M,a,m,nf,ns,kk,s',cv,pk,W,Z,rfl,S,hz,k]:=h;have hs:=vu;have a1:M m.lr/\¬ a.own W m.lr:=S.sp _ (.inr (.inl rfl));have hn:∀(ob:Obj) u',H m.lr≠some (.bP ob u'):=λob u' w=>(by rw[S.D.hr]at w;cases w);show#[_,(ag (dr 2 ve.nd Ax)
  (ag (iO (cG D3 rfl (nN (bh (a9 hr) (pv 1) aH bW)) (dF rfl (bg (gb 3 ve.nd) (bg (gb 4 ve.nd) cV))) (ak (iO (cG D3 rfl (lG (pv 4)) (gb 5 ve.nd) (ak (cR (pm (pv 0) TR.cl MK.Dh hr ax (aa (pv 3) (aa (pv 5) ai))) (dW (pv 2) (b7 (aa (pv 3) (aa (pv 5) ai))) (set_dict (a9 hr))))))))))
  (ak (aE (pv 2))))),?_]
 intro d f2;have sm:=Tb.au (X:=.dT []) f2;have I5:LP H (upd H d (.dT [])) s' W d 0 (λ_ _=>False):=#[sm,f2,[],ae,qs _,(λv x e=>by cases e),λ_ _ z=>z.elim];change jL _ _ _ _ (upd H d (.dT []));generalize upd H d (.dT [])=H5 at *;have D5:=S.D.same sm;show#[0,m.md,.ref m.lr,rfl,D5.g (yk _ _ _ _),m.lr,0,D5.hr,hn,λob=>?_];have oF:Off (· = m.lr) H (upd H m.lr (.bP ob (.dK (Tb.dk d0 Z)))):=Off.wr rfl;have hF:upd H m.lr (.bP ob (.dK (Tb.dk d0 Z))) m.lr=some (.bP ob (.dK (Tb.dk d0 Z))):=ae;have RF:ay c (upd H m.lr (.bP ob (.dK (Tb.dk d0 Z)))) M a s' W:=S.R.BJ (B:=(· = m.lr)) oF (λb z=>by rw[z];show a1) (λb z=>.inr #[_,(congrArg H z).trans S.D.hr]) (λb z=>.inl z) (λb z _=>z) (λb z e=>by
  by_cases q:b=m.lr
  .rw[q,hF]at e;cases e
  .rw[ah q]at e;show S.R.mt b z e)
 have ac:∀x∈Z,upd H m.lr (.bP ob (.dK (Tb.dk d0 Z))) x.2.ra=some (.dK (Tb.dk dJ x.2.pl)):=λx N=>oF _ _ (S.D.rm x N) (S.D.d3 x N).2.1;have m1:d≠m.lr:=λz=>(by rw[z,S.D.hr]at f2;cases f2);have IF:=I5.wr (r:=m.lr) (o:=.bP ob (.dK (Tb.dk d0 Z))) m1 (λxs z=>by rw[D5.hr]at z;cases z);have back:∀{H9 i B},LP (upd H m.lr (.bP ob (.dK (Tb.dk d0 Z)))) H9 s' W d i B->LP H (upd H9 m.lr (.dK (Tb.dk d0 Z))) s' W d i B:=λI=>I.back S.D.hr λxs z=>(by rw[I.sm _ _ hF]at z;cases z);generalize bi:upd H m.lr (.bP ob (.dK (Tb.dk d0 Z)))=G at *;show j6 (a:=m.lr) (o:=ob) (kvs:=Tb.dk d0 Z) (λj σ H2=>∃(v3 v4 v5:Option V),σ=[some (.ref a.rp),some (.ref m.md),some (.ref d),v3,v4,v5]/\LP G H2 s' W d (64*j) (λt q=>∃x∈Z.take j,x.1=t/\Tb.look x.2.pl q≠none)) #[2,0,IF.imp (qs _) (λt q z=>by let#[x,N,_]:=z;simp at N)] (λj σ H2 _ z0=>by let#[_,_,_,_,U]:=z0;show U.sm _ _ hF) ?_ ?_
 .rintro j aT v σ H2 T' hk a2 ⟨v3,v4,v5,rfl,U⟩;have ab:(Z.map λx:Int×MT=>((ti x.1:Key),d0 x.2))[j]?=some (aT,v):=hk;rw[se]at ab;let#[x,N,e]:=pf.mp ab;cases e;have J:=vr N;have hj:j<Z.length:=(kz.mp N).1;have ez:Tb.look Z x.1=some x.2:=Tb.bJ S.D.nd J;let#[xx,am]:=S.tw.get ez;have bd:=S.tw.vK am ez;have bm:x.2.pl.length<=64:=S.D.len J;show#[T',[.int x.1,.ref x.2.ra],rfl,bL.of ae,4,0,_,0,5];have I3:=U.same (Tb.au (X:=.tup [kV (ti x.1),d0 x.2]) a2);generalize upd H2 T' (.tup [kV (ti x.1),d0 x.2])=H3 at *;have as:∀(ob:Obj) u',H x.2.ra≠some (.bP ob u'):=λob u' w=>(by rw[S.D.rm x J]at w;cases w);have a0:M x.2.ra/\¬ a.own W x.2.ra:=S.sp _ (.inr (.inr (.inr #[x,J,.inl rfl])));have h3:=I3.sm _ _ (ac x J);show#[0,x.2.ra,0,h3,as,λL=>?_];have m1:d≠x.2.ra:=λz=>(by have:=I3.fd;rw[z,ac x J]at this;cases this);have oG:Off (· = x.2.ra) G (upd G x.2.ra (.bP L (.dK (Tb.dk dJ x.2.pl)))):=Off.wr rfl;have hG:upd G x.2.ra (.bP L (.dK (Tb.dk dJ x.2.pl))) x.2.ra=some (.bP L (.dK (Tb.dk dJ x.2.pl))):=ae;have RG:ay c (upd G x.2.ra (.bP L (.dK (Tb.dk dJ x.2.pl)))) M a s' W:=RF.BJ (B:=(· = x.2.ra)) oG (λb z=>by rw[z];show a0) (λb z=>.inr #[_,(congrArg G z).trans (ac x J)]) (λb z=>.inl z) (λb z _=>z) (λb z e=>by
   by_cases q:b=x.2.ra
   .rw[q,hG]at e;cases e
   .rw[ah q]at e;show RF.mt b z e)
  have IG:=I3.wr (r:=x.2.ra) (o:=.bP L (.dK (Tb.dk dJ x.2.pl))) m1 (λxs z=>by rw[h3]at z;cases z);have a3:∀{H9 i B},LP (upd G x.2.ra (.bP L (.dK (Tb.dk dJ x.2.pl)))) H9 s' W d i B->LP G (upd H9 x.2.ra (.dK (Tb.dk dJ x.2.pl))) s' W d i B:=λI=>I.back (ac x J) λxs z=>(by rw[I.sm _ _ hG]at z;cases z);generalize bn:upd G x.2.ra (.bP L (.dK (Tb.dk dJ x.2.pl)))=HG at *;show lV (a:=x.2.ra) (o:=L) (kvs:=Tb.dk dJ x.2.pl) (λi σ H4=>∃(v5:Option V),σ=[some (.ref a.rp),some (.ref m.md),some (.ref d),some (.int x.1),some (.ref x.2.ra),v5]/\LP HG H4 s' W d (64*j+i) (λt q=>(∃x∈Z.take j,x.1=t/\Tb.look x.2.pl q≠none)\/(t=x.1/\q∈(x.2.pl.take i).map (·.1)))) #[0,IG.imp (qs _) (λt q z=>z.elim id λz=>by simp at z)] (λq σ H4 _ z0=>by let#[_,_,O]:=z0;show O.sm _ _ hG) ?_ ?_
  .rintro i kk v σ H4 hk ⟨ba,rfl,O⟩;have ab:(x.2.pl.map λy:Int×Addr×Int=>((ti y.1:Key),dJ y.2))[i]?=some (kk,v):=hk;rw[se]at ab;let#[y,hy,e]:=pf.mp ab;cases e;have a7:=vr hy;have hi:i<x.2.pl.length:=(kz.mp hy).1;have ey:Tb.look x.2.pl y.1=some y.2:=Tb.bJ (S.D.np x J) a7;have R4:=RG.same O.sm;let#[dx,ho]:=R4.ob;show#[0,a.rp,dx,0,ho,fA _ _ _ ao ao ao,0,0,M,a,s',W,x.1,y.1,xx,rfl,R4,S.ri,am,λH6 v s6 ap=>?_];cases he:Tb.look xx.t y.1 with
   |none=>rw[(bd y.1).mp he]at ey;cases ey
   |some en =>
   rw[he]at ap;show#[0,0,0,dZ,λtk a4=>?_];have s7:=Tb.au (X:=.tup [.int x.1,.int y.1]) a4;have h7:upd H6 tk (.tup [.int x.1,.int y.1]) tk=some (.tup [.int x.1,.int y.1]):=ae;let#[a6,bc,kvs,k1,k2,k3,k4]:=(O.same s6).same s7;have be:=Dk ap (λb xs z=>s7 _ _ z);show#[d,0,fC.t (k:=kP x.1 y.1) k1 h7 af,0,(LP.put a6 bc k1 k2 k3 k4 (by rw[k7 am];show he) be).imp (qs _) λt q z=>?_];rcases z with z|⟨z1,Y⟩
   .show .inl (.inl z)
   .rw[LA,hy,DO]at Y;rcases n7.mp Y with Y|Y
    .show .inl (.inr #[z1,Y])
    .show .inr #[z1,by simpa using Y]
  .rintro σ H4 ⟨ba,rfl,O⟩;show#[x.2.ra,L,_,O.sm _ _ hG,as,2,0,(a3 O).imp ?_ λt q z=>?_]
   .rw[Tb.cj];omega
   .let#[x',h1,h2,aB]:=z;rw[LA,N]at h1;rcases n7.mp h1 with h1|h1
    .show .inl #[x',h1,h2,aB]
    .have:x'=x:=(by simpa using h1);subst this;show .inr #[h2.symm,?_];rw[Tb.cj,LN];cases e:Tb.look x'.2.pl q with
     |none=>show absurd e aB
     |some u=>show rr.mpr #[_,Tb.az e,rfl]
 .rintro σ H2 ⟨v3,v4,v5,rfl,U⟩;let#[a5,bb,kvs,k1,k2,k3,k4]:=back U;show#[m.lr,ob,_,U.sm _ _ hF,hn,?_];show#[0,k _ d kvs a5 bb k1 k3 λt q z=>k4 t q ?_];unfold eZ at z;cases e:Tb.look Z t with
  |none=>rw[e]at z;show absurd rfl z
  |some y =>
   show#[(t,y),by rw[Tb.cj,LN];show Tb.az e,rfl,λw=>z ?_];rw[e];change(Tb.look y.pl q).map (·.2)=none;rw[w];rfl
theorem DZ:aC ["_law_kept","_law_model_here","_law_deed","_law_before","_law_after","_law_owner","_law_many"] ["_law_kept","_law_model_here","_law_deed","_law_before","_law_after"] (aw uw):=L2.bC
theorem CB {x:Int}{xs:List Int}(h:BA (.int x) (xs.map V.int)=true):x∈xs:=by
 let#[y,h1,h2]:=Nw.mp h;let#[z,G,rfl]:=rr.mp h1;have:z=x:=(by simpa[kE]using h2);show this▸G
theorem Ae {κ:Type} [DecidableEq κ] {kvs:List (κ×V)}{i:Nat}{k:κ}{v:V}(h:kvs[i]?=some (k,v)):∃u,bZ kvs k=some u:=by
 have:=fq k kvs;rw[show(kvs.any λG=>decide (G.1=k))=true from Nw.mpr #[(k,v),vr h,decide_eq_true rfl]]at this;show MG.mp this.symm
theorem Ba {x:V}{r:List V}:wo (x::r) 0=some x:=by unfold wo vU;simp
theorem Wd.keep {H H':Hp}{v:V}{x:Str}(h:Wd H v x) (k:∀b xs,H b=some (.tup xs)->H' b=some (.tup xs)):Wd H' v x:=by
 let#[t,r,a,b]:=h;show#[t,r,a,k _ _ b]
theorem Bt {f:Addr}{fd:qj}{c:CA}(F:cI K "_law_right" "_law_right" uw f fd) (T:ke mg) (TR:oQ K mg c) (a2:Md P w K mg base aV 2 c.C "counts" (kO c)) :
  a8 P w K mg base aV 5 f fd ["_law_kept","_law_model_here","_law_deed","_law_before","_law_after"] (rl c):=by
 show F.dh DZ (λa5 A outer s H vs Q E hr h=>?_);let#[M,a,s',W,md,d,b,G,kb,kf,D,rfl,R,hd,hb,hf,a0,h1,h2,k]:=h;have hs:=vu;let#[dx,ho]:=R.ob;have hn:∀(ob:Obj) u',H G≠some (.bP ob u'):=λob u' z=>(by rw[hf]at z;cases z);show#[_,(ag (aS (aD gp aj (aP aN (ug (pv 0) TR.cl a2 hr ax) aj bW) (by with_unfolding_all rfl)) (ak (zC (cG D3 rfl (Bl (pv 4)) (gb 5 DZ.nd) (ak (aS (PW.pt (kR (aD bR (aP aN (bh (a9 hr) (pv 4) (pv 5) bW) aj bW) aH (aI _)) (iJ (aD bR (aP aN (lT (a9 hr) (pv 3) (pv 5) (b7 (aa aH ai)) #[1,1]) aj bW) aH (aI _))))) (ak (aE kX)) aF))))) aF)
  (ag (aS (aD gp (aP aN (pv 2) aj bW) (b7 (aa aH (aa aH ai))) (by with_unfolding_all rfl)) (ag (dr 6 DZ.nd (zS (aD bR (aP aN (pv 2) aj bW) aH (aI _)) (aP aN (pv 2) aj bW) (aQ bG (by rfl) T.len boot_len (aa (aP aN (pv 2) aj bW) ai))))
  (ak (aE (iC DK (aP aN (bh (a9 hr) (pv 4) (b7 (aa (aP aN (pv 2) aj bW) (aa (aA br (aA jb (aA bp (aP aN (pv 2) aj bW) (pv 6)) aj) aj) ai))) bW) aj bW) aH (aI _))))) aF)
  (ak (aE kX)))),?_]
 show hV (λσ H2=>aZ H H2/\∃U,σ=[some (.ref a.rp),some (.ref md),some (.ref d),some (.ref b),some (.ref G),U,none]) (λa1 QQ ji S=>?A) ?B
 case A =>
  show#[0,a.rp,dx,0,ho,fA _ _ _ ao ao ao,M,a,s',W,rfl,R,λH1 p k1 k2 L=>#[p,2,.ref k1,1,bL.of L.hp,rfl,k1,0,.inl (bA.of L.h1),rfl,eh _,0,?_]];show oU (λcz=>ji _ ?_) (λ_=>S _ #[L.sm,0]);have al:=h1 (CB cz);have a3:=L.sm _ _ hf;show#[0,G,0,a3,hn,λob=>?_];have hF:upd H1 G (.bP ob (.dT kf)) G=some (.bP ob (.dT kf)):=ae;have bF:upd H1 G (.bP ob (.dT kf)) b=some (.dT kb):=(by rw[ah a0];show L.sm _ _ hb);have tF:∀b xs,H b=some (.tup xs)->upd H1 G (.bP ob (.dT kf)) b=some (.tup xs):=λb xs z=>(by rw[ah (λy=>by rw[y,hf]at z;cases z)];show L.sm _ _ z);have sF:∀H9,aZ (upd H1 G (.bP ob (.dT kf))) H9->aZ H (upd H9 G (.dT kf)):=λH9 s9 b o e=>by
   by_cases z:b=G
   .rw[z,ae, <-hf, <-z];show e
   .rw[ah z];show s9 _ _ (by rw[ah z];show L.sm _ _ e)
  generalize upd H1 G (.bP ob (.dT kf))=HF at *;show yr (a:=G) (o:=ob) (kvs:=kf) (λi σ H2=>aZ HF H2/\∃U,σ=[some (.ref a.rp),some (.ref md),some (.ref d),some (.ref b),some (.ref G),U,none]) #[aZ.refl _,0] (λi σ H2 _ z=>z.1 _ _ hF) ?_ ?_
  .rintro i bk kk v σ H2 hk ac ⟨s2,U,rfl⟩;let#[u,hu]:=Ae hk;let#[x,hx,hy]:=al kk u hu;let#[t,r,rfl,ht]:=(hx.keep tF).keep λb xs z=>s2 _ _ z;have fF:Rd H2 G (.dT kf):=.inr #[ob,s2 _ _ hF];show nameQ ?_;dsimp only;show tq λQQ ji S=>?_;show#[0,0,G,.ref t,rfl,.inr #[kf,kk,bk,fF,rfl,ac,hu.symm],t,2,.str x,1,bL.of ht,Ba,rfl,0,?_];show gR (λcs=>?_) (λ_=>S _ #[s2,0]);have cs:=hy (V.str.inj (of_decide_eq_true cs));have b2:=s2 _ _ bF;show#[0,b,rfl,.inr #[_,.inl b2],0,Ge,λt2 ab=>#[_,cZ.t (k:=kk) (by rw[ah (ar b2 ab)];show b2) (by rw[ah (ar ac ab)];show ac),?_]];have s3:=Tb.au (X:=.tup [V.str "slot"]) ab;obtain⟨O,r3,y,Y,g2,g3⟩:∃O r3 y,(bZ kb kk).getD (.ref t2)=.ref O/\upd H2 t2 (.tup [V.str "slot"]) O=some (.tup (.str y::r3))/\y ≠ "frame" := by
    cases e:bZ kb kk with
    |none=>show#[t2,[],"slot",rfl,ae,ao]
    |some u =>
     let#[y,aT,ny]:=cs u e;let#[O,r3,rfl,h3]:=((aT.keep tF).keep λb xs z=>s2 _ _ z).keep λb xs z=>s3 _ _ z;show#[O,r3,y,rfl,h3,ny]
   rw[Y];show#[O,2,.str y,1,bL.of g2,Ba,rfl,false,by rw[decide_eq_false (λz=>g3 (V.str.inj z))],S _ #[s2.trans s3,0]]
  .rintro σ H2 ⟨s2,U,rfl⟩;show#[G,ob,_,s2 _ _ hF,hn,a1 _ _ #[sF _ s2,0]]
 case B =>
  rintro σ H2 ⟨s2,U,rfl⟩;have as:=s2 _ _ hd.1;have R2:∀v x,Wd H v x->Wd H2 v x:=λv x z=>z.keep λb xs z=>s2 _ _ z;show gP λ_ ji S=>?_;show#[0,d,2,.str (lg D),1,bL.of as,Ir D,dZ,λp hp=>#[p,0,.inr (bL.of ae),1,0,?_]];have s3:=Tb.au (X:=.tup [V.str "peek",V.str "poke"]) hp;have J:=s3 _ _ as;have aB:=s3 _ _ (s2 _ _ hf);have am:=s2.trans s3;show oU (λcp=>ji _ ?_) (λ_=>S _ (k _ am));generalize upd H2 p (.tup [V.str "peek",V.str "poke"])=H3 at *;cases D with
  |peek t ad n =>
   let#[v,x,e1,e2,e3]:=h2 t ad (.inl #[n,rfl]);let#[tt,r,rfl,ht]:=(R2 _ _ e2).keep λb xs z=>s3 _ _ z;show eM λ_ jt=>?_;show#[0,d,2,.str "peek",1,bL.of J,1,0,eL #[0,d,2,.int n,1,bL.of J,rfl,jt _ _ ?_]];have ap:∀tk,H3 tk=none->∃I v,V.ref G=.ref I/\cZ (upd H3 tk (.tup [.int t,.int ((ad+(n:Nat)-1)/8)])) I (.ref tk) (some v)/\v=.ref tt/\upd H3 tk (.tup [.int t,.int ((ad+(n:Nat)-1)/8)]) tt=some (.tup (.str x::r))/\Q (.bl (!decide (V.str x=V.str "slot"))) (upd H3 tk (.tup [.int t,.int ((ad+(n:Nat)-1)/8)])):=λtk N=>by
    have s4:=Tb.au (X:=.tup [.int t,.int ((ad+(n:Nat)-1)/8)]) N;show#[G,.ref tt,rfl,.inr #[kf,kP t ((ad+(n:Nat)-1)/8),tk,.inl (s4 _ _ aB),rfl,ae,e1.symm],rfl,s4 _ _ ht,?_];rw[decide_eq_false (λz=>e3 (V.str.inj z))];show k _ (am.trans s4)
   show#[0,0,d,2,.int t,1,bL.of J,rfl,0,d,2,.int ad,1,bL.of J,rfl,0,_,0,4,0,4,0,rfl,#[av,av],dZ,λtk N=>?_];let#[I,v',Y,g2,rfl,g4,g5]:=ap tk N;show#[I,_,Y,g2,tt,2,.str x,1,bL.of g4,Ba,rfl,g5]
  |poke t ad cc cs =>
   let#[v,x,e1,e2,e3]:=h2 t ad (.inr #[cc,cs,rfl]);let#[tt,r,rfl,ht]:=(R2 _ _ e2).keep λb xs z=>s3 _ _ z;have a4:=s3 _ _ (s2 _ _ (hd.2 _ _ _ _ rfl));show eM λ_ jt=>?_;show#[0,d,2,.str "poke",1,bL.of J,1,0,bX #[0,d,2,.ref cc,1,bL.of J,rfl,cc,0,.inl (bA.of a4),jt _ _ ?_]];rw[mu];have ap:∀tk,H3 tk=none->∃I v,V.ref G=.ref I/\cZ (upd H3 tk (.tup [.int t,.int ((ad+(cs.length:Nat)-1)/8)])) I (.ref tk) (some v)/\v=.ref tt/\upd H3 tk (.tup [.int t,.int ((ad+(cs.length:Nat)-1)/8)]) tt=some (.tup (.str x::r))/\Q (.bl (!decide (V.str x=V.str "slot"))) (upd H3 tk (.tup [.int t,.int ((ad+(cs.length:Nat)-1)/8)])):=λtk N=>by
    have s4:=Tb.au (X:=.tup [.int t,.int ((ad+(cs.length:Nat)-1)/8)]) N;show#[G,.ref tt,rfl,.inr #[kf,kP t ((ad+(cs.length:Nat)-1)/8),tk,.inl (s4 _ _ aB),rfl,ae,e1.symm],rfl,s4 _ _ ht,?_];rw[decide_eq_false (λz=>e3 (V.str.inj z))];show k _ (am.trans s4)
   show#[0,0,d,2,.int t,1,bL.of J,rfl,0,d,2,.int ad,1,bL.of J,rfl,0,_,0,4,0,4,0,rfl,#[av,av],dZ,λtk N=>?_];let#[I,v',Y,g2,rfl,g4,g5]:=ap tk N;show#[I,_,Y,g2,tt,2,.str x,1,bL.of g4,Ba,rfl,g5]
  |begin t=>show absurd cp (by dsimp only[lg];decide +kernel)
  |close t=>show absurd cp (by dsimp only[lg];decide +kernel)
  |map t x y=>show absurd cp (by dsimp only[lg];decide +kernel)
  |drop t x y=>show absurd cp (by dsimp only[lg];decide +kernel)
  |copy t o=>show absurd cp (by dsimp only[lg];decide +kernel)
end
noncomputable abbrev rD:K4:=top 50
section
variable {c:CA}{H0 H H2 H3:Hp}{M M3:Addr->Prop}{a:RA}{m:MA}{nf ns k:Nat}{tl:Addr}{tv:HO}{s s3:Pg.PS}{cv:Int->Int->List Int}{pk:Int}{W W3:di}{Z Z2:Zs}
theorem Lv.kept (L:Lv c H0 a m nf ns tl tv k H M s cv pk W Z) (O:mq m H Z H2 Z2) (R:ay c H2 (λb=>(M b/\¬ cA m Z b)\/cA m Z2 b) a s W) (st:Step H2 (λb=>(M b/\¬ cA m Z b)\/cA m Z2 b) (a.own W) H3 M3 (a.own W3)) {b:Addr}{o:HO}(N:H b=some o) (G:¬ M b):H3 b=some o/\¬ M3 b:=by
 have J:=O.1 _ _ N λw=>G (L.S.sp _ w).1;have I:¬ ((M b/\¬ cA m Z b)\/cA m Z2 b):=λz=>by
  rcases z with z|z
  .show G z.1
  .rcases O.2 _ z with z|z
   .show G (L.S.sp _ z).1
   .rw[N]at z;cases z
 show#[st.off _ _ J λw=>I (R.dw _ w),λz=>(st.mn _ z).elim I λz=>by rw[J]at z;cases z]
theorem Lv.mS (L:Lv c H0 a m nf ns tl tv k H M s cv pk W Z) (N:mq m H Z H2 Z2) (J:ay c H2 (λb=>(M b/\¬ cA m Z b)\/cA m Z2 b) a s W) (st:Step H2 (λb=>(M b/\¬ cA m Z b)\/cA m Z2 b) (a.own W) H3 M3 (a.own W3)) (b:Addr) (xs:List V) (G:H b=some (.tup xs)):H3 b=some (.tup xs):=by
 have I:=N.1 _ _ G λw=>by
  rcases L.S.D.alive _ w with⟨_,h⟩|⟨_,h⟩
  .rw[G]at h;cases h
  .rw[G]at h;cases h
 show st.off _ _ I (iS J I)
theorem xO {t:Int}{y:TD}(L:Tb.look W t=none) (I:y.t=[]):ents (W++[(t,y)])=ents W/\qu (.begin t) (hW W) (hW (W++[(t,y)]))/\lj none (λx=>∃k,x=some k) (.begin t) (eW W) (eW (W++[(t,y)]))/\(Cv s W cv->Cv s (W++[(t,y)]) cv):=by
 show#[by rw[l9,I];show QJ _,λt'=>?_,λt' j=>?_,λN t' x G j e J=>?_]
 .unfold hW;rw[Tb.bu t' L];by_cases z:t'=t
  .rw[Tz z,decide_eq_true z];rfl
  .rw[Tx z,decide_eq_false z];rfl
 .unfold eW;rw[Tb.bu t' L];by_cases z:t'=t
  .rw[Tz z,Tz z,Nx,I];rfl
  .rw[Tx z,Tx z]
 .rw[Tb.bu t' L]at G;by_cases z:t'=t
  .rw[Tz z]at G;cases G;rw[I]at J;cases J
  .rw[Tx z]at G;show N t' x G j e J
theorem Cp {t p q:Int}{x y:TD}(I:Tb.look W t=some x) (J:∀j,Tb.look y.t j=if j∈Rm.aM p q then some none else Tb.look x.t j):lj none (λx=>∃k,x=some k) (.map t p q) (eW W) (eW (Tb.aW W t y)):=λt' j=>by
 rw[qy I];by_cases z:t'=t
 .rw[Tz z,J j];by_cases G:j∈Rm.aM p q
  .rw[Tz G,Tz #[z,G]]
  .rw[Tx G,Tx (λh=>G h.2),z,k7 I]
 .rw[Tx z,Tx (λh=>z h.1)]
theorem F9 {D:Dd}(I:IJ D s s3 W3) (J:lj none (λx=>∃k,x=some k) D (eW W) (eW W3)) (U:∀t o,D=.copy t o->Tb.look W o=none) (z:(0:Int)∈s3.ow true) {t q j R:Int}{n n':Nat}{b:Bool}(h1:eW W3 t q=some (some j)) (h2:s3.pl j=some (false,n)) (N:eW W t q=some (some R)) (O:s.pl R=some (b,n')):b=false:=by
 have up:Pg.Up s s3->eW W3 t q=eW W t q->b=false:=λu e=>by
  rw[e,N]at h1;cases h1;have:=u _ _ h2;rw[O]at this;cases this;rfl
 have kb:Pg.KB s s3->eW W3 t q=eW W t q->b=false:=λu e=>by
  rw[e,N]at h1;cases h1;cases b with
  |false=>rfl
  |true =>
   let#[m,L]:=(u z).2 _ #[_,O];rw[h2]at L;cases L
 cases D with
 |begin G =>
  have e:=J t q;by_cases y:t=G
  .rw[Tz y,h1]at e;cases e
  .rw[Tx y]at e;show up I e
 |close G =>
  have e:=J t q;by_cases y:t=G
  .rw[Tz y,h1]at e;cases e
  .rw[Tx y]at e;show up I e
 |map G p m =>
  have e:=J t q;by_cases y:t=G/\q∈Rm.aM p m
  .rw[Tz y,h1]at e;cases e
  .rw[Tx y]at e;show up I e
 |drop G p m =>
  have e:=J t q;by_cases y:t=G/\q∈Rm.aM p m
  .rw[Tz y,h1]at e;cases e
  .rw[Tx y]at e;show up I e
 |copy G o =>
  have e:=J t q;by_cases y:t=o
  .unfold eW at N;rw[y,U G o rfl]at N;cases N
  .rw[Tx y]at e;show up I e
 |peek G ad n=>show kb I.1 (J t q)
 |poke G ad cc cs =>
  have e:=J t q;by_cases y:t=G/\q∈Rm.aq ad cs.length
  .let#[_,x,Y,S,_]:=I;rw[y.1,k7 Y]at h1;let#[m,L]:=S z q y.2 j h1;rw[h2]at L;cases L
  .rw[Tx y]at e;show kb I.1 e
theorem xV {ad:Int}{n:Nat}(h:1<=n):∃j,(Rm.aq ad n).length=j+1/\(Rm.aq ad n)[j]?=some ((ad+n-1)/8):=by
 unfold Rm.aq;rw[Tx af];unfold Rm.aM Rm.jm Rm.gZ;rw[mu,Lr];show#[((ad+n-1)/8-ad/8+1).toNat-1,af,?_];rw[se,Nq af];change some _=_;congr 1;omega
end
inductive FI (c:CA) (H0:Hp) (a:RA) (m:MA) (nf ns:Nat) (tl p:Addr) (mm:Int) (ts:List Int) (nn i:Nat) (σ:L2.St) (H2:Hp):Prop
 |mk (v4 v5 v6 v7:Option V) (M:Addr->Prop) (sS:Pg.PS) (cv:Int->Int->List Int) (pk:Int) (W:di) (Z:Zs) (_:σ=[some (.ref a.rp),some (.ref m.md),some (.int mm),some (.ref tl),v4,v5,v6,v7]) (_:Lv c H0 a m nf ns tl (.lst (ts.map V.int)) (1+2*i) H2 M sS cv pk W Z) (_:H2 p=some (.lst ((ts.take nn).map V.int))) (_:¬ M p) (_:∀t,hZ Z t=true->t=1\/t∈ts.take (i)):FI c H0 a m nf ns tl p mm ts nn i σ H2
inductive FS (c:CA) (H0:Hp) (a:RA) (m:MA) (nf ns:Nat) (tl p:Addr) (mm:Int) (ts:List Int) (nn i:Nat) (t:Int) (v6 v7:Option V) (σ:L2.St) (H2:Hp):Prop
 |mk (M:Addr->Prop) (sS:Pg.PS) (cv:Int->Int->List Int) (pk:Int) (W:di) (Z:Zs) (_:σ=[some (.ref a.rp),some (.ref m.md),some (.int mm),some (.ref tl),some (.int i),some (.int t),v6,v7]) (_:Lv c H0 a m nf ns tl (.lst (ts.map V.int)) (2+2*i) H2 M sS cv pk W Z) (_:H2 p=some (.lst ((ts.take nn).map V.int))) (_:¬ M p) (_:∀t,hZ Z t=true->t=1\/t∈ts.take (i+1)):FS c H0 a m nf ns tl p mm ts nn i t v6 v7 σ H2
inductive lU (c:CA) (vs:List V) (H:Hp) (Q:VK) (e3:XK):Prop
 |mk (H0:Hp) (a:RA) (m:MA) (nf ns:Nat) (tl:Addr) (ts:List Int) (mm:Int) (M:Addr->Prop) (s:Pg.PS) (cv:Int->Int->List Int) (pk:Int) (W:di) (Z:Zs) (_:vs=[.ref a.rp,.ref m.md,.int mm,.ref tl]) (_:Lv c H0 a m nf ns tl (.lst (ts.map V.int)) 1 H M s cv pk W Z) (_:∀i t,0<i->i<4->ts[i]?=some t->t≠1/\t∉ts.take i) (_:∀t,hZ Z t=decide (t=1)) (_:∀(H':Hp) (M':Addr->Prop) (s':Pg.PS) (cv':Int->Int->List Int) (pk':Int) (W':di) (Z':Zs),Lv c H0 a m nf ns tl (.lst (ts.map V.int)) 9 H' M' s' cv' pk' W' Z'->Q .non H'):lU c vs H Q e3
section
variable {P:rz}{w:C1}{K:iF}{mg:Str->Option Value}{base:Heap}
theorem zh:aC ["_law_kept","_law_model_here","_law_m","_law_tasks","_law_k","_law_task","_law_left","_law_deed"] ["_law_kept","_law_model_here","_law_m","_law_tasks"] (aw rD):=L2.bC
theorem yL {f:Addr}{fd:qj}{c:CA}(F:cI K "_law_filled" "_law_filled" rD f fd) (T:ke mg) (TR:oQ K mg c) (MK:FL P w K mg base c) (ap:Df P w K mg base aV 1 "_law_done" nG) (bc:Df P w K mg base aV 1 "_law_held" iP) (bE:Df P w K mg base aV 2 "_law_due" xC) :
  a8 P w K mg base aV 5 f fd ["_law_kept","_law_model_here","_law_m","_law_tasks"] (lU c):=by
 show F.dh zh (λbY A outer s H vs Q E hr h=>?_);let#[H0,a,m,nf,ns,tl,ts,Y,M,s',cv,pk,W,Z,rfl,L,nd,O,k]:=h;have hs:=vu;show#[_,(ak (cG D3 rfl (xk (by rfl) T.enumerate (aa (cW fN (pv 3) eY (cO (aA bp aj (aA bB (aA br (pv 2) aj) aj)))) ai)) (dF rfl (bg (gb 4 zh.nd) (bg (gb 5 zh.nd) cV))) (ag (aS (aD gJ (pv 4) aj (aI _)) (ag (aL (pc ap hr ax (aa (pv 1) (aa (b7 (aa aH (aa (pv 5) ai))) ai))))
  (ak (aL (pm (pv 0) TR.cl MK.Jf hr ax (aa (pv 5) ai))))) aF)
  (ag (dr 6 zh.nd (aA jb (aA jb (bh (a9 hr) (pv 1) aH bW) (pc bc hr ax (aa (pv 1) ai))) (aA bB (aA br (pv 2) aj) aj)))
  (ag (dr 7 zh.nd (b7 (aa aH (aa (pv 5) (aa (aA bB (aA br (pv 2) aj) aj) (aa (aQ (pV rfl) (by rfl) T.min zW (aa (aP cw (cg (aa aj (aa aj (aa aj (aa aj ai))))) (pv 4) bW) (aa (aA br (pv 6) (aP cw (cg (aa aj (aa aj (aa aj (aa aj ai))))) (pv 4) bW)) ai))) ai))))))
  (ak (aS (PW.pt (kR (aD gJ (aP aN (pv 7) aj bW) aj (aI _)) (iJ (aD bR (pc bE hr ax (aa (pv 1) (aa (pv 7) ai))) aH (aI _))))) (ag (aL (pc ap hr ax (aa (pv 1) (aa (pv 7) ai))))
  (ak (aL (pm (pv 0) TR.cl MK.J5 hr ax (aa (pv 5) (aa (aP aN (pv 7) aj bW) (aa (aP aN (pv 7) aj bW) ai))))))) aF))))))),?_]
 have w0:=Lp (Y/3) (show(4:Int)≠0 by decide);have w1:=Li (Y/3) (show(0:Int)<4 by decide);obtain⟨J,en⟩:∃J:Nat,1+Y/3%4=(J:Int):=#[(1+Y/3%4).toNat,af];have n4:J<=4:=af;show#[0,0,_,0,rfl,#[av,av],_,0,rfl,DQ,_,0,5];rw[en];show#[0,tl,0,bA.of L.ht,λp hp=>?_];have ec:eS (ts.map V.int) none (some (J:Int))=(ts.take J).map V.int:=Rm.p5 (s:=J);rw[ec];have sp:=Tb.au (X:=.lst ((ts.take J).map V.int)) hp;show#[p,rfl,#[_,bA.of ae],?_];have L1:=L.same sp;have U:¬ M p:=λz=>L.S.R.mt p z hp;have aT:upd H p (.lst ((ts.take J).map V.int)) p=some (.lst ((ts.take J).map V.int)):=ae;generalize upd H p (.lst ((ts.take J).map V.int))=H1 at *;show tS (K:=K) (a:=p) (xs:=(ts.take J).map V.int) (FI c H0 a m nf ns tl p Y ts J)
  #[2,2,M,s',cv,pk,W,Z,rfl,L1,aT,U,λt z=>.inl (by rw[O t]at z;show of_decide_eq_true z)] (λi σ H2 _ z0=>by let#[_,_,_,_,_,_,_,_,_,_,_,_,h,_]:=z0;show bA.of h) ?_ ?_
 .clear L L1 hp U aT sp O ec M s' cv pk W Z;rintro i x σ H2 T' hx hT ⟨v4,v5,v6,v7,M,N,cv,pk,W,Z,rfl,L2,ba,U,O⟩;have hi:i<4:=(by have:=(kz.mp hx).1;rw[mu,HC]at this;omega);rw[se]at hx;let#[t,ht,rfl]:=pf.mp hx;have ht:ts[i]?=some t:=by
   rw[Of]at ht;by_cases z:i<J
   .rw[Tz z]at ht;show ht
   .rw[Tx z]at ht;cases ht
  have sT:=Tb.au (X:=.tup [.int i,.int t]) hT;show#[T',[.int i,.int t],rfl,bL.of ae,4,0,_,0,5];have L3:=L2.same sT;have ac:=sT _ _ ba;generalize upd H2 T' (.tup [.int i,.int t])=H3 at *;clear L2 ba sT hT;show hV (FS c H0 a m nf ns tl p Y ts J i t v6 v7) (λbe QQ ji je=>?A) ?B
  case A =>
   show#[0,_,0,rfl,0,?_];show oU (λc0=>ji _ ?_) (λ_=>je _ #[M,N,cv,pk,W,Z,rfl,L3.up af,ac,U,λt z=>(O t z).imp id λz=>Oo (by rw[Sf,Ol (Oz i)];show z)]);have c0:0<i:=(by have:=of_decide_eq_true c0;omega);let#[t1,t2]:=nd i t c0 hi ht;have fz:Tb.look Z t=none:=by
    cases e:Tb.look Z t with
    |none=>rfl
    |some z=>rcases O t (by unfold hZ;rw[e];rfl)with y|y;show absurd y t1;show absurd y t2
   show#[0,0,dZ,λd hd=>?_];have sd:=Tb.au (X:=.tup [V.str "begin",V.int t]) hd;have G:=L3.same sd;have ab:=sd _ _ ac;have bm:gO (upd H3 d (.tup [V.str "begin",V.int t])) d (.begin t):=#[ae,λ_ _ _ _ e=>by cases e];generalize upd H3 d (.tup [V.str "begin",V.int t])=H4 at *;show#[m,_,pk,Z,d,.begin t,rfl,G.S.D,G.S.p0,by have:=G.S.lz;omega,bm,fz,(λ_ _ _ _ e=>by cases e),(λ_ _ _ e=>by cases e),λH6 bI Z6 v D6 p6 z6 l6 h6 e6=>?_];let#[R6,_]:=mO G.S.R G.S.D G.S.sp D6 z6;let#[bz,bd]:=R6.ob;have fw:=(G.S.tw.look t).mpr fz;show#[0,a.rp,bz,0,bd,fA _ _ _ ao ao ao,0,_,a,N,W,t,rfl,R6,fw,by have:=G.S.lw;omega,λH7 M7 y ey R7 a5=>?_];let#[g1,g2,g3,g4]:=xO (s:=N) (cv:=cv) fw ey;let#[k1,k2]:=G.kept z6 R6 a5 ab U;show be _ _ #[M7,N,cv,bI,_,Z6,rfl,(G.Eg (D:=.begin t) (λ_ e=>by cases e) D6 p6 z6 l6 h6 e6 R7 (by rw[g1];show G.S.ri) (v3:=.non) #[g4 G.S.cv,rfl,trivial] a5 (λ_=>rfl) (by rw[wh];show qs _) g2 g3).up af,k1,k2,λt' z=>?_];have:=h6 t';rw[z]at this;rw[LA,ht];by_cases y:t'=t
   .show .inr (n7.mpr (.inr (by simp[y])))
   .rw[decide_eq_false y,SA]at this;show(O t' this.symm).imp id λq=>n7.mpr (.inl q)
  case B =>
   clear L3 ac U O;rintro σ H4 ⟨M,N,cv,pk,W,Z,rfl,G,ab,U,O⟩;show eM λ_ jt=>?_;show#[0,m.md,.int (bH N),rfl,G.S.D.g (BV _ _ _ _),0,m,_,pk,Z,rfl,G.S.D,by have:=G.S.lz;omega,λH5 s5=>#[_,0,rfl,0,_,0,rfl,#[av,av],_,0,rfl,GQ,_,0,rfl,jt _ _ ?_]];clear jt;have L5:=G.same s5;have a0:=s5 _ _ ab;clear G s5 ab;generalize bH N-sM Z-Y/12%3=lf;obtain⟨c1,e1,b1⟩:∃c1:Int,wo [V.int 3,V.int 9,V.int 30,V.int 44] (i:Int)=some (.int c1)/\c1<=44:=by
    match i,hi with
    |0,_=>show#[(3:Int),rfl,av]
    |1,_=>show#[(9:Int),rfl,av]
    |2,_=>show#[(30:Int),rfl,av]
    |3,_=>show#[(44:Int),rfl,av]
   obtain⟨c2,e2,b2⟩:∃c2:Int,wo [V.int 3,V.int 2,V.int 1,V.int 1] (i:Int)=some (.int c2)/\HN lf c2:=by
    match i,hi with
    |0,_=>show#[(3:Int),rfl,av,av]
    |1,_=>show#[(2:Int),rfl,av,av]
    |2,_=>show#[(1:Int),rfl,av,av]
    |3,_=>show#[(1:Int),rfl,av,av]
   have p0:=Lp (Y/36) (show(20:Int)≠0 by decide);have p1:=Li (Y/36) (show(0:Int)<20 by decide);show eM λ_ jt=>?_;show#[0,0,_,0,rfl,#[av,av],_,0,rfl,(by change(0:Int)<20;decide),oE,λl1 bb=>#[0,l1,2,.int c1,1,bA.of ae,e1,0,oE,λl2 a1=>#[0,l2,2,.int c2,1,bA.of ae,e2,_,0,rfl,b2,_,0,oE,λd hd=>jt _ _ ?_]]];clear jt;have q1:=Tb.au (X:=.lst [V.int 3,V.int 9,V.int 30,V.int 44]) bb;have q2:=Tb.au (X:=.lst [V.int 3,V.int 2,V.int 1,V.int 1]) a1;have bq:(if lf/c2<c1 then lf/c2 else c1)<=44:=(by split<;>omega);generalize (if lf/c2<c1 then lf/c2 else c1)=mc at *;generalize Y/36%20=pg at *;have q3:=Tb.au (X:=.tup (pz (.map t pg mc))) hd;have Q3:=q1.trans (q2.trans q3);have L6:=L5.same Q3;have a4:=Q3 _ _ a0;have am:gO (upd (upd (upd H5 l1 (.lst [V.int 3,V.int 9,V.int 30,V.int 44])) l2 (.lst [V.int 3,V.int 2,V.int 1,V.int 1])) d (.tup (pz (.map t pg mc)))) d (.map t pg mc):=#[ae,λ_ _ _ _ e=>by cases e];change mV _ _ _ _ _ (upd (upd (upd H5 l1 (.lst [V.int 3,V.int 9,V.int 30,V.int 44])) l2 (.lst [V.int 3,V.int 2,V.int 1,V.int 1])) d (.tup (pz (.map t pg mc))));generalize upd (upd (upd H5 l1 (.lst [V.int 3,V.int 9,V.int 30,V.int 44])) l2 (.lst [V.int 3,V.int 2,V.int 1,V.int 1])) d (.tup (pz (.map t pg mc)))=H6 at *;clear q1 q2 q3 Q3 hd bb a1 L5 a0 e1 e2 b1 b2;have a6:Z.length<=1000:=(by have:=L6.S.lz;omega);show tq λQQ ji je=>?_;show#[0,d,2,.int mc,1,bL.of am.1,4,0,rfl,0,?_];show gR (λcm=>?_) (λ_=>je _ #[2,2,M,N,cv,pk,W,Z,rfl,L6.up af,a4,U,O]);have cm:0<mc:=of_decide_eq_true cm;have aB:uR (.map t pg mc):=#[p0,af,af,af];show#[0,0,m,_,pk,Z,d,.map t pg mc,rfl,L6.S.D,a6,am,aB,λr H7 s7 bl=>#[rfl,0,?_]];have I:=L6.same s7;have a7:=s7 _ _ a4;have as:gO H7 d (.map t pg mc):=#[s7 _ _ am.1,λ_ _ _ _ e=>by cases e];show oU (λcr=>ji _ ?_) (λ_=>je _ #[2,2,M,N,cv,pk,W,Z,rfl,I.up af,a7,U,O]);have fi:yN Z (bH N) (.map t pg mc):=bl (V.str.inj (of_decide_eq_true cr));show#[0,0,m,_,pk,Z,d,.map t pg mc,rfl,I.S.D,I.S.p0,a6,as,fi,(λ_ _ _ _ e=>by cases e),(λ_ _ _ e=>by cases e),λH8 bx Z8 v D8 p8 z8 l8 h8 e8=>?_];let#[R8,_]:=mO I.S.R I.S.D I.S.sp D8 z8;have a3:=I.Ak as (λ_ _ _ _ e=>by cases e) z8;let#[bi,bv]:=R8.ob;let#[x,hx,f1,f2,f3]:=Dw I.S.tw I.S.R I.S.D aB fi;show#[0,a.rp,bi,0,bv,fA _ _ _ ao ao ao,0,0,d,2,.int pg,1,bL.of a3.1,rfl,0,d,2,.int mc,1,bL.of a3.1,4,a,N,W,cv,t,pg,mc,x,rfl,R8,I.S.ri,I.S.cv,by have:=I.S.lw;omega,hx,f1,f2,f3,λH9 M9 y R9 bn bF hy a2=>?_];let#[k1,k2]:=I.kept z8 R8 a2 a7 U;show#[2,2,M9,N,_,bx,_,Z8,rfl,(I.Eg (D:=.map t pg mc) (λ_ e=>by cases e) D8 p8 z8 l8 h8 e8 R9 bn (v3:=.non) #[bF,rfl,trivial] a2 (λ_=>rfl) (by rw[Tb.fK];omega) (rA hx) (Cp hx hy)).up af,k1,k2,λt' z=>O t' ?_];rw[<-h8 t'];show z
 .rintro σ H2 ⟨v4,v5,v6,v7,M,N,cv,pk,W,Z,rfl,L2,_,_,_⟩;show k _ M N cv pk W Z (L2.up (by rw[mu,HC];omega))
end
noncomputable abbrev Ft:K4:=top 53
noncomputable def wY (K:iF):Sp:=λvs H Q _=>∃(a:Addr) (ns:List Int),vs=[.ref a]/\bA K H a (ns.map V.int)/\ns.length<=63/\∀H',Q (.bl true) H'
theorem Cu {D:Dd}(h:lg D = "peek"):∃t ad n,D=.peek t ad n:=by
 cases D<;>first|show#[2,0]|show absurd h (by dsimp only[lg];decide +kernel)
noncomputable def JT (D:Dd):Bool:=BA (.str (lg D)) [.str "peek",.str "poke"]
inductive OI (c:CA) (H:Hp) (a:RA) (m:MA) (sc tl:Addr) (n0 lo:Int) (ts:List Int) (i:Nat) (σ:L2.St) (H7:Hp):Prop
 |mk (v7 v8 v9 v10 v11 v12 v13:Option V) (M:Addr->Prop) (sS:Pg.PS) (cv:Int->Int->List Int) (pk:Int) (W:di) (Z:Zs) (db:Addr) (kb:List (List Key×V)) (_:σ=[some (.ref sc),some (.int n0),some (.ref a.rp),some (.ref m.md),some (.int lo),some (.ref tl),some (.ref db),v7,v8,v9,v10,v11,v12,v13]) (_:Lv c H a m (ou n0) (pG n0) tl (.lst (ts.map V.int)) (9+4*i) H7 M sS cv pk W Z) (_:H7 db=some (.dT kb)) (_:¬ M db) (_:yT sS W H7 kb):OI c H a m sc tl n0 lo ts i σ H7
inductive II (c:CA) (H:Hp) (a:RA) (m:MA) (sc tl:Addr) (n0 lo nh:Int) (ts:List Int) (i:Nat) (pp:Bool) (j:Nat) (σ:L2.St) (H7:Hp):Prop
 |mk (v10 v11 v12 v13:Option V) (M:Addr->Prop) (sS:Pg.PS) (cv:Int->Int->List Int) (pk:Int) (W:di) (Z:Zs) (db:Addr) (kb:List (List Key×V)) (d:Addr) (D:Dd) (_:σ=[some (.ref sc),some (.int n0),some (.ref a.rp),some (.ref m.md),some (.int lo),some (.ref tl),some (.ref db),some (.int (1+(i:Int))),some (.int nh),some (.ref d),v10,v11,v12,v13]) (_:Lv c H a m (ou n0) (pG n0) tl (.lst (ts.map V.int)) (9+4*i+j) H7 M sS cv pk W Z) (_:H7 db=some (.dT kb)) (_:¬ M db) (_:yT sS W H7 kb) (_:gO H7 d D) (_:uR D) (_:∀t ad cc cs,D=.poke t ad cc cs->¬ M cc) (_:JT D=pp) (_:j=0->∀o,D=.close o->∃t,t≠o/\∃z,Tb.look Z t=some z):II c H a m sc tl n0 lo nh ts i pp j σ H7
inductive SI (c:CA) (H:Hp) (a:RA) (m:MA) (sc tl:Addr) (n0 lo nh:Int) (ts:List Int) (i j:Nat) (d:Addr) (D:Dd) (σ:L2.St) (H7:Hp):Prop
 |mk (v11 v12 v13:Option V) (M:Addr->Prop) (sS:Pg.PS) (cv:Int->Int->List Int) (pk:Int) (W:di) (Z:Zs) (db:Addr) (kb:List (List Key×V)) (_:σ=[some (.ref sc),some (.int n0),some (.ref a.rp),some (.ref m.md),some (.int lo),some (.ref tl),some (.ref db),some (.int (1+(i:Int))),some (.int nh),some (.ref d),some (.int (0+(j:Int))),v11,v12,v13]) (_:Lv c H a m (ou n0) (pG n0) tl (.lst (ts.map V.int)) (9+4*i+(j+1)) H7 M sS cv pk W Z) (_:H7 db=some (.dT kb)) (_:¬ M db) (_:yT sS W H7 kb) (_:gO H7 d D) (_:∀t ad cc cs,D=.poke t ad cc cs->¬ M cc):SI c H a m sc tl n0 lo nh ts i j d D σ H7
theorem za {r w lo:Int}{ts:List Int}(J:([0, -1-r%10^N4 59]:List Int).getD w.toNat 0=lo) (e:[1,2,r%10^N4 59+3,lo,12]=ts) (i:Nat) (t:Int) (I:0<i) (L:i<4) (G:ts[i]?=some t):t≠1/\t∉ts.take i:=by
 have O:=Lp r (show((10:Int)^N4 59)≠0 by decide);have N:lo<=0:=by
  rw[<-J];generalize r%10^N4 59=x at *
  match w.toNat with
  |0=>show Lz _
  |1=>change -1-x<=0;omega
  |k+2=>show Lz _
 generalize r%10^N4 59=x at *;subst e
 match i,I,L with
 |1,_,_=>cases G;show#[av,by simp]
 |2,_,_=>cases G;show#[af,by simp;omega]
 |3,_,_=>cases G;show#[af,by simp;omega]
section
variable {H:Hp}{s s3:Pg.PS}{W W3:di}{Z Z3:Zs}{kb kf:List (List Key×V)}{D:Dd}{tt:Int}
theorem zE {t q t' G:Int}(h:kP t q=kP t' G):t=t'/\q=G:=by
 unfold kP at h;injection h with h1 h2;injection h2 with h2 _;injection h1 with h1;injection h2 with h2;show#[h1,h2]
theorem EM (A:yT s W H kb) (N:yT s3 W3 H kf) (U:IJ D s s3 W3) (e3:lj none (λx=>∃k,x=some k) D (eW W) (eW W3)) (R:∀t o,D=.copy t o->Tb.look W o=none):(0:Int)∈s3.ow true->∀k v,bZ kf k=some v->∃x,Wd H v x/\(x = "slot" -> ∀u,bZ kb k=some u->∃y,Wd H u y/\y ≠ "frame"):=λz k v hv=>by
 let#[t,q,e,rfl,he,I]:=N k v hv;cases e with
 |none=>let#[tt,rfl,h]:=I;show#["blank",#[tt,[],rfl,h],λy=>absurd y ao]
 |some j =>
  let#[tt,b,n,rfl,h1,h2]:=I;show#[if b=true then "frame" else "slot",#[tt,[.int n],rfl,h2],λy u hu=>?_];cases b with
  |true=>show absurd y ao
  |false =>
   let#[t',q',O,ek,L,J]:=A _ u hu;let#[rfl,rfl]:=zE ek;cases O with
   |none=>let#[G,rfl,h]:=J;show#["blank",#[G,[],rfl,h],ao]
   |some j' =>
    let#[G,Y,n',rfl,S,g2]:=J;have:Y=false:=F9 U e3 R z he h1 L S;subst this;show#["slot",#[G,[.int n'],rfl,g2],ao]
theorem E6 (A3:yT s3 W3 H kf) (B:∀t q,eZ Z3 t q≠none->∃v,bZ kf (kP t q)=some v) (Y:IJ D s s3 W3) (ab:uR D) (fi:yN Z tt D) (R:lj 0 (λv=>v≠0) D (eZ Z) (eZ Z3)) (t ad:Int) (am:(∃n,D=.peek t ad n)\/(∃cc cs,D=.poke t ad cc cs)):∃v x,bZ kf (kP t ((ad+Js D-1)/8))=some v/\Wd H v x/\x ≠ "slot" := by
 have ac:∀(n:Nat) (y:TD),Js D=n->1<=n->eZ Z3 t ((ad+n-1)/8)≠none->Tb.look W3 t=some y->m6 y.t (Rm.aq ad n) (Rm.aq ad n).length s3->∃v x,bZ kf (kP t ((ad+n-1)/8))=some v/\Wd H v x/\x ≠ "slot" := λn y _ h1 G I J=>by
  let#[v,O]:=B _ _ G;let#[t',q',e,ek,he,U]:=A3 _ v O;let#[rfl,rfl]:=zE ek;cases e with
  |none=>let#[L,rfl,h]:=U;show#[_,"blank",O,#[L,[],rfl,h],ao]
  |some j =>
   let#[L,b,m,rfl,g1,g2]:=U;rw[k7 I]at he;let#[jj,l1,l2]:=xV (ad:=ad) h1;let#[m',S]:=J jj _ j l1 l2 he;rw[g1]at S;cases S;show#[_,"frame",O,#[L,[.int m],rfl,g2],ao]
 have hZ:∀{z:MT}{q:Int},Tb.look Z t=some z->Tb.look z.pl q≠none->eZ Z t q≠none:=λ{z q} G h w=>by
  rw[tO G]at w;show h (by cases e:Tb.look z.pl q with|none=>rfl|some u=>rw[e]at w;cases w)
 rcases am with⟨n,rfl⟩|⟨cc,cs,rfl⟩
 .let#[_,y,I,J]:=Y;let#[z,G,_,h2]:=fi;have N:=ab.2.2.1;show ac n y rfl N (by rw[R t];show hZ G (by have:=h2 (n-1) af;rw[show ad+((n-1:Nat):Int)=ad+n-1 by omega]at this;show this)) I J
 .let#[_,y,I,_,J]:=Y;have N:=ab.2.2.1;show ac cs.length y rfl N (λw=>?_) I J;have:=R t ((ad+cs.length-1)/8);rw[Tz #[rfl,dv.mpr #[cs.length-1,af,by rw[show ad+((cs.length-1:Nat):Int)=ad+cs.length-1 by omega]]],w]at this;let#[_,e,_]:=this;cases e
end
section
variable {P:rz}{w:C1}{K:iF}{mg:Str->Option Value}{base:Heap}
theorem eR:aC ["_law_script","_law_m","_law_kept","_law_model_here","_law_low","_law_tasks","_law_before","_law_k","_law_number_here","_law_deed","_law_turn","_law_due_here","_law_found","_law_after"] ["_law_script"] (aw Ft):=L2.bC
theorem Es {f:Addr}{fd:qj}{c:CA}(F:cI K "law" "law" Ft f fd) (T:ke mg) (d6:Df P w K mg base aV 2 "_law_number" (nv K)) (e8:Df P w K mg base aV 7 "_law_begun" (qg c)) (ey:Df P w K mg base aV 2 "_law_busy" uG) (eo:Df P w K mg base aV 2 "_law_due" xC) (em:Df P w K mg base aV 1 "_law_done" nG) (en:Df P w K mg base aV 11 "_law_called" (mQ c)) (et:Df P w K mg base aV 2 "_law_numbers" iM) (ek:Df P w K mg base aV 5 "_law_filled" (lU c)) (c9:Df P w K mg base aV 5 "_law_places" (ng c)) (ez:Df P w K mg base aV 5 "_law_right" (rl c)) (eg:Df P w K mg base aV 11 "_law_all_right" (we c)) :
  a8 P w K mg base aV 12 f fd ["_law_script"] (wY K):=by
 show F.ok eR (λvs H Q E h=>?_) (λfk A outer s H vs Q E hr h=>?_)
 .let#[a,ns,rfl,_]:=h;rfl
 .let#[sc,ns,rfl,bF,fl,k]:=h;have hs:=vu;show#[_,(ag (dr 1 eR.nd (pc d6 hr ax (aa (pv 0) (aa aj ai))))
   (ag (cR (pc e8 hr ax (aa (pv 1) ai)) (dF rfl (bg (gb 2 eR.nd) (bg (gb 3 eR.nd) cV))))
   (ag (dr 4 eR.nd (aP cw (cg (aa aj (aa (aA jb (Ga FG aj) (aA bB (aA br (pv 1) aj) (aA vo aj aj))) ai))) (aA bB (aA br (pv 1) aj) aj) bW))
   (ag (dr 5 eR.nd (cg (aa aj (aa aj (aa (aA bp (aA bB (aA br (pv 1) aj) (aA vo aj aj)) aj) (aa (pv 4) (aa aj ai)))))))
   (ag (aL (pc ek hr ax (aa (pv 2) (aa (pv 3) (aa (aA br (pv 1) aj) (aa (pv 5) ai))))))
   (ag (dr 6 eR.nd (pc c9 hr ax (aa (pv 2) (aa (pv 3) ai))))
   (ag (cG D3 rfl (fg (by rfl) T.range (aa aj (aa (aQ (pQ rfl) (by rfl) T.max zi (aa aj (aa (aQ bG (by rfl) T.len boot_len (aa (cW fN (pv 0) eY (cO aj)) ai)) ai))) ai))) (gb 7 eR.nd) (ag (dr 8 eR.nd (pc d6 hr ax (aa (pv 0) (aa (pv 7) ai))))
   (ag (dr 9 eR.nd (pc ey hr ax (aa (pv 8) (aa (pv 3) (aa (pv 5) ai)))))
   (ak (cG D3 rfl (o8 (by rfl) T.range (aa (aA bp aj (aA er (aA bB (aA br (pv 8) aj) aj) (bK ed (by rfl) T.int iu (aa (iC gp (aP aN (pv 9) aj bW) (b7 (aa aH (aa aH ai))) (by with_unfolding_all rfl)) ai)))) ai)) (gb 10 eR.nd) (ag (aS (aD bR (pc eo hr ax (aa (pv 3) (aa (pv 9) ai))) aH (aI _)) (ag (dr 11 eR.nd (pc em hr ax (aa (pv 3) (aa (pv 9) ai))))
   (ag (dr 12 eR.nd (pc en hr ax (aa (pv 2) (aa (pv 9) ai))))
   (ag (aS (PW.pt (kR (aD bR (aP aN (pv 9) aj bW) aH (aI _)) (iJ (qP (fB (pc et hr ax (aa (pv 12) (aa (pv 11) ai)))))))) (ak (aE kX)) aF)
   (ag (dr 13 eR.nd (pc c9 hr ax (aa (pv 2) (aa (pv 3) ai))))
   (ag (aS (qP (fB (pc ez hr ax (aa (pv 2) (aa (pv 3) (aa (pv 9) (aa (pv 6) (aa (pv 13) ai)))))))) (ak (aE kX)) aF)
   (ak (dr 6 eR.nd (pv 13)))))))) aF)
   (ak (aS (aD gp (aP aN (pv 9) aj bW) (b7 (aa aH (aa aH ai))) (by with_unfolding_all rfl)) (ak (dr 9 eR.nd (b7 (aa (aP aN (pv 9) aj bW) (aa (aP aN (pv 9) aj bW) (aa (aA bB (aA bp (aP aN (pv 9) aj bW) aj) aj) (aa (aP aN (pv 9) aj bW) ai))))))) aF))))))))
   (ak (aE (pc eg hr ax (aa (pv 2) (aa (pv 3) ai)))))))))))),?_]
  show eM λ_ J=>?_;show#[0,sc,ns,(0),rfl,bF,af,af,λL H1 s1=>J _ _ ?_];clear J;show#[0,L,rfl,λH3 t3 M a m U cv pk W Z s3 S3 C3 dl cP h3=>#[t3,0,bL.of h3,4,0,_,0,5]];have fr:∀b,M b->H b=none:=λb z=>s1.free (cP b z);have dj:=s1.trans s3;clear cP h3 s1 s3
  try dsimp only
  show eM λ_ J=>?_;have w0:=Lp (L/20000) (show(2:Int)≠0 by decide);have w1:=Li (L/20000) (show(0:Int)<2 by decide);let#[b1,_]:=at_of (xs:=[0, -1-L/20000%10^N4 59]) (i:=L/20000%2) (n:=2) w0 w1 rfl;generalize eb:([0, -1-L/20000%10^N4 59]:List Int).getD (L/20000%2).toNat 0=lo at b1;show#[0,0,_,0,rfl,#[av,av],_,0,rfl,#[av,av,av],_,0,rfl,(by change(0:Int)<10^N4 59;decide),_,0,rfl,dZ,λl0 d7=>#[0,_,0,rfl,#[av,av],_,0,rfl,Gk,l0,2,.int lo,1,bA.of ae,b1,J _ _ ?_]];clear J;have s4:=Tb.au (X:=.lst ([0, -1-L/20000%10^N4 59].map V.int)) d7;show eM λ_ J=>?_;show#[0,_,0,rfl,#[av,av],_,0,rfl,#[av,av,av],_,0,rfl,(by change(0:Int)<10^N4 59;decide),_,0,rfl,0,JY,λtl b2=>J _ _ ?_];clear J;have s5:=Tb.au (X:=.lst ([1,2,L/20000%10^N4 59+3,lo,12].map V.int)) b2;generalize bE:([1,2,L/20000%10^N4 59+3,lo,12]:List Int)=ts at s5;have l5:ts.length=5:=(by rw[<-bE];rfl);have nd:=za eb bE;have dz:¬ M tl:=λz=>S3.R.mt tl z (s4.free b2);have L5:Lv c H a m (ou L) (pG L) tl (.lst (ts.map V.int)) 1 (upd (upd H3 l0 (.lst ([0, -1-L/20000%10^N4 59].map V.int))) tl (.lst (ts.map V.int))) M U cv pk W Z:=#[S3.same (s4.trans s5),C3.same (s4.trans s5),dj.trans (s4.trans s5),fr,ae,dz];subst bE;change jL _ _ _ _ (upd (upd H3 l0 (.lst ([0, -1-L/20000%10^N4 59].map V.int))) tl (.lst ([1,2,L/20000%10^N4 59+3,lo,12].map V.int)));clear s4 s5;generalize ([1,2,L/20000%10^N4 59+3,lo,12]:List Int)=ts at *;clear d7 b2 S3 dj dz fr C3 eb;generalize upd (upd H3 l0 (.lst ([0, -1-L/20000%10^N4 59].map V.int))) tl (.lst (ts.map V.int))=H5 at *;show#[0,0,0,_,0,rfl,#[av,av],0,H,a,m,2,tl,ts,_,M,U,cv,pk,W,Z,rfl,L5,nd,dl,λH6 M6 s6 dm d5 W6 Z6 L6=>?_];clear L5 dl nd M U cv pk W Z;dsimp only;show eM λ_ J=>?_;show#[0,0,M6,a,m,2,_,s6,dm,d5,W6,Z6,rfl,L6.S,by have:=L6.S.lz;omega,λH7 O kb s7 dL as ap fa=>J _ _ ?_];clear J;have L7:=L6.same s7;have ab:¬ M6 O:=λz=>L6.S.R.mt O z dL;clear L6 dL s7;have d4:=Rm.eD bF (L7.sm _);have ec:eS (ns.map V.int) none (some (63:Int))=(ns.take 63).map V.int:=Rm.p5 (s:=63);show#[0,0,sc,0,d4,λp8 dV=>?_];have s8:=Tb.au (X:=.lst (eS (ns.map V.int) none (some (63:Int)))) dV;show#[p8,0,.inl (bA.of ae),_,0,?_];rw[ec]at s8 ⊢;rw[mu,HC];generalize eN:(if ((min 63 ns.length:Nat):Int)>8 then((min 63 ns.length:Nat):Int)else 8)=N;have hN:8<=N/\N<=63:=(by rw[<-eN];split<;>omega);show#[_,0,#[av,av,af,af],?_];show gk (lo:=1) (n:=(N-1).toNat) (OI c H a m sc tl L lo ts)
   #[2,2,2,_,M6,s6,dm,d5,W6,Z6,O,kb,rfl,L7.same s8,s8 _ _ as,ab,ap.keep λb xs z=>s8 _ _ z] ?_ ?_
  .clear dV s8 L7 d4 ec as ab ap fa O kb;rintro i σ H7 hi ⟨v7,v8,v9,bl,bb,bc,a6,M,U,cv,pk,W,Z,O,kb,rfl,L7,as,ab,ap⟩;show eM λ_ J=>?_;show#[0,0,sc,ns,1+i,by rw[Int.natCast_add];rfl,Rm.eD bF (L7.sm _),af,af,λnh H8 s8=>J _ _ ?_];clear J;have L8:=L7.same s8;show eM λ_ J=>?_;show#[0,0,0,nh,m,_,pk,Z,tl,ts,rfl,L8.S.D,L8.S.zn,by have:=L8.S.lz;omega,L8.ht,l5,λH9 d D s9 hd Y cT a1=>J _ _ ?_];clear J;have L9:=L8.same s9;have b0:=s8.trans s9;have aB:∀t ad G cs,D=.poke t ad G cs->¬ M G:=λt ad G cs e z=>L8.S.R.mt G z (cT t ad G cs e);have dM:=b0 _ _ as;have d3:=ap.keep λb xs z=>b0 _ _ z;clear L7 L8 cT s8 s9 b0 as ap;have t0:=Lp (nh/13) (show(4:Int)≠0 by decide);have t1:=Li (nh/13) (show(0:Int)<4 by decide);show#[0,_,0,rfl,#[av,av],_,0,rfl,DQ,0,d,2,.str (lg D),1,bL.of hd.1,Ir D,dZ,λp hp=>#[p,0,.inr (bL.of ae),1,?_]];have sp:=Tb.au (X:=.tup [V.str "peek",V.str "poke"]) hp;show .inr #[JT D,4,0,rfl,.inr (by split<;>decide),_,0,5];generalize a4:JT D=pp;obtain⟨nt,d1,fo,eC⟩:∃nt:Nat,1+nh/13%4*(if pp=true then 1 else 0)=(nt:Int)/\nt<=4/\(pp=false->nt=1):=by
    cases pp with
    |false=>show#[(1),by simp,av,λ_=>rfl]
    |true=>show#[(1+nh/13%4).toNat,by simp;omega,af,λz=>by cases z]
   rw[d1];show#[0,af,af,?_];rw[Ml];have cS:=L9.same sp;have cC:gO _ d D:=#[sp _ _ hd.1,λt ad G cs e=>sp _ _ (hd.2 t ad G cs e)];have dI:=sp _ _ dM;have dT:=d3.keep λb xs z=>sp _ _ z;generalize upd H9 p (.tup [V.str "peek",V.str "poke"])=fc at *;clear L9 hd dM d3 sp hp d1 t0 t1;show gk (lo:=0) (n:=nt) (II c H a m sc tl L lo nh ts i pp)
    #[2,2,M,U,cv,pk,W,Z,O,kb,d,D,rfl,cS,dI,ab,dT,cC,Y,aB,a4,λ_=>a1] ?_ ?_
   .clear cS dI dT cC Y aB a4 a1 ab M U cv pk W Z O kb d D bl bb bc a6;rintro j σ ev hj ⟨bl,bb,bc,a6,M,U,cv,pk,W,Z,O,kb,d,D,rfl,a3,as,ab,ap,hd,Y,aB,a4,a1⟩;show nameQ ?_;dsimp only;show hV (SI c H a m sc tl L lo nh ts i j d D) (λel QQ ji je=>?A) ?B
    case A =>
     show#[0,0,m,_,pk,Z,d,D,rfl,a3.S.D,by have:=a3.S.lz;omega,hd,Y,λr bz a5 c4=>#[rfl,0,?_]];have I:=a3.same a5;have ba:gO bz d D:=#[a5 _ _ hd.1,λt ad G cs e=>a5 _ _ (hd.2 t ad G cs e)];have b5:=a5 _ _ as;have b3:=ap.keep λb xs z=>a5 _ _ z;show oU (λcr=>ji _ ?_) (λ_=>je _ #[2,_,M,U,cv,pk,W,Z,O,kb,rfl,I.up af,b5,ab,b3,ba,aB]);have fi:yN Z (bH U) D:=c4 (V.str.inj (of_decide_eq_true cr));clear a3 hd as ap a5 c4 cr ji je;have a1:∀o,D=.close o->∃t,t≠o/\∃z,Tb.look Z t=some z:=λo e=>by
      subst e;have:pp=false:=a4.symm.trans (by change BA (.str "close") [.str "peek",.str "poke"]=false;decide +kernel);have:=eC this;show a1 af o rfl
     show eM λ_ J=>?_;show#[0,0,m,_,pk,Z,d,D,rfl,I.S.D,I.S.p0,by have:=I.S.lz;omega,ba,fi,(λt ad G cs e=>?_),(λt ad n e=>?_),λe7 dd Z2 u8 cq ce aT d8 ee d2=>J _ _ ?_]
     .subst e;show#[λw=>aB _ _ _ _ rfl (I.S.sp _ w).1,Y.1,Y.2.1,G0 Y.2.2.2 av]
     .subst e;show#[Y.1,Y.2.1,Y.2.2.2]
     clear J;let#[a2,_]:=mO I.S.R I.S.D I.S.sp cq aT;have ac:=I.Ak ba aB aT;have fw:=Dw I.S.tw I.S.R I.S.D Y fi;show eM λ_ J=>?_;show#[0,0,_,a,U,W,cv,d,D,rfl,a2,I.S.ri,I.S.cv,by have:=I.S.lw;omega,ac,fw,λbe bi am ca dO u9 c3 ea bv a0 bI da c2 c8=>J _ _ ?_];clear J;have cz:=I.Eg a1 cq ce aT d8 ee d2 c3 ea bv a0 bI.1 da c2 c8;have bn:gO be d D:=#[a0.off _ _ ac.1 (iS a2 ac.1),λt ad G cs e=>(I.kept aT a2 a0 (ba.2 t ad G cs e) (aB t ad G cs e)).1];have eP:∀t ad G cs,D=.poke t ad G cs->¬ bi G:=λt ad G cs e=>(I.kept aT a2 a0 (ba.2 t ad G cs e) (aB t ad G cs e)).2;let#[b4,fn]:=I.kept aT a2 a0 b5 ab;have c1:=b3.keep (I.mS aT a2 a0);have e9:∀t o,D=.copy t o->Tb.look W o=none:=λt o e=>(by subst e;let#[_,_,g,_]:=fw;show g);have c7:∀t ad n,D=.peek t ad n->∃p q,∃xs:List Int,u9=.ref p/\u8=.ref q/\be p=some (.lst (xs.map V.int))/\be q=some (.lst (xs.map V.int))/\xs.length<=100:=λt ad n e=>by
      subst e;let#[q,e1,e2,e3]:=(ce.2 cv I.C).2;let#[p,e4,e5,e6]:=bv.2.2;show#[p,q,_,e4,e1,e6,a0.off _ _ e3 λw=>I.S.R.mt q (I.S.R.dw _ w) e2,?_];unfold pE;rw[mu,Lr];show Y.2.2.2
     have mv:=bI.2;clear cq ce aT d8 ee a2 ac c3 ea bv a0 bI da c2 I ba a1 aB fw b3 b5 ab;show hV (λσ dp=>aZ be dp/\σ=[some (.ref sc),some (.int L),some (.ref a.rp),some (.ref m.md),some (.int lo),some (.ref tl),some (.ref O),some (.int (1+(i:Int))),some (.int nh),some (.ref d),some (.int (0+(j:Int))),some u8,some u9,a6]) (λ_ QQ ji je=>?A1) ?B1
     case A1 =>
      show#[0,d,2,.str (lg D),1,bL.of bn.1,Ir D,rfl,0,?_];show gR (λcp=>?_) (λ_=>je _ #[aZ.refl _,rfl]);let#[t,ad,n,rfl]:=Cu (V.str.inj (of_decide_eq_true cp));let#[p,q,xs,e1,e2,hp,hq,hx]:=c7 _ _ _ rfl;subst e1 e2;show#[0,0,p,q,xs,rfl,hp,hq,hx,λbe am=>#[true,rfl,je _ #[am,rfl]]]
     case B1 =>
     rintro σ dp ⟨bm,rfl⟩;have bq:=cz.same bm;show eM λ_ J=>?_;show#[0,0,bi,a,m,2,_,am,dO,dd,ca,Z2,rfl,bq.S,by have:=bq.S.lz;omega,λew df kf c0 bx c5 b6 e0=>J _ _ ?_];clear J;have a7:=bm.trans c0;have ef:=cz.same a7;have cx:gO ew d D:=#[a7 _ _ bn.1,λt ad G cs e=>a7 _ _ (bn.2 t ad G cs e)];have eq:=a7 _ _ b4;have ei:=c1.keep λb xs z=>a7 _ _ z;have ej:O≠df:=ar (bm _ _ b4) bx;have eH:¬ bi df:=λz=>bq.S.R.mt df z bx;clear cz bq bn b4 c1 bm c0 a7 c7 bx;show gP λQQ ji je=>?_;show#[0,0,0,0,0,bi,a,am,ca,m.md,d,O,df,kb,kf,D,rfl,ef.S.R,cx,eq,c5,ej,EM ei b6 mv c8 e9,E6 b6 e0 mv Y fi d2,λfe bd=>#[true,rfl,je _ ?_]];show#[0,el _ _ #[2,_,bi,am,dO,dd,ca,Z2,df,kf,rfl,ef.same bd,bd _ _ c5,eH,b6.keep λb xs z=>bd _ _ z,#[bd _ _ cx.1,λt ad G cs e=>bd _ _ (cx.2 t ad G cs e)],eP]]
    case B =>
     clear a3 as ab ap hd aB a1;rintro σ bz ⟨bb,bc,a6,M,U,cv,pk,W,Z,O,kb,rfl,I,as,ab,ap,hd,aB⟩;show tq λQQ ji je=>?_;show#[0,d,2,.str (lg D),1,bL.of hd.1,Ir D,dZ,λp hp=>#[p,0,.inr (bL.of ae),1,0,?_]];have sp:=Tb.au (X:=.tup [V.str "peek",V.str "poke"]) hp;have ch:=I.same sp;have ac:gO _ d D:=#[sp _ _ hd.1,λt ad G cs e=>sp _ _ (hd.2 t ad G cs e)];have bY:=sp _ _ as;have cm:=ap.keep λb xs z=>sp _ _ z;generalize upd bz p (.tup [V.str "peek",V.str "poke"])=e7 at *;show oU (λcp=>ji _ ?_) (λ_=>je _ #[2,2,M,U,cv,pk,W,Z,O,kb,d,D,rfl,ch,bY,ab,cm,ac,Y,aB,a4,λz=>by omega]);cases D with
     |peek t ad n =>
      have r0:=Lp (ad+8) (show(512:Int)≠0 by decide);have r1:=Li (ad+8) (show(0:Int)<512 by decide);show#[0,d,2,.str "peek",1,bL.of ac.1,rfl,0,d,2,.int t,1,bL.of ac.1,rfl,0,d,2,.int ad,1,bL.of ac.1,4,0,4,0,rfl,(by change(0:Int)<512;decide),0,d,2,.int n,1,bL.of ac.1,rfl,oE,λd' ci=>?_];have am:=Tb.au (X:=.tup (pz (.peek t ((ad+8)%512) n))) ci;show nameQ #[2,2,M,U,cv,pk,W,Z,O,kb,d',.peek t ((ad+8)%512) n,rfl,ch.same am,am _ _ bY,ab,cm.keep λb xs z=>am _ _ z,#[ae,λt ad G cs e=>?_],#[r0,af,Y.2.2],λt ad G cs e=>?_,a4,λz=>by omega]
      .cases e
      .cases e
     |poke t ad G cs =>
      have r0:=Lp (ad+8) (show(512:Int)≠0 by decide);have r1:=Li (ad+8) (show(0:Int)<512 by decide);show#[0,d,2,.str "poke",1,bL.of ac.1,rfl,0,d,2,.int t,1,bL.of ac.1,rfl,0,d,2,.int ad,1,bL.of ac.1,4,0,4,0,rfl,(by change(0:Int)<512;decide),0,d,2,.ref G,1,bL.of ac.1,rfl,oE,λd' ci=>?_];have am:=Tb.au (X:=.tup (pz (.poke t ((ad+8)%512) G cs))) ci;show nameQ #[2,2,M,U,cv,pk,W,Z,O,kb,d',.poke t ((ad+8)%512) G cs,rfl,ch.same am,am _ _ bY,ab,cm.keep λb xs z=>am _ _ z,#[ae,λt ad G cs e=>?_],#[r0,af,Y.2.2],λt ad G cs e=>?_,a4,λz=>by omega]
      .cases e;show am _ _ (ac.2 _ _ _ _ rfl)
      .cases e;show aB _ _ _ _ rfl
     |begin t=>show absurd cp (by dsimp only[lg];decide +kernel)
     |close t=>show absurd cp (by dsimp only[lg];decide +kernel)
     |map t x y=>show absurd cp (by dsimp only[lg];decide +kernel)
     |drop t x y=>show absurd cp (by dsimp only[lg];decide +kernel)
     |copy t o=>show absurd cp (by dsimp only[lg];decide +kernel)
   .rintro σ ev ⟨bl,bb,bc,a6,M,U,cv,pk,W,Z,O,kb,d,D,rfl,a3,as,ab,ap,_⟩;show#[2,2,2,_,M,U,cv,pk,W,Z,O,kb,rfl,a3.up af,as,ab,ap]
  .rintro σ H7 ⟨v7,v8,v9,bl,bb,bc,a6,M,U,cv,pk,W,Z,O,kb,rfl,L7,_⟩;show#[0,0,M,a,m,2,_,U,cv,pk,W,Z,rfl,L7.S,L7.C,af,λH' _ _ _ _ _=>k H']
end
end Lw
end
namespace Hd
open PySem PySem.W PyProof.Rows
def pY:List Obj->List Obj×List Obj
 | []=>([],[])
 | [a]=>([a],[])
 |a::b::r=>(a::(pY r).1,b::(pY r).2)
def build:Nat->List Obj->BT
 |0,_=>.nil
 |_+1,[]=>.nil
 |f+1,o::r=>.node o (build f (pY r).1) (build f (pY r).2)
def topT (tb:String->Option Builtin) (p:Program) (w:World) (m:Nat) (an:Option Value):Nat->SharedT->Thread->Option SharedT
 |0,_,_=>none
 |k+1,x,t=>match through t with
  |true=>some x
  |false=>match stepOk m an t with
   |false=>none
   |true=>match stepT (denote tb) p w x t with
    |some (y,u)=>topT tb p w m an k y u
    |none=>none
theorem topT_of {tb:String->Option Builtin}{p:Program}{w:World}{m:Nat}{an:Option Value}:∀{k:Nat}{x z:SharedT}{t:Thread},topT tb p w m an k x t=some z->topRun tb p w m an k x.abs t=some z.abs:=by
 intro k
 induction k with
 |zero=>intro x z t e;cases e
 |succ k G =>
  intro x z t e;unfold topT at e;unfold topRun;cases a:through t with
  |true=>rw[a]at e;cases e;rfl
  |false =>
   rw[a]at e;cases b:stepOk m an t with
   |false=>rw[b]at e;cases e
   |true =>
    rw[b]at e;cases c:stepT (denote tb) p w x t with
    |none=>rw[c]at e;cases e
    |some r =>
     obtain⟨y,u⟩:=r;rw[c]at e;rw[stepT_spec c];exact G e
def AA (p q:Program) (loose:List Str) (G:Shared->Bool) (I:Bool) (h:Heap) (s:Shared):=
 (staticsOk (importedModules p.main.body) h s.heap&&namesBound p s.heap&&gensDone s&&laidKept h s.heap,openSeen q loose (importedModules p.main.body) G I s)
theorem CD {p q:Program}{loose:List Str}{L:Shared->Bool}{α:Type}{R:Shared->α}{J:World->α}{N M m:Nat}{O:Bool}{H:Params->Heap}{T:Params->BT}{life:Life}{gs:Array GenState}{d:Drawn}{k:Nat}{an:Option Value}
  (hO:∀w:World,(fencedOpening treeTable p w N).map (λs=>(s.heap,s.gens,s.drawn,s.toks))=some (H w.params,gs,d,k))
  (hT:∀P,absHeap (T P) m life=H P)
  (Y:∀w:World,((H w.params).isNs mainGlobals&&gs.size==0,(H w.params).objs.size,(H w.params).nsMap mainGlobals "__annotations__")=(true,m,an))
  (le:Nat.ble M N=true)
  (run:∀(w:World) (os:OsState),(topT treeTable p w m an M ⟨T w.params,m,life,gs,d,k,os⟩ (topStub p)).map (λs=>(AA p q loose L O (H w.params) s.abs,R s.abs))=some ((true,openGood q loose),J w)) :
  LeftO p q loose L R J N O:=by
 intro w;obtain⟨s,a,b⟩:=Option.map_eq_some_iff.mp (hO w);obtain⟨h,G,d',I,os⟩:=s;simp only[Prod.mk.injEq]at b;obtain⟨rfl,rfl,rfl,rfl⟩:=b;have z:=Y w;simp only[Prod.mk.injEq]at z;obtain⟨S,z2,z3⟩:=z;obtain⟨x,c,e⟩:=Option.map_eq_some_iff.mp (run w os);have r:=topT_of c;have ab:(SharedT.mk (T w.params) m life G d' I os).abs=⟨H w.params,G,d',I,os⟩:=by
  unfold SharedT.abs;rw[hT]
 rw[ab]at r;have r:=topRun_mono (N-M) _ _ _ _ r;rw[show M+(N-M)=N from Nat.add_sub_cancel' (Nat.le_of_ble_eq_true le)]at r;simp only[AA,Prod.mk.injEq]at e;obtain⟨⟨e1,U⟩,e3⟩:=e;have t:topFrom treeTable p w N ⟨H w.params,G,d',I,os⟩=some x.abs:=by
  unfold topFrom;dsimp only;rw[S,z2,z3,r];simp only[bind_some,e1]
 unfold openEnds;rw[a];simp only[bind_some,t,map_some,U,e3]
theorem both {r:OpenRow}{q:Program}{loose:List Str}{d:DefRec}{G:List (Str×Expr)}{N:Nat}(H:Hook)
  (h1:defOf q r.name=some (d,G)) (h2:r.prog.theDef r.name=some (d.params,d.body,d.scope)) (R:kwWritten? d.params.kwonlyargs d.params.kw_defaults=some G) (I:(!r.writes||r.records.isEmpty)=true)
  (J:r.wellSaid=true) (S:(chainsOk q&&opensWell r.prog&&(frees r.toRowW&&r.within.isEmpty))=true) (L:r.prog.bare) (O:r.toRowW.promised)
  (h:LeftO r.prog q loose (λs=>xlAt q [] s&&recOk r.records s) H.obs H.val N/\WalkO q loose (XL q []) H.says r.toRowW d G λf vs=>PySem.call f vs):r.Holds :=
 holds_open h.1 H.of H.keeps (λs e=>xl_of s (Bool.and_eq_true_iff.mp e).1) XL.keeps h1 h2 R (λs e=>recFacts_of (Bool.and_eq_true_iff.mp e).2) I J S L O h.2
noncomputable def DM (P:Params):BT:=build 12 (boot_heap P).objs.toList
def q:Program:=PySem.W.view PySem.Challenge.pw_ownroom_k16_put_out_and_fetched [53]
def loose:List Str:=[Str.ofString "_wall",Str.ofString "__name__",Str.ofString "KernelError",Str.ofString "ValueError",Str.ofString "NoOwner",Str.ofString "NoTask",Str.ofString "NoPage",Str.ofString "NoRoom",Str.ofString "Taken",Str.ofString "PAGE_CELLS",Str.ofString "Store",Str.ofString "lift",Str.ofString "settle",Str.ofString "Paging",Str.ofString "ROOM_PAGES",Str.ofString "room_of",Str.ofString "refuse_second_room",Str.ofString "refuse_above",Str.ofString "pages_from",Str.ofString "refuse_unmapped",Str.ofString "pages_to_map",Str.ofString "pages_to_drop",Str.ofString "pages_of_cells",Str.ofString "run_within",Str.ofString "pages_with",Str.ofString "STEP_PAGES",Str.ofString "own_copy",Str.ofString "Table",Str.ofString "BLANK",Str.ofString "Rooms",Str.ofString "_law_mixed",Str.ofString "_law_number",Str.ofString "_law_whole",Str.ofString "_law_cells",Str.ofString "_law_model",Str.ofString "_law_held",Str.ofString "_law_stretch",Str.ofString "_law_due",Str.ofString "_law_done",Str.ofString "_law_called",Str.ofString "_law_numbers",Str.ofString "_law_sizes",Str.ofString "_law_busy",Str.ofString "_law_begun",Str.ofString "_law_all_right",Str.ofString "_law_filled",Str.ofString "_law_places",Str.ofString "_law_right"]
local macro_rules | `(tactic| o_head $H) => `(tactic| refine Hd.both (q:=Hd.q) (loose:=Hd.loose) (N:=100000) $H (by rfl) (by rfl) (by rfl) (by rfl) (by assumption) ao ⟨rfl,rfl,rfl,rfl,rfl,ao⟩ ?$(Lean.mkIdent `hw):ident ?$(Lean.mkIdent `hc):ident)
open_top top for PySem.Challenge.rw_ownroom_k16_put_out_and_fetched
def at_:List Addr:=[2,3,15,17,18,20,21,22,29,30,31,32,35,42,43,44,47,54,55,56,59,66,67,68,71,78,79,80,83,90,91,92,102,104,105,107,108,109,111,112,114,115,116,118,119,121,122,123,125,126,128,129,130,132,133,135,136,137,139,140,142,143,144,146,147,149,150,151,153,154,156,157,158,160,161,163,164,165,166,167,168,169,172,174,175,177,178,179,181,182,184,185,193,195,196,198,199,200,202,203,205,206,207,209,210,212,213,214,216,217,219,220,221,223,224,226,227,228,230,231,233,234,235,237,238,240,241,242,244,245,247,248,249,251,252,254,255,256,258,259,261,262,263,265,266,268,269,270,272,273,275,276,277,279,280,282,283,284,286,287,289,290,291,292,293,294,295,298,300,301,303,304,305,307,308,310,311,312,314,315,317,318,319,321,322,324,325,326,328,329,331,332,333,335,336,338,339,340,342,343,345,346,347,349,350,352,353,354,356,357,359,360,361,364,365,366,369,370,378,380,381,383,384,385,387,388,390,391,392,394,395,397,398,399,401,402,404,405,406,408,409,411,412,413,415,416,418,419,420,421,422,423,424,427,435,437,438,440,441,442,444,445,447,448,449,451,452,454,455,456,458,459,461,462,463,465,466,468,469,470,472,473,475,476,477,479,480,482,483,484,486,487,489,490,491,494,495,496,498,499,501,502,503,505,506,508,509,510,512,513,515,516,517,519,520,522,523,524,526,527,529,530,531,532,533,534,535,538,540,541,543,544,545,547,548,550,551,552,554,555,557,558,559,561,562,564,565,566,568,569,571,572,573,576,577,578,581,582,583,586,587,588,591,592,593,595,596,598,599,600,603,604,605,607,608,610,611,612,614,615,617,618,619,621,622,624,625,626,628,629,631,632,633,635,636,638,639,640,642,643,645,646,647,649,650,652,653,654,656,657,659,660]
noncomputable def lhs (w:World) (os:OsState):=
 (topT treeTable PySem.Challenge.pw_ownroom_k16_put_out_and_fetched w 11 (some (.ref 6)) 100000 ⟨DM w.params,11, {},Array.mk [],boot_drawn,boot_toks,os⟩ (topStub PySem.Challenge.pw_ownroom_k16_put_out_and_fetched)).map
  λs=>(AA PySem.Challenge.pw_ownroom_k16_put_out_and_fetched q loose (λs=>xlAt q [] s&&recOk PySem.Challenge.rw_ownroom_k16_put_out_and_fetched.row.records s) true (boot_heap w.params) s.abs,at_.map s.abs.heap.get?)
noncomputable def JN (K:Frag):=some ((true,openGood q loose),K.map λp=>some p.2)
theorem lhs_self:lhs=lhs:=rfl
theorem zg:JN=JN:=rfl
name_quick hdL for Hd.lhs by Hd.lhs_self
name_quick hdR for Hd.JN by Hd.zg
noncomputable def rhs (w:World):=some ((true,openGood q loose),(Hd.top.heap_39 w.params).map λp=>some p.2)
theorem same_ (w:World) (os:OsState):PySem.W.Fast.hdL w os=PySem.W.Fast.hdR (Hd.top.heap_39 w.params):=by kernel_rfl
theorem run_ (w:World) (os:OsState):lhs w os=rhs w:=((congrFun (congrFun PySem.W.Fast.hdL_eq w) os).trans (same_ w os)).trans (congrFun PySem.W.Fast.hdR_eq (Hd.top.heap_39 w.params)).symm
end Hd
section
local macro_rules|`(tactic|show $t)=>`(tactic|refine $t)
open Lean in
local macro_rules|`(#[$xs,*])=>do
 let T:=([← `(⟨_,rfl⟩),← `(⟨rfl,rfl⟩),← `(⟨_,_⟩),← `(⟨?_,?_⟩),← `(⟨rfl,_⟩),← `(⟨rfl,?_⟩)]:List (TSyntax `term))
 let mut r:Array (TSyntax `term):=Array.mk []
 for x in xs.getElems do
  match x.raw.isNatLit? with
  |some k=>
   match T[k]! with
   |`(⟨$ys,*⟩)=>r:=r++ys.getElems
   |_=>r:=r
  |_=>r:=r.push x
 `(⟨$r,*⟩)
open Lean in
local macro_rules|`(tactic|let $p:term:=$e)=>do
 let rec go (n:Nat)(t:Syntax):MacroM (TSyntax `rcasesPat):=do
  match n with
  |0=>Macro.throwUnsupported
  |n+1=>match t with
   |`($i:ident)=>`(rcasesPat|$i:ident)
   |`(_)=>`(rcasesPat|_)
   |`(#[$xs,*])=>do `(rcasesPat|⟨$(←xs.getElems.mapM fun x=>do `(Parser.Tactic.rcasesPatLo|$(←go n x):rcasesPat)),*⟩)
   |_=>Macro.throwUnsupported
 match p with
 |`(#[$_,*])=>do `(tactic|obtain $(←go 99 p):rcasesPat := $e)
 |_=>Macro.throwUnsupported
namespace Lw
open PySem L2
def Al:Nat->(List Value->Prop)->Prop
 |0,p=>p []
 |n+1,p=>∀a,Al n λl=>p (a::l)
theorem al:∀{n:Nat}{p:List Value->Prop},Al n p->∀us:List Value,us.length=n->p us
 |0,_,h,us,e=>by cases List.eq_nil_of_length_eq_zero e;show h
 |n+1,_,h,us,e=>by
  cases us with
  |nil=>cases e
  |cons a us=>show al (h a) us (Nat.succ.inj e)
inductive MI (K:iF) (C:Addr) (m q:Str) (st:K4) (ps:List Str):Prop
 |mk (f:Addr) (fd:qj) (_:cI K m q st f fd) (_:Binds K fd ps []) (_:Meth K C m f):MI K C m q st ps
inductive DI (K:iF) (x:Str) (st:K4) (ps:List Str):Prop
 |mk (f:Addr) (fd:qj) (_:cI K x x st f fd) (_:Binds K fd ps []) (_:Tu K Lm x=some (some (.ref f))):DI K x st ps
section
variable {K:iF}{C f:Addr}{m q:Str}{st:K4}{ps:List Str}{od an:Option Addr}{sl:Array (Option Value)}{oc kV dc pm cd ct:Value}
theorem MI.of (a:OE K (.ref C) m=some (some (.ref f))) (i:isFn K (.ref f)=true) (l:K.lookup f=some #[oc,od,.func (SR m q (fQ st) (eu st) (aw st) .none kV dc pm an cd ct),sl]) (c:SS K cd q=true) (k:Qj K (.ref f)=true)
  (b:∀kV I pm an G ct,Al ps.length λus=>RS (SR m q (fQ st) (eu st) (aw st) .none kV I pm an G ct) #[us,[]]=pure (ps.zip us)):MI K C m q st ps :=
 #[2,qo l c k,(qo l c k).binds λ_ _ _ _ _ _=>al (b _ _ _ _ _ _),a,i,k]
theorem DI.of (a:Tu K Lm m=some (some (.ref f))) (l:K.lookup f=some #[oc,od,.func (SR m m (fQ st) (eu st) (aw st) .none kV dc pm an cd ct),sl]) (c:SS K cd m=true) (k:Qj K (.ref f)=true)
  (b:∀kV I pm an G ct,Al ps.length λus=>RS (SR m m (fQ st) (eu st) (aw st) .none kV I pm an G ct) #[us,[]]=pure (ps.zip us)):DI K m st ps :=
 #[2,qo l c k,(qo l c k).binds λ_ _ _ _ _ _=>al (b _ _ _ _ _ _),a]
inductive CI (K:iF) (C:Addr) (x:Str):Prop
 |mk (_:Tu K Lm x=some (some (.ref C))) (_:sg K C) (_:makesIn K C=true) (_:Qj K (.ref C)=true):CI K C x
end
theorem MI.md {P:rz}{w:C1}{K:iF}{mg:Str->Option Value}{base:Heap}{CX:uf}{n:Nat}{C:Addr}{m q:Str}{st:K4}{ps:List Str}{sp:Sp}(h:MI K C m q st ps) (k:∀{f fd},cI K m q st f fd->a8 P w K mg base CX n f fd ps sp):Md P w K mg base CX n C m sp:=by
 let#[f,fd,F,b,M]:=h;show Md.mk _ _ _ (k F) b M
theorem DI.df {P:rz}{w:C1}{K:iF}{mg:Str->Option Value}{base H:Heap}{CX:uf}{n:Nat}{x:Str}{st:K4}{ps:List Str}{sp:Sp}(h:DI K x st ps) (X:K.In H) (G:H.Ns Lm mg) (k:∀{f fd},cI K x x st f fd->a8 P w K mg base CX n f fd ps sp):Df P w K mg base CX n x sp:=by
 let#[f,fd,F,b,a]:=h;show Df.mk _ _ _ (k F) b (P4 X G a) F.kp
def NI (K:iF):List Str->Prop
 | []=>True
 |x::l=>Tu K Lm x=some none/\NI K l
def AI (K:iF) (C:Addr):List Str->Prop
 | []=>True
 |x::l=>OE K (.ref C) x=some none/\AI K C l
theorem all_mk {l:Oi}{w:C1}{K:iF}{h:Heap}{mg:Str->Option Value}{fa L I N J aB:Addr}{dL t8 t9:Tv}{bb:Value}{hK:Option Addr}{e5:Array (Option Value)}{a2:Array Value}{nB:Nat}(X:K.In h) (G:h.Ns Lm mg) (ho:mg "law" = some (.ref fa)) :
  CI K L "Store" -> AI K L ["owners","contents"]->MI K L "__init__" "Store.__init__" St.mW ["self","many"]->MI K L "take" "Store.take" St.zp ["self"]->MI K L "less" "Store.less" St.Af ["self","n"]->MI K L "more" "Store.more" St.Bb ["self","n"]->MI K L "free" "Store.free" St.zt ["self"]->MI K L "count" "Store.count" St.uB ["self","n"]->MI K L "cells" "Store.cells" St.vV ["self","n"]->MI K L "put" "Store.put" St.Fh ["self","n","cells"]->MI K L "refuse_free" "Store.refuse_free" St.qt ["self","n"]->CI K I "Paging" -> AI K I ["frames","slots","places","last_sheet","in_frames"]->MI K I "__init__" "Paging.__init__" St.vJ ["self","frames","slots"]->MI K I "new_sheet" "Paging.new_sheet" St.kh ["self","cells"]->MI K I "share" "Paging.share" St.uz ["self","sheet"]->MI K I "leave" "Paging.leave" St.uY ["self","sheet"]->MI K I "cells" "Paging.cells" St.qv ["self","sheet"]->MI K I "change" "Paging.change" St.qB ["self","sheet","cells"]->MI K I "fetch" "Paging.fetch" St.vP ["self","sheet"]->MI K I "bring_in" "Paging.bring_in" St.oe ["self","sheet","moved"]->MI K I "put_out" "Paging.put_out" St.qO ["self","sheet"]->MI K I "place" "Paging.place" St.vT ["self","sheet"]->MI K I "number_of" "Paging.number_of" St.km ["self","sheet"]->MI K I "store_of" "Paging.store_of" St.mN ["self","sheet"]->MI K I "count" "Paging.count" St.rJ ["self","sheet"]->MI K I "counts" "Paging.counts" Lw.nQ ["self"]->CI K N "Table" -> AI K N ["first_step"]->MI K N "__init__" "Table.__init__" Tb.mW ["self"]->MI K N "get" "Table.get" Tb.EH ["self","page"]->MI K N "lay" "Table.lay" Tb.EY ["self","page","entry"]->MI K N "clear" "Table.clear" Tb.uS ["self","page"]->MI K N "pages" "Table.pages" Tb.uU ["self"]->CI K J "Rooms" -> AI K J ["paging","total","rooms"]->MI K J "__init__" "Rooms.__init__" St.vd ["self","frames","slots"]->MI K J "begin" "Rooms.begin" St.qe ["self","task"]->MI K J "close" "Rooms.close" St.qK ["self","task"]->MI K J "map" "Rooms.map" St.As ["self","task","page","many"]->MI K J "drop" "Rooms.drop" St.vy ["self","task","page","many"]->MI K J "peek" "Rooms.peek" St.u4 ["self","task","address","many"]->MI K J "poke" "Rooms.poke" St.wk ["self","task","address","cells"]->MI K J "copy" "Rooms.copy" St.uq ["self","task","other"]->MI K J "held" "Rooms.held" St.vi ["self"]->MI K J "counts" "Rooms.counts" Lw.mI ["self"]->MI K J "place" "Rooms.place" St.qr ["self","task","page"]->MI K J "leave_pages" "Rooms.leave_pages" St.qm ["self","table","pages"]->MI K J "cells_of" "Rooms.cells_of" St.qx ["self","entry"]->MI K J "sheet_with" "Rooms.sheet_with" St.rK ["self","entry","cells"]->DI K "lift" St.zv ["store","n"]->DI K "settle" St.rG ["store","moved"]->DI K "own_copy" Tb.xf ["value"]->DI K "room_of" St.qU ["rooms","task"]->DI K "refuse_second_room" St.rC ["rooms","task"]->DI K "refuse_above" St.u3 ["held","total"]->DI K "pages_from" Rm.jk ["page","many"]->DI K "refuse_unmapped" Rm.kL ["mapped","pages"]->DI K "pages_to_map" Rm.uZ ["mapped","page","many"]->DI K "pages_to_drop" Rm.rE ["mapped","page","many"]->DI K "pages_of_cells" Rm.m9 ["mapped","address","many"]->DI K "run_within" Rm.qz ["whole","address","many"]->DI K "pages_with" Rm.Bv ["whole","address","cells"]->DI K "_law_mixed" Lw.wt ["_law_cell","_law_k"]->DI K "_law_number" Lw.p9 ["_law_script","_law_k"]->DI K "_law_whole" Lw.vF ["_law_found"]->DI K "_law_cells" Lw.lR ["_law_m","_law_many"]->DI K "_law_model" Lw.vp ["_law_total"]->DI K "_law_held" Lw.wj ["_law_model_here"]->DI K "_law_stretch" Lw.lW ["_law_room","_law_address","_law_many"]->DI K "_law_due" Lw.EN ["_law_model_here","_law_deed"]->DI K "_law_done" Lw.Ai ["_law_model_here","_law_deed"]->DI K "_law_called" Lw.pZ ["_law_kept","_law_deed"]->DI K "_law_numbers" Lw.mY ["_law_found","_law_due_here"]->DI K "_law_sizes" Lw.u6 ["_law_m"]->DI K "_law_busy" Lw.zz ["_law_m","_law_model_here","_law_tasks"]->DI K "_law_begun" Lw.vI ["_law_m"]->DI K "_law_all_right" Lw.yY ["_law_kept","_law_model_here"]->DI K "_law_filled" Lw.rD ["_law_kept","_law_model_here","_law_m","_law_tasks"]->DI K "_law_places" Lw.rZ ["_law_kept","_law_model_here"]->DI K "_law_right" Lw.uw ["_law_kept","_law_model_here","_law_deed","_law_before","_law_after"]->DI K "law" Lw.Ft ["_law_script"]->Tu K Lm "ROOM_PAGES" = some (some (.int 64 dL))->Tu K Lm "PAGE_CELLS" = some (some (.int 8 t8))->Tu K Lm "STEP_PAGES" = some (some (.int 8 t9))->NI K ["range","enumerate","sum","int","isinstance","min","max","list","len","dict","bool","tuple","sorted","all","any","zip"]->Tu K Lm "BLANK" = some (some (.ref aB))->K.lookup aB=some #[bb,hK,.seq a2 nB,e5]->bb=.type "tuple" -> Vals [V.str "blank"] a2.toList->a2.size<=1 ->
  ∃fd:qj,(∀(s:ll) (v:Value),Q2 s fd #[[v],[]] [("_law_script",v)])/\∀base:Heap,K.In base->base.Ns Lm mg->a8 l.prog w K mg base aV 12 fa fd ["_law_script"] (wY K):=by
 intro h0 h1 h2 h3 h4 h5 h6 h7 h8 h9 fc dO hm hP dT hI d4 g9 d2 he fo hx g5 fu e4 hF e6 ek fH hL fI hr e0 dI hO hf dV c9 f0 d3 cr eg g6 db c8 fz go hk gN f8 e2 fr ce hg e3 f5 fx hB ey hy ev c2 hh g3 f7 eo fy hp hj ea ez hz cz hv fT hl ft hH hb fw c4 dp q0 q1 q2 g1 yB lB oB vB wB;let#[hc,e7,g8,hq]:=h0;let#[dm,cx,_]:=h1;let#[f1,d1,F1,b1,M1]:=h2;let#[g4,gs,gr,ee]:=dO;let#[d6,e8,f4,hw,ef,_]:=hm;let#[ii,hR,c5,hQ,be]:=hP;let#[bY,hC,bc,bv]:=ek;let#[cp,_]:=fH;let#[im,ib,gl,bd,a0]:=hL;let#[fi,eq,hM,g0]:=hO;let#[e9,ht,ga,_]:=hf;let#[il,ik,fl,gt,a6]:=dV;let#[ia,g7,bz,hT,eH]:=dp;let#[bE,fe,bI,e1,b6,en,eN,ab,ac,ba,dz,cm,a7,gm,dl,et,_]:=g1;have e:=ho.symm.trans (P4 X G eH);cases e;show#[g7,λs v=>?_,λbase _ _=>?_]
 .let#[oc,od,kV,hY,pm,an,ih,ct,io,rfl,lk,hS]:=bz.ex;show .of_eq rfl
 have TS:St.Txt K mg L:=#[e7,dm,cx,KS X G ac,KS X G ab,#[_,P4 X G q1,#[0]]];have TT:Tb.Txt K mg N:=#[hC,cp,#[_,P4 X G q2,#[0]]];have TQ:Tb.AB mg:=#[KS X G b6,KS X G cm,KS X G ab,KS X G ba,KS X G ac,KS X G a7];have SX:Rm.zM mg:=#[#[_,P4 X G q0,#[0]],#[_,P4 X G q1,#[0]],KS X G ab,KS X G bE,KS X G ac];have TP:St.ox K mg I:=#[gs,d6,e8,f4,hw,ef,KS X G ab];have O:St.oQ K mg #[J,I,L,N]:=#[eq,e9,ht,ga,#[aB,P4 X G yB,.inr #[_,a2,nB,lB,oB,rfl,G0 wB av,vB]],#[_,P4 X G q1,#[0]],KS X G ac,KS X G bI,KS X G et];have MT:Lw.ke mg:=#[KS X G bE,KS X G fe,KS X G bI,KS X G e1,KS X G b6,KS X G en,KS X G eN,KS X G ab,KS X G ac,KS X G ba,KS X G dz,KS X G cm,KS X G a7,KS X G gm,KS X G dl];have fD:=St.rf (P:=l.prog) (w:=w) (base:=base) F1 TS;have am:=h7.md λF=>St.zu (P:=l.prog) (w:=w) (base:=base) F TS;have a1:=fc.md λF=>St.yp F TS am;have ch:=h4.md λF=>St.Cd F TS a1;have b3:=h8.md λF=>St.Bs F TS a1;have b4:=h9.md λF=>St.DU F TS a1;have bn:=h5.md λF=>St.BX F TS a1;have eP:=h3.md λF=>St.CO (P:=l.prog) (w:=w) (base:=base) F TS;have cc:=h6.md λF=>St.B5 (P:=l.prog) (w:=w) (base:=base) F TS;have fk:=ce.df X G λF=>Tb.Bo (P:=l.prog) (w:=w) (base:=base) F TQ;have GC:=ce.df X G λF=>Tb.Ci F TQ fk;have bx:=Tb.rf (P:=l.prog) (w:=w) (base:=base) gl TT;have Y:=fI.md λF=>Tb.En F TT GC;have a5:=hr.md λF=>Tb.E7 F TT GC;have da:=e0.md λF=>Tb.zO (P:=l.prog) (w:=w) (base:=base) F TT TQ;have S:=dI.md λF=>Tb.zA (P:=l.prog) (w:=w) (base:=base) F TT TQ;have GP:=fx.df X G λF=>Rm.rh (P:=l.prog) (w:=w) (base:=base) F SX;have GU:=hB.df X G λF=>Rm.tD (P:=l.prog) (w:=w) (base:=base) (mg:=mg) F;have GM:=ey.df X G λF=>Rm.Aj F GP;have GD:=hy.df X G λF=>Rm.yG F GP GU;have GO:=ev.df X G λF=>Rm.vM F SX GP GU;have ej:=c2.df X G λF=>Rm.yu (P:=l.prog) (w:=w) (base:=base) F SX;have hD:=hh.df X G λF=>Rm.Dj (P:=l.prog) (w:=w) (base:=base) F SX;have ca:=e2.df X G λF=>St.BP F TS b3 am ch;have bq:=fr.df X G λF=>St.yx F TS eP b4 am bn;have aT:=g5.md λF=>St.zB (CS:=L) (P:=l.prog) (w:=w) (base:=base) F TP;have U:=fu.md λF=>St.tJ F TP aT;have as:=e4.md λF=>St.vD F TP aT;have eC:=hF.md λF=>St.ym F TP TS as U am;have hu:=g9.md λF=>St.xY F TP TS as U b3;have g2:=hx.md λF=>St.uX F TP ca bq U;have bm:=fo.md λF=>St.sZ F TP TS cc g2 bq;have b0:=dT.md λF=>St.qX F TP TS cc bm;have bl:=he.md λF=>St.Bf F TP aT bm ca;have gd:=hI.md λF=>St.y0 F TP TS as U bn;have ci:=d4.md λF=>St.zL F TP TS as U ch am;have hN:=d2.md λF=>St.yH F TP TS eC b0 ci bl U b4;have c3:=St.AO c5 TP #[g8,M1.at_,M1.fn,hq] (P4 X G hc) fD b1;have R:=hg.df X G λF=>St.yA (P:=l.prog) (w:=w) (base:=base) (mg:=mg) F;have GS:=e3.df X G λF=>St.xJ (P:=l.prog) (w:=w) (base:=base) (mg:=mg) F;have GA:=f5.df X G λF=>St.AG (P:=l.prog) (w:=w) (base:=base) (mg:=mg) F;have d5:=St.Aw (c:=#[J,I,L,N]) fl O #[gr,be.at_,be.fn,ee] (P4 X G g4) c3 hQ;have b5:=hk.md λF=>St.oS (c:=#[J,I,L,N]) F O TT TP Y da ci;have ew:=cr.md λF=>St.CZ (c:=#[J,I,L,N]) F O TT R GD S b5;have ei:=f0.md λF=>St.xW (c:=#[J,I,L,N]) F O TT R S b5;have dd:=c9.md λF=>St.yd (c:=#[J,I,L,N]) F O #[bc,a0.at_,a0.fn,bv] (P4 X G bY) GS bx bd;have b2:=gN.md λF=>St.uk (c:=#[J,I,L,N]) F O TP hu;have ha:=f8.md λF=>St.rF (c:=#[J,I,L,N]) F O TP b0 hN;have a4:=c8.md λF=>St.Ao (c:=#[J,I,L,N]) F O TT S;have c0:=d3.md λF=>St.Dl (c:=#[J,I,L,N]) F O TT R GM GA S a4 a5;have cq:=eg.md λF=>St.zT (c:=#[J,I,L,N]) F O TT TP R GO ej S Y bl b2;have em:=g6.md λF=>St.y4 (c:=#[J,I,L,N]) F O TT R GO hD S Y a5 b2 ha;have eb:=db.md λF=>St.zD (c:=#[J,I,L,N]) F O TT TP #[bc,a0.at_,a0.fn,bv] (P4 X G bY) R GS GA bx bd S a4 Y a5 gd;have fv:=go.md λF=>St.yQ (c:=#[J,I,L,N]) F O TT TP R Y aT;have KT:Lw.FL l.prog w K mg base #[J,I,L,N]:=#[dd,ei,c0,ew,eb,cq,fv,em];have dj:=g3.df X G λF=>Lw.AM (P:=l.prog) (w:=w) (base:=base) (mg:=mg) F;have hA:=f7.df X G λF=>Lw.xF F MT dj;have d8:=fT.df X G λF=>Lw.AD (P:=l.prog) (w:=w) (base:=base) (mg:=mg) F;have hG:=hp.df X G λF=>Lw.Am (P:=l.prog) (w:=w) (base:=base) (mg:=mg) F;have ap:=hj.df X G λF=>Lw.Bu (P:=l.prog) (w:=w) (base:=base) F MT;have dM:=ea.df X G λF=>Lw.uP (P:=l.prog) (w:=w) (base:=base) F MT;have bi:=ez.df X G λF=>Lw.D9 F MT ap dM;have a3:=hz.df X G λF=>Lw.BL (P:=l.prog) (w:=w) (base:=base) F MT;have d7:=cz.df X G λF=>Lw.yl F O KT;have ge:=eo.df X G λF=>Lw.zq (P:=l.prog) (w:=w) (base:=base) F MT;have bF:=hv.df X G λF=>Lw.uW F MT ge;have c1:=hH.df X G λF=>Lw.CY F O KT bF ap a4;have hn:=fy.df X G λF=>Lw.uj (P:=l.prog) (w:=w) (base:=base) F MT;have f2:=hl.df X G λF=>Lw.CG F MT ap hn;have hd:=e6.md λF=>Lw.uQ (P:=l.prog) (w:=w) (base:=base) F TP TS;have ec:=fz.md λF=>Lw.u5 (c:=#[J,I,L,N]) F O TP hd;have c7:=hb.df X G λF=>Lw.yL F MT O KT a3 ap bi;have el:=fw.df X G λF=>Lw.xP F O KT;have f3:=c4.df X G λF=>Lw.Bt F MT O ec;have hE:=ft.df X G λF=>Lw.An F O KT #[hM,a6.at_,a6.fn,g0] (P4 X G fi) d8 d5 gt hG a3;show Lw.Es bz MT hA hE f2 bi a3 d7 bF c7 el f3 c1
theorem walk {l:Oi}{q:rz}{loose:List Str}{O:(Str->Option Value)->Heap->Prop}{I:C1->Heap->Prop}{d:DefRec}{K:Params->iF}(J:l.most=some 63) (R:d.params.defaults=[])
  (S:∀(w:C1) (h:Heap),I w h->(K w.params).In h)
  (F:∀(w:C1) (mg:Str->Option Value) (G:Addr) (h:Heap),(K w.params).In h->h.Ns Lm mg->mg d.name=some (.ref G) ->
   ∃fd:qj,(∀(s:ll) (u:Value),Q2 s fd #[[u],[]] [("_law_script",u)])/\∀base:Heap,(K w.params).In base->base.Ns Lm mg->a8 l.prog w (K w.params) mg base aV 12 G fd ["_law_script"] (wY (K w.params))) :
  RJ q loose O I l.row.toRowW d [] (λf vs=>Sa f vs):=
 L2.BM (n:=63) (k:=12) (x := "_law_script") (CX:=λ_=>aV) (sp:=λw=>wY (K w.params)) J av R #[rfl,av,av] S F (λ_ _ a ns N _ L=>#[a,ns,rfl,L,N,λ_=>rfl]) λ_ _ _ _ _ z=>z
end Lw
end
open PySem PySem.W PyProof.Rows
theorem PySem.Challenge.cw_ownroom_k16_put_out_and_fetched_holds : PySem.Challenge.rw_ownroom_k16_put_out_and_fetched.Holds := by
 refine Hd.top ⟨Hd.CD (H:=boot_heap) (T:=Hd.DM) (life:={}) (m:=11) (M:=100000) (gs:=Array.mk []) (d:=boot_drawn) (k:=boot_toks) (an:=some (.ref 6)) (boot_open (by kernel_rfl) av (λs=>by kernel_rfl)) (λP=>by kernel_rfl) (λw=>by kernel_rfl) av (λw os=>Hd.run_ w os),?_⟩
 k_fill
 refine Lw.walk (l:=PySem.Challenge.rw_ownroom_k16_put_out_and_fetched) rfl rfl (λw h Y=>PySem.W.kIn_of Y) ?F
 case F =>
  intro w mg fa h KX G hmg;apply Lw.all_mk KX G hmg
  all_goals first
   |(apply Lw.MI.of<;>first|k_is|(first|exact λ_ _ _ _ _ _ _=>rfl|exact λ_ _ _ _ _ _ _ _=>rfl|exact λ_ _ _ _ _ _ _ _ _=>rfl|exact λ_ _ _ _ _ _ _ _ _ _=>rfl|exact λ_ _ _ _ _ _ _ _ _ _ _=>rfl))
   |(apply Lw.DI.of<;>first|k_is|(first|exact λ_ _ _ _ _ _ _=>rfl|exact λ_ _ _ _ _ _ _ _=>rfl|exact λ_ _ _ _ _ _ _ _ _=>rfl|exact λ_ _ _ _ _ _ _ _ _ _=>rfl|exact λ_ _ _ _ _ _ _ _ _ _ _=>rfl))
   |(apply Lw.CI.mk;k_is;(constructor<;>k_is);k_is;k_is)
   |(unfold Lw.NI;repeat' first|apply And.intro|exact trivial|k_is|unfold Lw.NI)
   |(unfold Lw.AI;repeat' first|apply And.intro|exact trivial|k_is|unfold Lw.AI)
   |k_is|rfl|exact .cons ⟨_,rfl⟩ .nil|exact le_refl 1
