import PyProof.Rows.All
import Wide.All
import OpenK.AllK
import Wide.FinOn
import Lean
import PyProof.EqAt
import PyProof.EqKinds
import PyProof.TupleCall
import PySem.Challenge.RW_ownroom_k16_put_out_and_fetched
inductive xZ {α β:Type}(p:α->β->Prop):Prop
 |mk (x0:α) (x1:β) (_:p x0 x1):xZ p
inductive Hv {α β γ:Type}(p:α->β->γ->Prop):Prop
 |mk (x0:α) (x1:β) (x2:γ) (_:p x0 x1 x2):Hv p
inductive Iu {α β γ δ:Type}(p:α->β->γ->δ->Prop):Prop
 |mk (x0:α) (x1:β) (x2:γ) (x3:δ) (_:p x0 x1 x2 x3):Iu p
inductive BE {α β γ δ ε:Type}(p:α->β->γ->δ->ε->Prop):Prop
 |mk (x0:α) (x1:β) (x2:γ) (x3:δ) (x4:ε) (_:p x0 x1 x2 x3 x4):BE p
inductive HW {α β γ δ ε ζ:Type}(p:α->β->γ->δ->ε->ζ->Prop):Prop
 |mk (x0:α) (x1:β) (x2:γ) (x3:δ) (x4:ε) (x5:ζ) (_:p x0 x1 x2 x3 x4 x5):HW p
inductive sf (A0 A1 A2:Prop):Prop
 |mk (_:A0) (_:A1) (_:A2):sf A0 A1 A2
inductive Em (A0 A1 A2 A3:Prop):Prop
 |mk (_:A0) (_:A1) (_:A2) (_:A3):Em A0 A1 A2 A3
inductive Fc (A0 A1 A2 A3 A4:Prop):Prop
 |mk (_:A0) (_:A1) (_:A2) (_:A3) (_:A4):Fc A0 A1 A2 A3 A4
inductive yP (A0 A1 A2 A3 A4 A5:Prop):Prop
 |mk (_:A0) (_:A1) (_:A2) (_:A3) (_:A4) (_:A5):yP A0 A1 A2 A3 A4 A5
inductive Ii (A0 A1 A2 A3 A4 A5 A6:Prop):Prop
 |mk (_:A0) (_:A1) (_:A2) (_:A3) (_:A4) (_:A5) (_:A6):Ii A0 A1 A2 A3 A4 A5 A6
inductive Ip (A0 A1 A2 A3 A4 A5 A6 A7:Prop):Prop
 |mk (_:A0) (_:A1) (_:A2) (_:A3) (_:A4) (_:A5) (_:A6) (_:A7):Ip A0 A1 A2 A3 A4 A5 A6 A7
inductive GW (A0 A1 A2 A3 A4 A5 A6 A7 A8 A9 A10:Prop):Prop
 |mk (_:A0) (_:A1) (_:A2) (_:A3) (_:A4) (_:A5) (_:A6) (_:A7) (_:A8) (_:A9) (_:A10):GW A0 A1 A2 A3 A4 A5 A6 A7 A8 A9 A10
inductive Gu (A0 A1 A2 A3 A4 A5 A6 A7 A8 A9 A10 A11 A12:Prop):Prop
 |mk (_:A0) (_:A1) (_:A2) (_:A3) (_:A4) (_:A5) (_:A6) (_:A7) (_:A8) (_:A9) (_:A10) (_:A11) (_:A12):Gu A0 A1 A2 A3 A4 A5 A6 A7 A8 A9 A10 A11 A12
theorem bW {α G I:Sort _}{f:α->G->I}(a:α) (b:G):f a b=f a b:=rfl
theorem HU:1<=PySem.sizeLine:=by(decide)
theorem d9:2<=PySem.sizeLine:=by(decide)
theorem HQ:3<=PySem.sizeLine:=by(decide)
theorem oU:4<=PySem.sizeLine:=by(decide)
theorem I0:5<=PySem.sizeLine:=by(decide)
theorem Hc:(0:Int)<2:=by(decide)
theorem GV:(0:Int)<3:=by(decide)
theorem Eh:(0:Int)<4:=by(decide)
theorem u3:(0:Int)<8:=by(decide)
set_option Elab.async false
set_option linter.all false
set_option tactic.hygienic false
set_option maxRecDepth 100000
set_option maxHeartbeats 0
local macro_rules | `(tactic| omega) => `(tactic| lia)
theorem ao {p:Prop}(h:p:=by decide +kernel):p:=h
theorem av {p:Prop}(h:p:=by decide):p:=h
theorem ae {p:Prop}(h:p:=by omega):p:=h
open PySem.W (instObj lookIn handedIn isFn plainOver takerIn makesIn emptyDict kitx_list kitx_tuple kitx_dict callWith_K0 KdlSrc kdl_dict)
open List (replicate all_cons foldl map_take filter)
open Nat (le_refl)
open Option (getD_none map_some bind_some isNone)
open Array (toList)
open PySem
open _root_.PySem.W renaming Frag->iF,mg_none_of->KG,kitOne->Nl,kia_one->Nv,OpenLaw->NS,findIn->N9,cellsFrom_some->OX,mg_of->Ph,methodCall_KW->Pk,keepIn->Pq,plainGet_of->QL,WalkO->QX,plainGet->Q5,callWith_K->Q8,methodObj->RO,hasDictIn->RQ,fnOf->RW,codeIn->RX,nsIn->Sr
open _root_.PySem renaming wpAny_bind->iN,Shared->mu,wpAny_pure->p4,FuncData->qi,Program->rr,sizeLine_eq->ub,World->Bd,Around->KL,Expr->KN,Stmt->KP,bootBuiltins->KS,mainGlobals->Lc,wpAny_newObj_type->Ly,Spec->LD,wpAny_truthy_bool->LG,compareOp->LJ,mem_of_lookup->LK,sysModules->LS,wpAny_holding->LX,wpAny_call_entry->Mb,tupleKind_room_in1->Mg,wpAny_passesOwn->Mi,Builtin->Mn,wpAny_typeNameOfWhole_keyiter->Mr,wpAny_Call_Name_kw->Ms,call_meetsIn->Mw,attributeBase->ME,wpAny_rule->MN,behindInMarks->Na,wpAny_typeNameOf_keyiter->Nj,wpAny_mono->Nk,call_meets->Nm,Pos->Nn,cLine->Nq,keywordEach->Nr,wpAny_callSpecial?_slot->Nt,sliceBounds->Nu,wpAny_Call_method->Nz,tupleKind->NF,wpAny_standAt->NN,getItem->NO,binaryOp->NR,wpAny_execs_nil->NV,codeAny->N3,assignEach->N7,Scope->Om,holding->Oq,wpAny_assign_Name->Ot,wpAny_pyIter_list->Ov,foldedSetIterable->Ow,seqIndex_of->Ox,wpAny_comprehension_free->OC,swapsWith->OG,getMethod->OH,backToKw->OI,wpAny_Call_method0_late->OP,wpAny_pyNext_range_end->OT,wpAny_pyIter_rangeiter->OU,codeAny_mono->OV,IsPart->OY,wpAny_typeOf->OZ,wpAny_getItem_list_neg->O8,valueAt->Pc,letOwnedTupleGo->Pf,wpAny_isTrue_Compare1->Pj,wpAny_isOneOf_keyiter->Po,IsRangeIter->Pp,subscripted->Pr,lookup_relabel_local->Py,wpAny_pyIter_keyiter->Pz,Keyword->PF,callerA->PH,evalArgs_none->PL,assignInOrder->PM,wpAny_newList->PR,assign->PX,wpAny_pyIter_range->PY,Within->Qe,GenState->Qf,Sem->Qg,standAt->Qh,Operator->Qi,BindsTo->Qp,wpAny_sequenceKey->Qr,slot_list_getitem->Qs,wpAny_pyIter_enum->Qv,wpAny_pyIter_slot->Qw,wpAny_dictEntries->Qz,wpAny_execs_cons->QA,wpAny_Dict_empty->QD,wpAny_pyIter_zip->QF,wpAny_field->QN,atKey->QP,builtinsNs->QZ,wpAny_Name->Q1,bindName->Q2,bindArgs->Q6,wpAny_call->Q7,callWith->Q9,bindL->Ra,bindC->Rb,typeIs_int->Rg,call->Rh,compEnvC->Rr,cellsFrom->RS,seqIndex?->RT,Env->RU,setItem->RV,CmpOp->Sa,Tok->Ss
open _root_.List renaming getElem?_eq_some_iff->kz,length_map->nq,mem_singleton->n7,mem_append->oR,size_toArray->p3,mem_map->rn,getElem?_map->rz,getElem?_eq_getElem->ti,mem_of_getElem?->ua,length_append->vl,mem_cons->wh,not_mem_nil->By,map_append->BY,length_take->DD,length_cons->DO,range->KD,nodup_cons->KJ,mem_append_right->KO,mem_cons_of_mem->KQ,pairwise_append->KR,append_assoc->KU,mem_cons_self->KW,getElem?_set_ne->KY,all_eq_true->K0,mem_range->K5,length_set->Lb,getElem?_set_self->Ld,getD_eq_getElem?_getD->Lg,length_range->Lh,length_replicate->Li,length_eq_zero_iff->Lj,getElem?_eq_none->Lk,take_add_one->Lm,getElem?_append_right->Ln,take_of_length_le->Lp,getElem?_append_left->Lq,length_singleton->Lu,mem_reverse->Lx,take_length->Lz,idxOf_lt_length_iff->LB,mem_append_left->LC,getElem_of_mem->LI,getElem_mem->LM,pairwise_iff_getElem->LN,map_map->LO,map_cons->LQ,take_append_drop->LV,count_pos_iff->LW,length_drop->LZ,filter_cons->L0,map_congr_left->L4,nodup_nil->Mc,replicate_succ->Me,extract_eq_take_drop->Mh,flatten_cons->Mj,drop_eq_getElem_cons->Ml,ext_getElem?->Mv,drop_eq_nil_of_le->My,mem_filter->Mz,sum_cons->MD,length_filter_le->MG,erase_of_not_mem->MJ,pairwise_map->ML,getElem?_range->MO,take_sublist->MU,perm_append_comm->MW,any_eq_true->MX,lookup->Np,getElem_take->Nx,reverse_append->Ny,nodup_append->NB,eraseIdxIfInBounds_toArray->NC,find?_cons->NL,mem_flatMap->NM,getElem?_take->NP,mem_of_mem_drop->NT,mem_of_mem_take->NW,filterMap_cons->NZ,flatMap_append->N0,length_pos_iff->N2,drop_sublist->N5,getElem_idxOf->Od,filter_eq_self->Og,perm_ext_iff_of_nodup->Oh,mem_or_eq_of_mem_set->Oj,getElem?_zip_eq_some->Ol,getElem?_drop->OB,range_succ->Pd,count_cons_of_ne->Pn,any_cons->Pt,mem_iff_getElem->Pw,reverse_reverse->Px,getElem?_of_mem->PD,take_zero->PJ,mem_filterMap->PZ,append_nil->P1,length_nil->Qa,count_eq_zero->Qc,mem_replicate->Qd,any_eq_false->Ql,getElem_drop->Qt,set_set->Qy,map_fst_zip->QC,getElem_set->QI,nodup_range->QJ,length->QM,nil_append->QR,filter_map->QU,map_nil->QW,of_mem_zip->Rc,drop_drop->Rk,take_take->Rl,drop_zero->Rn,take_succ->Rv,map_drop->RN,all_map->RY,map_set->RZ,set->Si,map_id->Sj,map->Sk
open _root_.PyProof.Rows renaming wpS_bind->pa,wpS_pure->pf,arrOf->vr,Keyed->vu,pendingOf->HC,SortSt->K6,slot_tuple_getitem->K8,wpS_forRange->K9,callWith_type1->Lo,wpS_mono->LR,numOf->Mq,wpS_modify->Mt,IntsAre->MV,oneType'->Nb,failedOf->Nc,wpS_get->Nw,assignInOrder_cons->N8,AllBare->Oo,wpS_lift->OJ,envOfC->OW,subscriptTail_builtinR->O0,pairsOf->Pa,pairsOf_size->Pb,entry_tuple_getitem->PK,subscriptTail->PN,listUpdate_at->PQ,args_tuple_getitem->P4,assignInOrder_nil->Qj,seqEpoch_at->QO,iadd_int->QV,K_congr->QY,boot_range->Q4,Subscript_->Rf,mirror->Rj,size_push'->Rp,isInt_at->Rt,wpS->R0,stC->Sg,isInt->Sh
open _root_.Option renaming map_eq_some_iff->pq,isSome_iff_exists->Mm,bind_eq_some_iff->Mp,bind_some->MY,map_eq_none_iff->NA,isSome_map->Oe,getD_some->QH,map_some->Ru,none->Sf
open _root_.Nat renaming le_refl->qj,zero_le->KH,le_trans->KI,ne_of_lt->KZ,lt_of_lt_of_le->K4,lt_irrefl->MQ,lt_succ_self->NH,lt_succ_of_lt->NQ,min_eq_left->NU,le_succ->N4,min_eq_right->N6,eq_zero_of_not_pos->Pe,ne_of_gt->Qk,le_of_eq->Qm,le_of_succ_le->Qx,succ_le_succ->QB,le_add_right->QG,le_of_lt->Q0,zero_add->Ro
open _root_.Ne renaming symm->qs
open _root_.Option.some renaming inj->rk
open _root_.Sum renaming inl->sS,inr->D2
open _root_.Bool renaming false_ne_true->tu,false_eq_true->LF,eq_iff_iff->MB,and_eq_true->NJ,and_false->Pu,and_eq_true_iff->PB,false_or->RJ,or_false->RL
open _root_.PySem.PassesOwn renaming never->C1
open _root_.Int renaming emod_lt_of_pos->K7,le_of_lt->La,emod_nonneg->Lf,le_refl->Ll,toNat_natCast->LY,le_trans->Ma,toNat->ND,toNat_of_nonneg->N1,lt_of_lt_of_le->P6,lt_of_le_of_lt->P7
open _root_.Array renaming length_toList->Lr,toList_append->LA,getElem?_toList->LL,perm_iff_toList_perm->Mf,toList_extract->Ob,toList_reverse->Oc,toList_push->Oz,size_push->OL,size_map->Rq
open _root_.PySem.F renaming plainAttrs_list->Ls,slot_list_extend->Mo,plainAttrs_dict->MC,slot_dict_get->Nd,slot_dict_itemiterator_iter->Nf,slot_list_append->Nh,type_list_append->Ni,slot_dict_setdefault->NY,entry_dict_get->Of,plain_extend_loop->Oi,slot_dict_values->OD,type_list_remove->OE,slot_list_index->OM,args_dict_get_2->ON,args_dict_get_3->OO,slot_dict_items->OQ,slot_list_remove->OR,type_list_extend->OS,slot_dict_pop->Pl,type_dict_get->Pm
open _root_.True renaming intro->LH
open _root_.False renaming elim->LU
open _root_.List.Perm renaming append_right->Mu,append_left->MF,trans->NX
open _root_.Classical renaming byContradiction->MZ
open _root_.List.Nodup renaming mem_erase_iff->Ng
open _root_.PySem.Data renaming cell->NG,fields->Ou,seq->Ri
open _root_.PySem.IsL renaming update->NK
open _root_.PySem.SeqAt renaming EqAt->Oa
open _root_.List.Pairwise renaming nil->Oy
open _root_.Prod.mk renaming inj->OA
open _root_.PySem.SeqAt.EqAt renaming int_str->PU,str_int->PV
open _root_.PyProof.Rows.SortSt renaming mk'->Qb
open _root_.PySem.Around renaming under->Qn
open _root_.PySem.Code renaming isFrame->Qo,frames->Se
open _root_.Prod renaming ext->Qq
open _root_.PySem.SeqAt.RcNeAt renaming lists_lengths->Qu,tuples->RB,lists->RK
open _root_.Sum.inl renaming inj->QK
open _root_.Array.Perm renaming refl->QS
open _root_.ForInStep renaming yield->QT
open _root_.PySem.EqMixed renaming eq_bool_str->Rw,eq_str_bool->Rx,ne_bool_str->Ry,ne_str_bool->Rz,eq_int_str->RC,eq_str_int->RD,ne_int_str->RE,ne_str_int->RH
open _root_.PyProof.Rows.LSm renaming kept_iter->RM
open _root_.PyProof.Rows.IsTup renaming new->RP
open _root_.PySem.Walks renaming range->Sb,list->Sq
open _root_.PySem.IsRange renaming new->Sd
open _root_.PySem.W.Looks renaming here->Sl
open _root_.PySem.W.WShape renaming has->Sm
open _root_.Or renaming inl->Sn,inr->So
theorem Su {c:Prop}{h:Decidable c}(n:¬c){α:Sort u}{t e:α}:ite c t e=e:=if_neg n
theorem Sv {c:Prop}{h:Decidable c}(n:c){α:Sort u}{t e:α}:ite c t e=t:=if_pos n
section
local macro_rules|`(tactic|show $t)=>`(tactic|refine $t)
open Lean in
local macro_rules|`(#[$xs,*])=>do
 let T:=([← `(⟨_,rfl⟩),← `(⟨rfl,rfl⟩),← `(⟨_,_⟩),← `(⟨?_,?_⟩),← `(⟨rfl,_⟩),← `(⟨rfl,?_⟩)]:List (TSyntax `term))
 let mut r:Array (TSyntax `term):=Array.mk []
 for x in xs.getElems do
  match x.raw.isNatLit? with
  |some k=>
   match T[k]! with
   |`(⟨$ys,*⟩)=>r:=r++ys.getElems
   |_=>r:=r
  |_=>r:=r.push x
 `(⟨$r,*⟩)
open Lean in
local macro_rules|`(tactic|let $p:term:=$e)=>do
 let rec go (n:Nat)(t:Syntax):MacroM (TSyntax `rcasesPat):=do
  match n with
  |0=>Macro.throwUnsupported
  |n+1=>match t with
   |`($i:ident)=>`(rcasesPat|$i:ident)
   |`(_)=>`(rcasesPat|_)
   |`(#[$xs,*])=>do `(rcasesPat|⟨$(←xs.getElems.mapM fun x=>do `(Parser.Tactic.rcasesPatLo|$(←go n x):rcasesPat)),*⟩)
   |_=>Macro.throwUnsupported
 match p with
 |`(#[$_,*])=>do `(tactic|obtain $(←go 99 p):rcasesPat := $e)
 |_=>Macro.throwUnsupported
namespace L2
open PySem PySem.Spec PyProof.Rows
noncomputable abbrev Key:=Sum Int Str
noncomputable def nG:Key->Value->Bool
 |.inl k,v=>Value.isInt k v
 |.inr x,v=>Value.isStrOf x v
noncomputable def JN (w:Bd):Key->Int
 |.inl k=>hashInt k
 |.inr x=>hashStr w x
theorem cy:∀{k:Key}{v:Value},nG k v=true->(∃i t,k=sS i/\v=Value.int i t)\/(∃x t,k=D2 x/\v=Value.str x t)
 |.inl i,v,h=>by
  let#[t,e]:=Value.isInt_shape (k:=i) (v:=v) h;show .inl #[i,t,rfl,e]
 |.inr x,v,h=>by
  let#[t,e]:=Value.isStrOf_shape (x:=x) (v:=v) h;show .inr #[x,t,rfl,e]
theorem xR (i:Int) (t:Ss):nG (.inl i) (.int i t)=true:=by simp[nG,Value.isInt]
theorem yG (x:Str) (t:Ss):nG (.inr x) (.str x t)=true:=by simp[nG,Value.isStrOf]
theorem Ek (a b:Int):decide ((sS a:Key)=sS b)=(a==b):=by
 by_cases e:a=b
 .subst e;simp
 .have h:¬ (sS a:Key)=sS b:=λq=>e (QK q);rw[decide_eq_false h];show(beq_eq_false_iff_ne.mpr e).symm
theorem E7 (a b:Str):decide ((D2 a:Key)=D2 b)=decide (a=b):=by
 by_cases e:a=b
 .subst e;simp
 .have h:¬ (D2 a:Key)=D2 b:=λq=>e (Sum.inr.inj q);rw[decide_eq_false h,decide_eq_false e]
theorem Fl (a:Int) (b:Str):decide ((sS a:Key)=D2 b)=false:=decide_eq_false (λq=>nomatch q)
theorem EW (a:Str) (b:Int):decide ((D2 a:Key)=sS b)=false:=decide_eq_false (λq=>nomatch q)
noncomputable def br (prog:rr) (w:Bd):PySem.KeyKind prog w Key where
 is:=nG
 hash:=JN w
 inj:=λv a b N J=>by
  rcases cy N with⟨i,t,rfl,rfl⟩|⟨x,t,rfl,rfl⟩
  .rcases cy J with⟨j,u,rfl,e⟩|⟨y,u,rfl,e⟩
   .injection e with G _;rw[G]
   .show nomatch e
  .rcases cy J with⟨j,u,rfl,e⟩|⟨y,u,rfl,e⟩
   .show nomatch e
   .injection e with G _;rw[G]
 byValue:=λk v h=>by
  rcases cy h with⟨i,t,rfl,rfl⟩|⟨x,t,rfl,rfl⟩<;>rfl
 pyHash:=λI h=>by
  rcases cy I with⟨i,t,rfl,rfl⟩|⟨x,t,rfl,rfl⟩
  .show wpAny_pyHash_int h
  .show wpAny_pyHash_str h
 eqBool:=λL I h=>by
  rcases cy L with⟨i,t,rfl,rfl⟩|⟨x,t,rfl,rfl⟩
  .rcases cy I with⟨j,u,rfl,rfl⟩|⟨y,u,rfl,rfl⟩
   .rw[Ek]at h;show wpAny_eqBool_int h
   .rw[Fl]at h;show PU i t y u _ _ _ _ h
  .rcases cy I with⟨j,u,rfl,rfl⟩|⟨y,u,rfl,rfl⟩
   .rw[EW]at h;show PV x t j u _ _ _ _ h
   .rw[E7]at h;show wpAny_eqBool_str h
 «strs» := λk x t v h=>by
  rcases cy h with⟨i,u,rfl,e⟩|⟨y,u,rfl,e⟩
  .show nomatch e
  .injection e with G _;subst G;cases v<;>rfl
theorem tU (prog:rr) (w:Bd) (i:Int) (t:Ss):(br prog w).is (.inl i) (.int i t)=true:=xR i t
theorem sY (prog:rr) (w:Bd) (x:Str) (t:Ss):(br prog w).is (.inr x) (.str x t)=true:=yG x t
inductive V where
 |non|bl (b:Bool)|int (i:Int)|str (x:Str)|byt (b:Array UInt8)|flt (b:UInt64)|ref (a:Addr)|ty (n:String)
 deriving DecidableEq
noncomputable def RelV:V->Value->Prop
 |.non,u=>u=Value.none
 |.bl b,u=>u=Value.bool b
 |.int i,u=>∃t,u=Value.int i t
 |.str x,u=>∃t,u=Value.str x t
 |.byt b,u=>∃t,u=Value.bytes b t
 |.flt b,u=>∃t,u=Value.float b t
 |.ref a,u=>u=Value.ref a
 |.ty n,u=>u=Value.type n
noncomputable abbrev Vals:List V->List Value->Prop:=Paired RelV
theorem Vals.length {xs:List V}{us:List Value}(r:Vals xs us):xs.length=us.length:=Paired.length r
theorem Vals.get:∀{xs:List V}{us:List Value}{i:Nat}{x:V},Vals xs us->xs[i]?=some x->∃u,us[i]?=some u/\RelV x u
 |_,_,_,_,.nil,e=>by simp at e
 |_,_,0,_,.cons r _,e=>by simp at e;subst e;show#[0,r]
 |_,_,i+1,x,.cons _ t,e=>by
  let#[u,h1,h2]:=Vals.get (i:=i) (x:=x) t (by simpa using e);show#[u,by simpa using h1,h2]
theorem Vals.set {x:V}{u:Value}(r:RelV x u):∀{xs:List V}{us:List Value}(i:Nat),Vals xs us->Vals (xs.set i x) (us.set i u)
 |_,_,_,.nil=>.nil
 |_,_,0,.cons _ t=>.cons r t
 |_,_,i+1,.cons q t=>.cons q (Vals.set r i t)
theorem Vals.append:∀{xs ys:List V}{us ws:List Value},Vals xs us->Vals ys ws->Vals (xs++ys) (us++ws)
 |_,_,_,_,.nil,s=>s
 |_,_,_,_,.cons r t,s=>.cons r (Vals.append t s)
theorem Vals.take:∀{xs:List V}{us:List Value}(n:Nat),Vals xs us->Vals (xs.take n) (us.take n)
 |_,_,0,_=>.nil
 |_,_,_+1,.nil=>.nil
 |_,_,n+1,.cons r t=>.cons r (Vals.take n t)
theorem Vals.drop:∀{xs:List V}{us:List Value}(n:Nat),Vals xs us->Vals (xs.drop n) (us.drop n)
 |_,_,0,r=>r
 |_,_,_+1,.nil=>.nil
 |_,_,n+1,.cons _ t=>Vals.drop n t
noncomputable def fW:Option V->Option Value->Prop
 |some v,some u=>RelV v u
 |none,none=>True
 |_,_=>False
noncomputable def KV {κ:Type}:List (κ×V)->List (κ×Value)->Prop:=Paired λ(p:κ×V) (q:κ×Value)=>p.1=q.1/\RelV p.2 q.2
noncomputable def kV:Key->V
 |.inl i=>.int i
 |.inr x=>.str x
inductive HO where
  |lst (xs:List V)
  |tup (xs:List V)
  |dK (kvs:List (Key×V))|dT (kvs:List (List Key×V))
  |set (S:Int->Bool) (n:Nat)
  |ins (C dx:Addr) (fs:List (Str×V))
  |own (x:Addr)
  |xd (fs:List (Str×V))
  |met (f x:Addr)
  |rng (lo hi:Int)
  |bO (o:Obj) (u:HO)
  |tbl (ps:Array Value)
  |ext (φ:Heap->Prop)
noncomputable abbrev Hp:=Addr->Option HO
noncomputable def upd (H:Hp) (a:Addr) (o:HO):Hp:=λb=>if b=a then some o else H b
theorem af {H:Hp}{a:Addr}{o:HO}:upd H a o a=some o:=by unfold upd;rw[Sv rfl]
theorem ah {H:Hp}{a b:Addr}{o:HO}(h:b≠a):upd H a o b=H b:=by unfold upd;rw[Su h]
theorem cI {H:Hp}{a b:Addr}{o u:HO}(h:H a=some o) (h':H b=some u) (d:o≠u):a≠b:=by
 intro e;subst e;rw[h]at h';show d (rk h')
theorem ar {H:Hp}{a b:Addr}{o:HO}(h:H a=some o) (h':H b=none):a≠b:=by
 intro e;subst e;rw[h]at h';cases h'
section
variable (P:rr) (w:Bd)
noncomputable def bT (H:Hp) (h:Heap) (a:Addr):HO->Prop
 |.lst xs=>xs.length<=sizeLine/\∃(its:List Value) (n:Nat),Vals xs its/\h.get? a=some { cls:=.type "list",data:=.seq its.toArray n }
 |.tup xs=>xs.length<=sizeLine/\∃its:List Value,Vals xs its/\IsTup h a its.toArray
 |.dK kvs=>kvs.length<=sizeLine/\(a==LS)=false/\∃vs,KV kvs vs/\h.DictOf (br P w) a vs
 |.dT kvs=>kvs.length<=sizeLine/\(a==LS)=false/\∃xs:List (List Key×Addr×Value),
   Paired (λ(p:List Key×V) (q:List Key×Addr×Value)=>p.1=q.1/\H q.2.1=some (.tup (p.1.map kV))/\RelV p.2 q.2.2) kvs xs /\
   ∃o es ep,h.get? a=some o/\o.ExactDict/\o.data=.dict es ep/\es.toList=xs.map (entryOfKey (NF (br P w)))/\(xs.map (·.1)).Nodup
 |.set S n=>h.SetOf (intKind P w) a S n
 |.ins C dx fs=>H dx=some (.own a)/\fs.length<=1000/\dx≠a/\h.get? a=some (instObj C dx) /\
   ∃mA,h.Ns1 dx mA/\(∀f,fW (fs.lookup f) (mA f))/\Qe mA (fs.map (·.1))
 |.own _=>∃o,h.get? a=some o
 |.xd fs=>∃mA,h.Ns1 a mA/\∀f,fW (fs.lookup f) (mA f)
 |.rng lo hi=>∃t u v,h.get? a=some { cls:=.type "range",data:=.fields ([.int lo t,.int hi u,.int 1 v].toArray) }
 |.bO o u=>h.get? a=some o/\bT H h a u
 |.tbl ps=>h.get? a=some { cls:=.none,data:=.fields ps }
 |.met f x=>h.get? a=some (RO (.ref f) (.ref x))
 |.ext G=>G h/\(∃o,h.get? a=some o)/\∀h1 h2:Heap, G h1->(∀o,h1.get? a=some o->h2.get? a=some o)->G h2
noncomputable def iZ (H:Hp) (h:Heap):Prop:=∀a o,H a=some o->bT P w H h a o
end
section
variable {P:rr}{w:Bd}{H H':Hp}{h h':Heap}{a:Addr}{o:HO}
theorem bT.lt (x:bT P w H h a o):a<h.objs.size:=by
 cases o with
 |lst xs=>let#[_,_,_,_,e]:=x;show Heap.lt_size e
 |tup xs=>let#[_,_,_,p]:=x;show p.lt
 |dK kvs=>let#[_,_,_,_,o,_,_,e,_]:=x;show Heap.lt_size e
 |dT kvs=>let#[_,_,_,_,o,_,_,e,_]:=x;show Heap.lt_size e
 |set S n=>let#[o,_,_,_,e,_]:=x;show Heap.lt_size e
 |ins C dx fs=>let#[_,_,_,e,_]:=x;show Heap.lt_size e
 |own y=>let#[_,e]:=x;show Heap.lt_size e
 |xd fs=>let#[_,#[_,_,_,e,_],_]:=x;show Heap.lt_size e
 |rng lo hi=>let#[_,_,_,e]:=x;show Heap.lt_size e
 |bO ob u=>let#[e,_]:=x;show Heap.lt_size e
 |tbl ps=>show Heap.lt_size (show h.get? a=some _ from x)
 |met f y=>show Heap.lt_size (show h.get? a=some _ from x)
 |ext G=>let#[_,#[_,e],_]:=x;show Heap.lt_size e
theorem Paired.zc {α I:Type}{F G:α->I->Prop}:∀{l₁:List α}{l₂:List I},Paired F l₁ l₂->(∀a b,F a b->G a b)->Paired G l₁ l₂
 |_,_,.nil,_=>.nil
 |_,_,.cons r t,f=>.cons (f _ _ r) (Paired.zc t f)
theorem bT.mW (x:bT P w H h a o) (k:∀b u,(b=a\/H b=some (.own a))->h.get? b=some u->h'.get? b=some u)
  (J:∀b,H b=some (.own a)->H' b=some (.own a)) (G:∀b xs,H b=some (.tup xs)->H' b=some (.tup xs)):bT P w H' h' a o:=by
 induction o with
 |lst xs=>let#[z,its,n,r,e]:=x;show#[z,its,n,r,k _ _ (.inl rfl) e]
 |tup xs=>let#[z,its,r,ob,e,c]:=x;show#[z,its,r,ob,k _ _ (.inl rfl) e,c]
 |dK kvs=>let#[z,y,vs,r,ob,es,ep,e,c]:=x;show#[z,y,vs,r,ob,es,ep,k _ _ (.inl rfl) e,c]
 |dT kvs =>
  let#[z,y,xs,r,ob,es,ep,e,c]:=x;show#[z,y,xs,Paired.zc r λp q z=>#[z.1,G _ _ z.2.1,z.2.2],ob,es,ep,k _ _ (.inl rfl) e,c]
 |set S n=>let#[ob,es,ep,t,e,c]:=x;show#[ob,es,ep,t,k _ _ (.inl rfl) e,c]
 |ins C dx fs =>
  let#[d,z,N,e,mA,#[od,es,ep,L,c],r]:=x;show#[J _ d,z,N,k _ _ (.inl rfl) e,mA,#[od,es,ep,k _ _ (.inr d) L,c],r]
 |own y=>let#[ob,e]:=x;show#[ob,k _ _ (.inl rfl) e]
 |xd fs=>let#[mA,#[od,es,ep,e,c],r]:=x;show#[mA,#[od,es,ep,k _ _ (.inl rfl) e,c],r]
 |rng lo hi=>let#[t,u,v,e]:=x;show#[t,u,v,k _ _ (.inl rfl) e]
 |bO ob u I=>let#[e,q]:=x;show#[k _ _ (.inl rfl) e,I q]
 |tbl ps =>
  have e:h.get? a=some { cls:=.none,data:=.fields ps }:=x;change h'.get? a=some { cls:=.none,data:=.fields ps };show k a _ (.inl rfl) e
 |met f y =>
  have e:h.get? a=some (RO (.ref f) (.ref y)):=x;change h'.get? a=some (RO (.ref f) (.ref y));show k a _ (.inl rfl) e
 |ext O=>let#[p,#[o,e],st]:=x;show#[st _ _ p λo q=>k _ _ (.inl rfl) q,#[o,k _ _ (.inl rfl) e],st]
theorem iZ.lt (x:iZ P w H h) (e:H a=some o):a<h.objs.size:=(x a o e).lt
theorem iZ.fresh (x:iZ P w H h) (e:h.objs.size<=a):H a=none:=by
 cases q:H a with
 |none=>rfl
 |some u=>show absurd (K4 (x.lt q) e) (MQ _)
theorem iZ.kept (x:iZ P w H h) (k:∀b u,h.get? b=some u->h'.get? b=some u):iZ P w H h':=λa o e =>
 (x a o e).mW (λb u _ q=>k b u q) (λ_ q=>q) λ_ _ q=>q
theorem iZ.laid (x:iZ P w H h) (k:∀b u,h.get? b=some u->h'.get? b=some u) (J:h.objs.size<=a) (new:bT P w (upd H a o) h' a o):iZ P w (upd H a o) h':=λb u e=>by
 have G:=x.fresh J;by_cases I:b=a
 .subst I;rw[af]at e;cases e;show new
 .rw[ah I]at e;show(x b u e).mW (λc v _ q=>k c v q) (λc q=>by rw[ah (ar q G)];show q) λc xs q=>by rw[ah (ar q G)];show q
end
noncomputable def Rd (H:Hp) (a:Addr) (u:HO):Prop:=H a=some u\/∃o,H a=some (.bO o u)
theorem Rd.ok {P:rr}{w:Bd}{H:Hp}{h:Heap}{a:Addr}{u:HO}(r:Rd H a u) (x:iZ P w H h):bT P w H h a u:=by
 rcases r with r|⟨o,r⟩
 .show x a u r
 .let#[_,q]:=x a _ r;show q
noncomputable def FU:Option HO->Prop
 |some (.lst _)=>True
 |some (.dK _)=>True
 |some (.dT _)=>True
 |some (.set _ _)=>True
 |some (.ins _ _ _)=>True
 |some (.ext _)=>True
 |_=>False
section
variable {P:rr}{w:Bd}{H:Hp}{h h':Heap}{x e:Addr}{o':HO}
theorem iZ.write (ok:iZ P w H h) (L:FU (H x)) (R:e=x\/H e=some (.own x)) (k:∀b u,b≠e->h.get? b=some u->h'.get? b=some u) (U:∃u,h'.get? e=some u)
  (new:bT P w (upd H x o') h' x o'):iZ P w (upd H x o') h':=λb u q=>by
 have N:∀c y,H c=some (.own y)->c≠x:=λc y r z=>(by subst z;rw[r]at L;show L);have S:∀c xs,H c=some (.tup xs)->c≠x:=λc xs r z=>(by subst z;rw[r]at L;show L);by_cases J:b=x
 .subst J;rw[af]at q;cases q;show new
 .rw[ah J]at q;by_cases I:b=e
  .have O:H b=some (.own x):=by
    rcases R with z|z
    .show absurd (I.trans z) J
    .rw[I];show z
   rw[q]at O;cases O;let#[v,Y]:=U;show#[v,by rw[I];show Y]
  .show(ok b u q).mW (λc v G r=>k c v ?_ r) (λc r=>by rw[ah (N c b r)];show r) λc xs r=>(by rw[ah (S c xs r)];show r);rcases G with rfl|G
   .show I
   .rintro rfl;rcases R with z|z
    .show N c b G z
    .rw[G]at z;cases z;show J rfl
end
structure Un (fs ex:List Addr) (H H':Hp) (h h':Heap):Prop where
 keep:∀b o,h.get? b=some o->H b=none->b∉fs->b∉ex->h'.get? b=some o
 slot:∀b o,h.get? b=some o->H b=none->b∈fs->b∉ex->∃sl,h'.get? b=some { o with slots:=sl }
 free:∀b o,h.get? b=some o->H b=none->b∉ex->H' b=none
 there:∀b o,h.get? b=some o->b∉ex->∃o',h'.get? b=some o'
 mf:∀b xs,H b=some (.tup xs)->H' b=some (.tup xs)
 oN:∀b o u,H b=some (.bO o u)->H' b=some (.bO o u)
 qQ:∀b ps,H b=some (.tbl ps)->∃more,H' b=some (.tbl (ps++more))
section
variable {fs fs' ex ex':List Addr}{H H1 H2:Hp}{h h1 h2 h':Heap}{a x e:Addr}{o:HO}
theorem Un.any (u:Un fs ex H H1 h h1) {b:Addr}{ob:Obj}(q:h.get? b=some ob) (n:H b=none) (G:b∉ex):∃sl,h1.get? b=some { ob with slots:=sl }:=by
 by_cases I:b∈fs
 .show u.slot b ob q n I G
 .show#[ob.slots,u.keep b ob q n I G]
theorem Un.kept (k:∀b u,h.get? b=some u->h'.get? b=some u):Un fs ex H H h h' :=
 #[λb ob q _ _ _=>k b ob q,λb ob q _ _ _=>#[ob.slots,k b ob q],λ_ _ _ n _=>n,λb ob q _=>#[ob,k b ob q],λ_ _ q=>q,λ_ _ _ q=>q,λ_ ps q=>#[([].toArray),by rw[q];simp]]
theorem Un.refl:Un fs ex H H h h:=Un.kept λ_ _ q=>q
theorem Un.laid (k:∀b u,h.get? b=some u->h'.get? b=some u) (I:h.objs.size<=a) (G:H a=none):Un fs ex H (upd H a o) h h' where
 keep:=λb u q _ _ _=>k b u q
 slot:=λb u q _ _ _=>#[u.slots,k b u q]
 free:=λb u q n _=>by rw[ah (KZ (K4 (Heap.lt_size q) I))];show n
 there:=λb u q _=>#[u,k b u q]
 mf:=λb xs q=>by rw[ah (ar q G)];show q
 oN:=λb u xs q=>by rw[ah (ar q G)];show q
 qQ:=λb ps q=>#[([].toArray),by rw[ah (ar q G),q];simp]
theorem Un.write (G:FU (H x)) (O:e=x\/H e=some (.own x)) (k:∀b u,b≠e->h.get? b=some u->h'.get? b=some u) (R:∃u,h'.get? e=some u):Un fs ex H (upd H x o) h h':=by
 have J:∀b,H b=none->b≠x:=λb n z=>(by subst z;rw[n]at G;show G);have N:∀b,H b=none->b≠e:=λb n z=>by
  subst z;rcases O with r|r
  .show J b n r
  .rw[n]at r;cases r
 have I:∀b u,H b=some u->¬ FU (some u)->b≠x:=λb u q nm z=>(by subst z;rw[q]at G;show nm G);show#[λb u q n _ _=>k b u (N b n) q,λb u q n _ _=>#[u.slots,k b u (N b n) q],λb u q n _=>by rw[ah (J b n)];show n,λb u q _=>?_,
  λb xs q=>by rw[ah (I b _ q λz=>z)];show q,λb u xs q=>by rw[ah (I b _ q λz=>z)];show q,λb ps q=>#[([].toArray),by rw[ah (I b _ q λz=>z),q];simp]]
 by_cases L:b=e
 .subst L;show R
 .show#[u,k b u L q]
end
noncomputable def Ir (h:Heap) (H:Hp):List Addr:=(KD h.objs.size).filter λa=>(H a).isSome
noncomputable def rZ (h:Heap) (H:Hp):Heap:=PySem.W.hideAll h (Ir h H)
theorem xN (h:Heap) (H:Hp):(rZ h H).objs.size=h.objs.size:=PySem.W.hideAll_size _ _
theorem zp {h:Heap}{H:Hp}{b:Addr}{o:Obj}(e:h.get? b=some o) (n:H b=none):(rZ h H).get? b=some o :=
 PySem.W.hideAll_get _ e λG=>by
  have q:(H b).isSome=true:=(Mz.mp G).2;rw[n]at q;simp at q
theorem B9 {h:Heap}{H:Hp}{b:Addr}{o:Obj}(e:(rZ h H).get? b=some o):h.get? b=some o/\H b=none:=by
 have G:h.get? b=some o:=PySem.W.of_hideAll (Ir h H) e;show#[G,?_];cases q:H b with
 |none=>rfl
 |some x =>
  have I:b∈Ir h H:=Mz.mpr #[K5.mpr (Heap.lt_size G),by simp[q]];have z:(rZ h H).get? b=none:=PySem.W.hideAll_none (Ir h H) I;rw[z]at e;cases e
structure Mod (K:iF) (mg:Str->Option Value) (base:Heap):Prop where
 F9:K.In base
 glob:base.Ns Lc mg
 blt:∃mb,base.Ns QZ mb/\∀x:Str,x ≠ "__name__" -> mb x=KS x
 nolimit:base.NoLimit
structure Cx where
 prog:rr
 w:Bd
 K:iF
 mg:Str->Option Value
 base:Heap
 A:KL
 N:List Str
 s₀:mu
 H₀:Hp
 env:RU
 outer:List RU
 stack:List RU
 ex:List Addr
 fn:Str->Bool
 calm:Bool
 pn:List (Addr×Obj)
 xe:Value->mu->Prop
noncomputable def yY (l:List RU):List Addr:=l.filterMap (·.frame)
noncomputable abbrev Cx.fs (X:Cx):List Addr:=yY X.outer
noncomputable def Il (G:Om) (x:Str):Prop:=G.names.lookup x=some .local\/G.names.lookup x=some .cell\/G.names.lookup x=some .free
noncomputable def Loc (G:Om) (x:Str):Prop:=G.names.lookup x=some .local\/G.names.lookup x=some .cell
noncomputable def Look (env:RU) (h:Heap) (m:Str->Option Value) (x:Str) (u:Value):Prop :=
 (env.kindOf x=some .local/\m x=some u)\/((env.kindOf x=some .cell\/env.kindOf x=some .free)/\∃c,env.cells.lookup x=some c/\h.IsCell c (some u))
structure Cx.Ok (X:Cx):Prop where
 mod:Mod X.K X.mg X.base
 kind:X.env.scope.kind=.function
 glob:X.env.globals=Lc
 blt:X.env.builtins=QZ
 above:X.s₀.heap.objs.size<=X.env.locals
 inj:∀x y c,X.env.cells.lookup x=some c->X.env.cells.lookup y=some c->x=y
 has:∀x,(X.env.kindOf x=some .cell\/X.env.kindOf x=some .free)->∃c,X.env.cells.lookup x=some c
 FP:∀x c,X.fn x=true->X.env.cells.lookup x=some c->X.s₀.heap.objs.size<=c
 hd:X.calm=true->X.A.handled=none
 frames:X.A.frames=some X.stack
 HY:X.stack=X.outer\/(X.stack=X.env::X.outer/\X.env.frame=some X.env.locals)
 JR:∀b∈X.ex,b≠X.env.locals/\∀x c,X.env.cells.lookup x=some c->c≠b
 bs:∀b o,X.base.get? b=some o->X.s₀.heap.get? b=some o/\X.H₀ b=none
 BA:X.base.objs.size<=X.s₀.heap.objs.size
 yE:∀b o,X.base.get? b=some o->b∉X.ex
 yR:∀b∈X.ex,b∉X.fs
 j5:X.s₀.heap.FunFrames X.base X.outer
 DG:∀b∈X.fs,X.H₀ b=none
structure Inv (X:Cx) (pins:List (Addr×Obj)) (σ:List (Option V)) (H:Hp) (s:mu):Prop where
 ok:X.Ok
 os:s.os=X.s₀.os
 bare:Oo s.gens
 base:Un X.fs X.ex X.H₀ H X.s₀.heap s.heap
 loc:∃m,s.heap.Ns X.env.locals m/\∀(i:Nat) (x:Str) (v:V),X.N[i]?=some x->σ[i]?=some (some v)->Il X.env.scope x->∃u,RelV v u/\Look X.env s.heap m x u
 cell:∀x c,X.env.cells.lookup x=some c->∃v,s.heap.IsCell c v
 free:H X.env.locals=none
 gH:∀x c,X.env.cells.lookup x=some c->H c=none
 pin:∀p∈X.pn++pins,s.heap.get? p.1=some p.2/\H p.1=none/\p.1≠X.env.locals/\p.1∉X.fs/\∀v,p.2.data≠.cell v
 bE:iZ X.prog X.w H s.heap
 len:σ.length=X.N.length
section
variable {X:Cx}{pins:List (Addr×Obj)}{σ:List (Option V)}{H H':Hp}{s:mu}{h':Heap}
theorem Cx.Ok.JO (ok:X.Ok) {b:Addr}{o:Obj}(e:X.base.get? b=some o):b∉X.fs:=λG=>by
 have:=(ok.j5.mem G).1;rw[e]at this;cases this
theorem Inv.bs (I:Inv X pins σ H s):∀b o,X.base.get? b=some o->s.heap.get? b=some o/\H b=none:=λb o e =>
 #[I.base.keep b o (I.ok.bs b o e).1 (I.ok.bs b o e).2 (I.ok.JO e) (I.ok.yE b o e),I.base.free b o (I.ok.bs b o e).1 (I.ok.bs b o e).2 (I.ok.yE b o e)]
theorem Inv.bk (I:Inv X pins σ H s):∀b o,X.base.get? b=some o->s.heap.get? b=some o:=λb o e=>(I.bs b o e).1
theorem Inv.mod (I:Inv X pins σ H s):Mod X.K X.mg X.base:=I.ok.mod
theorem Inv.kJ (I:Inv X pins σ H s):X.K.In s.heap:=I.ok.mod.F9.keeps I.bk
theorem Inv.lt (I:Inv X pins σ H s):X.env.locals<s.heap.objs.size:=let ⟨_,G,_⟩:=I.loc;G.lt
theorem Inv.sz (I:Inv X pins σ H s):X.s₀.heap.objs.size<=s.heap.objs.size:=KI I.ok.above (Q0 I.lt)
theorem Inv.F2 (I:Inv X pins σ H s) {a:Addr}(h:s.heap.objs.size<=a):a∉X.fs:=λJ=>by
 let#[_,o,G,_]:=I.ok.j5.mem J;show absurd (K4 (Heap.lt_size G) (KI I.sz h)) (MQ _)
theorem Inv.DR (I:Inv X pins σ H s):∀x c,X.env.cells.lookup x=some c->c≠X.env.locals:=λx c e z=>by
 let#[v,o,G,hd]:=I.cell x c e;let#[m,#[o',es,ep,L,J,_],_]:=I.loc;rw[z,L]at G;cases G;rw[J]at hd;cases hd
theorem Inv.j5 (I:Inv X pins σ H s):s.heap.FunFrames X.base X.outer:=by
 have all:∀(l:List RU),(∀b∈yY l,b∈X.fs)->X.s₀.heap.FunFrames X.base l->s.heap.FunFrames X.base l:=by
  intro l
  induction l with
  |nil=>intro _ _;trivial
  |cons env r S =>
   intro hs O;let#[R,#[L,o,N,U,Y,hd],hr]:=O;have G:L∈X.fs:=hs L (by unfold yY;rw[NZ,N];show KW);let#[sl,e]:=I.base.slot L o Y (I.ok.DG L G) G λz=>I.ok.yR L z G;show#[R,#[L,_,N,U,e,hd],S (λb J=>hs b (by unfold yY;rw[NZ,N];show KQ _ J)) hr]
 show all X.outer (λ_ J=>J) I.ok.j5
theorem Inv.stack (I:Inv X pins σ H s):s.heap.FunFrames X.base X.stack:=by
 rcases I.ok.HY with e|⟨e,J⟩
 .rw[e];show I.j5
 .rw[e];let#[m,G,_]:=I.loc;show .cons (by rw[I.ok.kind];decide) J G ?_ I.j5;show Heap.get?_none_of_le (KI I.ok.BA I.ok.above)
theorem Inv.rl (I:Inv X pins σ H s):∀b∈yY X.stack,b∈X.env.locals::X.fs:=λb G=>by
 rcases I.ok.HY with e|⟨e,J⟩
 .rw[e]at G;show KQ _ G
 .rw[e]at G;unfold yY at G;rw[NZ,J]at G;show G
theorem Inv.xm (I:Inv X pins σ H s):∀b∈yY X.stack,H b=none:=λb G=>by
 rcases wh.mp (I.rl b G)with e|G
 .rw[e];show I.free
 .let#[_,o,J,_]:=I.ok.j5.mem G;show I.base.free b o J (I.ok.DG b G) λz=>I.ok.yR b z G
theorem Inv.step {g':Array Qf}{t':Nat}{d':Drawn}{ch:List Addr}(I:Inv X pins σ H s)
  (R:∀b∈ch,(b∈X.ex\/X.s₀.heap.objs.size<=b)/\b≠X.env.locals/\(∀x c,X.env.cells.lookup x=some c->c≠b)/\∀p∈X.pn++pins,p.1≠b)
  (keep:∀b o,b≠X.env.locals->b∉X.fs->b∉ch->s.heap.get? b=some o->H b=none->h'.get? b=some o)
  (slot:∀b o,b≠X.env.locals->b∈X.fs->b∉ch->s.heap.get? b=some o->H b=none->∃sl,h'.get? b=some { o with slots:=sl }) (free:∀b o,b∉ch->s.heap.get? b=some o->H b=none->H' b=none)
  (there:∀b o,b∉ch->s.heap.get? b=some o->∃o',h'.get? b=some o')
  (mf:∀b xs,H b=some (.tup xs)->H' b=some (.tup xs)) (oN:∀b o u,H b=some (.bO o u)->H' b=some (.bO o u)) (qQ:∀b ps,H b=some (.tbl ps)->∃ap,H' b=some (.tbl (ps++ap)))
  (ns:∀m,s.heap.Ns X.env.locals m->h'.Ns X.env.locals m) (bE:iZ X.prog X.w H' h') (hg:Oo g') :
  Inv X pins σ H' { s with heap:=h',gens:=g',drawn:=d',toks:=t' }:=by
 have ab:∀b o,X.s₀.heap.get? b=some o->b≠X.env.locals:=λb o e=>KZ (K4 (Heap.lt_size e) I.ok.above);have U:∀b o,X.s₀.heap.get? b=some o->b∉X.ex->b∉ch:=λb o e G L=>by
  rcases(R b L).1 with z|z
  .show G z
  .show absurd (K4 (Heap.lt_size e) z) (MQ _)
 have ac:∀x c,X.env.cells.lookup x=some c->∀v,s.heap.IsCell c v->h'.IsCell c v:=λx c e v am=>by
  let#[o,N,hd]:=am;have O:c∉ch:=λz=>(R c z).2.2.1 x c e rfl;by_cases Y:c∈X.fs
  .let#[sl,q]:=slot c o (I.DR x c e) Y O N (I.gH x c e);show#[_,q,hd]
  .show#[o,keep c o (I.DR x c e) Y O N (I.gH x c e),hd]
 show#[I.ok,I.os,hg,#[λb o e n L G=>?_,λb o e n L G=>?_,λb o e n G=>?_,λb o e G=>?_,λb xs e=>mf b xs (I.base.mf b xs e),λb o xs e=>oN b o xs (I.base.oN b o xs e),λb ps e=>?_],?_,λx c e=>?_,?_,λx c e=>?_,λp hp=>?_,bE,I.len]
 .show keep b o (ab b o e) L (U b o e G) (I.base.keep b o e n L G) (I.base.free b o e n G)
 .let#[sl,J]:=I.base.slot b o e n L G;let#[as,S]:=slot b _ (ab b o e) L (U b o e G) J (I.base.free b o e n G);show#[as,S]
 .let#[o',J]:=I.base.there b o e G;show free b o' (U b o e G) J (I.base.free b o e n G)
 .let#[o',J]:=I.base.there b o e G;show there b o' (U b o e G) J
 .let#[m1,J]:=I.base.qQ b ps e;let#[m2,S]:=qQ b _ J;show#[m1++m2,by rw[S,Array.append_assoc]]
 .let#[m,hn,hl]:=I.loc;show#[m,ns m hn,λi x v J S e3=>?_];let#[u,r,l]:=hl i x v J S e3;show#[u,r,?_];rcases l with l|⟨k,c,e,z⟩
  .show .inl l
  .show .inr #[k,c,e,ac x c e _ z]
 .let#[v,z]:=I.cell x c e;show#[v,ac x c e v z]
 .let#[m,#[o,_,_,N,_],_]:=I.loc;show free _ o (λz=>(R _ z).2.1 rfl) N I.free
 .let#[v,o,N,hd]:=I.cell x c e;show free c o (λz=>(R c z).2.2.1 x c e rfl) N (I.gH x c e)
 .let#[e,n,ne,nf,d]:=I.pin p hp;have O:p.1∉ch:=λz=>(R p.1 z).2.2.2 p hp rfl;show#[keep p.1 p.2 ne nf O e n,free p.1 p.2 O e n,ne,nf,d]
theorem Inv.un {t':Nat}(I:Inv X pins σ H s) (u:Un X.fs [] H H' s.heap h') (Y:iZ X.prog X.w H' h'):Inv X pins σ H' { s with heap:=h',toks:=t' }:=by
 let#[m,#[o,es,ep,J,r],_]:=id I.loc;let#[sl,N]:=u.any J I.free (by simp);show I.step (g':=s.gens) (d':=s.drawn) (ch:=[]) (λ_ z=>nomatch z) (λb o _ G _ e n=>u.keep b o e n G (by simp)) (λb o _ G _ e n=>u.slot b o e n G (by simp)) (λb o _ e n=>u.free b o e n (by simp)) (λb o _ e=>u.there b o e (by simp)) u.mf u.oN u.qQ (λm' U=>by
  let#[o',S,O,L,R]:=U;rw[J]at L;cases L;show#[_,S,O,N,R]) Y I.bare
theorem Inv.call {g':Array Qf}{t':Nat}{d':Drawn}{ch:List Addr}(I:Inv X pins σ H s) (u:Un (yY X.stack) ch H H' s.heap h') (U:iZ X.prog X.w H' h') (hg:Oo g')
  (L:∀b∈ch,(b∈X.ex\/X.s₀.heap.objs.size<=b)/\b≠X.env.locals/\(∀x c,X.env.cells.lookup x=some c->c≠b)/\∀p∈X.pn++pins,p.1≠b) :
  Inv X pins σ H' { s with heap:=h',gens:=g',drawn:=d',toks:=t' }:=by
 let#[m,#[o,es,ep,N,r],_]:=id I.loc;let#[sl,J]:=u.any N I.free λz=>(L _ z).2.1 rfl;show I.step (ch:=ch) L (λb o J hb G e n=>u.keep b o e n (λz=>(wh.mp (I.rl b z)).elim J hb) G) (λb o _ _ G e n=>u.any e n G) (λb o G e n=>u.free b o e n G) (λb o G e=>u.there b o e G) u.mf u.oN u.qQ (λm' hm=>by
  let#[o',S,Y,O,R]:=hm;rw[N]at O;cases O;show#[_,S,Y,J,R]) U hg
theorem Inv.turned {t':Nat}{it:Addr}(I:Inv X pins σ H s) (k:∀b o,b≠it->s.heap.get? b=some o->h'.get? b=some o) (O:H it=none) (J:it≠X.env.locals)
  (h1:it∈X.ex\/X.s₀.heap.objs.size<=it) (h2:∀x c,X.env.cells.lookup x=some c->c≠it) (U:∀p∈X.pn++pins,p.1≠it):Inv X pins σ H { s with heap:=h',toks:=t' }:=by
 have L:∀b u,H b=some u->b≠it:=λb u e z=>(by rw[z,O]at e;cases e);show I.step (g':=s.gens) (d':=s.drawn) (ch:=[it]) (λb N=>?_) (λb o _ _ G e _=>k b o (λz=>G (by simp[z])) e) (λb o _ _ G e _=>#[o.slots,k b o (λz=>G (by simp[z])) e]) (λ_ _ _ _ n=>n)
  (λb o G e=>#[o,k b o (λz=>G (by simp[z])) e]) (λ_ _ e=>e) (λ_ _ _ e=>e) (λb ps e=>#[([].toArray),by rw[e];simp]) (λm R=>?_) (λb u e=>?_) I.bare
 .have e:b=it:=(by simpa using N);subst e;show#[h1,J,h2,U]
 .let#[o,es,ep,S,r]:=R;show#[o,es,ep,k _ o (qs J) S,r]
 .show(I.bE b u e).mW (λc v G q=>k c v ?_ q) (λ_ q=>q) λ_ _ q=>q;rcases G with z|z
  .rw[z];show L b u e
  .show L c _ z
theorem Inv.tok (I:Inv X pins σ H s) (t:Nat):Inv X pins σ H { s with toks:=t }:=I.un (h':=s.heap) (t':=t) Un.refl I.bE
theorem Inv.kept {t':Nat}(I:Inv X pins σ H s) (k:∀b u,s.heap.get? b=some u->h'.get? b=some u):Inv X pins σ H { s with heap:=h',toks:=t' }:=I.un (Un.kept k) (I.bE.kept k)
theorem Inv.laid {a:Addr}{o:HO}{t':Nat}(I:Inv X pins σ H s) (k:∀b u,s.heap.get? b=some u->h'.get? b=some u) (G:s.heap.objs.size<=a) (new:bT X.prog X.w (upd H a o) h' a o) :
  Inv X pins σ (upd H a o) { s with heap:=h',toks:=t' }:=I.un (Un.laid k G (I.bE.fresh G)) (I.bE.laid k G new)
theorem Inv.write {x e:Addr}{o:HO}{t':Nat}(I:Inv X pins σ H s) (J:FU (H x)) (L:e=x\/H e=some (.own x)) (k:∀b u,b≠e->s.heap.get? b=some u->h'.get? b=some u) (G:∃u,h'.get? e=some u)
  (new:bT X.prog X.w (upd H x o) h' x o):Inv X pins σ (upd H x o) { s with heap:=h',toks:=t' }:=I.un (Un.write J L k G) (I.bE.write J L k G new)
theorem Inv.lD {G:List (Addr×Obj)}(I:Inv X pins σ H s) (h:∀p∈G,s.heap.get? p.1=some p.2/\H p.1=none/\p.1≠X.env.locals/\p.1∉X.fs/\∀v,p.2.data≠.cell v):Inv X G σ H s :=
 #[I.ok,I.os,I.bare,I.base,I.loc,I.cell,I.free,I.gH,λp J=>(oR.mp J).elim (λz=>I.pin p (LC _ z)) (h p),I.bE,I.len]
theorem tX {N:List Str}(G:N.Nodup) {i j:Nat}{x:Str}(a:N[i]?=some x) (b:N[j]?=some x):i=j:=by
 let#[h1,I]:=kz.mp a;let#[h2,J]:=kz.mp b;show(List.getElem_inj G).mp (I.trans J.symm)
theorem oW {M:Model}{A:KL}{E:Value->mu->Prop}{i:Nat}{x:Str}{v:V}{u:Value}{Q:Unit->mu->Prop}(I:Inv X pins σ H s) (hN:X.N.Nodup) (hi:X.N[i]?=some x) (L:Loc X.env.scope x) (r:RelV v u)
  (h:∀s',Inv X pins (σ.set i (some v)) H s'->(∃a,Heap.SameBut a s.heap s'.heap/\(a=X.env.locals\/X.env.cells.lookup x=some a))->Q () s') (hf:X.fn x=true\/X.env.scope.names.lookup x=some .local:=by first|show .inl rfl|show .inr rfl|assumption):wpAny M A (storeName X.env x u) Q E s:=by
 let#[m,hn,hl]:=id I.loc;have a1:(X.env.scope.kind == .class||(X.env.scope.kind == .module&&X.env.locals != X.env.globals))=false:=(by rw[I.ok.kind];rfl);have am:i<σ.length:=(by rw[I.len];show(kz.mp hi).1);have DR:=I.DR;have ac:∀{a:Addr}{h':Heap},(∃o,s.heap.get? a=some o/\H a=none)->Heap.SameBut a s.heap h'->iZ X.prog X.w H h':=λ{a h'} ha hs b ob e=>by
  let#[_,_,ap]:=ha;show(I.bE b ob e).mW (λc w' J q=>(hs.2 c ?_).trans q) (λ_ q=>q) λ_ _ q=>q;rintro rfl;rcases J with rfl|J
  .rw[ap]at e;cases e
  .rw[ap]at J;cases J
 rcases L with R|R
 .show wpAny_storeName_local R hn (λh' a2 hs=>?_) a1;let#[oL,_,_,a0,_]:=id hn;show h _ #[I.ok,I.os,I.bare,#[λb o e n U L=>?_,λb o e n U L=>?_,I.base.free,λb o e L=>?_,I.base.mf,I.base.oN,I.base.qQ],#[_,a2,λj y v' G O e3=>?_],λy c e=>?_,I.free,I.gH,λp hp=>?_,ac #[oL,a0,I.free] hs,by simpa using I.len] #[_,hs,.inl rfl]
  .show(hs.2 b (KZ (K4 (Heap.lt_size e) I.ok.above))).trans (I.base.keep b o e n U L)
  .let#[sl,G]:=I.base.slot b o e n U L;show#[sl,(hs.2 b (KZ (K4 (Heap.lt_size e) I.ok.above))).trans G]
  .let#[o',G]:=I.base.there b o e L;show#[o',(hs.2 b (KZ (K4 (Heap.lt_size e) I.ok.above))).trans G]
  .by_cases S:j=i
   .subst S;rw[hi]at G;cases G;rw[Ld am]at O;cases O;show#[u,r,.inl #[R,by simp]]
   .rw[KY (qs S)]at O;let#[u',r',q]:=hl j y v' G O e3;show#[u',r',?_];rcases q with⟨k,e⟩|⟨k,c,e,z⟩
    .show .inl #[k,?_];have:y≠x:=λe=>S (tX hN G (e▸hi));simp[this,e]
    .show .inr #[k,c,e,z.sameBut hs (DR y c e)]
  .let#[w',z]:=I.cell y c e;show#[w',z.sameBut hs (DR y c e)]
  .let#[e,n,ne,nf,d]:=I.pin p hp;show#[(hs.2 p.1 ne).trans e,n,ne,nf,d]
 .have ab:X.fn x=true:=by
   rcases hf with z|z
   .show z
   .rw[z]at R;cases R
  let#[c,J]:=I.ok.has x (.inl R);let#[w',z]:=I.cell x c J;show wpAny_storeName_cell I.ok.kind R J z (λh' aT hs=>?_);let#[oc,as,a3]:=id z;show h { s with heap:=h' } #[I.ok,I.os,I.bare,#[λb o e n U L=>?_,λb o e n U L=>?_,I.base.free,λb o e L=>?_,I.base.mf,I.base.oN,I.base.qQ],#[m,hn.sameBut hs (qs (DR x c J)),λj y v' G O e3=>?_],λy Y e=>?_,I.free,I.gH,λp hp=>?_,ac #[oc,as,I.gH x c J] hs,by simpa using I.len] #[c,hs,.inr J]
  .show(hs.2 b (KZ (K4 (Heap.lt_size e) (I.ok.FP x c ab J)))).trans (I.base.keep b o e n U L)
  .let#[sl,G]:=I.base.slot b o e n U L;show#[sl,(hs.2 b (KZ (K4 (Heap.lt_size e) (I.ok.FP x c ab J)))).trans G]
  .let#[o',G]:=I.base.there b o e L;show#[o',(hs.2 b (KZ (K4 (Heap.lt_size e) (I.ok.FP x c ab J)))).trans G]
  .by_cases S:j=i
   .subst S;rw[hi]at G;cases G;rw[Ld am]at O;cases O;show#[u,r,.inr #[.inl R,c,J,aT]]
   .rw[KY (qs S)]at O;let#[u',r',q]:=hl j y v' G O e3;show#[u',r',?_];rcases q with q|⟨k,Y,e,z'⟩
    .show .inl q
    .show .inr #[k,Y,e,z'.sameBut hs ?_];rintro rfl;show S (tX hN G (I.ok.inj _ _ _ e J▸hi))
  .by_cases aB:Y=c
   .subst aB;show#[_,aT]
   .let#[w2,z2]:=I.cell y Y e;show#[w2,z2.sameBut hs aB]
  .let#[e,n,ne,nf,d]:=I.pin p hp;show#[(hs.2 p.1 ?_).trans e,n,ne,nf,d];intro q;rw[q,as]at e;have q':oc=p.2:=rk e;show d w' (by rw[<-q'];show a3)
theorem ip {M:Model}{A:KL}{E:Value->mu->Prop}{i:Nat}{x:Str}{v:V}{u:Value}{Q:Unit->mu->Prop}(I:Inv X pins σ H s) (L:X.N.Nodup) (hi:X.N[i]?=some x) (J:Loc X.env.scope x) (r:RelV v u)
  (h:∀s',Inv X pins (σ.set i (some v)) H s'->Q () s') (O:X.fn x=true\/X.env.scope.names.lookup x=some .local:=by first|show .inl rfl|show .inr rfl|assumption):wpAny M A (storeName X.env x u) Q E s :=
 oW I L hi J r (λs' G _=>h s' G) O
theorem Inv.Gd {s':mu}{ch:List Addr}(I:Inv X pins σ H s) (J:s'.os=s.os) (u:Un (yY X.stack) ch H H' s.heap s'.heap) (L:iZ X.prog X.w H' s'.heap) (N:Oo s'.gens)
  (G:∀b∈ch,(b∈X.ex\/X.s₀.heap.objs.size<=b)/\b≠X.env.locals/\(∀x c,X.env.cells.lookup x=some c->c≠b)/\∀p∈X.pn++pins,p.1≠b):Inv X pins σ H' s':=by
 let#[h',g',d',t',o']:=s';have e:o'=s.os:=J;subst e;show I.call (g':=g') (t':=t') (d':=d') u L N G
end
noncomputable abbrev XK:=Value->Option Addr->Hp->Prop
noncomputable abbrev St:=List (Option V)
noncomputable abbrev VK:=V->Hp->Prop
noncomputable abbrev TE:=St->Hp->VK->Prop
noncomputable abbrev TT:=St->Hp->(Bool->Hp->Prop)->Prop
noncomputable abbrev TA:=St->Hp->(List V->Hp->Prop)->Prop
structure Ends where
 nx:St->Hp->Prop
 rt:VK
 bk:St->Hp->Prop:=λ_ _=>False
 ct:St->Hp->Prop:=λ_ _=>False
noncomputable abbrev TS:=Ends->St->Hp->Prop
noncomputable def EP (X:Cx) (pins:List (Addr×Obj)) (σ:St) (Q:VK) (u:Value) (s':mu):Prop:=∃v H',Inv X pins σ H' s'/\RelV v u/\Q v H'
noncomputable def TP (X:Cx) (pins:List (Addr×Obj)) (σ:St) (Q:Bool->Hp->Prop) (b:Bool) (s':mu):Prop:=∃H',Inv X pins σ H' s'/\Q b H'
noncomputable def AP (X:Cx) (pins:List (Addr×Obj)) (σ:St) (Q:List V->Hp->Prop) (us:List Value) (s':mu):Prop:=∃vs H',Inv X pins σ H' s'/\Vals vs us/\Q vs H'
noncomputable def SP (X:Cx) (pins:List (Addr×Obj)) (D:Ends) (f:Flow) (s':mu):Prop :=
 match f with
 |.next=>∃G H',Inv X pins G H' s'/\D.nx G H'
 |.brk=>∃G H',Inv X pins G H' s'/\D.bk G H'
 |.cont=>∃G H',Inv X pins G H' s'/\D.ct G H'
 |.ret u=>∃v G H',Inv X pins G H' s'/\RelV v u/\D.rt v H'
noncomputable def PE (X:Cx) (e:KN) (t:TE):Prop :=
 ∀(pins:List (Addr×Obj)) (s:mu) (σ:St) (H:Hp) (Q:VK),Inv X pins σ H s->t σ H Q->wpAny (model X.prog X.w) X.A (eval e X.env) (EP X pins σ Q) X.xe s
noncomputable def PT (X:Cx) (e:KN) (t:TT):Prop :=
 ∀(pins:List (Addr×Obj)) (s:mu) (σ:St) (H:Hp) (Q:Bool->Hp->Prop),Inv X pins σ H s->t σ H Q->wpAny (model X.prog X.w) X.A (isTrue e X.env (eval e X.env)) (TP X pins σ Q) X.xe s
noncomputable def PW (X:Cx) (e:KN) (t:TT):Prop :=
 ∀(G:Qg Value) (pins:List (Addr×Obj)) (s:mu) (σ:St) (H:Hp) (Q:Bool->Hp->Prop),Inv X pins σ H s->t σ H Q->wpAny (model X.prog X.w) X.A (isTrue e X.env G) (TP X pins σ Q) X.xe s
theorem PW.pt {X:Cx}{e:KN}{t:TT}(h:PW X e t):PT X e t:=h _
noncomputable def PA (X:Cx) (es:List KN) (t:TA):Prop :=
 ∀(pos:Nn) (pins:List (Addr×Obj)) (s:mu) (σ:St) (H:Hp) (Q:List V->Hp->Prop),Inv X pins σ H s->t σ H Q->wpAny (model X.prog X.w) X.A (spliced (backTo pos (starEach es X.env))) (AP X pins σ Q) X.xe s
noncomputable def PS (X:Cx) (st:KP) (t:TS):Prop :=
 ∀(pins:List (Addr×Obj)) (s:mu) (σ:St) (H:Hp) (D:Ends),Inv X pins σ H s->t D σ H->wpAny (model X.prog X.w) X.A (exec st X.env) (SP X pins D) X.xe s
noncomputable def uM (X:Cx) (st:List KP) (t:TS):Prop :=
 ∀(pins:List (Addr×Obj)) (s:mu) (σ:St) (H:Hp) (D:Ends),Inv X pins σ H s->t D σ H->wpAny (model X.prog X.w) X.A (execs st X.env) (SP X pins D) X.xe s
theorem bV {α:Type}{t:Qg α}{Q G:α->mu->Prop}{M:Model}{A:KL}{E:Value->mu->Prop}{s:mu}(h:wpAny M A t Q E s) (I:∀a s,Q a s->G a s):wpAny M A t G E s:=Nk h I λ_ _ x=>x
section
variable {X:Cx}
inductive tm (i:Nat) (σ:St) (H:Hp) (Q:VK):Prop
 |mk (v:_) (_:σ[i]?=some (some v)) (_:Q v H):tm i σ H Q
noncomputable def tC (v:V):TE:=λ_ H Q=>Q v H
theorem Ez {i:Nat}{x:Str}{pos:Nn}(Y:X.N[i]?=some x) (hv:Il X.env.scope x) (hd:(x==("__debug__" : Str))=false:=by decide) (S:(x==("__classdict__" : Str))=false:=by decide):PE X (.Name x pos) (tm i):=by
 intro pins s σ H Q I h;let#[v,e,h]:=h;let#[m,U,R]:=I.loc;let#[u,r,l]:=R i x v Y e hv;have J:EP X pins σ Q u s:=#[v,H,I,r,h];rcases l with⟨G,hm⟩|⟨G,c,L,O⟩
 .show Q1 (wpAny_loadName_local I.ok.kind G U hm J) hd
 .rcases G with G|G
  .show Q1 (wpAny_loadName_cell I.ok.kind G L O J) hd
  .show Q1 (wpAny_loadName_free I.ok.kind G L O J S) hd
theorem aj {i j pos}:PE X (.Constant (.int i) j pos) (tC (.int i)):=λ_ _ _ H _ I h=>wpAny_Constant_int #[.int i,H,I.tok _,#[0],h]
theorem k8 {b j pos}:PE X (.Constant (.bool b) j pos) (tC (.bl b)):=λ_ _ _ H _ I h=>Constant_bool #[.bl b,H,I,rfl,h]
theorem rA {j pos}:PE X (.Constant .none j pos) (tC .non):=λ_ _ _ H _ I h=>Constant_none #[.non,H,I,rfl,h]
theorem aH {x j pos}:PE X (.Constant (.str x) j pos) (tC (.str x)):=λ_ _ _ H _ I h=>Calls.Constant_str #[.str x,H,I.tok _,#[0],h]
noncomputable def Gl (X:Cx) (x:Str):Prop:=X.env.kindOf x=some .globalImplicit
theorem lI {E:Value->mu->Prop}{pins:List (Addr×Obj)}{s:mu}{σ:St}{H:Hp}{x:Str}{u:Value}{pos:Nn}{Q:Value->mu->Prop}(I:Inv X pins σ H s) (G:Gl X x) (J:X.mg x=some u) (h:Q u s)
  (hd:(x==("__debug__" : Str))=false:=by decide):wpAny (model X.prog X.w) X.A (eval (.Name x pos) X.env) Q E s :=
 Calls.Name_function_global I.ok.kind G (Calls.loadGlobal_global (by rw[I.ok.glob];show I.mod.glob.keeps I.bk) J h) hd
theorem ig {E:Value->mu->Prop}{pins:List (Addr×Obj)}{s:mu}{σ:St}{H:Hp}{x:Str}{u:Value}{pos:Nn}{Q:Value->mu->Prop}(I:Inv X pins σ H s) (N:Gl X x) (L:X.mg x=none) (J:KS x=some u) (h:Q u s)
  (G:x ≠ "__name__" := by decide) (hd:(x==("__debug__" : Str))=false:=by decide):wpAny (model X.prog X.w) X.A (eval (.Name x pos) X.env) Q E s:=by
 let#[O,h1,h2]:=I.mod.blt;show Calls.Name_function_global I.ok.kind N (Calls.loadGlobal_builtin (by rw[I.ok.glob];show I.mod.glob.keeps I.bk) L (by rw[I.ok.blt];show h1.keeps I.bk) ((h2 x G).trans J) h) hd
theorem cw {x:Str}{v:V}{u:Value}{pos:Nn}(J:Gl X x) (G:X.mg x=some u) (r:RelV v u) (hd:(x==("__debug__" : Str))=false:=by decide):PE X (.Name x pos) (tC v):=
 λ_ _ _ H _ I h=>lI I J G #[v,H,I,r,h] hd
theorem eS {x:Str}{v:V}{u:Value}{pos:Nn}(N:Gl X x) (L:X.mg x=none) (J:KS x=some u) (r:RelV v u) (G:x ≠ "__name__" := by decide) (hd:(x==("__debug__" : Str))=false:=by decide):PE X (.Name x pos) (tC v):=
 λ_ _ _ H _ I h=>ig I N L J #[v,H,I,r,h] G hd
variable {a b:KN}{ta tb:TE}{pos:Nn}
noncomputable def PC (X:Cx) (J:Sa) (a b:KN) (t:TE):Prop :=
 ∀(pins:List (Addr×Obj)) (s:mu) (σ:St) (H:Hp) (Q:VK),Inv X pins σ H s->t σ H Q ->
  wpAny (model X.prog X.w) X.A (eval a X.env) (λv G=>wpAny (model X.prog X.w) X.A (eval b X.env) (λu I=>wpAny (model X.prog X.w) X.A (LJ J v u) (EP X pins σ Q) X.xe I) X.xe G) X.xe s
inductive J9 (t:TE) (Q:Bool->Hp->Prop) (x:V) (H1:Hp):Prop
 |mk (c:_) (_:x=.bl c) (_:Q c H1):J9 t Q x H1
noncomputable def tB (t:TE):TT:=λσ H Q=>t σ H λx H1=>J9 t Q x H1
theorem ur {G:Sa}{t:TE}(h:PC X G a b t) (h1:Na G b=false:=by first|show nobehind _ av av|rfl):PE X (.Compare a [G] [b] pos) t:=λpins s σ H Q I J=>wpAny_Compare1 (h pins s σ H Q I J) h1
theorem jb {G:Sa}{t:TE}(h:PC X G a b t) (h1:Na G b=false:=by first|show nobehind _ av av|rfl):PT X (.Compare a [G] [b] pos) (tB t):=by
 intro pins s σ H Q I N;show Pj (bV (h pins s σ H _ I N) λv s1 h1=>bV h1 λu s2 h2=>bV h2 λc s3 J=>?_) h1;let#[x,H1,O,L,R]:=J;let#[d,rfl,q]:=R;cases L;show LG #[H1,O,q]
theorem fB {e:KN}{t:TE}(h:PE X e t) (N:∀G,isTrue e X.env G=(do let v <-G;Qh e.pos;Oq [v] (truthy v)):=by intro _;rfl):PT X e (tB t):=by
 intro pins s σ H Q I O;show isTrue_plain (bV (h pins s σ H _ I O) λv s1 L=>?_) (N _);let#[x,H1,R,J,S]:=L;let#[d,rfl,q]:=S;cases J;show LG #[H1,R,q]
variable {tA tB':TT}{rest:List KN}
noncomputable def JK (t u:TT):TT:=λσ H Q=>t σ H λc H1=>if c=true then u σ H1 Q else Q false H1
noncomputable def Kj (t u:TT):TT:=λσ H Q=>t σ H λc H1=>if c=true then Q true H1 else u σ H1 Q
noncomputable def Jj (t:TT):TT:=λσ H Q=>t σ H λc H1=>Q (!c) H1
theorem iO (G:PT X a tA):PW X (.BoolOp .And [a] pos) tA:=by
 intro J pins s σ H Q I h;show isTrue_and (bV (G pins s σ H Q I h) λc s1 e=>?_);cases c with
 |true=>show isTrue_and_nil e
 |false=>show e
theorem gA (G:PT X a tA):PW X (.BoolOp .Or [a] pos) tA:=by
 intro J pins s σ H Q I h;show isTrue_or (bV (G pins s σ H Q I h) λc s1 e=>?_);cases c with
 |false=>show isTrue_or_nil e
 |true=>show e
theorem kO (R:PT X a tA) (O:PW X (.BoolOp .And (b::rest) pos) tB'):PW X (.BoolOp .And (a::b::rest) pos) (JK tA tB'):=by
 intro L pins s σ H Q I h;show isTrue_and (bV (R pins s σ H _ I h) λc s1 N=>?_);let#[H1,G,J]:=N;cases c with
 |true=>show O L pins s1 σ H1 Q G J
 |false=>show#[H1,G,J]
theorem iy (R:PT X a tA) (O:PW X (.BoolOp .Or (b::rest) pos) tB'):PW X (.BoolOp .Or (a::b::rest) pos) (Kj tA tB'):=by
 intro L pins s σ H Q I h;show isTrue_or (bV (R pins s σ H _ I h) λc s1 N=>?_);let#[H1,G,J]:=N;cases c with
 |true=>show#[H1,G,J]
 |false=>show O L pins s1 σ H1 Q G J
theorem rj (G:PT X a tA):PT X (.UnaryOp .Not a pos) (Jj tA):=by
 intro pins s σ H Q I h;show isTrue_not (G pins s σ H (λc H1=>Q (!c) H1) I h)
inductive zH (ta tb:TE) (σ:St) (Q:VK) (x:V) (H1:Hp):Prop
 |mk (c:_) (_:x=.bl c) (_:if c=true then tb σ H1 Q else Q (.bl false) H1):zH ta tb σ Q x H1
noncomputable def HJ (ta tb:TE):TE:=λσ H Q=>ta σ H λx H1=>zH ta tb σ Q x H1
inductive Du (ta tb:TE) (σ:St) (Q:VK) (x:V) (H1:Hp):Prop
 |mk (c:_) (_:x=.bl c) (_:if c=true then Q (.bl true) H1 else tb σ H1 Q):Du ta tb σ Q x H1
noncomputable def JX (ta tb:TE):TE:=λσ H Q=>ta σ H λx H1=>Du ta tb σ Q x H1
inductive Aa (ta:TE) (Q:VK) (x:V) (H1:Hp):Prop
 |mk (c:_) (_:x=.bl c) (_:Q (.bl (!c)) H1):Aa ta Q x H1
noncomputable def Ie (ta:TE):TE:=λσ H Q=>ta σ H λx H1=>Aa ta Q x H1
theorem AY {op} {t:TE}(h:PE X a t):PE X (.BoolOp op [a] pos) t:=λpins s σ H Q I G=>BoolOp_one (h pins s σ H Q I G)
theorem Eg (R:PE X a ta) (N:PE X (.BoolOp .And (b::rest) pos) tb):PE X (.BoolOp .And (a::b::rest) pos) (HJ ta tb):=by
 intro pins s σ H Q I h;show BoolOp_and (bV (R pins s σ H _ I h) λv s1 L=>?_);let#[x,H1,J,O,G]:=L;let#[c,rfl,G]:=G;cases O;show LG ?_;cases c with
 |true=>show N pins s1 σ H1 Q J G
 |false=>show#[.bl false,H1,J,rfl,G]
theorem Gh (R:PE X a ta) (N:PE X (.BoolOp .Or (b::rest) pos) tb):PE X (.BoolOp .Or (a::b::rest) pos) (JX ta tb):=by
 intro pins s σ H Q I h;show BoolOp_or (bV (R pins s σ H _ I h) λv s1 L=>?_);let#[x,H1,J,O,G]:=L;let#[c,rfl,G]:=G;cases O;show LG ?_;cases c with
 |false=>show N pins s1 σ H1 Q J G
 |true=>show#[.bl true,H1,J,rfl,G]
theorem FK (O:PE X a ta):PE X (.UnaryOp .Not a pos) (Ie ta):=by
 intro pins s σ H Q I h;show UnaryOp_ (bV (O pins s σ H _ I h) λv s1 L=>?_);let#[x,H1,N,J,G]:=L;let#[c,rfl,G]:=G;cases J;show not_of (LG #[.bl (!c),H1,N,rfl,G])
noncomputable def Kz (t:TT) (ta tb:TE):TE:=λσ H Q=>t σ H λc H1=>if c=true then ta σ H1 Q else tb σ H1 Q
theorem Bj {c:KN}(L:PT X c tA) (R:PE X a ta) (O:PE X b tb):PE X (.IfExp c a b pos) (Kz tA ta tb):=by
 intro pins s σ H Q I h;show wpAny_IfExp (bV (L pins s σ H _ I h) λd s1 N=>?_);let#[H1,G,J]:=N;cases d with
 |true=>show R pins s1 σ H1 Q G J
 |false=>show O pins s1 σ H1 Q G J
end
noncomputable def bA (K:iF) (H:Hp) (a:Addr) (xs:List V):Prop :=
 Rd H a (.lst xs) \/
  ∃(o:Obj) (its:Array Value) (n:Nat),K.lookup a=some o/\o.cls=.type "list" /\ o.dict=none/\o.data=.seq its n/\its.size<=sizeLine/\Vals xs its.toList
noncomputable def bL (K:iF) (H:Hp) (a:Addr) (xs:List V):Prop :=
 Rd H a (.tup xs) \/
  ∃(o:Obj) (its:Array Value) (n:Nat),K.lookup a=some o/\o.cls=.type "tuple" /\ o.data=.seq its n/\its.size<=sizeLine/\Vals xs its.toList
noncomputable def JC:Value->Option V
 |.none=>some .non
 |.bool b=>some (.bl b)
 |.int i _=>some (.int i)
 |.str x _=>some (.str x)
 |.bytes b _=>some (.byt b)
 |.float b _=>some (.flt b)
 |.ref a=>some (.ref a)
 |.type n=>some (.ty n)
 |_=>none
theorem RelV.abs {x:V}{u:Value}(r:RelV x u):JC u=some x:=by
 cases x with
 |non=>cases r;rfl
 |bl _=>cases r;rfl
 |int _=>let#[t,rfl]:=r;rfl
 |str _=>let#[t,rfl]:=r;rfl
 |byt _=>let#[t,rfl]:=r;rfl
 |flt _=>let#[t,rfl]:=r;rfl
 |ref _=>cases r;rfl
 |ty _=>cases r;rfl
theorem RelV.inj {x y:V}{u:Value}(r:RelV x u) (q:RelV y u):x=y:=rk (r.abs.symm.trans q.abs)
theorem Vals.inj:∀{xs ys:List V}{us:List Value},Vals xs us->Vals ys us->xs=ys
 |_,_,_,.nil,.nil=>rfl
 |_,_,_,.cons r t,.cons G t'=>by rw[r.inj G,Vals.inj t t']
section
variable {X:Cx}{pins:List (Addr×Obj)}{σ:St}{H:Hp}{s:mu}{a:Addr}{xs ys:List V}
theorem bA.of {K:iF}(h:H a=some (.lst xs)):bA K H a xs:=.inl (.inl h)
theorem bL.of {K:iF}(h:H a=some (.tup xs)):bL K H a xs:=.inl (.inl h)
theorem Inv.list (I:Inv X pins σ H s) (h:bA X.K H a xs):∃its:List Value,Vals xs its/\PlainL s.heap a its.toArray/\xs.length<=sizeLine:=by
 rcases h with h|⟨o,its,n,J,G,hd,hs,L,r⟩
 .let#[z,its,n,r,e]:=h.ok I.bE;show#[its,r,#[_,n,e,1,rfl],z]
 .show#[its.toList,r,#[o,n,I.kJ a o J,G,hd,by simpa using hs],?_];have e:=r.length;simp only[Lr]at e;omega
theorem Inv.tuple (I:Inv X pins σ H s) (h:bL X.K H a xs):∃its:List Value,Vals xs its/\IsTup s.heap a its.toArray/\xs.length<=sizeLine:=by
 rcases h with h|⟨o,its,n,J,G,hs,L,r⟩
 .let#[z,its,r,p]:=h.ok I.bE;show#[its,r,p,z]
 .show#[its.toList,r,#[o,I.kJ a o J,G,n,by simpa using hs],?_];have e:=r.length;simp only[Lr]at e;omega
theorem Inv.jP (I:Inv X pins σ H s) (h:bA X.K H a xs) (h':bA X.K H a ys):xs=ys:=by
 let#[its,r,#[o,n,e,_,_,d],_]:=I.list h;let#[its',J,#[o',n',G,_,_,d'],_]:=I.list h';rw[e]at G;cases G;rw[d]at d';injection d' with L _;have:its=its':=(by simpa using congrArg toList L);subst this;show r.inj J
theorem Inv.xQ (I:Inv X pins σ H s) (h:bL X.K H a xs) (h':bL X.K H a ys):xs=ys:=by
 let#[its,r,#[o,e,_,n,d],_]:=I.tuple h;let#[its',J,#[o',G,_,n',d'],_]:=I.tuple h';rw[e]at G;cases G;rw[d]at d';injection d' with L _;have:its=its':=(by simpa using congrArg toList L);subst this;show r.inj J
end
noncomputable abbrev Cx.oV (X:Cx) (E:Value->mu->Prop):Cx:={ X with xe:=E }
noncomputable abbrev Cx.Dq (X:Cx):Cx:=X.oV λ_ _=>False
theorem Cx.Ok.oV {X:Cx}(ok:X.Ok) (E:Value->mu->Prop):(X.oV E).Ok :=
 #[ok.mod,ok.kind,ok.glob,ok.blt,ok.above,ok.inj,ok.has,ok.FP,ok.hd,ok.frames,ok.HY,ok.JR,ok.bs,ok.BA,ok.yE,ok.yR,ok.j5,ok.DG]
theorem Cx.Ok.iz {X:Cx}{E:Value->mu->Prop}(ok:(X.oV E).Ok):X.Ok :=
 #[ok.mod,ok.kind,ok.glob,ok.blt,ok.above,ok.inj,ok.has,ok.FP,ok.hd,ok.frames,ok.HY,ok.JR,ok.bs,ok.BA,ok.yE,ok.yR,ok.j5,ok.DG]
section
variable {X:Cx}{pins:List (Addr×Obj)}{σ:St}{H:Hp}{s:mu}{E:Value->mu->Prop}
theorem Inv.oV (I:Inv X pins σ H s) (E:Value->mu->Prop):Inv (X.oV E) pins σ H s:=#[I.ok.oV E,I.os,I.bare,I.base,I.loc,I.cell,I.free,I.gH,I.pin,I.bE,I.len]
theorem Inv.iz (I:Inv (X.oV E) pins σ H s):Inv X pins σ H s:=#[I.ok.iz,I.os,I.bare,I.base,I.loc,I.cell,I.free,I.gH,I.pin,I.bE,I.len]
theorem SP.iz {D:Ends}{f:Flow}{s':mu}(h:SP (X.oV E) pins D f s'):SP X pins D f s':=by
 cases f with
 |next=>let#[G,H',I,q]:=h;show#[G,H',I.iz,q]
 |brk=>let#[G,H',I,q]:=h;show#[G,H',I.iz,q]
 |cont=>let#[G,H',I,q]:=h;show#[G,H',I.iz,q]
 |ret u=>let#[v,G,H',I,r,q]:=h;show#[v,G,H',I.iz,r,q]
theorem uM.Dq {st:List KP}{t:TS}(h:uM X.Dq st t):uM X st t:=λpins s σ H D I G =>
 Nk (h pins s σ H D (I.oV _) G) (λ_ _ q=>q.iz) λ_ _ z=>LU z
end
section
variable {X:Cx}{st:KP}{rest:List KP}{t u:TS}{e:KN}{te:TE}{pos:Nn}
noncomputable def ma:TS:=λD σ H=>D.nx σ H
noncomputable def jz (t u:TS):TS:=λD σ H=>t { D with nx:=u D } σ H
theorem aF:uM X [] ma:=λ_ _ σ H _ I h=>NV #[σ,H,I,h]
theorem ag (h1:PS X st t) (h2:uM X rest u):uM X (st::rest) (jz t u):=by
 intro pins s σ H D I h;show QA (bV (h1 pins s σ H { D with nx:=u D } I h) λf s1 q=>?_);cases f with
 |next =>
  let#[J,H',G,q]:=q;show h2 pins s1 J H' D G q
 |ret v=>show q
 |brk=>show q
 |cont=>show q
theorem ak (h1:PS X st t):uM X [st] t:=by
 intro pins s σ H D I h;show QA (bV (h1 pins s σ H D I h) λf s1 q=>?_);cases f with
 |next=>show NV q
 |ret v=>show q
 |brk=>show q
 |cont=>show q
theorem Inv.quiet {pins:List (Addr×Obj)}{σ:St}{H:Hp}{s:mu}(I:Inv X pins σ H s):interactive X.env=false:=by simp[interactive,I.ok.kind]
noncomputable def FT (te:TE):TS:=λD σ H=>te σ H λ_ H1=>D.nx σ H1
theorem aL (J:PE X e te) (hs:OG e none pos.line X.env=pure false:=by rfl):PS X (.Expr e pos) (FT te):=by
 intro pins s σ H D I h;show wpAny_Expr_any (bV (J pins s σ H _ I h) λv s1 G=>by let#[x,H1,L,O,N]:=G;show#[σ,H1,L,N]) I.quiet hs
noncomputable def Ga (te:TE):TS:=λD σ H=>te σ H D.rt
theorem aE (L:PE X e te):PS X (.Return (some e) pos) (Ga te):=by
 intro pins s σ H D I h;show wpAny_Return_some (bV (L pins s σ H _ I h) λv s1 J=>by let#[x,H1,N,G,O]:=J;show#[x,σ,H1,N,G,O])
noncomputable def Hb:TS:=λD _ H=>D.rt .non H
theorem qR:PS X (.Return none pos) Hb:=λ_ _ σ H _ I h=>wpAny_Return_none #[.non,σ,H,I,rfl,h]
noncomputable def mJ (c:TT) (t u:TS):TS:=λD σ H=>c σ H λb H1=>if b=true then t D σ H1 else u D σ H1
theorem aS {c:KN}{a b:List KP}{tc:TT}(L:PT X c tc) (R:uM X a t) (N:uM X b u):PS X (.If c a b pos) (mJ tc t u):=by
 intro pins s σ H D I h;show wpAny_If (bV (L pins s σ H _ I h) λd s1 O=>?_);let#[H1,G,J]:=O;cases d with
 |true=>show R pins s1 σ H1 D G J
 |false=>show N pins s1 σ H1 D G J
noncomputable def AH:TS:=λ_ _ _=>False
theorem dP:PS X st AH:=λ_ _ _ _ _ _ h=>h.elim
theorem cY {sts:List KP}:uM X sts AH:=λ_ _ _ _ _ _ h=>h.elim
end
noncomputable abbrev TG:=V->St->Hp->(St->Hp->Prop)->Prop
noncomputable abbrev FR:=List V->St->Hp->(St->Hp->Prop)->Prop
noncomputable def PG (X:Cx) (I:KN) (t:TG):Prop :=
 ∀(pins:List (Addr×Obj)) (s:mu) (σ:St) (H:Hp) (v:V) (u:Value) (Q:St->Hp->Prop),Inv X pins σ H s->RelV v u->t v σ H Q ->
  wpAny (model X.prog X.w) X.A (PX I X.env u) (λ_ s'=>∃G H',Inv X pins G H' s'/\Q G H') X.xe s
noncomputable def IB (X:Cx) (ts:List KN) (t:FR):Prop :=
 ∀(pins:List (Addr×Obj)) (s:mu) (σ:St) (H:Hp) (vs:List V) (us:List Value) (Q:St->Hp->Prop),Inv X pins σ H s->Vals vs us->t vs σ H Q ->
  wpAny (model X.prog X.w) X.A (PM ((N7 ts X.env).map (·.2)) us) (λ_ s'=>∃G H',Inv X pins G H' s'/\Q G H') X.xe s
noncomputable abbrev yq:=V->V->V->Hp->(Hp->Prop)->Prop
noncomputable def CZ (X:Cx) (t:yq):Prop :=
 ∀(pins:List (Addr×Obj)) (s:mu) (σ:St) (H:Hp) (o i v:V) (ov G u:Value) (Q:Hp->Prop),Inv X pins σ H s->RelV o ov->RelV i G->RelV v u->t o i v H Q ->
  wpAny (model X.prog X.w) X.A (RV ov G u) (λ_ s'=>∃H',Inv X pins σ H' s'/\Q H') X.xe s
noncomputable abbrev IC:=V->V->Hp->VK->Prop
noncomputable def Jo (X:Cx) (G:Qi) (t:IC):Prop :=
 ∀(pins:List (Addr×Obj)) (s:mu) (σ:St) (H:Hp) (x y:V) (v u:Value) (Q:VK),Inv X pins σ H s->RelV x v->RelV y u->t x y H Q ->
  wpAny (model X.prog X.w) X.A (inplaceOp G v u) (EP X pins σ Q) X.xe s
section
variable {X:Cx}{pos:Nn}
noncomputable def oq (i:Nat):TG:=λv σ H Q=>Q (σ.set i (some v)) H
theorem BX {i:Nat}{x:Str}(L:X.N.Nodup) (hi:X.N[i]?=some x) (J:Loc X.env.scope x) (O:X.fn x=true\/X.env.scope.names.lookup x=some .local:=by first|show .inl rfl|show .inr rfl|assumption):PG X (.Name x pos) (oq i):=by
 intro pins s σ H v u Q I r h;show Ot (ip I L hi J r (λs' G=>#[_,H,G,h]) O)
theorem f9 (i:Nat) {x:Str}(J:X.N.Nodup) (hi:X.N[i]?=some x:=by rfl) (G:Loc X.env.scope x:=by first|show .inl rfl|show .inr rfl) (I:X.fn x=true\/X.env.scope.names.lookup x=some .local:=by first|show .inl rfl|show .inr rfl|assumption):PG X (.Name x pos) (oq i):=BX J hi G I
noncomputable def Jb:FR:=λvs σ H Q=>vs=[]/\Q σ H
inductive Aw (t:TG) (u:FR) (vs:List V) (σ:St) (H:Hp) (Q:St->Hp->Prop):Prop
 |mk (v:_) (r:_) (_:vs=v::r) (_:t v σ H λσ' H'=>u r σ' H' Q):Aw t u vs σ H Q
theorem cQ:IB X [] Jb:=by
 intro pins s σ H vs us Q I r h;let#[e,h]:=h;subst e;cases r;show Qj #[σ,H,I,h]
theorem bg {e:KN}{es:List KN}{t:TG}{u:FR}(h1:PG X e t) (h2:IB X es u)
  (hs:(N7 (e::es) X.env).map (·.2)=PX e X.env::(N7 es X.env).map (·.2):=by rfl):IB X (e::es) (Aw t u):=by
 intro pins s σ H vs us Q I r h;let#[v,S,G,h]:=h;subst G;cases r with
 |cons r N =>
  rw[hs];show N8 (bV (h1 pins s σ H _ _ _ I r h) λ_ s1 L=>?_);let#[J,H1,O,R]:=L;show h2 pins s1 J H1 _ _ Q O N R
inductive Gx (K:iF) (n:Nat) (t:FR) (v:V) (σ:St) (H:Hp) (Q:St->Hp->Prop):Prop
 |mk (a:_) (xs:_) (_:v=.ref a) (_:bL K H a xs) (_:xs.length=n) (_:t xs σ H Q):Gx K n t v σ H Q
theorem dF {es:List KN}{k:Nat}{t:FR}{n:Nat}(L:X.calm=true) (h:IB X es t)
  (Y:(N7 es X.env).length=n:=by rfl) (U:(N7 es X.env).findIdx? (·.1)=none:=by rfl):PG X (.Tuple es k pos) (Gx X.K n t):=by
 intro pins s σ H v u Q I r G;let#[a,xs,R,S,N,G]:=G;subst R;cases r;let#[its,J,O,hz]:=I.tuple S;show assign_Tuple_tuple (I.ok.hd L) O (by simp[Y, <-N,J.length]) U λh' hx=>?_;have I1:Inv X pins σ H { s with heap:=h' }:=I.kept (t':=s.toks) λb o e=>hx b o (KZ (Heap.lt_size e)) e;show h pins _ σ H xs _ Q I1 (by simpa using J) G
noncomputable def JA (to G:TE) (t:yq):TG:=λv σ H Q=>to σ H λo H1=>G σ H1 λi H2=>t o i v H2 λH3=>Q σ H3
theorem dU {o i:KN}{to J:TE}{t:yq}(ho:PE X o to) (hi:PE X i J) (hs:CZ X t)
  (ha:∀v,PX (.Subscript o i pos) X.env v=(do
   let ov <-Oq [v] (eval o X.env)
   let G <-Oq [v,ov] (eval i X.env)
   Qh pos
   Oq [v,ov,G] (RV ov G v)
   release [v,ov,G] []):=by intro _;rfl):PG X (.Subscript o i pos) (JA to J t):=by
 intro pins s σ H v u Q I r h;rw[ha];show iN (LX (bV (ho pins s σ H _ I h) λov s1 L=>?_));let#[x,H1,U,r1,q1]:=L;show iN (LX (bV (hi pins s1 σ H1 _ U q1) λG s2 Y=>?_));let#[y,H2,S,R,q2]:=Y;show iN (NN (iN (LX (bV (hs pins s2 σ H2 x y v ov G u _ S r1 R r q2) λ_ s3 N=>?_))));let#[H3,O,q3]:=N;show wpAny_release #[σ,H3,O,q3]
noncomputable def Bq (te:TE) (g:TG):TS:=λD σ H=>te σ H λx H1=>g x σ H1 D.nx
theorem cV {tg e:KN}{te:TE}{g:TG}(L:PE X e te) (R:PG X tg g) (hs:swapsWithSole [tg] e pos.line X.env=pure false:=by rfl) (N:swappedStores [tg] e X.env=pure none:=by rfl)
  (h1:(N7 [tg] X.env).map (·.2)=[PX tg X.env]:=by rfl):PS X (.Assign [tg] e pos) (Bq te g):=by
 intro pins s σ H D I h;show wpAny_Assign_stores (bV (L pins s σ H _ I h) λv s1 G=>?_) hs N;let#[x,H1,O,J,S]:=G;rw[h1];show bV (R pins s1 σ H1 x v _ O J S) λ_ s2 q=>q
theorem Fz {i:Nat}{x:Str}{e:KN}{te:TE}{pos':Nn}(O:X.N.Nodup) (hi:X.N[i]?=some x) (J:Loc X.env.scope x) (R:PE X e te) (hs:OG e (some (.Name x pos')) pos.line X.env=pure false:=by rfl) (Y:X.fn x=true\/X.env.scope.names.lookup x=some .local:=by first|show .inl rfl|show .inr rfl|assumption) :
  PS X (.Assign [.Name x pos'] e pos) (Bq te (oq i)):=by
 intro pins s σ H D I h;show wpAny_Assign_Name (bV (R pins s σ H _ I h) λv s1 U=>?_) hs;let#[y,H1,S,G,q1]:=U;show ip S O hi J G (λs2 L=>#[_,H1,L,q1]) Y
theorem dn (i:Nat) {x:Str}{e:KN}{te:TE}{pos':Nn}(I:X.N.Nodup) (J:PE X e te) (hi:X.N[i]?=some x:=by rfl) (G:Loc X.env.scope x:=by first|show .inl rfl|show .inr rfl) (hs:OG e (some (.Name x pos')) pos.line X.env=pure false:=by rfl) (L:X.fn x=true\/X.env.scope.names.lookup x=some .local:=by first|show .inl rfl|show .inr rfl|assumption):PS X (.Assign [.Name x pos'] e pos) (Bq te (oq i)):=Fz I hi G J hs L
noncomputable def Jf (i j:Nat) (ta:TA):TS:=λD σ H=>ta σ H λvs H1=>xZ λv w=>vs=[v,w]/\D.nx ((σ.set i (some v)).set j (some w)) H1
theorem Fx {i j:Nat}{x y:Str}{a b:KN}{ta:TA}{px L pt:Nn}{kt k2 pt2} (hc:X.calm=true) (Y:X.N.Nodup) (hi:X.N[i]?=some x) (hj:X.N[j]?=some y) (am:i≠j)
  (S:X.env.scope.names.lookup x=some .local) (U:X.env.scope.names.lookup y=some .local) (ha:PA X [a,b] ta)
  (hw:swappedStores [.Tuple [.Name x px,.Name y L] kt pt] (.Tuple [a,b] k2 pt2) X.env=pure (some [x,y]))
  (hs:swapsWithSole [.Tuple [.Name x px,.Name y L] kt pt] (.Tuple [a,b] k2 pt2) pos.line X.env=pure false:=by rfl) :
  PS X (.Assign [.Tuple [.Name x px,.Name y L] kt pt] (.Tuple [a,b] k2 pt2) pos) (Jf i j ta):=by
 intro pins s σ H D I h;rw[exec_Assign_arm];show iN (NN ?_);rw[hs];show iN (p4 ?_);rw[Su av];show iN (Tuple_ (bV (ha _ pins s σ H _ I h) λus s1 ap=>?_));let#[vs,H1,I1,r1,O]:=ap;let#[v,w,e1,O]:=O;subst e1;obtain⟨G,J,rfl,rv,ab⟩:∃G J,us=[G,J]/\RelV v G/\RelV w J:=by
  cases r1 with
  |cons p q =>
   cases q with
   |cons p' q' =>
    cases q';show#[_,0,p,p']
 show Ly ?_ d9;have I2:Inv X pins σ H1 { s1 with heap:=s1.heap.push { cls:=.type "tuple",data:=.seq [G,J].toArray } }:=I1.kept (t':=s1.toks) λb o e=>Heap.get?_push_of_some _ e;rw[hw];show iN (p4 ?_);change wpAny (model X.prog X.w) X.A (do rule "assign.swapped-stores";let items <-unpackItems (.ref s1.heap.objs.size) 2 none;PM [λv=>Q2 X.env y v,λv=>Q2 X.env x v] items.reverse;pure Flow.next) _ _ _;show iN (MN (iN (unpackItems_tuple (items := ([G,J].toArray)) (I.ok.hd hc) (RP s1.heap _) λh' ac=>?_)));have I3:=I2.kept (h':=h') (t':=s1.toks) λb o e=>ac b o (KZ (Heap.lt_size e)) e;change wpAny _ _ (PM [λv=>Q2 X.env y v,λv=>Q2 X.env x v] [J,G]>>=λ_=>pure Flow.next) _ _ _;show iN (N8 (wpAny_bindName (ip I3 Y hj (.inl U) ab (λs2 I4=>?_) (.inr U))));show N8 (wpAny_bindName (ip I4 Y hi (.inl S) rv (λs3 R=>Qj (p4 ?_)) (.inr S)));rw[List.set_comm _ _ (qs am)]at R;show#[_,H1,R,O]
noncomputable def HM (to G te:TE) (J:V->V->Hp->VK->Prop) (L:IC) (I:yq):TS:=λD σ H=>to σ H λo H1=>G σ H1 λi H2=>J o i H2 λx H3=>te σ H3 λy H4=>L x y H4 λz O=>I o i z O λN=>D.nx σ N
noncomputable def HA (X:Cx) (t:V->V->Hp->VK->Prop):Prop :=
 ∀(pins:List (Addr×Obj)) (s:mu) (σ:St) (H:Hp) (o i:V) (ov G:Value) (Q:VK),Inv X pins σ H s->RelV o ov->RelV i G->t o i H Q ->
  wpAny (model X.prog X.w) X.A (NO ov G) (EP X pins σ Q) X.xe s
theorem w6 {o i e:KN}{to J te:TE}{Y:V->V->Hp->VK->Prop}{ab:IC}{L:yq}{O:Qi}{tpos:Nn}(ho:PE X o to) (hi:PE X i J) (hg:HA X Y) (he:PE X e te) (hp:Jo X O ab) (hs:CZ X L)
  (ha:∀ov G new,augStore i ov G new=(do Oq [new,ov,G] (RV ov G new);release [new,ov,G] [];pure .next):=by intros;rfl):PS X (.AugAssign (.Subscript o i tpos) O e pos) (HM to J te Y ab L):=by
 intro pins s σ H D I h;show wpAny_AugAssign_SubscriptAny (bV (ho pins s σ H _ I h) λov s1 as=>?_) ha;let#[R,H1,I1,U,q1]:=as;show bV (hi pins s1 σ H1 _ I1 q1) λG s2 a0=>?_;let#[S,H2,I2,N,q2]:=a0;show bV (hg pins s2 σ H2 R S ov G _ I2 U N q2) λaT s3 ap=>?_;let#[x3,H3,I3,r3,q3]:=ap;show bV (he pins s3 σ H3 _ I3 q3) λv s4 aB=>?_;let#[x4,H4,I4,r4,q4]:=aB;show bV (hp pins s4 σ H4 x3 x4 aT v _ I4 r3 r4 q4) λnew s5 ac=>?_;let#[x5,H5,I5,r5,q5]:=ac;show bV (hs pins s5 σ H5 R S x5 ov G new _ I5 U N r5 q5) λ_ s6 am=>by let#[H6,I6,q6]:=am;show#[σ,H6,I6,q6]
noncomputable def Ka (f:Int->Int->Int):IC:=λx y H Q=>∃i j,x=.int i/\y=.int j/\Q (.int (f i j)) H
theorem Fn:Jo X .Add (Ka λi j=>i+j):=by
 intro pins s σ H x y v u Q I L J h;let#[i,j,G,N,q]:=h;subst G;subst N;let#[t,rfl]:=L;let#[t',rfl]:=J;show QV #[.int _,H,I.tok _,#[0],q]
theorem Ee:Jo X .Sub (Ka λi j=>i-j):=by
 intro pins s σ H x y v u Q I L J h;let#[i,j,G,N,q]:=h;subst G;subst N;let#[t,rfl]:=L;let#[t',rfl]:=J;show isub_int #[.int _,H,I.tok _,#[0],q]
end
section
variable {X:Cx}{pos:Nn}
noncomputable def Et (c:TT) (tb:TS):TS:=λD σ H=>∃W:Nat->St->Hp->Prop,(∃m,W m σ H)/\∀m σ H,W m σ H ->
 c σ H λb H1=>if b=true then ∃N:St->Hp->Prop,(∀I H',N I H'->∃G,G<m/\W G I H')/\tb { D with nx:=N,ct:=N,bk:=D.nx } σ H1 else D.nx σ H1
theorem tP {c:KN}{body:List KP}{tc:TT}{tb:TS}(hp:PassesOwn (model X.prog X.w) X.A X.env X.xe) (hc:PT X c tc) (hb:uM X body tb):PS X (.While c body [] pos) (Et tc tb):=by
 intro pins s σ H D I h;let#[W,#[m0,w0],am]:=h;show wpAny_While (codeAny_whileLoop (λn s'=>∃ab H',Inv X pins ab H' s'/\W n ab H') ?_ m0 #[σ,H,I,w0]);rintro n s1 ⟨J,H1,I1,w1⟩;show Mi hp (bV (hc pins s1 J H1 _ I1 (am n J H1 w1)) λb s2 ac=>?_);let#[H2,I2,L]:=ac;cases b with
 |true =>
  let#[N,hN,L]:=L;rw[Sv rfl];show Mi hp (bV (hb pins s2 J H2 _ I2 L) λf s3 O=>?_);cases f with
  |next =>
   let#[G,H3,R,S]:=O;let#[Y,hm,U]:=hN G H3 S;show#[Y,hm,G,H3,R,U]
  |cont =>
   let#[G,H3,R,S]:=O;let#[Y,hm,U]:=hN G H3 S;show#[Y,hm,G,H3,R,U]
  |brk=>show O
  |ret v=>show O
 |false =>
  rw[Su tu];show NV #[J,H2,I2,L]
end
structure It where
 go:Nat->Hp->Prop
 Bz:Nat->Hp->V->Hp->Prop
 stop:Nat->Hp->Prop
noncomputable def gi (X:Cx) (pins:List (Addr×Obj)) (H:Hp) (b:Addr):Prop :=
 H b=none/\b≠X.env.locals/\b∉X.fs/\(b∈X.ex\/X.s₀.heap.objs.size<=b)/\(∀x c,X.env.cells.lookup x=some c->c≠b)/\∀p∈X.pn++pins,p.1≠b
theorem Inv.jn {X:Cx}{pins:List (Addr×Obj)}{σ:St}{H H':Hp}{s:mu}{b:Addr}(I:Inv X pins σ H s) (G:s.heap.objs.size<=b) (J:H' b=none):gi X pins H' b:=by
 show#[J,Qk (K4 I.lt G),I.F2 G,.inr (KI I.sz G),λx c e z=>?_,λp L z=>?_]
 .let#[v,q]:=I.cell x c e;show absurd (K4 q.lt (by rw[z];show G)) (MQ _)
 .show absurd (K4 (Heap.lt_size (I.pin p L).1) (by rw[z];show G)) (MQ _)
structure Turn (P:rr) (w:Bd) (K:iF) (tg:KN) (J:It) (fp:List Addr) (it:Addr) (tn:Nat->Heap->Prop):Prop where
 mem:it∈fp
 obj:∀i h,tn i h->∀b∈fp,∃o,h.get? b=some o/\∀v,o.data≠.cell v
 keep:∀i h h',tn i h->(∀b∈fp,∀o,h.get? b=some o->h'.get? b=some o)->tn i h'
 item:∀(X:Cx),X.prog=P->X.w=w->X.K=K->X.calm=true->∀(i:Nat) (pins:List (Addr×Obj)) (s:mu) (σ:St) (H:Hp) (E:Value->mu->Prop),Inv X pins σ H s->(∀b∈fp,gi X pins H b)->tn i s.heap->J.go i H ->
  wpAny (model P w) X.A (pyNext (.ref it)) (λr s1=>∃u,r=some u /\
   wpAny (model P w) X.A (Pf tg (.ref it) u) (λ_ s2=>∃x H',Inv X pins σ H' s2/\RelV x u/\J.Bz i H x H'/\tn (i+1) s2.heap/\∀b∈fp,H' b=none) E s1) E s
 done:∀(X:Cx),X.prog=P->X.w=w->X.K=K->X.calm=true->∀(i:Nat) (pins:List (Addr×Obj)) (s:mu) (σ:St) (H:Hp) (E:Value->mu->Prop),Inv X pins σ H s->(∀b∈fp,gi X pins H b)->tn i s.heap->J.stop i H ->
  wpAny (model P w) X.A (pyNext (.ref it)) (λr s1=>r=none/\Inv X pins σ H s1) E s
 self:∀(A:KL) (i:Nat) (s:mu) (Q:Value->mu->Prop) (E:Value->mu->Prop),tn i s.heap->Q (.ref it) s->wpAny (model P w) A (pyIter (.ref it)) Q E s
noncomputable abbrev TI:=St->Hp->(It->Hp->Prop)->Prop
noncomputable def J4 (X:Cx) (pins:List (Addr×Obj)) (σ:St) (tg:KN) (R:It->Hp->Prop) (I:Value) (s2:mu):Prop :=
 ∃(it:Addr) (fp:List Addr) (G:Nat->Heap->Prop) (J:It) (H':Hp),I=.ref it/\Inv X pins σ H' s2/\Turn X.prog X.w X.K tg J fp it G/\G 0 s2.heap/\(∀b∈fp,gi X pins H' b)/\R J H'
noncomputable def PI (X:Cx) (tg iter:KN) (wi:TI):Prop :=
 ∀(pins:List (Addr×Obj)) (s:mu) (σ:St) (H:Hp) (R:It->Hp->Prop),Inv X pins σ H s->wi σ H R ->
  wpAny (model X.prog X.w) X.A (eval iter X.env) (λv s1=>wpAny (model X.prog X.w) X.A (pyIter v) (J4 X pins σ tg R) X.xe s1) X.xe s
theorem mT {M:Model}{A:KL}{E:Value->mu->Prop}{s:mu}{tg:KN}{it:Addr}{u:Value}{o:Obj}{n:String}{vs:Array Value}{Q:Unit->mu->Prop}(L:s.heap.get? it=some o) (I:o.cls=.type n) (hd:o.data=.fields vs)
  (J:["enumerate","zip","dict_itemiterator","dict_reverseitemiterator","odict_iterator","itertools.zip_longest","itertools.pairwise"].contains n=false) (G:Q () s):wpAny M A (Pf tg (.ref it) u) Q E s:=by
 unfold Pf;cases tg<;>first
  |show p4 G
  |(cases u<;>first
    |show p4 G
    |(show iN (wpAny_load L ?_)
      rw[I,hd];change wpAny M A (if (["enumerate","zip","dict_itemiterator","dict_reverseitemiterator","odict_iterator","itertools.zip_longest","itertools.pairwise"].contains n&&vs[0]?==some (rawInt _))=true then _ else _) Q E s;rw[Su (by intro h;rw[J,Bool.false_and]at h;cases h)];show p4 G))
noncomputable def E8 (K:iF) (a:Addr):It :=
 #[λi H=>∃xs x,bA K H a xs/\xs[i]?=some x,λi H x H'=>H'=H/\∀xs,bA K H a xs->xs[i]?=some x,λi H=>∃xs,bA K H a xs/\xs.length<=i]
noncomputable def IH (K:iF) (a:Addr):It :=
 #[λi H=>∃xs x,bL K H a xs/\xs[i]?=some x,λi H x H'=>H'=H/\∀xs,bL K H a xs->xs[i]?=some x,λi H=>∃xs,bL K H a xs/\xs.length<=i]
noncomputable def B6 (lo:Int) (n:Nat):It:=#[λi _=>i<n,λi H x H'=>H'=H/\x=.int (lo+i),λi _=>n<=i]
theorem ym {P:rr}{w:Bd}{K:iF}{tg:KN}(a it:Addr):Turn P w K tg (E8 K a) [it] it (λi h=>h.IsListIter it a i) where
 mem:=by simp
 obj:=λi h st b G=>by
  have e:b=it:=(by simpa using G);subst e;let#[o,e,c,d]:=st;show#[o,e,λv z=>by rw[d]at z;cases z]
 keep:=λi h h' st k=>st.at λo e=>k it (by simp) o e
 item:=by
  intro X S U hK hc i pins s σ H E I L st hg;subst S U hK;let#[xs,x,J,R]:=hg;let#[its,Y,p,hz]:=I.list J;let#[u,hu,ru]:=Y.get R;let#[f0,f1,f2,O,N,f5]:=L it (by simp);show wpAny_pyNext_list_item st p.isList (x:=u) (by simpa using hu) λh' ab sb=>?_;have I1:Inv X pins σ H { s with heap:=h' }:=I.turned (t':=s.toks) (λb o G e=>(sb.2 b G).trans e) f0 f1 O N f5;let#[o,e,c,d]:=id ab;show#[u,rfl,mT (s:={ s with heap:=h' }) e c d av #[x,H,I1,ru,#[rfl,λys hy=>by rw[I.jP hy J];show R],ab,λb G=>(L b G).1]]
 done:=by
  intro X S U hK hc i pins s σ H E I L st hg;subst S U hK;let#[xs,J,R]:=hg;let#[its,Y,p,hz]:=I.list J;let#[f0,f1,f2,O,N,f5]:=L it (by simp);have hl:=Y.length;show wpAny_pyNext_list_end (I.ok.hd hc) st p.isList (by simp;omega) λh' eb=>#[rfl,I.turned (t':=s.toks) (λb o G e=>eb b o G e) f0 f1 O N f5]
 self:=λ_ _ _ _ _ st h=>wpAny_pyIter_listiter st h
theorem ui {P:rr}{w:Bd}{K:iF}{tg:KN}(a it:Addr):Turn P w K tg (IH K a) [it] it (λi h=>h.IsTupleIter it a i) where
 mem:=by simp
 obj:=λi h st b G=>by
  have e:b=it:=(by simpa using G);subst e;let#[o,e,c,d]:=st;show#[o,e,λv z=>by rw[d]at z;cases z]
 keep:=λi h h' st k=>st.at λo e=>k it (by simp) o e
 item:=by
  intro X S U hK hc i pins s σ H E I L st hg;subst S U hK;let#[xs,x,J,R]:=hg;let#[its,Y,p,hz]:=I.tuple J;let#[u,hu,ru]:=Y.get R;let#[f0,f1,f2,O,N,f5]:=L it (by simp);show wpAny_pyNext_tuple_item st (show s.heap.IsTuple a its.toArray from p) (x:=u) (by simpa using hu) λh' ab sb=>?_;have I1:Inv X pins σ H { s with heap:=h' }:=I.turned (t':=s.toks) (λb o G e=>(sb.2 b G).trans e) f0 f1 O N f5;let#[o,e,c,d]:=id ab;show#[u,rfl,mT (s:={ s with heap:=h' }) e c d av #[x,H,I1,ru,#[rfl,λys hy=>by rw[I.xQ hy J];show R],ab,λb G=>(L b G).1]]
 done:=by
  intro X S U hK hc i pins s σ H E I L st hg;subst S U hK;let#[xs,J,R]:=hg;let#[its,Y,p,hz]:=I.tuple J;let#[f0,f1,f2,O,N,f5]:=L it (by simp);have hl:=Y.length;show wpAny_pyNext_tuple_end (I.ok.hd hc) st (show s.heap.IsTuple a its.toArray from p) (by simp;omega) λh' eb=>#[rfl,I.turned (t':=s.toks) (λb o G e=>eb b o G e) f0 f1 O N f5]
 self:=λ_ _ _ _ _ st h=>wpAny_pyIter_tupleiter st h
theorem uO {P:rr}{w:Bd}{K:iF}{tg:KN}(it:Addr) (lo:Int) (n:Nat):Turn P w K tg (B6 lo n) [it] it (λi h=>Pp h it (lo+(i:Nat)*1) ((n:Int)-(i:Nat)) 1) where
 mem:=by simp
 obj:=λi h st b G=>by
  have e:b=it:=(by simpa using G);subst e;show#[_,st,λv z=>by
   have z':Ou _=NG v:=z;cases z']
 keep:=λi h h' st k=>k it (by simp) _ st
 item:=by
  intro X R S Y L i pins s σ H E I J st hg;subst R S Y;let#[f0,U,f2,O,N,f5]:=J it (by simp);have W:=Sb (prog:=X.prog) (w:=X.w) (I.ok.hd L) it lo 1 n;show W.item i s _ _ hg st λv h' tk hv ab kk=>?_;let#[t,rfl]:=hv;have I1:Inv X pins σ H { s with heap:=h',toks:=tk }:=I.turned (λb o G e=>kk b o (by simpa using G) e) f0 U O N f5;show#[0,mT (s:={ s with heap:=h',toks:=tk }) (n := "range_iterator") ab rfl rfl av #[.int (lo+i),H,I1,#[t,?_],#[1],ab,λb G=>(J b G).1]];rw[Int.mul_one]
 done:=by
  intro X R S Y L i pins s σ H E I J st hg;subst R S Y;let#[f0,U,f2,O,N,f5]:=J it (by simp);show OT (I.ok.hd L) st (by have:n<=i:=hg;omega) λh' eb=>#[rfl,I.turned (t':=s.toks) (λb o G e=>eb b o G e) f0 U O N f5]
 self:=λ_ _ _ _ _ st h=>OU st h
section
variable {X:Cx}{tg:KN}
noncomputable def Hy (K:iF) (tl:TE):TI:=λσ H R=>tl σ H λx H1=>∃a,x=.ref a/\(∃xs,bA K H1 a xs)/\R (E8 K a) H1
noncomputable def JY (K:iF) (tl:TE):TI:=λσ H R=>tl σ H λx H1=>∃a,x=.ref a/\(∃xs,bL K H1 a xs)/\R (IH K a) H1
theorem fQ {l:KN}{tl:TE}(J:PE X l tl):PI X tg l (Hy X.K tl):=by
 intro pins s σ H R I h;show bV (J pins s σ H _ I h) λv s1 L=>?_;let#[x,H1,G,S,U]:=L;let#[a,e,#[xs,N],q]:=U;subst e;cases S;let#[its,rv,p,Y]:=G.list N;show Ov p.isList ?_;show#[s1.heap.objs.size,[s1.heap.objs.size],2,H1,rfl,G.kept (t':=s1.toks) λb o e=>Heap.get?_push_of_some _ e,ym a _,#[_,Heap.get?_push_size _ rfl,1],λb O=>?_,q];have e:b=s1.heap.objs.size:=(by simpa using O);subst e;show G.jn (qj _) (G.bE.fresh (qj _))
theorem ED {l:KN}{tl:TE}(J:PE X l tl):PI X tg l (JY X.K tl):=by
 intro pins s σ H R I h;show bV (J pins s σ H _ I h) λv s1 U=>?_;let#[x,H1,G,S,L]:=U;let#[a,e,#[xs,N],q]:=L;subst e;cases S;let#[its,rv,p,Y]:=G.tuple N;show wpAny_pyIter_tuple (show s1.heap.IsTuple a its.toArray from p) ?_;show#[s1.heap.objs.size,[s1.heap.objs.size],2,H1,rfl,G.kept (t':=s1.toks) λb o e=>Heap.get?_push_of_some _ e,ui a _,#[_,Heap.get?_push_size _ rfl,1],λb O=>?_,q];have e:b=s1.heap.objs.size:=(by simpa using O);subst e;show G.jn (qj _) (G.bE.fresh (qj _))
theorem sG {pins:List (Addr×Obj)}{σ:St}{H:Hp}{s:mu}{R:It->Hp->Prop}{E:Value->mu->Prop}{lo hi:Int}{t u v:Ss}{tk:Nat}(I:Inv X pins σ H s) (h1 : -(2^62)<=lo) (h2:lo<2^62) (S : -(2^62)<=hi) (L:hi<2^62)
  (q:R (B6 lo (hi-lo).toNat) H):wpAny (model X.prog X.w) X.A (pyIter (.ref s.heap.objs.size)) (J4 X pins σ tg R) E { s with heap:=s.heap.push { cls:=.type "range",data:=.fields ([.int lo t,.int hi u,.int 1 v].toArray) },toks:=tk }:=by
 show PY (Sd ..) (small_one h1 h2 S L) ?_;have G:Inv X pins σ H { s with heap:=s.heap.push { cls:=.type "range",data:=.fields ([.int lo t,.int hi u,.int 1 v].toArray) },toks:=tk }:=I.kept λb o e=>Heap.get?_push_of_some _ e;show#[(s.heap.push { cls:=.type "range",data:=.fields ([.int lo t,.int hi u,.int 1 v].toArray) }).objs.size,[(s.heap.push { cls:=.type "range",data:=.fields ([.int lo t,.int hi u,.int 1 v].toArray) }).objs.size],2,H,rfl,
  G.kept (t':=tk) λb o e=>Heap.get?_push_of_some _ e,uO _ lo (hi-lo).toNat,?_,λb N=>?_,q]
 .have J:lo+((0:Nat):Int)*1=lo:=(by simp);have O:(((hi-lo).toNat:Nat):Int)-((0:Nat):Int)=Builtin.Range.rangeSize lo hi 1:=(by rw[rangeSize_one];split<;>omega);change Pp _ _ (lo+((0:Nat):Int)*1) ((((hi-lo).toNat:Nat):Int)-((0:Nat):Int)) 1;rw[J,O];show Heap.get?_push_size _ rfl
 .have e:b=(s.heap.push { cls:=.type "range",data:=.fields ([.int lo t,.int hi u,.int 1 v].toArray) }).objs.size:=(by simpa using N);subst e;show G.jn (qj _) (G.bE.fresh (qj _))
noncomputable def HI (ta:TA):TI:=λσ H R=>ta σ H λvs H1=>∃j:Int,vs=[.int j] /\ -(2^62)<=j/\j<2^62/\R (B6 0 j.toNat) H1
noncomputable def Ht (ta:TA):TI:=λσ H R=>ta σ H λvs H1=>xZ λ(i j:Int)=>sf (vs=[.int i,.int j]) ((-(2^62)<=i/\i<2^62 /\ -(2^62)<=j/\j<2^62)) (R (B6 i (j-i).toNat) H1)
theorem pS {a:KN}{ta:TA}{p pos:Nn}(hg:Gl X "range") (S:X.mg "range" = none) (Y:PA X [a] ta) (hs:starEach [a] X.env=[(false,eval a X.env)]:=by rfl):PI X tg (.Call (.Name "range" p) [a] [] pos) (HI ta):=by
 intro pins s σ H R I h;show Call_ (ig I hg S Q4 (Lo (bV (Y pos pins s σ H _ I h) λus s1 J=>?_) hs rfl));let#[vs,H1,U,L,G]:=J;let#[j,e,G,N,q]:=G;subst e;cases L with
 |cons r O =>
  cases O;let#[t,rfl]:=r;show call_range_1 (sG U ae ae G N (by simpa using q))
theorem fj {a b:KN}{ta:TA}{p pos:Nn}(hg:Gl X "range") (hm:X.mg "range" = none) (ha:PA X [a,b] ta) (hs:starEach [a,b] X.env=[(false,eval a X.env),(false,eval b X.env)]:=by rfl) (L:starEach [b] X.env=[(false,eval b X.env)]:=by rfl) :
  PI X tg (.Call (.Name "range" p) [a,b] [] pos) (Ht ta):=by
 intro pins s σ H R I h;show Call_ (ig I hg hm Q4 (Lo (bV (ha pos pins s σ H _ I h) λus s1 ⟨vs,H1,S,U,J⟩=>?_) (by rw[hs,L]) (by rw[L];rfl)));let#[i,j,e,#[J,Y,q3,O],q]:=J;subst e;cases U with
 |cons r G =>
  cases G with
  |cons N G =>
   cases G;let#[t,rfl]:=r;let#[t',rfl]:=N;show call_range_2 (sG S J Y q3 O q)
noncomputable def JH (wi:TI) (g:TG) (tb:TS):TS:=λD σ H=>wi σ H λJ H1=>∃W:Nat->Nat->St->Hp->Prop,(∃m,W 0 m σ H1)/\∀i m σ H,W i m σ H ->
 (J.stop i H/\D.nx σ H)\/(J.go i H/\∃N:St->Hp->Prop,(∀I H',N I H'->∃G,G<m/\W (i+1) G I H')/\∀x H',J.Bz i H x H'->g x σ H' λL H2=>tb { D with nx:=N,ct:=N,bk:=D.nx } L H2)
noncomputable def oa (fp:List Addr) (h:Heap):List (Addr×Obj):=fp.filterMap λb=>(h.get? b).map λo=>(b,o)
theorem gy {fp:List Addr}{h:Heap}{b:Addr}{o:Obj}(G:b∈fp) (e:h.get? b=some o):(b,o)∈oa fp h:=PZ.mpr #[b,G,by rw[e];rfl]
theorem xV {fp:List Addr}{h:Heap}{p:Addr×Obj}(I:p∈oa fp h):p.1∈fp/\h.get? p.1=some p.2:=by
 let#[b,J,e]:=PZ.mp I;cases q:h.get? b with
 |none=>rw[q]at e;cases e
 |some o =>
  rw[q]at e;have G:(b,o)=p:=rk e;subst G;show#[J,q]
theorem Inv.pinned {pins:List (Addr×Obj)}{σ:St}{H:Hp}{s:mu}{fp:List Addr}(I:Inv X pins σ H s) (S:∀b∈fp,gi X pins H b) (R:∀b∈fp,∃o,s.heap.get? b=some o/\∀v,o.data≠.cell v):Inv X (pins++oa fp s.heap) σ H s :=
 I.lD λp O=>(oR.mp O).elim (λz=>I.pin p (KO _ z)) λz=>by
  let#[G,e]:=xV z;let#[N,L,U,_]:=S p.1 G;let#[o,J,d]:=R p.1 G;rw[e]at J;cases J;show#[e,N,L,U,d]
theorem Inv.mQ {pins pl:List (Addr×Obj)}{σ:St}{H:Hp}{s:mu}(I:Inv X (pins++pl) σ H s):Inv X pins σ H s:=I.lD λp G=>I.pin p (KO _ (LC _ G))
theorem cG {iter:KN}{body:List KP}{wi:TI}{g:TG}{tb:TS}{pos:Nn}(hp:PassesOwn (model X.prog X.w) X.A X.env X.xe) (hc:X.calm=true) (hi:PI X tg iter wi) (hg:PG X tg g) (O:uM X body tb)
  (hs:∀x,Ow iter X.env x=pure x:=by intro _;rfl):PS X (.For tg iter body [] pos) (JH wi g tb):=by
 intro pins s σ H D I h;show wpAny_For (bV (hi pins s σ H _ I h) λv s1 h1=>bV h1 λba s2 h2=>?_) hs;let#[it,fp,tn,J,H2,e,I2,T,a5,f2,W,#[m0,w0],a3]:=h2;subst e;have ac:∀{H':Hp},(∀b∈fp,H' b=none)->∀b∈fp,gi X pins H' b:=λhn b O=>#[hn b O,(f2 b O).2];show codeAny_forLoop_any (λn s'=>∃i ab H',Inv X pins ab H' s'/\tn i s'.heap/\(∀b∈fp,H' b=none)/\W i n ab H') ?_ m0 #[(0),σ,H2,I2,a5,λb O=>(f2 b O).1,w0];rintro n s3 ⟨i,U,H3,I3,ap,as,w3⟩;rcases a3 i n U H3 w3 with⟨aT,qn⟩|⟨go,N,hN,step⟩
 .show Mi hp (bV (T.done X rfl rfl rfl hc i pins s3 U H3 X.xe I3 (ac as) ap aT) λr s4 a6=>?_);let#[hr,I4]:=a6;subst hr;show NV #[U,H3,I4,qn]
 .show Mi hp (bV (T.item X rfl rfl rfl hc i pins s3 U H3 X.xe I3 (ac as) ap go) λr s4 a1=>?_);let#[u,hr,h4]:=a1;subst hr;show Mi hp (bV h4 λ_ s5 a2=>?_);let#[x,H5,I5,r5,y5,am,a7]:=a2;have a0:=I5.pinned (ac a7) (T.obj _ _ am);show Mi hp (bV (hg _ s5 U H5 x u _ a0 r5 (step x H5 y5)) λ_ s6 a4=>?_);let#[aB,H6,I6,q6]:=a4;show Mi hp (bV (O _ s6 aB H6 _ I6 q6) λf s7 S=>?_);have again:∀{G:St}{R:Hp},Inv X (pins++oa fp s5.heap) G R s7->N G R->∃m,m<n/\∃i ab H',Inv X pins ab H' s7/\tn i s7.heap/\(∀b∈fp,H' b=none)/\W i m ab H':=λ{G R} L Y=>by
   let#[m',hm,w7]:=hN G R Y;show#[m',hm,i+1,G,R,L.mQ,T.keep _ _ _ am λb O o e=>(L.pin (b,o) (KO _ (KO _ (gy O e)))).1,λb O=>?_,w7];let#[o,e,d]:=T.obj _ _ am b O;show(L.pin (b,o) (KO _ (KO _ (gy O e)))).2.1
  cases f with
  |next=>let#[G,R,L,Y]:=S;show again L Y
  |cont=>let#[G,R,L,Y]:=S;show again L Y
  |brk=>let#[G,R,L,S]:=S;show#[G,R,L.mQ,S]
  |ret v=>let#[x7,G,R,L,r7,S]:=S;show#[x7,G,R,L.mQ,r7,S]
end
theorem fC {K:iF}{a:Addr}{xs:List V}{g:TG}{tb:TS}{D:Ends}{σ:St}{H:Hp}(Pv:Nat->St->Hp->Prop) (R:Pv 0 σ H) (O:∀i σ H,i<=xs.length->Pv i σ H->bA K H a xs)
  (hs:∀i x σ H,xs[i]?=some x->Pv i σ H->g x σ H λG H2=>tb { D with nx:=Pv (i+1),ct:=Pv (i+1),bk:=D.nx } G H2) (hd:∀σ H,Pv xs.length σ H->D.nx σ H) :
  ∃W:Nat->Nat->St->Hp->Prop,(∃m,W 0 m σ H)/\∀i m σ H,W i m σ H ->
   ((E8 K a).stop i H/\D.nx σ H)\/((E8 K a).go i H/\∃N:St->Hp->Prop,(∀I H',N I H'->∃L,L<m/\W (i+1) L I H')/\∀x H',(E8 K a).Bz i H x H'->g x σ H' λG H2=>tb { D with nx:=N,ct:=N,bk:=D.nx } G H2):=by
 show#[λi m σ H=>m=xs.length-i/\i<=xs.length/\Pv i σ H,#[xs.length,by simp,KH _,R],?_];rintro i m σ H ⟨rfl,hi,p⟩;have q:=O i σ H hi p;by_cases J:i<xs.length
 .show .inr #[#[xs,xs[i],q,by simp[J]],Pv (i+1),λI H' S=>#[xs.length-(i+1),ae,rfl,J,S],λx H' y=>?_];let#[e,y]:=y;subst e;show hs i x σ _ (y xs q) p
 .have e:i=xs.length:=ae;subst e;show .inl #[#[xs,q,qj _],hd σ H p]
theorem gq {lo:Int}{n:Nat}{g:TG}{tb:TS}{D:Ends}{σ:St}{H:Hp}(Pv:Nat->St->Hp->Prop) (O:Pv 0 σ H)
  (hs:∀i σ H,i<n->Pv i σ H->g (.int (lo+i)) σ H λI H2=>tb { D with nx:=Pv (i+1),ct:=Pv (i+1),bk:=D.nx } I H2) (hd:∀σ H,Pv n σ H->D.nx σ H) :
  ∃W:Nat->Nat->St->Hp->Prop,(∃m,W 0 m σ H)/\∀i m σ H,W i m σ H ->
   ((B6 lo n).stop i H/\D.nx σ H)\/((B6 lo n).go i H/\∃N:St->Hp->Prop,(∀J H',N J H'->∃L,L<m/\W (i+1) L J H')/\∀x H',(B6 lo n).Bz i H x H'->g x σ H' λI H2=>tb { D with nx:=N,ct:=N,bk:=D.nx } I H2):=by
 show#[λi m σ H=>m=n-i/\i<=n/\Pv i σ H,#[n,by simp,KH _,O],?_];rintro i m σ H ⟨rfl,hi,p⟩;by_cases G:i<n
 .show .inr #[G,Pv (i+1),λJ H' R=>#[n-(i+1),ae,rfl,G,R],λx H' y=>?_];let#[e,y]:=y;subst e y;show hs i σ _ G p
 .have e:i=n:=ae;subst e;show .inl #[qj _,hd σ H p]
noncomputable abbrev R2:=V->V->Hp->VK->Prop
noncomputable def kZ (X:Cx) (f:Value->Value->Qg Value) (r:R2):Prop :=
 ∀(pins:List (Addr×Obj)) (s:mu) (σ:St) (H:Hp) (x y:V) (v u:Value) (Q:VK),Inv X pins σ H s->RelV x v->RelV y u->r x y H Q ->
  wpAny (model X.prog X.w) X.A (f v u) (EP X pins σ Q) X.xe s
noncomputable def Jw (X:Cx) (f:Value->Qg Value) (r:V->Hp->VK->Prop):Prop :=
 ∀(pins:List (Addr×Obj)) (s:mu) (σ:St) (H:Hp) (x:V) (v:Value) (Q:VK),Inv X pins σ H s->RelV x v->r x H Q ->
  wpAny (model X.prog X.w) X.A (f v) (EP X pins σ Q) X.xe s
noncomputable def dB (X:Cx) (f:Value) (r:List V->Hp->VK->Prop):Prop :=
 ∀(pins:List (Addr×Obj)) (s:mu) (σ:St) (H:Hp) (xs:List V) (us:List Value) (Q:VK),Inv X pins σ H s->Vals xs us->r xs H Q ->
  wpAny (model X.prog X.w) X.A (call f us) (EP X pins σ Q) X.xe s
noncomputable def BG (r:R2) (ta tb:TE):TE:=λσ H Q=>ta σ H λx H1=>tb σ H1 λy H2=>r x y H2 Q
noncomputable def Km (r:V->Hp->VK->Prop) (ta:TE):TE:=λσ H Q=>ta σ H λx H1=>r x H1 Q
inductive rI (C:Int->Int->Prop) (g:Int->Int->V) (x:V) (y:V) (H:Hp) (Q:VK):Prop
 |mk (i:_) (j:_) (_:x=.int i) (_:y=.int j) (_:C i j) (_:Q (g i j) H):rI C g x y H Q
inductive Dr (g:Int->Int->V) (x:V) (y:V) (H:Hp) (Q:VK):Prop
 |mk (i:_) (j:_) (_:x=.int i) (_:y=.int j) (_:Q (g i j) H):Dr g x y H Q
inductive rU (g:Int->V) (x:V) (H:Hp) (Q:VK):Prop
 |mk (i:_) (_:x=.int i) (_:Q (g i) H):rU g x H Q
section
variable {X:Cx}{a b c:KN}{ta tb tc:TE}{pos:Nn}
theorem ET (ha:PE X a ta) (O:PE X b tb) {pins:List (Addr×Obj)}{s:mu}{σ:St}{H:Hp}{R:V->V->Hp->Prop}(I:Inv X pins σ H s)
  (h:ta σ H λx H1=>tb σ H1 λy H2=>R x y H2) {Q:Value->mu->Prop}{f:Value->Value->Qg Value}
  (hf:∀v u s2 x y H2,Inv X pins σ H2 s2->RelV x v->RelV y u->R x y H2->wpAny (model X.prog X.w) X.A (f v u) Q X.xe s2) :
  wpAny (model X.prog X.w) X.A (eval a X.env) (λv U=>wpAny (model X.prog X.w) X.A (eval b X.env) (λu L=>wpAny (model X.prog X.w) X.A (f v u) Q X.xe L) X.xe U) X.xe s:=by
 show bV (ha pins s σ H _ I h) λv s1 J=>?_;let#[x,H1,G,Y,q1]:=J;show bV (O pins s1 σ H1 _ G q1) λu s2 N=>?_;let#[y,H2,I2,S,q2]:=N;show hf v u s2 x y H2 I2 Y S q2
theorem aA {G:Qi}{r:R2}(R:kZ X (NR G) r) (S:PE X a ta) (L:PE X b tb):PE X (.BinOp a G b pos) (BG r ta tb):=by
 intro pins s σ H Q I h;show wpAny_BinOp (ET S L I h λv u s2 x y H2 N J O q=>R pins s2 σ H2 x y v u Q N J O q)
theorem Ic {G:UnaryOp}{r:V->Hp->VK->Prop}(N:Jw X (unaryOp G) r) (R:PE X a ta):PE X (.UnaryOp G a pos) (Km r ta):=by
 intro pins s σ H Q I h;show UnaryOp_ (bV (R pins s σ H _ I h) λv s1 J=>by let#[x,H1,O,L,S]:=J;show N pins s1 σ H1 x v Q O L S)
theorem IE {f:Value->Value->Qg Value}{C:Int->Int->Prop}{g:Int->Int->Int}
  (rule:∀(i j:Int) (t u:Ss) (s:mu) (Q:Value->mu->Prop) (E:Value->mu->Prop),C i j->Q (.int (g i j) s.toks) { s with toks:=s.toks+1 }->wpAny (model X.prog X.w) X.A (f (.int i t) (.int j u)) Q E s) :
  kZ X f (rI C λi j=>.int (g i j)):=by
 intro pins s σ H x y v u Q I J L h;let#[i,j,rfl,rfl,G,q]:=h;let#[t,rfl]:=J;let#[t',rfl]:=L;show rule i j t t' s _ _ G #[.int (g i j),H,I.tok _,#[0],q]
theorem Hg {f:Value->Value->Qg Value}{g:Int->Int->Int}
  (rule:∀(i j:Int) (t u:Ss) (s:mu) (Q:Value->mu->Prop) (E:Value->mu->Prop),Q (.int (g i j) s.toks) { s with toks:=s.toks+1 }->wpAny (model X.prog X.w) X.A (f (.int i t) (.int j u)) Q E s) :
  kZ X f (Dr λi j=>.int (g i j)):=by
 intro pins s σ H x y v u Q I G J h;let#[i,j,rfl,rfl,q]:=h;let#[t,rfl]:=G;let#[t',rfl]:=J;show rule i j t t' s _ _ #[.int (g i j),H,I.tok _,#[0],q]
theorem E1 {f:Value->Value->Qg Value}{g:Int->Int->Bool}
  (rule:∀(i j:Int) (t u:Ss) (s:mu) (Q:Value->mu->Prop) (E:Value->mu->Prop),Q (.bool (g i j)) s->wpAny (model X.prog X.w) X.A (f (.int i t) (.int j u)) Q E s) :
  kZ X f (Dr λi j=>.bl (g i j)):=by
 intro pins s σ H x y v u Q I G J h;let#[i,j,rfl,rfl,q]:=h;let#[t,rfl]:=G;let#[t',rfl]:=J;show rule i j t t' s _ _ #[.bl (g i j),H,I,rfl,q]
noncomputable def F0 (i j:Int):Prop:=0<j/\j<1073741824
noncomputable def Ju (i j:Int):Prop:=0<=j/\j<=1000000/\i.natAbs<2^64
noncomputable def Bu (i j:Int):Prop:=(-(2^64)<i/\i<2^64)\/(-(2^64)<j/\j<2^64)
theorem Bu.ok {i j:Int}(h:Bu i j):IntMulOk i j:=by
 rcases h with⟨h1,h2⟩|⟨h1,h2⟩
 .show .of_left (intBits_le_64 h1 h2)
 .show .of_right (intBits_le_64 h1 h2)
theorem bp:kZ X (NR .Add) (Dr λi j=>.int (i+j)):=Hg λ_ _ _ _ _ _ _ q=>add_int q
theorem jh:kZ X (NR .Sub) (Dr λi j=>.int (i-j)):=Hg λ_ _ _ _ _ _ _ q=>sub_int q
theorem dZ:kZ X (NR .Mult) (rI Bu λi j=>.int (i*j)):=IE λ_ _ _ _ _ _ _ G q=>mul_int q G.ok
theorem bt:kZ X (NR .FloorDiv) (rI F0 λi j=>.int (i/j)):=IE λi j _ _ _ _ _ G q=>by
 have h1:(0:Int)<j:=G.1;have h2:j<1073741824:=G.2;show floordiv_int ae (by rw[Int.fdiv_eq_ediv_of_nonneg i ae];show q) (.inl (PyProof.noPylong_small ae))
theorem bB:kZ X (NR .Mod) (rI (λ_ j=>0<j) λi j=>.int (i%j)):=IE λi j _ _ _ _ _ G q=>by
 have h1:(0:Int)<j:=G;show mod_int' ae (by rw[Int.fmod_eq_emod_of_nonneg i ae];show q)
theorem uR:kZ X (NR .Pow) (rI Ju λi j=>.int (i^j.toNat)):=IE λ_ _ _ _ _ _ _ G q=>pow_int_small G.1 G.2.1 G.2.2 q
theorem Kt {f:Value->Qg Value}{g:Int->Int}
  (rule:∀(i:Int) (t:Ss) (s:mu) (Q:Value->mu->Prop) (E:Value->mu->Prop),Q (.int (g i) s.toks) { s with toks:=s.toks+1 }->wpAny (model X.prog X.w) X.A (f (.int i t)) Q E s) :
  Jw X f (rU λi=>.int (g i)):=by
 intro pins s σ H x v Q I G h;let#[i,rfl,q]:=h;let#[t,rfl]:=G;show rule i t s _ _ #[.int (g i),H,I.tok _,#[0],q]
theorem EH:Jw X (unaryOp .USub) (rU λi=>.int (-i)):=Kt λ_ _ _ _ _ q=>neg_int q
end
noncomputable def sI:V->V->Bool
 |.non,.non=>true|.non,.int _=>true|.int _,.non=>true|.non,.bl _=>true|.bl _,.non=>true|.non,.str _=>true|.str _,.non=>true
 |.int _,.int _=>true|.bl _,.bl _=>true|.str _,.str _=>true|.byt _,.byt _=>true
 |.int _,.str _=>true|.str _,.int _=>true|.bl _,.str _=>true|.str _,.bl _=>true
 |_,_=>false
noncomputable def Fd:R2:=λx y H Q=>sI x y=true/\Q (.bl (decide (x=y))) H
noncomputable def Kl:R2:=λx y H Q=>sI x y=true/\Q (.bl (!decide (x=y))) H
theorem wY {i j:Int}:decide (V.int i=V.int j)=(i==j):=by
 rw[MB];simp
theorem y8 {i j:Bool}:decide (V.bl i=V.bl j)=(i==j):=by
 rw[MB];simp
theorem xA {i j:Str}:decide (V.str i=V.str j)=(i==j):=by
 rw[MB];simp
theorem xi {i j:Array UInt8}:decide (V.byt i=V.byt j)=(i.toList==j.toList):=by
 rw[MB];cases i;cases j;simp
section
variable {X:Cx}{a b c:KN}{ta tb tc:TE}{pos:Nn}
theorem bN {pins:List (Addr×Obj)}{σ:St}{H:Hp}{s:mu}{Q:VK}{k G:Bool}(I:Inv X pins σ H s) (q:Q (.bl k) H) (e:k=G):EP X pins σ Q (.bool G) s:=by
 subst e;show#[.bl k,H,I,rfl,q]
theorem bP:kZ X (LJ .Eq) Fd:=by
 intro pins s σ H x y v u Q I J G h;let#[hs,q]:=h;cases x with
 |non =>
  cases J;cases y with
  |non=>cases G;show PySem.EqNone.eq_none_none (bN I q (by simp))
  |bl j=>cases G;show PySem.EqNone.eq_none_bool (bN I q (by simp))
  |int j=>let#[t',rfl]:=G;show PySem.EqNone.eq_none_int (bN I q (by simp))
  |str j=>let#[t',rfl]:=G;show PySem.EqNone.eq_none_str (bN I q (by simp))
  |_=>show absurd (show false=true from hs) tu
 |bl i =>
  cases J;cases y with
  |non=>cases G;show PySem.EqNone.eq_bool_none (bN I q (by simp))
  |bl j=>cases G;show eq_bool (bN I q y8)
  |str j=>let#[t',rfl]:=G;show Rw (bN I q (by simp))
  |_=>show absurd (show false=true from hs) tu
 |int i =>
  let#[t,rfl]:=J;cases y with
  |non=>cases G;show PySem.EqNone.eq_int_none (bN I q (by simp))
  |int j=>let#[t',rfl]:=G;show eq_int (bN I q wY)
  |str j=>let#[t',rfl]:=G;show RC (bN I q (by simp))
  |_=>show absurd (show false=true from hs) tu
 |str i =>
  let#[t,rfl]:=J;cases y with
  |non=>cases G;show PySem.EqNone.eq_str_none (bN I q (by simp))
  |bl j=>cases G;show Rx (bN I q (by simp))
  |int j=>let#[t',rfl]:=G;show RD (bN I q (by simp))
  |str j=>let#[t',rfl]:=G;show eq_str (bN I q xA)
  |_=>show absurd (show false=true from hs) tu
 |byt i =>
  let#[t,rfl]:=J;cases y with
  |byt j=>let#[t',rfl]:=G;show PySem.W.eq_bytes (bN I q xi)
  |_=>show absurd (show false=true from hs) tu
 |_=>cases y<;>show absurd (show false=true from hs) tu
theorem Dw:kZ X (LJ .NotEq) Kl:=by
 intro pins s σ H x y v u Q I J G h;let#[hs,q]:=h;cases x with
 |non =>
  cases J;cases y with
  |non=>cases G;show PySem.EqNone.ne_none_none (bN I q (by simp))
  |bl j=>cases G;show PySem.EqNone.ne_none_bool (bN I q (by simp))
  |int j=>let#[t',rfl]:=G;show PySem.EqNone.ne_none_int (bN I q (by simp))
  |str j=>let#[t',rfl]:=G;show PySem.EqNone.ne_none_str (bN I q (by simp))
  |_=>show absurd (show false=true from hs) tu
 |bl i =>
  cases J;cases y with
  |non=>cases G;show PySem.EqNone.ne_bool_none (bN I q (by simp))
  |bl j=>cases G;show ne_bool (bN I q (congrArg not y8))
  |str j=>let#[t',rfl]:=G;show Ry (bN I q (by simp))
  |_=>show absurd (show false=true from hs) tu
 |int i =>
  let#[t,rfl]:=J;cases y with
  |non=>cases G;show PySem.EqNone.ne_int_none (bN I q (by simp))
  |int j=>let#[t',rfl]:=G;show ne_int (bN I q (congrArg not wY))
  |str j=>let#[t',rfl]:=G;show RE (bN I q (by simp))
  |_=>show absurd (show false=true from hs) tu
 |str i =>
  let#[t,rfl]:=J;cases y with
  |non=>cases G;show PySem.EqNone.ne_str_none (bN I q (by simp))
  |bl j=>cases G;show Rz (bN I q (by simp))
  |int j=>let#[t',rfl]:=G;show RH (bN I q (by simp))
  |str j=>let#[t',rfl]:=G;show ne_str (bN I q (congrArg not xA))
  |_=>show absurd (show false=true from hs) tu
 |byt i =>
  let#[t,rfl]:=J;cases y with
  |byt j=>let#[t',rfl]:=G;show PySem.W.ne_bytes (bN I q (congrArg not xi))
  |_=>show absurd (show false=true from hs) tu
 |_=>cases y<;>show absurd (show false=true from hs) tu
theorem gK:kZ X (LJ .Lt) (Dr λi j=>.bl (decide (i<j))):=E1 λ_ _ _ _ _ _ _ q=>lt_int q
theorem gI:kZ X (LJ .Gt) (Dr λi j=>.bl (decide (j<i))):=E1 λ_ _ _ _ _ _ _ q=>gt_int q
theorem Hk:kZ X (LJ .GtE) (Dr λi j=>.bl (decide (j<=i))):=E1 λ_ _ _ _ _ _ _ q=>ge_int q
theorem EF:kZ X (LJ .Is) (λx y H Q=>y=.non/\Q (.bl (decide (x=.non))) H):=by
 intro pins s σ H x y v u Q I G J h;let#[rfl,q]:=h;cases J;show is_none_gen (bN I q ?_);cases x<;>first
  |(cases G;rfl)
  |(let#[t,rfl]:=G;rfl)
theorem aI (b:KN) {G:Sa}(h:G≠.In:=by decide) (h2:G≠.NotIn:=by decide):Na G b=false:=by
 have I:(G==CmpOp.In)=false:=by cases G<;>first|rfl|show absurd rfl h
 have J:(G==CmpOp.NotIn)=false:=by cases G<;>first|rfl|show absurd rfl h2
 cases b<;>simp[Na,I,J]
theorem iI {G:Sa}{r:R2}(R:kZ X (LJ G) r) (U:PE X a ta) (L:PE X b tb) (S:Na G b=false):PE X (.Compare a [G] [b] pos) (BG r ta tb):=by
 intro pins s σ H Q I h;show wpAny_Compare1 (ET U L I h λv u s2 x y H2 N J O q=>R pins s2 σ H2 x y v u Q N J O q) S
inductive Af (t:TE) (Q:Bool->Hp->Prop) (x:V) (H':Hp):Prop
 |mk (k:_) (_:x=.bl k) (_:Q k H'):Af t Q x H'
noncomputable def m6 (t:TE):TT:=λσ H Q=>t σ H λx H'=>Af t Q x H'
theorem aD {G:Sa}{r:R2}(Y:kZ X (LJ G) r) (ha:PE X a ta) (L:PE X b tb) (hm:Na G b=false):PT X (.Compare a [G] [b] pos) (m6 (BG r ta tb)):=by
 intro pins s σ H Q I h;show Pj (bV (ha pins s σ H _ I h) λv s1 ⟨x,H1,I1,R,q1⟩=>bV (L pins s1 σ H1 _ I1 q1) λu s2 ⟨y,H2,U,O,S⟩ =>
  bV (Y pins s2 σ H2 x y v u _ U R O S) λc s3 ⟨z,H3,N,J,k,e,q3⟩=>?_) hm
 subst e;cases J;show LG #[H3,N,q3]
theorem l9:(sizeLine:Nat)<2^63:=by rw[ub];decide
theorem vals1 {x:V}{us:List Value}(r:Vals [x] us):∃u,us=[u]/\RelV x u:=by
 cases r with
 |cons I G=>cases G;show#[0,I]
theorem vals2 {x y:V}{us:List Value}(r:Vals [x,y] us):∃u G,us=[u,G]/\RelV x u/\RelV y G:=by
 cases r with
 |cons J I =>
  cases I with
  |cons N L=>cases L;show#[_,0,J,N]
theorem pJ (J:X.calm=true):dB X (.builtin "max") (λxs H Q=>∃i j,xs=[.int i,.int j]/\Q (.int (if j>i then j else i)) H):=by
 intro pins s σ H xs us Q I r h;let#[i,j,rfl,q]:=h;let#[u,L,rfl,#[t,rfl],#[t',rfl]]:=vals2 r;show max_two_ints (I.ok.hd J) λh' tk k=>#[_,H,I.kept k,?_,q];by_cases G:j>i
 .rw[Sv G,Sv G];show#[0]
 .rw[Su G,Su G];show#[0]
theorem pM (J:X.calm=true):dB X (.builtin "min") (λxs H Q=>∃i j,xs=[.int i,.int j]/\Q (.int (if j<i then j else i)) H):=by
 intro pins s σ H xs us Q I r h;let#[i,j,rfl,q]:=h;let#[u,L,rfl,#[t,rfl],#[t',rfl]]:=vals2 r;show min_two_ints (I.ok.hd J) λh' tk k=>#[_,H,I.kept k,?_,q];by_cases G:j<i
 .rw[Sv G,Sv G];show#[0]
 .rw[Su G,Su G];show#[0]
theorem er:dB X (.type "int") (λxs H Q=>(∃i,xs=[.int i]/\Q (.int i) H)\/∃k,xs=[.bl k]/\Q (.int (if k then 1 else 0)) H):=by
 intro pins s σ H xs us Q I r h;rcases h with⟨i,rfl,q⟩|⟨k,rfl,q⟩
 .let#[u,rfl,t,rfl]:=vals1 r;show call_int_int #[.int i,H,I,#[0],q]
 .let#[u,rfl,G]:=vals1 r;cases G;show call_int_bool #[.int (if k then 1 else 0),H,I.tok _,#[0],q]
end
structure um (h:Heap) (x dx C:Addr) (mA:Str->Option Value):Prop where
 obj:h.get? x=some (instObj C dx)
 ns:h.Ns1 dx mA
 ne:dx≠x
theorem xG {h:Heap}{dx:Addr}{mA:Str->Option Value}(n:h.Ns1 dx mA):∃od,h.get? dx=some od/\∀name,lookIn name od=some (mA name):=by
 let#[o,es,ep,L,hd,I,_,N]:=n;show#[o,L,λname=>?_];have e:=N name;unfold nsFind findBy at e;rw[<-Array.find?_toList]at e;unfold lookIn;rw[hd];dsimp only
 set_option tactic.hygienic true in split
 .rename_i y q;rw[q]at e;show congrArg some e
 .rename_i q;rw[q]at e;have a:es.toList.any (·.refKey)=false:=by
   rw[Ql];intro y J;let#[z,t,G]:=I y (Array.mem_toList_iff.mp J);simp[DictEntry.refKey,G]
  have O:¬ es.toList.any (·.refKey)=true:=(by rw[a];show tu);rw[Su O];show congrArg some e
theorem um.look {h:Heap}{x dx C:Addr}{mA:Str->Option Value}(I:um h x dx C mA):∃od,PySem.W.InstAt h x (instObj C dx) C (some od)/\∀name,lookIn name od=some (mA name):=
 let ⟨od,J,G⟩:=xG I.ns
 #[od,#[I.obj,1,J],G]
section
variable {prog:rr}{w:Bd}{A:KL}{E:Value->mu->Prop}{s:mu}{K:iF}{x dx C f:Addr}{mA:Str->Option Value}{name:Str}{v:Value}
theorem get_map {S:Bool}{Q:Value->mu->Prop}(X:K.In s.heap) (I:um s.heap x dx C mA) (U:Q5 K C name=true) (G:RQ K C=true)
  (R:N9 K (.ref C) name=some none) (N:mA name=some v) (O:handedIn v=true) (h:Q v { s with toks:=s.toks+1 }) :
  wpAny (model prog w) A (getAttr (.ref x) name S) Q E s:=by
 let#[od,J,L]:=I.look;show PySem.W.get_value X J (QL U).1 (PySem.W.findObj_own G R rfl (by rw[L,N])) O h
theorem As {pl:Qg Bool}{Q:Value×List Value->mu->Prop}(X:K.In s.heap) (I:um s.heap x dx C mA) (G:Q5 K C name=true)
  (R:N9 K (.ref C) name=some (some (.ref f))) (O:isFn K (.ref f)=true) (N:mA name=none) (h:Q (.ref f,[.ref x]) s) :
  wpAny (model prog w) A (OH (.ref x) name pl) Q E s:=by
 let#[od,J,L]:=I.look;show PySem.W.method_fn X J (QL G).1 (QL G).2 R (beq_iff_eq.mp O) (by change(lookIn name od).map (·.isSome)=some false;rw[L,N];rfl) h
theorem C5 {ns:List Str}{Q:Unit->mu->Prop}(X:K.In s.heap) (I:um s.heap x dx C mA)
  (hs:N9 K (.ref C) "__setattr__" = some (some (.builtin "object.__setattr__"))) (Y:plainOver K C=true) (R:takerIn K C name=some none) (N:RQ K C=true)
  (hw:Qe mA ns) (hsz:ns.length<=sizeLine)
  (h:∀h',um h' x dx C (λy=>if y=name then some v else mA y)->Heap.SameBut dx s.heap h'->Q () { s with heap:=h',toks:=s.toks+2 }) :
  wpAny (model prog w) A (setAttr (.ref x) name v) Q E s:=by
 let#[od,J,hl]:=I.look;show PySem.W.set_plain X J hs (PySem.W.osa_open (s:={ s with toks:=s.toks+1 }) (r:=none) X J Y R λb=>?_);let#[cd,O,ab]:=PySem.W.any_some N;have hx:s.heap.get? x=some #[.ref C,some dx,.plain, ([].toArray)]:=I.obj;show iN (p4 (iN (iN (wpAny_loadPart hx (iN (Sl (s:={ s with toks:=s.toks+1 }) (PySem.W.looks_clsIn X O) ?_))))));rw[ab];show p4 (a:=some dx) (iN (p4 (iN ?_)));show wpAny_nsSet1 (s:={ s with toks:=s.toks+1 }) I.ns λh' G L=>?_;let#[oD,am,ap,S,ac,U]:=G.count (PySem.Within.cons name v hw);show iN (wpAny_lookBehind S (by rw[ac];show pastItsLine_dict (KI U (by rw[DO];omega))) ?_);show p4 (h _ #[(L.2 _ (qs I.ne)).trans I.obj,G,I.ne] L)
theorem AS {R:Result->mu->Prop}{vs:List Value}{G:List (Str×Value)}(X:K.In s.heap) (I:makesIn K C=true)
  (hi:N9 K (.ref C) "__init__" = some (some (.ref f))) (J:PySem.W.typeIn K (.ref f)=some (.type "function"))
  (h:N3 (model prog w) (A.under (.builtin "type.__call__" #[.ref C::vs,G])) (.call (.ref f) #[.ref (s.heap.objs.size+1)::vs,G]) (PySem.W.InitBack (s.heap.objs.size+1) R)
   { s with heap:=(s.heap.push emptyDict).push (instObj C s.heap.objs.size) }) :
  N3 (model prog w) A (.call (.ref C) #[vs,G]) R s:=by
 let#[L,g,d,t,os]:=s;show PySem.W.make_core (PySem.W.makes_of X I) (PySem.W.looks_findIn X hi) (λself=>PySem.W.bind_fn X self J) (.inl rfl) h
end
noncomputable def bo (f:Str) (v:V):List (Str×V)->List (Str×V)
 | []=>[(f,v)]
 |(g,x)::r=>if g=f then(g,v)::r else(g,x)::bo f v r
theorem aG (f g:Str) (v:V):∀fs:List (Str×V),(bo f v fs).lookup g=if g=f then some v else fs.lookup g
 | []=>by
  change Np g [(f,v)]=_;by_cases h:g=f
  .have G:(g==f)=true:=beq_iff_eq.mpr h;simp only[Np,G,Sv h]
  .have G:(g==f)=false:=beq_eq_false_iff_ne.mpr h;simp only[Np,G,Su h]
 |(k,x)::r=>by
  have J:=aG f g v r;rw[show bo f v ((k,x)::r)=(if k=f then(k,v)::r else(k,x)::bo f v r)from rfl];by_cases I:k=f
  .rw[Sv I];by_cases h:g=k
   .have G:(g==k)=true:=beq_iff_eq.mpr h;simp only[Np,G,Sv (h.trans I)]
   .have G:(g==k)=false:=beq_eq_false_iff_ne.mpr h;simp only[Np,G,Su (λe:g=f=>h (e.trans I.symm))]
  .rw[Su I];by_cases h:g=k
   .have G:(g==k)=true:=beq_iff_eq.mpr h;simp only[Np,G,Su (λe:g=f=>I (h.symm.trans e))]
   .have G:(g==k)=false:=beq_eq_false_iff_ne.mpr h;simp only[Np,G];show J
theorem kI (f:Str) (v:V):∀fs:List (Str×V),f∈(bo f v fs).map (·.1)/\∀g,g∈fs.map (·.1)->g∈(bo f v fs).map (·.1)
 | []=>#[by simp[bo],λg h=>by simp at h]
 |(k,x)::r=>by
  let#[I,J]:=kI f v r;rw[show bo f v ((k,x)::r)=(if k=f then(k,v)::r else(k,x)::bo f v r)from rfl];by_cases G:k=f
  .rw[Sv G];subst G;show#[by simp,λg h=>by simpa using h]
  .rw[Su G];show#[?_,λg h=>?_]
   .rw[LQ];show KQ _ I
   .rw[LQ]at h ⊢;rcases wh.mp h with e|e
    .show wh.mpr (.inl e)
    .show KQ _ (J g e)
theorem k5 (f:Str) (v:V):∀fs:List (Str×V),(bo f v fs).length<=fs.length+1
 | []=>by simp[bo]
 |(k,x)::r=>by
  have I:=k5 f v r;rw[show bo f v ((k,x)::r)=(if k=f then(k,v)::r else(k,x)::bo f v r)from rfl];by_cases G:k=f
  .rw[Sv G,DO,DO];omega
  .rw[Su G,DO,DO];omega
theorem fW.some_of {v:V}{o:Option Value}(r:fW (some v) o):∃u,o=some u/\RelV v u:=by
 cases o with
 |none=>show(show False from r).elim
 |some u=>show#[u,rfl,r]
theorem fW.none_of {o:Option Value}(r:fW none o):o=none:=by
 cases o with
 |none=>rfl
 |some u=>show(show False from r).elim
theorem yA {v:V}{u:Value}(r:RelV v u):handedIn u=true:=by
 cases v with
 |non=>cases(show u=Value.none from r);rfl
 |bl b=>cases(show u=Value.bool b from r);rfl
 |int i=>let#[t,e]:=(show ∃t,u=Value.int i t from r);cases e;rfl
 |str x=>let#[t,e]:=(show ∃t,u=Value.str x t from r);cases e;rfl
 |byt b=>let#[t,e]:=(show ∃t,u=Value.bytes b t from r);cases e;rfl
 |flt b=>let#[t,e]:=(show ∃t,u=Value.float b t from r);cases e;rfl
 |ref a=>cases(show u=Value.ref a from r);rfl
 |ty n=>cases(show u=Value.type n from r);rfl
section
variable {P:rr}{w:Bd}{H H':Hp}{h h':Heap}{a C dx:Addr}{fs fs':List (Str×V)}
theorem lK (I:iZ P w H h) (e:H a=some (.ins C dx fs)):∃mA,um h a dx C mA/\(∀f,fW (fs.lookup f) (mA f))/\Qe mA (fs.map (·.1))/\fs.length<=1000/\H dx=some (.own a):=by
 let#[d,z,G,ob,mA,n,r,q]:=(show bT P w H h a (.ins C dx fs)from I a _ e);show#[mA,#[ob,n,G],r,q,z,d]
end
structure r9 (K:iF) (C:Addr):Prop where
 pg:Q5 K C Str.empty=true
 hd:RQ K C=true
 po:plainOver K C=true
 sa:N9 K (.ref C) "__setattr__" = some (some (.builtin "object.__setattr__"))
theorem r9.get {K:iF}{C:Addr}(c:r9 K C) (f:Str):Q5 K C f=true:=c.pg
noncomputable def c6 (K:iF) (C:Addr) (f:Str):Prop:=N9 K (.ref C) f=some none
theorem c6.Ge {K:iF}{C:Addr}{f:Str}(n:c6 K C f):takerIn K C f=some none:=by
 unfold takerIn;rw[show N9 K (.ref C) f=some none from n];rfl
structure Meth (K:iF) (C:Addr) (m:Str) (f:Addr):Prop where
 at_:N9 K (.ref C) m=some (some (.ref f))
 fn:isFn K (.ref f)=true
 kp:Pq K (.ref f)=true
section
variable {X:Cx}{pins:List (Addr×Obj)}{σ:St}{H:Hp}{s:mu}{a C dx:Addr}{fs:List (Str×V)}{f:Str}{v:V}{A:KL}{E:Value->mu->Prop}
theorem mK {b:Bool}{Q:Value->mu->Prop}(I:Inv X pins σ H s) (e:H a=some (.ins C dx fs)) (c:r9 X.K C) (n:c6 X.K C f) (l:fs.lookup f=some v)
  (h:∀u s',Inv X pins σ H s'->RelV v u->Q u s'):wpAny (model X.prog X.w) A (getAttr (.ref a) f b) Q E s:=by
 let#[mA,O,r,_,_,_]:=lK I.bE e;let#[u,J,G]:=fW.some_of (v:=v) (o:=mA f) (by rw[<-l];show r f);show get_map I.kJ O (c.get f) c.hd n J (yA G) (h u _ (I.tok _) G)
theorem ng {m:Str}{g:Addr}{pl:Qg Bool}{Q:Value×List Value->mu->Prop}(I:Inv X pins σ H s) (e:H a=some (.ins C dx fs)) (c:r9 X.K C) (k:Meth X.K C m g) (l:fs.lookup m=none)
  (h:Q (.ref g,[.ref a]) s):wpAny (model X.prog X.w) A (OH (.ref a) m pl) Q E s:=by
 let#[mA,O,r,_,_,_]:=lK I.bE e;have G:mA m=none:=fW.none_of (by rw[<-l];show r m);show As I.kJ O (c.get m) k.at_ k.fn G h
theorem nv {y:V}{u:Value}{Q:Unit->mu->Prop}(I:Inv X pins σ H s) (e:H a=some (.ins C dx fs)) (c:r9 X.K C) (n:c6 X.K C f) (hl:fs.length<1000) (U:RelV y u)
  (h:∀s',Inv X pins σ (upd H a (.ins C dx (bo f y fs))) s'->Q () s'):wpAny (model X.prog X.w) A (setAttr (.ref a) f u) Q E s:=by
 let#[mA,O,r,wi,_,J]:=lK I.bE e;have R:(fs.map (·.1)).length<=sizeLine:=(by rw[nq,ub];omega);show C5 I.kJ O c.sa c.po n.Ge c.hd wi R λh' G L=>h _ ?_;have hd:∃o,h'.get? dx=some o:=let ⟨o,_,_,S,_⟩:=G.ns;#[o,S];show I.write (x:=a) (e:=dx) (by rw[e];show LH) (.inr J) (λb q N z=>(L.2 b N).trans z) hd ?_;show#[by rw[ah O.ne];show J,?_,O.ne,G.obj,_,G.ns,λg=>?_,λg Y=>?_]
 .have:=k5 f y fs;omega
 .change fW ((bo f y fs).lookup g) (if g=f then some u else mA g);rw[aG];by_cases q:g=f
  .rw[Sv q,Sv q];show U
  .rw[Su q,Su q];show r g
 .by_cases q:g=f
  .rw[q];show(kI f y fs).1
  .show(kI f y fs).2 g (wi g λz=>Y ?_);change(if g=f then some u else mA g)=none;rw[Su q];show z
theorem Inv.made (I:Inv X pins σ H s):Inv X pins σ (upd (upd H s.heap.objs.size (.own (s.heap.objs.size+1))) (s.heap.objs.size+1) (.ins C s.heap.objs.size []))
  { s with heap:=(s.heap.push emptyDict).push (instObj C s.heap.objs.size) }:=by
 have G:(s.heap.push emptyDict).get? s.heap.objs.size=some emptyDict:=Heap.get?_push_size s.heap rfl;have R:((s.heap.push emptyDict).push (instObj C s.heap.objs.size)).get? (s.heap.objs.size+1)=some (instObj C s.heap.objs.size):=by
  have:=Heap.get?_push_size (s.heap.push emptyDict) (o:=instObj C s.heap.objs.size) rfl
  rwa [Heap.size_push]at this
 have L:(s.heap.push emptyDict).Ns s.heap.objs.size (λ_=>none):=#[emptyDict, ([].toArray),_,G,rfl,(λe S=>absurd S (by simp)),λ_=>rfl];have N:=I.laid (a:=s.heap.objs.size) (o:=.own (s.heap.objs.size+1)) (h':=s.heap.push emptyDict) (t':=s.toks) (λb u q=>Heap.get?_push_of_some _ q) (qj _) #[_,G];show N.laid (a:=s.heap.objs.size+1) (o:=.ins C s.heap.objs.size []) (t':=s.toks) (λb u q=>Heap.get?_push_of_some _ q) (Qm (Heap.size_push _ _)) ?_;have J:s.heap.objs.size≠s.heap.objs.size+1:=KZ (NH _);show#[by rw[ah J,af],KH _,J,R,λ_=>none,(Heap.Ns1.of_empty L).at λo q=>Heap.get?_push_of_some _ q,λ_=>LH,λy O=>absurd rfl O]
theorem B7 {prog:rr}{w:Bd}{env:RU}{e:KN}{f:Str}{pos:Nn}{s:mu}{Q:Value->mu->Prop}(G:ME e f env (eval e env)=eval e env)
  (h:wpAny (model prog w) A (eval e env) (λo I=>wpAny (model prog w) A (getAttr o f true) Q E I) E s):wpAny (model prog w) A (eval (.Attribute e f pos) env) Q E s :=
 Attribute_any_ h (by rw[arm_eval_Attribute,G])
end
inductive Dm (K:iF) (ta:TE) (f:Str) (Q:VK) (x:V) (H1:Hp):Prop
 |mk (a:_) (C:_) (dx:_) (fs:_) (v:_) (_:x=.ref a) (_:H1 a=some (.ins C dx fs)) (_:r9 K C) (_:c6 K C f) (_:fs.lookup f=some v) (_:Q v H1):Dm K ta f Q x H1
noncomputable def CP (K:iF) (ta:TE) (f:Str):TE:=λσ H Q=>ta σ H λx H1=>Dm K ta f Q x H1
noncomputable def Jy (K:iF) (ta tv:TE) (f:Str):TS:=λD σ H=>tv σ H λy H1=>ta σ H1 λx H2=>Iu λa C dx fs=>yP (x=.ref a) (H2 a=some (.ins C dx fs)) (r9 K C) (c6 K C f) (fs.length<1000) (D.nx σ (upd H2 a (.ins C dx (bo f y fs))))
noncomputable def Ia (X:Cx) (G:Qi) (rd:V->V->Hp->VK->Prop):Prop :=
 ∀(pins:List (Addr×Obj)) (s:mu) (σ:St) (H:Hp) (x y:V) (u v:Value) (Q:VK),Inv X pins σ H s->RelV x u->RelV y v->rd x y H Q->wpAny (model X.prog X.w) X.A (inplaceOp G u v) (EP X pins σ Q) X.xe s
noncomputable def C6 (K:iF) (ta tv:TE) (rd:V->V->Hp->VK->Prop) (f:Str):TS:=λD σ H=>ta σ H λx H1=>BE λa C dx fs v=>yP (x=.ref a) (H1 a=some (.ins C dx fs)) (r9 K C) (c6 K C f) (fs.lookup f=some v) (tv σ H1 λy H2=>rd v y H2 λz H3=>∃G fs',H3 a=some (.ins C G fs')/\fs'.length<1000/\D.nx σ (upd H3 a (.ins C G (bo f z fs'))))
section
variable {X:Cx}{o e value:KN}{f:Str}{pos pos' tpos:Nn}{ta tv:TE}
theorem aK (S:PE X e ta) (O:ME e f X.env (eval e X.env)=eval e X.env):PE X (.Attribute e f pos) (CP X.K ta f):=by
 intro pins s σ H Q I h;show B7 O (bV (S pins s σ H _ I h) λu s1 G=>?_);let#[x,H1,U,J,a,C,dx,fs,v,ex,N,c,n,l,q]:=G;subst ex;obtain rfl:u=Value.ref a:=J;show mK U N c n l λY s2 R L=>#[v,H1,R,L,q]
theorem fm (ha:PE X o ta) (hv:PE X value tv) (hs:OG value (some (.Attribute o f pos')) pos.line X.env=pure false):PS X (.Assign [.Attribute o f pos'] value pos) (Jy X.K ta tv f):=by
 intro pins s σ H D I h;show plainObj_wpAny_Assign_Attribute (bV (hv pins s σ H _ I h) λu s1 N=>?_) hs;let#[y,H1,R,Y,q]:=N;show bV (ha pins s1 σ H1 _ R q) λov s2 J=>?_;let#[x,H2,O,G,a,C,dx,fs,ex,S,c,n,l,U]:=J;subst ex;obtain rfl:ov=Value.ref a:=G;show nv O S c n l Y λs3 L=>#[σ,_,L,U]
theorem yO {G:Qi}{rd:V->V->Hp->VK->Prop}(ha:PE X o ta) (hv:PE X value tv) (O:Ia X G rd):PS X (.AugAssign (.Attribute o f tpos) G value pos) (C6 X.K ta tv rd f):=by
 intro pins s σ H D I h;show wpAny_AugAssign_AttributeAny (bV (ha pins s σ H _ I h) λov s1 ab=>?_);let#[x,H1,I1,L,a,C,dx,fs,v,ex,ea,c,n,l,q]:=ab;subst ex;obtain rfl:ov=Value.ref a:=L;show mK I1 ea c n l λu s2 Y ru=>bV (hv pins s2 σ H1 _ Y q) λw3 s3 R=>?_;let#[y,H2,U,ry,q3]:=R;show bV (O pins s3 σ H2 v y u w3 _ U ru ry q3) λw4 s4 ac=>?_;let#[z,H3,J,N,ap,fs',am,l',q4]:=ac;show nv J am c n l' N λs5 S=>#[σ,_,S,q4]
inductive GY (x:V) (y:V) (H:Hp) (Q:VK):Prop
 |mk (i:_) (j:_) (_:x=.int i) (_:y=.int j) (_:Q (.int (i+j)) H):GY x y H Q
theorem Ef:Ia X .Add GY:=by
 rintro pins s σ H x y u v Q I G J ⟨i,j,rfl,rfl,q⟩;let#[t,rfl]:=(show ∃t,u=Value.int i t from G);let#[t',rfl]:=(show ∃t',v=Value.int j t' from J);show QV #[.int (i+j),H,I.tok _,#[0],q]
end
section
variable {X:Cx}{pins:List (Addr×Obj)}{σ:St}{H:Hp}{s:mu}{A:KL}{E:Value->mu->Prop}{Q:Value->mu->Prop}{c:Value}{b:Bool}
inductive jL (K:iF) (H:Hp):V->Value->Prop where
 |non:jL K H .non (.type "NoneType")
 |bl (x:Bool):jL K H (.bl x) (.type "bool")
 |int (i:Int):jL K H (.int i) (.type "int")
 |str (x:Str):jL K H (.str x) (.type "str")
 |flt (x:UInt64):jL K H (.flt x) (.type "float")
 |lst {a:Addr}{xs:List V}(e:H a=some (.lst xs)):jL K H (.ref a) (.type "list")
 |bO {a:Addr}{o:Obj}{xs:List V}(e:H a=some (.bO o (.lst xs))):jL K H (.ref a) (.type "list")
 |tup {a:Addr}{xs:List V}(e:H a=some (.tup xs)):jL K H (.ref a) (.type "tuple")
 |dK {a:Addr}{kvs:List (Key×V)}(e:H a=some (.dK kvs)):jL K H (.ref a) (.type "dict")
 |dT {a:Addr}{kvs:List (List Key×V)}(e:H a=some (.dT kvs)):jL K H (.ref a) (.type "dict")
 |ins {a C dx:Addr}{fs:List (Str×V)}(e:H a=some (.ins C dx fs)) (cl:r9 K C) (ha:N9 K (.ref C) "__class__" = some (some (.builtin "object.__class__")))
   (hn:PySem.W.specialIn K (.builtin "object.__class__") "__get__" = some (some (.builtin "getset_descriptor.__get__"))) (htk:PySem.W.takesIn K (.builtin "object.__class__")=some true)
   (hm:PySem.W.mroIn K C (.type "object")=some true):jL K H (.ref a) (.ref C)
theorem yT {x:V}{u t:Value}(I:Inv X pins σ H s) (G:RelV x u) (ty:jL X.K H x t) (e:Nl X.K t c=some b) (h:∀tk,Q (.bool b) { s with toks:=tk }) :
  wpAny (model X.prog X.w) A (call (.builtin "isinstance") [u,c]) Q E s:=by
 cases ty with
 |non=>cases(show u=Value.none from G);show Nv PySem.W.kitx_none I.kJ LH e (λz=>nomatch z) h
 |bl y=>cases(show u=Value.bool y from G);show Nv PySem.W.kitx_bool I.kJ LH e (λz=>nomatch z) h
 |int i=>let#[t,q]:=(show ∃t,u=Value.int i t from G);cases q;show Nv PySem.W.kitx_int I.kJ LH e (λz=>nomatch z) h
 |str y=>let#[t,q]:=(show ∃t,u=Value.str y t from G);cases q;show Nv PySem.W.kitx_str I.kJ LH e (λz=>nomatch z) h
 |flt y=>let#[t,q]:=(show ∃t,u=Value.float y t from G);cases q;show Nv PySem.W.kitx_float I.kJ LH e (λz=>nomatch z) h
 | @lst a xs L =>
  cases(show u=Value.ref a from G);let#[_,_,n,_,h1]:=(show bT X.prog X.w H s.heap a (.lst xs)from I.bE a _ L);show Nv kitx_list I.kJ #[_,h1,rfl] e (λz=>nomatch z) h
 | @bO a ob xs L =>
  cases(show u=Value.ref a from G);let#[_,_,_,n,_,h1]:=(show bT X.prog X.w H s.heap a (.bO ob (.lst xs))from I.bE a _ L);show Nv kitx_list I.kJ #[_,h1,rfl] e (λz=>nomatch z) h
 | @tup a xs L =>
  cases(show u=Value.ref a from G);let#[_,_,_,p]:=(show bT X.prog X.w H s.heap a (.tup xs)from I.bE a _ L);let#[o,h1,h2,_]:=p;show Nv kitx_tuple I.kJ #[o,h1,h2] e (λz=>nomatch z) h
 | @dK a kvs L =>
  cases(show u=Value.ref a from G);let#[_,_,vs,_,p]:=(show bT X.prog X.w H s.heap a (.dK kvs)from I.bE a _ L);let#[o,es,ep,h1,h2,_]:=p;show Nv kitx_dict I.kJ #[o,h1,h2.1] e (λz=>nomatch z) h
 | @dT a kvs L =>
  cases(show u=Value.ref a from G);let#[_,_,xs,_,o,es,ep,h1,h2,_]:=(show bT X.prog X.w H s.heap a (.dT kvs)from I.bE a _ L);show Nv kitx_dict I.kJ #[o,h1,h2.1] e (λz=>nomatch z) h
 | @ins a C dx fs L cl U N R S =>
  cases(show u=Value.ref a from G);let#[mA,O,_]:=lK I.bE L;let#[od,J,_]:=O.look;show Nv (PySem.W.kitx_own (cl.get _) cl.hd U N R S) I.kJ J e (λz=>nomatch z) h
end
structure dw (k:Nat) (A:KL):Prop where
 hd:A.handled=none
 dp:A.depth+3*k+5<recursionLimit
 un:A.units+16*k+200<Nq
theorem dw.mono {j k:Nat}{A:KL}(r:dw k A) (h:j<=k):dw j A:=#[r.hd,by have:=r.dp;omega,by have:=r.un;omega]
theorem dw.deeper {k:Nat}{A:KL}(r:dw (k+1) A) (env:RU):dw k (A.deeper env):=
 #[r.hd,by have:=r.dp;change A.depth+1+3*k+5<_;omega,by have:=r.un;change A.units+3+16*k+200<_;omega]
theorem wx {A:KL}{C:Addr}{us:List Value}{G:List (Str×Value)}:(A.under (.builtin "type.__call__" #[.ref C::us,G])).depth=A.depth+1:=by
 first|rfl|simp[Qn,Code.weight,Code.isCreation,Code.isGuard,Code.isCaller,Se,Qo,guardIds]
theorem vx {A:KL}{C:Addr}{us:List Value}{G:List (Str×Value)}:(A.under (.builtin "type.__call__" #[.ref C::us,G])).units=A.units+1:=by
 first|rfl|simp[Qn,Code.cUnits,Se,Qo]
theorem dw.make {k:Nat}{A:KL}(r:dw (k+1) A) (C:Addr) (us:List Value) (G:List (Str×Value)):dw k (A.under (.builtin "type.__call__" #[.ref C::us,G])):=
 #[r.hd,by have:=r.dp;rw[wx];omega,by have:=r.un;rw[vx];omega]
theorem dw.depth {k:Nat}{A:KL}(r:dw k A):A.depth<recursionLimit:=by have:=r.dp;omega
theorem dw.units {k:Nat}{A:KL}(r:dw k A):A.units+64<Nq:=by have:=r.un;omega
theorem dw.iw {k:Nat}{A:KL}(r:dw k A):A.units<Nq:=by have:=r.un;omega
noncomputable def CB:TA:=λ_ H Q=>Q [] H
noncomputable def F4 (ta:TE) (G:TA):TA:=λσ H Q=>ta σ H λx H1=>G σ H1 λxs H2=>Q (x::xs) H2
section
variable {X:Cx}{e:KN}{es:List KN}{te:TE}{t:TA}{pos:Nn}
theorem ai:PA X [] CB:=λ_ _ _ _ H Q I h=>Calls.spliced_nil #[[],H,I,.nil,h]
theorem aa (Y:PE X e te) (hr:PA X es t) (hs:starEach (e::es) X.env=(false,eval e X.env)::starEach es X.env:=by rfl):PA X (e::es) (F4 te t):=by
 intro pos pins s σ H Q I h;rw[hs];change wpAny _ _ (spliced ((false,eval e X.env)::backTo pos (starEach es X.env))) _ _ s;show Calls.spliced_cons (bV (Y pins s σ H _ I h) λu s1 L=>?_);let#[x,H1,U,O,G]:=L;show bV (hr pos pins s1 σ H1 _ U G) λus s2 J=>by let#[xs,H2,S,N,R]:=J;show#[x::xs,H2,S,.cons O N,R]
noncomputable def JM (t:TA):TE:=λσ H Q=>t σ H λxs H1=>xs.length<=sizeLine/\∀p,H1 p=none->Q (.ref p) (upd H1 p (.tup xs))
noncomputable def HD (t:TA):TE:=λσ H Q=>t σ H λxs H1=>xs.length<=sizeLine/\∀p,H1 p=none->Q (.ref p) (upd H1 p (.lst xs))
theorem b7 {x1} (h:PA X es t):PE X (.Tuple es x1 pos) (JM t):=by
 intro pins s σ H Q I L;show wpAny_Tuple_spliced (bV (h pos pins s σ H _ I L) λus s1 J=>?_);let#[xs,H1,G,r,z,q]:=J;show#[by rw[<-r.length];show z,?_];have N:H1 s1.heap.objs.size=none:=G.bE.fresh (qj _);show#[.ref s1.heap.objs.size,upd H1 s1.heap.objs.size (.tup xs),G.laid (t':=s1.toks) (λb u e=>Heap.get?_push_of_some _ e) (qj _) ?_,rfl,q _ N];show#[z,us,r,#[_,Heap.get?_push_size _ rfl,rfl,0]]
theorem cj (h:PA X es t):PE X (.List es pos) (HD t):=by
 intro pins s σ H Q I L;show wpAny_List_spliced (bV (h pos pins s σ H _ I L) λus s1 J=>?_);let#[xs,H1,G,r,z,q]:=J;show#[by rw[<-r.length];show z,?_];have N:H1 s1.heap.objs.size=none:=G.bE.fresh (qj _);show#[.ref s1.heap.objs.size,upd H1 s1.heap.objs.size (.lst xs),G.laid (t':=s1.toks) (λb u e=>Heap.get?_push_of_some _ e) (qj _) ?_,rfl,q _ N];show#[z,us,(0),r,Heap.get?_push_size _ rfl]
end
noncomputable abbrev Sp:=List V->Hp->VK->XK->Prop
noncomputable abbrev uh:=List RU->Hp->mu->XK->Value->mu->Prop
structure u7 (P:rr) (w:Bd) (K:iF) (mg:Str->Option Value) (base:Heap) (A:KL) (outer:List RU) (s:mu) (H:Hp):Prop where
 frames:A.frames=some outer
 mod:Mod K mg base
 bs:∀b o,base.get? b=some o->s.heap.get? b=some o/\H b=none
 BA:base.objs.size<=s.heap.objs.size
 j5:s.heap.FunFrames base outer
 DG:∀b∈yY outer,H b=none
 bE:iZ P w H s.heap
 bare:Oo s.gens
noncomputable def CE (outer:List RU) (P:rr) (w:Bd) (H:Hp) (s:mu) (Q:VK) (u:Value) (s':mu):Prop :=
 ∃v H',s'.os=s.os/\Oo s'.gens/\Un (yY outer) [] H H' s.heap s'.heap/\iZ P w H' s'.heap/\RelV v u/\Q v H'
noncomputable def CR (CX:uh) (outer:List RU) (P:rr) (w:Bd) (H:Hp) (s:mu) (Q:VK) (E:XK) (r:Result) (s':mu):Prop :=
 match r with
 |.ok (.ret u)=>CE outer P w H s Q u s'
 |.ok _=>False
 |.error e=>CX outer H s E e s'
structure a8 (P:rr) (w:Bd) (K:iF) (mg:Str->Option Value) (base:Heap) (CX:uh) (k:Nat) (f:Addr) (fd:qi) (ps:List Str) (sp:Sp):Prop where
 len:∀vs H Q E,sp vs H Q E->vs.length=ps.length
 run:∀(A:KL) (outer:List RU) (s:mu) (H:Hp) (args:Args) (us:List Value) (vs:List V) (Q:VK) (E:XK),dw k A->u7 P w K mg base A outer s H->Qp s fd args (ps.zip us)->Vals vs us->sp vs H Q E ->
  N3 (model P w) A (.call (.ref f) args) (CR CX outer P w H s Q E) s
theorem u7.make {P:rr}{w:Bd}{K:iF}{mg:Str->Option Value}{base:Heap}{A:KL}{outer:List RU}{s:mu}{H:Hp}(e:u7 P w K mg base A outer s H) (C:Addr) (us:List Value) (G:List (Str×Value)) :
  u7 P w K mg base (A.under (.builtin "type.__call__" #[.ref C::us,G])) outer s H:=#[by first|show e.frames|(simpa[Qn,Code.envs,Qo,pushEnvs]using e.frames),e.mod,e.bs,e.BA,e.j5,e.DG,e.bE,e.bare]
section
variable {X:Cx}{pins:List (Addr×Obj)}{σ:St}{H:Hp}{s s':mu}
theorem Inv.Hz (I:Inv X pins σ H s):u7 X.prog X.w X.K X.mg X.base X.A X.stack s H :=
 #[I.ok.frames,I.ok.mod,I.bs,KI I.ok.BA I.sz,I.stack,I.xm,I.bE,I.bare]
theorem Inv.after {Q:VK}{u:Value}(I:Inv X pins σ H s) (h:CE X.stack X.prog X.w H s Q u s'):EP X pins σ Q u s':=by
 let#[v,H',os,bare,un,L,r,q]:=h;let#[G,g,d,t,J]:=s';obtain rfl:J=s.os:=os;show#[v,H',I.call (h':=G) (g':=g) (d':=d) (t':=t) (ch:=[]) un L bare (λb z=>absurd z (by simp)),r,q]
end
noncomputable def Dv (sp:Sp) (dvs:List V) (E:XK) (t:TA):TE:=λσ H Q=>t σ H λvs H1=>sp (vs++dvs) H1 Q E
inductive zO (C:Addr) (m:Str) (sp:Sp) (dvs:List V) (E:XK) (ta:TE) (t:TA) (σ:St) (Q:VK) (x:V) (H1:Hp):Prop
 |mk (a:_) (dx:_) (fs:_) (_:x=.ref a) (_:H1 a=some (.ins C dx fs)) (_:fs.lookup m=none) (_:t σ H1 λvs H2=>sp (x::(vs++dvs)) H2 Q E):zO C m sp dvs E ta t σ Q x H1
noncomputable def xj (C:Addr) (m:Str) (sp:Sp) (dvs:List V) (E:XK) (ta:TE) (t:TA):TE:=λσ H Q=>ta σ H λx H1=>zO C m sp dvs E ta t σ Q x H1
noncomputable def DF (C:Addr) (sp:Sp) (dvs:List V) (E:XK) (t:TA):TE:=λσ H Q=>t σ H λvs H1=>∀x dx,H1 x=none->H1 dx=none->dx≠x ->
 sp (.ref x::(vs++dvs)) (upd (upd H1 dx (.own x)) x (.ins C dx [])) (λv H2=>v=.non/\Q (.ref x) H2) E
noncomputable def Binds (K:iF) (fd:qi) (ps:List Str) (ds:List Value):Prop :=
 ∀(s:mu) (us:List Value),K.In s.heap->(us++ds).length=ps.length->Qp s fd #[us,[]] (ps.zip (us++ds))
theorem Binds.all {K:iF}{fd:qi}{ps:List Str}(h:∀us:List Value,us.length=ps.length->Q6 fd #[us,[]]=pure (ps.zip us)):Binds K fd ps []:=λs us _ G=>by
 rw[P1]at G ⊢;show .of_eq (h us G)
noncomputable def Passes (CX:uh) (X:Cx) (E:XK):Prop:=∀(pins:List (Addr×Obj)) (σ:St) (H:Hp) (s:mu) (e:Value) (s':mu),Inv X pins σ H s->CX X.stack H s E e s'->X.xe e s'
section
variable {X:Cx}{CX:uh}{k:Nat}{f C:Addr}{fd:qi}{ps:List Str}{sp:Sp}{dvs:List V}{ds:List Value}{E:XK}{x m:Str}{p pos apos:Nn}{e o:KN}{es:List KN}{ta:TE}{t:TA}
theorem vT {pins:List (Addr×Obj)}{σ:St}{H:Hp}{s:mu}{Q:VK}{us:List Value}{vs:List V}(F:a8 X.prog X.w X.K X.mg X.base CX k f fd ps sp) (S:dw k X.A) (O:Binds X.K fd ps ds) (hd:Vals dvs ds) (R:Passes CX X E)
  (I:Inv X pins σ H s) (r:Vals vs us) (h:sp (vs++dvs) H Q E):wpAny (model X.prog X.w) X.A (call (.ref f) us) (EP X pins σ Q) X.xe s:=by
 have J:Vals (vs++dvs) (us++ds):=r.append hd;have L:(us++ds).length=ps.length:=(by rw[<-J.length];show F.len _ _ _ _ h);show Q7 (OV (F.run X.A X.stack s H #[us,[]] (us++ds) (vs++dvs) Q E S I.Hz (O s us I.kJ L) J h) λr s' G=>?_);cases r with
 |error e=>show R pins σ H s e s' I G
 |ok N =>
  cases N with
  |ret u=>show I.after G
  |next=>show LU G
  |brk=>show LU G
  |cont=>show LU G
theorem Dk (F:a8 X.prog X.w X.K X.mg X.base CX k f fd ps sp) (hr:dw k X.A) (hg:Gl X x) (U:X.mg x=some (.ref f)) (N:Pq X.K (.ref f)=true) (O:Binds X.K fd ps ds) (hd:Vals dvs ds) (R:Passes CX X E)
  (ha:PA X (e::es) t) (S:(x==("__debug__" : Str))=false:=by decide) (Y:starEach (e::es) X.env=(false,eval e X.env)::starEach es X.env:=by rfl) (J:(backTo pos (starEach es X.env)).any (·.1)=false:=by rfl) :
  PE X (.Call (.Name x p) (e::es) [] pos) (Dv sp dvs E t):=by
 intro pins s σ H Q I h;show Ms (lI I hg U ?_ S);show Q8 (h₀:=X.base) I.ok.mod.F9 N (bV (ha pos pins s σ H _ I h) λus s1 L=>?_) Y J;let#[vs,H1,G,r,q]:=L;show#[G.kJ,?_];show vT F hr O hd R G r q
theorem CN {pl:Qg Bool}(he:PE X o ta) (c:r9 X.K C) (L:Meth X.K C m f) (F:a8 X.prog X.w X.K X.mg X.base CX k f fd ps sp) (U:dw k X.A) (hb:Binds X.K fd ps ds) (hd:Vals dvs ds) (R:Passes CX X E) (ha:PA X (e::es) t)
  (ac:starEach (e::es) X.env=(false,eval e X.env)::starEach es X.env:=by rfl) (O:(backTo pos (starEach es X.env)).any (·.1)=false:=by rfl)
  (Y:eval (.Call (.Attribute o m apos) (e::es) [] pos) X.env=(do
   let ov <-eval o X.env
   Qh apos.atName
   let (f,first) <-Oq [ov] (OH ov m pl)
   Q9 pos f first (backTo pos (starEach (e::es) X.env)) (OI pos (Nr [] X.env))):=by rfl) :
  PE X (.Call (.Attribute o m apos) (e::es) [] pos) (xj C m sp dvs E ta t):=by
 intro pins s σ H Q I h;show Pk (pl:=pl) (bV (he pins s σ H _ I h) λu s1 S=>?_) Y;let#[x,H1,J,N,a,dx,fs,ex,ea,l,q]:=S;subst ex;obtain rfl:u=Value.ref a:=N;show ng J ea c L l ?_;show Q8 (first:=[.ref a]) (h₀:=X.base) I.ok.mod.F9 L.kp (bV (ha pos pins s1 σ H1 _ J q) λus s2 ab=>?_) ac O;let#[vs,H2,G,r,q2]:=ab;show#[G.kJ,?_];show vT (us:=.ref a::us) (vs:=.ref a::vs) F U hb hd R G (.cons rfl r) q2
theorem zD {pl:Qg Bool}(he:PE X o ta) (c:r9 X.K C) (J:Meth X.K C m f) (F:a8 X.prog X.w X.K X.mg X.base CX k f fd ps sp) (U:dw k X.A) (S:Binds X.K fd ps ds) (hd:Vals dvs ds) (Y:Passes CX X E)
  (N:eval (.Call (.Attribute o m apos) [] [] pos) X.env=(do
   let ov <-eval o X.env
   Qh apos.atName
   let (f,first) <-Oq [ov] (OH ov m pl)
   Q9 pos f first (backTo pos (starEach [] X.env)) (OI pos (Nr [] X.env))):=by rfl) :
  PE X (.Call (.Attribute o m apos) [] [] pos) (xj C m sp dvs E ta CB):=by
 intro pins s σ H Q I h;show Pk (pl:=pl) (bV (he pins s σ H _ I h) λu s1 O=>?_) N;let#[x,H1,G,L,a,dx,fs,ex,R,l,q]:=O;subst ex;obtain rfl:u=Value.ref a:=L;show ng G R c J l ?_;show callWith_K0 (first:=[.ref a]) G.kJ J.kp (vT (us:=[.ref a]) (vs:=[.ref a]) F U S hd Y G (.cons rfl .nil) q)
structure Mk (K:iF) (C f:Addr):Prop where
 makes:makesIn K C=true
 init:N9 K (.ref C) "__init__" = some (some (.ref f))
 fn:isFn K (.ref f)=true
 kp:Pq K (.ref C)=true
theorem t6 {pins:List (Addr×Obj)}{σ:St}{H:Hp}{s:mu}{Q:VK}{us:List Value}{vs:List V}(M:Mk X.K C f) (F:a8 X.prog X.w X.K X.mg X.base CX k f fd ps sp) (Y:dw (k+1) X.A) (hb:Binds X.K fd ps ds) (hd:Vals dvs ds)
  (U:Passes CX X E) (I:Inv X pins σ H s) (r:Vals vs us)
  (h:∀x dx,H x=none->H dx=none->dx≠x->sp (.ref x::(vs++dvs)) (upd (upd H dx (.own x)) x (.ins C dx [])) (λv H2=>v=.non/\Q (.ref x) H2) E) :
  wpAny (model X.prog X.w) X.A (call (.ref C) us) (EP X pins σ Q) X.xe s:=by
 have L:=h (s.heap.objs.size+1) s.heap.objs.size (I.bE.fresh (N4 _)) (I.bE.fresh (qj _)) (KZ (NH _));have J:=Inv.made (C:=C) I;have N:Vals (V.ref (s.heap.objs.size+1)::(vs++dvs)) (Value.ref (s.heap.objs.size+1)::(us++ds)):=.cons rfl (r.append hd);have O:(Value.ref (s.heap.objs.size+1)::us++ds).length=ps.length:=by
  have e:=N.length;rw[F.len _ _ _ _ L]at e;show e.symm
 show Q7 (AS (f:=f) I.kJ M.makes M.init (beq_iff_eq.mp M.fn) (OV (F.run _ X.stack _ _ #[Value.ref (s.heap.objs.size+1)::us,[]] (Value.ref (s.heap.objs.size+1)::(us++ds)) _ _ E (Y.make C us [])
  (J.Hz.make C us []) (hb _ (Value.ref (s.heap.objs.size+1)::us) J.kJ O) N L) λr s' G=>?_))
 cases r with
 |error e=>show U pins σ _ _ e s' J G
 |ok fl =>
  cases fl with
  |ret u =>
   let#[v,H',R,rv,S,q3]:=J.after G;subst S;show#[rv,#[V.ref (s.heap.objs.size+1),H',R,rfl,q3]]
  |next=>show LU G
  |brk=>show LU G
  |cont=>show LU G
theorem lN (M:Mk X.K C f) (F:a8 X.prog X.w X.K X.mg X.base CX k f fd ps sp) (hr:dw (k+1) X.A) (hg:Gl X x) (S:X.mg x=some (.ref C)) (N:Binds X.K fd ps ds) (hd:Vals dvs ds) (O:Passes CX X E)
  (Y:PA X (e::es) t) (R:(x==("__debug__" : Str))=false:=by decide) (U:starEach (e::es) X.env=(false,eval e X.env)::starEach es X.env:=by rfl) (L:(backTo pos (starEach es X.env)).any (·.1)=false:=by rfl) :
  PE X (.Call (.Name x p) (e::es) [] pos) (DF C sp dvs E t):=by
 intro pins s σ H Q I h;show Ms (lI I hg S ?_ R);show Q8 (h₀:=X.base) I.ok.mod.F9 M.kp (bV (Y pos pins s σ H _ I h) λus s1 J=>?_) U L;let#[vs,H1,G,r,q]:=J;show#[G.kJ,?_];show t6 M F hr N hd O G r q
theorem sO (M:Mk X.K C f) (F:a8 X.prog X.w X.K X.mg X.base CX k f fd ps sp) (G:dw (k+1) X.A) (O:Gl X x) (N:X.mg x=some (.ref C)) (R:Binds X.K fd ps ds) (hd:Vals dvs ds) (J:Passes CX X E)
  (L:(x==("__debug__" : Str))=false:=by decide):PE X (.Call (.Name x p) [] [] pos) (DF C sp dvs E CB):=by
 intro pins s σ H Q I h;show Ms (lI I O N ?_ L);show callWith_K0 I.kJ M.kp (t6 (us:=[]) M F G R hd J I .nil h)
end
section
variable {X:Cx}{CX:uh}{k:Nat}{f C:Addr}{fd:qi}{ps ks:List Str}{sp:Sp}{E:XK}{x m:Str}{p pos apos kpos:Nn}{e o:KN}{es:List KN}{kws:List PF}{te ta:TE}{t tk:TA}{nm:Option Str}
variable {g:List Value->List Value->List Value}{gV:List V->List V->List V}
end
structure aC (N P:List Str) (sc:Om):Prop where
 kind:sc.kind=.function
 co:sc.isCoroutine=false
 gen:sc.isGenerator=false
 nd:N.Nodup
 pre:N.take P.length=P
 par:∀x∈P,sc.names.lookup x=some .local\/sc.names.lookup x=some .cell
 EI:∀y∈sc.names,y.2≠.free
theorem bD {N P:List Str}{G:Om}(a:G.kind=.function:=by exact rfl) (b:G.isCoroutine=false:=by exact rfl) (c:G.isGenerator=false:=by exact rfl) (d:N.Nodup:=by decide +kernel) (e:N.take P.length=P:=by exact rfl) (f:∀x∈P,G.names.lookup x=some .local\/G.names.lookup x=some .cell:=by decide +kernel) (g:∀y∈G.names,y.2≠.free:=by decide +kernel):aC N P G:=#[a,b,c,d,e,f,g]
theorem pE {kindOf:Str->Option NameKind}{x:Str}:∀{binds:List (Str×Value)}{m:Str->Option Value},(∀v,(x,v)∉binds)->Ra kindOf binds m x=m x
 | [],_,_=>rfl
 |(n,v)::r,m,h=>by
  unfold Ra;rw[pE λw G=>h w (KQ _ G)];split
  .have:x≠n:=(by rintro rfl;show h v KW);simp[this]
  .rfl
theorem oZ {kindOf:Str->Option NameKind}{x:Str}:∀{binds:List (Str×Value)}{m:Str->Option Value},(∀v,(x,v)∉binds)->Rb kindOf binds m x=m x
 | [],_,_=>rfl
 |(n,v)::r,m,h=>by
  unfold Rb;rw[oZ λw G=>h w (KQ _ G)];split
  .rfl
  .have:x≠n:=(by rintro rfl;show h v KW);simp[this]
theorem pO {kindOf:Str->Option NameKind}{x:Str}{v:Value}:∀{P:List Str}{vs:List Value}{i:Nat}{m:Str->Option Value},P.Nodup->P[i]?=some x->vs[i]?=some v->kindOf x=some .local ->
  Ra kindOf (P.zip vs) m x=some v
 | [],_,_,_,_,h,_,_=>by simp at h
 |_::_,[],_,_,_,_,h,_=>by simp at h
 |p::P,w::vs,0,m,G,h1,h2,I=>by
  simp at h1 h2;subst h1;subst h2;change Ra kindOf ((p,w)::P.zip vs) m p=_;unfold Ra;rw[pE λv J=>(KJ.mp G).1 (Rc J).1,Sv I];simp
 |p::P,w::vs,i+1,m,G,h1,h2,I=>by
  change Ra kindOf ((p,w)::P.zip vs) m x=_;unfold Ra;show pO (i:=i) (KJ.mp G).2 (by simpa using h1) (by simpa using h2) I
theorem pK {kindOf:Str->Option NameKind}{x:Str}{v:Value}:∀{P:List Str}{vs:List Value}{i:Nat}{m:Str->Option Value},P.Nodup->P[i]?=some x->vs[i]?=some v->kindOf x≠some .local ->
  Rb kindOf (P.zip vs) m x=some v
 | [],_,_,_,_,h,_,_=>by simp at h
 |_::_,[],_,_,_,_,h,_=>by simp at h
 |p::P,w::vs,0,m,G,h1,h2,I=>by
  simp at h1 h2;subst h1;subst h2;change Rb kindOf ((p,w)::P.zip vs) m p=_;unfold Rb;rw[oZ λv J=>(KJ.mp G).1 (Rc J).1,Su I];simp
 |p::P,w::vs,i+1,m,G,h1,h2,I=>by
  change Rb kindOf ((p,w)::P.zip vs) m x=_;unfold Rb;show pK (i:=i) (KJ.mp G).2 (by simpa using h1) (by simpa using h2) I
noncomputable def start (N:List Str) (vs:List V):St:=vs.map some++replicate (N.length-vs.length) none
noncomputable def vD (CX:uh) (P:rr) (w:Bd) (K:iF) (mg:Str->Option Value) (base:Heap) (N:List Str) (G:Str) (scope:Om) (f:Addr) (cd:Value) (A:KL) (outer:List RU) (s:mu) (H:Hp) (E:XK):Cx where
 prog:=P
 w:=w
 K:=K
 mg:=mg
 base:=base
 A:=A.deeper (OW G scope s.heap.objs.size f cd)
 N:=N
 s₀:=s
 H₀:=H
 env:=OW G scope s.heap.objs.size f cd
 outer:=outer
 stack:=OW G scope s.heap.objs.size f cd::outer
 ex:=[]
 calm:=true
 fn:=λ_=>true
 pn:=[]
 xe:=λe s'=>wpAny (model P w) (A.deeper (OW G scope s.heap.objs.size f cd)) (leaving (OW G scope s.heap.objs.size f cd) e) (λ_ I=>CX outer H s E e I) (λJ I=>CX outer H s E J I) s'
theorem si {G:Om}{n:Nat}{x:Str}(h:G.names.lookup x=some .cell):∃c,(RS n G.names []).lookup x=some c:=by
 have q:=OX G.names n [] (.inl h);show Mm.mp q
theorem yu {CX:uh}{P:rr}{w:Bd}{K:iF}{mg:Str->Option Value}{base:Heap}{N ps:List Str}{L:Str}{scope:Om}{f:Addr}{cd:Value}{A:KL}{outer:List RU}{s s1:mu}{H:Hp}{E:XK}{us:List Value}{vs:List V}
  (S:aC N ps scope) (hd:A.handled=none) (G:u7 P w K mg base A outer s H) (hl:vs.length=ps.length) (r:Vals vs us)
  (x:InCallC s s.heap.objs.size (Ra (OW L scope s.heap.objs.size f cd).kindOf (ps.zip us) λ_=>none) (RS (s.heap.objs.size+1) scope.names []) (Rb (OW L scope s.heap.objs.size f cd).kindOf (ps.zip us) λ_=>none) s1) :
  Inv (vD CX P w K mg base N L scope f cd A outer s H E) [] (start N vs) H s1:=by
 have ab:ps.length<=N.length:=(by have:=congrArg QM S.pre;rw[DD]at this;omega);let#[h1,tk,rfl,Y]:=x.done;have O:∀b:Addr,b∉(vD CX P w K mg base N L scope f cd A outer s H E).ex:=λb z=>absurd (show b∈([]:List Addr)from z) (by simp);show#[#[G.mod,S.kind,1,qj _,λy z c h1 h2=>?_,λy I=>?_,λy c _ h=>?_,λ_=>hd,Around.frames_deeper G.frames,.inr #[1],λb z=>absurd z (O b),G.bs,G.BA,λb _ _=>O b,λb z=>absurd z (O b),G.j5,G.DG],
  rfl,G.bare,Un.kept Y,#[_,x.toInCall.ns,λi y v h1 h2 h3=>?_],λy c h=>#[_,x.cell y c h],G.bE.fresh (qj _),λy c h=>?_,λp J=>absurd (show p∈([]:List (Addr×Obj))from J) (by simp),G.bE.kept Y,?_]
 .show name_of_addr x.apart (LK h1) (LK h2)
 .have I:scope.names.lookup y=some .cell\/scope.names.lookup y=some .free:=I;rcases I with I|I
  .show si I
  .show absurd rfl (S.EI _ (LK I))
 .show Q0 (x.above y c (LK h))
 .have hi:i<vs.length:=by
   unfold start at h2;by_cases hi:i<vs.length
   .show hi
   .rw[Ln (by simpa using hi)]at h2;rw[List.getElem?_replicate]at h2;split at h2<;>cases h2
  have ha:vs[i]?=some v:=by
   unfold start at h2;rw[Lq (by simpa using hi),rz]at h2;cases e:vs[i]? with
   |none=>rw[e]at h2;cases h2
   |some a=>rw[e]at h2;cases h2;rfl
  let#[u,R,rv]:=r.get ha;have J:ps[i]?=some y:=by
   rw[<-S.pre,List.getElem?_take_of_lt ae];show h1
  have U:ps.Nodup:=(by rw[<-S.pre];show S.nd.sublist (MU _ _));show#[u,rv,?_];rcases S.par y (ua J)with k|k
  .show .inl #[k,pO U J R k]
  .let#[c,e]:=si (n:=s.heap.objs.size+1) k;show .inr #[.inl k,c,e,?_];have q:=x.cell y c e;rw[pK U J R (by change scope.names.lookup y≠_;rw[k];decide)]at q;show q
 .show G.bE.fresh (Q0 (x.above y c (LK h)))
 .unfold start;change _=N.length;rw[vl,nq,Li];omega
theorem Hj {CX:uh}{P:rr}{w:Bd}{K:iF}{mg:Str->Option Value}{base:Heap}{k:Nat}{f:Addr}{name L:Str}{ab:Arguments}{body:List KP}{scope:Om}{dV kV ap pm G ct oc:Value}{an od:Option Addr}
  {as:Array (Option Value)}{N ps:List Str}{sp:Sp}(lk:K.lookup f=some #[oc,od,.func (RW name L ab body scope dV kV ap pm an G ct),as]) (a1:RX K G L=true) (S:aC N ps scope)
  (len:∀vs H Q E,sp vs H Q E->vs.length=ps.length)
  (a2:∀(A:KL) (outer:List RU) (s:mu) (H:Hp) (vs:List V) (Q:VK) (E:XK),dw k (A.deeper (OW L scope s.heap.objs.size f G))->sp vs H Q E ->
   ∃t,uM (vD CX P w K mg base N L scope f G A outer s H E) body t/\t { nx:=λ_ H'=>Q .non H',rt:=Q } (start N vs) H) :
  a8 P w K mg base CX (k+1) f (RW name L ab body scope dV kV ap pm an G ct) ps sp:=by
 show#[len,λA outer s H args us vs Q E U O hb r ac=>?_];have hl:=len _ _ _ _ ac;have KX:K.In s.heap:=O.mod.F9.keeps λb o e=>(O.bs b o e).1;have aT:s.heap.NoLimit:=O.mod.nolimit.keeps λb o e=>(O.bs b o e).1;have a0:∀y∈ps.zip us,scope.names.lookup y.1=some .local\/(scope.names.lookup y.1=some .cell/\((RS (s.heap.objs.size+1) scope.names []).lookup y.1).isSome=true):=λaB hy=>by
  let#[n,v]:=aB;rcases S.par n (Rc hy).1 with q|q
  .show .inl q
  .show .inr #[q,OX _ _ _ (.inl q)]
 show codeAny_call_function U.depth (KX _ _ lk) rfl S.co S.gen rfl (PySem.W.codeRec_of KX a1) (hb _ _ _ _ ?_);show wpAny_newFunctionEnv_cells S.kind a0 λenv he s1 x=>?_;subst he;show#[aT.keeps x.toInCall.keep,codeAny_func ?_];let#[t,ht,hq]:=a2 A outer s H vs Q E (U.deeper _) ac;have I:Inv (vD CX P w K mg base N L scope f G A outer s H E) [] (start N vs) H s1:=yu S U.hd O hl r x;show Nk (ht [] s1 (start N vs) H _ I hq) (λfl s' hs=>?_) λe s' hs=>hs;have am:∀{R:St}{H':Hp}{v:V}{u:Value},Inv (vD CX P w K mg base N L scope f G A outer s H E) [] R H' s'->RelV v u->Q v H'->CE outer P w H s Q u s' :=
  λ{R H' v u} J Y q=>#[v,H',J.os,J.bare,J.base,J.bE,Y,q]
 cases fl with
 |ret u =>
  let#[v,R,H',J,Y,q]:=hs;show am J Y q
 |next =>
  let#[R,H',J,q]:=hs;show am (v:=V.non) (u:=Value.none) J rfl q
 |brk =>
  let#[_,_,_,q]:=hs;show LU q
 |cont =>
  let#[_,_,_,q]:=hs;show LU q
section
variable {X:Cx}{x:Str}{p pos:Nn}{e:KN}{es:List KN}{t:TA}{id T:String}{r:List V->Hp->VK->Prop}
noncomputable def Kc (r:List V->Hp->VK->Prop) (t:TA):TE:=λσ H Q=>t σ H λvs H1=>r vs H1 Q
theorem aQ (G:dB X (.builtin id) r) (hg:Gl X x) (U:X.mg x=none) (S:KS x=some (.builtin id)) (ha:PA X (e::es) t) (O:x ≠ "__name__" := by decide) (R:(x==("__debug__" : Str))=false:=by decide)
  (Y:starEach (e::es) X.env=(false,eval e X.env)::starEach es X.env:=by rfl) (J:(backTo pos (starEach es X.env)).any (·.1)=false:=by rfl):PE X (.Call (.Name x p) (e::es) [] pos) (Kc r t):=by
 intro pins s σ H Q I h;show Ms (ig I hg U S ?_ O R);show PyProof.Rows.callWith_builtin1 (bV (ha pos pins s σ H _ I h) λus s1 N=>by let#[vs,H1,I1,L,q1]:=N;show G pins s1 σ H1 vs us Q I1 L q1) Y J
theorem bH (G:dB X (.type T) r) (hg:Gl X x) (U:X.mg x=none) (S:KS x=some (.type T)) (ha:PA X (e::es) t) (O:x ≠ "__name__" := by decide) (R:(x==("__debug__" : Str))=false:=by decide)
  (Y:starEach (e::es) X.env=(false,eval e X.env)::starEach es X.env:=by rfl) (J:(backTo pos (starEach es X.env)).any (·.1)=false:=by rfl):PE X (.Call (.Name x p) (e::es) [] pos) (Kc r t):=by
 intro pins s σ H Q I h;show Ms (ig I hg U S ?_ O R);show Lo (bV (ha pos pins s σ H _ I h) λus s1 L=>by let#[vs,H1,I1,N,q1]:=L;show G pins s1 σ H1 vs us Q I1 N q1) Y J
end
end L2
namespace HT
open PySem PyProof.Rows
section
open PySem.SeqAt
open PySem.AutoSeq1 (wpAny_loadPart')
open PySem.MeetsSeq PySem.MeetsSeq2 PySem.MeetsSeq3
end
section
variable {prog:rr}{w:Bd}{A:KL}{E:Value->mu->Prop}{s:mu}
noncomputable def de (n d:Nat):Option Int->Nat
 |none=>d
 |some v=>if v<0 then(v+(n:Int)).toNat else min v.toNat n
theorem lP (n d k:Nat):de n d (some (k:Int))=min k n:=by
 change(if (k:Int)<0 then((k:Int)+(n:Int)).toNat else min (k:Int).toNat n)=min k n;rw[Su ae,LY]
theorem DZ (n d:Nat) (hd:d<=n) (o:Option Int):de n d o<=n:=by
 cases o with
 |none=>show hd
 |some v =>
  change(if v<0 then(v+(n:Int)).toNat else min v.toNat n)<=n;by_cases G:v<0
  .rw[Sv G];omega
  .rw[Su G];show Nat.min_le_right _ _
theorem wN (v:Int) (n d:Nat):(if v<0 then max (v+(n:Int)) 0 else min v (n:Int))=((de n d (some v):Nat):Int):=by
 change(if v<0 then max (v+(n:Int)) 0 else min v (n:Int))=(((if v<0 then(v+(n:Int)).toNat else min v.toNat n):Nat):Int);by_cases G:v<0
 .simp only[Sv G];omega
 .simp only[Su G];omega
theorem uT (lo hi:Option Int) (n:Nat):Builtin.Slice.sliceAdjust lo hi 1 (n:Int)=(((de n 0 lo:Nat):Int),((de n n hi:Nat):Int)):=by
 have h1:¬ ((1:Int)<0):=ae;unfold Builtin.Slice.sliceAdjust;simp only[h1,if_false];show Qq ?_ ?_
 .cases lo with
  |none=>rfl
  |some v=>show wN v n 0
 .cases hi with
  |none=>rfl
  |some v=>show wN v n n
theorem vt (i j:Nat):Builtin.Slice.slicePlaces (i:Int) (j:Int) 1=j-i:=by
 unfold Builtin.Slice.slicePlaces;have h1:(1:Int)>0:=ae;simp only[h1,if_true,Int.ediv_one];split<;>omega
theorem nN {v:Value}{o:Option Int}{Q:Option Int->mu->Prop}(p:OY v o) (h:Q o s):wpAny (model prog w) A (Builtin.Slice.slicePartIndex v) Q E s:=by
 cases p with
 |none=>show slicePart_none h
 |int i t=>show slicePart_int h
theorem gc {sl:Addr}{I G:Value}{lo hi:Option Int}{n:Nat}{Q:Int×Int×Nat->mu->Prop}(hs:s.heap.IsSliceOf sl I G .none) (pl:OY I lo) (N:OY G hi)
  (h:Q (((de n 0 lo:Nat):Int),1,de n n hi-de n 0 lo) s):wpAny (model prog w) A (Builtin.Slice.sliceApplied (.ref sl) (pure (n:Int))) Q E s:=by
 let#[os,L,O,J]:=id hs;unfold Builtin.Slice.sliceApplied Builtin.Slice.sliceFields;show iN (iN (QN L J (x:=I) rfl (iN (QN L J (x:=G) rfl (iN (QN L J (x:=.none) rfl (p4 ?_)))))));show iN (slicePart_none ?_);change wpAny _ _ (if ((1:Int)==0)=true then _ else _) _ _ s;rw[Su av];show iN (nN pl (iN (nN N (iN (p4 ?_)))));change wpAny _ _ (match Builtin.Slice.sliceAdjust lo hi 1 (n:Int)with|(lo,hi)=>pure (lo,(1:Int),Builtin.Slice.slicePlaces lo hi 1)) _ _ s;rw[uT lo hi n];change wpAny _ _ (pure (((de n 0 lo:Nat):Int),(1:Int),Builtin.Slice.slicePlaces ((de n 0 lo:Nat):Int) ((de n n hi:Nat):Int) 1)) _ _ s;rw[vt];show p4 h
theorem Ah (xs:Array Value) (i k:Nat):((KD k).filterMap λ(m:Nat)=>xs[((i:Int)+(m:Int)*1).toNat]?).toArray=((xs.toList.drop i).take k).toArray:=by
 have e:(λ(m:Nat)=>xs[((i:Int)+(m:Int)*1).toNat]?)=λm=>xs[i+m]?:=by
  funext m;have:((i:Int)+(m:Int)*1).toNat=i+m:=ae;rw[this]
 rw[e];have:=pick_run xs i k;rw[List.filterMap_map]at this;have G:((λx=>xs[x]?)∘λx=>i+x)=λm=>xs[i+m]?:=rfl;rw[G]at this;rw[this]
theorem jC {t sl:Addr}{items:Array Value}{L J:Value}{lo hi:Option Int}{Q:Value->mu->Prop}(G:IsTup s.heap t items) (hs:s.heap.IsSliceOf sl L J .none) (pl:OY L lo) (Y:OY J hi)
  (S:¬ (de items.size 0 lo=0/\de items.size items.size hi=items.size))
  (h:Q (.ref s.heap.objs.size) { s with heap:=s.heap.push { cls:=.type "tuple",data:=.seq ((items.toList.drop (de items.size 0 lo)).take (de items.size items.size hi-de items.size 0 lo)).toArray } })
  (hsz:items.size<=sizeLine):wpAny (model prog w) A (NO (.ref t) (.ref sl)) Q E s:=by
 have I:sizeOk (.seq ((items.toList.drop (de items.size 0 lo)).take (de items.size items.size hi-de items.size 0 lo)).toArray):=by
  change((items.toList.drop (de items.size 0 lo)).take (de items.size items.size hi-de items.size 0 lo)).toArray.size<=sizeLine;rw[p3,DD,LZ,Lr];omega
 have hj:de items.size items.size hi<=items.size:=DZ _ _ (qj _) hi;let#[os,R,N,ab]:=id hs;have U:s.TypeIs (.ref sl) "slice" := #[os,R,N];unfold NO
 try with_reducible show LX ?_
 first|show iN (p4 ?_)|skip
 show iN (Qr G.typeIs av ?_);show iN (Nt (name:=Str.ofString "__getitem__") G.typeIs K8
  (Mb K8 G.typeIs PK ?_ (P4 _ _)))
 change wpAny _ _ (Builtin.Tuple.tupleItemsOf (.ref t)>>=_) _ _ s;show iN (tupleItemsOf_ G ?_);show iN (OZ U ?_);rw[Sv av];show iN (gc hs pl Y ?_);have O:¬ ((((de items.size 0 lo:Nat):Int)==0&&(1:Int)==1&&(de items.size items.size hi-de items.size 0 lo)==items.size)=true):=by
  intro q;rw[NJ,NJ]at q;have q1:((de items.size 0 lo:Nat):Int)=0:=eq_of_beq q.1.1;have q2:de items.size items.size hi-de items.size 0 lo=items.size:=eq_of_beq q.2;show S #[ae,ae]
 change wpAny _ _ (if (((de items.size 0 lo:Nat):Int)==0&&(1:Int)==1&&(de items.size items.size hi-de items.size 0 lo)==items.size)=true then _ else _) _ _ s;rw[Su O,Ah]
 first
  |show iN (m:=Builtin.Tuple.tupleExact _) (Ly (p4 #[0,p4 h]) I)
  |show iN (m:=Builtin.Tuple.tupleExact _) (Ly (iN (p4 (p4 #[0,p4 h]))) I)
  |show iN (iN (m:=Builtin.Tuple.tupleExact _) (Ly (p4 (p4 #[0,p4 h])) I))
  |show iN (iN (m:=Builtin.Tuple.tupleExact _) (Ly (p4 #[0,p4 h]) I))
end
end HT
namespace L2
open PySem PySem.Spec PyProof.Rows
noncomputable abbrev TO:=St->Hp->(Option Int->Hp->Prop)->Prop
noncomputable def PO (X:Cx) (e:Option KN) (t:TO):Prop :=
 ∀(pins:List (Addr×Obj)) (s:mu) (σ:St) (H:Hp) (Q:Option Int->Hp->Prop),Inv X pins σ H s->t σ H Q ->
  wpAny (model X.prog X.w) X.A (evalPart e X.env) (λu s'=>∃o H',Inv X pins σ H' s'/\OY u o/\Q o H') X.xe s
noncomputable def CQ:TO:=λ_ H Q=>Q none H
noncomputable def Gw (t:TE):TO:=λσ H Q=>t σ H λx H1=>∃i,x=.int i/\Q (some i) H1
theorem intsAre_of {ns:List Int}:∀{us:List Value},Vals (ns.map V.int) us->MV us ns:=by
 induction ns with
 |nil=>intro us r;rw[QW]at r;cases r;show .nil
 |cons n ns J =>
  intro us r;rw[LQ]at r;cases r with
  |cons I G =>
   let#[t,e]:=I;subst e;show .cons n t (J G)
section
variable {X:Cx}{e:KN}{te:TE}{lo hi:Option KN}{tl th:TO}{pos p2:Nn}
theorem eX:PO X none CQ:=by
 intro pins s σ H Q I h;rw[evalPart_none];show p4 #[none,H,I,.none,h]
theorem cO (h:PE X e te):PO X (some e) (Gw te):=by
 intro pins s σ H Q I L;rw[evalPart_some];show bV (h pins s σ H _ I L) λu s1 G=>?_;let#[x,H1,N,J,O]:=G;let#[i,rfl,q]:=O;let#[t,rfl]:=J;show#[some i,H1,N,.int i t,q]
noncomputable def Gk (X:Cx) (r:V->Option Int->Option Int->Hp->VK->Prop):Prop :=
 ∀(pins:List (Addr×Obj)) (s:mu) (σ:St) (H:Hp) (x:V) (v I G:Value) (lo hi:Option Int) (sl:Addr) (Q:VK),Inv X pins σ H s->RelV x v->s.heap.IsSliceOf sl I G .none->OY I lo->OY G hi->r x lo hi H Q ->
  ∃T id,typeLookup (.type T) "__getitem__" = pure (some (.builtin id))/\s.TypeIs v T/\wpAny (model X.prog X.w) X.A (NO v (.ref sl)) (EP X pins σ Q) X.xe s
noncomputable def Ko (r:V->Option Int->Option Int->Hp->VK->Prop) (te:TE) (tl th:TO):TE:=λσ H Q=>te σ H λx H1=>tl σ H1 λl H2=>th σ H2 λu H3=>r x l u H3 Q
theorem cW {r:V->Option Int->Option Int->Hp->VK->Prop}(hr:Gk X r) (he:PE X e te) (L:PO X lo tl) (S:PO X hi th):PE X (.Subscript e (.Slice lo hi none p2) pos) (Ko r te tl th):=by
 intro pins s σ H Q I h;show Rf (bV (he pins s σ H _ I h) λv s1 N=>?_);let#[x,H1,I1,r1,q1]:=N;show wpAny_Slice (bV (L pins s1 σ H1 _ I1 q1) λJ s2 R=>?_);let#[l,H2,I2,pl,q2]:=R;show bV (S pins s2 σ H2 _ I2 q2) λG s3 U=>?_;let#[u,H3,Y,pu,q3]:=U;rw[evalPart_none];show p4 ?_;have O:Inv X pins σ H3 { s3 with heap:=s3.heap.push { cls:=.type "slice",data:=.fields ([J,G,.none].toArray) } }:=Y.kept (t':=s3.toks) λb ob q=>Heap.get?_push_of_some _ q;let#[T,id,hT,ht,hg]:=hr pins { s3 with heap:=s3.heap.push { cls:=.type "slice",data:=.fields ([J,G,.none].toArray) } } σ H3 x v J G l u s3.heap.objs.size Q O r1 (Heap.IsSliceOf.new ..) pl pu q3;change wpAny (model X.prog X.w) X.A (PN e (.Slice lo hi none p2) v (.ref s3.heap.objs.size)) (EP X pins σ Q) X.xe { s3 with heap:=s3.heap.push { cls:=.type "slice",data:=.fields ([J,G,.none].toArray) } };show tail_any (ops:=[.ref s3.heap.objs.size,v]) ht hT hg (by with_unfolding_all rfl)
noncomputable def ff (xs:List V) (lo hi:Option Int):List V:=(xs.drop (HT.de xs.length 0 lo)).take (HT.de xs.length xs.length hi-HT.de xs.length 0 lo)
theorem kX (xs:List V) (lo hi:Option Int):(ff xs lo hi).length<=xs.length:=by
 unfold ff;rw[DD,LZ];omega
inductive HH (K:iF) (x:V) (lo:Option Int) (hi:Option Int) (H:Hp) (Q:VK):Prop
 |mk (a:_) (xs:_) (_:x=.ref a) (_:bL K H a xs) (_:¬ (HT.de xs.length 0 lo=0/\HT.de xs.length xs.length hi=xs.length)) (_:∀p,H p=none->Q (.ref p) (upd H p (.tup (ff xs lo hi)))):HH K x lo hi H Q
theorem D9:Gk X (HH X.K):=by
 intro pins s σ H x v Y U lo hi sl Q I N hs pl S h;let#[a,xs,rfl,O,R,q]:=h;cases N;let#[its,r,J,L]:=I.tuple O;have G:its.toArray.size=xs.length:=(by rw[p3];show r.length.symm);show#["tuple",_,K8.lookup,J.typeIs,?_];show HT.jC J hs pl S (by rw[G];show R) ?_ (by rw[G];show L);rw[G];show#[.ref s.heap.objs.size,_,I.laid (t':=s.toks) (o:=.tup (ff xs lo hi)) (λb ob q=>Heap.get?_push_of_some _ q) (qj _) ?_,rfl,q _ (I.bE.fresh (qj _))];show#[KI (kX xs lo hi) L,_,(r.drop (HT.de xs.length 0 lo)).take (HT.de xs.length xs.length hi-HT.de xs.length 0 lo),RP _ _]
end
noncomputable def vW (n:Nat) (i:Int):Option Nat:=if 0<=i then(if i<n then some i.toNat else none)else if -(n:Int)<=i then some (i+n).toNat else none
noncomputable def wa {α:Type}(xs:List α) (i:Int):Option α:=(vW xs.length i).bind λj=>xs[j]?
theorem wQ {n:Nat}{i:Int}{j:Nat}(h:vW n i=some j):RT i n=some j/\j<n /\ -(n:Int)<=i/\i<n:=by
 unfold vW at h;by_cases G:0<=i
 .rw[Sv G]at h;by_cases h1:i<n
  .rw[Sv h1]at h;have e:i.toNat=j:=rk h;show#[by rw[Ox G h1,e],ae,ae,h1]
  .rw[Su h1]at h;cases h
 .rw[Su G]at h;by_cases h1 : -(n:Int)<=i
  .rw[Sv h1]at h;have e:(i+n).toNat=j:=rk h;show#[by rw[seqIndex_neg ae h1,e],ae,h1,ae]
  .rw[Su h1]at h;cases h
theorem rR {α:Type}{xs:List α}{i:Int}{v:α}(h:wa xs i=some v):∃j,RT i xs.length=some j/\xs[j]?=some v/\j<xs.length /\ -(xs.length:Int)<=i/\i<xs.length:=by
 unfold wa at h;cases e:vW xs.length i with
 |none=>rw[e]at h;cases h
 |some j =>
  rw[e]at h;let#[h1,h2,G,I]:=wQ e;show#[j,h1,h,h2,G,I]
theorem jV {α:Type}{xs:List α}{j:Nat}{v:α}(h:xs[j]?=some v):wa xs (j:Int)=some v:=by
 have G:j<xs.length:=(kz.mp h).1;have e:vW xs.length (j:Int)=some j:=by
  unfold vW;rw[Sv ae,Sv ae];simp
 unfold wa;rw[e];show h
noncomputable def CH (b:KN):Prop:=∀o i,Pr b false o i=operate [o,i] (NO o i)
noncomputable def IA (X:Cx) (r:R2):Prop :=
 ∀(value G:KN) (pins:List (Addr×Obj)) (s:mu) (σ:St) (H:Hp) (x y:V) (v u:Value) (Q:VK),Inv X pins σ H s->RelV x v->RelV y u->r x y H Q ->
  Pr G false v u=operate [v,u] (NO v u)->wpAny (model X.prog X.w) X.A (PN value G v u) (EP X pins σ Q) X.xe s
noncomputable def Kh (X:Cx) (id:String) (r:V->List V->Hp->VK->Prop):Prop :=
 ∀(pins:List (Addr×Obj)) (s:mu) (σ:St) (H:Hp) (x:V) (xs:List V) (v:Value) (us:List Value) (Q:VK),Inv X pins σ H s->RelV x v->Vals xs us->r x xs H Q ->
  wpAny (model X.prog X.w) X.A (call (.builtin id) (v::us)) (EP X pins σ Q) X.xe s
section
variable {X:Cx}{a b:KN}{ta tb:TE}{pos:Nn}
theorem aP {r:R2}(R:IA X r) (O:PE X a ta) (J:PE X b tb) (hs:CH b):PE X (.Subscript a b pos) (BG r ta tb):=by
 intro pins s σ H Q I h;show Rf (ET O J I h λv u s2 x y H2 L G N q=>R a b pins s2 σ H2 x y v u Q L G N q (hs _ _))
inductive Cz (K:iF) (x:V) (y:V) (H:Hp) (Q:VK):Prop
 |mk (p:_) (xs:_) (i:_) (v:_) (_:x=.ref p) (_:y=.int i) (_:bA K H p xs) (_:wa xs i=some v) (_:Q v H):Cz K x y H Q
inductive G8 (K:iF) (x:V) (y:V) (H:Hp) (Q:VK):Prop
 |mk (p:_) (xs:_) (i:_) (v:_) (_:x=.ref p) (_:y=.int i) (_:bL K H p xs) (_:wa xs i=some v) (_:Q v H):G8 K x y H Q
theorem cu:IA X (Cz X.K):=by
 intro value ab pins s σ H x y v u Q I R ry h hs;let#[p,xs,i,z,rfl,rfl,S,he,q]:=h;cases R;let#[t,rfl]:=ry;let#[its,r,pl,hz]:=I.list S;let#[j,h1,h2,h3,h4,Y]:=rR he;let#[w,N,U]:=r.get h2;have O:=r.length;have hn:=l9;have J:EP X pins σ Q w s:=#[z,H,I,U,q];by_cases L:0<=i
 .have G:i.toNat=j:=by
   rw[Ox L Y]at h1;show rk h1
  show item_listR pl.isList L ae (by rw[G];simpa using N) J hs
 .have G:(i+(its.toArray.size:Int)).toNat=j:=by
   rw[seqIndex_neg ae h4]at h1;rw[p3, <-O];show rk h1
  show O0 (x:=w) pl.isList.typeIs Qs.lookup
   (O8 (Q:=λr s'=>r=w/\EP X pins σ Q r s') pl.isList ae (by rw[p3]<;>omega) ae (by rw[G];simpa using N) #[rfl,J]) hs
theorem aN:IA X (G8 X.K):=by
 intro value ab pins s σ H x y v u Q I J R h hs;let#[p,xs,i,z,rfl,rfl,L,U,q]:=h;cases J;let#[t,rfl]:=R;let#[its,r,pl,Y]:=I.tuple L;let#[j,h1,h2,h3,h4,h5]:=rR U;let#[w,S,N]:=r.get h2;have G:=r.length;have hn:=l9;have O:EP X pins σ Q w s:=#[z,H,I,N,q];show O0 (x:=w) pl.typeIs K8.lookup
  (getItem_tuple (j:=j) (Q:=λr s'=>r=w/\EP X pins σ Q r s') pl ae ae (by rw[p3, <-G];show h1) (by simpa using S) #[rfl,O]) hs
theorem wo (its:List Value) (n j:Nat) (u:Value):Obj.mapSeq (·.setIfInBounds j u) { cls:=.type "list",data:=.seq its.toArray n }={ cls:=.type "list",data:=.seq (its.set j u).toArray n }:=by
 simp[Obj.mapSeq]
theorem Inv.lst {pins:List (Addr×Obj)}{σ:St}{H:Hp}{s:mu}{p:Addr}{xs:List V}(I:Inv X pins σ H s) (h:H p=some (.lst xs)) :
  ∃(its:List Value) (n:Nat),Vals xs its/\s.heap.get? p=some { cls:=.type "list",data:=.seq its.toArray n }/\xs.length<=sizeLine:=by
 let#[z,its,n,r,e]:=I.bE p _ h;show#[its,n,r,e,z]
theorem Inv.Es {pins:List (Addr×Obj)}{σ:St}{H:Hp}{s:mu}{p:Addr}{xs ys:List V}{its its':List Value}{n n':Nat}{f:Obj->Obj}(I:Inv X pins σ H s) (h:H p=some (.lst xs))
  (N:s.heap.get? p=some { cls:=.type "list",data:=.seq its.toArray n }) (G:f { cls:=.type "list",data:=.seq its.toArray n }={ cls:=.type "list",data:=.seq its'.toArray n' }) (r:Vals ys its') (L:ys.length<=sizeLine) (t:Nat) :
  Inv X pins σ (upd H p (.lst ys)) { s with heap:=s.heap.update p f,toks:=t }:=by
 have e:(s.heap.update p f).get? p=some { cls:=.type "list",data:=.seq its'.toArray n' }:=by
  rw[Heap.get?_update_self f N (by rw[G]<;>rfl),G]
 show I.write (x:=p) (e:=p) (by rw[h];trivial) (.inl rfl) (λb u J q=>(Heap.get?_update_other _ _ (qs J)).trans q) #[_,e] ?_;show#[L,its',n',r,e]
inductive DA (o:V) (i:V) (v:V) (H:Hp) (Q:(Hp->Prop)):Prop
 |mk (p:_) (xs:_) (k:_) (j:_) (_:o=.ref p) (_:i=.int k) (_:H p=some (.lst xs)) (_:vW xs.length k=some j) (_:Q (upd H p (.lst (xs.set j v)))):DA o i v H Q
theorem set_list:CZ X DA:=by
 intro pins s σ H o i v ov iv u Q I ro Y rv h;let#[p,xs,k,j,rfl,rfl,O,hj,q]:=h;cases ro;let#[t,rfl]:=Y;let#[its,n,r,L,hz]:=I.lst O;let#[h1,h2,U,R]:=wQ hj;have G:=r.length;have hn:=l9;have N:Inv X pins σ (upd H p (.lst (xs.set j v))) { s with heap:=s.heap.update p (Obj.mapSeq (·.setIfInBounds j u)) }:=
  I.Es O L (wo its n j u) (r.set rv j) (by rw[Lb];show hz) s.toks
 by_cases S:0<=k
 .have J:k.toNat=j:=by
   rw[Ox S R]at h1;show rk h1
  show PySem.W.ki_setAt L S ae (by rw[p3, <-G];show R) (by rw[J];show#[_,N,q])
 .have J:(k+(its.toArray.size:Int)).toNat=j:=by
   rw[seqIndex_neg ae U]at h1;rw[p3, <-G];show rk h1
  show PySem.W.ki_setBack L ae (by rw[p3, <-G];show U) ae (by rw[J];show#[_,N,q])
theorem qF (lo hi:Option Int) (n:Nat):(Nu lo hi none n).1=((HT.de n 0 lo:Nat):Int)/\(Nu lo hi none n).2.1=((HT.de n n hi:Nat):Int)/\(Nu lo hi none n).2.2=1:=by
 show#[3,rfl]
 .cases lo with
  |none=>simp[Nu,HT.de]
  |some i =>
   simp only[Nu,HT.de,getD_none,show(1:Int)>0 by decide,if_true];by_cases h:i<0
   .simp only[h,if_true]<;>omega
   .simp only[h,if_false]<;>omega
 .cases hi with
  |none=>simp[Nu,HT.de]
  |some i =>
   simp only[Nu,HT.de,getD_none,show(1:Int)>0 by decide,if_true];by_cases h:i<0
   .simp only[h,if_true]<;>omega
   .simp only[h,if_false]<;>omega
theorem oH (its:List Value) (lo hi:Option Int):slicePick its.toArray lo hi none=((its.drop (HT.de its.length 0 lo)).take (HT.de its.length its.length hi-HT.de its.length 0 lo)).toArray:=by
 let#[h1,h2,G]:=qF lo hi its.toArray.size;unfold slicePick;rw[h1,h2,G];simp only[sliceRange_one,pick_run,p3]<;>rfl
inductive Fo (K:iF) (x:V) (lo:Option Int) (hi:Option Int) (H:Hp) (Q:VK):Prop
 |mk (a:_) (xs:_) (_:x=.ref a) (_:bA K H a xs) (_:∀p,H p=none->Q (.ref p) (upd H p (.lst (ff xs lo hi)))):Fo K x lo hi H Q
theorem fM:Gk X (Fo X.K):=by
 intro pins s σ H x v U S lo hi sl Q I L hs pl R h;let#[a,xs,rfl,O,q]:=h;cases L;let#[its,r,G,N]:=I.list O;have J:=r.length;show#["list",_,Qs.lookup,G.isList.typeIs,?_];show wpAny_getItem_list_slice G.isList hs pl R .none (by simp) ?_ (by rw[p3]<;>omega);rw[oH, <-J];show#[.ref s.heap.objs.size,_,I.laid (t':=s.toks) (o:=.lst (ff xs lo hi)) (λb ob q=>Heap.get?_push_of_some _ q) (qj _) ?_,rfl,q _ (I.bE.fresh (qj _))];show#[KI (kX xs lo hi) N,_,(0),(r.drop (HT.de xs.length 0 lo)).take (HT.de xs.length xs.length hi-HT.de xs.length 0 lo),Heap.get?_push_size _ rfl]
noncomputable def dC:V->Bool
 |.non=>true
 |.bl _=>true
 |.int _=>true
 |.str _=>true
 |_=>false
noncomputable def kh:V->V->Bool
 |.non,.non=>true
 |.bl a,.bl b=>a==b
 |.bl a,.int b=>(if a then 1 else 0)==b
 |.int a,.bl b=>a==(if b then 1 else 0)
 |.int a,.int b=>a==b
 |.str a,.str b=>a==b
 |_,_=>false
theorem mN {A:KL}{s:mu}{y x:V}{u v:Value}(J:RelV y u) (G:RelV x v) (L:dC y=true) (I:dC x=true):Oa A s u v (kh y x):=by
 cases y with
 |non =>
  cases J;cases x with
  |non=>cases G;show SeqAt.EqAt.same _
  |bl b=>cases G;show SeqAt.EqAt.none_bool b
  |int b=>let#[t,rfl]:=G;show SeqAt.EqAt.none_int b t
  |str b=>let#[t,rfl]:=G;show SeqAt.EqAt.none_str b t
  |_=>show absurd (show false=true from I) tu
 |bl a =>
  cases J;cases x with
  |non=>cases G;show SeqAt.EqAt.bool_none a
  |bl b=>cases G;show SeqAt.EqAt.bool_bool a b
  |int b=>let#[t,rfl]:=G;show SeqAt.EqAt.bool_int a b t
  |str b=>let#[t,rfl]:=G;show SeqAt.EqAt.bool_str a b t
  |_=>show absurd (show false=true from I) tu
 |int a =>
  let#[t',rfl]:=J;cases x with
  |non=>cases G;show SeqAt.EqAt.int_none a t'
  |bl b=>cases G;show SeqAt.EqAt.int_bool a t' b
  |int b=>let#[t,rfl]:=G;show SeqAt.EqAt.int_int a t' b t
  |str b=>let#[t,rfl]:=G;show PU a t' b t
  |_=>show absurd (show false=true from I) tu
 |str a =>
  let#[t',rfl]:=J;cases x with
  |non=>cases G;show SeqAt.EqAt.str_none a t'
  |bl b=>cases G;show SeqAt.EqAt.str_bool a t' b
  |int b=>let#[t,rfl]:=G;show PV a t' b t
  |str b=>let#[t,rfl]:=G;show SeqAt.EqAt.str_str a t' b t
  |_=>show absurd (show false=true from I) tu
 |_=>show absurd (show false=true from L) tu
noncomputable def wz (x:V) (u:Value):Bool:=match u with
 |.none=>kh .non x
 |.bool b=>kh (.bl b) x
 |.int i _=>kh (.int i) x
 |.str z _=>kh (.str z) x
 |_=>false
theorem Bi {x y:V}{u:Value}(r:RelV y u) (f:dC y=true):wz x u=kh y x:=by
 cases y with
 |non=>cases r;rfl
 |bl b=>cases r;rfl
 |int i=>let#[t,rfl]:=r;rfl
 |str z=>let#[t,rfl]:=r;rfl
 |_=>show absurd (show false=true from f) tu
theorem jR {x:V}:∀{xs:List V}{us:List Value},Vals xs us->xs.all dC=true->us.any (wz x)=xs.any λy=>kh y x
 |_,_,.nil,_=>rfl
 |y::xs,u::us,.cons r t,f=>by
  rw[all_cons,NJ]at f;rw[Pt,Pt,Bi r f.1,jR t f.2]
theorem gT {A:KL}{s:mu}{x:V}{v:Value}(J:RelV x v) (I:dC x=true):∀{xs:List V}{us:List Value},Vals xs us->xs.all dC=true->∀u∈us,Oa A s u v (wz x u)
 |_,_,.nil,_=>λu G=>by cases G
 |y::xs,u::us,.cons r t,f=>λL G=>by
  rw[all_cons,NJ]at f;rcases wh.mp G with rfl|G
  .rw[Bi r f.1];show mN r J f.1 I
  .show gT J I t f.2 L G
noncomputable def BJ (x:V) (xs:List V):Bool:=xs.any λy=>kh y x
inductive Jc (K:iF) (neg:Bool) (x:V) (y:V) (H:Hp) (Q:VK):Prop
 |mk (p:_) (xs:_) (_:y=.ref p) (_:(bA K H p xs\/bL K H p xs)) (_:dC x=true) (_:xs.all dC=true) (_:Q (.bl (if neg then !BJ x xs else BJ x xs)) H):Jc K neg x y H Q
theorem gu:kZ X (LJ .In) (Jc X.K false):=by
 intro pins s σ H x y v u Q I N R h;let#[p,xs,rfl,G,L,fs,q]:=h;cases R;rcases G with G|G
 .let#[its,r,pl,O]:=I.list G;show SeqAt.in_listAt (wz x) pl.isList (λw J=>gT N L r fs w (by simpa using J)) #[.bl _,H,I,5];rw[show its.toArray.any (wz x)=its.any (wz x)by simp,jR r fs];show q
 .let#[its,r,pl,O]:=I.tuple G;show SeqAt.in_tupleAt (wz x) pl (λw J=>gT N L r fs w (by simpa using J)) #[.bl _,H,I,5];rw[show its.toArray.any (wz x)=its.any (wz x)by simp,jR r fs];show q
theorem jw:kZ X (LJ .NotIn) (Jc X.K true):=by
 intro pins s σ H x y v u Q I N R h;let#[p,xs,rfl,G,L,fs,q]:=h;cases R;rcases G with G|G
 .let#[its,r,pl,O]:=I.list G;show SeqAt.notIn_listAt (wz x) pl.isList (λw J=>gT N L r fs w (by simpa using J)) #[.bl _,H,I,5];rw[show its.toArray.any (wz x)=its.any (wz x)by simp,jR r fs];show q
 .let#[its,r,pl,O]:=I.tuple G;show SeqAt.notIn_tupleAt (wz x) pl (λw J=>gT N L r fs w (by simpa using J)) #[.bl _,H,I,5];rw[show its.toArray.any (wz x)=its.any (wz x)by simp,jR r fs];show q
theorem bG:dB X (.builtin "len") (λxs H Q=>∃p ys,xs=[.ref p]/\(bA X.K H p ys\/bL X.K H p ys)/\Q (.int ys.length) H):=by
 intro pins s σ H xs us Q I r h;let#[p,ys,rfl,G,q]:=h;let#[u,rfl,N]:=vals1 r;cases N;have R:=l9;rcases G with G|G
 .let#[its,L,pl,O]:=I.list G;have J:=L.length;show Calls.call_len_list pl.isList (by simp only[p3]<;>omega) #[.int ys.length,H,I.tok _,#[s.toks+1,by rw[p3,J]],q]
 .let#[its,L,pl,O]:=I.tuple G;have J:=L.length;show len_tuple pl (by simp only[p3]<;>omega) #[.int ys.length,H,I.tok _,#[s.toks+1,by rw[p3,J]],q]
theorem cR:dB X (.type "list") (λxs H Q=>∃p ys,xs=[.ref p]/\(bA X.K H p ys\/bL X.K H p ys)/\∀l,H l=none->Q (.ref l) (upd H l (.lst ys))):=by
 intro pins s σ H xs us Q I r h;let#[p,ys,rfl,L,q]:=h;let#[u,rfl,rx]:=vals1 r;cases rx;have U:∀(its:List Value),Vals ys its->ys.length<=sizeLine->∀(h':Heap) (J:Nat),(∀b o',s.heap.get? b=some o'->h'.get? b=some o') ->
   h'.get? s.heap.objs.size=some { cls:=.type "list",dict:=none,data:=.seq its.toArray J,slots := ([].toArray) }->EP X pins σ Q (.ref s.heap.objs.size) { s with heap:=h' }:=λits G N h' J O e =>
  #[.ref s.heap.objs.size,_,I.laid (t':=s.toks) O (qj _) (show bT X.prog X.w _ h' _ (.lst ys)from#[N,its,J,G,e]),rfl,q _ (I.bE.fresh (qj _))]
 rcases L with L|L
 .let#[its,G,pl,N]:=I.list L;have Y:=G.length;let#[o,S,R,n,hd]:=pl.isList;show call_list_seq p (.inl rfl) S R hd (λh' J O e=>U its G N h' J O e) (by simp only[p3]<;>omega)
 .let#[its,G,pl,N]:=I.tuple L;have Y:=G.length;let#[o,S,R,n,hd]:=pl;show call_list_seq p (.inr rfl) S R hd (λh' J O e=>U its G N h' J O e) (by simp only[p3]<;>omega)
theorem oK:dB X (.type "tuple") (λxs H Q=>∃p ys,xs=[.ref p]/\((bA X.K H p ys/\∀l,H l=none->Q (.ref l) (upd H l (.tup ys)))\/(bL X.K H p ys/\Q (.ref p) H))):=by
 intro pins s σ H xs us Q I r h;let#[p,ys,rfl,h]:=h;let#[u,rfl,O]:=vals1 r;cases O;rcases h with⟨J,q⟩|⟨J,q⟩
 .let#[its,G,pl,N]:=I.list J;have U:=G.length;show call_tuple_list pl.isList (λh' S=>?_) (by simp only[p3]<;>omega);have L:Inv X pins σ H { s with heap:=h' }:=I.kept (t':=s.toks) S;have R:Inv X pins σ (upd H h'.objs.size (.tup ys)) { s with heap:=h'.push { cls:=.type "tuple",data:=.seq its.toArray } }:=
   L.laid (t':=s.toks) (λb o e=>Heap.get?_push_of_some _ e) (qj _) (show bT X.prog X.w _ _ _ (.tup ys)from#[N,its,G,RP _ _])
  show#[.ref h'.objs.size,_,R,rfl,q _ (L.bE.fresh (qj _))]
 .let#[its,G,pl,N]:=I.tuple J;show call_tuple_same pl #[.ref p,H,I,rfl,q]
noncomputable def J3 (K:iF) (T:String) (x:V) (H:Hp):Prop:=match x with
 |.str _=>T = "str"
 |.int _=>T = "int"
 |.ref p=>(T = "list" /\ ∃xs,bA K H p xs)\/(T = "tuple" /\ ∃o,K.lookup p=some o/\o.cls=.type "tuple" /\ o.dict=none) \/
   (T = "dict" /\ ((∃kvs,H p=some (.dK kvs))\/∃kvs,H p=some (.dT kvs)))\/(T = "set" /\ ∃S n,H p=some (.set S n))
 |_=>False
theorem Eu {pins:List (Addr×Obj)}{σ:St}{H:Hp}{s:mu}{T:String}{x:V}{v:Value}(I:Inv X pins σ H s) (r:RelV x v) (ty:J3 X.K T x H) :
  s.TypeIs v T/\∀a,v=.ref a->∃ob,s.heap.get? a=some ob/\ob.dict=none:=by
 cases x with
 |str z =>
  let#[t,rfl]:=r;cases(show T = "str" from ty);show#[typeIs_str s z t,λ_ e=>nomatch e]
 |int i =>
  let#[t,rfl]:=r;cases(show T = "int" from ty);show#[Rg s i t,λ_ e=>nomatch e]
 |ref p =>
  cases r;rcases ty with⟨rfl,xs,N⟩|⟨rfl,o,G,L,hd⟩|⟨rfl,G⟩|⟨rfl,S,n,G⟩
  .let#[its,_,pl,_]:=I.list N;show#[pl.isList.typeIs,λa e=>?_];cases e;let#[o,n,e,c,hd,_]:=pl;show#[o,e,hd]
  .show#[#[o,I.kJ p o G,L],λa e=>?_];cases e;show#[o,I.kJ _ o G,hd]
  .have z:∃o,s.heap.get? p=some o/\o.ExactDict:=by
    rcases G with⟨kvs,G⟩|⟨kvs,G⟩
    .let#[_,_,_,_,o,_,_,e,ex,_]:=I.bE p _ G;show#[o,e,ex]
    .let#[_,_,_,_,o,_,_,e,ex,_]:=I.bE p _ G;show#[o,e,ex]
   let#[o,e,ex]:=z;show#[#[o,e,ex.1],λa J=>?_];cases J;show#[o,e,ex.2.1]
  .let#[o,_,_,_,e,ex,_]:=I.bE p _ G;show#[#[o,e,ex.1],λa J=>?_];cases J;show#[o,e,ex.2.1]
 |_=>show LU ty
noncomputable def Kp (K:iF) (T:String) (r:V->List V->Hp->VK->Prop) (to:TE) (t:TA):TE:=λσ H Q=>to σ H λx H1=>J3 K T x H1/\t σ H1 λxs H2=>r x xs H2 Q
variable {o e:KN}{es:List KN}{to:TE}{t:TA}{name:Str}{apos cpos:Nn}{T id:String}{r:V->List V->Hp->VK->Prop}
theorem ie (N:PlainAttrs T) (slot:Slot T name id) (S:typeOf (.builtin id)=pure (.type "method_descriptor")) (hm:Kh X id r) (ho:PE X o to) (ha:PA X (e::es) t)
  (am:ME o name X.env (eval o X.env)=eval o X.env:=by rfl)
  (O:((backTo cpos (starEach (e::es) X.env)).all (λx => !x.1)&&(OI cpos (Nr [] X.env)).all (λx=>x.1.isSome)
   && decide ((e::es).length+([]:List PF).length+(if ([]:List PF).isEmpty then 0 else 1)<30))=true:=by rfl)
  (R:(apos.endLine==cpos.line)=true:=by rfl) (hs:starEach (e::es) X.env=(false,eval e X.env)::starEach es X.env:=by rfl) (ac:(backTo cpos (starEach es X.env)).any (·.1)=false:=by rfl) :
  PE X (.Call (.Attribute o name apos) (e::es) [] cpos) (Kp X.K T r to t):=by
 intro pins s σ H Q I h;show wpAny_Call_method_late am O R rfl (bV (ho pins s σ H _ I h) λv s1 U=>?_);let#[x,H1,G,J,ty,q1]:=U;let#[h1,h2]:=Eu G J ty;show#[T,id,N,slot,S,h1,h2,?_];have L:=ha cpos pins s1 σ H1 _ G q1;rw[hs]at L ⊢;show Calls.callWith_builtin (by change(false||(backTo cpos (starEach es X.env)).any (·.1))=false;rw[ac]<;>rfl) (Calls.evalArgs_plain ?_);show bV L λus s2 ab=>by let#[vs,H2,I2,Y,q2]:=ab;show hm pins s2 σ H2 x vs v us Q I2 J Y q2
end
noncomputable def FI (X:Cx) (id:String) (r:V->List V->Hp->VK->Prop):Prop :=
 ∀(pins:List (Addr×Obj)) (s:mu) (σ:St) (H:Hp) (x:V) (xs:List V) (v:Value) (us:List Value) (Q:VK),Inv X pins σ H s->RelV x v->Vals xs us->r x xs H Q ->
  wpAny (model X.prog X.w) X.A (call (.builtin id) (v::us)) (EP X pins σ Q) X.xe s
theorem Vals.one:∀{x:V}{us:List Value},Vals [x] us->∃u,us=[u]/\RelV x u
 |_,_,.cons r .nil=>#[0,r]
theorem Vals.eraseIdx:∀{xs:List V}{us:List Value}(i:Nat),Vals xs us->Vals (xs.eraseIdx i) (us.eraseIdx i)
 |_,_,_,.nil=>.nil
 |_,_,0,.cons _ t=>t
 |_,_,i+1,.cons r t=>.cons r (Vals.eraseIdx i t)
theorem Vals.rep {xs:List V}{us:List Value}(h:Vals xs us):∀k:Nat,Vals (replicate k xs).flatten (replicate k us).flatten
 |0=>.nil
 |k+1=>by
  rw[Me,Me,Mj,Mj];show Vals.append h (Vals.rep h k)
theorem pI {α:Type}:∀(l:List α) (i:Nat),(l.eraseIdx i).length<=l.length
 | [],_=>qj _
 |_::_,0=>N4 _
 |_::r,i+1=>QB (pI r i)
theorem foldl_rep (its:List Value):∀(k:Nat) (G:List Value),
  foldl (λL J=>L++J) G.toArray (replicate k its.toArray)=(G++(replicate k its).flatten).toArray
 |0,G=>by simp
 |k+1,G=>by
  have e:G.toArray++its.toArray=(G++its).toArray:=(by simp);have I:(G++its)++(replicate k its).flatten=G++(replicate (k+1) its).flatten:=by
   rw[Me,Mj,KU]
  rw[<-I, <-foldl_rep its k (G++its), <-e,Me,List.foldl_cons]
section
variable {X:Cx}{pins:List (Addr×Obj)}{σ:St}{H:Hp}{s:mu}{l b:Addr}{xs ys zs:List V}
theorem Inv.CY {its its':List Value}{n:Nat}{f:Array Value->Array Value}{t':Nat}(I:Inv X pins σ H s) (N:H l=some (.lst xs))
  (e:s.heap.get? l=some { cls:=.type "list",data:=.seq its.toArray n }) (R:f its.toArray=its'.toArray) (O:Vals ys its') (L:ys.length<=sizeLine) :
  Inv X pins σ (upd H l (.lst ys)) { s with heap:=s.heap.update l (Obj.mapSeq f),toks:=t' }:=by
 have q:=NK e f;rw[R]at q;show I.write (x:=l) (e:=l) (by rw[N];show trivial) (.inl rfl) (λS u J G=>(Heap.get?_update_other s.heap (Obj.mapSeq f) (qs J)).trans G) #[_,q] ?_;show#[L,its',_,O,q]
theorem Inv.Hs {its:List Value}{t':Nat}(I:Inv X pins σ H s) (J:Vals ys its) (G:ys.length<=sizeLine) :
  Inv X pins σ (upd H s.heap.objs.size (.lst ys)) { s with heap:=s.heap.push { cls:=.type "list",data:=.seq its.toArray },toks:=t' }:=
 I.laid (λ_ _ q=>Heap.get?_push_of_some _ q) (qj _) #[G,its,(0),J,Heap.get?_push_size _ rfl]
theorem Inv.fresh (I:Inv X pins σ H s):H s.heap.objs.size=none:=I.bE.fresh (qj _)
theorem Inv.nc (I:Inv X pins σ H s) (G:H l=some (.lst xs)):xs.length<=sizeLine/\∃(its:List Value) (n:Nat),Vals xs its/\xs.length=its.length/\s.heap.get? l=some { cls:=.type "list",data:=.seq its.toArray n }:=by
 let#[z,its,n,r,e]:=I.bE l _ G;show#[z,its,n,r,r.length,e]
theorem sR {n:Nat}(h:n<=sizeLine):Builtin.List.listTooLong n=false:=by
 unfold Builtin.List.listTooLong;show decide_eq_false ae
end
section
variable {X:Cx}
inductive wM (x:V) (vs:List V) (H:Hp) (Q:VK):Prop
 |mk (l:_) (xs:_) (y:_) (_:x=.ref l) (_:vs=[y]) (_:H l=some (.lst xs)) (_:xs.length<sizeLine) (_:Q .non (upd H l (.lst (xs++[y])))):wM x vs H Q
theorem kR:FI X "list.append" wM:=by
 intro pins s σ H x vs v us Q I J N h;let#[l,xs,y,rfl,rfl,G,R,q]:=h;cases J;let#[u,rfl,L]:=N.one;let#[z,its,n,r,O,e]:=I.nc G;show Nm F.slot_list_append #[_,e,rfl] F.entry_list_append (F.args_list_append_2 _ _) (list_append l its.toArray n u (by rw[p3];omega)) #[e,?_];show#[.non,_,I.CY (its':=its++[u]) G e (by simp) (r.append (.cons L .nil)) ?_,rfl,q];rw[vl,Lu];omega
inductive xy (x:V) (vs:List V) (H:Hp) (Q:VK):Prop
 |mk (l:_) (b:_) (xs:_) (zs:_) (_:x=.ref l) (_:vs=[.ref b]) (_:H l=some (.lst xs)) (_:H b=some (.lst zs)) (_:xs.length+zs.length<=sizeLine) (_:Q .non (upd H l (.lst (xs++zs)))):xy x vs H Q
theorem pV:FI X "list.extend" xy:=by
 intro pins s σ H x vs v us Q I R S h;let#[l,b,xs,zs,rfl,rfl,J,hB,hz,q]:=h;cases R;let#[u,rfl,U]:=S.one;cases U;let#[z,its,n,r,hl,e]:=I.nc J;let#[z2,G,Y,L,ab,O]:=I.nc hB;have hsz:its.toArray.size+G.toArray.size<=sizeLine:=(by rw[p3,p3];omega);have N:¬ (!its.toArray.isEmpty&&Builtin.List.listTooLong (its.toArray.size+G.toArray.size))=true:=by
  rw[sR hsz,Pu];show tu
 show Nm F.slot_list_extend #[_,e,rfl] F.entry_list_extend (F.args_list_extend_2 _ _)
  (AutoSeq1.list_extend_list_list_0 l its.toArray n b G.toArray Y N (by rw[p3];omega) ae) #[e,O,?_]
 show#[.non,_,I.CY (its':=its++G) J e (by simp) (r.append L) ?_,rfl,q];rw[vl];omega
inductive AN (x:V) (vs:List V) (H:Hp) (Q:VK):Prop
 |mk (l:_) (xs:_) (i:_) (k:_) (y:_) (_:x=.ref l) (_:vs=[.int i]) (_:H l=some (.lst xs)) (_ : -(2^63)<=i) (_:i<2^63) (_:RT i xs.length=some k) (_:xs[k]?=some y) (_:Q y (upd H l (.lst (xs.eraseIdx k)))):AN x vs H Q
theorem AD:FI X "list.pop" AN:=by
 intro pins s σ H x vs v us Q I L U h;let#[l,xs,i,k,y,rfl,rfl,G,h1,h2,O,S,q]:=h;cases L;let#[u,rfl,N]:=U.one;let#[t,rfl]:=N;let#[z,its,n,r,J,e]:=I.nc G;let#[w,Y,R]:=r.get S;show Nm F.slot_list_pop #[_,e,rfl] F.entry_list_pop (F.args_list_pop_2 _ _)
  (MeetsSeq.list_pop_at l its.toArray n i t k w (fitsIndex_both h1 h2) (by rw[p3, <-J];show O) (by rw[<-LL];show Y) (by rw[p3];omega)) #[e,?_]
 show#[y,_,I.CY (its':=its.eraseIdx k) G e ?_ (r.eraseIdx k) ?_,R,q]
 .change its.toArray.eraseIdxIfInBounds k=(its.eraseIdx k).toArray;rw[NC]
 .have:=pI xs k;omega
inductive GX (x:V) (y:V) (H:Hp) (Q:VK):Prop
 |mk (l:_) (b:_) (xs:_) (zs:_) (_:x=.ref l) (_:y=.ref b) (_:H l=some (.lst xs)) (_:H b=some (.lst zs)) (_:xs.length+zs.length<=sizeLine) (_:∀p,H p=none->Q (.ref p) (upd H p (.lst (xs++zs)))):GX x y H Q
theorem uX:kZ X (NR .Add) GX:=by
 intro pins s σ H x y v u Q I J R h;let#[l,b,xs,zs,rfl,rfl,O,U,hz,q]:=h;cases J;cases R;let#[z,its,n,r,Y,e]:=I.nc O;let#[z2,G,n2,N,ab,S]:=I.nc U;show PySem.P.add_list e S ?_ (by rw[p3,p3];omega);have L:its.toArray++G.toArray=(its++G).toArray:=(by simp);rw[L];show#[.ref _,_,I.Hs (t':=s.toks) (r.append N) (by rw[vl];omega),rfl,q _ I.fresh]
inductive Gs (x:V) (y:V) (H:Hp) (Q:VK):Prop
 |mk (l:_) (k:_) (xs:_) (_:x=.ref l) (_:y=.int k) (_:H l=some (.lst xs)) (_ : -(2^63)<=k) (_:k<2^63) (_:xs.length*k.toNat<=sizeLine) (_:∀p,H p=none->Q (.ref p) (upd H p (.lst (replicate k.toNat xs).flatten))):Gs x y H Q
theorem len_rep {α:Type}(xs:List α) (k:Nat):(replicate k xs).flatten.length=k*xs.length:=by
 induction k with
 |zero=>simp
 |succ k G=>rw[Me,Mj,vl,G,Nat.succ_mul,Nat.add_comm]
theorem oo:kZ X (NR .Mult) Gs:=by
 intro pins s σ H x y v u Q I R ry h;let#[l,k,xs,rfl,rfl,hH,h1,h2,L,q]:=h;cases R;let#[t,rfl]:=ry;let#[z,its,n,r,O,e]:=I.nc hH;have N:its.toArray.size*k.toNat<=sizeLine:=(by rw[p3, <-O];show L);have ab:¬ its.toArray.size*k.toNat>(2^63-1)/8:=by
  have:(sizeLine:Nat)<=(2^63-1)/8:=av;omega
 have ac:¬ (!Builtin.List.listFitsIndex k)=true:=by
  rw[fitsIndex_both h1 h2];show tu
 have Y:¬ Builtin.List.listTooLong (its.toArray.size*k.toNat)=true:=by
  rw[sR N];show tu
 have S:foldl (λG J=>G++J) ([].toArray) (replicate (if its.toArray.isEmpty=true then 0 else k.toNat) its.toArray)=(replicate k.toNat its).flatten.toArray:=by
  have f0:∀m:Nat,foldl (λG J=>G++J) ([].toArray) (replicate m its.toArray)=(replicate m its).flatten.toArray:=λm=>by
   have:=foldl_rep its m [];rw[QR]at this;show this
  rw[f0];cases its with
  |nil=>simp
  |cons a r'=>rw[Su (by simp)]
 show wpAny_binaryOp_repeat_ref (T := "list") (U := "int") av #[_,e,rfl] (λs'=>Rg s' k t) noFill_list_mul F.fills_int_mul F.slot_int_rmul repeat_list F.slot_int_index.lookup
  (Nm F.slot_int_rmul (Rg s k t) F.entry_int_rmul (F.args_int_rmul_2 _ _) (int___rmul___int_list k t l its.toArray n)
   #[e,rfl,#[_,e,rfl],Nm F.slot_list_mul #[_,e,rfl] F.entry_list_mul (F.args_list_mul_2 _ _) (AutoListH.list___mul___list_int_3 l its.toArray n k t ac ab Y) #[e,?_]])
 rw[S];show#[.ref _,_,I.Hs (t':=s.toks) (r.rep k.toNat) (by rw[len_rep,Nat.mul_comm];show L),rfl,q _ I.fresh]
end
section
variable {prog:rr}{w:Bd}{A:KL}{E:Value->mu->Prop}{s:mu}
end
section
variable {X:Cx}
end
end L2
namespace Att
open PySem PySem.W PySem.Calls PyProof.Rows
theorem lg {P:Params}{h:Heap}:∀(ns:List Int) (vs:List Value),WellAll P h vs (ns.map WData.int)->MV vs ns:=by
 intro ns
 induction ns with
 |nil =>
  intro vs w;rw[QW]at w;cases w;show .nil
 |cons n ns G =>
  intro vs w;rw[LQ]at w;cases w with
  |cons a b =>
   cases a;show .cons _ _ (G _ b)
theorem xH {l:NS}{n:Nat}(hn:l.most=some n) {P:Params}{h:Heap}{args:List WData}{N:List Value}
  (L:l.row.toRowW.claim.pre args=true) (ab:WellAll P h N args) :
  ∃a vs ns,N=[Value.ref a]/\args=[WData.list (ns.map WData.int)]/\h.get? a=some { cls:=.type "list",data:=.seq vs.toArray }/\MV vs ns/\ns.length<=n:=by
 have S:WShape.hasAll [] args [.list .int]=true:=(pre_splitW L).1;have J:l.pre.holds [] { args:=args }=true:=(pre_splitW L).2;let#[d,r,rfl,h1,h2]:=hasAllW_cons S;obtain rfl:=hasAllW_nil h2;let#[xs,rfl,h3]:=hasW_list h1;let#[ns,rfl]:=items_int h3;have R:ns.length<=n:=by
  unfold OpenLaw.pre at J;have I:(WTm.not (.lt (.lit (.int (n:Int))) (.len (.arg 0)))).holds [] { args:=[.list (ns.map .int)] }=true:=by
   have I:=(holds_andW J).1;rw[hn]at I;show I
  have G:=condW_of I (w_not (w_lt w_lit (w_len_list (w_arg rfl))));rw[nq]at G;show Nat.le_of_not_lt λq=>?_;have q':(n:Int)<((ns.length:Nat):Int):=ae
  first
   |(rw[decide_eq_true q']at G;show absurd G av)
   |(simp at G;omega)
 cases ab with
 |cons O U =>
  cases U;cases O with
  |list ho Y=>show#[2,ns,1,ho,lg ns _ Y,R]
theorem yg (l:NS) (args:List WData):l.row.toRowW.claim.post args (.bool true) args=true :=
 postW_of (r:=l.row.toRowW) (X:=(true==true))
  (show Sm [] (.bool true) .bool=true by first|rfl|decide|simp[Sm,WShape.arms,WShape.armsAll])
  (show(WTm.eq .res (.lit (.bool true))).value [] { args:=args,res:=some (.bool true),after:=args }=some (.bool (true==true))from w_eq_bool (w_res rfl) w_lit) rfl
theorem sP {l:NS}{n:Nat}{q:rr}{loose:List Str}{R:(Str->Option Value)->Heap->Prop}{O:Bd->Heap->Prop}{d:DefRec}
  (hn:l.most=some n) (ac:d.params.defaults=[])
  (call:∀(w:Bd) (s₀ I:mu) (mg L:Str->Option Value) (J:Addr) (o:Obj) (pm cd N:Value) (a:Addr) (vs:List Value) (ns:List Int),
   Ground q loose [] R w s₀ mg L I.heap->O w I.heap ->
   I.heap.get? J=some o->o.data=.func (docDef d.name d.params d.body d.scope pm cd N)->I.heap.CodeRec cd d.name->mg d.name=some (.ref J) ->
   I.heap.get? a=some { cls:=.type "list",data:=.seq vs.toArray }->MV vs ns->ns.length<=n->I.gens = ([].toArray) ->
   N3 (model l.prog w) PH (.call (.ref J) #[[.ref a],[]]) (λr s'=>r=.ok (.ret (.bool true))/\OldK I.heap s'.heap/\s'.os=I.os/\Oo s'.gens) I) :
  QX q loose R O l.row.toRowW d [] (λf vs=>Rh f vs):=by
 intro w s₀ I mg L G Y J o pm cd N dV kV ho hd aT S ab hg args a1 as ap a2 a4 am a3;obtain rfl:dV=.none:=Dflts.none S ac;obtain rfl:kV=.none:=Dflts.noKw S;let#[a,vs,ns,rfl,rfl,aB,a0,U]:=xH hn ap am;show enter_call (OV (call w s₀ I mg L J o pm cd N a vs ns G Y ho (fd_plain hd) aT ab aB a0 U hg) λr s' hq=>?_);let#[rfl,h2,h3,h4]:=hq;show#[.inl #[.bool true,.bool true,[],rfl,λ_=>rfl,.bool true,yg l _,λ_=>#[Oy,λ_ hm=>(nomatch hm)]],h2,h3,h4]
section
variable {prog:rr}{w:Bd}{A:KL}{E:Value->mu->Prop}{s:mu}{K:iF}
end
end Att
namespace L2
open PySem PySem.Spec PyProof.Rows
theorem iH:∀{vs:List Value}{ns:List Int},MV vs ns->Vals (ns.map V.int) vs
 |_,_,.nil=>.nil
 |_,_,.cons n t h=>.cons #[t,rfl] (iH h)
noncomputable def Fs (H:Hp):Prop:=∀b,H b=none\/∃o xs,H b=some (.bO o (.lst xs))
theorem An {P:rr}{w:Bd}{K:iF}{mg N:Str->Option Value}{CX:uh}{k:Nat}{O a:Addr}{fd:qi}{x:Str}{sp:Sp}{G:mu}{vs:List Value}{ns:List Int}
  (KX:K.In G.heap) (am:G.heap.Ns Lc mg) (I:G.heap.Ns QZ N) (as:∀x:Str,x ≠ "__name__" -> N x=KS x) (a2:G.heap.NoLimit) (hg:G.gens = ([].toArray))
  (L:G.heap.get? a=some { cls:=.type "list",data:=.seq vs.toArray }) (hi:MV vs ns) (U:ns.length<=sizeLine) (hr:dw k PH)
  (F:∀base:Heap,K.In base->base.Ns Lc mg->a8 P w K mg base CX k O fd [x] sp) (a4:∀(s:mu) (u:Value),Qp s fd #[[u],[]] [(x,u)])
  (aB:∀H:Hp,Fs H->bA K H a (ns.map V.int)->sp [.ref a] H (λv _=>v=.bl true) λ_ _ _=>False)
  (a1:∀H e s',CX [] H G (λ_ _ _=>False) e s'->False) :
  N3 (model P w) PH (.call (.ref O) #[[.ref a],[]]) (λr s'=>r=.ok (.ret (.bool true))/\OldK G.heap s'.heap/\s'.os=G.os/\Oo s'.gens) G:=by
 have rv:=iH hi;have a3:=hi.length;have ab:∀H:Hp,Fs H->bA K H a (ns.map V.int)->iZ P w H G.heap->(∀b,H b≠none->b=a)->(H a≠none->K.lookup a=none) ->
   N3 (model P w) PH (.call (.ref O) #[[.ref a],[]]) (λr s'=>r=.ok (.ret (.bool true))/\OldK G.heap s'.heap/\s'.os=G.os/\Oo s'.gens) G:=by
  intro H hO hS bE hA hK;have Y:∀{b:Addr}{o:Obj},G.heap.get? b=some o->H b=none->(rZ G.heap H).get? b=some o:=λe n=>zp e n;have aT:∀{b:Addr}{o:Obj}{es:Array DictEntry}{ep:Nat},G.heap.get? b=some o->o.data=.dict es ep->H b=none:=λ{b o es ep} e d=>by
   cases q:H b with
   |none=>rfl
   |some u =>
    have S:b=a:=hA b (by rw[q];simp);subst S;rw[L]at e;cases e;have d':Ri vs.toArray _=Data.dict es ep:=d;cases d'
  have J:∀{b:Addr}{m:Str->Option Value},G.heap.Ns b m->(rZ G.heap H).Ns b m:=λ{b m} ap=>(by let#[o,es,ep,e,d,r]:=ap;show#[o,es,ep,Y e (aT e d),d,r]);have ac:K.In (rZ G.heap H):=λb o e=>Y (KX b o e) (by
   cases q:H b with
   |none=>rfl
   |some u =>
    have S:b=a:=hA b (by rw[q];simp);subst S;rw[hK (by rw[q];simp)]at e;cases e)
  have hM:Mod K mg (rZ G.heap H):=#[ac,J am,#[N,J I,as],let ⟨mc,h1,h2⟩:=a2;#[mc,J h1,h2]];have e0:u7 P w K mg (rZ G.heap H) PH [] G H:=#[rfl,hM,λb o e=>B9 e,Qm (xN _ _),trivial,λb I=>absurd (show b∈([]:List Addr)from I) (by simp),bE,.of_eq hg];show OV ((F _ ac (J am)).run PH [] G H #[[.ref a],[]] [.ref a] [.ref a] _ _ hr e0 (a4 G (.ref a)) (.cons rfl .nil) (aB H hO hS)) λr s' h=>?_;cases r with
  |error e=>show(a1 H e s' h).elim
  |ok fl =>
   cases fl with
   |next=>show LU h
   |brk=>show LU h
   |cont=>show LU h
   |ret u =>
    let#[v,H',os,bare,un,a0,r',q]:=h;have q':v=.bl true:=q;subst q';obtain rfl:u=Value.bool true:=r';show#[rfl,OldK.of_keep λb o e=>?_,os,bare];cases q:H b with
    |none=>show un.keep b o e q (by intro z;show absurd (show b∈([]:List Addr)from z) (by simp)) (by simp)
    |some u =>
     rcases hO b with z|⟨ob,xs,z⟩
     .rw[q]at z;cases z
     .have z2:=un.oN b ob _ z;let#[e1,_]:=bE b _ z;let#[e2,_]:=a0 b _ z2;rw[e]at e1;cases e1;show e2
 cases R:K.lookup a with
 |some o =>
  have e:=KX a o R;rw[L]at e;cases e;show ab (λ_=>none) (λ_=>.inl rfl) (.inr #[_,vs.toArray,_,R,1,rfl,by rw[p3,a3];show U,by simpa using rv]) (λb u z=>by have z':(none:Option HO)=some u:=z;cases z') (λb z=>absurd rfl z) λz=>absurd rfl z
 |none =>
  show ab (λb=>if b=a then some (.bO { cls:=.type "list",data:=.seq vs.toArray } (.lst (ns.map V.int)))else none) (λb=>?_) (.inl (.inr #[{ cls:=.type "list",data:=.seq vs.toArray },Sv rfl])) (λb u z=>?_) (λb z=>?_) λ_=>R
  .by_cases I:b=a
   .show .inr #[2,Sv I]
   .show .inl (Su I)
  .by_cases I:b=a
   .have z':=(Sv I).symm.trans z;cases z';subst I;show#[L,by rw[nq];show U,vs,_,rv,L]
   .have z':=(Su I).symm.trans z;cases z'
  .by_cases I:b=a
   .show I
   .show absurd (Su I) z
theorem Cj {l:NS}{n k:Nat}{q:rr}{loose:List Str}{XP:(Str->Option Value)->Heap->Prop}{L:Bd->Heap->Prop}{d:DefRec}{K:Params->iF}{CX:Bd->uh}{sp:Bd->Sp}{x:Str}
  (hn:l.most=some n) (R:n<=sizeLine) (am:d.params.defaults=[]) (hr:dw k PH)
  (hY:∀(w:Bd) (h:Heap),L w h->(K w.params).In h)
  (F:∀(w:Bd) (mg:Str->Option Value) (I:Addr) (h:Heap),(K w.params).In h->h.Ns Lc mg->mg d.name=some (.ref I) ->
   ∃fd:qi,(∀(s:mu) (u:Value),Qp s fd #[[u],[]] [(x,u)]) /\
    ∀base:Heap,(K w.params).In base->base.Ns Lc mg->a8 l.prog w (K w.params) mg base (CX w) k I fd [x] (sp w))
  (ab:∀(w:Bd) (H:Hp) (a:Addr) (ns:List Int),ns.length<=n->Fs H->bA (K w.params) H a (ns.map V.int)->sp w [.ref a] H (λv _=>v=.bl true) λ_ _ _=>False)
  (aB:∀(w:Bd) (H:Hp) (s:mu) (e:Value) (s':mu),CX w [] H s (λ_ _ _=>False) e s'->False) :
  QX q loose XP L l.row.toRowW d [] (λf vs=>Rh f vs):=by
 show Att.sP hn am λw s₀ ac mg mb I o pm cd aT a vs ns G Y ho hd a0 S ap as J hg=>?_;have N:=hY w _ Y;let#[fd,hb,hF]:=F w mg I _ N G.T.g S;show An N G.T.g G.T.b G.T.builtins G.T.nolimit hg ap as (KI J R) hr hF hb (λH U O=>ab w H a ns J U O) λH e s'=>aB w H ac e s'
noncomputable def inClass (s:KP) (j:Nat):KP:=match s with
 |.ClassDef _ _ _ body _ _ _ _ _ _ _=>body.getD j (.Pass #[(0),(0),(0),(0)])
 |_=>.Pass #[(0),(0),(0),(0)]
noncomputable def fL (s:KP):Arguments:=match s with
 |.FunctionDef _ a _ _ _ _ _ _ _ _=>a
 |_=>{ posonlyargs:=[],args:=[],vararg:=none,kwonlyargs:=[],kw_defaults:=[],kwarg:=none,defaults:=[] }
noncomputable def eu (s:KP):List KP:=match s with
 |.FunctionDef _ _ b _ _ _ _ _ _ _=>b
 |_=>[]
noncomputable def aw (s:KP):Om:=match s with
 |.FunctionDef _ _ _ _ _ _ G _ _ _=>G
 |_=>{ kind:=.function,names:=[],isGenerator:=false,isCoroutine:=false }
noncomputable abbrev aV:uh:=λ_ _ _ _ _ _=>False
noncomputable abbrev E0:XK:=λ_ _ _=>False
theorem ax {X:Cx}:Passes aV X E0:=λ_ _ _ _ _ _ _ h=>h.elim
structure cK (K:iF) (x qual:Str) (st:KP) (f:Addr) (fd:qi):Prop where
 ex:∃(oc:Value) (od:Option Addr) (kV doc pm:Value) (an:Option Addr) (cdv ct:Value) (osl:Array (Option Value)),
  fd=RW x qual (fL st) (eu st) (aw st) .none kV doc pm an cdv ct/\K.lookup f=some #[oc,od,.func fd,osl]/\RX K cdv qual=true
 kp:Pq K (.ref f)=true
section
variable {P:rr}{w:Bd}{K:iF}{mg:Str->Option Value}{base:Heap}
theorem cK.ok {x I:Str}{st:KP}{f:Addr}{fd:qi}{N ps:List Str}{k:Nat}{sp:Sp}(F:cK K x I st f fd) (S:aC N ps (aw st)) (len:∀vs H Q E,sp vs H Q E->vs.length=ps.length)
  (U:∀(G:Value) (A:KL) (outer:List RU) (s:mu) (H:Hp) (vs:List V) (Q:VK) (E:XK),dw k (A.deeper (OW I (aw st) s.heap.objs.size f G))->sp vs H Q E ->
   ∃t,uM (vD aV P w K mg base N I (aw st) f G A outer s H E).Dq (eu st) t/\t { nx:=λ_ H'=>Q .non H',rt:=Q } (start N vs) H):a8 P w K mg base aV (k+1) f fd ps sp:=by
 let#[oc,od,kV,ab,pm,an,G,ct,Y,rfl,L,R]:=F.ex;show Hj L R S len λA outer s H vs Q E O J=>?_;let#[t,h,q]:=U G A outer s H vs Q E O J;show#[t,h.Dq,q]
theorem cK.dh {x G:Str}{st:KP}{f:Addr}{fd:qi}{N ps:List Str}{k:Nat}{sp:Sp}(F:cK K x G st f fd) (S:aC N ps (aw st))
  (J:∀(I:Value) (A:KL) (outer:List RU) (s:mu) (H:Hp) (vs:List V) (Q:VK) (E:XK),dw k (A.deeper (OW G (aw st) s.heap.objs.size f I))->sp vs H Q E ->
   ∃t,uM (vD aV P w K mg base N G (aw st) f I A outer s H E).Dq (eu st) t/\t { nx:=λ_ H'=>Q .non H',rt:=Q } (start N vs) H) (len:∀vs H Q E,sp vs H Q E->vs.length=ps.length:=by intro vs H Q E h;cases h<;>subst_vars<;>rfl):a8 P w K mg base aV (k+1) f fd ps sp:=F.ok S len J
theorem cK.binds {x J:Str}{st:KP}{f:Addr}{fd:qi}{ps:List Str}(F:cK K x J st f fd)
  (h:∀(kV G pm:Value) (an:Option Addr) (I ct:Value) (us:List Value),us.length=ps.length->Q6 (RW x J (fL st) (eu st) (aw st) .none kV G pm an I ct) #[us,[]]=pure (ps.zip us)):Binds K fd ps []:=by
 let#[oc,od,kV,G,pm,an,I,ct,O,rfl,N,L]:=F.ex;show .all (h kV G pm an I ct)
theorem qJ {x I:Str}{st:KP}{f:Addr}{oc:Value}{od an:Option Addr}{L:Array (Option Value)}{kV J pm G ct:Value}(l:K.lookup f=some #[oc,od,.func (RW x I (fL st) (eu st) (aw st) .none kV J pm an G ct),L])
  (c:RX K G I=true) (k:Pq K (.ref f)=true):cK K x I st f (RW x I (fL st) (eu st) (aw st) .none kV J pm an G ct):=#[#[oc,od,kV,J,pm,an,G,ct,L,rfl,l,c],k]
end
theorem a9 {A:KL}{k:Nat}(G:dw k A):A.units+1<Nq:=Nat.lt_of_le_of_lt (Nat.add_le_add_left (by decide:1<=64) _) G.units
section
variable {X:Cx}
theorem pv (i:Nat) {x:Str}{pos:Nn}(J:X.N[i]?=some x:=by rfl) (G:Il X.env.scope x:=by first|show Sn rfl|show So (Sn rfl)|show So (So rfl)) (hd:(x==("__debug__" : Str))=false:=by decide)
  (I:(x==("__classdict__" : Str))=false:=by decide):PE X (.Name x pos) (tm i):=Ez J G hd I
end
theorem bX {A B:Prop}(h:B):if false=true then A else B:=by
 rw[Su tu];show h
theorem eL {A B:Prop}(h:A):if true=true then A else B:=by
 rw[Sv rfl];show h
theorem gS {c A B:Prop} [Decidable c] (h1:c->A) (h2:¬ c->B):if c then A else B:=by
 by_cases h:c
 .rw[Sv h];show h1 h
 .rw[Su h];show h2 h
noncomputable def aZ (H H':Hp):Prop:=∀b o,H b=some o->H' b=some o
theorem aZ.refl (H:Hp):aZ H H:=λ_ _ h=>h
theorem aZ.trans {H H1 H2:Hp}(a:aZ H H1) (b:aZ H1 H2):aZ H H2:=λc o h=>b c o (a c o h)
theorem aZ.free {H H':Hp}(e:aZ H H') {l:Addr}(h:H' l=Sf):H l=Sf:=by
 cases q:H l with
 |none=>rfl
 |some o =>
  rw[e l o q]at h;cases h
end L2
namespace PySem
open PySem.Sem (wp)
section
variable {prog:rr}{w:Bd}{A:KL}{E:Value->mu->Prop}{h:Heap}{g:Array Qf}{d:Drawn}{t:Nat}{os:OsState}{a:Addr}{its:Array Value}{n:Nat}
end
end PySem
namespace Srt
open PySem PyProof.Rows
structure SI (a₀:Array vu) (st:K6):Prop where
 perm:(vr st).Perm a₀
 kind:kindOf st=Nb
 failed:Nc st=none
structure Ks (a₀:Array vu):Prop where
 ik:IntKeys a₀
 nd:(a₀.toList.map λp=>Mq p.1).Nodup
noncomputable def kG (xs:Array vu) (lo hi:Nat):Prop:=∀i j,lo<=i->i<=j->j<hi->K xs i<=K xs j
theorem SI.size {a₀:Array vu}{st:K6}(h:SI a₀ st):(vr st).size=a₀.size:=h.perm.size_eq
theorem wu {a₀ xs:Array vu}(L:xs.Perm a₀) (k:Ks a₀) {i:Nat}(hi:i<xs.size):∃t q,xs[i]?=some (.int (K xs i) t,q):=by
 have I:xs[i]∈a₀.toList:=(Mf.mp L).mem_iff.mp (by simp);let#[n,t,G]:=k.ik _ I;have e:xs[i]?=some xs[i]:=getElem?_pos _ i hi;have J:xs[i]=(.int n t,xs[i].2):=Qq G rfl;show#[t,xs[i].2,?_];unfold K;rw[e,J];rfl
theorem key_ne {a₀ xs:Array vu}(L:xs.Perm a₀) (k:Ks a₀) {i j:Nat}(hi:i<j) (G:j<xs.size):K xs i≠K xs j:=by
 have I:=(Mf.mp L).map λp:vu=>Mq p.1;have J:(xs.toList.map λp=>Mq p.1).Nodup:=I.nodup_iff.mpr k.nd;have h1:i<xs.size:=ae;have a:=LN.mp J i j (by simpa using h1) (by simpa using G) hi;unfold K;rw[getElem?_pos xs i h1,getElem?_pos xs j G];simpa using a
theorem SI.setArr {a₀:Array vu}{st:K6}(h:SI a₀ st) {xs:Array vu}(G:xs.Perm (vr st)):SI a₀ (setArr st xs):=#[G.trans h.perm,h.kind,h.failed]
section
variable {prog:rr}{w:Bd}{A:KL}{E:Value->mu->Prop}{s:mu}{a₀:Array vu}
theorem rq {st:K6}{x y:vu}{a b:Int}{t u:Ss}{Q:Option Bool->K6->Prop}(J:kindOf st=Nb) (I:x.1=.int a t) (G:y.1=.int b u) (h:Q (some (decide (a<b))) st) :
  R0 (model prog w) A E s (lt' x y) Q st:=by
 rw[lt'_eq];show pa (Nw ?_);rw[J,keyLt'_oneType,I,G];show pa (OJ (wpAny_attempt (oneLt_int #[rfl,pf h])))
theorem bw {st:K6}{xs:Array vu}{i:Nat}{p:vu}{Q:vu->K6->Prop}(hi:xs[i]?=some p) (h:Q p st):R0 (model prog w) A E s (elem' xs i) Q st:=by
 rw[elem'_eq,hi];show pf h
theorem pj {st:K6}{i j:Nat}{Q:Option Bool->K6->Prop}(S:SI a₀ st) (k:Ks a₀) (hi:i<a₀.size) (G:j<a₀.size) (h:Q (some (decide (K (vr st) i<K (vr st) j))) st) :
  R0 (model prog w) A E s (ltAt' i j) Q st:=by
 let#[t,p,I]:=wu S.perm k (by rw[S.size];show hi);let#[u,q,J]:=wu S.perm k (by rw[S.size];show G);show wpS_ltAt S.kind I J h
structure Cut (a₀:Array vu) (st st':K6) (lo:Nat):Prop where
 S:SI a₀ st'
 pre:∀i,i<lo->(vr st')[i]?=(vr st)[i]?
 pend:HC st'=HC st
theorem AV {st:K6}{lo nrem:Nat}{Q:Option Nat->K6->Prop}(S:SI a₀ st) (k:Ks a₀) (hn:lo+nrem<=a₀.size) (h1:1<=nrem)
  (h:∀m G,Cut a₀ st G lo->1<=m->m<=nrem->kG (vr G) lo (lo+m)->Q (some m) G):R0 (model prog w) A E s (countRun' lo nrem) Q st:=by
 rw[countRun'_eq];show pa (LR (K9 (I:=λx c G=>sf (G=st) (c=(none,x)) (kG (vr st) lo (lo+x))) (Q:=λc G=>G=st/\∃n,c=(none,n)/\1<=n/\n<=nrem/\kG (vr st) lo (lo+n)/\(n=nrem\/K (vr st) (lo+n)<K (vr st) (lo+n-1))) ?_ ?_ ?_) ?_)
 .rintro x c G ab am ⟨rfl,rfl,hs⟩;dsimp only;show pa (pj S k ae ae ?_);by_cases c:K (vr G) (lo+x)<K (vr G) (lo+x-1)
  .simp only[c,decide_true,if_true];show pf #[rfl,x,rfl,ab,ae,hs,.inr c]
  .simp only[c,decide_false,LF,if_false];show pf #[1,λi j hi N R=>?_];by_cases z:j<lo+x
   .show hs i j hi N z
   .by_cases U:i=j
    .rw[U];show Ll _
    .have:=hs i (lo+x-1) hi ae ae;have O:j=lo+x:=ae;rw[O];omega
 .rintro c G ⟨rfl,rfl,hs⟩;rw[show max 1 nrem=nrem by omega]at hs ⊢;show#[rfl,nrem,rfl,h1,qj _,hs,.inl rfl]
 .show#[1,λi j hi N R=>by rw[show i=j by omega];show Ll _]
 .rintro c G ⟨rfl,n,rfl,n1,n2,hs,as⟩;dsimp only;by_cases e:n=nrem
  .rw[Sv (by simpa using e)];show pf (h n G #[S,λ_ _=>rfl,rfl] n1 n2 hs)
  .rw[Su (by simpa using e)];have ap:=as.resolve_left e;by_cases g:n>1
   .rw[Sv g];show pa (pj S k ae ae ?_);have r:K (vr G) lo<K (vr G) (lo+n-1):=by
     have a:=hs lo (lo+n-1) (qj _) ae ae;have b:=key_ne S.perm k (i:=lo) (j:=lo+n-1) ae (by rw[S.size];omega);omega
    simp only[r,decide_true,if_true];show pf (h n G #[S,λ_ _=>rfl,rfl] n1 n2 hs)
   .rw[Su g];have e1:n=1:=ae;subst e1;show pa (OJ (MN #[5]));have aB:∀i j,lo<=i->i<=j->j<lo+2->K (vr G) j<=K (vr G) i:=λi j hi N R=>by
     by_cases z:i=j
     .rw[z];show Ll _
     .have ei:i=lo:=ae;have O:j=lo+1:=ae;rw[ei,O];show La ap
    show pa (LR (K9 (I:=λx c J=>sf (J=G) (c=(none,x,0)) (∀i j,lo<=i->i<=j->j<lo+x->K (vr G) j<=K (vr G) i)) (Q:=λc J=>J=G/\∃n,c=(none,n,0)/\2<=n/\n<=nrem/\∀i j,lo<=i->i<=j->j<lo+n->K (vr G) j<=K (vr G) i) ?_ ?_ ?_) ?_)
    .rintro x c J ab am ⟨rfl,rfl,hd⟩;dsimp only;show pa (pj S k ae ae ?_);by_cases c:K (vr J) (lo+x)<K (vr J) (lo+x-1)
     .simp only[c,decide_true,if_true];rw[Su ae];show pf #[1,λi j hi N R=>?_];by_cases z:j<lo+x
      .show hd i j hi N z
      .by_cases U:i=j
       .rw[U];show Ll _
       .have:=hd i (lo+x-1) hi ae ae;have O:j=lo+x:=ae;rw[O];omega
     .simp only[c,decide_false,LF,if_false];show pa (pj S k ae ae ?_);have r:K (vr J) (lo+x-1)<K (vr J) (lo+x):=by
       have b:=key_ne S.perm k (i:=lo+x-1) (j:=lo+x) ae (by rw[S.size];omega);omega
      simp only[r,decide_true,if_true];show pf #[rfl,x,rfl,ab,ae,hd]
    .rintro c J ⟨rfl,rfl,hd⟩;rw[show max (1+1) nrem=nrem by omega]at hd ⊢;show#[rfl,nrem,rfl,ae,qj _,hd]
    .show#[1,aB]
    .rintro c J ⟨rfl,n,rfl,m1,m2,hd⟩;dsimp only;rw[Su ae];show pa (wpS_reverse ?_);have hsz:lo+n<=(vr J).size:=(by rw[S.size];omega);have S3:=S.setArr (mirror_perm (vr J) lo (lo+n) ((lo+n-lo)/2));have C3:Cut a₀ J (setArr J (Rj (vr J) lo (lo+n) ((lo+n-lo)/2))) lo:=by
      show#[S3,λi hi=>?_,rfl];change(Rj (vr J) lo (lo+n) ((lo+n-lo)/2))[i]?=_;rw[getElem?_mirror_all hsz,Su ae]
     have ac:kG (vr (setArr J (Rj (vr J) lo (lo+n) ((lo+n-lo)/2)))) lo (lo+n):=λi j hi N R=>by
      change K (Rj (vr J) lo (lo+n) ((lo+n-lo)/2)) i<=K (Rj (vr J) lo (lo+n) ((lo+n-lo)/2)) j;rw[K_mirror hsz,K_mirror hsz,Sv ae,Sv ae];show hd _ _ ae ae ae
     generalize setArr J (Rj (vr J) lo (lo+n) ((lo+n-lo)/2))=Y at S3 C3 ac ⊢;show pa (LR (K9 (I:=λx c L=>sf (L=Y) (c=(none,x)) (kG (vr Y) lo (lo+x))) (Q:=λc L=>L=Y/\∃m,c=(none,m)/\1<=m/\m<=nrem/\kG (vr Y) lo (lo+m)) ?_ ?_ ?_) ?_)
     .rintro x c L ab am ⟨rfl,rfl,hs⟩;dsimp only;show pa (pj S3 k ae ae ?_);by_cases c:K (vr L) (lo+x)<K (vr L) (lo+x-1)
      .simp only[c,decide_true,if_true];show pf #[rfl,x,rfl,ae,ae,hs]
      .simp only[c,decide_false,LF,if_false];show pf #[1,λi j hi N R=>?_];by_cases z:j<lo+x
       .show hs i j hi N z
       .by_cases U:i=j
        .rw[U];show Ll _
        .have:=hs i (lo+x-1) hi ae ae;have O:j=lo+x:=ae;rw[O];omega
     .rintro c L ⟨rfl,rfl,hs⟩;rw[show max n nrem=nrem by omega]at hs ⊢;show#[rfl,nrem,rfl,h1,qj _,hs]
     .show#[1,ac]
     .rintro c L ⟨rfl,m,rfl,q1,q2,hs⟩;show pf (h m L C3 q1 q2 hs)
theorem y7 {st:K6}{lo n ok:Nat}{Q:Bool->K6->Prop}(S:SI a₀ st) (k:Ks a₀) (hn:lo+n<=a₀.size) (h1:1<=ok) (bE:ok<=n) (hs:kG (vr st) lo (lo+ok))
  (h:∀G,Cut a₀ st G lo->kG (vr G) lo (lo+n)->Q true G):R0 (model prog w) A E s (binarySort' lo n ok) Q st:=by
 rw[binarySort'_eq];show pa (LR (K9 (I:=λx c G=>sf (c=(none,())) (Cut a₀ st G lo) (kG (vr G) lo (lo+x))) (Q:=λc G=>sf (c=(none,())) (Cut a₀ st G lo) (kG (vr G) lo (lo+n))) ?_ ?_ ?_) ?_)
 .rintro x c G aT aB ⟨rfl,C,L⟩;have Y:lo+x<(vr G).size:=(by rw[C.S.size];omega);show pa (LR (K9 (I:=λy c J=>J=G/\∃l r,c=(none,l,r)/\l<=r/\r<=x/\r-l<=x-y/\(∀i,lo<=i->i<lo+l->K (vr G) i<=K (vr G) (lo+x))/\∀i,lo+r<=i->i<lo+x->K (vr G) (lo+x)<K (vr G) i)
   (Q:=λc J=>J=G/\∃l,c=(none,l,l)/\l<=x/\(∀i,lo<=i->i<lo+l->K (vr G) i<=K (vr G) (lo+x))/\∀i,lo+l<=i->i<lo+x->K (vr G) (lo+x)<K (vr G) i) ?_ ?_ ?_) ?_)
  .rintro y c J am as ⟨rfl,l,r,rfl,lr,U,hm,N,O⟩;dsimp only;by_cases g:l>=r
   .rw[Sv g];obtain rfl:l=r:=ae;show pf #[rfl,l,rfl,U,N,O]
   .rw[Su g];show pa (pj C.S k ae ae ?_);by_cases c:K (vr J) (lo+x)<K (vr J) (lo+(l+r)/2)
    .simp only[c,decide_true,if_true];show pf #[rfl,l,(l+r)/2,rfl,ae,ae,ae,N,λi hi ac=>?_];have:=L (lo+(l+r)/2) i ae hi ae;omega
    .simp only[c,decide_false,LF,if_false];show pf #[rfl,(l+r)/2+1,r,rfl,ae,ae,ae,λi hi ac=>?_,O];have:=L i (lo+(l+r)/2) hi ae ae;omega
  .rintro c J ⟨rfl,l,r,rfl,lr,U,hm,N,O⟩;obtain rfl:l=r:=ae;show#[rfl,l,rfl,U,N,O]
  .show#[rfl,(0),x,rfl,ae,ae,ae,λi hi ab=>by omega,λi hi ab=>by omega]
  .rintro c J ⟨rfl,l,rfl,lx,N,O⟩;dsimp only;rw[moveDown'_eq];show pa (Mt (pf #[rfl,#[C.S.setArr (bubble_perm _ _ _),λi hi=>?_,C.pend],λi j hi ap hj=>?_]))
   .change(bubble (vr J) (lo+x) (lo+x-(lo+l)))[i]?=_;rw[getElem?_bubble Y _ ae,Su ae,Su ae];show C.pre i hi
   .change K (bubble (vr J) (lo+x) (lo+x-(lo+l))) i<=K (bubble (vr J) (lo+x) (lo+x-(lo+l))) j;rw[K_bubble Y ae,K_bubble Y ae,show lo+x-(lo+x-(lo+l))=lo+l by omega];by_cases c1:i=lo+l
    .rw[Sv c1];by_cases R:j=lo+l
     .rw[Sv R];show Ll _
     .rw[Su R,Sv ae];have:=O (j-1) ae ae;omega
    .rw[Su c1];by_cases R:j=lo+l
     .rw[Sv R,Su ae];show N i hi ae
     .rw[Su R];by_cases c3:lo+l<i/\i<=lo+x
      .rw[Sv c3,Sv ae];show L _ _ ae ae ae
      .rw[Su c3];by_cases c4:lo+l<j/\j<=lo+x
       .rw[Sv c4];show L _ _ ae ae ae
       .rw[Su c4];show L _ _ ae ae ae
 .rintro c G ⟨rfl,C,L⟩;rw[show max (max ok 1) n=n by omega]at L;show#[rfl,C,L]
 .rw[show max ok 1=ok by omega];show#[rfl,#[S,λ_ _=>rfl,rfl],hs]
 .rintro c G ⟨rfl,C,L⟩;show pf (h G C L)
end
noncomputable def BS:Bool->vu->Array vu->Nat->Nat->Nat->StateT K6 Qg (Option Nat):=sortPriv% PySem.Builtin.gallop
noncomputable def gb (left:Bool) (a:Int) (xs:Array vu) (base i:Nat):Bool:=if left then decide (K xs (base+i)<a)else !decide (a<K xs (base+i))
section
variable {prog:rr}{w:Bd}{A:KL}{E:Value->mu->Prop}{s:mu}{a₀:Array vu}
noncomputable def qq (left:Bool) (G:vu) (xs:Array vu) (base i:Nat):StateT K6 Qg (Option Bool):=
 bind (elem' xs (base+i)) λx=>ite (left=true) (lt' x G) (bind (lt' G x) λr=>pure (Option.map (λb => !b) r))
theorem El {st:K6}{left:Bool}{J:vu}{a:Int}{t u:Ss}{q:Value}{xs:Array vu}{base i:Nat}{Q:Option Bool->K6->Prop}(I:kindOf st=Nb) (G:J.1=.int a t) (L:xs[base+i]?=some (.int (K xs (base+i)) u,q))
  (h:Q (some (gb left a xs base i)) st):R0 (model prog w) A E s (qq left J xs base i) Q st:=by
 unfold qq;show pa (bw L ?_);unfold gb at h;cases left with
 |true=>show rq I rfl G h
 |false=>show pa (rq I G rfl (pf h))
theorem ij {left:Bool}{a:Int}{xs:Array vu}{base n i j:Nat}(hs:kG xs base (base+n)) (I:i<=j) (G:j<n) (h:gb left a xs base j=true):gb left a xs base i=true:=by
 have:=hs (base+i) (base+j) ae ae ae;unfold gb at h ⊢;cases left with
 |true =>
  have z:K xs (base+j)<a:=of_decide_eq_true h;show decide_eq_true ae
 |false =>
  have z:¬ a<K xs (base+j):=of_decide_eq_false (by simpa using h);change(!decide (a<K xs (base+i)))=true;rw[decide_eq_false ae];rfl
theorem iG {left:Bool}{a:Int}{xs:Array vu}{base n i j:Nat}(hs:kG xs base (base+n)) (I:i<=j) (G:j<n) (h:gb left a xs base i=false):gb left a xs base j=false:=by
 cases e:gb left a xs base j with
 |false=>rfl
 |true=>rw[ij hs I G e]at h;cases h
theorem dG {st:K6}{left:Bool}{aB:vu}{a:Int}{t:Ss}{xs:Array vu}{base n hint:Nat}{Q:Option Nat->K6->Prop}(hk:kindOf st=Nb) (aT:aB.1=.int a t) (hx:∀i,i<n->∃t q,xs[base+i]?=some (.int (K xs (base+i)) t,q))
  (hs:kG xs base (base+n)) (hh:hint<n) (h:∀r,r<=n->(∀i,i<r->gb left a xs base i=true)->(∀i,r<=i->i<n->gb left a xs base i=false)->Q (some r) st) :
  R0 (model prog w) A E s (BS left aB xs base n hint) Q st:=by
 have B:∀{i:Nat}{Q:Option Bool->K6->Prop},i<n->Q (some (gb left a xs base i)) st->R0 (model prog w) A E s (qq left aB xs base i) Q st:=λhi q=>by
  let#[u,v,e]:=hx _ hi;show El hk aT e q
 show pa (B hh ?_);cases c:gb left a xs base hint with
 |true =>
  dsimp only;rw[Sv rfl];show pa (LR (K9 (I:=λx c G=>G=st/\∃l o,c=(none,l,o)/\l<o/\x+1<=o/\hint+l<n/\gb left a xs base (hint+l)=true) (Q:=λc G=>G=st/\∃l o,c=(none,l,o)/\l<o/\hint+l<n/\gb left a xs base (hint+l)=true/\(n-hint<=o\/(hint+o<n/\gb left a xs base (hint+o)=false))) ?_ ?_ ?_) ?_)
  .rintro x c G as ap ⟨rfl,l,o,rfl,lo,xo,S,J⟩;dsimp only;by_cases g:o>=n-hint
   .rw[Sv g];show pf #[rfl,l,o,rfl,lo,S,J,.inl g]
   .rw[Su g];show pa (B (i:=hint+o) ae ?_);cases U:gb left a xs base (hint+o)with
    |true=>show pf #[rfl,o,2*o+1,rfl,ae,ae,ae,U]
    |false=>show pf #[rfl,l,o,rfl,lo,S,J,.inr #[ae,U]]
  .rintro c G ⟨rfl,l,o,rfl,lo,xo,S,J⟩;show#[rfl,l,o,rfl,lo,S,J,.inl ae]
  .show#[rfl,(0),(1),rfl,ae,ae,hh,c]
  .rintro c G ⟨rfl,l,o,rfl,lo,S,J,ac⟩;dsimp only;have f1:∀i,i<hint+l+1->gb left a xs base i=true:=λi hi=>ij hs (j:=hint+l) ae S J;have f2:∀i,hint+min o (n-hint)<=i->i<n->gb left a xs base i=false:=λi hi Y=>by
    rcases ac with g|⟨g1,g2⟩
    .omega
    .show iG hs (i:=hint+o) ae Y g2
   have f3:hint+l+1<=hint+min o (n-hint):=ae;have f4:hint+min o (n-hint)<=n:=ae;generalize hint+l+1=am at f1 f3 ⊢;generalize hint+min o (n-hint)=ab at f2 f3 f4 ⊢;show pa (LR (K9 (I:=λx c O=>O=G/\∃l r,c=(none,l,r)/\l<=r/\r<=n/\r-l<=n-x/\(∀i,i<l->gb left a xs base i=true)/\∀i,r<=i->i<n->gb left a xs base i=false) (Q:=λc O=>O=G/\∃r,c=(none,r,r)/\r<=n/\(∀i,i<r->gb left a xs base i=true)/\∀i,r<=i->i<n->gb left a xs base i=false) ?_ ?_ ?_) ?_)
   .rintro x c O as ap ⟨rfl,l,r,rfl,lr,R,hm,L,N⟩;dsimp only;by_cases g:l>=r
    .rw[Sv g];obtain rfl:l=r:=ae;show pf #[rfl,l,rfl,R,L,N]
    .rw[Su g];show pa (B (i:=l+(r-l)/2) ae ?_);cases U:gb left a xs base (l+(r-l)/2)with
     |true=>show pf #[rfl,l+(r-l)/2+1,r,rfl,ae,R,ae,λi hi=>ij hs (j:=l+(r-l)/2) ae ae U,N]
     |false=>show pf #[rfl,l,l+(r-l)/2,rfl,ae,ae,ae,L,λi hi Y=>iG hs hi Y U]
   .rintro c O ⟨rfl,l,r,rfl,lr,R,hm,L,N⟩;obtain rfl:l=r:=ae;show#[rfl,l,rfl,R,L,N]
   .show#[rfl,am,ab,rfl,f3,f4,ae,f1,f2]
   .rintro c O ⟨rfl,r,rfl,R,L,N⟩;show pf (h r R L N)
 |false =>
  dsimp only;rw[Su av];show pa (LR (K9 (I:=λx c G=>G=st/\∃l o,c=(none,l,o)/\l<o/\x+1<=o/\l<=hint/\gb left a xs base (hint-l)=false) (Q:=λc G=>G=st/\∃l o,c=(none,l,o)/\l<o/\l<=hint/\gb left a xs base (hint-l)=false/\(hint+1<=o\/(o<=hint/\gb left a xs base (hint-o)=true))) ?_ ?_ ?_) ?_)
  .rintro x c G as ap ⟨rfl,l,o,rfl,lo,xo,S,J⟩;dsimp only;by_cases g:o>=hint+1
   .rw[Sv g];show pf #[rfl,l,o,rfl,lo,S,J,.inl g]
   .rw[Su g];show pa (B (i:=hint-o) ae ?_);cases U:gb left a xs base (hint-o)with
    |true=>show pf #[rfl,l,o,rfl,lo,S,J,.inr #[ae,U]]
    |false=>show pf #[rfl,o,2*o+1,rfl,ae,ae,ae,U]
  .rintro c G ⟨rfl,l,o,rfl,lo,xo,S,J⟩;show#[rfl,l,o,rfl,lo,S,J,.inl ae]
  .show#[rfl,(0),(1),rfl,ae,ae,KH _,c]
  .rintro c G ⟨rfl,l,o,rfl,lo,S,J,ac⟩;dsimp only;have f1:∀i,i<hint+1-min o (hint+1)->gb left a xs base i=true:=λi hi=>by
    rcases ac with g|⟨g1,g2⟩
    .omega
    .show ij hs (j:=hint-o) ae ae g2
   have f2:∀i,hint-l<=i->i<n->gb left a xs base i=false:=λi hi Y=>iG hs hi Y J;have f3:hint+1-min o (hint+1)<=hint-l:=ae;have f4:hint-l<=n:=ae;generalize hint+1-min o (hint+1)=am at f1 f3 ⊢;generalize hint-l=ab at f2 f3 f4 ⊢;show pa (LR (K9 (I:=λx c O=>O=G/\∃l r,c=(none,l,r)/\l<=r/\r<=n/\r-l<=n-x/\(∀i,i<l->gb left a xs base i=true)/\∀i,r<=i->i<n->gb left a xs base i=false) (Q:=λc O=>O=G/\∃r,c=(none,r,r)/\r<=n/\(∀i,i<r->gb left a xs base i=true)/\∀i,r<=i->i<n->gb left a xs base i=false) ?_ ?_ ?_) ?_)
   .rintro x c O as ap ⟨rfl,l,r,rfl,lr,R,hm,L,N⟩;dsimp only;by_cases g:l>=r
    .rw[Sv g];obtain rfl:l=r:=ae;show pf #[rfl,l,rfl,R,L,N]
    .rw[Su g];show pa (B (i:=l+(r-l)/2) ae ?_);cases U:gb left a xs base (l+(r-l)/2)with
     |true=>show pf #[rfl,l+(r-l)/2+1,r,rfl,ae,R,ae,λi hi=>ij hs (j:=l+(r-l)/2) ae ae U,N]
     |false=>show pf #[rfl,l,l+(r-l)/2,rfl,ae,ae,ae,L,λi hi Y=>iG hs hi Y U]
   .rintro c O ⟨rfl,l,r,rfl,lr,R,hm,L,N⟩;obtain rfl:l=r:=ae;show#[rfl,l,rfl,R,L,N]
   .show#[rfl,am,ab,rfl,f3,f4,ae,f1,f2]
   .rintro c O ⟨rfl,r,rfl,R,L,N⟩;show pf (h r R L N)
end
noncomputable def le (p q:vu):Prop:=Mq p.1<=Mq q.1
structure Up (a:Array vu):Prop where
 ik:IntKeys a
 up:a.toList.Pairwise le
theorem Up.at {a:Array vu}(u:Up a) {i:Nat}(hi:i<a.size):∃t q,a[i]?=some (.int (K a i) t,q):=by
 let#[n,t,G]:=u.ik a[i] (by simp);have e:a[i]?=some a[i]:=getElem?_pos _ i hi;have I:a[i]=(.int n t,a[i].2):=Qq G rfl;show#[t,a[i].2,?_];unfold K;rw[e,I];rfl
theorem Up.Iz {a:Array vu}(u:Up a):kG a 0 a.size:=λi j _ I G=>by
 by_cases e:i=j
 .rw[e];show Ll _
 .have hi:i<a.size:=ae;have z:=LN.mp u.up i j (by simpa using hi) (by simpa using G) ae;rw[K_eq hi,K_eq G];simpa[le]using z
theorem kG.sub {a:Array vu}{lo hi I G:Nat}(h:kG a lo hi) (h1:lo<=I) (h2:G<=hi):kG a I G:=λi j hi J L=>h i j ae J ae
structure MI (a b out:Array vu) (ia ib:Nat):Prop where
 la:ia<=a.size
 lb:ib<=b.size
 pm:(out.toList++a.toList.drop ia++b.toList.drop ib).Perm (a.toList++b.toList)
 up:out.toList.Pairwise le
 ba:∀p∈out.toList,∀q∈a.toList.drop ia,le p q
 bb:∀p∈out.toList,∀q∈b.toList.drop ib,le p q
theorem MI.sz {a b out:Array vu}{I G:Nat}(m:MI a b out I G):out.size+(a.size-I)+(b.size-G)=a.size+b.size:=by
 have:=m.pm.length_eq;simp at this;omega
theorem MI.tN {a b out R:Array vu}{G O:Nat}(m:MI a b out G O) (U:Up a) {k:Nat}(hk:G+k<=a.size) (L:R.toList=out.toList++(a.toList.drop G).take k) (h:∀p∈(a.toList.drop G).take k,∀q∈b.toList.drop O,le p q):MI a b R (G+k) O:=by
 have hd:a.toList.drop (G+k)=(a.toList.drop G).drop k:=(by rw[Rk]);have N:(a.toList.drop G).Pairwise le:=U.up.sublist (N5 _ _);have S:=N;rw[<-LV k (a.toList.drop G)]at S;let#[p1,p2,Y]:=KR.mp S;show#[hk,m.lb,3,λp J q I=>?_,λp J q I=>?_]
 .rw[L,hd,KU out.toList,LV];show m.pm
 .rw[L,KR];show#[m.up,p1,λp N q I=>m.ba p N q (NW I)]
 .rw[hd]at I;rw[L]at J;rcases oR.mp J with z|z
  .show m.ba p z q (NT I)
  .show Y p z q I
 .rw[L]at J;rcases oR.mp J with z|z
  .show m.bb p z q I
  .show h p z q I
theorem MI.tY {a b out R:Array vu}{O G:Nat}(m:MI a b out O G) (U:Up b) {k:Nat}(hk:G+k<=b.size) (L:R.toList=out.toList++(b.toList.drop G).take k) (h:∀p∈(b.toList.drop G).take k,∀q∈a.toList.drop O,le p q):MI a b R O (G+k):=by
 have hd:b.toList.drop (G+k)=(b.toList.drop G).drop k:=(by rw[Rk]);have N:(b.toList.drop G).Pairwise le:=U.up.sublist (N5 _ _);have S:=N;rw[<-LV k (b.toList.drop G)]at S;let#[p1,p2,Y]:=KR.mp S;show#[m.la,hk,3,λp J q I=>?_,λp J q I=>?_]
 .show NX ?_ m.pm;rw[L,hd];have e:b.toList.drop G=(b.toList.drop G).take k++(b.toList.drop G).drop k:=(LV _ _).symm
  conv=>rhs;rw[e]
  generalize (b.toList.drop G).take k=T;generalize (b.toList.drop G).drop k=D;rw[KU,KU,KU];show MF _ ?_;rw[<-KU, <-KU];show Mu _ MW
 .rw[L,KR];show#[m.up,p1,λp N q I=>m.bb p N q (NW I)]
 .rw[L]at J;rcases oR.mp J with z|z
  .show m.ba p z q I
  .show h p z q I
 .rw[hd]at I;rw[L]at J;rcases oR.mp J with z|z
  .show m.bb p z q (NT I)
  .show Y p z q I
noncomputable def Good (a b R:Array vu):Prop:=R.toList.Perm (a.toList++b.toList)/\R.toList.Pairwise le
theorem dH {a:Array vu}{i:Nat}{q:vu}(h:q∈a.toList.drop i):∃j,i<=j/\j<a.size/\Mq q.1=K a j:=by
 let#[n,G,e]:=Pw.mp h;have I:i+n<a.size:=by
  rw[LZ]at G;simp at G;omega
 show#[i+n,ae,I,?_];rw[K_eq I, <-e,Qt];simp
theorem dN {a:Array vu}{i k:Nat}{q:vu}(h:q∈(a.toList.drop i).take k):∃j,j<k/\i+j<a.size/\Mq q.1=K a (i+j):=by
 let#[n,G,e]:=Pw.mp h;rw[DD,LZ]at G;simp at G;have I:i+n<a.size:=ae;show#[n,ae,I,?_];rw[K_eq I, <-e,Nx,Qt];simp
theorem MI.gL {a b out:Array vu}{G I:Nat}(m:MI a b out G I) (L:Up a) (Y:Up b) (hi:G<a.size) {p:vu}(J:a[G]?=some p) (h:∀j,I<=j->j<b.size->K a G<=K b j):MI a b (out.push p) (G+1) I:=by
 have ep:a[G]=p:=(by rw[getElem?_pos a G hi]at J;show rk J);show m.tN L (k:=1) ae ?_ λx O q N=>?_
 .rw[Oz,Ml (by simpa using hi)];simp[ep]
 .let#[j,hj,_,e]:=dN O;let#[R,h2,U,S]:=dH N;have:j=0:=ae;subst this;change Mq x.1<=Mq q.1;rw[e,S];show h R h2 U
theorem MI.kY {a b out:Array vu}{I G:Nat}(m:MI a b out I G) (Y:Up a) (L:Up b) (hi:G<b.size) {p:vu}(J:b[G]?=some p) (h:∀j,I<=j->j<a.size->K b G<=K a j):MI a b (out.push p) I (G+1):=by
 have ep:b[G]=p:=(by rw[getElem?_pos b G hi]at J;show rk J);show m.tY L (k:=1) ae ?_ λx O q N=>?_
 .rw[Oz,Ml (by simpa using hi)];simp[ep]
 .let#[j,hj,_,e]:=dN O;let#[R,h2,U,S]:=dH N;have:j=0:=ae;subst this;change Mq x.1<=Mq q.1;rw[e,S];show h R h2 U
theorem sj {a:Array vu}{i k:Nat}:(a.extract i (i+k)).toList=(a.toList.drop i).take k:=by
 rw[Ob,Mh];congr 1;omega
theorem jF {a:Array vu}{i:Nat}:(a.extract i a.size).toList=a.toList.drop i:=by
 rw[Ob,Mh];show Lp ?_;rw[LZ];simp
theorem MI.ph {a b out:Array vu}{I G:Nat}(m:MI a b out I G) (J:Up a) (h:G=b.size):Good a b (out++a.extract I a.size++b.extract G b.size):=by
 have e:(out++a.extract I a.size++b.extract G b.size).toList=out.toList++a.toList.drop I++b.toList.drop G:=by
  rw[LA,LA,jF,jF]
 show#[by rw[e];show m.pm,?_];rw[e,h,List.drop_of_length_le (l:=b.toList) (by simp),P1,KR];show#[m.up,J.up.sublist (N5 _ _),λp N q L=>m.ba p N q L]
theorem MI.last {a b out:Array vu}{G I:Nat}(m:MI a b out G I) (N:Up a) (O:Up b) (hi:G+1=a.size) (h:∀j,I<=j->j<b.size->K b j<=K a G):Good a b (out++b.extract I b.size++a.extract G a.size):=by
 have e:(out++b.extract I b.size++a.extract G a.size).toList=out.toList++b.toList.drop I++a.toList.drop G:=by
  rw[LA,LA,jF,jF]
 show#[3]
 .rw[e];show NX ?_ m.pm;rw[KU,KU];show MF _ MW
 .rw[e,KR,KR];show#[#[m.up,O.up.sublist (N5 _ _),λp L q J=>m.bb p L q J],N.up.sublist (N5 _ _),λp L q J=>?_];rcases oR.mp L with z|z
  .show m.ba p z q J
  .let#[j,h1,h2,R]:=dH z;let#[S,h3,Y,U]:=dH J;have:S=G:=ae;subst this;change Mq p.1<=Mq q.1;rw[R,U];show h j h1 h2
theorem MI.E9 {a b out:Array vu}{G I:Nat}(m:MI a b out G I) (J:Up a) {k:Nat}(R:G+k<=a.size) (h:∀i j,i<k->I<=j->j<b.size->K a (G+i)<=K b j):MI a b (out++a.extract G (G+k)) (G+k) I :=
 m.tN J R (by rw[LA,sj]) λp N q O=>by
  let#[j,h1,h2,L]:=dN N;let#[U,h3,S,Y]:=dH O;change Mq p.1<=Mq q.1;rw[L,Y];show h j U h1 h3 S
theorem MI.zt {a b out:Array vu}{I G:Nat}(m:MI a b out I G) (J:Up b) {k:Nat}(R:G+k<=b.size) (h:∀i j,i<k->I<=j->j<a.size->K b (G+i)<=K a j):MI a b (out++b.extract G (G+k)) I (G+k):=
 m.tY J R (by rw[LA,sj]) λp N q O=>by
  let#[j,h1,h2,L]:=dN N;let#[U,h3,S,Y]:=dH O;change Mq p.1<=Mq q.1;rw[L,Y];show h j U h1 h3 S
theorem Ai {a:Int}{xs:Array vu}{base n r:Nat}(I:∀i,i<r->gb false a xs base i=true) (G:∀i,r<=i->i<n->gb false a xs base i=false):(∀i,i<r->K xs (base+i)<=a)/\∀j,base+r<=j->j<base+n->a<K xs j:=by
 show#[λi hi=>?_,λj L J=>?_]
 .have:=I i hi;unfold gb at this;simpa using this
 .have:=G (j-base) ae ae;unfold gb at this;rw[show base+(j-base)=j by omega]at this;simpa using this
theorem tf {a:Int}{xs:Array vu}{base n r:Nat}(I:∀i,i<r->gb true a xs base i=true) (G:∀i,r<=i->i<n->gb true a xs base i=false):(∀i,i<r->K xs (base+i)<a)/\∀j,base+r<=j->j<base+n->a<=K xs j:=by
 show#[λi hi=>?_,λj L J=>?_]
 .have:=I i hi;unfold gb at this;simpa using this
 .have:=G (j-base) ae ae;unfold gb at this;rw[show base+(j-base)=j by omega]at this;simpa using this
theorem MI.grow {a b out O:Array vu}{L J I B:Nat}(m:MI a b out L J) (G:MI a b O I B) (h1:L<=I) (h2:J<=B):out.size<=O.size:=by
 have N:=m.sz;have R:=G.sz;have:=G.la;have:=G.lb;omega
noncomputable def AF:Array vu->Array vu->StateT K6 Qg (Array vu):=sortPriv% PySem.Builtin.mergeLo
structure ud (st st':K6):Prop where
 arr:vr st'=vr st
 kind:kindOf st'=kindOf st
 failed:Nc st'=Nc st
 pend:HC st'=HC st
section
variable {prog:rr}{w:Bd}{A:KL}{E:Value->mu->Prop}{s:mu}{a₀:Array vu}
theorem aR {α:Type}{c:Prop} [Decidable c] {m n:StateT K6 Qg α}{Q:α->K6->Prop}{st:K6}(h1:c->R0 (model prog w) A E s m Q st) (h2:¬ c->R0 (model prog w) A E s n Q st):R0 (model prog w) A E s (if c then m else n) Q st:=by
 by_cases z:c
 .rw[Sv z];show h1 z
 .rw[Su z];show h2 z
noncomputable def Fg:Nat->StateT K6 Qg Unit:=sortPriv% PySem.Builtin.setMinGallop
theorem wX {G st:K6}{g:Nat}{Q:Unit->K6->Prop}(k:ud G st) (h:∀I,ud G I->Q () I):R0 (model prog w) A E s (Fg g) Q st :=
 Mt (h _ #[k.arr,k.kind,k.failed,k.pend])
theorem uG {st:K6}{a b:Array vu}{Q:Array vu->K6->Prop}(hk:kindOf st=Nb) (L:Up a) (N:Up b) (na:1<=a.size) (nb:1<=b.size) (h0:K b 0<K a 0) (hl:∀j,j<b.size->K b j<K a (a.size-1))
  (h:∀R ab,Good a b R->ud st ab->Q R ab):R0 (model prog w) A E s (AF a b) Q st:=by
 show pa (OJ (MN #[5]));let#[t0,q0,e0]:=N.at (i:=0) ae;show pa (bw e0 ?_);have sa:=L.Iz;have sb:=N.Iz;have M0:MI a b ([(Value.int (K b 0) t0,q0)].toArray) 0 1:=by
  have M:MI a b ([].toArray) 0 0:=#[KH _,KH _,by simp,Oy,(λp hp=>by cases hp),(λp hp=>by cases hp)];show M.kY L N ae e0 λj _ hj=>by
   have:=sa 0 j ae ae hj;omega
 show aR (λg=>?_) (λg=>?_)
 .show pf (h _ _ (M0.ph L (by simpa using g)) #[1,1])
 have g1:¬ 1=b.size:=(by simpa using g);show aR (λg=>?_) (λg=>?_)
 .have g':0+1=a.size:=(by simpa using g);show pf (h _ _ (M0.last L N g' λj _ hj=>?_) #[1,1]);have:=hl j hj;rw[<-g']at this;show La this
 have g2:¬ 0+1=a.size:=(by simpa using g);show pa (Nw ?_);show pa (LR (K9 (I:=λx c ab=>Iu λout G J mg=>yP (c=(none,out,G,J,mg)) (MI a b out G J) (G+1<a.size) (J<b.size) (x+1<=out.size) (ud st ab)) (Q:=λc ab=>∃R,sf (Good a b R) (c.1=some R) (ud st ab)) ?_ ?_ ?_) ?_)
 .rintro x c aT bq bx ⟨out,G,J,mg,rfl,M,la,U,lo,K1⟩;show pa (LR (K9 (I:=λy c ab=>BE λO G J ac bc=>yP (c=(none,O,G,J,ac,bc)) (MI a b O G J) (G+1<a.size) (J<b.size) (out.size+y<=O.size) (ud st ab))
   (Q:=λc ab=>ud st ab/\((∃R,Good a b R/\c.1=some R)\/(BE λO G J ac bc=>Fc (c=(none,O,G,J,ac,bc)) (MI a b O G J) (G+1<a.size) (J<b.size) (out.size+1<=O.size)))) ?_ ?_ ?_) ?_)
  .rintro y c a4 be bd ⟨O,G,J,ac,bc,rfl,M,la,U,a7,K2⟩;have bi:kindOf a4=Nb:=K2.kind.trans hk;let#[tb,qb,eb]:=N.at U;let#[ta,qa,ea]:=L.at (i:=G) ae;show pa (bw eb (pa (bw ea (pa (rq bi rfl rfl ?_)))));by_cases c:K b J<K a G
   .rw[decide_eq_true c];show pa (bw eb ?_);have M2:=M.kY L N U eb λj h1 h2=>by
     have:=sa G j ae h1 h2;omega
    show aR (λg=>?_) (λg=>?_)
    .show pf #[K2,.inl #[_,M2.ph L (by simpa using g),rfl]]
    .have g':¬ J+1=b.size:=(by simpa using g);have sz:(O.push (Value.int (K b J) tb,qb)).size=O.size+1:=OL ..;show aR (λg=>?_) (λg=>?_)
     .show pf #[K2,.inr #[O.push (Value.int (K b J) tb,qb),G,J+1,_,0,M2,la,ae,ae]]
     .show pf #[O.push (Value.int (K b J) tb,qb),G,J+1,_,0,M2,la,ae,ae,K2]
   .rw[decide_eq_false c];show pa (bw ea ?_);have M2:=M.gL L N ae ea λj h1 h2=>by
     have:=sb J j ae h1 h2;omega
    show aR (λg=>?_) (λg=>?_)
    .have g':G+1+1=a.size:=(by simpa using g);show pf #[K2,.inl #[_,M2.last L N g' (λj h1 h2=>?_),rfl]];have:=hl j h2;rw[show a.size-1=G+1 by omega]at this;show La this
    .have g':¬ G+1+1=a.size:=(by simpa using g);have sz:(O.push (Value.int (K a G) ta,qa)).size=O.size+1:=OL ..;show aR (λg=>?_) (λg=>?_)
     .show pf #[K2,.inr #[O.push (Value.int (K a G) ta,qa),G+1,J,_,0,M2,ae,U,ae]]
     .show pf #[O.push (Value.int (K a G) ta,qa),G+1,J,_,0,M2,ae,U,ae,K2]
  .rintro c a4 ⟨O,G,J,ac,bc,rfl,M,la,U,a7,K2⟩;show#[K2,.inr #[2,2,0,M,la,U,ae]]
  .show#[out,G,J,_,0,M,la,U,ae,K1]
  .rintro c a4 ⟨K2,⟨R,hR,e⟩|⟨O,G,J,ac,bc,rfl,M,la,U,a7⟩⟩
   .let#[c1,c2]:=c;cases e;show pf #[R,hR,rfl,K2]
   .show pa (OJ (MN #[5]));show pa (LR (K9 (I:=λy c ab=>HW λap G J mg ac bc=>yP (c=(none,ap,G,J,mg,ac,bc)) (MI a b ap G J) (G+1<a.size) (J<b.size) (O.size<=ap.size) (ud st ab))
     (Q:=λc ab=>ud st ab/\((∃R,Good a b R/\c.1=some R)\/(HW λap G J mg ac bc=>Fc (c=(none,ap,G,J,mg,ac,bc)) (MI a b ap G J) (G+1<a.size) (J<b.size) (O.size<=ap.size)))) ?_ ?_ ?_) ?_)
    .rintro y c a5 be bd ⟨ap,G,J,a6,ac,bc,rfl,M,la,U,am,K3⟩;show aR (λg=>?_) (λg=>?_)
     all_goals
      show pa (wX K3 λba S=>?_);have a3:kindOf ba=Nb:=S.kind.trans hk;let#[tb,qb,eb]:=N.at U;show pa (bw eb (pa (dG (base:=G) (n:=a.size-G) (hint:=0) a3 rfl (λi hi=>L.at ae) (sa.sub (KH _) ae) ae λr hr r1 r2=>?_)));let#[R1,R2]:=Ai r1 r2;rw[show G+(a.size-G)=a.size by omega]at R2;have bn:G+r<a.size:=by
       by_cases z:G+r<a.size
       .show z
       .have a1:=R1 (a.size-1-G) ae;rw[show G+(a.size-1-G)=a.size-1 by omega]at a1;have:=hl J U;omega
      have M1:=M.E9 L (k:=r) ae λi j hi h1 h2=>Ma (R1 i hi) (sb J j (KH _) h1 h2);show aR (λg2=>?_) (λg2=>?_)
      .show aR (λg3=>?_) (λg3=>?_)
       .have g':G+r+1=a.size:=(by simpa using g3);show pf #[S,.inl #[_,M1.last L N g' (λj h1 h2=>?_),rfl]];have:=hl j h2;rw[show a.size-1=G+r by omega]at this;show La this
       .have bv:¬ G+r+1=a.size:=(by simpa using g3);show aR (λg4=>?_) (λg4=>?_)
        .have g':G+r=a.size:=(by simpa using g4);omega
        .clear g4;have M2:=M1.kY L N U eb λj h1 h2=>La (R2 j ae h2);show pa (bw eb ?_);show aR (λg5=>pf #[S,.inl #[_,M2.ph L (by simpa using g5),rfl]]) (λg5=>?_);have bb:¬ J+1=b.size:=(by simpa using g5);let#[ta,qa,ea]:=L.at (i:=G+r) ae;show pa (bw ea (pa (dG (base:=J+1) (n:=b.size-(J+1)) (hint:=0) a3 rfl (λi hi=>N.at ae) (sb.sub (KH _) ae) ae λr' bm a2 a0=>?_)));let#[T1,T2]:=tf a2 a0;rw[show J+1+(b.size-(J+1))=b.size by omega]at T2;have M3:=M2.zt N (k:=r') ae λi j hi h1 h2=>La (P6 (T1 i hi) (sa _ j (KH _) h1 h2));show aR (λg6=>?_) (λg6=>?_)
         .show aR (λg7=>pf #[S,.inl #[_,M3.ph L (by simpa using g7),rfl]]) (λg7=>?_);have bl:¬ J+1+r'=b.size:=(by simpa using g7);show pa (bw ea ?_);have M4:=M3.gL L N ae ea λj h1 h2=>T2 j ae h2;show aR (λY=>?_) (λY=>?_)
          .have as:G+r+1+1=a.size:=(by simpa using Y);show pf #[S,.inl #[_,M4.last L N as (λj h1 h2=>?_),rfl]];have:=hl j h2;rw[show a.size-1=G+r+1 by omega]at this;show La this
          .have as:¬ G+r+1+1=a.size:=(by simpa using Y);show aR (λg9=>pf #[S,.inr #[_,G+r+1,J+1+r',2,0,M4,ae,ae,KI am (M.grow M4 ae ae)]]) (λg9=>pf #[_,G+r+1,J+1+r',2,0,M4,ae,ae,KI am (M.grow M4 ae ae),S])
         .have aB:r'=0:=ae;subst aB;show pa (bw ea ?_);have M4:=M2.gL L N ae ea λj h1 h2=>T2 j ae h2;show aR (λY=>?_) (λY=>?_)
          .have as:G+r+1+1=a.size:=(by simpa using Y);show pf #[S,.inl #[_,M4.last L N as (λj h1 h2=>?_),rfl]];have:=hl j h2;rw[show a.size-1=G+r+1 by omega]at this;show La this
          .have as:¬ G+r+1+1=a.size:=(by simpa using Y);show aR (λg9=>pf #[S,.inr #[_,G+r+1,J+1,2,0,M4,ae,ae,KI am (M.grow M4 ae ae)]]) (λg9=>pf #[_,G+r+1,J+1,2,0,M4,ae,ae,KI am (M.grow M4 ae ae),S])
      .have r0:r=0:=ae;subst r0;have M2:=M.kY L N U eb λj h1 h2=>La (R2 j ae h2);show pa (bw eb ?_);show aR (λg5=>pf #[S,.inl #[_,M2.ph L (by simpa using g5),rfl]]) (λg5=>?_);have bb:¬ J+1=b.size:=(by simpa using g5);let#[ta,qa,ea]:=L.at (i:=G) ae;show pa (bw ea (pa (dG (base:=J+1) (n:=b.size-(J+1)) (hint:=0) a3 rfl (λi hi=>N.at ae) (sb.sub (KH _) ae) ae λr' bm a2 a0=>?_)));let#[T1,T2]:=tf a2 a0;rw[show J+1+(b.size-(J+1))=b.size by omega]at T2;have M3:=M2.zt N (k:=r') ae λi j hi h1 h2=>La (P6 (T1 i hi) (sa _ j (KH _) h1 h2));show aR (λg6=>?_) (λg6=>?_)
       .show aR (λg7=>pf #[S,.inl #[_,M3.ph L (by simpa using g7),rfl]]) (λg7=>?_);have bl:¬ J+1+r'=b.size:=(by simpa using g7);show pa (bw ea ?_);have M4:=M3.gL L N ae ea λj h1 h2=>T2 j ae h2;show aR (λY=>?_) (λY=>?_)
        .have as:G+1+1=a.size:=(by simpa using Y);show pf #[S,.inl #[_,M4.last L N as (λj h1 h2=>?_),rfl]];have:=hl j h2;rw[show a.size-1=G+1 by omega]at this;show La this
        .have as:¬ G+1+1=a.size:=(by simpa using Y);show aR (λg9=>pf #[S,.inr #[_,G+1,J+1+r',2,0,M4,ae,ae,KI am (M.grow M4 ae ae)]]) (λg9=>pf #[_,G+1,J+1+r',2,0,M4,ae,ae,KI am (M.grow M4 ae ae),S])
       .have aB:r'=0:=ae;subst aB;show pa (bw ea ?_);have M4:=M2.gL L N ae ea λj h1 h2=>T2 j ae h2;show aR (λY=>?_) (λY=>?_)
        .have as:G+1+1=a.size:=(by simpa using Y);show pf #[S,.inl #[_,M4.last L N as (λj h1 h2=>?_),rfl]];have:=hl j h2;rw[show a.size-1=G+1 by omega]at this;show La this
        .have as:¬ G+1+1=a.size:=(by simpa using Y);show aR (λg9=>pf #[S,.inr #[_,G+1,J+1,2,0,M4,ae,ae,KI am (M.grow M4 ae ae)]]) (λg9=>pf #[_,G+1,J+1,2,0,M4,ae,ae,KI am (M.grow M4 ae ae),S])
    .rintro c a5 ⟨ap,G,J,a6,ac,bc,rfl,M,la,U,am,K3⟩;show#[K3,.inr #[2,2,_,0,M,la,U,am]]
    .show#[O,G,J,2,0,M,la,U,qj _,K2]
    .rintro c a5 ⟨K3,⟨R,hR,e⟩|⟨ap,G,J,a6,ac,bc,rfl,M,la,U,am⟩⟩
     .let#[c1,c2]:=c;cases e;show pf #[R,hR,rfl,K3]
     .show pa (wX K3 λba S=>?_);show pf #[ap,G,J,0,M,la,U,ae,S]
 .rintro c aT ⟨out,G,J,mg,rfl,M,la,U,lo,K1⟩;exfalso;have:=M.sz;omega
 .show#[2,_,0,M0,ae,ae,qj _,#[1,1]]
 .rintro c aT ⟨R,hR,e,K1⟩;let#[c1,c2]:=c;cases e;show pf (h R aT hR K1)
end
noncomputable def seg (a:Array vu) (k n:Nat):List vu:=(a.toList.drop k).take (n-k)
theorem iD {a:Array vu}{k n:Nat}(h:k<=n):a.toList.take n=a.toList.take k++seg a k n:=by
 unfold seg;have e:a.toList.take k=(a.toList.take n).take k:=(by rw[Rl,NU h]);rw[e, <-List.drop_take,LV]
theorem lQ {a:Array vu}{k n:Nat}{q:vu}(h:q∈seg a k n):∃j,k<=j/\j<n/\j<a.size/\Mq q.1=K a j:=by
 let#[j,h1,h2,e]:=dN h;show#[k+j,ae,ae,h2,e]
theorem lq {a:Array vu}{n:Nat}{q:vu}(h:q∈a.toList.take n):∃j,j<n/\j<a.size/\Mq q.1=K a j:=by
 have:q∈(a.toList.drop 0).take n:=(by rw[Rn];show h);let#[j,h1,h2,e]:=dN this;rw[Ro]at h2 e;show#[j,h1,h2,e]
theorem gB {a:Array vu}{k n:Nat}:(a.extract k n).toList=seg a k n:=by
 unfold seg;rw[Ob,Mh]
theorem lO {a:Array vu}{n:Nat}:(a.extract 0 n).toList=a.toList.take n:=by
 rw[Ob,Mh];simp
theorem xq {a:Array vu}{k:Nat}(h:k<a.size):seg a k (k+1)=[a[k]]:=by
 unfold seg;rw[Ml (by simpa using h)];simp
structure MH (a b out:Array vu) (na nb:Nat):Prop where
 la:na<=a.size
 lb:nb<=b.size
 pm:(a.toList.take na++b.toList.take nb++out.toList.reverse).Perm (a.toList++b.toList)
 up:out.toList.reverse.Pairwise le
 ab:∀p∈a.toList.take na,∀q∈out.toList,le p q
 bb:∀p∈b.toList.take nb,∀q∈out.toList,le p q
theorem MH.sz {a b out:Array vu}{I G:Nat}(m:MH a b out I G):out.size+I+G=a.size+b.size:=by
 have:=m.pm.length_eq;have h1:=m.la;have h2:=m.lb;simp at this;omega
theorem MH.grow {a b out O:Array vu}{J G I B:Nat}(m:MH a b out J G) (L:MH a b O I B) (h1:I<=J) (h2:B<=G):out.size<=O.size:=by
 have N:=m.sz;have R:=L.sz;omega
theorem lJ {out:Array vu}{l r:List vu}{q:vu}(h:out.toList.reverse=l++r.reverse) (G:q∈out.toList):q∈l\/q∈r:=by
 have:q∈out.toList.reverse:=Lx.mpr G;rw[h]at this;rcases oR.mp this with z|z
 .show .inl z
 .show .inr (Lx.mp z)
theorem MH.tN {a b out S:Array vu}{G L k:Nat}(m:MH a b out G L) (U:Up a) (hk:k<=G) (R:S.toList.reverse=seg a k G++out.toList.reverse) (h:∀i j,i<L->i<b.size->k<=j->j<G->K b i<=K a j):MH a b S k L:=by
 have O:=iD (a:=a) hk;have N:(a.toList.take G).Pairwise le:=U.up.sublist (MU _ _);rw[O]at N;let#[p1,p2,Y]:=KR.mp N;have ac:=m.la;show#[ae,m.lb,3,λp J q I=>?_,λp J q I=>?_]
 .show NX ?_ m.pm;rw[R,O];generalize seg a k G=T;generalize a.toList.take k=D;generalize b.toList.take L=B;rw[KU,KU,KU];show MF _ ?_;rw[<-KU, <-KU];show Mu _ MW
 .rw[R,KR];show#[p2,m.up,λp N q I=>m.ab p ?_ q (Lx.mp I)];rw[O];show KO _ N
 .rcases lJ R I with z|z
  .show Y p J q z
  .show m.ab p ?_ q z;rw[O];show LC _ J
 .rcases lJ R I with z|z
  .let#[i,i1,i2,e1]:=lq J;let#[j,j1,j2,j3,e2]:=lQ z;change Mq p.1<=Mq q.1;rw[e1,e2];show h i j i1 i2 j1 j2
  .show m.bb p J q z
theorem MH.tY {a b out S:Array vu}{N G k:Nat}(m:MH a b out N G) (U:Up b) (hk:k<=G) (R:S.toList.reverse=seg b k G++out.toList.reverse) (h:∀i j,i<N->i<a.size->k<=j->j<G->K a i<=K b j):MH a b S N k:=by
 have O:=iD (a:=b) hk;have L:(b.toList.take G).Pairwise le:=U.up.sublist (MU _ _);rw[O]at L;let#[p1,p2,Y]:=KR.mp L;have ac:=m.lb;show#[m.la,ae,3,λp J q I=>?_,λp J q I=>?_]
 .show NX ?_ m.pm;rw[R,O];generalize seg b k G=T;generalize b.toList.take k=D;generalize a.toList.take N=B;rw[KU,KU,KU]
 .rw[R,KR];show#[p2,m.up,λp L q I=>m.bb p ?_ q (Lx.mp I)];rw[O];show KO _ L
 .rcases lJ R I with z|z
  .let#[i,i1,i2,e1]:=lq J;let#[j,j1,j2,j3,e2]:=lQ z;change Mq p.1<=Mq q.1;rw[e1,e2];show h i j i1 i2 j1 j2
  .show m.ab p J q z
 .rcases lJ R I with z|z
  .show Y p J q z
  .show m.bb p ?_ q z;rw[O];show LC _ J
theorem MH.gL {a b out:Array vu}{G I:Nat}(m:MH a b out G I) (L:Up a) (N:1<=G) {p:vu}(J:a[G-1]?=some p) (h:∀i,i<I->i<b.size->K b i<=K a (G-1)):MH a b (out.push p) (G-1) I:=by
 have O:=m.la;have hi:G-1<a.size:=ae;have ep:a[G-1]=p:=(by rw[getElem?_pos a _ hi]at J;show rk J);show m.tN L ae ?_ λi j h1 h2 S R=>?_
 .have:=xq hi;rw[show G-1+1=G by omega]at this;rw[this,Oz,Ny,ep];rfl
 .rw[show j=G-1 by omega];show h i h1 h2
theorem MH.kY {a b out:Array vu}{I G:Nat}(m:MH a b out I G) (L:Up b) (N:1<=G) {p:vu}(J:b[G-1]?=some p) (h:∀i,i<I->i<a.size->K a i<=K b (G-1)):MH a b (out.push p) I (G-1):=by
 have R:=m.lb;have hi:G-1<b.size:=ae;have ep:b[G-1]=p:=(by rw[getElem?_pos b _ hi]at J;show rk J);show m.tY L ae ?_ λi j h1 h2 S O=>?_
 .have:=xq hi;rw[show G-1+1=G by omega]at this;rw[this,Oz,Ny,ep];rfl
 .rw[show j=G-1 by omega];show h i h1 h2
theorem MH.E9 {a b out:Array vu}{G I k:Nat}(m:MH a b out G I) (J:Up a) (L:k<=G) (h:∀i j,i<I->i<b.size->k<=j->j<G->K b i<=K a j):MH a b (out++(a.extract k G).reverse) k I :=
 m.tN J L (by rw[LA,Ny,Oc,Px,gB]) h
theorem MH.zt {a b out:Array vu}{I G k:Nat}(m:MH a b out I G) (J:Up b) (L:k<=G) (h:∀i j,i<I->i<a.size->k<=j->j<G->K a i<=K b j):MH a b (out++(b.extract k G).reverse) I k :=
 m.tY J L (by rw[LA,Ny,Oc,Px,gB]) h
theorem MH.done {a b out:Array vu}{I G:Nat}(m:MH a b out I G) (N:Up a) (O:Up b) (h:I=0\/G=0):Good a b (a.extract 0 I++b.extract 0 G++out.reverse):=by
 have e:(a.extract 0 I++b.extract 0 G++out.reverse).toList=a.toList.take I++b.toList.take G++out.toList.reverse:=by
  rw[LA,LA,lO,lO,Oc]
 show#[by rw[e];show m.pm,?_];rw[e];rcases h with h|h
 .rw[h,PJ,QR,KR];show#[O.up.sublist (MU _ _),m.up,λp L q J=>m.bb p L q (Lx.mp J)]
 .rw[h,PJ,P1,KR];show#[N.up.sublist (MU _ _),m.up,λp L q J=>m.ab p L q (Lx.mp J)]
theorem MH.first {a b out:Array vu}{J G:Nat}(m:MH a b out J G) (N:Up a) (O:Up b) (hn:G=1) (h:∀j,j<a.size->K b 0<=K a j):Good a b (b.extract 0 G++a.extract 0 J++out.reverse):=by
 have e:(b.extract 0 G++a.extract 0 J++out.reverse).toList=b.toList.take G++a.toList.take J++out.toList.reverse:=by
  rw[LA,LA,lO,lO,Oc]
 show#[3]
 .rw[e];show(Mu _ MW).trans m.pm
 .rw[e,KR,KR];show#[#[O.up.sublist (MU _ _),N.up.sublist (MU _ _),λp L q I=>?_],m.up,λp L q I=>?_]
  .let#[i,Y,i2,R]:=lq L;let#[j,j1,S,U]:=lq I;change Mq p.1<=Mq q.1;rw[R,U,show i=0 by omega];show h j S
  .rcases oR.mp L with z|z
   .show m.bb p z q (Lx.mp I)
   .show m.ab p z q (Lx.mp I)
noncomputable def Am:Array vu->Array vu->StateT K6 Qg (Array vu):=sortPriv% PySem.Builtin.mergeHi
section
variable {prog:rr}{w:Bd}{A:KL}{E:Value->mu->Prop}{s:mu}{a₀:Array vu}
theorem uz {st:K6}{a b:Array vu}{Q:Array vu->K6->Prop}(hk:kindOf st=Nb) (L:Up a) (N:Up b) (J:1<=a.size) (G:1<=b.size) (h0:K b 0<K a 0) (hl:∀j,j<b.size->K b j<K a (a.size-1))
  (h:∀R ab,Good a b R->ud st ab->Q R ab):R0 (model prog w) A E s (Am a b) Q st:=by
 show pa (OJ (MN #[5]));have sa:=L.Iz;have sb:=N.Iz;have aB:∀j,j<a.size->K b 0<=K a j:=λj hj=>by
  have:=sa 0 j (KH _) (KH _) hj;omega
 let#[t0,q0,e0]:=L.at (i:=a.size-1) ae;show pa (bw e0 ?_);have M0:MH a b ([(Value.int (K a (a.size-1)) t0,q0)].toArray) (a.size-1) b.size:=by
  have M:MH a b ([].toArray) a.size b.size:=#[qj _,qj _,(by rw[Lp (l:=a.toList) (by simp),Lp (l:=b.toList) (by simp)];simp),Oy,(λp _ q hq=>by cases hq),(λp _ q hq=>by cases hq)];show M.gL L J e0 λi h1 h2=>La (hl i h2)
 show aR (λg=>pf (h _ _ (M0.done L N (.inl (by simpa using g))) #[1,1])) (λg=>?_);have g1:¬ a.size-1=0:=(by simpa using g);show aR (λg=>pf (h _ _ (M0.first L N (by simpa using g) aB) #[1,1])) (λg=>?_);have g2:¬ b.size=1:=(by simpa using g);show pa (Nw ?_);show pa (LR (K9 (I:=λx c ab=>Iu λJ G out mg=>yP (c=(none,J,G,out,mg)) (MH a b out J G) (1<=J) (2<=G) (x+1<=out.size) (ud st ab)) (Q:=λc ab=>∃R,sf (Good a b R) (c.1=some R) (ud st ab)) ?_ ?_ ?_) ?_)
 .rintro x c a0 bx bF ⟨J,G,out,mg,rfl,M,la,lb,lo,K1⟩;show pa (LR (K9 (I:=λy c ab=>BE λJ G O ac bc=>yP (c=(none,J,G,O,ac,bc)) (MH a b O J G) (1<=J) (2<=G) (out.size+y<=O.size) (ud st ab))
   (Q:=λc ab=>ud st ab/\((∃R,Good a b R/\c.1=some R)\/(BE λJ G O ac bc=>Fc (c=(none,J,G,O,ac,bc)) (MH a b O J G) (1<=J) (2<=G) (out.size+1<=O.size)))) ?_ ?_ ?_) ?_)
  .rintro y c a5 bm bl ⟨J,G,O,ac,bc,rfl,M,la,lb,ba,K2⟩;have bn:kindOf a5=Nb:=K2.kind.trans hk;have lA:=M.la;have lB:=M.lb;let#[tb,qb,eb]:=N.at (i:=G-1) ae;let#[ta,qa,ea]:=L.at (i:=J-1) ae;show pa (bw eb (pa (bw ea (pa (rq bn rfl rfl ?_)))));by_cases c:K b (G-1)<K a (J-1)
   .rw[decide_eq_true c];show pa (bw ea ?_);have M2:=M.gL L ae ea λi h1 h2=>La (P7 (sb i (G-1) (KH _) ae ae) c);show aR (λg=>pf #[K2,.inl #[_,M2.done L N (.inl (by simpa using g)),rfl]]) (λg=>?_);have g':¬ J-1=0:=(by simpa using g);have sz:(O.push (Value.int (K a (J-1)) ta,qa)).size=O.size+1:=OL ..;show aR (λg=>pf #[K2,.inr #[J-1,G,O.push (Value.int (K a (J-1)) ta,qa),_,0,M2,ae,lb,ae]]) (λg=>pf #[J-1,G,O.push (Value.int (K a (J-1)) ta,qa),_,0,M2,ae,lb,ae,K2])
   .rw[decide_eq_false c];show pa (bw eb ?_);have M2:=M.kY N ae eb λi h1 h2=>Ma (sa i (J-1) (KH _) ae ae) (Int.not_lt.mp c);show aR (λg=>pf #[K2,.inl #[_,M2.first L N (by simpa using g) aB,rfl]]) (λg=>?_);have g':¬ G-1=1:=(by simpa using g);have sz:(O.push (Value.int (K b (G-1)) tb,qb)).size=O.size+1:=OL ..;show aR (λg=>pf #[K2,.inr #[J,G-1,O.push (Value.int (K b (G-1)) tb,qb),_,0,M2,la,ae,ae]]) (λg=>pf #[J,G-1,O.push (Value.int (K b (G-1)) tb,qb),_,0,M2,la,ae,ae,K2])
  .rintro c a5 ⟨J,G,O,ac,bc,rfl,M,la,lb,ba,K2⟩;show#[K2,.inr #[J,G,O,_,0,M,la,lb,ae]]
  .show#[J,G,out,_,0,M,la,lb,ae,K1]
  .rintro c a5 ⟨K2,⟨R,hR,e⟩|⟨J,G,O,ac,bc,rfl,M,la,lb,ba⟩⟩
   .let#[c1,c2]:=c;cases e;show pf #[R,hR,rfl,K2]
   .show pa (OJ (MN #[5]));show pa (LR (K9 (I:=λy c ab=>HW λJ G am mg ac bc=>yP (c=(none,J,G,am,mg,ac,bc)) (MH a b am J G) (1<=J) (2<=G) (O.size<=am.size) (ud st ab))
     (Q:=λc ab=>ud st ab/\((∃R,Good a b R/\c.1=some R)\/(HW λJ G am mg ac bc=>Fc (c=(none,J,G,am,mg,ac,bc)) (MH a b am J G) (1<=J) (2<=G) (O.size<=am.size)))) ?_ ?_ ?_) ?_)
    .rintro y c a6 bm bl ⟨J,G,am,a7,ac,bc,rfl,M,la,lb,ap,K3⟩;show aR (λg=>?_) (λg=>?_)
     all_goals
      show pa (wX K3 λbb S=>?_);have a4:kindOf bb=Nb:=S.kind.trans hk;have lA:=M.la;have lB:=M.lb;let#[tb,qb,eb]:=N.at (i:=G-1) ae;show pa (bw eb (pa (dG (base:=0) (n:=J) (hint:=J-1) a4 rfl (λi hi=>L.at ae) (sa.sub (KH _) ae) ae λr hr r1 r2=>?_)));let#[R1,R2]:=Ai r1 r2;simp only[Ro]at R1 R2;have M1:=M.E9 L (k:=r) ae λi j h1 h2 h3 h4=>La (P7 (sb i (G-1) (KH _) ae ae) (R2 j h3 h4));show aR (λg2=>?_) (λg2=>?_)
      .show aR (λg3=>pf #[S,.inl #[_,M1.done L N (.inl (by simpa using g3)),rfl]]) (λg3=>?_);have bz:¬ r=0:=(by simpa using g3);have M2:=M1.kY N ae eb λi h1 h2=>R1 i ae;show pa (bw eb ?_);show aR (λg5=>pf #[S,.inl #[_,M2.first L N (by simpa using g5) aB,rfl]]) (λg5=>?_);have be:¬ G-1=1:=(by simpa using g5);let#[ta,qa,ea]:=L.at (i:=r-1) ae;show pa (bw ea (pa (dG (base:=0) (n:=G-1) (hint:=G-1-1) a4 rfl (λi hi=>N.at ae) (sb.sub (KH _) ae) ae λU bv a3 a2=>?_)));let#[T1,T2]:=tf a3 a2;simp only[Ro]at T1 T2;have M3:=M2.zt N (k:=U) ae λi j h1 h2 h3 h4=>Ma (sa i (r-1) (KH _) ae ae) (T2 j h3 h4);show aR (λg6=>?_) (λg6=>?_)
       .show aR (λg7=>pf #[S,.inl #[_,M3.first L N (by simpa using g7) aB,rfl]]) (λg7=>?_);have bq:¬ U=1:=(by simpa using g7);show aR (λas=>pf #[S,.inl #[_,M3.done L N (.inr (by simpa using as)),rfl]]) (λas=>?_);have bi:¬ U=0:=(by simpa using as);show pa (bw ea ?_);have M4:=M3.gL L ae ea λi h1 h2=>La (T1 i ae);show aR (λY=>pf #[S,.inl #[_,M4.done L N (.inl (by simpa using Y)),rfl]]) (λY=>?_);have a1:¬ r-1=0:=(by simpa using Y);show aR (λg9=>pf #[S,.inr #[r-1,U,2,_,0,M4,ae,ae,KI ap (M.grow M4 ae ae)]]) (λg9=>pf #[r-1,U,2,_,0,M4,ae,ae,KI ap (M.grow M4 ae ae),S])
       .have bd:¬ G-1-U>0:=g6;have aT:U=G-1:=ae;subst aT;show pa (bw ea ?_);have M4:=M2.gL L ae ea λi h1 h2=>La (T1 i ae);show aR (λY=>pf #[S,.inl #[_,M4.done L N (.inl (by simpa using Y)),rfl]]) (λY=>?_);have a1:¬ r-1=0:=(by simpa using Y);show aR (λg9=>pf #[S,.inr #[r-1,G-1,2,_,0,M4,ae,ae,KI ap (M.grow M4 ae ae)]]) (λg9=>pf #[r-1,G-1,2,_,0,M4,ae,ae,KI ap (M.grow M4 ae ae),S])
      .have bE:¬ J-r>0:=g2;have r0:r=J:=ae;subst r0;have M2:=M.kY N ae eb λi h1 h2=>R1 i ae;show pa (bw eb ?_);show aR (λg5=>pf #[S,.inl #[_,M2.first L N (by simpa using g5) aB,rfl]]) (λg5=>?_);have be:¬ G-1=1:=(by simpa using g5);let#[ta,qa,ea]:=L.at (i:=r-1) ae;show pa (bw ea (pa (dG (base:=0) (n:=G-1) (hint:=G-1-1) a4 rfl (λi hi=>N.at ae) (sb.sub (KH _) ae) ae λU bv a3 a2=>?_)));let#[T1,T2]:=tf a3 a2;simp only[Ro]at T1 T2;have M3:=M2.zt N (k:=U) ae λi j h1 h2 h3 h4=>Ma (sa i (r-1) (KH _) ae ae) (T2 j h3 h4);show aR (λg6=>?_) (λg6=>?_)
       .show aR (λg7=>pf #[S,.inl #[_,M3.first L N (by simpa using g7) aB,rfl]]) (λg7=>?_);have bq:¬ U=1:=(by simpa using g7);show aR (λas=>pf #[S,.inl #[_,M3.done L N (.inr (by simpa using as)),rfl]]) (λas=>?_);have bi:¬ U=0:=(by simpa using as);show pa (bw ea ?_);have M4:=M3.gL L ae ea λi h1 h2=>La (T1 i ae);show aR (λY=>pf #[S,.inl #[_,M4.done L N (.inl (by simpa using Y)),rfl]]) (λY=>?_);have a1:¬ r-1=0:=(by simpa using Y);show aR (λg9=>pf #[S,.inr #[r-1,U,2,_,0,M4,ae,ae,KI ap (M.grow M4 ae ae)]]) (λg9=>pf #[r-1,U,2,_,0,M4,ae,ae,KI ap (M.grow M4 ae ae),S])
       .have bd:¬ G-1-U>0:=g6;have aT:U=G-1:=ae;subst aT;show pa (bw ea ?_);have M4:=M2.gL L ae ea λi h1 h2=>La (T1 i ae);show aR (λY=>pf #[S,.inl #[_,M4.done L N (.inl (by simpa using Y)),rfl]]) (λY=>?_);have a1:¬ r-1=0:=(by simpa using Y);show aR (λg9=>pf #[S,.inr #[r-1,G-1,2,_,0,M4,ae,ae,KI ap (M.grow M4 ae ae)]]) (λg9=>pf #[r-1,G-1,2,_,0,M4,ae,ae,KI ap (M.grow M4 ae ae),S])
    .rintro c a6 ⟨J,G,am,a7,ac,bc,rfl,M,la,lb,ap,K3⟩;show#[K3,.inr #[J,G,am,2,0,M,la,lb,ap]]
    .show#[J,G,O,2,0,M,la,lb,qj _,K2]
    .rintro c a6 ⟨K3,⟨R,hR,e⟩|⟨J,G,am,a7,ac,bc,rfl,M,la,lb,ap⟩⟩
     .let#[c1,c2]:=c;cases e;show pf #[R,hR,rfl,K3]
     .show pa (wX K3 λbb S=>?_);show pf #[J,G,am,0,M,la,lb,ae,S]
 .rintro c a0 ⟨J,G,out,mg,rfl,M,la,lb,lo,K1⟩;exfalso;have:=M.sz;omega
 .show#[2,_,0,M0,ae,ae,qj _,#[1,1]]
 .rintro c a0 ⟨R,hR,e,K1⟩;let#[c1,c2]:=c;cases e;show pf (h R a0 hR K1)
end
noncomputable def putAll (a:Array vu) (o n:Nat) (l:List vu):Array vu:=(l.zipIdx n).foldl (λa (p,j)=>a.setIfInBounds (o+j) p) a
theorem jc (o:Nat):∀(l:List vu) (n:Nat) (a:Array vu),o+n+l.length<=a.size->∀i,(putAll a o n l)[i]?=if o+n<=i/\i<o+n+l.length then l[i-(o+n)]? else a[i]?
 | [],n,a,_,i=>by
  rw[Su (by rw[Qa];omega)];rfl
 |p::l,n,a,h,i=>by
  rw[DO]at h;change(putAll (a.setIfInBounds (o+n) p) o (n+1) l)[i]?=_;rw[jc o l (n+1) _ (by rw[Array.size_setIfInBounds];omega),DO,Array.getElem?_setIfInBounds];by_cases c:o+(n+1)<=i/\i<o+(n+1)+l.length
  .rw[Sv c,Sv ae,show i-(o+n)=(i-(o+(n+1)))+1 by omega];simp
  .rw[Su c];by_cases d:o+n=i
   .rw[Sv d,Sv ae,Sv ae, <-d];simp
   .rw[Su d,Su ae]
theorem tJ {a:Array vu}{o:Nat}{l:List vu}(h:o+l.length<=a.size):(putAll a o 0 l).toList=a.toList.take o++l++a.toList.drop (o+l.length):=by
 apply Mv;intro i;have e:=jc o l 0 a ae i;rw[LL,e,KU];by_cases G:i<o
 .rw[Su ae,Lq (by rw[DD];simp;omega),NP];simp[G]
 .rw[Ln (by rw[DD];omega)];have I:(a.toList.take o).length=o:=(by rw[DD];simp;omega);rw[I];by_cases J:i<o+l.length
  .rw[Sv ae,Lq ae];rfl
  .rw[Su ae,Ln ae,OB,LL];congr 1;omega
theorem sD {a:Array vu}{lo hi i:Nat}(h:i<hi-lo) (hs:hi<=a.size):K (a.extract lo hi) i=K a (lo+i):=by
 show QY ?_;rw[Array.getElem?_extract];rw[Sv ae]
theorem lY {a:Array vu}{lo hi:Nat}(hs:hi<=a.size):(a.extract lo hi).size=hi-lo:=by
 rw[Array.size_extract];omega
theorem z9 {a₀ a:Array vu}(R:a.Perm a₀) (k:Ks a₀) {lo hi:Nat}(hs:hi<=a.size) (h:kG a lo hi):Up (a.extract lo hi):=by
 show#[λp I=>k.ik p ((Mf.mp R).mem_iff.mp ?_),LN.mpr λi j N S U=>?_]
 .rw[gB]at I;show NT (NW I)
 .have sz:=lY (a:=a) (lo:=lo) hs;have L:i<(a.extract lo hi).size:=(by rw[<-Lr];show N);have O:j<(a.extract lo hi).size:=(by rw[<-Lr];show S);have G:=K_eq L;have J:=K_eq O;rw[sD ae hs]at G J;have z:=h (lo+i) (lo+j) ae ae ae;rw[G,J]at z;simpa[le]using z
theorem parts {a:Array vu}{lo mid hi:Nat}(h1:lo<=mid) (h2:mid<=hi):a.toList=a.toList.take lo++(seg a lo mid++seg a mid hi)++a.toList.drop hi:=by
 have G:=iD (a:=a) h1;have I:=iD (a:=a) h2;rw[<-KU, <-G, <-I,LV]
theorem xc {a R:Array vu}{lo mid hi:Nat}(h1:lo<=mid) (h2:mid<=hi) (h3:hi<=a.size) (G:Good (a.extract lo mid) (a.extract mid hi) R) :
  R.size=hi-lo/\(putAll a lo 0 R.toList).Perm a/\(∀i,¬ (lo<=i/\i<hi)->(putAll a lo 0 R.toList)[i]?=a[i]?)/\kG (putAll a lo 0 R.toList) lo hi/\∀i,lo<=i->i<hi->∃j,lo<=j/\j<hi/\K (putAll a lo 0 R.toList) i=K a j:=by
 let#[J,g2]:=G;have sz:R.size=hi-lo:=by
  have:=J.length_eq;simp only[vl,Lr]at this;rw[lY ae,lY h3]at this;omega
 have hl:R.toList.length=hi-lo:=(by rw[Lr];show sz);have get:=jc lo R.toList 0 a ae;have L:∀i,lo<=i->i<hi->∃(h:i-lo<R.size),K (putAll a lo 0 R.toList) i=Mq (R[i-lo]).1:=λi S O=>by
  have N:i-lo<R.size:=ae;show#[N,?_];have e:=get i;rw[Sv ae]at e;unfold K;rw[e,LL,Nat.add_zero,getElem?_pos R (i-lo) N]
 show#[sz,?_,λi hi=>?_,λi j hi ab hj=>?_,λi S O=>?_]
 .rw[Mf,tJ ae]
  conv=>rhs;rw[parts (a:=a) h1 h2]
  rw[hl,show lo+(hi-lo)=hi by omega];show Mu _ (MF _ ?_);rw[<-gB, <-gB];show J
 .rw[get i,Su ae]
 .let#[Y,I]:=L i hi ae;let#[a2,e2]:=L j ae hj;rw[I,e2];by_cases z:i=j
  .subst z;show Ll _
  .have:=LN.mp g2 (i-lo) (j-lo) (by simpa using Y) (by simpa using a2) ae;simpa[le]using this
 .let#[Y,I]:=L i S O;have hm:R[i-lo]∈(a.extract lo mid).toList++(a.extract mid hi).toList:=J.mem_iff.mp (by simp);rw[I];rcases oR.mp hm with z|z
  .rw[gB]at z;let#[j,j1,U,j3,e]:=lQ z;show#[j,j1,ae,e]
  .rw[gB]at z;let#[j,j1,U,j3,e]:=lQ z;show#[j,ae,U,e]
structure Ft (a₀:Array vu) (st st':K6) (i lo n:Nat) (pw:Nat):Prop where
 S:SI a₀ st'
 out:∀j,¬ (lo<=j/\j<lo+n)->(vr st')[j]?=(vr st)[j]?
 up:kG (vr st') lo (lo+n)
 pend:HC st'=((HC st).setIfInBounds i (lo,n,pw)).eraseIdxIfInBounds (i+1)
section
variable {prog:rr}{w:Bd}{A:KL}{E:Value->mu->Prop}{s:mu}{a₀:Array vu}
theorem DT {st x:K6}{Q:PUnit->K6->Prop}(h:Q #[] x):R0 (model prog w) A E s (set x:StateT K6 Qg PUnit) Q st:=by
 unfold R0;rw[StateT.run_set];show p4 #[rfl,h]
theorem zR {st:K6}{i I J pw nb ap:Nat}{Q:Bool->K6->Prop}(S:SI a₀ st) (k:Ks a₀) (h1:(HC st)[i]?=some (I,J,pw)) (h2:(HC st)[i+1]?=some (I+J,nb,ap)) (n1:1<=J) (n2:1<=nb) (hsz:I+J+nb<=a₀.size)
  (u1:kG (vr st) I (I+J)) (u2:kG (vr st) (I+J) (I+J+nb)) (h:∀ac,Ft a₀ st ac i I (J+nb) pw->Q true ac):R0 (model prog w) A E s (mergeAt' i) Q st:=by
 show pa (Nw ?_);have hs:=S.size;have ka:∀{j:Nat},j<(vr st).size->∃t q,(vr st)[j]?=some (.int (K (vr st) j) t,q):=λY=>wu S.perm k Y;rw[h1,h2];show pa (DT ?_);let#[tb,qb,eb]:=ka (j:=I+J) ae;show pa (bw eb (pa (dG (base:=I) (n:=J) (hint:=0) S.kind rfl (λi hi=>ka ae) u1 ae λr hr r1 r2=>?_)));let#[R1,R2]:=Ai r1 r2;show aR (λg=>?_) (λg=>?_)
 .have g':J-r=0:=(by simpa using g);show pf (h _ #[#[S.perm,S.kind,S.failed],λ_ _=>rfl,λi j hi N Y=>?_,rfl]);change K (vr st) i<=K (vr st) j;by_cases c1:j<I+J
  .show u1 i j hi N c1
  .by_cases O:i<I+J
   .have U:=R1 (i-I) ae;rw[show I+(i-I)=i by omega]at U;show Ma U (u2 (I+J) j (qj _) ae ae)
   .show u2 i j ae N ae
 have g':¬ J-r=0:=(by simpa using g);let#[ta,qa,ea]:=ka (j:=I+r+(J-r)-1) ae;show pa (bw ea (pa (dG (base:=I+J) (n:=nb) (hint:=nb-1) S.kind rfl (λi hi=>ka ae) u2 ae λL aT as am=>?_)));let#[T1,T2]:=tf as am;show aR (λg=>?_) (λg=>?_)
 .have aB:L=0:=(by simpa using g);show pf (h _ #[#[S.perm,S.kind,S.failed],λ_ _=>rfl,λi j hi N Y=>?_,rfl]);change K (vr st) i<=K (vr st) j;by_cases c1:j<I+J
  .show u1 i j hi N c1
  .by_cases O:i<I+J
   .show Ma (u1 i (I+r+(J-r)-1) hi ae ae) (T2 j ae ae)
   .show u2 i j ae N ae
 have g2:¬ L=0:=(by simpa using g);have ux:Up ((vr st).extract (I+r) (I+J)):=z9 S.perm k ae λi j hi N Y=>u1 i j ae N Y;have uy:Up ((vr st).extract (I+J) (I+J+L)):=z9 S.perm k ae λi j hi N Y=>u2 i j hi N ae;have sx:((vr st).extract (I+r) (I+J)).size=J-r:=(by rw[lY ae];omega);have sy:((vr st).extract (I+J) (I+J+L)).size=L:=(by rw[lY ae];omega);have x0:K ((vr st).extract (I+J) (I+J+L)) 0<K ((vr st).extract (I+r) (I+J)) 0:=by
  rw[sD ae ae,sD ae ae];show R2 (I+r) (qj _) ae
 have xl:∀j,j<((vr st).extract (I+J) (I+J+L)).size->K ((vr st).extract (I+J) (I+J+L)) j<K ((vr st).extract (I+r) (I+J)) (((vr st).extract (I+r) (I+J)).size-1):=λj Y=>by
  rw[sD ae ae,sD ae ae,sx,show I+r+(J-r-1)=I+r+(J-r)-1 by omega];show T1 j ae
 show aR (λg=>?_) (λg=>?_)
 .show pa (uG S.kind ux uy (by rw[sx];omega) (by rw[sy];omega) x0 xl λR Sg G KC=>?_);let#[z1,z2,z3,z4,z5]:=xc (a:=vr st) (lo:=I+r) (mid:=I+J) (hi:=I+J+L) ae ae ae G;show pa (Mt (pa (Nw (pf ?_))));have hf:Nc Sg=none:=KC.failed.trans S.failed;have hc:vr Sg=vr st:=KC.arr;change Q (Nc Sg).isNone (Qb (kindOf Sg) (putAll (vr Sg) (I+r) 0 R.toList) (HC Sg) (gallopOf Sg) (Nc Sg));rw[hf,hc];show h _ #[#[z2.trans S.perm,KC.kind.trans S.kind,rfl],λj Y=>z3 j ae,λi j hi N Y=>?_,KC.pend];change K (putAll (vr st) (I+r) 0 R.toList) i<=K (putAll (vr st) (I+r) 0 R.toList) j;have out:∀i,¬ (I+r<=i/\i<I+J+L)->K (putAll (vr st) (I+r) 0 R.toList) i=K (vr st) i:=λi hi=>QY (z3 i hi);by_cases c1:i<I+r
  .rw[out i ae];have ab:∀j,I+r<=j->j<I+J+nb->K (vr st) i<=K (vr st) j:=λj h1 h2=>by
    by_cases c:j<I+J
    .show u1 i j hi ae c
    .have U:=R1 (i-I) ae;rw[show I+(i-I)=i by omega]at U;show Ma U (u2 (I+J) j (qj _) ae h2)
   by_cases O:I+r<=j/\j<I+J+L
   .let#[j',q1,q2,e]:=z5 j O.1 O.2;rw[e];show ab j' q1 ae
   .rw[out j O];by_cases c3:j<I+r
    .show u1 i j hi N ae
    .show ab j ae ae
  .by_cases O:i<I+J+L
   .by_cases c3:j<I+J+L
    .show z4 i j ae N c3
    .rw[out j ae];let#[i',q1,q2,e]:=z5 i ae O;rw[e];by_cases c4:i'<I+J
     .have U:=T2 j ae ae;show Ma (u1 i' (I+r+(J-r)-1) ae ae ae) U
     .show u2 i' j ae ae ae
   .rw[out i ae,out j ae];show u2 i j ae N ae
 .show pa (uz S.kind ux uy (by rw[sx];omega) (by rw[sy];omega) x0 xl λR Sg G KC=>?_);let#[z1,z2,z3,z4,z5]:=xc (a:=vr st) (lo:=I+r) (mid:=I+J) (hi:=I+J+L) ae ae ae G;show pa (Mt (pa (Nw (pf ?_))));have hf:Nc Sg=none:=KC.failed.trans S.failed;have hc:vr Sg=vr st:=KC.arr;change Q (Nc Sg).isNone (Qb (kindOf Sg) (putAll (vr Sg) (I+r) 0 R.toList) (HC Sg) (gallopOf Sg) (Nc Sg));rw[hf,hc];show h _ #[#[z2.trans S.perm,KC.kind.trans S.kind,rfl],λj Y=>z3 j ae,λi j hi N Y=>?_,KC.pend];change K (putAll (vr st) (I+r) 0 R.toList) i<=K (putAll (vr st) (I+r) 0 R.toList) j;have out:∀i,¬ (I+r<=i/\i<I+J+L)->K (putAll (vr st) (I+r) 0 R.toList) i=K (vr st) i:=λi hi=>QY (z3 i hi);by_cases c1:i<I+r
  .rw[out i ae];have ab:∀j,I+r<=j->j<I+J+nb->K (vr st) i<=K (vr st) j:=λj h1 h2=>by
    by_cases c:j<I+J
    .show u1 i j hi ae c
    .have U:=R1 (i-I) ae;rw[show I+(i-I)=i by omega]at U;show Ma U (u2 (I+J) j (qj _) ae h2)
   by_cases O:I+r<=j/\j<I+J+L
   .let#[j',q1,q2,e]:=z5 j O.1 O.2;rw[e];show ab j' q1 ae
   .rw[out j O];by_cases c3:j<I+r
    .show u1 i j hi N ae
    .show ab j ae ae
  .by_cases O:i<I+J+L
   .by_cases c3:j<I+J+L
    .show z4 i j ae N c3
    .rw[out j ae];let#[i',q1,q2,e]:=z5 i ae O;rw[e];by_cases c4:i'<I+J
     .have U:=T2 j ae ae;show Ma (u1 i' (I+r+(J-r)-1) ae ae ae) U
     .show u2 i' j ae ae ae
   .rw[out i ae,out j ae];show u2 i j ae N ae
end
noncomputable def Chain (xs:Array vu):Nat->List (Nat×Nat×Nat)->Nat->Prop
 |s,[],e=>s=e
 |s,(t,n,_)::r,e=>t=s/\1<=n/\kG xs s (s+n)/\Chain xs (s+n) r e
theorem Chain.le {xs:Array vu}:∀{s:Nat}{l:List (Nat×Nat×Nat)}{e:Nat},Chain xs s l e->s+l.length<=e
 |s,[],e,h=>Qm h
 |s,(t,n,p)::r,e,⟨_,h2,_,G⟩=>by
  have:=Chain.le G;rw[DO];omega
theorem Chain.app {xs:Array vu}:∀{s:Nat}{l G:List (Nat×Nat×Nat)}{e:Nat},Chain xs s (l++G) e↔∃m,Chain xs s l m/\Chain xs m G e
 |s,[],G,e=>#[λh=>#[s,rfl,h],λ⟨m,h1,h2⟩=>by rw[show s=m from h1];show h2]
 |s,(t,n,p)::r,G,e=>by
  constructor
  .rintro⟨h1,h2,J,N⟩;let#[m,L,I]:=Chain.app.mp N;show#[m,#[h1,h2,J,L],I]
  .rintro⟨m,⟨h1,h2,J,L⟩,I⟩;show#[h1,h2,J,Chain.app.mpr #[m,L,I]]
theorem kG.congr {xs ys:Array vu}{lo hi:Nat}(h:kG xs lo hi) (e:∀i,lo<=i->i<hi->ys[i]?=xs[i]?):kG ys lo hi:=λi j hi I G=>by
 rw[QY (e i hi ae),QY (e j ae G)];show h i j hi I G
theorem Chain.congr {xs ys:Array vu}:∀{s:Nat}{l:List (Nat×Nat×Nat)}{e:Nat},Chain xs s l e->(∀i,s<=i->i<e->ys[i]?=xs[i]?)->Chain ys s l e
 |s,[],e,h,_=>h
 |s,(t,n,p)::r,e,⟨h1,h2,I,G⟩,q=>by
  have:=Chain.le G;show#[h1,h2,I.congr λi a b=>q i a ae,G.congr λi a b=>q i ae b]
structure RI (a₀:Array vu) (st:K6) (lo:Nat):Prop where
 S:SI a₀ st
 ch:Chain (vr st) 0 (HC st).toList lo
 le:lo<=a₀.size
theorem EU {α:Type}{l:List α}{i:Nat}(h:i+1<l.length):∃G x y I,l=G++x::y::I/\G.length=i:=by
 show#[l.take i,l[i],l[i+1],l.drop (i+2),3]
 .rw[<-Ml ae, <-Ml ae,LV]
 .rw[DD];omega
theorem pX {p:Array (Nat×Nat×Nat)}{G I:List (Nat×Nat×Nat)}{x y z:Nat×Nat×Nat}{i:Nat}(h:p.toList=G++x::y::I) (hi:G.length=i):((p.setIfInBounds i z).eraseIdxIfInBounds (i+1)).toList=G++z::I:=by
 let#[l]:=p;subst h;subst hi;simp;rw[List.eraseIdx_append_of_length_le ae];simp
theorem Cq {c:Bool}{n:Nat}(h:¬ n<=1):(if c=true then n-2-1 else n-2)+1<n:=by
 cases c
 .rw[Su av];omega
 .rw[Sv rfl];omega
theorem wg {α G:Type}{l:List α}{i:Nat}{f:α->α}{g:α->G}(h:∀x,g (f x)=g x):(l.modify i f).map g=l.map g:=by
 apply Mv;intro j;rw[rz,rz,List.getElem?_modify];cases l[j]? with
 |none=>rfl
 |some x =>
  by_cases c:i=j
  .simp[c,h]
  .simp[c]
theorem Chain.same {xs:Array vu}:∀{s:Nat}{l G:List (Nat×Nat×Nat)}{e:Nat},Chain xs s l e->G.map (λx=>(x.1,x.2.1))=l.map (λx=>(x.1,x.2.1))->Chain xs s G e
 |s,[],G,e,h,q=>by
  cases G with
  |nil=>show h
  |cons x r=>cases q
 |s,(t,n,p)::r,G,e,⟨h1,h2,O,L⟩,q=>by
  cases G with
  |nil=>cases q
  |cons x S =>
   let#[t',n',U]:=x;rw[LQ,LQ]at q;let#[R,N]:=List.cons.inj q;let#[J,I]:=OA R;have J:t'=t:=J;have I:n'=n:=I;subst J;subst I;show#[h1,h2,O,L.same N]
theorem RI.push {a₀:Array vu}{st:K6}{lo n p:Nat}(R:RI a₀ st lo) (I:1<=n) (G:lo+n<=a₀.size) (u:kG (vr st) lo (lo+n)):RI a₀ (setPending st ((HC st).push (lo,n,p))) (lo+n):=by
 show#[#[R.S.perm,R.S.kind,R.S.failed],?_,G];change Chain (vr st) 0 ((HC st).push (lo,n,p)).toList (lo+n);rw[Oz];show Chain.app.mpr #[lo,R.ch,rfl,I,u,rfl]
theorem RI.last {a₀:Array vu}{st:K6}{lo:Nat}(R:RI a₀ st lo) {f:Nat×Nat×Nat->Nat×Nat×Nat}(G:∀x,((f x).1,(f x).2.1)=(x.1,x.2.1)) (i:Nat):RI a₀ (setPending st ((HC st).modify i f)) lo:=by
 show#[#[R.S.perm,R.S.kind,R.S.failed],?_,R.le];change Chain (vr st) 0 ((HC st).modify i f).toList lo;show R.ch.same ?_;rw[Array.toList_modify];show wg G
section
variable {prog:rr}{w:Bd}{A:KL}{E:Value->mu->Prop}{s:mu}{a₀:Array vu}
theorem jd {st:K6}{lo i:Nat}{Q:Bool->K6->Prop}(R:RI a₀ st lo) (k:Ks a₀) (hi:i+1<(HC st).size)
  (h:∀I,RI a₀ I lo->(∀j,lo<=j->(vr I)[j]?=(vr st)[j]?)->(HC I).size+1=(HC st).size->Q true I):R0 (model prog w) A E s (mergeAt' i) Q st:=by
 let#[U,x,y,l2,e,N]:=EU (l:=(HC st).toList) (i:=i) (by simpa using hi);let#[G,J,O]:=x;let#[sb,L,ab]:=y;have ch:=R.ch;rw[e]at ch;let#[m,Y,e1,n1,u1,e2,n2,u2,c2]:=Chain.app.mp ch;subst e1;subst e2;have b1:=Y.le;have b2:=c2.le;have ac:=R.le;have g1:(HC st)[i]?=some (G,J,O):=by
  rw[<-LL,e, <-N];simp
 have g2:(HC st)[i+1]?=some (G+J,L,ab):=by
  rw[<-LL,e, <-N];simp
 show zR R.S k g1 g2 n1 n2 ae u1 u2 λI M=>h I #[M.S,?_,R.le] (λj hj=>M.out j ae) ?_
 .rw[M.pend,pX e N];show Chain.app.mpr #[G,Y.congr λj _ hj=>M.out j ae,rfl,ae,M.up,?_];rw[show G+(J+L)=G+J+L by omega];show c2.congr λj hj _=>M.out j ae
 .have p1:(HC I).toList.length=(U++(G,J+L,O)::l2).length:=(by rw[M.pend,pX e N]);have p2:(HC st).toList.length=(U++(G,J,O)::(G+J,L,ab)::l2).length:=(by rw[e]);simp only[Lr,vl,DO]at p1 p2;omega
theorem yp {st:K6}{Q:Unit->K6->Prop}(k:Ks a₀) (S:SI a₀ st) (hp:HC st = ([].toArray)) (h2:2<=a₀.size) (h:∀O,(vr O).Perm a₀->Nc O=none->SortedTo (vr O) a₀.size->Q () O):R0 (model prog w) A E s sortRuns' Q st:=by
 rw[sortRuns'_eq];show pa (Nw ?_);have hsz:=S.size;have a2:(vr st).size=a₀.size:=hsz;dsimp only;rw[hsz];show pa (LR (K9 (I:=λx c O=>∃lo,sf (c=(none,lo)) (RI a₀ O lo) (x<=lo)) (Q:=λc O=>c=(none,a₀.size)/\RI a₀ O a₀.size) ?_ ?_ ?_) ?_)
 .rintro x c a4 a1 a0 ⟨lo,rfl,R,hx⟩;have ac:=R.le;show aR (λg=>?_) (λg=>?_)
  .have g':a₀.size<=lo:=g;obtain rfl:lo=a₀.size:=ae;show pf #[rfl,R]
  have g':¬ a₀.size<=lo:=g;show pa (AV R.S k (lo:=lo) (nrem:=a₀.size-lo) ae ae λm J C m1 m2 us=>?_);dsimp only;show aR (λgm=>?_) (λgm=>?_)
  .show pa (OJ (MN #[5]));generalize hf:min (a₀.size-lo) (minRun' a₀.size a₀.size 0)=n;show pa (y7 C.S k (lo:=lo) (n:=n) (ok:=m) ae m1 ae us λab C3 am=>?_);have R3:RI a₀ ab lo:=#[C3.S,by
    rw[C3.pend,C.pend];show R.ch.congr λi _ hi=>(C3.pre i hi).trans (C.pre i hi),R.le]
   show pa (Nw ?_);cases e:(HC ab).back? with
   |none=>show pa (Mt (pf #[lo+n,rfl,R3.push ae ae am,ae]))
   |some t =>
    let#[s1,Y,p1]:=t;show pa (LR (K9 (I:=λy c G=>sf (c=(none,())) (RI a₀ G lo) (∀j,lo<=j->(vr G)[j]?=(vr ab)[j]?)) (Q:=λc G=>sf (c=(none,())) (RI a₀ G lo) (∀j,lo<=j->(vr G)[j]?=(vr ab)[j]?)) ?_ ?_ ?_) ?_)
    .rintro y c G ap aT ⟨rfl,L,N⟩;show pa (Nw ?_);by_cases g:(HC G).size>1
     .rw[Sv g,getElem?_pos (HC G) ((HC G).size-2) ae];show aR (λ_=>pf #[rfl,L,N]) (λ_=>?_);show pa (jd L k ae λas R5 o5 _=>pf #[rfl,R5,λj U=>(o5 j U).trans (N j U)])
     .rw[Su g];show pf #[rfl,L,N]
    .show λc G q=>q
    .show#[rfl,R3,λ_ _=>rfl]
    .rintro c G ⟨rfl,L,N⟩;show pa (Mt (pa (Mt (pf #[lo+n,5,ae]))));show RI.push (L.last (f:=λx=>(x.fst,x.2.fst,power' a₀.size (2*s1+Y) (2*s1+Y+Y+n) a₀.size)) (λx=>rfl) _) ae ae (am.congr λi h1 _=>N i h1)
  .have R3:RI a₀ J lo:=#[C.S,by
    rw[C.pend];show R.ch.congr λi _ hi=>C.pre i hi,R.le]
   show pa (Nw ?_);cases e:(HC J).back? with
   |none=>show pa (Mt (pf #[lo+m,rfl,R3.push ae ae us,ae]))
   |some t =>
    let#[s1,Y,p1]:=t;show pa (LR (K9 (I:=λy c G=>sf (c=(none,())) (RI a₀ G lo) (∀j,lo<=j->(vr G)[j]?=(vr J)[j]?)) (Q:=λc G=>sf (c=(none,())) (RI a₀ G lo) (∀j,lo<=j->(vr G)[j]?=(vr J)[j]?)) ?_ ?_ ?_) ?_)
    .rintro y c G ap aT ⟨rfl,L,N⟩;show pa (Nw ?_);by_cases g:(HC G).size>1
     .rw[Sv g,getElem?_pos (HC G) ((HC G).size-2) ae];show aR (λ_=>pf #[rfl,L,N]) (λ_=>?_);show pa (jd L k ae λas R5 o5 _=>pf #[rfl,R5,λj U=>(o5 j U).trans (N j U)])
     .rw[Su g];show pf #[rfl,L,N]
    .show λc G q=>q
    .show#[rfl,R3,λ_ _=>rfl]
    .rintro c G ⟨rfl,L,N⟩;show pa (Mt (pa (Mt (pf #[lo+m,5,ae]))));show RI.push (L.last (f:=λx=>(x.fst,x.2.fst,power' a₀.size (2*s1+Y) (2*s1+Y+Y+m) a₀.size)) (λx=>rfl) _) ae ae (us.congr λi h1 _=>N i h1)
 .rintro c O ⟨lo,rfl,R,hx⟩;have:=R.le;obtain rfl:lo=a₀.size:=ae;show#[rfl,R]
 .show#[(0),rfl,#[S,by rw[hp];rfl,KH _],qj _]
 .rintro c O ⟨rfl,R⟩;dsimp only;show pa (LR (K9 (I:=λx c J=>sf (c=(none,())) (RI a₀ J a₀.size) ((HC J).size+x<=a₀.size)) (Q:=λc J=>sf (c=(none,())) (RI a₀ J a₀.size) ((HC J).size<=1)) ?_ ?_ ?_) ?_)
  .rintro x c J a1 a0 ⟨rfl,R2,ac⟩;show pa (Nw ?_);show aR (λg=>pf #[rfl,R2,g]) (λg=>?_);show pa (jd R2 k ?_ λab R3 _ a3=>?_)
   .show Cq g
   .show pf #[rfl,R3,ae]
  .rintro c J ⟨rfl,R2,ac⟩;show#[rfl,R2,ae]
  .show#[rfl,R,?_];have:=R.ch.le;simpa using this
  .rintro c J ⟨rfl,R2,ac⟩;show pf (h J R2.S.perm R2.S.failed ?_);have ch:=R2.ch;cases e:(HC J).toList with
   |nil =>
    rw[e]at ch;have:0=a₀.size:=ch;omega
   |cons x r =>
    have hr:r=[]:=by
     have z:(HC J).toList.length=r.length+1:=(by rw[e];rfl);rw[Lr]at z;show Lj.mp ae
    subst hr;let#[t,n,p]:=x;rw[e]at ch;let#[_,_,u,e2]:=ch;have e3:0+n=a₀.size:=e2;rw[e3]at u;show λi j aB U=>u i j (KH _) aB U
end
theorem F3 {vs:List Value}{ns:List Int}(G:MV vs ns) (I:ns.Nodup):Ks (Pa vs):=by
 show#[G.intKeys,?_];have e:((Pa vs).toList.map λp=>Mq p.1)=ns:=by
  rw[pairsOf_toList, <-G.nums]
  conv=>rhs;rw[<-QC (l₁:=vs) (l₂:=vs) (qj _)]
  rw[LO];rfl
 rw[e];show I
section
variable {prog:rr}{w:Bd}{A:KL}{E:Value->mu->Prop}{s:mu}
theorem pR {a:Addr}{vs:List Value}{ns:List Int}{n:Nat}{P:Fin->mu->Prop}(zw:s.heap.get? a=some (seqObj "list" vs.toArray n)) (R:MV vs ns) (Y:ns.Nodup) (hz:vs.length<=1000)
  (k:∀(out:Array Value) (ns':List Int),MV out.toList ns'->ns'.Perm ns->ns'.Pairwise (· <= ·)->P (.done (.ret .none)) { s with heap:=sortedHeap s.heap a vs out }):wpAny (model prog w) A (Builtin.«list.sort» #[[.ref a],[]]) P E s:=by
 have lz:sizeLine=16777216:=ub;rw[list_sort_plain];have lt:=Heap.lt_size zw;show iN (listItems_at zw rfl (iN (PQ zw rfl ?_ (by simp only[p3];omega))));obtain⟨ep,U⟩:∃ep,(s.heap.update a (Obj.mapSeq λ_ => ([].toArray))).get? a=some (seqObj "list" ([].toArray) ep):=#[_,get?_update_seq zw λ_ => ([].toArray)];show iN (QO U rfl (iN (wpAny_newTuple (iN (PR (LX ?_))))));have at2:(((s.heap.update a (Obj.mapSeq λ_ => ([].toArray))).push (seqObj "tuple" vs.toArray 0)).push (seqObj "list" ([].toArray) 0)).get? a=some (seqObj "list" ([].toArray) ep):=by
  have l1:a<((s.heap.update a (Obj.mapSeq λ_ => ([].toArray))).push (seqObj "tuple" vs.toArray 0)).objs.size:=(by rw[Rp,Heap.size_update];show NQ lt);rw[Heap.get?_push_ne _ _ _ (KZ l1),Heap.get?_push_ne _ _ _ (by rw[Heap.size_update];show KZ lt)];show U
 have done:∀G:K6,(vr G).Perm (Pa vs)->SortedTo (vr G) (Pa vs).size->P (.done (.ret .none)) { s with heap:=sortedHeap s.heap a vs ((vr G).map (·.2)) }:=λG N O=>by
  let#[ns',w1,w2,w3]:=sorted_out R N O;show k _ ns' w1 w2 w3
 change wpAny (model prog w) A _ P E { s with heap:=((s.heap.update a (Obj.mapSeq λ_ => ([].toArray))).push (seqObj "tuple" vs.toArray 0)).push (seqObj "list" ([].toArray) 0) };dsimp only;by_cases L:vs.toArray.size<2
 .rw[Sv L,Sv L];show iN (p4 ?_);rw[StateT.run_pure];show iN (p4 (iN (QO at2 rfl (iN (PQ at2 rfl ?_ (KH _) ?_)))))
  .simp only[bne_self_eq_false,LF,if_false];show p4 (done (Qb general' (vs.toArray.zip vs.toArray) ([].toArray) 7 none) (QS _) λi j ab hj=>?_);rw[Pb]at hj;rw[p3]at L;rw[show i=j by omega];show Ll _
  .change(Array.map (λx:vu=>x.2) (vs.toArray.zip vs.toArray)).size<=sizeLine+1;rw[Rq];change(Pa vs).size<=sizeLine+1;rw[Pb];omega
 .rw[Su L,Su L];rw[p3]at L;obtain⟨J,v2,I,rfl⟩:∃J v2 I,vs=J::v2::I:=by
   match vs,L with
   | [],z=>show absurd av z
   | [_],z=>show absurd (by rw[Lu];decide) z
   |J::v2::I,_=>show#[J,v2,I,rfl]
  rw[keyKind_ints R];have sr:=yp (prog:=prog) (w:=w) (A:=A) (E:=E) (s:={ s with heap:=((s.heap.update a (Obj.mapSeq λ_ => ([].toArray))).push (seqObj "tuple" (J::v2::I).toArray 0)).push (seqObj "list" ([].toArray) 0) }) (F3 R Y)
   (st:=Qb Nb (Pa (J::v2::I)) ([].toArray) 7 none) (Q:=λ_ G=>sf ((vr G).Perm (Pa (J::v2::I))) (Nc G=none) (SortedTo (vr G) (Pa (J::v2::I)).size)) #[QS _,1] rfl (by rw[Pb];omega) λG N O S=>#[N,O,S]
  show iN (p4 (iN (Nk sr ?_ λ_ _ e=>e)));rintro⟨⟨⟩,G⟩ s' ⟨rfl,N,O,S⟩;dsimp only;show iN (QO at2 rfl (iN (PQ at2 rfl ?_ (KH _) ?_)))
  .rw[O];simp only[bne_self_eq_false,LF,if_false];show p4 (done G N S)
  .change(Array.map (λx:vu=>x.2) (vr G)).size<=sizeLine+1;rw[Rq,N.size_eq,Pb];omega
theorem vF {l:Addr}{vs:List Value}{ns:List Int}{Q:Value->mu->Prop}(zw:s.heap.IsList l vs.toArray) (R:MV vs ns) (O:ns.Nodup) (N:vs.length<=1000)
  (k:∀(out:Array Value) (ns':List Int),MV out.toList ns'->ns'.Perm ns->ns'.Pairwise (· <= ·)->Q (.ref (s.heap.objs.size+1)) { s with heap:=sortedAll s.heap vs out }):wpAny (model prog w) A (call (.builtin "sorted") [.ref l]) Q E s:=by
 have U:sizeLine=16777216:=ub;show Calls.call_function_entry kind_sorted plain_sorted entry_sorted (args_sorted1 _) ?_;show iN (m:=checkCount "sorted" 1 1 _) (p4 (iN (collect_list zw (iN (PR ?_)) ae)));have I:((s.heap.push (seqObj "list" ([].toArray) 0)).update s.heap.objs.size (Obj.mapSeq (· ++ vs.toArray))).objs.size=s.heap.objs.size+1:=(by rw[Heap.size_update,Rp]);have G:=Heap.get?_push_size ((s.heap.push (seqObj "list" ([].toArray) 0)).update s.heap.objs.size (Obj.mapSeq (· ++ vs.toArray))) (o:=seqObj "list" vs.toArray 0) rfl;rw[I]at G;change wpAny _ _ _ _ _ { s with heap:=((s.heap.push (seqObj "list" ([].toArray) 0)).update s.heap.objs.size (Obj.mapSeq (· ++ vs.toArray))).push (seqObj "list" vs.toArray 0) };rw[I];show iN (LX (Mb slot_list_sort #[_,G,rfl] entry_list_sort (pR G R O N λout ns' J L S=>#[0,p4 #[0,k out ns' J L S]]) (args_list_sort _)))
end
end Srt
namespace L2
open PySem PySem.Spec PyProof.Rows
noncomputable def qf (X:Cx) (G:List Str) (scope:Om) (cl:List (Str×Addr)) (C:Addr) (s₀:mu) (H₀:Hp) (ex:List Addr):Cx where
 prog:=X.prog
 w:=X.w
 K:=X.K
 mg:=X.mg
 base:=X.base
 A:=X.A
 N:=G
 s₀:=s₀
 H₀:=H₀
 env:=Rr scope cl C X.env
 outer:=X.stack
 stack:=X.stack
 ex:=ex
 fn:=λ_=>false
 calm:=X.calm
 pn:=[]
 xe:=λ_ _=>False
noncomputable def gj (t:Str) (caps:List (Str×Nat)):List Str:=t::caps.map (·.1)
noncomputable def fZ (caps:List (Str×Nat)) (σ:St) (v:Option V):St:=v::caps.map λp=>(σ[p.2]?).join
structure jS (X:Cx) (scope:Om) (cl:List (Str×Addr)) (t:Str) (caps:List (Str×Nat)):Prop where
 kind:scope.kind=.function
 Fj:∀y∈scope.names,y.2≠.cell
 names:∀y∈scope.names,y.2=.local->scope.names.lookup y.1=some .local
 J0:scope.names.lookup t=some .local
 FW:closureFor scope X.env=pure cl
 sub:∀p∈cl,X.env.cells.lookup p.1=some p.2
 has:((relabel scope X.env).names.all λy => !(y.2 == .cell||y.2 == .free)||(cl.lookup y.1).isSome)=true
 Kg:∀p∈caps,X.N[p.2]?=some p.1/\(X.env.kindOf p.1=some .cell\/X.env.kindOf p.1=some .free)/\((relabel scope X.env).names.lookup p.1=some .cell\/(relabel scope X.env).names.lookup p.1=some .free)
 nd:(gj t caps).Nodup
section
variable {X:Cx}{scope:Om}{cl:List (Str×Addr)}{t:Str}{caps:List (Str×Nat)}{pins:List (Addr×Obj)}{σ:St}{H:Hp}{s:mu}{C:Addr}{fp:List Addr}
theorem jS.look (K:jS X scope cl t caps) {x:Str}{c:Addr}(h:cl.lookup x=some c):X.env.cells.lookup x=some c:=K.sub (x,c) (LK h)
theorem jS.hs (K:jS X scope cl t caps) {x:Str}(h:(relabel scope X.env).names.lookup x=some .cell\/(relabel scope X.env).names.lookup x=some .free):∃c,cl.lookup x=some c:=by
 have G:∀k,(relabel scope X.env).names.lookup x=some k->(k==NameKind.cell||k==NameKind.free)=true->∃c,cl.lookup x=some c:=λk e I=>by
  have:=K0.mp K.has (x,k) (LK e);dsimp only at this;rw[I]at this;show Mm.mp (by simpa using this)
 rcases h with h|h
 .show G _ h rfl
 .show G _ h rfl
theorem Ke (I:Inv X pins σ H s) (K:jS X scope cl t caps) (J:∀b∈fp,gi X pins H b) (R:∀b∈fp,b<s.heap.objs.size) (L:s.heap.objs.size<=C):(qf X (gj t caps) scope cl C s H fp).Ok where
 mod:=I.ok.mod
 kind:=K.kind
 glob:=I.ok.glob
 blt:=I.ok.blt
 above:=L
 inj:=λx y c h1 h2=>I.ok.inj x y c (K.look h1) (K.look h2)
 has:=λx O=>K.hs O
 FP:=λx c h=>nomatch (show false=true from h)
 hd:=I.ok.hd
 frames:=I.ok.frames
 HY:=.inl rfl
 JR:=λb G=>#[KZ (K4 (R b G) L),λx c e=>(J b G).2.2.2.2.1 x c (K.look e)]
 bs:=I.bs
 BA:=KI I.ok.BA I.sz
 yE:=λb o e G=>by
  rcases(J b G).2.2.2.1 with z|z
  .show I.ok.yE b o e z
  .show absurd (K4 (Heap.lt_size e) (KI I.ok.BA z)) (MQ _)
 yR:=λb G N=>by
  rcases wh.mp (I.rl b N)with e|e
  .show(J b G).2.1 e
  .show(J b G).2.2.1 e
 j5:=I.stack
 DG:=I.xm
theorem Jv {O:Heap}{m:Str->Option Value}{tk:Nat}(I:Inv X pins σ H s) (K:jS X scope cl t caps) (hf:∀b∈fp,gi X pins H b) (ho:∀b∈fp,b<s.heap.objs.size) (U:s.heap.objs.size<=C)
  (R:∀b o,s.heap.get? b=some o->O.get? b=some o) (ns:O.Ns C m):Inv (qf X (gj t caps) scope cl C s H fp) [] (fZ caps σ none) H { s with heap:=O,toks:=tk }:=by
 have Y:∀c v,s.heap.IsCell c v->O.IsCell c v:=λc v ap=>(by let#[o,e,d]:=ap;show#[o,R c o e,d]);show#[Ke I K hf ho U,rfl,I.bare,Un.kept R,#[m,ns,λi x v e1 e2 e3=>?_],λx c e=>?_,I.bE.fresh U,λx c e=>I.gH x c (K.look e),λp L=>absurd (show p∈([]:List (Addr×Obj))from L) (by simp),I.bE.kept R,by simp[fZ,gj,qf]]
 .cases i with
  |zero =>
   have J:some (none:Option V)=some (some v):=e2;cases J
  |succ j =>
   have G:(caps.map (·.1))[j]?=some x:=e1;have J:(caps.map λp=>(σ[p.2]?).join)[j]?=some (some v):=e2;rw[rz]at G J;cases L:caps[j]? with
   |none=>rw[L]at G;cases G
   |some p =>
    rw[L]at G J;have ex:p.1=x:=rk G;have N:(σ[p.2]?).join=some v:=rk J;have as:σ[p.2]?=some (some v):=by
     cases q:σ[p.2]? with
     |none=>rw[q]at N;cases N
     |some z=>rw[q]at N;show congrArg some N
    let#[hN,hk,ac]:=K.Kg p (ua L);subst ex;let#[m',_,hl]:=I.loc;have am:Il X.env.scope p.1:=by
     rcases hk with z|z
     .show .inr (.inl z)
     .show .inr (.inr z)
    let#[u,r,l]:=hl p.2 p.1 v hN as am;let#[c,S]:=K.hs ac;rcases l with⟨z,_⟩|⟨_,c',ab,aB⟩
    .rcases hk with y|y<;>(rw[y]at z;cases z)
    .rw[K.look S]at ab;cases ab;show#[u,r,.inr #[ac,c,S,Y c _ aB]]
 .let#[v,z]:=I.cell x c (K.look e);show#[v,Y c v z]
theorem Inv.Ig {D:Addr}{ys:List V}{its:List Value}{n:Nat}(I:Inv X pins σ H s) (f:gi X pins H D) (e:s.heap.get? D=some { cls:=.type "list",data:=.seq its.toArray n }) (r:Vals ys its) (U:ys.length<=sizeLine) :
  Inv X pins σ (upd H D (.lst ys)) s:=by
 let#[J,L,f2,S,N,O]:=f;let#[R,g,d,tk,os]:=s;show I.step (g':=g) (d':=d) (t':=tk) (h':=R) (ch:=[D]) (λb G=>?_) (λb o _ _ _ e _=>e) (λb o _ _ _ e _=>#[o.slots,e]) (λb o G _ n=>?_) (λb o _ e=>#[o,e]) (λb xs q=>?_) (λb o u q=>?_) (λb ps q=>#[([].toArray),?_]) (λm Y=>Y) (λb u q=>?_) I.bare
 .have z:b=D:=(by simpa using G);subst z;show#[S,L,N,O]
 .rw[ah (λz=>G (by simp[z]))];show n
 .rw[ah (ar q J)];show q
 .rw[ah (ar q J)];show q
 .rw[ah (ar q J),q];simp
 .by_cases G:b=D
  .subst G;rw[af]at q;cases q;show#[U,its,n,r,e]
  .rw[ah G]at q;show(I.bE b u q).mW (λ_ _ _ z=>z) (λc z=>by rw[ah (ar z J)];show z) λc xs z=>by rw[ah (ar z J)];show z
end
noncomputable def II (X:Cx) (ifs:List KN) (t:TT):Prop :=
 ∀(pins:List (Addr×Obj)) (s:mu) (σ:St) (H:Hp) (Q:Bool->Hp->Prop),Inv X pins σ H s->t σ H Q ->
  wpAny (model X.prog X.w) X.A (forIn ifs true λc r=>if r=true then do let ok <-isTrue c X.env (eval c X.env);pure (QT ok)else pure (QT r)) (TP X pins σ Q) X.xe s
noncomputable def oO:TT:=λ_ H Q=>Q true H
theorem fJ {X:Cx}:II X [] oO:=λ_ _ _ H _ I h=>wpAny_tests_nil #[H,I,h]
noncomputable def hU (caps:List (Str×Nat)) (tt:TT) (te:TE) (σ:St) (J:It) (Q:List V->Hp->Prop) (W:Nat->Nat->List V->Hp->Prop):Prop :=
 ∀i m ys H,W i m ys H->(J.stop i H/\Q ys H)\/(J.go i H/\∃N:List V->Hp->Prop,(∀I H',N I H'->∃G,G<m/\W (i+1) G I H')/\∀x H',J.Bz i H x H'->tt (fZ caps σ (some x)) H' λb H2 =>
  if b=true then te (fZ caps σ (some x)) H2 (λy H3=>ys.length<sizeLine/\N (ys++[y]) H3)else N ys H2)
noncomputable def DK (caps:List (Str×Nat)) (wi:TI) (tt:TT) (te:TE):TE:=λσ H Q=>wi σ H λJ H1 =>
 ∃W:Nat->Nat->List V->Hp->Prop,(∃m,W 0 m [] H1)/\hU caps tt te σ J (λys H2=>∀p,H2 p=none->Q (.ref p) (upd H2 p (.lst ys))) W
section
variable {X:Cx}{scope:Om}{cl:List (Str×Addr)}{t:Str}{caps:List (Str×Nat)}{elt iter:KN}{ifs:List KN}{px pos:Nn}{wi:TI}{tt:TT}{te:TE}
theorem lU {pins:List (Addr×Obj)}{σ:St}{H:Hp}{s:mu}{J:It}{fp:List Addr}{it:Addr}{tn:Nat->Heap->Prop}{W:Nat->Nat->List V->Hp->Prop}{QE:List V->Hp->Prop}{E:Value->mu->Prop}{RR:Value->Addr->Result->mu->Prop}{m0:Nat}
  (K:jS X scope cl t caps) (hc:X.calm=true)
  (ht:∀C s₀ H₀ ex,II (qf X (gj t caps) scope cl C s₀ H₀ ex) ifs tt) (he:∀C s₀ H₀ ex,PE (qf X (gj t caps) scope cl C s₀ H₀ ex) elt te)
  (I:Inv X pins σ H s) (T:Turn X.prog X.w X.K (.Name t px) J fp it tn) (st:tn 0 s.heap) (U:∀b∈fp,gi X pins H b) (w0:W 0 m0 [] H) (hW:hU caps tt te σ J QE W)
  (bY:∀D C ys H' s' m,H' D=none->Inv X pins σ (upd H' D (.lst ys)) s'->s'.heap.Ns C m->gi X pins (upd H' D (.lst ys)) C->QE ys H'->RR (.ref D) C (.ok .next) s') :
  wpAny (model X.prog X.w) X.A (newList []) (λbb ab=>wpAny (model X.prog X.w) X.A (newFunctionEnv scope X.env.globals cl [] X.env.qual none .none (some X.env)) (λbn bz =>
   N3 (model X.prog X.w) X.A (.compStart (.ListComp elt [#[.Name t px,iter,ifs,(0)]] scope pos) 0 (.ref it) bb { bn with scope:=relabel scope X.env }) (RR bb bn.locals) bz) E ab) E s:=by
 show Ly (wpAny_newFunctionEnv K.Fj (by intro y hy;simp at hy) (λas a0 ap=>?_) K.kind);dsimp only at a0 ap ⊢;generalize a6:s.heap.push { cls:=.type "list",dict:=none,data:=.seq ([]:List Value).toArray }=H2 at a0 ap ⊢;have hC:H2.objs.size=s.heap.objs.size+1:=(by rw[<-a6,Heap.size_push]);have am:s.heap.objs.size≠H2.objs.size:=(by rw[hC];show KZ (NH _));have a7:s.heap.objs.size<=H2.objs.size:=(by rw[hC];show N4 _);have below:∀b,b<s.heap.objs.size->b≠H2.objs.size:=λb G=>(by rw[hC];show KZ (NQ G));have bm:∀b o,s.heap.get? b=some o->as.get? b=some o:=λb o e=>ap.extBut b o (below b (Heap.lt_size e)) (Heap.get?_push_of_some _ (a6▸Heap.get?_push_of_some _ e));have b3:as.get? s.heap.objs.size=some { cls:=.type "list",data:=.seq ([]:List Value).toArray }:=ap.extBut _ _ am (Heap.get?_push_of_some _ (a6▸Heap.get?_push_size _ rfl));have ho:∀b∈fp,b<s.heap.objs.size:=λb G=>let ⟨_,e,_⟩:=T.obj 0 _ st b G;Heap.lt_size e;have bq:s.heap.objs.size∉fp:=λhm=>MQ _ (ho _ hm);have bi:tn 0 as:=T.keep 0 _ _ st λb _ o e=>bm b o e;have b1:s.heap.objs.size∉yY X.stack:=λz=>by
  rcases wh.mp (I.rl _ z)with e|e
  .show absurd (e▸I.lt) (MQ _)
  .show I.F2 (qj _) e
 have b2:∀x c,cl.lookup x=some c->c≠s.heap.objs.size:=λx c e z=>by
  let#[v,q]:=I.cell x c (K.look e);show absurd (z▸q.lt) (MQ _)
 have ba:∀{pl:List (Addr×Obj)}{L:Hp},(∀b∈fp,L b=none)->(∀p∈pl,p.1∉fp)->∀b∈fp,gi (qf X (gj t caps) scope cl H2.objs.size s H fp) pl L b:=λ{pl L} hn S b G =>
  #[hn b G,below b (ho b G),(Ke I K U ho a7).yR b G,.inl G,λx c e=>(U b G).2.2.2.2.1 x c (K.look e),λp b6 z=>by
   have bF:p∈pl:=b6;show S p bF (z▸G)]
 have bl:∀ab:mu,ab={ s with heap:=as,toks:=s.toks+([]:List (Str×Value)).length } ->
   N3 (model X.prog X.w) X.A (.compLoop (.ListComp elt [#[.Name t px,iter,ifs,(0)]] scope pos) 0 (.ref it) (.ref s.heap.objs.size) (Rr scope cl H2.objs.size X.env)) (RR (.ref s.heap.objs.size) H2.objs.size) ab:=by
  rintro ab rfl;show codeAny_loop rfl (λn s'=>∃i ys its O L v0,Inv (qf X (gj t caps) scope cl H2.objs.size s H fp) [] (fZ caps σ v0) L s'/\tn i s'.heap/\(∀b∈fp,L b=none)/\L s.heap.objs.size=none /\
   s'.heap.get? s.heap.objs.size=some { cls:=.type "list",data:=.seq its.toArray O }/\Vals ys its/\ys.length<=sizeLine/\W i n ys L) (λn s' hI=>?_) m0
   #[(0),[],[],(0),H,none,Jv I K U ho a7 bm a0,bi,λb G=>(U b G).1,I.bE.fresh (qj _),b3,.nil,KH _,w0]
  let#[i,ys,its,O,L,v0,I3,be,bd,a5,e3,r3,z3,w3]:=hI;change wpAny _ X.A ((compTurn (.ListComp elt [#[.Name t px,iter,ifs,(0)]] scope pos) 0 (.ref it) (.ref s.heap.objs.size) (Rr scope cl H2.objs.size X.env)).onRaise (λx=>do noteFrame x (Rr scope cl H2.objs.size X.env);theTreesLotGoes x)) _ _ s';show wpAny_noted ?_;rw[compTurn_list];have bv:Inv (qf X (gj t caps) scope cl H2.objs.size s H fp) [(s.heap.objs.size, { cls:=.type "list",data:=.seq its.toArray O })] (fZ caps σ v0) L s':=I3.lD λp S=>by
   have ep:p=(s.heap.objs.size, { cls:=.type "list",data:=.seq its.toArray O }):=(by simpa using S);subst ep;show#[e3,a5,am,b1,λv z=>by cases(show Ri its.toArray O=NG v from z)]
  have pD:∀p∈[((s.heap.objs.size:Addr),({ cls:=.type "list",data:=.seq its.toArray O }:Obj))],p.1∉fp:=λp S=>by
   have ep:p=(s.heap.objs.size, { cls:=.type "list",data:=.seq its.toArray O }):=(by simpa using S);subst ep;show bq
  rcases hW i n ys L w3 with⟨ce,q⟩|⟨go,N,hN,step⟩
  .show iN (NN (iN (bV (T.done (qf X (gj t caps) scope cl H2.objs.size s H fp) rfl rfl rfl hc i _ s' _ L _ bv (ba bd pD) be ce) λr s4 ca=>?_)));let#[hr,Y]:=ca;subst hr;show p4 ?_;have I5:Inv X pins σ L s4:=I.Gd (ch:=fp) Y.os Y.base Y.bE Y.bare λb G=>#[(U b G).2.2.2.1,(U b G).2.1,(U b G).2.2.2.2.1,(U b G).2.2.2.2.2];have e4:=(Y.pin _ (KO _ KW)).1;have fD:gi X pins L s.heap.objs.size:=I.jn (qj _) a5;have I6:=I5.Ig fD e4 r3 z3;let#[m,hn,_]:=Y.loc;show bY _ _ ys L s4 m a5 I6 hn (I.jn a7 ?_) q;rw[ah (qs am)];show Y.free
  .show iN (NN (iN (bV (T.item (qf X (gj t caps) scope cl H2.objs.size s H fp) rfl rfl rfl hc i _ s' _ L _ bv (ba bd pD) be go) λr s4 b0=>?_)));let#[u,hr,h4]:=b0;subst hr;show iN (bV h4 λ_ s5 cc=>?_);let#[x,H5,I5,r5,y5,aB,b4]:=cc;have ci:=(I5.pin _ (KO _ KW)).2.1;have bx:=I5.pinned (ba b4 pD) (T.obj _ _ aB);have Dq:∀{α:Type}{tr:Qg α}{Q:α->mu->Prop}{E':Value->mu->Prop}{R:mu},wpAny (model X.prog X.w) X.A tr Q (λ_ _=>False) R->wpAny (model X.prog X.w) X.A tr Q E' R:=λh=>Nk h (λ_ _ z=>z) λ_ _ z=>z.elim;show iN (Ot (ip (X:=qf X (gj t caps) scope cl H2.objs.size s H fp) (i:=0) (x:=t) bx K.nd rfl (.inl (Py K.J0)) r5 (λs6 I6=>?_) (.inr (Py K.J0))));have e0:(fZ caps σ v0).set 0 (some x)=fZ caps σ (some x):=rfl;rw[e0]at I6;show iN (Dq (bV (ht _ _ _ _ _ s6 _ H5 _ I6 (step x H5 y5)) λok s7 b5=>?_));let#[H7,I7,q7]:=b5;have bc:∀{ac:St}{H':Hp}{R:mu},Inv (qf X (gj t caps) scope cl H2.objs.size s H fp) ([(s.heap.objs.size, { cls:=.type "list",data:=.seq its.toArray O })]++oa fp s5.heap) ac H' R ->
     R.heap.get? s.heap.objs.size=some { cls:=.type "list",data:=.seq its.toArray O }/\H' s.heap.objs.size=none/\tn (i+1) R.heap/\(∀b∈fp,H' b=none):=λ{ac H' R} Ix=>by
    have a:=Ix.pin _ (KO _ (LC _ KW));show#[a.1,a.2.1,T.keep _ _ _ aB λb G o e=>(Ix.pin (b,o) (KO _ (KO _ (gy G e)))).1,λb G=>?_];let#[o,e,d]:=T.obj _ _ aB b G;show(Ix.pin (b,o) (KO _ (KO _ (gy G e)))).2.1
   have bare:∀{pl:List (Addr×Obj)}{ac:St}{H':Hp}{R:mu},Inv (qf X (gj t caps) scope cl H2.objs.size s H fp) pl ac H' R->Inv (qf X (gj t caps) scope cl H2.objs.size s H fp) [] ac H' R:=λIx=>Ix.lD λp S=>absurd S (by simp);cases ok with
   |false =>
    rw[Su tu]at q7;let#[m',hm,w7]:=hN _ _ q7;let#[a1,a2,a3,a4]:=bc I7;show p4 #[rfl,m',hm,i+1,ys,its,O,H7,some x,bare I7,a3,a4,a2,a1,r3,z3,w7]
   |true =>
    rw[Sv rfl]at q7;show iN (iN (Dq (bV (he _ _ _ _ _ s7 _ H7 _ I7 q7) λy s8 bI=>?_)));let#[yv,H8,I8,r8,cm,n8]:=bI;let#[m',hm,w8]:=hN _ _ n8;let#[a1,a2,a3,a4]:=bc I8;have cp:=r3.length;show iN (Nm F.slot_list_append #[_,a1,rfl] F.entry_list_append (F.args_list_append_2 _ _) (list_append s.heap.objs.size its.toArray O y (by rw[p3];omega)) #[a1,?_]);obtain⟨aT,q⟩:∃aT:Nat,(s8.heap.update s.heap.objs.size (Obj.mapSeq (·.push y))).get? s.heap.objs.size=some { cls:=.type "list",data:=.seq (its++[y]).toArray aT }:=by
     have q:=NK a1 (·.push y);have ea:its.toArray.push y=(its++[y]).toArray:=(by simp);rw[ea]at q;show#[_,q]
    have I9:Inv (qf X (gj t caps) scope cl H2.objs.size s H fp) [] (fZ caps σ (some x)) H8 { s8 with heap:=s8.heap.update s.heap.objs.size (Obj.mapSeq (·.push y)) }:=
     (bare I8).turned (t':=s8.toks) (λb o G e=>(Heap.get?_update_other _ _ (qs G)).trans e) a2 am (.inr (qj _)) b2 (λp S=>absurd (show p∈([]:List (Addr×Obj))from S) (by simp))
    show p4 (p4 #[rfl,m',hm,i+1,ys++[yv],its++[y],aT,H8,some x,I9,T.keep _ _ _ a3 λb G o e=>(Heap.get?_update_other _ _ (show s.heap.objs.size≠b from λz=>bq (by rw[z];show G))).trans e,a4,a2,q,r3.append (.cons r8 .nil),?_,w8])
    .rw[vl,Lu];omega
 show codeAny_compStart_list (bl _ rfl) (T.self _ 0 _ _ _ bi (bl _ rfl))
theorem gz (K:jS X scope cl t caps) (L:X.calm=true) (hi:PI X (.Name t px) iter wi)
  (ht:∀C s₀ H₀ ex,II (qf X (gj t caps) scope cl C s₀ H₀ ex) ifs tt) (he:∀C s₀ H₀ ex,PE (qf X (gj t caps) scope cl C s₀ H₀ ex) elt te)
  (hs:∀x,Ow iter X.env x=pure x:=by intro _;rfl):PE X (.ListComp elt [#[.Name t px,iter,ifs,(0)]] scope pos) (DK caps wi tt te):=by
 intro pins s σ H Q I h;rw[eval_ListComp];show OC (use:=none) rfl hs K.FW K.kind K.names (bV (hi pins s σ H _ I h) λv s1 h1=>bV h1 λam s2 h2=>?_);let#[it,fp,tn,J,H2,e,Y,T,ab,f2,W,#[m0,w0],hW]:=h2;subst e;show lU (RR:=λG C=>compPost (model X.prog X.w) X.A X.xe none (EP X pins σ Q) G C) K L ht he Y T ab f2 w0 hW ?_;intro D C ys H' s' m hD N U R q;show#[m,U,λh' ac=>?_];let#[O,c1,c2,c3,S,c5]:=R;show#[.ref D,_,N.turned (t':=s'.toks) (λb o hb e=>(ac.2 b hb).trans e) O c1 c3 S c5,rfl,q D hD]
theorem B5 {i:Nat}{y:Str}{G O:Nn}(hN:X.N.Nodup) (ap:X.N[i]?=some y) (hy:Loc X.env.scope y) (K:jS X scope cl t caps) (hc:X.calm=true) (hi:PI X (.Name t px) iter wi)
  (ht:∀C s₀ H₀ ex,II (qf X (gj t caps) scope cl C s₀ H₀ ex) ifs tt) (he:∀C s₀ H₀ ex,PE (qf X (gj t caps) scope cl C s₀ H₀ ex) elt te)
  (ab:OG (.ListComp elt [#[.Name t px,iter,ifs,(0)]] scope pos) (some (.Name y G)) O.line X.env=pure true:=by rfl)
  (hs:∀x,Ow iter X.env x=pure x:=by intro _;rfl) (hf:X.fn y=true\/X.env.scope.names.lookup y=some .local:=by first|show .inl rfl|show .inr rfl|assumption) :
  PS X (.Assign [.Name y G] (.ListComp elt [#[.Name t px,iter,ifs,(0)]] scope pos) O) (Bq (DK caps wi tt te) (oq i)):=by
 intro pins s σ H D I h;rw[exec_Assign_Name_used _ _ _ _ ab];show iN (NN (iN ?_));change wpAny _ X.A (do let _ <-comprehension (.ListComp elt [#[.Name t px,iter,ifs,(0)]] scope pos) scope X.env _ (newList []) false (eval iter X.env) (some (PX (.Name y G) X.env))) _ _ s;show iN (bV (OC (use:=some (PX (.Name y G) X.env)) (Q:=λ_ s'=>SP X pins D .next s') rfl hs K.FW K.kind K.names
  (bV (hi pins s σ H _ I h) λv s1 h1=>bV h1 λa0 s2 h2=>?_)) λ_ s' hq=>p4 (p4 hq))
 let#[it,fp,tn,J,H2,e,I2,T,aB,f2,W,#[m0,w0],hW]:=h2;subst e;show lU (RR:=λU C=>compPost (model X.prog X.w) X.A X.xe (some (PX (.Name y G) X.env)) (λ_ s'=>SP X pins D .next s') U C) K hc ht he I2 T aB f2 w0 hW ?_;intro L C ys H' s' m hD Y hn hC q;let#[c0,R,c2,c3,S,c5]:=hC;change wpAny _ X.A (PX (.Name y G) X.env (.ref L)) _ _ s';show Ot (oW (v:=.ref L) Y hN ap hy rfl (λs3 I3 ac=>?_) hf);let#[a,aT,ha]:=ac;have as:C≠a:=by
  rcases ha with z|z
  .rw[z];show R
  .show λw=>S y a z w.symm
 show#[m,hn.sameBut aT as,λh' am=>?_];show#[2,I3.turned (t':=s3.toks) (λb o hb e=>(am.2 b hb).trans e) c0 R c3 S c5,q L hD]
end
theorem wt {caps:List (Str×Nat)}{tt:TT}{te:TE}{σ:St}{H:Hp}{lo:Int}{n:Nat}{I:List V->Hp->Prop}(Pv:Nat->List V->Hp->Prop) (J:Pv 0 [] H)
  (hs:∀i ys H,i<n->Pv i ys H->tt (fZ caps σ (some (.int (lo+i)))) H λb H2=>if b=true then te (fZ caps σ (some (.int (lo+i)))) H2 (λy H3=>ys.length<sizeLine/\Pv (i+1) (ys++[y]) H3)else Pv (i+1) ys H2)
  (hd:∀ys H,Pv n ys H->I ys H):∃W:Nat->Nat->List V->Hp->Prop,(∃m,W 0 m [] H)/\hU caps tt te σ (B6 lo n) I W:=by
 show#[λi m ys H=>m=n-i/\i<=n/\Pv i ys H,#[n,by simp,KH _,J],?_];rintro i m ys H ⟨rfl,hi,p⟩;by_cases G:i<n
 .show .inr #[G,Pv (i+1),λN H' L=>#[n-(i+1),ae,rfl,G,L],λx H' y=>?_];let#[e,y]:=y;subst e y;show hs i ys _ G p
 .have e:i=n:=ae;subst e;show .inl #[qj _,hd ys H p]
theorem yC {K:iF}{a:Addr}{xs:List V}{caps:List (Str×Nat)}{tt:TT}{te:TE}{σ:St}{H:Hp}{I:List V->Hp->Prop}(Pv:Nat->List V->Hp->Prop) (L:Pv 0 [] H) (J:∀i ys H,i<=xs.length->Pv i ys H->bA K H a xs)
  (hs:∀i x ys H,xs[i]?=some x->Pv i ys H->tt (fZ caps σ (some x)) H λb H2=>if b=true then te (fZ caps σ (some x)) H2 (λy H3=>ys.length<sizeLine/\Pv (i+1) (ys++[y]) H3)else Pv (i+1) ys H2)
  (hd:∀ys H,Pv xs.length ys H->I ys H):∃W:Nat->Nat->List V->Hp->Prop,(∃m,W 0 m [] H)/\hU caps tt te σ (E8 K a) I W:=by
 show#[λi m ys H=>m=xs.length-i/\i<=xs.length/\Pv i ys H,#[xs.length,by simp,KH _,L],?_];rintro i m ys H ⟨rfl,hi,p⟩;have q:=J i ys H hi p;by_cases G:i<xs.length
 .show .inr #[#[xs,xs[i],q,by simp[G]],Pv (i+1),λO H' N=>#[xs.length-(i+1),ae,rfl,G,N],λx H' y=>?_];let#[e,y]:=y;subst e;show hs i x ys _ (y xs q) p
 .have e:i=xs.length:=ae;subst e;show .inl #[#[xs,q,qj _],hd ys H p]
theorem AM {K:iF}{a:Addr}{xs:List V}{caps:List (Str×Nat)}{tt:TT}{te:TE}{σ:St}{H:Hp}{I:List V->Hp->Prop}(Pv:Nat->List V->Hp->Prop) (L:Pv 0 [] H) (J:∀i ys H,i<=xs.length->Pv i ys H->bL K H a xs)
  (hs:∀i x ys H,xs[i]?=some x->Pv i ys H->tt (fZ caps σ (some x)) H λb H2=>if b=true then te (fZ caps σ (some x)) H2 (λy H3=>ys.length<sizeLine/\Pv (i+1) (ys++[y]) H3)else Pv (i+1) ys H2)
  (hd:∀ys H,Pv xs.length ys H->I ys H):∃W:Nat->Nat->List V->Hp->Prop,(∃m,W 0 m [] H)/\hU caps tt te σ (IH K a) I W:=by
 show#[λi m ys H=>m=xs.length-i/\i<=xs.length/\Pv i ys H,#[xs.length,by simp,KH _,L],?_];rintro i m ys H ⟨rfl,hi,p⟩;have q:=J i ys H hi p;by_cases G:i<xs.length
 .show .inr #[#[xs,xs[i],q,by simp[G]],Pv (i+1),λO H' N=>#[xs.length-(i+1),ae,rfl,G,N],λx H' y=>?_];let#[e,y]:=y;subst e;show hs i x ys _ (y xs q) p
 .have e:i=xs.length:=ae;subst e;show .inl #[#[xs,q,qj _],hd ys H p]
theorem fO {caps:List (Str×Nat)}{te:TE}{σ:St}{H:Hp}{lo:Int}{n:Nat}{G:List V->Hp->Prop}(Pv:Nat->List V->Hp->Prop) (I:Pv 0 [] H)
  (hs:∀i ys H,i<n->Pv i ys H->te (fZ caps σ (some (.int (lo+i)))) H (λy H3=>ys.length<sizeLine/\Pv (i+1) (ys++[y]) H3))
  (hd:∀ys H,Pv n ys H->G ys H):∃W:Nat->Nat->List V->Hp->Prop,(∃m,W 0 m [] H)/\hU caps oO te σ (B6 lo n) G W :=
 wt Pv I (λi ys H hi p=>by
  change if true=true then _ else Pv (i+1) ys H
  rw[Sv rfl];show hs i ys H hi p) hd
theorem u0 {K:iF}{a:Addr}{xs:List V}{caps:List (Str×Nat)}{te:TE}{σ:St}{H:Hp}{G:List V->Hp->Prop}(Pv:Nat->List V->Hp->Prop) (J:Pv 0 [] H) (I:∀i ys H,i<=xs.length->Pv i ys H->bA K H a xs)
  (hs:∀i x ys H,xs[i]?=some x->Pv i ys H->te (fZ caps σ (some x)) H (λy H3=>ys.length<sizeLine/\Pv (i+1) (ys++[y]) H3))
  (hd:∀ys H,Pv xs.length ys H->G ys H):∃W:Nat->Nat->List V->Hp->Prop,(∃m,W 0 m [] H)/\hU caps oO te σ (E8 K a) G W :=
 yC Pv J I (λi x ys H hi p=>by
  change if true=true then _ else Pv (i+1) ys H
  rw[Sv rfl];show hs i x ys H hi p) hd
theorem yc {K:iF}{a:Addr}{xs:List V}{caps:List (Str×Nat)}{te:TE}{σ:St}{H:Hp}{G:List V->Hp->Prop}(Pv:Nat->List V->Hp->Prop) (J:Pv 0 [] H) (I:∀i ys H,i<=xs.length->Pv i ys H->bL K H a xs)
  (hs:∀i x ys H,xs[i]?=some x->Pv i ys H->te (fZ caps σ (some x)) H (λy H3=>ys.length<sizeLine/\Pv (i+1) (ys++[y]) H3))
  (hd:∀ys H,Pv xs.length ys H->G ys H):∃W:Nat->Nat->List V->Hp->Prop,(∃m,W 0 m [] H)/\hU caps oO te σ (IH K a) G W :=
 AM Pv J I (λi x ys H hi p=>by
  change if true=true then _ else Pv (i+1) ys H
  rw[Sv rfl];show hs i x ys H hi p) hd
theorem dS:KS "list" = some (.type "list"):=ao
theorem mD:KS "tuple" = some (.type "tuple"):=ao
theorem hJ:KS "int" = some (.type "int"):=ao
theorem Cn:KS "bool" = some (.type "bool"):=ao
theorem rD:KS "dict" = some (.type "dict"):=ao
theorem Ax:KS "max" = some (.builtin "max"):=ao
theorem b8:KS "isinstance" = some (.builtin "isinstance"):=ao
theorem kH:KS "sorted" = some (.builtin "sorted"):=ao
section
variable {X:Cx}
inductive Bf (x:V) (vs:List V) (H:Hp) (Q:VK):Prop
 |mk (l:Addr) (ns:List Int) (k:Int) (_:x=.ref l) (_:vs=[.int k]) (_:H l=some (.lst (ns.map V.int))) (_:k∈ns) (_:Q (.int (ns.idxOf k:Nat)) H):Bf x vs H Q
theorem zG:FI X "list.index" Bf:=by
 intro pins s σ H x vs v us Q I R S h;let#[l,ns,k,rfl,rfl,hH,Y,q]:=h;cases R;let#[u,rfl,U]:=S.one;let#[t,rfl]:=U;let#[z,its,n,r,L,e]:=I.nc hH;have hi:=intsAre_of r;have O:=hi.length;rw[nq]at L z;have hs:=ub;have G:ns.idxOf k<ns.length:=LB.mpr Y;show Nm OM #[_,e,rfl] PySem.F.entry_list_index (PySem.F.args_list_index_2 _ _)
  (SeqAt.list_indexAt l its.toArray n none ([].toArray) (.int k t) (Sh k) (ns.idxOf k) (by simpa[O]using G) ae ?_ ?_) #[e,λy hy=>(eq_isInt k t hi y (by simpa using hy)).at _ _,#[.int (ns.idxOf k:Nat),H,I.tok _,#[0],q]]
 .change Sh k its[ns.idxOf k]=true;rw[Rt k hi _ ae G];simpa using Od G
 .intro j N J;change Sh k its[j]=false;rw[Rt k hi j (by simpa using N) ae];show ne_of_lt_idxOf J _
inductive Bn (x:V) (vs:List V) (H:Hp) (Q:VK):Prop
 |mk (l:Addr) (ns:List Int) (k:Int) (_:x=.ref l) (_:vs=[.int k]) (_:H l=some (.lst (ns.map V.int))) (_:Q (.int (ns.count k:Nat)) H):Bn x vs H Q
theorem zj:FI X "list.count" Bn:=by
 intro pins s σ H x vs v us Q I G N h;let#[l,ns,k,rfl,rfl,L,q]:=h;cases G;let#[u,rfl,J]:=N.one;let#[t,rfl]:=J;let#[z,its,n,r,O,e]:=I.nc L;show count_list_ints (PySem.IsL.isList e) (intsAre_of r) #[.int (ns.count k:Nat),H,I.tok _,#[0],q]
end
noncomputable def gO:List V->List V->Bool
 | [],[]=>true
 |x::xs,y::ys=>kh x y&&gO xs ys
 |_,_=>false
theorem jI:∀{xs ys:List V},xs.length≠ys.length->gO xs ys=false
 | [],[],h=>absurd rfl h
 | [],_::_,_=>rfl
 |_::_,[],_=>rfl
 |x::xs,y::ys,h=>by
  have G:=jI (xs:=xs) (ys:=ys) λe=>h (by simp[e]);change(kh x y&&gO xs ys)=false;rw[G,Pu]
theorem gx:∀{xs ys:List V},xs.length=ys.length->(KD xs.length).all (λj=>kh (xs.getD j .non) (ys.getD j .non))=gO xs ys
 | [],[],_=>rfl
 |x::xs,y::ys,h=>by
  have G:=gx (xs:=xs) (ys:=ys) (by simpa using h);rw[DO,List.range_succ_eq_map,all_cons,RY];change(kh x y&&_)=(kh x y&&gO xs ys);rw[<-G];rfl
 | [],_::_,h=>by simp at h
 |_::_,[],h=>by simp at h
theorem Ca (a b:Int):kh (.int a) (.int b)=decide (a=b):=by
 change(a==b)=_;rw[Bool.beq_eq_decide_eq]
theorem pU:∀(xs ys:List Int),gO (xs.map V.int) (ys.map V.int)=decide (xs=ys)
 | [],[]=>rfl
 | [],_::_=>rfl
 |_::_,[]=>rfl
 |x::xs,y::ys=>by
  have G:=pU xs ys;change(kh (.int x) (.int y)&&gO (xs.map V.int) (ys.map V.int))=_;rw[G,Ca];by_cases h1:x=y
  .by_cases h2:xs=ys
   .simp[h1,h2]
   .simp[h1,h2]
  .simp[h1]
theorem d0 (xs:List Int):(xs.map V.int).all dC=true:=by
 rw[RY];show K0.mpr λ_ _=>rfl
section
variable {X:Cx}
inductive FX (K:iF) (x:V) (y:V) (H:Hp) (Q:VK):Prop
 |mk (p:_) (q:_) (xs:_) (ys:_) (_:x=.ref p) (_:y=.ref q) (_:bA K H p xs) (_:bA K H q ys) (_:xs.all dC=true) (_:ys.all dC=true) (_:Q (.bl (gO xs ys)) H):FX K x y H Q
theorem EY (N:X.A.units<Nq):kZ X (LJ .Eq) (FX X.K):=by
 intro pins s σ H x y v u Q I rx ry h;let#[p,q,xs,ys,rfl,rfl,hx,hy,Y,fy,O]:=h;cases rx;cases ry;let#[its,r,pl,hz]:=I.list hx;let#[S,R,U,ap]:=I.list hy;have L:=r.length;have ab:=R.length;by_cases e:xs.length=ys.length
 .show SeqAt.eq_listAt (e:=λj=>kh (xs.getD j .non) (ys.getD j .non)) pl.isList U.isList (by rw[p3,p3];omega) N (λj h1 h2=>?_) #[.bl (gO xs ys),H,I,?_,O]
  .have J:j<xs.length:=(by rw[p3]at h1;omega);have G:j<ys.length:=ae;let#[a,ea,ra]:=r.get (i:=j) (x:=xs[j]) (by simp[J]);let#[b,eb,rb]:=R.get (i:=j) (x:=ys[j]) (by simp[G]);let#[_,am]:=kz.mp ea;let#[_,ac]:=kz.mp eb;have g1:xs.getD j .non=xs[j]:=(by simp[J]);have g2:ys.getD j .non=ys[j]:=(by simp[G]);change Oa _ _ its.toArray[j] S.toArray[j] (kh (xs.getD j .non) (ys.getD j .non));rw[g1,g2];have f1:dC xs[j]=true:=K0.mp Y _ (LM J);have f2:dC ys[j]=true:=K0.mp fy _ (LM G);have z:=mN (A:=X.A.in1) (s:=s) ra rb f1 f2;have a1:its.toArray[j]=a:=(by simpa using am);have a2:S.toArray[j]=b:=(by simpa using ac);rw[a1,a2];show z
  .change Value.bool _=Value.bool _;rw[p3, <-L,gx e]
 .show SeqAt.eq_list_lengthsAt pl.isList U.isList ?_ N #[.bl (gO xs ys),H,I,?_,O]
  .rw[p3,p3, <-L, <-ab];show bne_iff_ne.mpr e
  .change Value.bool _=Value.bool _;rw[jI e]
theorem su:HA X (Cz X.K):=by
 intro pins s σ H o i ov iv Q I U ri h;let#[p,xs,k,z,rfl,rfl,R,he,q]:=h;cases U;let#[t,rfl]:=ri;let#[its,r,pl,hz]:=I.list R;let#[j,h1,h2,h3,h4,Y]:=rR he;let#[w,N,S]:=r.get h2;have O:=r.length;have hn:=l9;have J:EP X pins σ Q w s:=#[z,H,I,S,q];by_cases L:0<=k
 .have G:k.toNat=j:=by
   rw[Ox L Y]at h1;show rk h1
  show wpAny_getItem_list pl.isList L ae (by rw[G];simpa using N) J
 .have G:(k+(its.toArray.size:Int)).toNat=j:=by
   rw[seqIndex_neg ae h4]at h1;rw[p3, <-O];show rk h1
  show O8 pl.isList ae (by rw[p3]<;>omega) ae (by rw[G];simpa using N) J
theorem dR:dB X (.builtin "isinstance") (λxs H Q=>∃x n t b,xs=[x,.ty n]/\jL X.K H x t/\Nl X.K t (.type n)=some b/\Q (.bl b) H):=by
 intro pins s σ H xs us Q I r h;let#[x,n,t,b,rfl,ty,e,q]:=h;let#[u,c,rfl,G,J]:=vals2 r;obtain rfl:c=Value.type n:=J;show yT I G ty e λtk=>#[.bl b,H,I.tok _,rfl,q]
theorem D0 (K:iF):Nl K (.type "int") (.type "int")=some true:=rfl
theorem FH (K:iF):Nl K (.type "list") (.type "list")=some true:=rfl
theorem Fi (K:iF):Nl K (.type "int") (.type "bool")=some false:=by with_unfolding_all rfl
end
theorem zM:KS "range" = some (.type "range"):=ao
section
variable {X:Cx}
end
end L2
namespace PySem.W
open PySem PySem.Spec PySem.Calls PyProof.Rows Builtin Builtin.ObjectAttr Builtin.Getset_descriptor
section
variable {prog:rr}{w:Bd}{A:KL}{E:Value->mu->Prop}{s:mu}{K:iF}{x C:Addr}
end
end PySem.W
namespace L2
open PySem PySem.Spec PyProof.Rows PySem.W
section
variable {X:Cx}{pins:List (Addr×Obj)}{σ:St}{H H':Hp}{s s':mu}
end
section
variable {X:Cx}{e:KN}{te:TE}{tx:TEX}{t:TS}{ts us:TSX}{st:KP}{sts rest:List KP}{pos:Nn}
end
section
variable {X:Cx}{k:Nat}{f C:Addr}{fd:qi}{ps:List Str}{sp:Sp}{dvs:List V}{ds:List Value}{x m:Str}{p pos apos:Nn}{e o:KN}{es:List KN}{ta:TE}{t:TA}
end
section
variable {X:Cx}{pins:List (Addr×Obj)}{σ:St}{H:Hp}{s:mu}
end
section
variable {X:Cx}{v v2:KN}{vs:List KN}{te:TE}{t:TJ}{pos:Nn}
end
section
variable {X:Cx}{C:Addr}{x:Str}{np cpos pos:Nn}{e₀:KN}{es:List KN}{t:TA}
end
section
variable {P:rr}{w:Bd}{K:iF}{mg:Str->Option Value}{base:Heap}
end
section
variable {X:Cx}{pins:List (Addr×Obj)}{σ:St}{H:Hp}{s:mu}
end
section
variable {X:Cx}{C:Addr}{i:Nat}{x n:Str}{np hpos pos:Nn}{body suite:List KP}{b₀:KP}{tb:TSX}{ts:TS}
end
section
variable {κ:Type} [DecidableEq κ]
noncomputable def bZ (kvs:List (κ×V)) (k:κ):Option V:=(kvs.find? λG=>decide (G.1=k)).map (·.2)
noncomputable def putK (kvs:List (κ×V)) (k:κ) (v:V):List (κ×V):=
 if (kvs.any λG=>decide (G.1=k))=true then kvs.map (λG=>if G.1=k then(G.1,v)else G)else kvs++[(k,v)]
noncomputable def mR (kvs:List (κ×V)) (k:κ):List (κ×V):=kvs.filter λG=>decide (G.1≠k)
theorem ck {p:κ×V}{r:List (κ×V)}{k:κ}(e:p.1=k):bZ (p::r) k=some p.2:=by simp[bZ,NL,e]
theorem bC {p:κ×V}{r:List (κ×V)}{k:κ}(e:¬ p.1=k):bZ (p::r) k=bZ r k:=by simp[bZ,NL,e]
theorem fq (k:κ):∀kvs:List (κ×V),(kvs.any λG=>decide (G.1=k))=(bZ kvs k).isSome
 | []=>rfl
 |p::r=>by
  rw[Pt];by_cases e:p.1=k
  .simp only[ck e,decide_eq_true e,Bool.true_or,Option.isSome_some]
  .rw[bC e,decide_eq_false e,RJ];show fq k r
theorem tW (k j:κ) (y:V):∀kvs:List (κ×V),bZ (kvs.map λG=>if G.1=k then(G.1,y)else G) j=(bZ kvs j).map λx=>if j=k then y else x
 | []=>rfl
 |p::r=>by
  have I:=tW k j y r;rw[LQ];by_cases h:p.1=k
  .rw[Sv h];by_cases e:p.1=j
   .rw[ck (p:=(p.1,y)) e,ck e,Ru,Sv (e.symm.trans h)]
   .rw[bC (p:=(p.1,y)) e,bC e,I]
  .rw[Su h];by_cases e:p.1=j
   .rw[ck (p:=p) e,ck e,Ru,Su (λz=>h (e.trans z))]
   .rw[bC (p:=p) e,bC e,I]
theorem pG (k j:κ) (y:V):∀kvs:List (κ×V),bZ kvs k=none->bZ (kvs++[(k,y)]) j=if j=k then some y else bZ kvs j
 | [],_=>by
  by_cases e:k=j
  .rw[Sv e.symm];show ck (p:=(k,y)) e
  .rw[Su (λz=>e z.symm)];show bC (p:=(k,y)) e
 |p::r,G=>by
  rw[List.cons_append];have I:¬ p.1=k:=λz=>(by rw[ck z]at G;cases G);rw[bC I]at G;have J:=pG k j y r G;by_cases e:p.1=j
  .rw[ck e,ck e,Su (λz=>I (e.trans z))]
  .rw[bC e,bC e,J]
theorem t7 (kvs:List (κ×V)) (k j:κ) (y:V):bZ (putK kvs k y) j=if j=k then some y else bZ kvs j:=by
 unfold putK;by_cases a:(kvs.any λI=>decide (I.1=k))=true
 .rw[Sv a,tW];rw[fq]at a;by_cases e:j=k
  .let#[x,G]:=Mm.mp a;rw[Sv e,e,G,Ru,Sv rfl]
  .rw[Su e];cases bZ kvs j with
   |none=>rfl
   |some x=>rw[Ru,Su e]
 .rw[Su a];show pG k j y kvs ?_;rw[fq]at a;cases q:bZ kvs k with
  |none=>rfl
  |some x=>rw[q]at a;show(a rfl).elim
theorem eG (kvs:List (κ×V)) (k:κ) (v:V):(putK kvs k v).length<=kvs.length+1:=by
 unfold putK;split
 .rw[nq];omega
 .rw[vl,DO,Qa];omega
theorem jO {kvs:List (κ×V)}{k:κ}(v:V) (h:bZ kvs k=none):putK kvs k v=kvs++[(k,v)]:=by
 unfold putK;rw[fq,h];show Su av
theorem fW.gk {o:Option V}{u:Option Value}(r:fW o u):o.isSome=u.isSome:=by
 cases o with
 |none=>cases u with
  |none=>rfl
  |some _=>show(show False from r).elim
 |some _=>cases u with
  |none=>show(show False from r).elim
  |some _=>rfl
theorem fW.getD {o:Option V}{u:Option Value}{d:V}{d':Value}(r:fW o u) (rd:RelV d d'):RelV (o.getD d) (u.getD d'):=by
 cases o with
 |none=>cases u with
  |none=>show rd
  |some _=>show(show False from r).elim
 |some _=>cases u with
  |none=>show(show False from r).elim
  |some _=>show r
theorem KV.val {kvs:List (κ×V)}{vs:List (κ×Value)}(r:KV kvs vs) (k:κ):fW (bZ kvs k) (Pc vs k):=by
 unfold KV at r
 induction r with
 |nil=>show LH
 | @cons p q ps G h t J =>
  let#[h1,h2]:=h;by_cases e:p.1=k
  .have I:q.1=k:=h1.symm.trans e;have b:Pc (q::G) k=some q.2:=(by simp[Pc,NL,I]);rw[ck e,b];show h2
  .have I:¬ q.1=k:=λz=>e (h1.trans z);have b:Pc (q::G) k=Pc G k:=(by simp[Pc,NL,I]);rw[bC e,b];show J
theorem KV.any {kvs:List (κ×V)}{vs:List (κ×Value)}(r:KV kvs vs) (k:κ):(kvs.any λG=>decide (G.1=k))=vs.any λG=>decide (G.1=k):=by
 unfold KV at r
 induction r with
 |nil=>rfl
 |cons h t I=>rw[Pt,Pt,I,h.1]
theorem KV.Eo {kvs:List (κ×V)}{vs:List (κ×Value)}(r:KV kvs vs) (k:κ) {y:V}{u:Value}(J:RelV y u) :
  KV (kvs.map λG=>if G.1=k then(G.1,y)else G) (vs.map λG=>if G.1=k then(G.1,u)else G):=by
 unfold KV at r ⊢
 induction r with
 |nil=>show .nil
 | @cons p q ps L h t I =>
  rw[LQ,LQ];show .cons ?_ I;let#[h1,h2]:=h;by_cases e:p.1=k
  .rw[Sv e,Sv (h1.symm.trans e)];show#[h1,J]
  .rw[Su e,Su (λz=>e (h1.trans z))];show#[h1,h2]
theorem KV.put {kvs:List (κ×V)}{vs:List (κ×Value)}(r:KV kvs vs) (k:κ) {y:V}{u:Value}(G:RelV y u):KV (putK kvs k y) (stored vs k u):=by
 unfold putK stored;rw[r.any k];by_cases e:(vs.any λI=>decide (I.1=k))=true
 .rw[Sv e,Sv e];show r.Eo k G
 .rw[Su e,Su e];show Paired.snoc r #[rfl,G]
theorem KV.drop {kvs:List (κ×V)}{vs:List (κ×Value)}(r:KV kvs vs) (k:κ):KV (mR kvs k) (without vs k):=by
 unfold KV at r ⊢;unfold mR without
 induction r with
 |nil=>show .nil
 | @cons p q ps J h t G =>
  let#[h1,h2]:=h;rw[L0,L0];by_cases e:p.1=k
  .have a:¬ decide (p.1≠k)=true:=(by simp[e]);have b:¬ decide (q.1≠k)=true:=(by simp[h1.symm.trans e]);rw[Su a,Su b];show G
  .have I:¬ q.1=k:=λz=>e (h1.trans z);have a:decide (p.1≠k)=true:=(by simp[e]);have b:decide (q.1≠k)=true:=(by simp[I]);rw[Sv a,Sv b];show .cons #[h1,h2] G
theorem KV.keys {kvs:List (κ×V)}{vs:List (κ×Value)}(r:KV kvs vs):kvs.map (·.1)=vs.map (·.1):=by
 unfold KV at r
 induction r with
 |nil=>rfl
 |cons h t G=>rw[LQ,LQ,G,h.1]
theorem KV.length {kvs:List (κ×V)}{vs:List (κ×Value)}(r:KV kvs vs):kvs.length=vs.length:=Paired.length r
theorem zv (kvs:List (κ×V)) (k:κ):(mR kvs k).length<=kvs.length:=MG _ _
end
theorem iX {P:rr}{w:Bd}{k:Key}{u:Value}(r:RelV (kV k) u):(br P w).is k u=true:=by
 cases k with
 |inl i=>let#[t,e]:=(show ∃t,u=Value.int i t from r);subst e;show tU P w i t
 |inr x=>let#[t,e]:=(show ∃t,u=Value.str x t from r);subst e;show sY P w x t
theorem pW {P:rr}{w:Bd}:∀{ks:List Key}{us:List Value},Vals (ks.map kV) us->ItemsAre (br P w) ks us
 | [],_,r=>by rw[QW]at r;cases r;show .nil
 |k::ks,_,r=>by
  rw[LQ]at r;cases r with
  |cons h t=>show .cons (iX h) (pW t)
noncomputable abbrev KT (H:Hp):List (List Key×V)->List (List Key×Addr×Value)->Prop:=Paired λp q=>p.1=q.1/\H q.2.1=some (.tup (p.1.map kV))/\RelV p.2 q.2.2
theorem KT.val {H:Hp}{kvs:List (List Key×V)}{xs:List (List Key×Addr×Value)}(r:KT H kvs xs) (k:List Key):fW (bZ kvs k) ((QP xs k).map (·.2)):=by
 induction r with
 |nil=>show LH
 | @cons p q ps G h t J =>
  let#[h1,_,h2]:=h;by_cases e:p.1=k
  .have I:q.1=k:=h1.symm.trans e;have b:QP (q::G) k=some q.2:=(by simp[QP,NL,I]);rw[ck e,b];show h2
  .have I:¬ q.1=k:=λz=>e (h1.trans z);have b:QP (q::G) k=QP G k:=(by simp[QP,NL,I]);rw[bC e,b];show J
theorem KT.Eo {H:Hp}{kvs:List (List Key×V)}{xs:List (List Key×Addr×Value)}(r:KT H kvs xs) (k:List Key) {y:V}{u:Value}(J:RelV y u) :
  KT H (kvs.map λG=>if G.1=k then(G.1,y)else G) (xs.map (putAt k u)):=by
 induction r with
 |nil=>show .nil
 | @cons p q ps N h t I =>
  rw[LQ,LQ];show .cons ?_ I;let#[h1,h2,L]:=h;unfold putAt;by_cases e:p.1=k
  .rw[Sv e,Sv (h1.symm.trans e)];show#[h1,h2,J]
  .rw[Su e,Su (λz=>e (h1.trans z))];show#[h1,h2,L]
theorem KT.put {H:Hp}{kvs:List (List Key×V)}{xs:List (List Key×Addr×Value)}(r:KT H kvs xs) (k:List Key) {b:Addr}{y:V}{u:Value}(J:H b=some (.tup (k.map kV))) (G:RelV y u) :
  KT H (putK kvs k y) (storedH xs k b u):=by
 have e:(kvs.any λI=>decide (I.1=k))=(QP xs k).isSome:=by
  rw[fq,(r.val k).gk,Oe]
 unfold putK storedH;rw[e];by_cases q:(QP xs k).isSome=true
 .rw[Sv q,Sv q];show r.Eo k G
 .rw[Su q,Su q];show Paired.snoc r #[rfl,J,G]
theorem KT.keeps {H H':Hp}{kvs:List (List Key×V)}{xs:List (List Key×Addr×Value)}(r:KT H kvs xs) (G:∀b ys,H b=some (.tup ys)->H' b=some (.tup ys)):KT H' kvs xs :=
 Paired.zc r λ_ _ z=>#[z.1,G _ _ z.2.1,z.2.2]
section
variable {P:rr}{w:Bd}{H:Hp}{h:Heap}{a:Addr}
theorem Dt {u:HO}(ok:iZ P w H h) (e:Rd H a u):bT P w H h a u:=e.ok ok
theorem jD {kvs:List (Key×V)}(ok:iZ P w H h) (e:Rd H a (.dK kvs)):kvs.length<=sizeLine/\(a==LS)=false/\∃vs,KV kvs vs/\h.DictOf (br P w) a vs :=
 show bT P w H h a (.dK kvs)from Dt ok e
theorem gJ {kvs:List (Key×V)}(ok:iZ P w H h) (e:H a=some (.dK kvs)):kvs.length<=sizeLine/\(a==LS)=false/\∃vs,KV kvs vs/\h.DictOf (br P w) a vs:=jD ok (.inl e)
theorem ja {ks:List Key}(ok:iZ P w H h) (e:H a=some (.tup (ks.map kV))):(NF (br P w)).is h ks a:=by
 let#[_,its,r,o,h1,h2,n,G]:=(show bT P w H h a (.tup (ks.map kV))from ok a _ e);show#[o,its.toArray,n,h1,h2,G,by simpa using pW r]
theorem k6 {kvs:List (List Key×V)}(ok:iZ P w H h) (e:Rd H a (.dT kvs)):kvs.length<=sizeLine/\(a==LS)=false /\
  ∃xs,KT H kvs xs/\h.DictOfH (NF (br P w)) a xs:=by
 let#[z,y,xs,r,o,es,ep,h1,h2,O,L,J]:=(show bT P w H h a (.dT kvs)from Dt ok e);show#[z,y,xs,r,o,es,ep,h1,h2,O,L,λx G=>?_,J];have all:∀{l:List (List Key×V)}{m:List (List Key×Addr×Value)},KT H l m->∀x∈m,(NF (br P w)).is h x.1 x.2.1:=by
  intro l m q
  induction q with
  |nil=>intro x G;show nomatch G
  | @cons p q ps R I t N =>
   intro x G;rcases wh.mp G with e|G
   .subst e;show ja ok (by rw[<-I.1];show I.2.1)
   .show N x G
 show all r x G
theorem DE {kvs:List (List Key×V)}(ok:iZ P w H h) (e:H a=some (.dT kvs)):kvs.length<=sizeLine/\(a==LS)=false /\
  ∃xs,KT H kvs xs/\h.DictOfH (NF (br P w)) a xs:=k6 ok (.inl e)
end
noncomputable def cZ (H:Hp) (a:Addr) (y:V) (r:Option V):Prop :=
 (∃kvs k,Rd H a (.dK kvs)/\y=kV k/\r=bZ kvs k)\/∃kvs k b,Rd H a (.dT kvs)/\y=.ref b/\H b=some (.tup (k.map kV))/\r=bZ kvs k
noncomputable def fA (H:Hp) (a:Addr) (y v:V) (H':Hp):Prop :=
 (∃kvs k,H a=some (.dK kvs)/\y=kV k/\kvs.length<sizeLine/\H'=upd H a (.dK (putK kvs k v))) \/
 ∃kvs k b,H a=some (.dT kvs)/\y=.ref b/\H b=some (.tup (k.map kV))/\kvs.length<sizeLine/\H'=upd H a (.dT (putK kvs k v))
theorem cZ.k {H:Hp}{a:Addr}{kvs:List (Key×V)}{k:Key}(e:H a=some (.dK kvs)):cZ H a (kV k) (bZ kvs k):=.inl #[kvs,k,.inl e,1]
theorem cZ.t {H:Hp}{a b:Addr}{kvs:List (List Key×V)}{k:List Key}(e:H a=some (.dT kvs)) (G:H b=some (.tup (k.map kV))):cZ H a (.ref b) (bZ kvs k):=.inr #[kvs,k,b,.inl e,rfl,G,rfl]
theorem fA.k {H:Hp}{a:Addr}{kvs:List (Key×V)}{k:Key}{v:V}(e:H a=some (.dK kvs)) (G:kvs.length<sizeLine):fA H a (kV k) v (upd H a (.dK (putK kvs k v))):=.inl #[kvs,k,e,rfl,G,rfl]
theorem fA.t {H:Hp}{a b:Addr}{kvs:List (List Key×V)}{k:List Key}{v:V}(e:H a=some (.dT kvs)) (I:H b=some (.tup (k.map kV))) (G:kvs.length<sizeLine) :
  fA H a (.ref b) v (upd H a (.dT (putK kvs k v))):=.inr #[kvs,k,b,e,rfl,I,G,rfl]
section
variable {X:Cx}{pins:List (Addr×Obj)}{σ:St}{H:Hp}{s:mu}{a:Addr}{y v:V}{u r:Value}{o:Option V}{A:KL}{E:Value->mu->Prop}
theorem Inv.big (I:Inv X pins σ H s):LS<s.heap.objs.size:=by
 have h:Lc<s.heap.objs.size:=(I.mod.glob.keeps I.bk).lt;show Nat.lt_trans av h
theorem yI {Q:Value->mu->Prop}(U:A.units+1<Nq) (I:Inv X pins σ H s) (g:cZ H a y (some v)) (S:RelV y u) (h:∀G s',Inv X pins σ H s'->RelV v G->Q G s') :
  wpAny (model X.prog X.w) A (NO (.ref a) u) Q E s:=by
 rcases g with⟨kvs,k,e,R,l⟩|⟨kvs,k,b,e,R,eb,l⟩
 .subst R;let#[z,hd,vs,N,J]:=jD I.bE e;let#[G,O,L]:=fW.some_of (v:=v) (o:=Pc vs k) (by rw[l];show N.val k);show wpAny_getItem_of (iX S) J.mapOf O (h G _ (I.tok _) L)
 .subst R;cases(show u=Value.ref b from S);let#[z,hd,xs,N,J]:=k6 I.bE e;let#[G,O,L]:=fW.some_of (v:=v) (o:=(QP xs k).map (·.2)) (by rw[l];show N.val k);let#[p,Y,ab]:=pq.mp O;show wpAny_getItem_heap (Mg U) (ja I.bE eb) J Y ?_;rw[ab];show h G _ (I.tok _) L
theorem Jn {Q:Value->mu->Prop}(O:A.units+1<Nq) (I:Inv X pins σ H s) (g:cZ H a y o) (N:RelV y u) (h:∀s',Inv X pins σ H s'->Q (.bool o.isSome) s') :
  wpAny (model X.prog X.w) A (LJ .In u (.ref a)) Q E s:=by
 rcases g with⟨kvs,k,e,L,l⟩|⟨kvs,k,b,e,L,R,l⟩
 .subst L;let#[z,hd,vs,J,G]:=jD I.bE e;show wpAny_in_of (iX N) hd G.mapOf ?_;rw[<-(J.val k).gk, <-l];show h _ (I.tok _)
 .subst L;cases(show u=Value.ref b from N);let#[z,hd,xs,J,G]:=k6 I.bE e;show wpAny_in_heap (Mg O) (ja I.bE R) hd G ?_;have q:=(J.val k).gk;rw[Oe]at q;rw[<-q, <-l];show h _ (I.tok _)
theorem CG {Q:Value->mu->Prop}(O:A.units+1<Nq) (I:Inv X pins σ H s) (g:cZ H a y o) (N:RelV y u) (h:∀s',Inv X pins σ H s'->Q (.bool (!o.isSome)) s') :
  wpAny (model X.prog X.w) A (LJ .NotIn u (.ref a)) Q E s:=by
 rcases g with⟨kvs,k,e,L,l⟩|⟨kvs,k,b,e,L,R,l⟩
 .subst L;let#[z,hd,vs,J,G]:=jD I.bE e;show wpAny_notIn_of (iX N) hd G.mapOf ?_;rw[<-(J.val k).gk, <-l];show h _ (I.tok _)
 .subst L;cases(show u=Value.ref b from N);let#[z,hd,xs,J,G]:=k6 I.bE e;show wpAny_notIn_heap (Mg O) (ja I.bE R) hd G ?_;have q:=(J.val k).gk;rw[Oe]at q;rw[<-q, <-l];show h _ (I.tok _)
theorem jy {h':Heap}{t':Nat}{ob:HO}(I:Inv X pins σ H s) (G:FU (H a)) (hs:Heap.SameBut a s.heap h') (J:∃q,h'.get? a=some q) (new:bT X.prog X.w (upd H a ob) h' a ob) :
  Inv X pins σ (upd H a ob) { s with heap:=h',toks:=t' }:=
 I.write (x:=a) (e:=a) G (.inl rfl) (λb q L z=>(hs.2 b L).trans z) J new
theorem mU {P:rr}{w:Bd}{H':Hp}{h':Heap}{kvs:List (Key×V)}{vs:List (Key×Value)}(z:kvs.length<=sizeLine) (hd:(a==LS)=false) (G:KV kvs vs) (I:h'.DictOf (br P w) a vs) :
  bT P w H' h' a (.dK kvs):=#[z,hd,vs,G,I]
theorem oY {H':Hp}{Q:Unit->mu->Prop}(hu:A.units+1<Nq) (I:Inv X pins σ H s) (g:fA H a y v H') (ry:RelV y u) (rv:RelV v r) (h:∀s',Inv X pins σ H' s'->Q () s') :
  wpAny (model X.prog X.w) A (RV (.ref a) u r) Q E s:=by
 rcases g with⟨kvs,k,e,U,l,S⟩|⟨kvs,k,b,e,U,Y,l,S⟩
 .subst U S;let#[z,hd,vs,G,O]:=gJ I.bE e;have R:vs.length<=sizeLine:=(by rw[<-G.length];show z);have N:(putK kvs k v).length<=sizeLine:=(by have:=eG kvs k v;omega);show wpAny_setItem_pairs (hsz:=R) (iX ry) O λh' L hs=>h _ ?_;have he:∃q,h'.get? a=some q:=let ⟨q,_,_,J,_⟩:=L;#[q,J];show jy I (by rw[e];show LH) hs he (mU N hd (G.put k rv) L)
 .subst U S;cases(show u=Value.ref b from ry);let#[z,hd,xs,G,O]:=DE I.bE e;have R:xs.length<=sizeLine:=(by rw[<-Paired.length G];show z);have N:(putK kvs k v).length<=sizeLine:=(by have:=eG kvs k v;omega);show wpAny_setItem_heap (hsz:=R) (Mg hu) (ja I.bE Y) O λh' L hs=>h _ ?_;let#[q,es,ep,J,h2,h3,h4,_,h5]:=L;show jy I (by rw[e];show LH) hs #[q,J] #[N,hd,_,(G.put k Y rv).keeps λc ys ec=>?_,q,es,ep,J,h2,h3,h4,h5];rw[ah (cI ec e (λz=>nomatch z))];show ec
end
section
variable {X:Cx}{pins:List (Addr×Obj)}{σ:St}{H:Hp}{s:mu}{a:Addr}{kvs:List (Key×V)}{k:Key}{u:Value}{A:KL}{E:Value->mu->Prop}
theorem GN {v:V}{G:List Value}{Q:Value->mu->Prop}(I:Inv X pins σ H s) (e:H a=some (.dK kvs)) (L:RelV (kV k) u) (l:bZ kvs k=some v) (R:G=[]\/∃x,G=[x])
  (h:∀J s',Inv X pins σ (upd H a (.dK (mR kvs k))) s'->RelV v J->Q J s'):wpAny (model X.prog X.w) A (call (.builtin "dict.pop") (.ref a::u::G)) Q E s:=by
 let#[z,hd,vs,N,O]:=gJ I.bE e;let#[J,hw,ab]:=fW.some_of (v:=v) (o:=Pc vs k) (by rw[<-l];show N.val k);have U:(keyPart u).isSome=true:=by
  cases k with
  |inl i=>let#[t,q]:=(show ∃t,u=Value.int i t from L);subst q;rfl
  |inr x=>let#[t,q]:=(show ∃t,u=Value.str x t from L);subst q;rfl
 have ha:argsOk "dict.pop" #[.ref a::u::G,[]]:=by
  rcases R with q|⟨x,q⟩
  .subst q;show PySem.F.args_dict_pop_2 _ _
  .subst q;show PySem.F.args_dict_pop_3 _ _ _
 show Mw Pl O.typeIs PySem.F.entry_dict_pop ha (meets_dict_pop_there (br X.prog X.w) a (iX L) G R U)
  #[vs,J,O,by rw[<-N.length];show z,hw,λh' S hs=>h J _ ?_ ab]
 have he:∃q,h'.get? a=some q:=let ⟨q,_,_,Y,_⟩:=S;#[q,Y];show jy I (by rw[e];show LH) hs he (mU (KI (zv kvs k) z) hd (N.drop k) S)
theorem Gp {Q:Value->mu->Prop}(I:Inv X pins σ H s) (e:Rd H a (.dK kvs)) (h:∀t s',Inv X pins σ H s'->Q (.int kvs.length t) s'):wpAny (model X.prog X.w) A (call (.builtin "len") [.ref a]) Q E s:=by
 let#[z,hd,vs,G,J]:=jD I.bE e;show call_len_dict hd J (by rw[<-G.length];rw[ub]at z;omega) ?_;rw[<-G.length];show h _ _ (I.tok _)
end
noncomputable def Hq (i:KN):Prop:=∀ov G,Pr i false ov G=operate [ov,G] (NO ov G)
theorem Dh {prog:rr}{w:Bd}{A:KL}{E:Value->mu->Prop}{s:mu}{env:RU}{value I:KN}{pos:Nn}{T id:String}{Q:Value->mu->Prop}
  (S:typeLookup (.type T) "__getitem__" = pure (some (.builtin id))) (hs:Hq I)
  (h:wpAny (model prog w) A (eval value env) (λo O=>wpAny (model prog w) A (eval I env) (λi G=>G.TypeIs o T/\wpAny (model prog w) A (NO o i) Q E G) E O) E s) :
  wpAny (model prog w) A (eval (.Subscript value I pos) env) Q E s:=by
 show Rf (Nk h (λo O Y=>Nk Y (λi G L=>?_) λ_ _ x=>x) λ_ _ x=>x);let#[N,L]:=L;unfold PN;show iN ?_;rw[getitemInPython_of_ne N.not_modules];show iN (wpAny_specialOf N S ?_);have J:wpAny (model prog w) A (Pr I false o i) (λr R=>wpAny (model prog w) A (letTemporaryGo value o r>>=λ_=>pure r) Q E R) E G:=by
  rw[hs o i];show wpAny_operating (Nk L (λr R U=>iN (wpAny_letTemporaryGo (p4 U))) λ_ _ x=>x)
 first
  |show p4 (iN J)
  |show iN (p4 (iN J))
  |show iN J
theorem tL {X:Cx}{pins:List (Addr×Obj)}{σ:St}{H:Hp}{s:mu}{a:Addr}{y:V}{o:Option V}(I:Inv X pins σ H s) (g:cZ H a y o):s.TypeIs (.ref a) "dict" := by
 rcases g with⟨kvs,k,e,_,_⟩|⟨kvs,k,b,e,_,_,_⟩
 .let#[_,_,vs,_,G]:=jD I.bE e;show G.typeIs
 .let#[_,_,xs,_,G]:=k6 I.bE e;show G.typeIs
inductive AQ (td ty:TE) (Q:VK) (x:V) (y:V) (H2:Hp):Prop
 |mk (a:_) (v:_) (_:x=.ref a) (_:cZ H2 a y (some v)) (_:Q v H2):AQ td ty Q x y H2
noncomputable def GZ (td ty:TE):TE:=λσ H Q=>td σ H λx H1=>ty σ H1 λy H2=>AQ td ty Q x y H2
inductive DB (ty td:TE) (Q:VK) (y:V) (x:V) (H2:Hp):Prop
 |mk (a:_) (o:_) (_:x=.ref a) (_:cZ H2 a y o) (_:Q (.bl o.isSome) H2):DB ty td Q y x H2
noncomputable def IW (ty td:TE):TE:=λσ H Q=>ty σ H λy H1=>td σ H1 λx H2=>DB ty td Q y x H2
inductive tM (ty td:TE) (Q:VK) (y:V) (x:V) (H2:Hp):Prop
 |mk (a:_) (o:_) (_:x=.ref a) (_:cZ H2 a y o) (_:Q (.bl (!o.isSome)) H2):tM ty td Q y x H2
noncomputable def Cu (ty td:TE):TE:=λσ H Q=>ty σ H λy H1=>td σ H1 λx H2=>tM ty td Q y x H2
noncomputable def Gg (td ty tv:TE):TS:=λD σ H=>tv σ H λv H1=>td σ H1 λx H2=>ty σ H2 λy H3=>xZ λa H4=>sf (x=.ref a) (fA H3 a y v H4) (D.nx σ H4)
section
variable {X:Cx}{o i e value:KN}{pos pos' tpos:Nn}{td ty tv:TE}
theorem bh (N:X.A.units+1<Nq) (ho:PE X o td) (hi:PE X i ty) (hs:Hq i):PE X (.Subscript o i pos) (GZ td ty):=by
 intro pins s σ H Q I h;show Dh PySem.F.slot_dict_getitem.lookup hs (bV (ho pins s σ H _ I h) λu s1 U=>?_);let#[x,H1,S,L,q1]:=U;show bV (hi pins s1 σ H1 _ S q1) λiv s2 J=>?_;let#[y,H2,G,ry,a,v,ex,g,Y]:=J;subst ex;obtain rfl:u=Value.ref a:=L;show#[tL G g,yI N G g ry λw' s3 R O=>#[v,H2,R,O,Y]]
theorem m4 (L:X.A.units+1<Nq) (hi:PE X i ty) (Y:PE X o td):PC X .In i o (IW ty td):=by
 intro pins s σ H Q I h;show bV (hi pins s σ H _ I h) λiv s1 J=>?_;let#[y,H1,I1,U,q1]:=J;show bV (Y pins s1 σ H1 _ I1 q1) λu s2 N=>?_;let#[x,H2,S,G,a,ov,ex,g,R]:=N;subst ex;obtain rfl:u=Value.ref a:=G;show Jn L S g U λs3 O=>#[.bl ov.isSome,H2,O,rfl,R]
theorem gw (J:X.A.units+1<Nq) (hi:PE X i ty) (Y:PE X o td):PC X .NotIn i o (Cu ty td):=by
 intro pins s σ H Q I h;show bV (hi pins s σ H _ I h) λiv s1 L=>?_;let#[y,H1,I1,U,q1]:=L;show bV (Y pins s1 σ H1 _ I1 q1) λu s2 O=>?_;let#[x,H2,S,G,a,ov,ex,g,R]:=O;subst ex;obtain rfl:u=Value.ref a:=G;show CG J S g U λs3 N=>#[.bl (!ov.isSome),H2,N,rfl,R]
theorem jT (L:X.A.units+1<Nq) (ho:PE X o td) (hi:PE X i ty) (hv:PE X value tv) (hs:OG value (some (.Subscript o i pos')) pos.line X.env=pure false) :
  PS X (.Assign [.Subscript o i pos'] value pos) (Gg td ty tv):=by
 intro pins s σ H D I h;show wpAny_Assign_Subscript (bV (hv pins s σ H _ I h) λr s1 U=>?_) hs;let#[v,H1,R,S,q1]:=U;show bV (ho pins s1 σ H1 _ R q1) λu s2 ab=>?_;let#[x,H2,O,J,q2]:=ab;show bV (hi pins s2 σ H2 _ O q2) λiv s3 Y=>?_;let#[y,H3,N,ry,a,H4,ex,g,q3]:=Y;subst ex;obtain rfl:u=Value.ref a:=J;show oY L N g ry S λs4 G=>#[σ,H4,G,q3]
end
theorem tD {P:rr}{w:Bd}{H:Hp}(h:Heap) (G:LS<h.objs.size):bT P w H (h.push { cls:=.type "dict",data:=.dict ([].toArray) }) h.objs.size (.dK []):=
 #[KH _,beq_eq_false_iff_ne.mpr (qs (KZ G)),[],.nil,Heap.DictOf.new h]
theorem Bc {P:rr}{w:Bd}{H:Hp}(h:Heap) (G:LS<h.objs.size):bT P w H (h.push { cls:=.type "dict",data:=.dict ([].toArray) }) h.objs.size (.dT []):=
 #[KH _,beq_eq_false_iff_ne.mpr (qs (KZ G)),[],.nil,_, ([].toArray),(0),Heap.get?_push_size _ rfl,#[1,rfl],1,Mc]
noncomputable def FG:TE:=λ_ H Q=>∀p,H p=none->Q (.ref p) (upd H p (.dK []))
noncomputable def Fb:TE:=λ_ H Q=>∀p,H p=none->Q (.ref p) (upd H p (.dT []))
section
variable {X:Cx}{pos:Nn}
theorem dr:PE X (.Dict [] [] pos) FG:=λpins s σ H Q I h =>
 QD #[.ref s.heap.objs.size,_,I.laid (a:=s.heap.objs.size) (o:=.dK []) (t':=s.toks) (λ_ _ q=>Heap.get?_push_of_some _ q) (qj _) (tD s.heap I.big),rfl,h _ (I.bE.fresh (qj _))]
theorem Be:PE X (.Dict [] [] pos) Fb:=λpins s σ H Q I h =>
 QD #[.ref s.heap.objs.size,_,I.laid (a:=s.heap.objs.size) (o:=.dT []) (t':=s.toks) (λ_ _ q=>Heap.get?_push_of_some _ q) (qj _) (Bc s.heap I.big),rfl,h _ (I.bE.fresh (qj _))]
end
noncomputable def vc:List (TE×TE)->St->Hp->(List (V×V)->Hp->Prop)->Prop
 | [],_,H,Q=>Q [] H
 |(tk,tv)::r,σ,H,Q=>tk σ H λx H1=>tv σ H1 λy H2=>vc r σ H2 λps H3=>Q ((x,y)::ps) H3
noncomputable abbrev VV:List (V×V)->List (Value×Value)->Prop:=Paired λp q=>RelV p.1 q.1/\RelV p.2 q.2
noncomputable def ID (X:Cx) (pos:Nn) (keys:List (Option KN)) (values:List KN) (G:List (TE×TE)):Prop :=
 ∀(pins:List (Addr×Obj)) (s:mu) (σ:St) (H:Hp) (Q:List (V×V)->Hp->Prop),Inv X pins σ H s->vc G σ H Q ->
  wpAny (model X.prog X.w) X.A (evalPairs (pairTrees keys values X.env pos)) (λvs s'=>∃ps H',Inv X pins σ H' s'/\VV ps vs/\Q ps H') X.xe s
theorem Cc {X:Cx}{pos:Nn}:ID X pos [] [] []:=λpins s σ H Q I h=>pairTrees_nil_walk #[[],H,I,.nil,h]
theorem jv {X:Cx}{pos:Nn}{k v:KN}{ks:List (Option KN)}{vs:List KN}{tk tv:TE}{G:List (TE×TE)}(S:PE X k tk) (hv:PE X v tv) (R:ID X pos ks vs G) :
  ID X pos (some k::ks) (v::vs) ((tk,tv)::G):=λpins s σ H Q I h =>
 pairTrees_cons_walk (bV (S pins s σ H _ I h) λu s1 ⟨x,H1,O,J,q1⟩=>bV (hv pins s1 σ H1 _ O q1) λw2 s2 ⟨y,H2,N,ry,U⟩ =>
  bV (R pins s2 σ H2 _ N U) λws s3 Y=>by let#[ps,H3,L,ab,q3]:=Y;show#[(x,y)::ps,H3,L,.cons #[J,ry] ab,q3])
noncomputable def kr (kvs J:List (Key×V)):List (Key×V):=J.foldl (λI G=>putK I G.1 G.2) kvs
theorem KV.merge:∀{I:List (Key×V)}{G:List (Key×Value)}{kvs:List (Key×V)}{vs:List (Key×Value)},KV I G->KV kvs vs->KV (kr kvs I) (merged vs G):=by
 intro I G kvs vs r;unfold KV at r
 induction r generalizing kvs vs with
 |nil=>intro q;show q
 | @cons p q ps N h t L =>
  intro J;have e:KV (putK kvs p.1 p.2) (stored vs q.1 q.2):=by
   have:=J.put p.1 h.2;rw[<-h.1];show this
  show L e
theorem iY:∀(G kvs:List (Key×V)),(kr kvs G).length<=kvs.length+G.length
 | [],kvs=>by change kvs.length<=kvs.length+0;omega
 |p::r,kvs=>by
  have h1:=iY r (putK kvs p.1 p.2);have h2:=eG kvs p.1 p.2;change(kr (putK kvs p.1 p.2) r).length<=_;rw[DO];omega
theorem mG {P:rr}{w:Bd}:∀{kvs:List (Key×V)}{ws:List (Value×Value)},VV (kvs.map λI=>(kV I.1,I.2)) ws->∃G,Carries (br P w) ws G/\KV kvs G
 | [],_,r=>by rw[QW]at r;cases r;show#[[],LH,.nil]
 |p::kvs,_,r=>by
  rw[LQ]at r;cases r with
  | @cons a b L bs h t =>
   let#[G,c,q]:=mG (P:=P) (w:=w) t;let#[N,J]:=b;show#[(p.1,J)::G,#[iX h.1,rfl,c],.cons #[rfl,h.2] q]
noncomputable def Hu (I:List (TE×TE)):TE:=λσ H Q=>∀p,H p=none->vc I σ (upd H p (.dK [])) λps H2=>H2 p=some (.dK [])/\∃kvs:List (Key×V),ps=kvs.map (λG=>(kV G.1,G.2))/\kvs.length<=15/\Q (.ref p) (upd H2 p (.dK (kr [] kvs)))
theorem BV {X:Cx}{pos:Nn}{keys:List (Option KN)}{values:List KN}{G:List (TE×TE)}(h:ID X pos keys values G) (R:keys.all (·.isSome)=true) (O:keys.length=values.length) (h0:keys≠[])
  (ab:keys.length<=15):PE X (.Dict keys values pos) (Hu G):=by
 intro pins s σ H Q I q;have hn:=I.bE.fresh (qj s.heap.objs.size);have I1:=I.laid (a:=s.heap.objs.size) (o:=.dK []) (h':=s.heap.push { cls:=.type "dict",data:=.dict ([].toArray) }) (t':=s.toks) (λ_ _ q=>Heap.get?_push_of_some _ q) (qj _) (tD s.heap I.big);show wpAny_Dict_walk (knd:=br X.prog X.w) R O h0 ab (bV (h pins _ σ _ _ I1 (q _ hn)) λws s2 Y=>?_);let#[ps,H2,J,ac,e,kvs,ep,lk,q2]:=Y;subst ep;let#[rs,c,N]:=mG (P:=X.prog) (w:=X.w) ac;let#[z,hd,am,r0,U]:=gJ J.bE e;cases r0;show#[rs,c,U,λh' L hs=>#[.ref s.heap.objs.size,_,?_,rfl,q2]];have hz:(kr [] kvs).length<=sizeLine:=by
  have h1:=iY kvs [];rw[Qa]at h1;rw[ub];omega
 have he:∃q,h'.get? s.heap.objs.size=some q:=let ⟨q,_,_,S,_⟩:=L;#[q,S];show jy J (by rw[e];show LH) hs he (mU hz hd (N.merge .nil) L)
structure M1 (X:Cx) (o:KN) (m:Str) (apos:Nn) (e:KN) (cpos:Nn):Prop where
 base:ME o m X.env (eval o X.env)=eval o X.env
 He:((backTo cpos (starEach [e] X.env)).all (λx => !x.1)&&(OI cpos (Nr [] X.env)).all (λx=>x.1.isSome)
  && decide (([e]:List KN).length+([]:List PF).length+(if ([]:List PF).isEmpty then 0 else 1)<30))=true
 line:(apos.endLine==cpos.line)=true
 trees:backTo cpos (starEach [e] X.env)=[(false,eval e X.env)]
structure M2 (X:Cx) (o:KN) (m:Str) (apos:Nn) (e f:KN) (cpos:Nn):Prop where
 base:ME o m X.env (eval o X.env)=eval o X.env
 He:((backTo cpos (starEach [e,f] X.env)).all (λx => !x.1)&&(OI cpos (Nr [] X.env)).all (λx=>x.1.isSome)
  && decide (([e,f]:List KN).length+([]:List PF).length+(if ([]:List PF).isEmpty then 0 else 1)<30))=true
 line:(apos.endLine==cpos.line)=true
 trees:backTo cpos (starEach [e,f] X.env)=[(false,eval e X.env),(false,eval f X.env)]
noncomputable def Gn (H:Hp) (a:Addr):Prop:=(∃kvs,Rd H a (.dK kvs))\/∃kvs,Rd H a (.dT kvs)
theorem ky {X:Cx}{pins:List (Addr×Obj)}{σ:St}{H:Hp}{s:mu}{a:Addr}(I:Inv X pins σ H s) (d:Gn H a) :
  s.TypeIs (.ref a) "dict" /\ (∀b,Value.ref a=.ref b->∃ob,s.heap.get? b=some ob/\ob.dict=none)/\(a==LS)=false:=by
 rcases d with⟨kvs,e⟩|⟨kvs,e⟩
 .let#[_,hd,vs,_,G]:=jD I.bE e;show#[G.typeIs,λb q=>?_,hd];cases q;let#[ob,_,_,h1,h2,_]:=G;show#[ob,h1,h2.2.1]
 .let#[_,hd,xs,_,G]:=k6 I.bE e;show#[G.typeIs,λb q=>?_,hd];cases q;let#[ob,_,_,h1,h2,_]:=G;show#[ob,h1,h2.2.1]
section
variable {X:Cx}{pins:List (Addr×Obj)}{σ:St}{H:Hp}{s:mu}{a:Addr}{y d:V}{u r:Value}{o:Option V}{A:KL}{E:Value->mu->Prop}
theorem Eb {Q:Value->mu->Prop}(R:A.units+1<Nq) (I:Inv X pins σ H s) (g:cZ H a y o) (O:RelV y u) (h:∀N s',Inv X pins σ H s'->RelV (o.getD .non) N->Q N s') :
  wpAny (model X.prog X.w) A (call (.builtin "dict.get") [.ref a,u]) Q E s:=by
 rcases g with⟨kvs,k,e,L,l⟩|⟨kvs,k,b,e,L,S,l⟩
 .subst L;let#[z,hd,vs,J,G]:=jD I.bE e;show Mw Nd G.typeIs Of (ON _ _) (meets_dict_get (br X.prog X.w) a (iX O) hd) #[_,G.mapOf,h _ _ (I.tok _) ?_];rw[l];show(J.val k).getD rfl
 .subst L;cases(show u=Value.ref b from O);let#[z,hd,xs,J,G]:=k6 I.bE e;show Mw Nd G.typeIs Of (ON _ _) (meetsH_dict_get (NF (br X.prog X.w)) a b hd) #[Mg R,k,xs,ja I.bE S,G,h _ _ (I.tok _) ?_];rw[l];show(J.val k).getD rfl
theorem EO {Q:Value->mu->Prop}(R:A.units+1<Nq) (I:Inv X pins σ H s) (g:cZ H a y o) (O:RelV y u) (rd:RelV d r) (h:∀N s',Inv X pins σ H s'->RelV (o.getD d) N->Q N s') :
  wpAny (model X.prog X.w) A (call (.builtin "dict.get") [.ref a,u,r]) Q E s:=by
 rcases g with⟨kvs,k,e,L,l⟩|⟨kvs,k,b,e,L,S,l⟩
 .subst L;let#[z,hd,vs,J,G]:=jD I.bE e;show Mw Nd G.typeIs Of (OO _ _ _) (meets_dict_get_default (br X.prog X.w) a (iX O) hd r) #[_,G.mapOf,h _ _ (I.tok _) ?_];rw[l];show(J.val k).getD rd
 .subst L;cases(show u=Value.ref b from O);let#[z,hd,xs,J,G]:=k6 I.bE e;show Mw Nd G.typeIs Of (OO _ _ _) (meetsH_dict_get_default (NF (br X.prog X.w)) a b hd r) #[Mg R,k,xs,ja I.bE S,G,h _ _ (I.tok _) ?_];rw[l];show(J.val k).getD rd
end
inductive xv (td ty:TE) (σ:St) (Q:VK) (x:V) (H1:Hp):Prop
 |mk (a:_) (_:x=.ref a) (_:Gn H1 a) (_:ty σ H1 λy H2=>∃o,cZ H2 a y o/\Q (o.getD .non) H2):xv td ty σ Q x H1
noncomputable def EA (td ty:TE):TE:=λσ H Q=>td σ H λx H1=>xv td ty σ Q x H1
inductive wD (td ty tx:TE) (σ:St) (Q:VK) (x:V) (H1:Hp):Prop
 |mk (a:_) (_:x=.ref a) (_:Gn H1 a) (_:ty σ H1 λy H2=>tx σ H2 λz H3=>∃o,cZ H3 a y o/\Q (o.getD z) H3):wD td ty tx σ Q x H1
noncomputable def DW (td ty tx:TE):TE:=λσ H Q=>td σ H λx H1=>wD td ty tx σ Q x H1
inductive wC (td ty:TE) (σ:St) (Q:VK) (x:V) (H1:Hp):Prop
 |mk (a:_) (_:x=.ref a) (_:Gn H1 a) (_:ty σ H1 λy H2=>∃kvs k v,H2 a=some (.dK kvs)/\y=kV k/\bZ kvs k=some v/\Q v (upd H2 a (.dK (mR kvs k)))):wC td ty σ Q x H1
noncomputable def EB (td ty:TE):TE:=λσ H Q=>td σ H λx H1=>wC td ty σ Q x H1
section
variable {X:Cx}{o e f:KN}{apos cpos:Nn}{td ty tx:TE}
theorem Bk (L:X.A.units+1<Nq) (ho:PE X o td) (he:PE X e ty) (m:M1 X o "get" apos e cpos):PE X (.Call (.Attribute o "get" apos) [e] [] cpos) (EA td ty):=by
 intro pins s σ H Q I h;show Nz m.base m.He m.line MC Nd Pm (bV (ho pins s σ H _ I h) λu s1 N=>?_);let#[x,H1,G,J,a,ex,d,q1]:=N;subst ex;obtain rfl:u=Value.ref a:=J;let#[S,t2,_]:=ky G d;show#[S,t2,?_];rw[m.trees];show Calls.callWith_builtin rfl (Calls.evalArgs_plain (Calls.spliced_cons (bV (he pins s1 σ H1 _ G q1) λiv s2 Y=>?_)));let#[y,H2,U,ry,ov,g,q2]:=Y;show Calls.spliced_nil ?_;show Eb L U g ry λw' s3 R O=>#[_,H2,R,O,q2]
theorem lS (O:X.A.units+1<Nq) (ho:PE X o td) (he:PE X e ty) (hf:PE X f tx) (m:M2 X o "get" apos e f cpos):PE X (.Call (.Attribute o "get" apos) [e,f] [] cpos) (DW td ty tx):=by
 intro pins s σ H Q I h;show Nz m.base m.He m.line MC Nd Pm (bV (ho pins s σ H _ I h) λu s1 S=>?_);let#[x,H1,G,L,a,ex,d,q1]:=S;subst ex;obtain rfl:u=Value.ref a:=L;let#[Y,t2,_]:=ky G d;show#[Y,t2,?_];rw[m.trees];show Calls.callWith_builtin rfl (Calls.evalArgs_plain (Calls.spliced_cons (bV (he pins s1 σ H1 _ G q1) λiv s2 ⟨y,H2,I2,ry,q2⟩ =>
  Calls.spliced_cons (bV (hf pins s2 σ H2 _ I2 q2) λfv s3 ⟨z,H3,U,N,ov,g,q3⟩=>Calls.spliced_nil ?_))))
 show EO O U g ry N λw' s4 J R=>#[_,H3,J,R,q3]
theorem eE (ho:PE X o td) (he:PE X e ty) (m:M1 X o "pop" apos e cpos):PE X (.Call (.Attribute o "pop" apos) [e] [] cpos) (EB td ty):=by
 intro pins s σ H Q I h;show Nz m.base m.He m.line MC Pl PySem.F.type_dict_pop (bV (ho pins s σ H _ I h) λu s1 ab=>?_);let#[x,H1,G,J,a,ex,d,q1]:=ab;subst ex;obtain rfl:u=Value.ref a:=J;let#[O,Y,_]:=ky G d;show#[O,Y,?_];rw[m.trees];show Calls.callWith_builtin rfl (Calls.evalArgs_plain (Calls.spliced_cons (bV (he pins s1 σ H1 _ G q1) λiv s2 S=>?_)));let#[y,H2,R,ry,kvs,k,v,ea,U,l,q2]:=S;show Calls.spliced_nil ?_;subst U;show GN R ea ry l (.inl rfl) λw' s3 N L=>#[v,_,N,L,q2]
end
section
variable {X:Cx}{pins:List (Addr×Obj)}{σ:St}{H:Hp}{s:mu}{a:Addr}{kvs:List (Key×V)}{A:KL}{E:Value->mu->Prop}
end
section
variable {X:Cx}{pins:List (Addr×Obj)}{σ:St}{H:Hp}{s:mu}{a:Addr}{y:V}{u:Value}{A:KL}{E:Value->mu->Prop}
end
section
variable {X:Cx}
theorem kE:dB X (.builtin "len") (λxs H Q=>∃a kvs,xs=[V.ref a]/\H a=some (.dK kvs)/\Q (.int kvs.length) H):=by
 intro pins s σ H xs us Q I r h;let#[a,kvs,rfl,L,q]:=h;let#[u,rfl,J]:=vals1 r;cases J;show Gp I (.inl L) λt s' G=>#[.int kvs.length,H,G,#[t,rfl],q]
end
section
variable {κ:Type} [DecidableEq κ]
theorem fN:∀{l:List κ}{k:κ},l.Nodup->¬ k∈l->(l++[k]).Nodup
 | [],k,_,_=>by simp
 |a::r,k,h,G=>by
  let#[h1,h2]:=KJ.mp h;change(a::(r++[k])).Nodup;show KJ.mpr #[λm=>?_,fN h2 λm=>G (wh.mpr (So m))];rcases oR.mp m with q|q
  .show h1 q
  .show G (wh.mpr (Sn (n7.mp q).symm))
end
section
variable {X:Cx}{pins:List (Addr×Obj)}{σ:St}{H:Hp}{s:mu}{a:Addr}{kvs:List (Key×V)}{k:Key}{u r:Value}{d:V}{A:KL}{E:Value->mu->Prop}
theorem Fv {Q:Value->mu->Prop}(I:Inv X pins σ H s) (e:H a=some (.dK kvs)) (ry:RelV (kV k) u) (rd:RelV d r) (hl:kvs.length<sizeLine)
  (h1:∀v J s',bZ kvs k=some v->Inv X pins σ H s'->RelV v J->Q J s') (h2:∀s',bZ kvs k=none->Inv X pins σ (upd H a (.dK (putK kvs k d))) s'->Q r s') :
  wpAny (model X.prog X.w) A (call (.builtin "dict.setdefault") [.ref a,u,r]) Q E s:=by
 let#[z,hd,vs,G,N]:=gJ I.bE e;show Mw NY N.typeIs PySem.F.entry_dict_setdefault (PySem.F.args_dict_setdefault_3 _ _ _) (kt_meets_setdefault (br X.prog X.w) a (iX ry) hd r)
  #[vs,N,by rw[<-G.length];show z,λv L=>?_,λY h' O hs=>?_]
 .have q:=G.val k;cases l:bZ kvs k with
  |none=>rw[l]at q;rw[fW.none_of q]at L;cases L
  |some y =>
   rw[l]at q;let#[J,R,U]:=fW.some_of q;rw[L]at R;cases R;show h1 y v _ l (I.tok _) U
 .have l:bZ kvs k=none:=by
   cases l:bZ kvs k with
   |none=>rfl
   |some y =>
    have q:=G.val k;rw[l,Y]at q;cases q
  have he:∃q,h'.get? a=some q:=let ⟨q,_,_,S,_⟩:=O;#[q,S];show h2 _ l (jy I (by rw[e];show LH) hs he (mU (by have:=eG kvs k d;omega) hd (G.put k rd) O))
end
inductive wV (td ty tx:TE) (σ:St) (Q:VK) (x:V) (H1:Hp):Prop
 |mk (a:_) (_:x=.ref a) (_:Gn H1 a) (_:ty σ H1 λy H2=>tx σ H2 λz H3=>∃kvs k,H3 a=some (.dK kvs)/\y=kV k/\kvs.length<sizeLine/\(∀v,bZ kvs k=some v->Q v H3)/\(bZ kvs k=none->Q z (upd H3 a (.dK (putK kvs k z))))):wV td ty tx σ Q x H1
noncomputable def Ew (td ty tx:TE):TE:=λσ H Q=>td σ H λx H1=>wV td ty tx σ Q x H1
section
variable {X:Cx}{o e f:KN}{apos cpos:Nn}{td ty tx:TE}
theorem Ar (ho:PE X o td) (he:PE X e ty) (hf:PE X f tx) (m:M2 X o "setdefault" apos e f cpos):PE X (.Call (.Attribute o "setdefault" apos) [e,f] [] cpos) (Ew td ty tx):=by
 intro pins s σ H Q I h;show Nz m.base m.He m.line MC NY PySem.F.type_dict_setdefault (bV (ho pins s σ H _ I h) λu s1 ab=>?_);let#[x,H1,L,O,a,ex,d,q1]:=ab;subst ex;obtain rfl:u=Value.ref a:=O;let#[U,t2,_]:=ky L d;show#[U,t2,?_];rw[m.trees];show Calls.callWith_builtin rfl (Calls.evalArgs_plain (Calls.spliced_cons (bV (he pins s1 σ H1 _ L q1) λiv s2 ⟨y,H2,Y,ry,q2⟩ =>
  Calls.spliced_cons (bV (hf pins s2 σ H2 _ Y q2) λfv s3 ⟨z,H3,S,J,kvs,k,ea,ey,N,q3,q4⟩=>Calls.spliced_nil ?_))))
 subst ey;show Fv S ea ry J N (λv w' s4 l G R=>#[v,_,G,R,q3 v l]) λs4 l G=>#[z,_,G,J,q4 l]
end
section
variable {X:Cx}{pins:List (Addr×Obj)}{σ:St}{H:Hp}{s:mu}{a:Addr}{o:Obj}{u:HO}{kvs:List (Key×V)}
theorem Inv.swap {w:HO}(I:Inv X pins σ H s) (h:H a=some u) (h1:∀o G,X.H₀ a≠some (.bO o G)) (h2:∀xs,u≠.tup xs) (h3:∀ps,u≠.tbl ps) (R:∀x,u≠.own x) (new:bT X.prog X.w (upd H a w) s.heap a w):Inv X pins σ (upd H a w) s:=by
 have J:∀b,H b=none->b≠a:=λb q z=>(by rw[z,h]at q;cases q);show#[I.ok,I.os,I.bare,#[I.base.keep,I.base.slot,λb o q nn Y=>?_,I.base.there,λb xs q=>?_,λb o G q=>?_,λb ps q=>?_],I.loc,I.cell,?_,λy c q=>?_,λp S=>?_,λb v q=>?_,I.len]
 .have z:=I.base.free b o q nn Y;rw[ah (J b z)];show z
 .have z:=I.base.mf b xs q;rw[ah (λe=>h2 xs (by rw[e,h]at z;show rk z))];show z
 .have z:=I.base.oN b o G q;rw[ah (λe=>h1 o G (by rw[<-e];show q))];show z
 .let#[U,z]:=I.base.qQ b ps q;show#[U,by rw[ah (λe=>h3 _ (by rw[e,h]at z;show rk z))];show z]
 .rw[ah (J _ I.free)];show I.free
 .rw[ah (J _ (I.gH y c q))];show I.gH y c q
 .let#[a1,N,O]:=I.pin p S;show#[a1,by rw[ah (J _ N)];show N,O]
 .by_cases L:b=a
  .subst L;rw[af]at q;cases q;show new
  .rw[ah L]at q;show(I.bE b v q).mW (λ_ _ _ z=>z) (λc z=>by rw[ah (λe=>R b (by rw[e,h]at z;show rk z))];show z) λc xs z=>by rw[ah (λe=>h2 xs (by rw[e,h]at z;show rk z))];show z
theorem Inv.freeze (I:Inv X pins σ H s) (h:H a=some (.dK kvs)) (G:s.heap.get? a=some o) (h1:∀o J,X.H₀ a≠some (.bO o J)):Inv X pins σ (upd H a (.bO o (.dK kvs))) s :=
 I.swap h h1 (λ_ z=>nomatch z) (λ_ z=>nomatch z) (λ_ z=>nomatch z) #[G,(show bT X.prog X.w H s.heap a (.dK kvs)from I.bE a _ h)]
theorem Inv.FA (I:Inv X pins σ H s) (h:H a=some (.bO o (.dK kvs))) (h1:∀o G,X.H₀ a≠some (.bO o G)):Inv X pins σ (upd H a (.dK kvs)) s :=
 I.swap h h1 (λ_ z=>nomatch z) (λ_ z=>nomatch z) (λ_ z=>nomatch z) (show bT X.prog X.w H s.heap a (.bO o (.dK kvs))from I.bE a _ h).2
end
noncomputable def r6 (o:Obj):Nat:=match o.data with
 |.dict _ ep=>ep
 |_=>0
noncomputable def Fh (a:Addr) (o:Obj) (kvs:List (Key×V)):It :=
 #[λi H=>H a=some (.bO o (.dK kvs))/\i<kvs.length,λi H x H'=>H'=H/\∃k v,kvs[i]?=some (k,v)/\x=kV k,λi H=>H a=some (.bO o (.dK kvs))/\kvs.length<=i]
theorem qK {P:rr}{w:Bd}{k:Key}{u:Value}(h:(br P w).is k u=true):RelV (kV k) u:=by
 rcases cy (show nG k u=true from h)with⟨i,t,rfl,rfl⟩|⟨x,t,rfl,rfl⟩
 .show#[t,rfl]
 .show#[t,rfl]
theorem km {P:rr}{w:Bd}{H:Hp}{h:Heap}{a:Addr}{o:Obj}{kvs:List (Key×V)}(ok:iZ P w H h) (e:H a=some (.bO o (.dK kvs))):(a==LS)=false/\∃vs,KV kvs vs/\h.DictAt (br P w) a vs (r6 o):=by
 let#[G,_,hd,vs,r,o',es,ep,h1,h2,I,J]:=(show bT P w H h a (.bO o (.dK kvs))from ok a _ e);rw[G]at h1;cases h1;have L:r6 o=ep:=(by unfold r6;rw[I]);show#[hd,vs,r,o,es,G,h2,by rw[L];show I,J]
theorem yd {P:rr}{w:Bd}{K:iF}{tg:KN}(a it:Addr) (aT:a≠it) (o:Obj) (kvs:List (Key×V)):Turn P w K tg (Fh a o kvs) [it] it (λi h=>h.IsKeyIter it a i kvs.length (r6 o)) where
 mem:=by simp
 obj:=λi h st b G=>by
  have e:b=it:=(by simpa using G);subst e;let#[ob,h1,_,h3]:=st;show#[ob,h1,λv z=>by rw[h3]at z;cases z]
 keep:=λi h h' st k=>st.at λo e=>k it (by simp) o e
 item:=by
  intro X S Y hK hc i pins s σ H E I J st O;subst S Y hK;let#[ab,ac]:=O;let#[f0,f1,f2,R,N,f5]:=J it (by simp);let#[hd,vs,r,U]:=km I.bE ab;have L:=r.length;obtain⟨⟨k,x⟩,hx⟩:∃p,vs[i]?=some p:=#[vs[i]'ae,by simp];have ap:∃v,kvs[i]?=some (k,v):=by
   have hi:i<kvs.length:=ac;show#[(kvs[i]).2,?_];have e:=r.keys;have e1:(kvs.map (·.1))[i]?=(vs.map (·.1))[i]?:=(by rw[e]);rw[rz,rz,hx,ti hi]at e1;have e2:kvs[i].1=k:=rk e1;rw[ti hi, <-e2]
  let#[v,hv]:=ap;rw[L]at st ⊢;show wpAny_pyNext_dict_item st U hx λa0 h' as am aB=>?_;have I1:Inv X pins σ H { s with heap:=h',toks:=s.toks }:=I.turned (λb o G e=>(aB.2 b G).trans e) f0 f1 R N f5;let#[ob,h1,h2,h3]:=id am;show#[0,mT (s:={ s with heap:=h' }) (n := "dict_keyiterator") h1 h2 h3 av #[kV k,H,I1,qK as,#[rfl,k,v,hv,rfl],am,λb G=>(J b G).1]]
 done:=by
  intro X S Y hK hc i pins s σ H E I J st O;subst S Y hK;let#[ab,ac]:=O;let#[f0,f1,f2,R,N,f5]:=J it (by simp);let#[hd,vs,r,U]:=km I.bE ab;have L:=r.length;rw[L]at st;show wpAny_pyNext_dict_end (I.ok.hd hc) st U (by simp;omega) λh' eb=>#[rfl,I.turned (t':=s.toks) (λb o G e=>eb b o G e) f0 f1 R N f5]
 self:=λ_ _ _ _ _ st h=>Pz st h
noncomputable def Hw (H₀:Hp) (td:TE):TI:=λσ H R=>td σ H λx H1=>xZ λa kvs=>Em (x=.ref a) (H1 a=some (.dK kvs)) ((∀o G,H₀ a≠some (.bO o G))) (∀o,R (Fh a o kvs) (upd H1 a (.bO o (.dK kvs))))
section
variable {X:Cx}{tg:KN}
theorem lM {l:KN}{td:TE}(N:PE X l td):PI X tg l (Hw X.H₀ td):=by
 intro pins s σ H R I h;show bV (N pins s σ H _ I h) λv s1 O=>?_;let#[x,H1,J,r1,a,kvs,e,L,U,q]:=O;subst e;cases r1;let#[_,hd,vs,ab,S]:=gJ J.bE L;let#[ob,es,ep,h1,h2,h3,h4]:=id S;have G:=J.freeze L h1 U;have lt:a<s1.heap.objs.size:=Heap.lt_size h1;have Y:s1.heap.DictAt (br X.prog X.w) a vs (r6 ob):=#[ob,es,h1,h2,by unfold r6;rw[h3],h4];show wpAny_pyIter_dict hd Y ?_;show#[s1.heap.objs.size,[s1.heap.objs.size],_,Fh a ob kvs,0,G.kept (t':=s1.toks) λb o e=>Heap.get?_push_of_some _ e,yd a _ (KZ lt) ob kvs,#[_,Heap.get?_push_size _ rfl,5],λb hb=>?_,q ob]
 .rw[ab.length];rfl
 .have e:b=s1.heap.objs.size:=(by simpa using hb);subst e;show G.jn (qj _) (G.bE.fresh (qj _))
noncomputable def GB (H₀:Hp) (t:TS):TS:=λD σ H=>t { D with
 nx:=λI H'=>∃a o kvs,H' a=some (.bO o (.dK kvs))/\(∀o G,H₀ a≠some (.bO o G))/\D.nx I (upd H' a (.dK kvs))
 rt:=λv H'=>∃a o kvs,H' a=some (.bO o (.dK kvs))/\(∀o G,H₀ a≠some (.bO o G))/\D.rt v (upd H' a (.dK kvs)) } σ H
theorem iS {st:KP}{t:TS}(h:PS X st t):PS X st (GB X.H₀ t):=by
 intro pins s σ H D I q;show bV (h pins s σ H _ I q) λf s1 G=>?_;cases f with
 |next =>
  let#[O,H',J,a,o,kvs,R,N,L]:=G;show#[O,_,J.FA R N,L]
 |ret u =>
  let#[v,O,H',J,r,a,o,kvs,R,N,L]:=G;show#[v,O,_,J.FA R N,r,L]
 |brk=>show G
 |cont=>show G
end
theorem lX {a:Addr}{o:Obj}{kvs:List (Key×V)}{g:TG}{tb:TS}{D:Ends}{σ:St}{H:Hp}(Pv:Nat->St->Hp->Prop) (S:Pv 0 σ H) (O:∀i σ H,i<=kvs.length->Pv i σ H->H a=some (.bO o (.dK kvs)))
  (hs:∀i k v σ H,kvs[i]?=some (k,v)->Pv i σ H->g (kV k) σ H λG H2=>tb { D with nx:=Pv (i+1),ct:=Pv (i+1),bk:=D.nx } G H2) (hd:∀σ H,Pv kvs.length σ H->D.nx σ H) :
  ∃W:Nat->Nat->St->Hp->Prop,(∃m,W 0 m σ H)/\∀i m σ H,W i m σ H ->
   ((Fh a o kvs).stop i H/\D.nx σ H)\/((Fh a o kvs).go i H/\∃N:St->Hp->Prop,(∀I H',N I H'->∃L,L<m/\W (i+1) L I H')/\∀x H',(Fh a o kvs).Bz i H x H'->g x σ H' λG H2=>tb { D with nx:=N,ct:=N,bk:=D.nx } G H2):=by
 show#[λi m σ H=>m=kvs.length-i/\i<=kvs.length/\Pv i σ H,#[kvs.length,by simp,KH _,S],?_];rintro i m σ H ⟨rfl,hi,p⟩;have q:=O i σ H hi p;by_cases J:i<kvs.length
 .show .inr #[#[q,J],Pv (i+1),λI H' U=>#[kvs.length-(i+1),ae,rfl,J,U],λx H' y=>?_];let#[e,k,v,R,ex]:=y;subst e ex;show hs i k v σ _ R p
 .have e:i=kvs.length:=ae;subst e;show .inl #[#[q,qj _],hd σ H p]
section
variable {X:Cx}
inductive Gf (K:iF) (x:V) (y:V) (H:Hp) (Q:VK):Prop
 |mk (p:_) (q:_) (xs:_) (ys:_) (_:x=.ref p) (_:y=.ref q) (_:bA K H p xs) (_:bA K H q ys) (_:xs.all dC=true) (_:ys.all dC=true) (_:Q (.bl (!gO xs ys)) H):Gf K x y H Q
theorem E6 (N:X.A.units<Nq):kZ X (LJ .NotEq) (Gf X.K):=by
 intro pins s σ H x y v u Q I rx ry h;let#[p,q,xs,ys,rfl,rfl,hx,hy,Y,fy,O]:=h;cases rx;cases ry;let#[its,r,pl,hz]:=I.list hx;let#[S,R,U,ap]:=I.list hy;have L:=r.length;have ab:=R.length;by_cases e:xs.length=ys.length
 .show RK (e:=λj=>kh (xs.getD j .non) (ys.getD j .non)) pl.isList U.isList (by rw[p3,p3];omega) N (λj h1 h2=>?_) _ _ _ _ #[.bl (!gO xs ys),H,I,?_,O]
  .have J:j<xs.length:=(by rw[p3]at h1;omega);have G:j<ys.length:=ae;let#[a,ea,ra]:=r.get (i:=j) (x:=xs[j]) (by simp[J]);let#[b,eb,rb]:=R.get (i:=j) (x:=ys[j]) (by simp[G]);let#[_,am]:=kz.mp ea;let#[_,ac]:=kz.mp eb;have g1:xs.getD j .non=xs[j]:=(by simp[J]);have g2:ys.getD j .non=ys[j]:=(by simp[G]);change Oa _ _ its.toArray[j] S.toArray[j] (kh (xs.getD j .non) (ys.getD j .non));rw[g1,g2];have f1:dC xs[j]=true:=K0.mp Y _ (LM J);have f2:dC ys[j]=true:=K0.mp fy _ (LM G);have z:=mN (A:=X.A.in1) (s:=s) ra rb f1 f2;have a1:its.toArray[j]=a:=(by simpa using am);have a2:S.toArray[j]=b:=(by simpa using ac);rw[a1,a2];show z
  .change Value.bool _=Value.bool _;rw[p3, <-L,gx e]
 .show Qu pl.isList U.isList ?_ N _ _ _ _ #[.bl (!gO xs ys),H,I,?_,O]
  .rw[p3,p3, <-L, <-ab];show bne_iff_ne.mpr e
  .change Value.bool _=Value.bool _;rw[jI e];rfl
end
noncomputable def D7 (lo st:Int) (n:Nat):It:=#[λi _=>i<n,λi H x H'=>H'=H/\x=.int (lo+i*st),λi _=>n<=i]
theorem tT {P:rr}{w:Bd}{K:iF}{tg:KN}(it:Addr) (lo st:Int) (n:Nat):Turn P w K tg (D7 lo st n) [it] it (λi h=>Pp h it (lo+(i:Nat)*st) ((n:Int)-(i:Nat)) st) where
 mem:=by simp
 obj:=λi h st b G=>by
  have e:b=it:=(by simpa using G);subst e;show#[_,st,λv z=>by
   have z':Ou _=NG v:=z;cases z']
 keep:=λi h h' st k=>k it (by simp) _ st
 item:=by
  intro X S U hK L i pins s σ H E I J R hg;subst S U hK;let#[f0,Y,f2,O,N,f5]:=J it (by simp);have W:=Sb (prog:=X.prog) (w:=X.w) (I.ok.hd L) it lo st n;show W.item i s _ _ hg R λv h' tk hv ab kk=>?_;let#[t,rfl]:=hv;have I1:Inv X pins σ H { s with heap:=h',toks:=tk }:=I.turned (λb o G e=>kk b o (by simpa using G) e) f0 Y O N f5;show#[0,mT (s:={ s with heap:=h',toks:=tk }) (n := "range_iterator") ab rfl rfl av #[.int (lo+i*st),H,I1,#[t,rfl],#[1],ab,λb G=>(J b G).1]]
 done:=by
  intro X S U hK L i pins s σ H E I J R hg;subst S U hK;let#[f0,Y,f2,O,N,f5]:=J it (by simp);show OT (I.ok.hd L) R (by have:n<=i:=hg;omega) λh' eb=>#[rfl,I.turned (t':=s.toks) (λb o G e=>eb b o G e) f0 Y O N f5]
 self:=λ_ _ _ _ _ st h=>OU st h
noncomputable def HV (ta:TA):TI:=λσ H R=>ta σ H λvs H1=>∃(i j st:Int) (n:Nat),vs=[.int i,.int j,.int st]/\Builtin.Range.small i j st=true/\Builtin.Range.rangeSize i j st=(n:Int)/\st≠0/\Builtin.divisionGoesByPylong (j-i) st=false/\R (D7 i st n) H1
section
variable {X:Cx}{tg:KN}
theorem yz {a b c:KN}{ta:TA}{p pos:Nn}(hg:Gl X "range") (hm:X.mg "range" = none) (ha:PA X [a,b,c] ta) (hs:starEach [a,b,c] X.env=[(false,eval a X.env),(false,eval b X.env),(false,eval c X.env)]:=by rfl) (N:starEach [b,c] X.env=[(false,eval b X.env),(false,eval c X.env)]:=by rfl) :
  PI X tg (.Call (.Name "range" p) [a,b,c] [] pos) (HV ta):=by
 intro pins s σ H R I h;show Call_ (ig I hg hm Q4 (Lo (bV (ha pos pins s σ H _ I h) λus s1 ⟨vs,H1,Y,r1,L⟩=>?_) (by rw[hs,N]) (by rw[N];rfl)));let#[i,j,st,n,e,L,q2,q3,U,q]:=L;subst e;cases r1 with
 |cons r G =>
  cases G with
  |cons S G =>
   cases G with
   |cons ab G =>
    cases G;let#[t,rfl]:=r;let#[t',rfl]:=S;let#[O,rfl]:=ab;show call_range_3 q3 ?_ (.inl U);show PY (Sd ..) L ?_;have J:Inv X pins σ H1 { s1 with heap:=s1.heap.push { cls:=.type "range",data:=.fields ([.int i t,.int j t',.int st O].toArray) },toks:=s1.toks }:=Y.kept λb o e=>Heap.get?_push_of_some _ e;show#[_,[_],2,H1,rfl,J.kept (t':=s1.toks) λb o e=>Heap.get?_push_of_some _ e,tT _ i st n,?_,λb hb=>?_,q]
    .have e1:i+((0:Nat):Int)*st=i:=(by simp);have e2:(n:Int)-((0:Nat):Int)=Builtin.Range.rangeSize i j st:=(by rw[q2];omega);change Pp _ _ (i+((0:Nat):Int)*st) ((n:Int)-((0:Nat):Int)) st;rw[e1,e2];show Heap.get?_push_size _ rfl
    .have e:=n7.mp hb;subst e;show J.jn (qj _) (J.bE.fresh (qj _))
end
theorem AO (K:iF):Nl K (.type "int") (.type "tuple")=some false:=by with_unfolding_all rfl
theorem zf (K:iF):Nl K (.type "int") (.type "list")=some false:=by with_unfolding_all rfl
theorem zl (K:iF):Nl K (.type "int") (.type "dict")=some false:=by with_unfolding_all rfl
theorem zS (K:iF):Nl K (.type "str") (.type "tuple")=some false:=by with_unfolding_all rfl
theorem zz (K:iF):Nl K (.type "str") (.type "list")=some false:=by with_unfolding_all rfl
theorem zW (K:iF):Nl K (.type "str") (.type "dict")=some false:=by with_unfolding_all rfl
theorem Aq (K:iF):Nl K (.type "NoneType") (.type "tuple")=some false:=by with_unfolding_all rfl
theorem y6 (K:iF):Nl K (.type "NoneType") (.type "list")=some false:=by with_unfolding_all rfl
theorem Bx (K:iF):Nl K (.type "NoneType") (.type "dict")=some false:=by with_unfolding_all rfl
theorem Ff (K:iF):Nl K (.type "tuple") (.type "tuple")=some true:=rfl
end L2
namespace Srt
open PySem PyProof.Rows
theorem wU:∀{vs:List Value}{ns:List Int},vs.length=ns.length->(∀(j:Nat) (v:Value),vs[j]?=some v->∃(m:Int) (t:Ss),ns[j]?=some m/\v=.int m t)->MV vs ns
 | [],[],_,_=>.nil
 |v::vs,n::ns,G,h=>by
  let#[m,t,e,rfl]:=h 0 v rfl;cases e;show .cons n t (wU (by simpa using G) λj u I=>by simpa using h (j+1) u (by simpa using I))
 | [],_::_,G,_=>by simp at G
 |_::_,[],G,_=>by simp at G
section
variable {prog:rr}{w:Bd}{A:KL}{E:Value->mu->Prop}{s:mu}{T:String}{r d:Addr}{n:Nat}{P:Nat->Value->Prop}{OK:Heap->Prop}
theorem uA {ns:List Int}{Q:Value->mu->Prop}(S:KdlSrc prog w T r d n P OK) (hh:A.handled=none) (Y:OK s.heap) (O:∀(i:Nat) (v:Value),P i v->∃(m:Int) (t:Ss),ns[i]?=some m/\v=.int m t) (hl:ns.length=n) (N:ns.Nodup) (hz:n<=1000)
  (k:∀(h1 h':Heap) (tk:Nat) (out:Array Value) (ns':List Int) (e:Nat),(∀b o,s.heap.get? b=some o->h1.get? b=some o)->(∀b o,h1.get? b=some o->h'.get? b=some o)->h'.get? h1.objs.size=some (seqObj "list" out e)->MV out.toList ns'->ns'.Perm ns->ns'.Pairwise (· <= ·)->Q (.ref h1.objs.size) { s with heap:=h',toks:=tk }) :
  wpAny (model prog w) A (call (.builtin "sorted") [.ref r]) Q E s:=by
 have lz:sizeLine=16777216:=ub;show Calls.call_function_entry kind_sorted plain_sorted entry_sorted (args_sorted1 _) ?_;show iN (m:=checkCount "sorted" 1 1 _) (p4 (iN (PySem.W.kdu_collect (A:=A.in1) S hh Y ae λh1 tk G k1 J=>?_)));have ln:G.toList.length=n:=(by rw[Lr];show J.1);show iN (PR ?_ ae);have R:MV G.toList ns:=wU ae λj v e=>O j v (J.2 j v (by rw[<-LL];show e));have I:=Heap.get?_push_size h1 (o:=seqObj "list" G.toList.toArray 0) rfl;change wpAny _ _ _ _ _ { s with heap:=h1.push (seqObj "list" G.toList.toArray 0),toks:=tk };show iN (LX (Mb slot_list_sort #[_,I,rfl] entry_list_sort (pR I R N ae λout ns' w1 w2 U=>#[0,p4 #[0,?_]]) (args_list_sort _)));let#[e,he]:=sortedHeap_at (vs:=G.toList) (out:=out) I;show k h1 _ tk out ns' e k1 (λb o L=>?_) he w1 w2 U;have lt:=Heap.lt_size L;rw[sortedHeap_old (KZ lt) (by rw[Rp];show NQ lt),Heap.get?_push_ne _ _ _ (KZ lt)];show L
end
end Srt
namespace L2
open PySem PySem.Spec PyProof.Rows
section
variable {X:Cx}
theorem rK:dB X (.builtin "sorted") (λxs H Q=>∃(p:Addr) (ns:List Int),xs=[.ref p]/\bA X.K H p (ns.map V.int)/\ns.Nodup/\ns.length<=1000/\∀(l:Addr) (ns':List Int),H l=none->ns'.Perm ns->ns'.Pairwise (· <= ·)->Q (.ref l) (upd H l (.lst (ns'.map V.int)))):=by
 intro pins s σ H xs us Q I r h;let#[p,ns,rfl,R,ab,hn,q]:=h;let#[u,rfl,O]:=vals1 r;cases O;let#[its,J,pl,hz]:=I.list R;have S:=intsAre_of J;have L:=J.length;rw[nq]at L;show Srt.vF pl.isList S ab ae λout ns' U G N=>?_;let#[e,Y]:=sortedAll_at s.heap its out;have hs:=ub;show#[.ref (s.heap.objs.size+1),_,I.laid (t':=s.toks) (λb o e=>sortedAll_old e) (N4 _) (show bT X.prog X.w _ _ _ (.lst (ns'.map V.int))from#[by rw[nq,G.length_eq];omega,out.toList,e,iH U,by simpa using Y]),rfl,q _ ns' (I.bE.fresh (N4 _)) G N]
end
end L2
namespace Srt
open PySem PyProof.Rows
theorem tO {prog:rr}{w:Bd}{A:KL}{I:Addr}{fp wr:List Addr}{G:Array Qf->Array Qf->Prop}{n:Nat}{P:Nat->Value->Prop}{St:Nat->mu->Prop}(W:WalksS prog w A I fp wr G n P St) (m:Nat) (L:Nat->Value->Prop) :
  WalksS prog w A I fp wr G (m+n) (λj v=>(j<m/\L j v)\/(m<=j/\P (j-m) v)) (λi s=>m<=i/\St (i-m) s) where
 sub:=W.sub
 grefl:=W.grefl
 gtrans:=W.gtrans
 frame:=λi s h' tk st S O=>#[st.1,W.frame (i-m) s h' tk st.2 S O]
 item:=λi s Q E hi st h=>W.item (i-m) s Q E (by have:=st.1;omega) st.2 λv s' J R N=>h v s' (.inr #[st.1,J]) #[by have:=st.1;omega,by rw[show i+1-m=i-m+1 by have:=st.1;omega];show R] N
 done:=λs Q E st h=>W.done s Q E (by have:=st.2;rwa [show m+n-m=n by omega]at this) h
 self:=λi s Q E st h=>W.self (i-m) s Q E st.2 h
section
variable {prog:rr}{w:Bd}{A:KL}{s:mu}{T:String}{r d:Addr}{n:Nat}{P:Nat->Value->Prop}{OK:Heap->Prop}
theorem uP {R:Result->mu->Prop}(Z:KdlSrc prog w T r d n P OK) (hh:A.handled=none) (U:OK s.heap) (S:Addr) (sr:S≠r) (sd:S≠d) (res:Value) (G:Array Value) (c:Nat) (hS:s.heap.get? S=some { cls:=.type "list",data:=.seq G c }) (hz:G.size+n<sizeLine)
  (k:∀h' tk L J,(∀b o,b≠S->s.heap.get? b=some o->h'.get? b=some o)->h'.get? S=some { cls:=.type "list",data:=.seq L J }->ItemsOf (λj v=>(j<G.size/\G[j]?=some v)\/(G.size<=j/\P (j-G.size) v)) L (G.size+n)->R (.ok (.ret res)) { s with heap:=h',toks:=tk }) :
  wpAny (model prog w) A.in1 (Builtin.List.listExtendWith (.ref S) (.ref r) res) (λas s'=>match as with|.done f=>R (.ok f) s' |.again J=>J.quiet=true/\N3 (model prog w) A J R s') (λe s'=>R (.error e) s') s:=by
 have nI:S≠s.heap.objs.size:=KZ (Heap.lt_size hS);let#[oI,St,aB,W,ac]:=Z.iter A.in1 s hh U;have ab:S∉[s.heap.objs.size,d]:=λz=>by
  rcases wh.mp z with e|z
  .show nI e
  .show sd (n7.mp z)
 have ap:∀(h:Heap) (c1 tk:Nat),St 0 h->(∀b o,b≠S->s.heap.get? b=some o->h.get? b=some o)->h.get? S=some { cls:=.type "list",data:=.seq G c1 } ->
   N3 (model prog w) A (.builtin "list.extend.loop" #[[.ref S,.ref s.heap.objs.size,res],[]]) R { s with heap:=h,toks:=tk }:=by
  intro h c1 tk q0 O N;have WS:=tO W.toS G.size λj v=>G[j]?=some v;show codeAny_extend_loopS WS (Q0 hz) S ab res n G.size _ G c1 ae ae #[qj _,by rw[Nat.sub_self];show q0] N #[rfl,λj v e=>.inl #[?_,e]] λs' L J mv e1 e2=>?_
  .show(Array.getElem?_eq_some_iff.mp e).1
  .rw[Moved.eq_with mv];show k s'.heap s'.toks L J (λb o I e=>mv.heap b o (λz=>?_) (O b o I e)) e1 e2;rcases wh.mp z with z|z
   .show I z
   .show MQ _ (n7.mp z▸Heap.lt_size e)
 unfold Builtin.List.listExtendWith;show iN (OZ (T:=T) (Z.type s U) ?_);have ns:Builtin.List.listSameRef (.ref S) (.ref r)=false:=(by simp[Builtin.List.listSameRef,sr]);simp only[ns,Z.notList,Z.notTuple,RL,LF,if_false];show iN (aB _ _ ?_);have Y:=Heap.get?_push_of_some oI hS;show iN (LX (Z.hint _ _ _ _ (Z.keep _ _ U λb _ o e=>Heap.get?_push_of_some _ e) ?_));show wpAny_ite_split (λ_=>?_) (λ_=>p4 #[plainId_quiet Oi _,ap _ c _ ac (λb o _ e=>Heap.get?_push_of_some _ e) Y]);show iN (MN (iN ?_));change wpAny _ _ (updateSeq S (·.push .none)>>=λ_=>updateSeq S (·.pop)) _ _ _;have O:=NK Y (·.push Value.none);have N:=NK O (·.pop);have ep:(G.push Value.none).pop=G:=Array.pop_push ..;show iN (wpAny_updateSeq Y rfl (wpAny_updateSeq O rfl (p4 #[plainId_quiet Oi _,?_]) ?_ ?_) ?_ ?_)
 .rw[ep]at N;show ap _ _ _ (W.frame 0 _ _ ac λb I o e=>?_) (λb o I e=>?_) N
  .have am:b≠S:=λz=>ab (z▸I);show(Heap.get?_update_other _ _ (qs am)).trans ((Heap.get?_update_other _ _ (qs am)).trans e)
  .show(Heap.get?_update_other _ _ (qs I)).trans ((Heap.get?_update_other _ _ (qs I)).trans (Heap.get?_push_of_some _ e))
 .change(G.push Value.none).size<=sizeLine;rw[OL];omega
 .change((G.push Value.none).pop).size<=sizeLine+1;rw[ep];omega
 .omega
 .change(G.push Value.none).size<=sizeLine+1;rw[OL];omega
end
end Srt
namespace L2
open PySem PySem.Spec PyProof.Rows
theorem qC:∀{xs:List V}{vs:List Value},xs.length=vs.length->(∀(j:Nat) (x:V) (v:Value),xs[j]?=some x->vs[j]?=some v->RelV x v)->Vals xs vs
 | [],[],_,_=>.nil
 |x::xs,v::vs,G,h=>.cons (h 0 x v rfl rfl) (qC (by simpa using G) λj a b I J=>h (j+1) a b (by simpa using I) (by simpa using J))
 | [],_::_,G,_=>by simp at G
 |_::_,[],G,_=>by simp at G
section
variable {X:Cx}
inductive tR (x:V) (vs:List V) (H:Hp) (Q:VK):Prop
 |mk (l:_) (d:_) (xs:_) (kvs:_) (_:x=.ref l) (_:vs=[.ref d]) (_:H l=some (.lst xs)) (_:H d=some (.dK kvs)) (_:xs.length+kvs.length<sizeLine) (_:Q .non (upd H l (.lst (xs++kvs.map λkv=>kV kv.1)))):tR x vs H Q
theorem vk (hc:X.calm=true):FI X "list.extend" tR:=by
 intro pins s σ H x vs v us Q I rx rv h;let#[l,d,xs,kvs,rfl,rfl,N,hD,hz,q]:=h;cases rx;let#[u,rfl,ru]:=rv.one;cases ru;let#[z,its,n,r,hl,e]:=I.nc N;let#[_,hd,vs,ac,dd]:=gJ I.bE hD;let#[ep,ap]:=dd.dictAt;have as:=ac.length;have ab:l≠d:=λz=>(by rw[z,hD]at N;cases N);show Q7 (codeAny_call_builtin Mo.plain PySem.F.entry_list_extend (Mo.check _ _ _ _ _ _ _ _ #[_,e,rfl] (PySem.F.args_list_extend_2 _ _) ?_));change wpAny _ _ (Builtin.List.listExtendWith (.ref l) (.ref d) .none) _ _ s;show Srt.uP (R:=λr s'=>match r with|.ok (.ret v)=>EP X pins σ Q v s' |.ok _=>False|.error e=>X.xe e s') (kdl_dict (knd:=br X.prog X.w) (kvs:=vs) (ep:=ep) hd) (I.ok.hd hc) ap l ab ab .none its.toArray n e (by rw[p3];omega) λh' tk L c' k1 Y k3=>#[.non,_,?_,rfl,q];let#[sz,it]:=k3;have sz:L.size=its.length+vs.length:=(by rw[sz,p3]);show I.write (x:=l) (e:=l) (by rw[N];show trivial) (.inl rfl) k1 #[_,Y] (show bT X.prog X.w _ _ _ (.lst _)from#[?_,L.toList,c',qC ?_ λj x v G hv=>?_,by simpa using Y])
 .rw[vl,nq];omega
 .have al:L.toList.length=L.size:=Lr;rw[vl,nq];omega
 .have am:L[j]?=some v:=(by rw[<-LL];show hv);rcases it j v am with⟨S,O⟩|⟨S,O⟩
  .rw[p3]at S;rw[Lq ae]at G;let#[b,eb,rb]:=r.get G;have:its[j]?=some v:=(by simpa using O);rw[this]at eb;cases eb;show rb
  .rw[p3]at S O;let#[k,y,e1,e2]:=O;rw[Ln ae,rz]at G;have J:(vs.map (·.1))[j-its.length]?=some k:=(by rw[rz,e1];rfl);rw[<-ac.keys,rz]at J;rw[show j-xs.length=j-its.length by omega]at G;cases e4:kvs[j-its.length]? with
   |none=>rw[e4]at J;cases J
   |some U =>
    rw[e4]at J G;obtain rfl:U.1=k:=rk J;obtain rfl:kV U.1=x:=rk G;show qK e2
noncomputable def IP (K:iF):R2:=λx y H Q=>∃p q xs ys,x=.ref p/\y=.ref q/\bL K H p xs/\bL K H q ys/\xs.all dC=true/\ys.all dC=true/\Q (.bl (gO xs ys)) H
theorem pH:∀{xs ys:List V},((KD (min xs.length ys.length)).all (λj=>kh (xs.getD j .non) (ys.getD j .non))&&xs.length==ys.length)=gO xs ys:=by
 intro xs ys;by_cases e:xs.length=ys.length
 .rw[e,Nat.min_self,beq_self_eq_true,Bool.and_true, <-gx e,e]
 .rw[jI e,beq_eq_false_iff_ne.mpr e,Pu]
theorem uQ (U:X.A.units<Nq):kZ X (LJ .Eq) (IP X.K):=by
 intro pins s σ H x y v u Q I S ry h;let#[p,q,xs,ys,rfl,rfl,hx,hy,O,fy,Y]:=h;cases S;cases ry;let#[its,r,pl,hz]:=I.tuple hx;let#[N,L,am,as]:=I.tuple hy;have R:=r.length;have ab:=L.length;show SeqAt.eq_tupleAt (e:=λj=>kh (xs.getD j .non) (ys.getD j .non)) pl am U (λj h1 h2=>?_) #[.bl (gO xs ys),H,I,?_,Y]
 .rw[p3]at h1 h2;have J:j<xs.length:=ae;have G:j<ys.length:=ae;let#[a,ea,ra]:=r.get (i:=j) (x:=xs[j]) (by simp[J]);let#[b,eb,rb]:=L.get (i:=j) (x:=ys[j]) (by simp[G]);let#[_,ap]:=kz.mp ea;let#[_,ac]:=kz.mp eb;have g1:xs.getD j .non=xs[j]:=(by simp[J]);have g2:ys.getD j .non=ys[j]:=(by simp[G]);change Oa _ _ its.toArray[j] N.toArray[j] (kh (xs.getD j .non) (ys.getD j .non));have a1:its.toArray[j]=a:=(by simpa using ap);have a2:N.toArray[j]=b:=(by simpa using ac);rw[g1,g2,a1,a2];show mN ra rb (K0.mp O _ (LM J)) (K0.mp fy _ (LM G))
 .change Value.bool _=Value.bool _;rw[p3,p3, <-R, <-ab,pH]
end
section
variable {X:Cx}{pins:List (Addr×Obj)}{σ:St}{H:Hp}{s:mu}
end
section
variable {X:Cx}
end
end L2
namespace PySem
open PyProof.Rows
namespace F
end F
section
variable {prog:rr}{w:Bd}{K:Type} [DecidableEq K] {knd:KeyKind prog w K}{A:KL}{E:Value->mu->Prop}
end
end PySem
namespace L2
open PySem PySem.Spec PyProof.Rows
section
variable {X:Cx}{scope:Om}{cl:List (Str×Addr)}{t:Str×Str}{caps:List (Str×Nat)}{pins:List (Addr×Obj)}{σ:St}{H:Hp}{s:mu}{C:Addr}{fp:List Addr}
end
section
variable {X:Cx}{scope:Om}{cl:List (Str×Addr)}{t:Str×Str}{caps:List (Str×Nat)}{elt iter:KN}{ifs:List KN}{px pos:Nn}{es:List KN}{kx:Nat}{g:TG}{wi:TI}{tt:TT}{te:TE}
end
theorem Fy:KS "zip" = some (.type "zip"):=ao
theorem qN:KS "enumerate" = some (.type "enumerate"):=ao
theorem uU:KS "all" = some (.builtin "all"):=ao
theorem zY:KS "min" = some (.builtin "min"):=ao
section
variable {X:Cx}{pins:List (Addr×Obj)}{σ:St}{H:Hp}{s:mu}{h':Heap}
theorem Inv.jU {t':Nat}{ch:List Addr}(I:Inv X pins σ H s) (k:∀b o,b∉ch->s.heap.get? b=some o->h'.get? b=some o) (J:∀b∈ch,gi X pins H b):Inv X pins σ H { s with heap:=h',toks:=t' }:=by
 have L:∀b u,H b=some u->b∉ch:=λb u e z=>(by rw[(J b z).1]at e;cases e);show I.step (g':=s.gens) (d':=s.drawn) (ch:=ch) (λb U=>?_) (λb o _ _ G e _=>k b o G e) (λb o _ _ G e _=>#[o.slots,k b o G e]) (λ_ _ _ _ n=>n)
  (λb o G e=>#[o,k b o G e]) (λ_ _ e=>e) (λ_ _ _ e=>e) (λb ps e=>#[([].toArray),by rw[e];simp]) (λm Y=>?_) (λb u e=>?_) I.bare
 .let#[_,N,f2,S,O,R]:=J b U;show#[S,N,O,R]
 .let#[o,es,ep,ho,r]:=Y;show#[o,es,ep,k _ o (λz=>(J _ z).2.1 rfl) ho,r]
 .show(I.bE b u e).mW (λc v G q=>k c v ?_ q) (λ_ q=>q) λ_ _ q=>q;rcases G with z|z
  .rw[z];show L b u e
  .show L c _ z
theorem Inv.we {D:Addr}{ys:List V}{its:List Value}(I:Inv X pins σ H s) (f:gi X pins H D) (e:IsTup s.heap D its.toArray) (r:Vals ys its) (U:ys.length<=sizeLine) :
  Inv X pins σ (upd H D (.tup ys)) s:=by
 let#[J,L,f2,S,N,O]:=f;let#[R,g,d,tk,os]:=s;show I.step (g':=g) (d':=d) (t':=tk) (h':=R) (ch:=[D]) (λb G=>?_) (λb o _ _ _ e _=>e) (λb o _ _ _ e _=>#[o.slots,e]) (λb o G _ n=>?_) (λb o _ e=>#[o,e]) (λb xs q=>?_) (λb o u q=>?_) (λb ps q=>#[([].toArray),?_]) (λm Y=>Y) (λb u q=>?_) I.bare
 .have z:b=D:=(by simpa using G);subst z;show#[S,L,N,O]
 .rw[ah (λz=>G (by simp[z]))];show n
 .rw[ah (ar q J)];show q
 .rw[ah (ar q J)];show q
 .rw[ah (ar q J),q];simp
 .by_cases G:b=D
  .subst G;rw[af]at q;cases q;show#[U,its,r,e]
  .rw[ah G]at q;show(I.bE b u q).mW (λ_ _ _ z=>z) (λc z=>by rw[ah (ar z J)];show z) λc xs z=>by rw[ah (ar z J)];show z
end
noncomputable def Gv (K:iF) (I G:Addr):It :=
 #[λi H=>∃xs ys x y,bA K H I xs/\bA K H G ys/\xs[i]?=some x/\ys[i]?=some y,
  λi H v H'=>∃T x y,v=.ref T/\H T=none/\H'=upd H T (.tup [x,y])/\(∀xs,bA K H I xs->xs[i]?=some x)/\∀ys,bA K H G ys->ys[i]?=some y,
  λi H=>∃xs ys,bA K H I xs/\bA K H G ys/\(xs.length<=i\/ys.length<=i)]
noncomputable def Kw (z TI TO I G J L:Addr) (i:Nat) (h:Heap):Prop:=IsZip h z TI TO .none/\IsPair h TI (.ref I) (.ref G)/\(∃a b,IsPair h TO a b)/\h.IsListIter I J i/\h.IsListIter G L i
theorem u4:2<=sizeLine:=by rw[ub];decide
theorem yZ {P:rr}{w:Bd}{K:iF}{es:List KN}{kx:Nat}{px:Nn}{z TI TO N L l1 l2:Addr}(D:ZipApart z TI TO N L l1 l2):Turn P w K (.Tuple es kx px) (Gv K l1 l2) [z,TI,TO,N,L] z (Kw z TI TO N L l1 l2) where
 mem:=by simp
 obj:=by
  rintro i h ⟨S,J,⟨a,b',R⟩,h1,h2⟩ b G;simp only[wh,By,or_false]at G;rcases G with rfl|rfl|rfl|rfl|rfl
  .show#[_,S,λv q=>by cases(show Ou _=NG v from q)]
  .show#[_,J,λv q=>by cases(show Ri _ _=NG v from q)]
  .show#[_,R,λv q=>by cases(show Ri _ _=NG v from q)]
  .let#[o,e,c,d]:=h1;show#[o,e,λv q=>by rw[d]at q;cases q]
  .let#[o,e,c,d]:=h2;show#[o,e,λv q=>by rw[d]at q;cases q]
 keep:=λi h h' ⟨S,J,⟨a,b,R⟩,h1,h2⟩ k=>#[k z (by simp) _ S,k TI (by simp) _ J,#[a,b,k TO (by simp) _ R],h1.at λo e=>k N (by simp) o e,h2.at λo e=>k L (by simp) o e]
 item:=by
  intro X hP hw hK hc i pins s σ H E I U st hg;subst hP hw hK;let#[S,J,#[a,b,R],h1,h2]:=st;let#[xs,ys,x,y,q1,q2,e1,e2]:=hg;let#[aT,ab,p1,_]:=I.list q1;let#[a3,am,p2,_]:=I.list q2;let#[u1,ap,as]:=ab.get e1;let#[u2,a5,aB]:=am.get e2;have f4:∀b∈[z,TO,N,L],gi X pins H b:=λb G=>U b (by simp only[wh,By,or_false]at G ⊢;rcases G with h|h|h|h<;>simp[h]);show wpAny_pyNext_zip_item D S J R h1 h2 p1.isList p2.isList (x:=u1) (y:=u2) (by simpa using ap) (by simpa using a5) λh' z' a0 a1 a2 pT sz kk=>?_;have I1:Inv X pins σ H { s with heap:=h' }:=I.jU (t':=s.toks) (ch:=[z,TO,N,L]) (λb o G e=>kk b o (λq=>G (by simp[q])) (λq=>G (by simp[q])) (λq=>G (by simp[q])) (λq=>G (by simp[q])) e) f4;show#[0,wpAny_letOwnedTupleGo_zip z' λY z2 O=>?_];replace O:Heap.SameBut z h' Y:=O;have I2:Inv X pins σ H { s with heap:=Y }:=I1.jU (s:={ s with heap:=h' }) (h':=Y) (t':=s.toks) (ch:=[z]) (λb o G e=>(O.2 b (λq=>G (by simp[q]))).trans e) λb G=>U b (by simp only[n7]at G;simp[G]);have fT:gi X pins H s.heap.objs.size:=I.jn (qj _) (I.bE.fresh (qj _));have nz:s.heap.objs.size≠z:=Qk (Heap.lt_size S);have a4:IsPair Y s.heap.objs.size u1 u2:=O.extBut _ _ nz pT;have I3:Inv X pins σ (upd H s.heap.objs.size (.tup [x,y])) { s with heap:=Y }:=I2.we (its:=[u1,u2]) fT #[_,a4,rfl,0] (.cons as (.cons aB .nil)) u4;show#[.ref s.heap.objs.size,_,I3,rfl,#[_,x,y,rfl,fT.1,rfl,λzs ac=>by rw[I.jP ac q1];show e1,λzs ac=>by rw[I.jP ac q2];show e2],#[z2,O.extBut _ _ D.TIz (kk _ _ D.TIz D.TITO D.TIi1 D.TIi2 J),#[2,O.extBut _ _ D.TOz a0],a1.extBut O.extBut D.i1z,a2.extBut O.extBut D.i2z],λb G=>?_];have nb:b≠s.heap.objs.size:=by
   intro q;simp only[wh,By,or_false]at G;let#[o1,g1,_]:=h1;let#[o2,g2,_]:=h2;rcases G with e|e|e|e|e<;>rw[e]at q
   .show nz q.symm
   .show KZ (Heap.lt_size J) q
   .show KZ (Heap.lt_size R) q
   .show KZ (Heap.lt_size g1) q
   .show KZ (Heap.lt_size g2) q
  rw[ah nb];show(U b G).1
 done:=by
  intro X hP hw hK hc i pins s σ H E I U st hg;subst hP hw hK;let#[S,J,#[a,b,R],h1,h2]:=st;let#[xs,ys,q1,q2,e]:=hg;let#[aT,ab,p1,_]:=I.list q1;let#[a3,am,p2,_]:=I.list q2;have a7:=ab.length;have a6:=am.length;have f4:∀b∈[z,TO,N,L],gi X pins H b:=λb G=>U b (by simp only[wh,By,or_false]at G ⊢;rcases G with h|h|h|h<;>simp[h]);show wpAny_pyNext_zip_end (I.ok.hd hc) D S J R h1 h2 p1.isList p2.isList (e.elim (λe=>.inl (by simp;omega)) λe=>.inr (by simp;omega)) λh' kk=>#[rfl,I.jU (t':=s.toks) (ch:=[z,TO,N,L]) (λb o G e=>kk b o (λq=>G (by simp[q])) (λq=>G (by simp[q])) (λq=>G (by simp[q])) (λq=>G (by simp[q])) e) f4]
 self:=λ_ _ _ _ _ st h=>QF st.1 h
section
variable {X:Cx}
noncomputable def Jq (K:iF) (ta:TA):TI:=λσ H R=>ta σ H λvs H1=>xZ λG I=>Em (vs=[.ref G,.ref I]) ((∃xs,bA K H1 G xs)) ((∃ys,bA K H1 I ys)) (R (Gv K G I) H1)
theorem EN {es:List KN}{kx:Nat}{px:Nn}{a b:KN}{ta:TA}{p pos:Nn}(hg:Gl X "zip") (hm:X.mg "zip" = none) (ha:PA X [a,b] ta) (hs:starEach [a,b] X.env=[(false,eval a X.env),(false,eval b X.env)]:=by rfl) (L:starEach [b] X.env=[(false,eval b X.env)]:=by rfl) :
  PI X (.Tuple es kx px) (.Call (.Name "zip" p) [a,b] [] pos) (Jq X.K ta):=by
 intro pins s σ H R I h;show Call_ (ig I hg hm Fy (Lo (bV (ha pos pins s σ H _ I h) λus s1 ⟨vs,H1,G,r1,q1⟩=>?_) (by rw[hs,L]) (by rw[L];rfl)));let#[O,S,rfl,#[xs,g1],#[ys,g2],q]:=q1;let#[u1,u2,rfl,e1,e2]:=vals2 r1;obtain rfl:u1=Value.ref O:=e1;obtain rfl:u2=Value.ref S:=e2;let#[aT,aB,J,_]:=G.list g1;let#[a0,a1,p2,_]:=G.list g2;have ab:O<s1.heap.objs.size:=let ⟨_,e,_⟩:=J.isList;Heap.lt_size e;have am:S<s1.heap.objs.size:=let ⟨_,e,_⟩:=p2.isList;Heap.lt_size e;show call_zip_2 J.isList p2.isList λh' N ac Y as ap hsz hk=>?_;show QF N ?_;show#[s1.heap.objs.size+4,[s1.heap.objs.size+4,s1.heap.objs.size+2,s1.heap.objs.size+3,s1.heap.objs.size,s1.heap.objs.size+1],2,H1,rfl,G.kept (t':=s1.toks) hk,yZ (zipApart_new ab am),#[N,ac,#[2,Y],as,ap],λb U=>?_,q];have le:s1.heap.objs.size<=b:=by
  simp only[wh,By,or_false]at U;rcases U with e|e|e|e|e<;>rw[e]<;>first|show qj _|show QG _ _
 show G.jn le (G.bE.fresh le)
noncomputable def Gj (K:iF) (l:Addr):It :=
 #[λi H=>∃xs x,bA K H l xs/\xs[i]?=some x,
  λi H v H'=>∃T x,v=.ref T/\H T=none/\H'=upd H T (.tup [.int i,x])/\∀xs,bA K H l xs->xs[i]?=some x,
  λi H=>∃xs,bA K H l xs/\xs.length<=i]
noncomputable def Kr (e it l:Addr) (i:Nat) (h:Heap):Prop:=(∃G,IsEnum h e it i G)/\h.IsListIter it l i
theorem x6 {P:rr}{w:Bd}{K:iF}{es:List KN}{kx:Nat}{px:Nn}{e it l:Addr}(D:e≠it):Turn P w K (.Tuple es kx px) (Gj K l) [e,it] e (Kr e it l) where
 mem:=by simp
 obj:=by
  rintro i h ⟨⟨R,J⟩,h1⟩ b G;simp only[wh,By,or_false]at G;rcases G with rfl|rfl
  .show#[_,J,λv q=>by cases(show Ou _=NG v from q)]
  .let#[o,e,c,d]:=h1;show#[o,e,λv q=>by rw[d]at q;cases q]
 keep:=λi h h' ⟨⟨R,J⟩,h1⟩ k=>#[#[R,k e (by simp) _ J],h1.at λo q=>k it (by simp) o q]
 item:=by
  intro X hP hw hK hc i pins s σ H E I N st hg;subst hP hw hK;let#[#[R,J],h1]:=st;let#[xs,x,S,e1]:=hg;let#[ap,Y,U,_]:=I.list S;let#[u1,ab,ac]:=Y.get e1;show wpAny_pyNext_enum_item J h1 U.isList (x:=u1) (by simpa using ab) D λh' eo a1 pT sz kk=>?_;have I1:Inv X pins σ H { s with heap:=h',toks:=s.toks+1 }:=I.jU (t':=s.toks+1) (ch:=[e,it]) (λb o G q=>kk b o (λz=>G (by simp[z])) (λz=>G (by simp[z])) q) N;show#[0,wpAny_letOwnedTupleGo_enum eo λO e2 L=>?_];replace L:Heap.SameBut e h' O:=L;have I2:Inv X pins σ H { s with heap:=O,toks:=s.toks+1 }:=I1.jU (s:={ s with heap:=h',toks:=s.toks+1 }) (h':=O) (t':=s.toks+1) (ch:=[e]) (λb o G q=>(L.2 b (λz=>G (by simp[z]))).trans q) λb G=>N b (by simp only[n7]at G;simp[G]);have fT:gi X pins H s.heap.objs.size:=I.jn (qj _) (I.bE.fresh (qj _));have ne:s.heap.objs.size≠e:=Qk (Heap.lt_size J);have as:=L.extBut _ _ ne pT;have I3:Inv X pins σ (upd H s.heap.objs.size (.tup [.int i,x])) { s with heap:=O,toks:=s.toks+1 }:=I2.we (its:=[.int i s.toks,u1]) fT #[_,as,rfl,0] (.cons #[0] (.cons ac .nil)) u4;show#[.ref s.heap.objs.size,_,I3,rfl,#[_,x,rfl,fT.1,rfl,λzs am=>by rw[I.jP am S];show e1],#[#[u1,?_],a1.extBut L.extBut (qs D)],λb G=>?_]
  .have ec:((i+1:Nat):Int)=(i:Int)+1:=(by push_cast;rfl);rw[ec];show e2
  .have nb:b≠s.heap.objs.size:=by
    intro q;simp only[wh,By,or_false]at G;let#[o1,g1,_]:=h1;rcases G with z|z<;>rw[z]at q
    .show ne q.symm
    .show KZ (Heap.lt_size g1) q
   rw[ah nb];show(N b G).1
 done:=by
  intro X hP hw hK hc i pins s σ H E I N st hg;subst hP hw hK;let#[#[R,J],h1]:=st;let#[xs,S,e1]:=hg;let#[ap,Y,U,_]:=I.list S;have aB:=Y.length;let#[f0,f1,f2,f3,f4,f5]:=N it (by simp);show wpAny_pyNext_enum_end (I.ok.hd hc) J h1 U.isList (by simp;omega) λh' eb=>#[rfl,I.turned (t':=s.toks) (λb o G q=>eb b o G q) f0 f1 f3 f4 f5]
 self:=λ_ _ _ _ _ st h=>let ⟨⟨_,J⟩,_⟩:=st;Qv J h
noncomputable def GQ (K:iF) (ta:TA):TI:=λσ H R=>ta σ H λvs H1=>∃l,vs=[.ref l]/\(∃xs,bA K H1 l xs)/\R (Gj K l) H1
theorem wL {es:List KN}{kx:Nat}{px:Nn}{a:KN}{ta:TA}{p pos:Nn}(hg:Gl X "enumerate") (hm:X.mg "enumerate" = none) (ha:PA X [a] ta) (hs:starEach [a] X.env=[(false,eval a X.env)]:=by rfl) :
  PI X (.Tuple es kx px) (.Call (.Name "enumerate" p) [a] [] pos) (GQ X.K ta):=by
 intro pins s σ H R I h;show Call_ (ig I hg hm qN (Lo (bV (ha pos pins s σ H _ I h) λus s1 U=>?_) hs rfl));let#[vs,H1,G,r1,q1]:=U;let#[l,rfl,#[xs,O],q]:=q1;let#[S,rfl,Y]:=vals1 r1;obtain rfl:S=Value.ref l:=Y;let#[ac,ab,N,_]:=G.list O;show call_enumerate_list N.isList λh' L hi hsz hk=>?_;show Qv L ?_;show#[s1.heap.objs.size+1,[s1.heap.objs.size+1,s1.heap.objs.size],2,H1,rfl,G.kept (t':=s1.toks) hk,x6 (l:=l) (Nat.succ_ne_self _),#[#[_,L],hi],λb J=>?_,q];have le:s1.heap.objs.size<=b:=by
  simp only[wh,By,or_false]at J;rcases J with e|e<;>rw[e]<;>first|show qj _|show QG _ _
 show G.jn le (G.bE.fresh le)
theorem qk:∀{bs:List Bool}{its:List Value},Vals (bs.map V.bl) its->its=bs.map Value.bool
 | [],_,.nil=>rfl
 |b::bs,_,.cons r t=>by rw[qk t,show _=Value.bool b from r];rfl
theorem kD (Y:X.calm=true):dB X (.builtin "all") (λxs H Q=>∃(l:Addr) (bs:List Bool),xs=[.ref l]/\bA X.K H l (bs.map V.bl)/\Q (.bl (bs.all id)) H):=by
 intro pins s σ H xs us Q I r h;let#[l,bs,rfl,O,q]:=h;let#[u,rfl,ru]:=vals1 r;obtain rfl:u=Value.ref l:=ru;let#[its,rv,p,_]:=I.list O;have ei:=qk rv;subst ei;have J:=p.isList;have R:l<s.heap.objs.size:=let ⟨_,e,_⟩:=J;Heap.lt_size e;show call_all_walk (Ov J ?_);show#[s.heap.objs.size,[s.heap.objs.size,l],[s.heap.objs.size],(bs.map Value.bool).toArray.size,2,λi=>(bs[i]?).getD true,rfl,Sq (A:=X.A.in1) (I.ok.hd Y) _ l (KZ R) (bs.map Value.bool).toArray,
  #[#[_,Heap.get?_push_size _ rfl,1],J.push _],λi v s' Q' E' hP N=>?_,λh' tk hk=>?_]
 .have U:(bs.map Value.bool).toArray[i]?=some v:=hP;have G:(bs.map Value.bool)[i]?=some v:=(by simpa using U);rw[rz]at G;cases L:bs[i]? with
  |none=>rw[L]at G;cases G
  |some b =>
   rw[L]at G;have S:Value.bool b=v:=rk G;subst S;simp only[L,QH]at N;show LG N
 .have e:((KD (bs.map Value.bool).toArray.size).all λi=>(bs[i]?).getD true)=bs.all id:=by
   rw[p3,nq];show LSm.range_all bs
  rw[e];show#[.bl _,H,I.kept (RM hk),rfl,q]
end
theorem t4 {K:iF}{a:Addr}{xs:List V}{g:TG}{tb:TS}{D:Ends}{σ:St}{H:Hp}(Pv:Nat->St->Hp->Prop) (Y:Pv 0 σ H) (R:∀i σ H,i<=xs.length->Pv i σ H->bA K H a xs)
  (hs:∀i x σ H T,xs[i]?=some x->H T=none->Pv i σ H->g (.ref T) σ (upd H T (.tup [.int i,x])) λG H2=>tb { D with nx:=Pv (i+1),ct:=Pv (i+1),bk:=D.nx } G H2) (hd:∀σ H,Pv xs.length σ H->D.nx σ H) :
  ∃W:Nat->Nat->St->Hp->Prop,(∃m,W 0 m σ H)/\∀i m σ H,W i m σ H ->
   ((Gj K a).stop i H/\D.nx σ H)\/((Gj K a).go i H/\∃N:St->Hp->Prop,(∀I H',N I H'->∃O,O<m/\W (i+1) O I H')/\∀x H',(Gj K a).Bz i H x H'->g x σ H' λG H2=>tb { D with nx:=N,ct:=N,bk:=D.nx } G H2):=by
 show#[λi m σ H=>m=xs.length-i/\i<=xs.length/\Pv i σ H,#[xs.length,by simp,KH _,Y],?_];rintro i m σ H ⟨rfl,hi,p⟩;have J:=R i σ H hi p;by_cases L:i<xs.length
 .show .inr #[#[xs,xs[i],J,by simp[L]],Pv (i+1),λI H' p'=>#[xs.length-(i+1),ae,rfl,L,p'],?_];rintro v H' ⟨T,x,rfl,U,rfl,S⟩;show hs i x σ H T (S xs J) U p
 .have e:i=xs.length:=ae;subst e;show .inl #[#[xs,J,qj _],hd σ H p]
section
variable {X:Cx}
theorem jK (R:X.calm=true):dB X (.builtin "sorted") (λxs H Q=>∃(a:Addr) (kvs:List (Key×V)) (ns:List Int),xs=[.ref a]/\H a=some (.dK kvs)/\kvs.map (·.1)=ns.map sS/\ns.Nodup/\ns.length<=1000 /\
  ∀(l:Addr) (ns':List Int),H l=none->ns'.Perm ns->ns'.Pairwise (· <= ·)->Q (.ref l) (upd H l (.lst (ns'.map V.int)))):=by
 intro pins s σ H xs us Q I r h;let#[a,kvs,ns,rfl,ha,hk,am,hn,q]:=h;let#[u,rfl,ru]:=vals1 r;cases ru;let#[_,hd,vs,ac,Y]:=gJ I.bE ha;let#[ep,ab]:=Y.dictAt;have O:vs.map (·.1)=ns.map sS:=(by rw[<-ac.keys];show hk);have ll:ns.length=vs.length:=by
  have:=congrArg QM O;simpa using this.symm
 have hs:=ub;show Srt.uA (kdl_dict (knd:=br X.prog X.w) (kvs:=vs) (ep:=ep) (d:=a) hd) (I.ok.hd R) ab (ns:=ns) (λi w' hw=>?_) ll am ae λh1 h' tk out ns' e k1 U he a1 J S=>?_
 .let#[k,x,e1,e2]:=hw;have G:(vs.map (·.1))[i]?=some k:=(by rw[rz,e1];rfl);rw[O,rz]at G;cases N:ns[i]? with
  |none=>rw[N]at G;cases G
  |some m =>
   rw[N]at G;obtain rfl:sS m=k:=rk G;let#[t,rfl]:=qK e2;show#[m,t,1]
 .have L:Inv X pins σ H { s with heap:=h1,toks:=tk }:=I.kept k1;show#[.ref h1.objs.size,_,L.laid (t':=tk) U (qj _) (show bT X.prog X.w _ _ _ (.lst (ns'.map V.int))from#[by rw[nq,J.length_eq];omega,out.toList,e,iH a1,by simpa using he]),rfl,q _ ns' (L.bE.fresh (qj _)) J S]
inductive xr (H₀:Hp) (t:TE) (Q:VK) (v:V) (H':Hp):Prop
 |mk (a:_) (o:_) (kvs:_) (_:H' a=some (.bO o (.dK kvs))) (_:(∀o u',H₀ a≠some (.bO o u'))) (_:Q v (upd H' a (.dK kvs))):xr H₀ t Q v H'
noncomputable def EV (H₀:Hp) (t:TE):TE:=λσ H Q=>t σ H λv H'=>xr H₀ t Q v H'
theorem wH {e:KN}{t:TE}(h:PE X e t):PE X e (EV X.H₀ t):=by
 intro pins s σ H Q I q;show bV (h pins s σ H _ I q) λu s1 G=>?_;let#[v,H',J,r,a,o,kvs,O,N,L]:=G;show#[v,_,J.FA O N,r,L]
end
theorem mY:entryFor table "dict_itemiterator.__iter__" = some Builtin.«dict_keyiterator.__iter__» :=
 entryFor_alias (id' := "dict_keyiterator.__iter__") (by kernel_rfl) (by first|rfl|decide +kernel|(unfold String.splitOn;simp +decide [String.splitOnAux])) ao (by kernel_rfl)
theorem gP {prog:rr}{w:Bd}{A:KL}{E:Value->mu->Prop}{s:mu}{it d:Addr}{i n ep:Nat}{ok ov:Value}{Q:Value->mu->Prop}(I:IsItemIter s.heap it d i n ep ok ov) (h:Q (.ref it) s):wpAny (model prog w) A (pyIter (.ref it)) Q E s:=by
 have G:s.TypeIs (.ref it) "dict_itemiterator" := #[_,I,rfl];show Qw G Nf (Mb Nf G mY ?_ (PySem.F.args_dict_itemiterator_iter_1 _));change wpAny _ _ (ret (.ref it)) _ _ s;show p4 #[0,"dict_itemiterator",_,G,PySem.F.slot_dict_itemiterator_next.lookup,h]
noncomputable def FN (a:Addr) (o:Obj) (kvs:List (Key×V)):It :=
 #[λi H=>H a=some (.bO o (.dK kvs))/\i<kvs.length,λi H x H'=>∃T k v,x=.ref T/\H T=none/\kvs[i]?=some (k,v)/\H'=upd H T (.tup [kV k,v]),λi H=>H a=some (.bO o (.dK kvs))/\kvs.length<=i]
theorem zN:∀{kvs:List (Key×V)}{vs:List (Key×Value)},Paired (λ(p:Key×V) (q:Key×Value)=>p.1=q.1/\RelV p.2 q.2) kvs vs->∀{i:Nat},i<kvs.length->∃k v x,kvs[i]?=some (k,v)/\vs[i]?=some (k,x)/\RelV v x
 |_,_,.nil,_,h=>by simp at h
 |p::_,L::_,.cons q _,0,_=>#[p.1,p.2,L.2,rfl,by rw[q.1];rfl,q.2]
 |_::_,_::_,.cons _ t,i+1,h=>by
  let#[k,v,x,I,J,G]:=zN t (i:=i) (by simpa using h);show#[k,v,x,by simpa using I,by simpa using J,G]
theorem Dn {kvs:List (Key×V)}{vs:List (Key×Value)}(r:KV kvs vs) {i:Nat}(hi:i<kvs.length):∃k v x,kvs[i]?=some (k,v)/\vs[i]?=some (k,x)/\RelV v x:=zN r hi
theorem uw {P:rr}{w:Bd}{K:iF}{es:List KN}{kx:Nat}{px:Nn}(a it:Addr) (aT:a≠it) (o:Obj) (kvs:List (Key×V)):Turn P w K (.Tuple es kx px) (FN a o kvs) [it] it (λi h=>∃ok ov,IsItemIter h it a i kvs.length (r6 o) ok ov) where
 mem:=by simp
 obj:=λi h st b G=>by
  have e:b=it:=(by simpa using G);subst e;let#[ok,ov,st]:=st;show#[_,st,λv q=>by cases(show Ou _=NG v from q)]
 keep:=λi h h' st k=>let ⟨ok,ov,st⟩:=st;#[ok,ov,k it (by simp) _ st]
 item:=by
  intro X hP hw hK hc i pins s σ H E I R st hg;subst hP hw hK;let#[ac,am]:=hg;let#[O,N,f2,U,J,Y]:=R it (by simp);let#[hd,vs,r,da]:=km I.bE ac;have ab:=r.length;let#[k,v,x,e1,e2,e3]:=Dn r am;let#[ok,ov,st]:=st;rw[ab]at st ⊢;show wpAny_pyNext_items_item st da e2 λas h' ap ho hT hsz hk=>?_;have I1:Inv X pins σ H { s with heap:=h',toks:=s.toks }:=I.turned (λb o G e=>hk b o G e) O N U J Y;show#[0,wpAny_letOwnedTupleGo_items ho λS e4 L=>?_];replace L:Heap.SameBut it h' S:=L;have I2:Inv X pins σ H { s with heap:=S,toks:=s.toks }:=I1.turned (s:={ s with heap:=h',toks:=s.toks }) (h':=S) (t':=s.toks) (λb o G e=>(L.2 b G).trans e) O N U J Y;have fT:gi X pins H s.heap.objs.size:=I.jn (qj _) (I.bE.fresh (qj _));have ne:s.heap.objs.size≠it:=Qk (Heap.lt_size st);have aB:=L.extBut _ _ ne hT;have I3:Inv X pins σ (upd H s.heap.objs.size (.tup [kV k,v])) { s with heap:=S,toks:=s.toks }:=I2.we (its:=[as,x]) fT #[_,aB,rfl,0] (.cons (qK ap) (.cons e3 .nil)) u4;show#[.ref s.heap.objs.size,_,I3,rfl,#[_,k,v,rfl,fT.1,e1,rfl],#[2,e4],λb G=>?_];have nb:b≠s.heap.objs.size:=λq=>ne (by rw[<-q];simpa using G);rw[ah nb];show(R b G).1
 done:=by
  intro X hP hw hK hc i pins s σ H E I R st hg;subst hP hw hK;let#[ac,am]:=hg;let#[O,N,f2,U,J,Y]:=R it (by simp);let#[hd,vs,r,da]:=km I.bE ac;have ab:=r.length;let#[ok,ov,st]:=st;rw[ab]at st;show wpAny_pyNext_items_end (I.ok.hd hc) st da (by simp;omega) λh' eb=>#[rfl,I.turned (t':=s.toks) (λb o G e=>eb b o G e) O N U J Y]
 self:=λ_ _ _ _ _ st h=>by
  let#[ok,ov,st]:=st;show gP st h
section
variable {X:Cx}
noncomputable def Ed (H₀:Hp) (td:TE):TI:=λσ H R=>td σ H λx H1=>xZ λa kvs=>Em (x=.ref a) (H1 a=some (.dK kvs)) ((∀o G,H₀ a≠some (.bO o G))) (∀o,R (FN a o kvs) (upd H1 a (.bO o (.dK kvs))))
theorem nQ {es:List KN}{kx:Nat}{px:Nn}{o:KN}{apos cpos:Nn}{td:TE}(ho:PE X o td) (as:ME o "items" X.env (eval o X.env)=eval o X.env:=by rfl) (ab:(apos.endLine==cpos.line)=true:=by rfl):PI X (.Tuple es kx px) (.Call (.Attribute o "items" apos) [] [] cpos) (Ed X.H₀ td):=by
 intro pins s σ H R I h;show OP as ab (bV (ho pins s σ H _ I h) λu s1 Y=>?_);let#[x,H1,N,U,a,kvs,ex,G,hn,q]:=Y;subst ex;obtain rfl:u=Value.ref a:=U;let#[t1,t2,hd]:=ky N (.inl #[kvs,.inl G]);let#[_,_,vs,aT,O]:=gJ N.bE G;show#["dict","dict.items",MC,OQ,PySem.F.type_dict_items,t1,t2,Calls.callWith_builtin rfl (PL ?_)];show Mw OQ O.typeIs PySem.F.entry_dict_items (PySem.F.args_dict_items_1 _) (meets_dict_items (br X.prog X.w) a hd) #[#[vs,O],?_];have nw:=Heap.get?_push_size s1.heap (o:={ cls:=.type "dict_items",data:=.fields ([.ref a].toArray) }) rfl;have S:Inv X pins σ H1 { s1 with heap:=s1.heap.push { cls:=.type "dict_items",data:=.fields ([.ref a].toArray) },toks:=s1.toks }:=N.kept λb o e=>Heap.get?_push_of_some _ e;let#[_,aB,ap,ac,BB]:=gJ S.bE G;let#[ob,am,ep,L,g2,g3,g4]:=id BB;have J:=S.freeze G L hn;have lt:a<(s1.heap.push { cls:=.type "dict_items",data:=.fields ([.ref a].toArray) }).objs.size:=Heap.lt_size L;have da:(s1.heap.push { cls:=.type "dict_items",data:=.fields ([.ref a].toArray) }).DictAt (br X.prog X.w) a ap (r6 ob):=#[ob,am,L,g2,by unfold r6;rw[g3],g4];show wpAny_pyIter_items #[_,nw,1] da ?_;show#[(s1.heap.push { cls:=.type "dict_items",data:=.fields ([.ref a].toArray) }).objs.size,[(s1.heap.push { cls:=.type "dict_items",data:=.fields ([.ref a].toArray) }).objs.size],_,FN a ob kvs,0,J.kept (t':=s1.toks) λb o e=>Heap.get?_push_of_some _ e,uw a _ (KZ lt) ob kvs,#[.none,.none,?_],λb hb=>?_,q ob]
 .rw[ac.length];show Heap.get?_push_size _ rfl
 .have e:b=(s1.heap.push { cls:=.type "dict_items",data:=.fields ([.ref a].toArray) }).objs.size:=(by simpa using hb);subst e;show J.jn (qj _) (J.bE.fresh (qj _))
end
noncomputable def Iy (a:Addr) (o:Obj) (kvs:List (Key×V)):It :=
 #[λi H=>H a=some (.bO o (.dK kvs))/\i<kvs.length,λi H x H'=>H'=H/\∃k,kvs[i]?=some (k,x),λi H=>H a=some (.bO o (.dK kvs))/\kvs.length<=i]
theorem xE {P:rr}{w:Bd}{K:iF}{tg:KN}(a it:Addr) (as:a≠it) (o:Obj) (kvs:List (Key×V)):Turn P w K tg (Iy a o kvs) [it] it (λi h=>h.IsValIter it a i kvs.length (r6 o)) where
 mem:=by simp
 obj:=λi h st b G=>by
  have e:b=it:=(by simpa using G);subst e;let#[ob,h1,_,J]:=st;show#[ob,h1,λv z=>by rw[J]at z;cases z]
 keep:=λi h h' ⟨ob,h1,h2,J⟩ k=>#[ob,k it (by simp) _ h1,h2,J]
 item:=by
  intro X S Y hK hc i pins s σ H E I L st hg;subst S Y hK;let#[ab,ac]:=hg;let#[f0,f1,f2,R,O,f5]:=L it (by simp);let#[hd,vs,r,U]:=km I.bE ab;have N:=r.length;let#[k,v,x,e1,e2,e3]:=Dn r ac;rw[N]at st ⊢;show wpAny_pyNext_values_item st U e2 λh' am ap=>?_;have I1:Inv X pins σ H { s with heap:=h',toks:=s.toks }:=I.turned (λb o G e=>(ap.2 b G).trans e) f0 f1 R O f5;let#[ob,h1,h2,J]:=id am;show#[0,mT (s:={ s with heap:=h' }) (n := "dict_valueiterator") h1 h2 J av #[v,H,I1,e3,#[rfl,k,e1],am,λb G=>(L b G).1]]
 done:=by
  intro X S Y hK hc i pins s σ H E I L st hg;subst S Y hK;let#[ab,ac]:=hg;let#[f0,f1,f2,R,O,f5]:=L it (by simp);let#[hd,vs,r,U]:=km I.bE ab;have N:=r.length;rw[N]at st;show wpAny_pyNext_values_end (I.ok.hd hc) st U (by simp;omega) λh' eb=>#[rfl,I.turned (t':=s.toks) (λb o G e=>eb b o G e) f0 f1 R O f5]
 self:=λ_ _ _ _ _ st h=>wpAny_pyIter_valiter st h
section
variable {X:Cx}{tg:KN}
noncomputable def Ho (H₀:Hp) (td:TE):TI:=λσ H R=>td σ H λx H1=>xZ λa kvs=>Em (x=.ref a) (H1 a=some (.dK kvs)) ((∀o G,H₀ a≠some (.bO o G))) (∀o,R (Iy a o kvs) (upd H1 a (.bO o (.dK kvs))))
theorem CL {o:KN}{apos cpos:Nn}{td:TE}(ho:PE X o td) (as:ME o "values" X.env (eval o X.env)=eval o X.env:=by rfl) (Y:(apos.endLine==cpos.line)=true:=by rfl):PI X tg (.Call (.Attribute o "values" apos) [] [] cpos) (Ho X.H₀ td):=by
 intro pins s σ H R I h;show OP as Y (bV (ho pins s σ H _ I h) λu s1 ap=>?_);let#[x,H1,N,U,a,kvs,ex,G,hn,q]:=ap;subst ex;obtain rfl:u=Value.ref a:=U;let#[t1,t2,hd]:=ky N (.inl #[kvs,.inl G]);let#[_,_,vs,aT,O]:=gJ N.bE G;show#["dict","dict.values",MC,OD,PySem.F.type_dict_values,t1,t2,Calls.callWith_builtin rfl (PL ?_)];show Mw OD O.typeIs PySem.F.entry_dict_values (PySem.F.args_dict_values_1 _) (meets_dict_values (br X.prog X.w) a hd) #[#[vs,O],?_];have nw:=Heap.get?_push_size s1.heap (o:={ cls:=.type "dict_values",data:=.fields ([.ref a].toArray) }) rfl;have S:Inv X pins σ H1 { s1 with heap:=s1.heap.push { cls:=.type "dict_values",data:=.fields ([.ref a].toArray) },toks:=s1.toks }:=N.kept λb o e=>Heap.get?_push_of_some _ e;let#[_,aB,am,ab,BB]:=gJ S.bE G;let#[ob,ac,ep,L,g2,g3,g4]:=id BB;have J:=S.freeze G L hn;have lt:a<(s1.heap.push { cls:=.type "dict_values",data:=.fields ([.ref a].toArray) }).objs.size:=Heap.lt_size L;have da:(s1.heap.push { cls:=.type "dict_values",data:=.fields ([.ref a].toArray) }).DictAt (br X.prog X.w) a am (r6 ob):=#[ob,ac,L,g2,by unfold r6;rw[g3],g4];show wpAny_pyIter_values #[_,nw,1] da ?_;show#[(s1.heap.push { cls:=.type "dict_values",data:=.fields ([.ref a].toArray) }).objs.size,[(s1.heap.push { cls:=.type "dict_values",data:=.fields ([.ref a].toArray) }).objs.size],_,Iy a ob kvs,0,J.kept (t':=s1.toks) λb o e=>Heap.get?_push_of_some _ e,xE a _ (KZ lt) ob kvs,?_,λb hb=>?_,q ob]
 .rw[ab.length];show#[_,Heap.get?_push_size _ rfl,1]
 .have e:b=(s1.heap.push { cls:=.type "dict_values",data:=.fields ([.ref a].toArray) }).objs.size:=(by simpa using hb);subst e;show J.jn (qj _) (J.bE.fresh (qj _))
end
section
variable {X:Cx}{tg:KN}
end
section
variable {X:Cx}{C:Addr}{x:Str}{np hpos pos:Nn}{body suite:List KP}{b₀:KP}{tb:TSX}{ts:TS}
end
end L2
namespace Srt
open PySem PyProof.Rows
section
variable {prog:rr}{w:Bd}{A:KL}{E:Value->mu->Prop}{s:mu}{a₀:Array vu}
end
section
variable {prog:rr}{w:Bd}{A:KL}{E:Value->mu->Prop}{s:mu}
end
section
variable {prog:rr}{w:Bd}{A:KL}{E:Value->mu->Prop}{s:mu}{T:String}{r d:Addr}{n:Nat}{P:Nat->Value->Prop}{OK:Heap->Prop}
end
end Srt
namespace L2
open PySem PySem.Spec PyProof.Rows
section
variable {X:Cx}
end
end L2
namespace Sp
open PySem PySem.StrLaws PySem.Builtin PySem.Builtin.Str
end Sp
namespace L2
open PySem PySem.Spec PyProof.Rows PySem.Builtin PySem.Builtin.Str
section
variable {X:Cx}
theorem mh (L:X.calm=true):dB X (.builtin "sum") (λxs H Q=>∃(p:Addr) (ns:List Int),xs=[.ref p]/\bA X.K H p (ns.map V.int)/\Q (.int ns.sum) H):=by
 intro pins s σ H xs us Q I r h;let#[p,ns,rfl,O,q]:=h;let#[u,rfl,N]:=vals1 r;cases N;let#[its,U,pl,Y]:=I.list O;have J:=intsAre_of U;have S:=J.numsOf;let#[ys,e]:=J.allInts.items;have G:=pl.isList;rw[e]at G;show sum_intListG (I.ok.hd L) G λh' tk t' R=>?_;have hs:preSum (numAt ys) ys.size=ns.sum:=by
  rw[preSum_eq,Lp (by simp), <-nums_intItems, <-e];rw[show its.toArray.toList=its from rfl,S]
 show#[.int ns.sum,H,I.kept R,#[_,by rw[hs]],q]
end
section
variable {X:Cx}
theorem yi:dB X (.type "range") (λxs H Q=>∃i j:Int,xs=[.int i,.int j]/\∀p,H p=none->Q (.ref p) (upd H p (.rng i j))):=by
 intro pins s σ H xs us Q I r h;let#[i,j,rfl,q]:=h;let#[u,G,rfl,#[t,rfl],#[t',rfl]]:=vals2 r;show call_range_2 #[.ref s.heap.objs.size,_,I.laid (λb o e=>Heap.get?_push_of_some _ e) (qj _) ?_,rfl,q _ (I.bE.fresh (qj _))];show#[2,_,Heap.get?_push_size s.heap rfl]
end
section
variable {X:Cx}
noncomputable def wR (K:iF):List V->Hp->VK->Prop:=λxs H Q=>∃p ys,xs=[.ref p]/\(bA K H p ys\/bL K H p ys)/\Q (.int (ys.length:Nat)) H
theorem yl:dB X (.builtin "len") (wR X.K):=bG
end
section
variable {t u r:TS}{D:Ends}{σ:St}{H:Hp}
noncomputable abbrev Le (u G:TS):Prop:=∀D σ H,u D σ H->G D σ H
theorem Le.rfl:Le u u:=λ_ _ _ h=>h
theorem Ki {c:TT}(k:∀t' G,Le t t'->Le u G->mJ c t' G D σ H):mJ c t u D σ H:=k t u Le.rfl Le.rfl
theorem eO {te:TE}{i:Nat}(k:∀Q:V->Hp->Prop,(∀x H1,u D (σ.set i (some x)) H1->Q x H1)->te σ H Q):jz (Bq te (oq i)) u D σ H:=k _ λ_ _ h=>h
theorem Jh {te:TE}(k:∀Q:V->Hp->Prop,(∀x H1,D.rt x H1->Q x H1)->te σ H Q):Ga te D σ H:=k _ λ_ _ h=>h
theorem bQ {A B:Hp->Prop}{Q:Bool->Hp->Prop}(e:Q=λb H1=>if b=true then A H1 else B H1):(∀H1,A H1->Q true H1)/\∀H1,B H1->Q false H1:=by
 subst e;show#[λ_ h=>eL h,λ_ h=>bX h]
theorem gR {c:TT}(k:∀Q:Bool->Hp->Prop,(∀H1,t { D with nx:=r D } σ H1->Q true H1)->(∀H1,r D σ H1->Q false H1)->c σ H Q):jz (mJ c t ma) r D σ H:=k _ (bQ rfl).1 (bQ (A:=λH1=>t { D with nx:=r D } σ H1) rfl).2
theorem sk {c:TT}(k:∀Q:Bool->Hp->Prop,(∀H1,t D σ H1->Q true H1)->(∀H1,D.nx σ H1->Q false H1)->c σ H Q):mJ c t ma D σ H:=k _ (bQ rfl).1 (bQ (A:=λH1=>t D σ H1) rfl).2
theorem oz {Q:Bool->Hp->Prop}{b:Bool}{H:Hp}(t:b=true->Q true H) (f:¬ b=true->Q false H):Q b H:=by
 cases b
 .show f (by intro z;cases z)
 .show t rfl
theorem iq {c:TT}(G:St->Hp->Prop) (mk:(∀σ H,G σ H->r D σ H)->∀Q:Bool->Hp->Prop,(∀H1,t { D with nx:=r D } σ H1->Q true H1)->(∀H1,G σ H1->Q false H1)->c σ H Q) (h:∀σ H,G σ H->r D σ H):jz (mJ c t ma) r D σ H:=mk h _ (bQ rfl).1 λH1 p=>(bQ (A:=λH1=>t { D with nx:=r D } σ H1) rfl).2 H1 (h _ _ p)
noncomputable def Ev (te:TE) (σ:St) (H:Hp) (v:V):Prop:=∀Q:V->Hp->Prop,Q v H->te σ H Q
theorem iU {i:Nat}{v:V}(h:σ[i]?=some (some v)):Ev (tm i) σ H v:=λ_ q=>#[_,h,q]
theorem iW {v:V}:Ev (tC v) σ H v:=λ_ q=>q
theorem yW {ta tb:TE}{x y:V}{Q:Bool->Hp->Prop}(a:Ev ta σ H x) (b:Ev tb σ H y) (s:sI x y=true) (n:¬ x=y) (q:Q false H):m6 (BG Fd ta tb) σ H Q:=a _ (b _ #[s,0,by rw[decide_eq_false n];show q])
theorem eqT {ta tb:TE}{x:V}{Q:Bool->Hp->Prop}(a:Ev ta σ H x) (b:Ev tb σ H x) (s:sI x x=true) (q:Q true H):m6 (BG Fd ta tb) σ H Q:=a _ (b _ #[s,0,by rw[decide_eq_true rfl];show q])
theorem share (I:St->Hp->Prop) (mk:∀G,(∀σ H,I σ H->G D σ H)->jz t G D σ H) (h:∀σ H,I σ H->u D σ H):jz t u D σ H:=mk u h
end
section
variable {X:Cx}
theorem lZ (L:X.calm=true):dB X (.type "list") (λxs H Q=>∃(p:Addr) (i:Int) (n:Nat),xs=[.ref p]/\H p=some (.rng i (i+n))/\n<=1000 /\ -1000<=i/\i<=1000/\∀l,H l=none->Q (.ref l) (upd H l (.lst ((KD n).map λk:Nat=>V.int (i+k))))):=by
 intro pins s σ H xs us Q I r h;let#[p,i,n,rfl,U,hn,i0,i1,q]:=h;let#[u,rfl,S]:=vals1 r;cases S;have hs:=ub;let#[t,u,v,e]:=(show bT X.prog X.w H s.heap p (.rng i (i+n))from I.bE p _ U);show call_list_range (n:=n) (I.ok.hd L) e (small_one ae ae ae ae) (by rw[rangeSize_one];split<;>omega) ae λh' tk J N R e' it=>?_;have O:Vals ((KD n).map λk:Nat=>V.int (i+k)) J.toList:=by
  let#[h1,h2]:=it;show qC ?_ λj x v G hv=>?_
  .rw[nq,Lh];simpa using h1.symm
  .rw[rz]at G;let#[k,Y,rfl]:=pq.mp G;have ab:k=j:=by
    have:=kz.mp Y;let#[_,e]:=this;simpa using e.symm
   let#[t,e]:=h2 j v (by simpa using hv);show#[t,by rw[e,ab];congr 1;omega]
 show#[.ref s.heap.objs.size,_,I.laid R (qj _) (show bT X.prog X.w _ h' _ (.lst ((KD n).map λk:Nat=>V.int (i+k)))from#[by rw[nq,Lh];omega,J.toList,N,O,by simpa using e']),rfl,q _ (I.bE.fresh (qj _))]
end
theorem vS {a:Addr}{o:Obj}{kvs:List (Key×V)}{caps:List (Str×Nat)}{te:TE}{σ:St}{H:Hp}{I:List V->Hp->Prop}(Pv:Nat->List V->Hp->Prop) (O:Pv 0 [] H)
  (L:∀i zs H,i<=kvs.length->Pv i zs H->H a=some (.bO o (.dK kvs)))
  (hs:∀i k v zs H,kvs[i]?=some (k,v)->Pv i zs H->te (fZ caps σ (some (kV k))) H (λz H3=>zs.length<sizeLine/\Pv (i+1) (zs++[z]) H3))
  (hd:∀zs H,Pv kvs.length zs H->I zs H):∃W:Nat->Nat->List V->Hp->Prop,(∃m,W 0 m [] H)/\hU caps oO te σ (Fh a o kvs) I W:=by
 show#[λi m zs H=>m=kvs.length-i/\i<=kvs.length/\Pv i zs H,#[kvs.length,by simp,KH _,O],?_];rintro i m zs H ⟨rfl,hi,p⟩;have J:=L i zs H hi p;by_cases G:i<kvs.length
 .show .inr #[#[J,G],Pv (i+1),λS H' R=>#[kvs.length-(i+1),ae,rfl,G,R],?_];rintro x H' ⟨rfl,k,v,N,rfl⟩;unfold oO;dsimp only;rw[Sv rfl];show hs i k v zs _ N p
 .have e:i=kvs.length:=ae;subst e;show .inl #[#[J,qj _],hd zs H p]
theorem rX {caps:List (Str×Nat)}{te:TE}{σ:St}{H:Hp}{lo st:Int}{n:Nat}{I:List V->Hp->Prop}(Pv:Nat->List V->Hp->Prop) (J:Pv 0 [] H)
  (hs:∀i ys H,i<n->Pv i ys H->te (fZ caps σ (some (.int (lo+i*st)))) H (λy H3=>ys.length<sizeLine/\Pv (i+1) (ys++[y]) H3))
  (hd:∀ys H,Pv n ys H->I ys H):∃W:Nat->Nat->List V->Hp->Prop,(∃m,W 0 m [] H)/\hU caps oO te σ (D7 lo st n) I W:=by
 show#[λi m ys H=>m=n-i/\i<=n/\Pv i ys H,#[n,by simp,KH _,J],?_];rintro i m ys H ⟨rfl,hi,p⟩;by_cases G:i<n
 .show .inr #[G,Pv (i+1),λN H' L=>#[n-(i+1),ae,rfl,G,L],λx H' y=>?_];let#[e,y]:=y;subst e y;unfold oO;dsimp only;rw[Sv rfl];show hs i ys _ G p
 .have e:i=n:=ae;subst e;show .inl #[qj _,hd ys H p]
theorem BR {K:iF}{a b:Addr}{xs ys:List V}{g:TG}{tb:TS}{D:Ends}{σ:St}{H:Hp}(Pv:Nat->St->Hp->Prop) (h0:Pv 0 σ H) (he:xs.length=ys.length)
  (S:∀i σ H,i<=xs.length->Pv i σ H->bA K H a xs/\bA K H b ys)
  (hs:∀i x y σ H T,xs[i]?=some x->ys[i]?=some y->H T=none->Pv i σ H->g (.ref T) σ (upd H T (.tup [x,y])) λG H2=>tb { D with nx:=Pv (i+1),ct:=Pv (i+1),bk:=D.nx } G H2)
  (hd:∀σ H,Pv xs.length σ H->D.nx σ H) :
  ∃W:Nat->Nat->St->Hp->Prop,(∃m,W 0 m σ H)/\∀i m σ H,W i m σ H ->
   ((Gv K a b).stop i H/\D.nx σ H)\/((Gv K a b).go i H/\∃N:St->Hp->Prop,(∀J H',N J H'->∃R,R<m/\W (i+1) R J H')/\∀x H',(Gv K a b).Bz i H x H'->g x σ H' λG H2=>tb { D with nx:=N,ct:=N,bk:=D.nx } G H2):=by
 show#[λi m σ H=>m=xs.length-i/\i<=xs.length/\Pv i σ H,#[xs.length,by simp,KH _,h0],?_];rintro i m σ H ⟨rfl,hi,p⟩;let#[L,I]:=S i σ H hi p;by_cases O:i<xs.length
 .have Y:i<ys.length:=ae;show .inr #[#[xs,ys,xs[i],ys[i],L,I,by simp[O],by simp[Y]],Pv (i+1),λJ H' p'=>#[xs.length-(i+1),ae,rfl,O,p'],?_];rintro v H' ⟨T,x,y,rfl,hT,rfl,U,e2⟩;show hs i x y σ H T (U _ L) (e2 _ I) hT p
 .have e:i=xs.length:=ae;subst e;show .inl #[#[xs,ys,L,I,.inl (qj _)],hd σ H p]
inductive Md (P:rr) (w:Bd) (K:iF) (mg:Str->Option Value) (base:Heap) (cx:uh) (k:Nat) (C:Addr) (m:Str) (sp:Sp):Prop
 |mk (f:Addr) (fd:qi) (ps:List Str) (_:a8 P w K mg base cx k f fd ps sp) (_:Binds K fd ps []) (_:Meth K C m f):Md P w K mg base cx k C m sp
inductive Df (P:rr) (w:Bd) (K:iF) (mg:Str->Option Value) (base:Heap) (cx:uh) (k:Nat) (x:Str) (sp:Sp):Prop
 |mk (f:Addr) (fd:qi) (ps:List Str) (_:a8 P w K mg base cx k f fd ps sp) (_:Binds K fd ps []) (_:mg x=some (.ref f)) (_:Pq K (.ref f)=true):Df P w K mg base cx k x sp
section
variable {X:Cx}{CX:uh}{k j:Nat}{C:Addr}{sp:Sp}{E:XK}{x m:Str}{p pos apos:Nn}{e o:KN}{es:List KN}{ta:TE}{t:TA}
theorem pm {pl:Qg Bool}(L:PE X o ta) (c:r9 X.K C) (F:Md X.prog X.w X.K X.mg X.base CX k C m sp) (S:dw j X.A) (G:Passes CX X E) (N:PA X (e::es) t) (O:k<=j:=by decide)
  (R:starEach (e::es) X.env=(false,eval e X.env)::starEach es X.env:=by rfl) (I:(backTo pos (starEach es X.env)).any (·.1)=false:=by rfl)
  (J:eval (.Call (.Attribute o m apos) (e::es) [] pos) X.env=(do
   let ov <-eval o X.env
   Qh apos.atName
   let (f,first) <-Oq [ov] (OH ov m pl)
   Q9 pos f first (backTo pos (starEach (e::es) X.env)) (OI pos (Nr [] X.env))):=by rfl) :
  PE X (.Call (.Attribute o m apos) (e::es) [] pos) (xj C m sp [] E ta t):=by
 let#[f,fd,_,g,b,q]:=F;show CN L c q g (S.mono O) b .nil G N R I J
theorem uf {pl:Qg Bool}(J:PE X o ta) (c:r9 X.K C) (F:Md X.prog X.w X.K X.mg X.base CX k C m sp) (N:dw j X.A) (G:Passes CX X E) (L:k<=j:=by decide)
  (I:eval (.Call (.Attribute o m apos) [] [] pos) X.env=(do
   let ov <-eval o X.env
   Qh apos.atName
   let (f,first) <-Oq [ov] (OH ov m pl)
   Q9 pos f first (backTo pos (starEach [] X.env)) (OI pos (Nr [] X.env))):=by rfl) :
  PE X (.Call (.Attribute o m apos) [] [] pos) (xj C m sp [] E ta CB):=by
 let#[f,fd,_,g,b,q]:=F;show zD J c q g (N.mono L) b .nil G I
theorem pc (F:Df X.prog X.w X.K X.mg X.base CX k x sp) (G:dw j X.A) (I:Passes CX X E) (O:PA X (e::es) t) (S:Gl X x:=by rfl) (R:k<=j:=by decide)
  (J:(x==("__debug__" : Str))=false:=by decide) (N:starEach (e::es) X.env=(false,eval e X.env)::starEach es X.env:=by rfl) (L:(backTo pos (starEach es X.env)).any (·.1)=false:=by rfl) :
  PE X (.Call (.Name x p) (e::es) [] pos) (Dv sp [] E t):=by
 let#[f,fd,_,g,b,q,r]:=F;show Dk g (G.mono R) S q r b .nil I O J N L
end
end L2
namespace St
open PySem L2
noncomputable def top (i:Nat):KP:=PySem.Challenge.pw_ownroom_k16_put_out_and_fetched.main.body.getD i (.Pass #[(0),(0),(0),(0)])
noncomputable abbrev nH:KP:=inClass (top 10) 0
noncomputable abbrev zm:KP:=inClass (top 10) 1
noncomputable abbrev AW:KP:=inClass (top 10) 3
noncomputable abbrev Ak:KP:=inClass (top 10) 2
noncomputable abbrev Ae:KP:=inClass (top 10) 7
noncomputable abbrev vp:KP:=inClass (top 10) 4
noncomputable abbrev uk:KP:=inClass (top 10) 5
noncomputable abbrev DV:KP:=inClass (top 10) 6
noncomputable abbrev qp:KP:=inClass (top 10) 8
theorem kc:¬ (("owners" : Str) = "contents"):=ao
noncomputable def jN (ow co:Addr):List (Str×V):=bo "contents" (.ref co) (bo "owners" (.ref ow) [])
theorem eB (ow co:Addr):(jN ow co).lookup ("owners" : Str)=some (.ref ow):=by
 unfold jN;rw[aG,Su kc,aG,Sv rfl]
theorem p9 (ow co:Addr):(jN ow co).lookup ("contents" : Str)=some (.ref co):=by
 unfold jN;rw[aG,Sv rfl]
theorem aY (ow co:Addr) {m:Str}(h1:¬ m = "contents") (h2:¬ m = "owners"):(jN ow co).lookup m=none:=by
 unfold jN;rw[aG,Su h1,aG,Su h2]
 all_goals rfl
noncomputable def dW (H:Hp) (M:Addr->Prop):V->Option (List Int)->Prop
 |.non,none=>True
 |.ref a,some ns=>¬ M a/\H a=some (.lst (ns.map V.int))
 |_,_=>False
structure aU (C:Addr) (H:Hp) (M:Addr->Prop) (p ow co:Addr) (os:List Int) (pg:List (Option (List Int))):Prop where
 ob:∃dx,H p=some (.ins C dx (jN ow co))
 hw:H ow=some (.lst (os.map V.int))
 hc:∃cs,H co=some (.lst cs)/\Paired (dW H M) cs pg
noncomputable def Off (B:Addr->Prop) (H H':Hp):Prop:=∀b o,H b=some o->¬ B b->H' b=some o
theorem dW.off {B M:Addr->Prop}{H H':Hp}(h:Off B H H') (G:∀b,B b->M b):∀{v:V}{x:Option (List Int)},dW H M v x->dW H' M v x
 |.non,none,_=>trivial
 |.ref a,some ns,⟨h1,h2⟩=>#[h1,h a _ h2 λz=>h1 (G a z)]
theorem iB {B M:Addr->Prop}{H H':Hp}(h:Off B H H') (G:∀b,B b->M b) {cs:List V}{pg:List (Option (List Int))}(q:Paired (dW H M) cs pg):Paired (dW H' M) cs pg :=
 Paired.zc q λ_ _ z=>z.off h G
theorem mV {α G:Type}{F:α->G->Prop}:∀{xs:List α}{ys:List G}{i:Nat}{y:G},Paired F xs ys->ys[i]?=some y->∃x,xs[i]?=some x/\F x y
 |_,_,_,_,.nil,e=>by simp at e
 |_,_,0,_,.cons r _,e=>by simp at e;subst e;show#[0,r]
 |_,_,i+1,y,.cons _ t,e=>by
  let#[u,h1,h2]:=mV (i:=i) (y:=y) t (by simpa using e);show#[u,by simpa using h1,h2]
theorem jl {α G:Type}{F:α->G->Prop}{x:α}{y:G}(r:F x y):∀{xs:List α}{ys:List G}(i:Nat),Paired F xs ys->Paired F (xs.set i x) (ys.set i y)
 |_,_,_,.nil=>.nil
 |_,_,0,.cons _ t=>.cons r t
 |_,_,i+1,.cons q t=>.cons q (jl r i t)
theorem nY {α G:Type}{F:α->G->Prop}{x:α}{y:G}(r:F x y):∀n:Nat,Paired F (replicate n x) (replicate n y)
 |0=>.nil
 |n+1=>.cons r (nY r n)
structure Txt (K:iF) (mg:Str->Option Value) (C:Addr):Prop where
 cl:r9 K C
 nO:c6 K C "owners"
 nC:c6 K C "contents"
 len:mg "len" = none
 list:mg "list" = none
 pc:∃u,mg "PAGE_CELLS" = some u/\RelV (.int 8) u
inductive hX (C:Addr) (vs:List V) (H:Hp) (Q:VK) (e3:XK):Prop
 |mk (p dx:Addr) (n:Nat) (_:vs=[.ref p,.int n]) (_:n<=60) (_:H p=some (.ins C dx [])) (_:∀(ow co:Addr) (H':Hp),H ow=none->H co=none->ow≠co->(∀M,aU C H' M p ow co (replicate n 0) (replicate n none))->Off (· = p) H H'->Q .non H'):hX C vs H Q e3
noncomputable def dX (os:List Int) (n:Int):Int:=if n<0\/(os.length:Int)<=n then 0 else os.getD n.toNat 0
theorem lE {os:List Int}{n:Int}(h:dX os n≠0):0<=n/\n.toNat<os.length/\n<os.length/\n=(n.toNat:Int):=by
 unfold dX at h;by_cases z:n<0\/(os.length:Int)<=n
 .rw[Sv z]at h;show absurd rfl h
 .omega
theorem wc {os:List Int}{j:Nat}(h:j<os.length):dX os (j:Int)=os.getD j 0:=by
 unfold dX;rw[Su ae];simp
inductive gD (C:Addr) (vs:List V) (H:Hp) (Q:VK) (e3:XK):Prop
 |mk (p ow co:Addr) (M:Addr->Prop) (os:List Int) (pg:List (Option (List Int))) (n:Int) (_:vs=[.ref p,.int n]) (_:aU C H M p ow co os pg) (_:os.length<=60) (_:Q (.int (dX os n)) H):gD C vs H Q e3
inductive gg (C:Addr) (vs:List V) (H:Hp) (Q:VK) (e3:XK):Prop
 |mk (p ow co:Addr) (M:Addr->Prop) (os:List Int) (pg:List (Option (List Int))) (n:Int) (_:vs=[.ref p,.int n]) (_:aU C H M p ow co os pg) (_:os.length<=60) (_:dX os n≠0) (_:Q .non H):gg C vs H Q e3
inductive vC (C:Addr) (vs:List V) (H:Hp) (Q:VK) (e3:XK):Prop
 |mk (p ow co:Addr) (M:Addr->Prop) (os:List Int) (pg:List (Option (List Int))) (_:vs=[.ref p]) (_:aU C H M p ow co os pg) (_:M ow) (_:M co) (_:(∀b,M b->H b≠none)) (_:ow≠co) (_:os.length=pg.length) (_:os.length<=60) (_:(¬ (0:Int)∈os->Q .non H)) (_:((0:Int)∈os->∀H',aU C H' M p ow co (os.set (os.idxOf 0) 1) (pg.set (os.idxOf 0) (some (replicate 8 0)))->Off (λb=>b=ow\/b=co) H H'->Q (.int (os.idxOf 0:Nat)) H')):vC C vs H Q e3
inductive rM (C:Addr) (vs:List V) (H:Hp) (Q:VK) (e3:XK):Prop
 |mk (p ow co:Addr) (M:Addr->Prop) (os:List Int) (pg:List (Option (List Int))) (n:Int) (_:vs=[.ref p,.int n]) (_:aU C H M p ow co os pg) (_:M ow) (_:M co) (_:ow≠co) (_:os.length<=60) (_:dX os n≠0) (_:∀H',aU C H' M p ow co (os.set n.toNat (dX os n-1)) pg->Off (λb=>b=ow\/b=co) H H'->Q .non H'):rM C vs H Q e3
inductive qI (C:Addr) (vs:List V) (H:Hp) (Q:VK) (e3:XK):Prop
 |mk (p ow co:Addr) (M:Addr->Prop) (os:List Int) (pg:List (Option (List Int))) (n:Int) (_:vs=[.ref p,.int n]) (_:aU C H M p ow co os pg) (_:M ow) (_:M co) (_:ow≠co) (_:os.length<=60) (_:dX os n≠0) (_:∀H',aU C H' M p ow co (os.set n.toNat (dX os n+1)) pg->Off (λb=>b=ow\/b=co) H H'->Q .non H'):qI C vs H Q e3
inductive rY (C:Addr) (vs:List V) (H:Hp) (Q:VK) (e3:XK):Prop
 |mk (p ow co:Addr) (M:Addr->Prop) (os:List Int) (pg:List (Option (List Int))) (_:vs=[.ref p]) (_:aU C H M p ow co os pg) (_:Q (.int (os.count 0:Nat)) H):rY C vs H Q e3
inductive lG (C:Addr) (vs:List V) (H:Hp) (Q:VK) (e3:XK):Prop
 |mk (p ow co:Addr) (M:Addr->Prop) (os:List Int) (pg:List (Option (List Int))) (n:Int) (ns:List Int) (_:vs=[.ref p,.int n]) (_:aU C H M p ow co os pg) (_:os.length<=60) (_:dX os n≠0) (_:pg[n.toNat]?=some (some ns)) (_:∀l,H l=none->Q (.ref l) (upd H l (.lst (ns.map V.int)))):lG C vs H Q e3
inductive w9 (K:iF) (C:Addr) (vs:List V) (H:Hp) (Q:VK) (e3:XK):Prop
 |mk (p ow co c:Addr) (M:Addr->Prop) (os:List Int) (pg:List (Option (List Int))) (n:Int) (ns:List Int) (_:vs=[.ref p,.int n,.ref c]) (_:aU C H M p ow co os pg) (_:M ow) (_:M co) (_:(∀b,M b->H b≠none)) (_:ow≠co) (_:os.length=pg.length) (_:os.length<=60) (_:dX os n≠0) (_:bA K H c (ns.map V.int)) (_:∀H',aU C H' M p ow co os (pg.set n.toNat (some ns))->Off (λb=>b=ow\/b=co) H H'->Q .non H'):w9 K C vs H Q e3
section
variable {P:rr}{w:Bd}{K:iF}{mg:Str->Option Value}{base:Heap}
theorem rep1 {α:Type}(x:α) (n:Nat):(replicate n [x]).flatten=replicate n x:=by
 induction n with
 |zero=>rfl
 |succ n G=>rw[Me,Mj,G,Me];rfl
theorem JD:aC ["self","many"] ["self","many"] (aw nH):=L2.bD
theorem qZ {f C:Addr}{fd:qi}(F:cK K "__init__" "Store.__init__" nH f fd) (T:Txt K mg C):a8 P w K mg base aV 1 f fd ["self","many"] (hX C):=by
 show F.dh JD (λa1 A outer s H vs Q E hr h=>?_);let#[p,dx,n,rfl,hn,U,k]:=h;show#[_,ag (fm (pv 0) (aA oo (cj (aa aj ai)) (pv 1)) rfl) (ak (fm (pv 0) (aA oo (cj (aa rA ai)) (pv 1)) rfl)),?_];have hs:=ub;show#[av,λL ac=>?_];have as:p≠L:=ar U ac;show#[0,L,n,0,rfl,af,ae,ae,by rw[Lu];omega,λow J=>?_];have aB:ow≠L:=λz=>(by rw[z,af]at J;cases J);rw[ah aB]at J;have R:p≠ow:=ar U J;show#[0,p,C,dx,[],rfl,by rw[ah R,ah as];show U,T.cl,T.nO,av,?_];show#[av,λN I=>?_];have ab:N≠p:=λz=>(by rw[z,af]at I;cases I);rw[ah ab]at I;have Y:N≠ow:=λz=>(by rw[z,af]at I;cases I);rw[ah Y]at I;have ap:N≠L:=λz=>(by rw[z,af]at I;cases I);rw[ah ap]at I;show#[0,N,n,0,rfl,af,ae,ae,by rw[Lu];omega,λco G=>?_];have aT:co≠N:=λz=>(by rw[z,af]at G;cases G);rw[ah aT]at G;have O:co≠p:=λz=>(by rw[z,af]at G;cases G);rw[ah O]at G;have S:co≠ow:=λz=>(by rw[z,af]at G;cases G);rw[ah S]at G;have a0:co≠L:=λz=>(by rw[z,af]at G;cases G);rw[ah a0]at G;show#[0,p,C,dx,0,by rw[ah (qs O),ah (qs ab),af],T.cl,T.nC,by change 1<1000;decide,?_];rw[show((n:Int)).toNat=n by omega,rep1,rep1];show k ow co _ J G (qs S) (λM=>#[#[dx,af],?_,#[_,?_,nY (show dW _ M .non none from trivial) n]]) λb o e hb=>?_
 .rw[ah (qs R),ah (qs S),ah (qs Y),ah (qs R),af,List.map_replicate]
 .rw[ah O,af]
 .have am:b≠p:=hb;rw[ah am,ah (ar e G),ah (ar e I),ah am,ah (ar e J),ah (ar e ac)];show e
theorem Im:aC ["self","n"] ["self","n"] (aw vp):=L2.bD
theorem zC {f C:Addr}{fd:qi}(F:cK K "count" "Store.count" vp f fd) (T:Txt K mg C):a8 P w K mg base aV 1 f fd ["self","n"] (gD C):=by
 show F.dh Im (λO A outer s H vs Q E N h=>?_);let#[p,ow,co,M,os,pg,n,rfl,S,L,k]:=h;let#[#[dx,h1],J,_]:=id S;show#[_,ag (aS (iy (aD gK (pv 1) aj (aI _)) (gA (aD Hk (pv 1) (aQ bG (by rfl) T.len boot_len (aa (aK (pv 0) rfl) ai)) (aI _)))).pt (ak (aE aj)) aF)
  (ak (aE (aP cu (aK (pv 0) rfl) (pv 1) bW))),?_]
 show#[0,_,0,rfl,0,?_];show gS (λc=>?_) (λc=>?_)
 .show eL ?_;have I:n<0:=(by simpa using c);unfold dX at k;rw[Sv (.inl I)]at k;show k
 .have I:¬ n<0:=(by simpa using c);show#[0,0,p,C,dx,_,0,h1,T.cl,T.nO,eB _ _,ow,0,.inl (bA.of J),_,0,rfl,0,?_];show gS (λd=>?_) (λd=>?_)
  .have d':(os.length:Int)<=n:=(by simpa using d);unfold dX at k;rw[Sv (.inr d')]at k;show k
  .have d':¬ (os.length:Int)<=n:=(by simpa using d);obtain⟨j,rfl⟩:∃j:Nat,n=j:=#[n.toNat,ae];have G:j<os.length:=ae;rw[wc G]at k;show#[0,p,C,dx,_,0,h1,T.cl,T.nO,eB _ _,0,ow,_,j,.int (os.getD j 0),1,bA.of J,jV ?_,k];rw[rz,ti G];simp[G]
theorem Kk:aC ["self","n"] ["self","n"] (aw qp):=L2.bD
theorem ye {f C:Addr}{fd:qi}(F:cK K "refuse_free" "Store.refuse_free" qp f fd) (T:Txt K mg C) (J:Md P w K mg base aV 1 C "count" (gD C)) :
  a8 P w K mg base aV 2 f fd ["self","n"] (gg C):=by
 show F.dh Kk (λO A outer s H vs Q E L h=>?_);let#[p,ow,co,M,os,pg,n,rfl,S,G,I,k]:=h;let#[#[dx,h1],N,_]:=id S;show#[_,ak (aS (aD bP (pm (pv 0) T.cl J L ax (aa (pv 1) ai)) aj (aI _)) (cY) aF),?_];show#[0,p,dx,0,h1,aY _ _ ao ao,0,p,ow,co,M,os,pg,n,rfl,S,G,rfl,0,?_];show gS (λc=>?_) (λc=>?_)
 .show absurd (by simpa using c) I
 .show k
theorem Ij:aC ["self","n"] ["self","n"] (aw AW):=L2.bD
theorem gv {H:Hp}{M:Addr->Prop}{a:Addr}{o:HO}{cs:List V}{pg:List (Option (List Int))}(I:M a) (q:Paired (dW H M) cs pg):Paired (dW (upd H a o) M) cs pg :=
 iB (B:=(· = a)) (λb u e G=>by rw[ah (show b≠a from G)];show e) (λb z=>by rw[show b=a from z];show I) q
theorem kq {H:Hp}{M:Addr->Prop}{a:Addr}{o:HO}{cs:List V}{pg:List (Option (List Int))}(G:H a=none) (q:Paired (dW H M) cs pg):Paired (dW (upd H a o) M) cs pg :=
 iB (B:=λ_=>False) (λb u e _=>by rw[ah (ar e G)];show e) (λb z=>z.elim) q
theorem iT {H:Hp}{p a C dx:Addr}{fs:List (Str×V)}{xs:List V}(h:H p=some (.ins C dx fs)) (h':H a=some (.lst xs)):p≠a:=cI h h' (by intro z;cases z)
theorem Cp {f C:Addr}{fd:qi}(F:cK K "less" "Store.less" AW f fd) (T:Txt K mg C) (Y:Md P w K mg base aV 2 C "refuse_free" (gg C)) :
  a8 P w K mg base aV 3 f fd ["self","n"] (rM C):=by
 show F.dh Ij (λac A outer s H vs Q E O h=>?_);let#[p,ow,co,M,os,pg,n,rfl,S,mw,mc,ab,L,J,k]:=h;let#[#[dx,h1],I,cs,R,U]:=id S;show#[_,ag (aL (pm (pv 0) T.cl Y O ax (aa (pv 1) ai)))
  (ak (w6 (aK (pv 0) rfl) (pv 1) (su) aj Ee set_list)),?_]
 show#[0,p,dx,0,h1,aY _ _ ao ao,0,p,ow,co,M,os,pg,n,rfl,S,L,J,?_];let#[h0,G,hn,N]:=lE J;generalize n.toNat=j at *;subst N;show#[0,p,C,dx,_,0,h1,T.cl,T.nO,eB _ _,0,ow,_,j,.int (os.getD j 0),1,bA.of I,jV (by rw[rz,ti G];simp[G]),_,0,rfl,ow,_,j,j,1,I,3]
 .unfold vW;rw[nq,Sv ae,Sv ae];simp
 .rw[wc G]at k;show k _ #[#[dx,by rw[ah (iT h1 I)];show h1],?_,#[cs,by rw[ah (qs ab)];show R,gv mw U]] λb o e hb=>?_
  .rw[af,RZ]
  .rw[ah (λz=>hb (.inl z))];show e
theorem Kx:aC ["self","n"] ["self","n"] (aw uk):=L2.bD
theorem y4 {f C:Addr}{fd:qi}(F:cK K "cells" "Store.cells" uk f fd) (T:Txt K mg C) (R:Md P w K mg base aV 2 C "refuse_free" (gg C)) :
  a8 P w K mg base aV 3 f fd ["self","n"] (lG C):=by
 show F.dh Kx (λab A outer s H vs Q E L h=>?_);let#[p,ow,co,M,os,pg,n,ns,rfl,S,I,G,hg,k]:=h;let#[#[dx,h1],hw,cs,N,O]:=id S;show#[_,ag (aL (pm (pv 0) T.cl R L ax (aa (pv 1) ai)))
  (ak (aE (bH cR (by rfl) T.list dS (aa (aP cu (aK (pv 0) rfl) (pv 1) bW) ai)))),?_]
 show#[0,p,dx,0,h1,aY _ _ ao ao,0,p,ow,co,M,os,pg,n,rfl,S,I,G,?_];let#[h0,hj,hn,J]:=lE G;generalize n.toNat=j at *;subst J;let#[v,U,cv]:=mV O hg;obtain⟨a,rfl,Y⟩:∃a,v=.ref a/\H a=some (.lst (ns.map V.int)):=by
  cases v with
  |ref a=>show#[a,rfl,cv.2]
  |_=>show LU cv
 show#[0,p,C,dx,_,0,h1,T.cl,T.nC,p9 _ _,0,co,cs,j,0,rfl,bA.of N,jV U,a,0,.inl (bA.of Y),k]
theorem HS:aC ["self","n","cells"] ["self","n","cells"] (aw DV):=L2.bD
theorem jg {α G:Type}{F:α->G->Prop}:∀{xs:List α}{ys:List G},Paired F xs ys->xs.length=ys.length
 |_,_,.nil=>rfl
 |_,_,.cons _ t=>by rw[DO,DO,jg t]
theorem EZ {f C:Addr}{fd:qi}(F:cK K "put" "Store.put" DV f fd) (T:Txt K mg C) (GG:Md P w K mg base aV 2 C "refuse_free" (gg C)) :
  a8 P w K mg base aV 3 f fd ["self","n","cells"] (w9 K C):=by
 show F.dh HS (λap A outer s H vs Q E hr h=>?_);let#[p,ow,co,c,M,os,pg,n,ns,rfl,S,mw,mc,mt,ab,am,R,L,hq,k]:=h;let#[#[dx,h1],N,cs,J,O]:=id S;show#[_,ag (aL (pm (pv 0) T.cl GG hr ax (aa (pv 1) ai)))
  (ak (cV (bH cR (by rfl) T.list dS (aa (pv 2) ai)) (dU (aK (pv 0) rfl) (pv 1) set_list))),?_]
 show#[0,p,dx,0,h1,aY _ _ ao ao,0,p,ow,co,M,os,pg,n,rfl,S,R,L,?_];let#[h0,hj,hn,Y]:=lE L;generalize n.toNat=j at *;subst Y;have ac:=jg O;show#[0,c,0,.inl hq,λl I=>?_];have G:∀{b:Addr}{o:HO},H b=some o->b≠l:=λe=>ar e I;show#[0,p,C,dx,_,0,by rw[ah (G h1)];show h1,T.cl,T.nC,p9 _ _,0,co,cs,j,j,1,by rw[ah (G J)];show J,3]
 .unfold vW;rw[Sv ae,Sv ae];simp
 .have U:¬ M l:=λz=>mt l z I;show k _ #[#[dx,by rw[ah (iT h1 J),ah (G h1)];show h1],by rw[ah ab,ah (G N)];show N,#[_,af,gv mc (jl #[U,af] j (kq I O))]] λb o e hb=>?_;rw[ah (λz=>hb (.inr z)),ah (G e)];show e
theorem J6:aC ["self","n"] ["self"] (aw zm):=L2.bD
theorem KA (os:List Int):BJ (.int 0) (os.map V.int)=decide ((0:Int)∈os):=by
 unfold BJ;rw[List.any_map,MB,MX,decide_eq_true_iff];constructor
 .rintro⟨x,I,e⟩;have G:x=0:=by
   have:(x==(0:Int))=true:=e;simpa using this
  subst G;show I
 .intro h;show#[(0),h,rfl]
theorem C8 {f C:Addr}{fd:qi}(F:cK K "take" "Store.take" zm f fd) (T:Txt K mg C):a8 P w K mg base aV 1 f fd ["self"] (vC C):=by
 show F.dh J6 (λap A outer s H vs Q E hr h=>?_);let#[p,ow,co,M,os,pg,rfl,S,mw,mc,mt,ab,am,hl,k0,k1]:=h;let#[#[dx,h1],I,cs,O,U]:=id S;let#[u8,m8,r8]:=T.pc;have hs:=ub;show#[_,ag (aS (aD jw aj (aK (pv 0) rfl) (by with_unfolding_all rfl)) (ak (aE rA)) aF)
  (ag (dn 1 J6.nd (ie Ls OM PySem.F.type_list_index zG (aK (pv 0) rfl) (aa aj ai)))
  (ag (cV aj (dU (aK (pv 0) rfl) (pv 1) set_list))
  (ag (cV (aA oo (cj (aa aj ai)) (cw (by rfl) m8 r8)) (dU (aK (pv 0) rfl) (pv 1) set_list))
  (ak (aE (pv 1)))))),?_]
 show#[0,p,C,dx,_,0,h1,T.cl,T.nO,eB _ _,ow,0,.inl (bA.of I),rfl,d0 _,0,?_];change if (!BJ (.int 0) (os.map V.int))=true then _ else _
 rw[KA];by_cases c:(0:Int)∈os
 .rw[decide_eq_true c];show bX ?_;have hj:os.idxOf 0<os.length:=LB.mpr c;have ac:=jg U;show#[0,p,C,dx,_,0,h1,T.cl,T.nO,eB _ _,.inl #[4,bA.of I],ow,os,(0),1,I,c,?_];have k2:=k1 c;generalize os.idxOf 0=j at *;show#[0,p,C,dx,_,0,h1,T.cl,T.nO,eB _ _,0,ow,_,j,j,1,I,3]
  .unfold vW;rw[nq,Sv ae,Sv ae];simp
  .show#[av,λl L=>?_];have R:l≠ow:=λz=>(by rw[z,af]at L;cases L);rw[ah R]at L;show#[l,(8),0,rfl,af,ae,ae,by rw[Lu];omega,λq G=>?_];have ql:q≠l:=λz=>(by rw[z,af]at G;cases G);rw[ah ql]at G;have qw:q≠ow:=λz=>(by rw[z,af]at G;cases G);rw[ah qw]at G;have J:∀{b:Addr}{o:HO},H b=some o->b≠l:=λe=>ar e L;have N:∀{b:Addr}{o:HO},H b=some o->b≠q:=λe=>ar e G;show#[0,p,C,dx,_,0,by rw[ah (N h1),ah (J h1),ah (iT h1 I)];show h1,T.cl,T.nC,p9 _ _,0,co,cs,j,j,1,by rw[ah (N O),ah (J O),ah (qs ab)];show O,3]
   .unfold vW;rw[Sv ae,Sv ae];simp
   .show#[0,?_];have hM:¬ M q:=λz=>mt q z G;show k2 _ #[#[dx,by rw[ah (iT h1 O),ah (N h1),ah (J h1),ah (iT h1 I)];show h1],?_,#[_,af,gv mc (jl #[hM,by rw[af];rfl] j (kq (by rw[ah ql,ah qw];show G) (kq (by rw[ah R];show L) (gv mw U))))]] λb o e Y=>?_
    .rw[ah ab,ah (N I),ah (J I),af,RZ]
    .rw[ah (λz=>Y (.inr z)),ah (N e),ah (J e),ah (λz=>Y (.inl z))];show e
 .rw[decide_eq_false c];show k0 c
theorem JI:aC ["self","n"] ["self","n"] (aw Ak):=L2.bD
theorem Dl {f C:Addr}{fd:qi}(F:cK K "more" "Store.more" Ak f fd) (T:Txt K mg C) (Y:Md P w K mg base aV 2 C "refuse_free" (gg C)) :
  a8 P w K mg base aV 3 f fd ["self","n"] (qI C):=by
 show F.dh JI (λac A outer s H vs Q E O h=>?_);let#[p,ow,co,M,os,pg,n,rfl,S,mw,mc,ab,L,J,k]:=h;let#[#[dx,h1],I,cs,R,U]:=id S;show#[_,ag (aL (pm (pv 0) T.cl Y O ax (aa (pv 1) ai)))
  (ak (w6 (aK (pv 0) rfl) (pv 1) (su) aj Fn set_list)),?_]
 show#[0,p,dx,0,h1,aY _ _ ao ao,0,p,ow,co,M,os,pg,n,rfl,S,L,J,?_];let#[h0,G,hn,N]:=lE J;generalize n.toNat=j at *;subst N;show#[0,p,C,dx,_,0,h1,T.cl,T.nO,eB _ _,0,ow,_,j,.int (os.getD j 0),1,bA.of I,jV (by rw[rz,ti G];simp[G]),_,0,rfl,ow,_,j,j,1,I,3]
 .unfold vW;rw[nq,Sv ae,Sv ae];simp
 .rw[wc G]at k;show k _ #[#[dx,by rw[ah (iT h1 I)];show h1],?_,#[cs,by rw[ah (qs ab)];show R,gv mw U]] λb o e hb=>?_
  .rw[af,RZ]
  .rw[ah (λz=>hb (.inl z))];show e
theorem JS:aC ["self"] ["self"] (aw Ae):=L2.bD
theorem Cg {f C:Addr}{fd:qi}(F:cK K "free" "Store.free" Ae f fd) (T:Txt K mg C):a8 P w K mg base aV 1 f fd ["self"] (rY C):=by
 show F.dh JS (λI A outer s H vs Q E J h=>?_);let#[p,ow,co,M,os,pg,rfl,S,k]:=h;let#[#[dx,h1],G,_]:=id S;show#[_,ak (aE (ie Ls PySem.F.slot_list_count PySem.F.type_list_count zj (aK (pv 0) rfl) (aa aj ai))),?_];show#[0,p,C,dx,_,0,h1,T.cl,T.nO,eB _ _,.inl #[4,bA.of G],ow,os,(0),1,G,k]
end
end St
namespace Tb
open PySem L2
noncomputable def top (i:Nat):KP:=PySem.Challenge.pw_ownroom_k16_put_out_and_fetched.main.body.getD i (.Pass #[(0),(0),(0),(0)])
noncomputable abbrev wO:KP:=top 29
noncomputable abbrev nH:KP:=inClass (top 30) 0
noncomputable abbrev EM:KP:=inClass (top 30) 1
noncomputable abbrev E5:KP:=inClass (top 30) 2
noncomputable abbrev vV:KP:=inClass (top 30) 3
noncomputable abbrev uq:KP:=inClass (top 30) 4
theorem au {H:Hp}{l:Addr}{X:HO}(h:H l=none):aZ H (upd H l X):=λb o e=>by rw[ah (ar e h)];show e
noncomputable def Off (B:Addr->Prop) (H H':Hp):Prop:=∀b o,H b=some o->¬ B b->H' b=some o
section
variable {α:Type}
noncomputable def look (l:List (Int×α)) (k:Int):Option α:=(l.find? λx=>decide (x.1=k)).map (·.2)
noncomputable def dk (f:α->V) (l:List (Int×α)):List (Key×V):=l.map λx=>(sS x.1,f x.2)
noncomputable def aW (l:List (Int×α)) (k:Int) (a:α):List (Int×α):=l.map λx=>if x.1=k then(k,a)else x
noncomputable def bf (l:List (Int×α)) (k:Int):List (Int×α):=l.filter λx=>decide (x.1≠k)
theorem ix (k:Int):look ([]:List (Int×α)) k=none:=rfl
theorem aO (x:Int×α) (l:List (Int×α)) (k:Int):look (x::l) k=if x.1=k then some x.2 else look l k:=by
 unfold look;rw[NL];by_cases h:x.1=k
 .rw[decide_eq_true h,Sv h];rfl
 .rw[decide_eq_false h,Su h]
theorem cL (f:α->V) (k:Int):∀l:List (Int×α),bZ (dk f l) (sS k)=(look l k).map f
 | []=>rfl
 |x::l=>by
  have G:=cL f k l;change bZ ((sS x.1,f x.2)::dk f l) (sS k)=_;rw[aO];by_cases h:x.1=k
  .rw[Sv h,ck (by rw[h])];rfl
  .rw[Su h,bC (λe=>h (QK e)),G]
theorem az {l:List (Int×α)}{k:Int}{a:α}(h:look l k=some a):(k,a)∈l:=by
 unfold look at h;let#[x,G,e]:=pq.mp h;have h1:=List.mem_of_find?_eq_some G;have h2:x.1=k:=(by simpa using List.find?_some G);rw[<-h2, <-e];show h1
theorem cf {l:List (Int×α)}{k:Int}(h:look l k=none):¬ k∈l.map (·.1):=by
 unfold look at h;rw[NA,List.find?_eq_none]at h;rintro m;let#[x,G,e]:=rn.mp m;show h x G (decide_eq_true e)
theorem bJ {l:List (Int×α)}{k:Int}{a:α}(G:(l.map (·.1)).Nodup) (h:(k,a)∈l):look l k=some a:=by
 induction l with
 |nil=>cases h
 |cons x l L =>
  rw[aO];let#[J,I]:=KJ.mp (show(x.1::l.map (·.1)).Nodup from G);rcases wh.mp h with e|m
  .rw[<-e,Sv rfl]
  .have:¬ x.1=k:=λe=>J (e▸rn.mpr #[_,m,rfl]);rw[Su this];show L I m
theorem FJ (f:α->V) (l:List (Int×α)) (k:Int):((dk f l).any λG=>decide (G.1=sS k))=(look l k).isSome:=by
 rw[fq,cL];cases look l k<;>rfl
theorem cH {f:α->V}{l:List (Int×α)}{k:Int}{a:α}(h:look l k=none):putK (dk f l) (sS k) (f a)=dk f (l++[(k,a)]):=by
 rw[jO _ (by rw[cL,h];rfl)];unfold dk;rw[BY];rfl
theorem ic {f:α->V}{l:List (Int×α)}{k:Int}{a b:α}(h:look l k=some b):putK (dk f l) (sS k) (f a)=dk f (aW l k a):=by
 unfold putK;rw[Sv (by rw[FJ,h];rfl)];unfold dk aW;rw[LO,LO];congr 1;funext x;change(if (sS x.1:Key)=sS k then((sS x.1:Key),f a)else(sS x.1,f x.2))=((sS (if x.1=k then(k,a)else x).1:Key),f (if x.1=k then(k,a)else x).2);by_cases e:x.1=k
 .rw[Sv (by rw[e]),Sv e,e]
 .rw[Su (λz=>e (QK z)),Su e]
theorem eK (f:α->V) (l:List (Int×α)) (k:Int):mR (dk f l) (sS k)=dk f (bf l k):=by
 unfold mR dk bf;rw[QU];congr 1;congr 1;funext x;change decide (¬ (sS x.1:Key)=sS k)=decide (¬ x.1=k);by_cases e:x.1=k
 .rw[e];simp
 .simp[e]
theorem bu {l:List (Int×α)}{k:Int}{a:α}(j:Int) (h:look l k=none):look (l++[(k,a)]) j=if j=k then some a else look l j:=by
 induction l with
 |nil =>
  change look [(k,a)] j=_;rw[aO,ix];by_cases e:j=k
  .rw[Sv e,Sv e.symm]
  .rw[Su e,Su (qs e)]
 |cons x l I =>
  rw[aO]at h;by_cases e:x.1=k
  .rw[Sv e]at h;cases h
  .rw[Su e]at h;change look (x::(l++[(k,a)])) j=_;rw[aO,aO,I h];by_cases G:x.1=j
   .rw[Sv G,Sv G,Su (λz=>e (G.trans z))]
   .rw[Su G,Su G]
theorem bK {l:List (Int×α)}{k:Int}{a b:α}(j:Int) (h:look l k=some b):look (aW l k a) j=if j=k then some a else look l j:=by
 induction l with
 |nil=>cases h
 |cons x l I =>
  rw[aO]at h;change look ((if x.1=k then(k,a)else x)::aW l k a) j=_;by_cases e:x.1=k
  .rw[Sv e,aO,aO];by_cases G:j=k
   .rw[Sv G.symm,Sv G]
   .rw[Su (qs G),Su G,Su (λz=>G (z.symm.trans e))];clear I h
    induction l with
    |nil=>rfl
    |cons y l I =>
     change look ((if y.1=k then(k,a)else y)::aW l k a) j=_;by_cases J:y.1=k
     .rw[Sv J,aO,aO,Su (qs G),Su (λz=>G (z.symm.trans J)),I]
     .rw[Su J,aO,aO,I]
  .rw[Su e]at h;rw[Su e,aO,aO,I h];by_cases G:x.1=j
   .rw[Sv G,Sv G,Su (λz=>e (G.trans z))]
   .rw[Su G,Su G]
theorem cn (l:List (Int×α)) (k j:Int):look (bf l k) j=if j=k then none else look l j:=by
 induction l with
 |nil =>
  change look [] j=if j=k then none else look [] j
  rw[ix];split<;>rfl
 |cons x l I =>
  unfold bf at *;rw[L0];by_cases e:x.1=k
  .rw[Su (by simp[e]),I,aO];by_cases G:j=k
   .rw[Sv G,Sv G]
   .rw[Su G,Su G,Su (λz=>G (z.symm.trans e))]
  .rw[Sv (by simp[e]),aO,aO,I];by_cases G:x.1=j
   .rw[Sv G,Sv G,Su (λz=>e (G.trans z))]
   .rw[Su G,Su G]
theorem fG (l:List (Int×α)) (k:Int) (a:α):(aW l k a).map (·.1)=l.map (·.1):=by
 unfold aW;rw[LO];congr 1;funext x;change(if x.1=k then(k,a)else x).1=x.1;by_cases e:x.1=k
 .rw[Sv e,e]
 .rw[Su e]
theorem ju (l:List (Int×α)) (k:Int):(bf l k).map (·.1)=(l.map (·.1)).filter λx=>decide (x≠k):=by
 unfold bf;rw[QU];rfl
theorem fP (l:List (Int×α)) (k:Int) (a:α):(aW l k a).length=l.length:=by unfold aW;rw[nq]
theorem mem_set {l:List (Int×α)}{k:Int}{a:α}{x:Int×α}(h:x∈aW l k a):x=(k,a)\/(x∈l/\x.1≠k):=by
 unfold aW at h;let#[y,G,e]:=rn.mp h;by_cases c:y.1=k
 .rw[Sv c]at e;show .inl e.symm
 .rw[Su c]at e;subst e;show .inr #[G,c]
theorem b9 {l:List (Int×α)}{k:Int}{x:Int×α}(h:x∈bf l k):x∈l/\x.1≠k:=by
 unfold bf at h;let#[h1,h2]:=Mz.mp h;show#[h1,of_decide_eq_true h2]
theorem cg (f:α->V) (l:List (Int×α)):(dk f l).length=l.length:=by unfold dk;rw[nq]
theorem lL {l:List (Int×α)}{k:Int}{a:α}(I:(l.map (·.1)).Nodup) (h:look l k=some a):(bf l k).length+1=l.length:=by
 induction l with
 |nil=>cases h
 |cons x l N =>
  let#[L,J]:=KJ.mp (show(x.1::l.map (·.1)).Nodup from I);rw[aO]at h;unfold bf at *;rw[L0];by_cases e:x.1=k
  .rw[Su (by simp[e])];have:l.filter (λx=>decide (x.1≠k))=l:=by
    rw[Og];intro y G;have:y.1≠k:=λz=>L (by rw[e, <-z];show rn.mpr #[_,G,rfl]);simpa using this
   rw[this,DO]
  .rw[Su e]at h;rw[Sv (by simpa using e),DO,DO,N J h]
end
noncomputable abbrev ue:=List (Int×(Addr×List V))
noncomputable abbrev js:=List (Int×(Addr×ue))
noncomputable def fS:Addr×List V->V:=λx=>.ref x.1
noncomputable def fF:Addr×ue->V:=λx=>.ref x.1
noncomputable def zZ:V->Bool
 |.int _=>true
 |.str _=>true
 |_=>false
noncomputable def oe (xs:List V):Bool:=xs.all zZ&&decide (xs.length<1000)
theorem De {xs:List V}(h:oe xs=true):xs.all zZ=true:=(PB.mp h).1
theorem CM {xs:List V}(h:oe xs=true):xs.length<1000:=of_decide_eq_true (PB.mp h).2
noncomputable def jN (fs:Addr):List (Str×V):=bo "first_step" (.ref fs) []
theorem kB (fs:Addr):(jN fs).lookup ("first_step" : Str)=some (.ref fs):=by
 unfold jN;rw[aG,Sv rfl]
theorem aY (fs:Addr) {m:Str}(h:¬ m = "first_step"):(jN fs).lookup m=none:=by
 unfold jN;rw[aG,Su h]
 all_goals rfl
structure gN (H:Hp) (k:Int) (sec:ue):Prop where
 ht:∀y∈sec,H y.2.1=some (.tup y.2.2)/\oe y.2.2=true/\y.1/8=k/\0<=y.1/\y.1<64
 ns:(sec.map (·.1)).Nodup
 ne:sec≠[]
structure TabAt (C:Addr) (H:Hp) (p fs:Addr) (tb:js):Prop where
 ob:∃dx,H p=some (.ins C dx (jN fs))
 hf:H fs=some (.dK (dk fF tb))
 hd:∀x∈tb,H x.2.1=some (.dK (dk fS x.2.2))
 hs:∀x∈tb,gN H x.1 x.2.2
 nk:(tb.map (·.1)).Nodup
 na:∀x∈tb,∀y∈tb,x.2.1=y.2.1->x.1=y.1
 nf:∀x∈tb,x.2.1≠fs
noncomputable def dg (tb:js) (q:Int):Option (List V):=(look tb (q/8)).bind λx=>(look x.2 q).map (·.2)
noncomputable def eF (fs:Addr) (tb:js):Addr->Prop:=λb=>b=fs\/∃x∈tb,b=x.2.1
theorem gN.keep {H H':Hp}{k:Int}{G:ue}(S:gN H k G) (h:∀b xs,H b=some (.tup xs)->H' b=some (.tup xs)):gN H' k G :=
 #[λy I=>#[h _ _ (S.ht y I).1,(S.ht y I).2],S.ns,S.ne]
theorem TabAt.same {C:Addr}{H H':Hp}{p fs:Addr}{tb:js}(T:TabAt C H p fs tb) (s:aZ H H'):TabAt C H' p fs tb:=by
 let#[#[dx,h1],h2,O,L,I,J,N]:=T;show#[#[dx,s _ _ h1],s _ _ h2,λx G=>s _ _ (O x G),λx G=>(L x G).keep λb xs e=>s _ _ e,I,J,N]
theorem TabAt.put {C:Addr}{H H':Hp}{p fs d:Addr}{tb:js}{k:Int}{I sec':ue}(T:TabAt C H p fs tb) (J:look tb k=some (d,I)) (o:Off (· = d) H H') (hd:H' d=some (.dK (dk fS sec'))) (S:gN H' k sec'):TabAt C H' p fs (aW tb k (d,sec')):=by
 let#[#[dx,h1],h2,h3,h4,U,Y,O]:=T;have N:=az J;have ab:=h3 _ N;have R:∀x∈tb,x.1≠k->x.2.1≠d:=λx G hk e=>hk (Y x G _ N e);have same:dk fF (aW tb k (d,sec'))=dk fF tb:=by
  have e:=ic (f:=fF) (a:=(d,sec')) J;rw[<-e];have e2:=ic (f:=fF) (a:=(d,I)) J;have e3:fF (d,sec')=fF (d,I):=rfl;rw[e3,e2];unfold dk aW;rw[LO];show L4 λx G=>?_;change((sS (if x.1=k then(k,(d,I))else x).1:Key),fF (if x.1=k then(k,(d,I))else x).2)=(sS x.1,fF x.2);by_cases c:x.1=k
  .rw[Sv c,c];have:look tb k=some x.2:=bJ U (by rw[<-c];show G);rw[J]at this;rw[<-rk this]
  .rw[Su c]
 show#[#[dx,o _ _ h1 (cI h1 ab (by intro z;cases z))],by rw[same];show o _ _ h2 (qs (O _ N)),λx G=>?_,λx G=>?_,by rw[fG];show U,λx G y L e=>?_,λx G=>?_]
 .rcases mem_set G with rfl|⟨G,c⟩
  .show hd
  .show o _ _ (h3 x G) (R x G c)
 .rcases mem_set G with rfl|⟨G,c⟩
  .show S
  .show(h4 x G).keep λb xs e=>o _ _ e (cI e ab (by intro z;cases z))
 .rcases mem_set G with rfl|⟨G,c⟩<;>rcases mem_set L with rfl|⟨L,c'⟩
  .rfl
  .show absurd e.symm (R y L c')
  .show absurd e (R x G c)
  .show Y x G y L e
 .rcases mem_set G with rfl|⟨G,c⟩
  .show(O _ N:d≠fs)
  .show O x G
theorem TabAt.add {C:Addr}{H H':Hp}{p fs d:Addr}{tb:js}{k:Int}{sec':ue}(T:TabAt C H p fs tb) (R:look tb k=none) (J:H d=none) (o:Off (· = fs) H H') (hf:H' fs=some (.dK (dk fF (tb++[(k,(d,sec'))])))) (hd:H' d=some (.dK (dk fS sec'))) (S:gN H' k sec') :
  TabAt C H' p fs (tb++[(k,(d,sec'))]):=by
 let#[#[dx,h1],h2,O,h4,Y,h6,N]:=T;have L:∀x∈tb,x.2.1≠d:=λx G=>ar (O x G) J;have U:d≠fs:=λe=>(by rw[e,h2]at J;cases J);show#[#[dx,o _ _ h1 (cI h1 h2 (by intro z;cases z))],hf,λx G=>?_,λx G=>?_,?_,λx G y I e=>?_,λx G=>?_]
 .rcases oR.mp G with G|G
  .show o _ _ (O x G) (N x G)
  .rw[n7.mp G];show hd
 .rcases oR.mp G with G|G
  .show(h4 x G).keep λb xs e=>o _ _ e (cI e h2 (by intro z;cases z))
  .rw[n7.mp G];show S
 .rw[BY];show fN Y (cf R)
 .rcases oR.mp G with G|G<;>rcases oR.mp I with I|I
  .show h6 x G y I e
  .rw[n7.mp I]at e;show absurd e (L x G)
  .rw[n7.mp G]at e;show absurd e.symm (L y I)
  .rw[n7.mp G,n7.mp I]
 .rcases oR.mp G with G|G
  .show N x G
  .rw[n7.mp G];show U
theorem TabAt.del {C:Addr}{H H':Hp}{p fs d:Addr}{tb:js}{k:Int}{R:ue}(T:TabAt C H p fs tb) (S:look tb k=some (d,R)) (o:Off (λb=>b=d\/b=fs) H H') (hf:H' fs=some (.dK (dk fF (bf tb k)))):TabAt C H' p fs (bf tb k):=by
 let#[#[dx,h1],h2,O,Y,U,I,N]:=T;have L:=az S;have J:=O _ L;show#[#[dx,o _ _ h1 λz=>z.elim (cI h1 J (by intro z;cases z)) (cI h1 h2 (by intro z;cases z))],hf,λx G=>?_,λx G=>?_,?_,λx G y hy e=>I x (b9 G).1 y (b9 hy).1 e,λx G=>N x (b9 G).1]
 .let#[G,c]:=b9 G;show o _ _ (O x G) λz=>z.elim (λe=>c (I x G _ L e)) (N x G)
 .let#[G,c]:=b9 G;show(Y x G).keep λb xs e=>o _ _ e λz=>z.elim (cI e J (by intro z;cases z)) (cI e h2 (by intro z;cases z))
 .rw[ju];show U.filter _
theorem BD:∀(n:Nat) (a:Int) (l:List Int),l.Nodup->(∀x∈l,a<=x/\x<a+n)->l.length<=n
 |0,a,l,_,h=>by
  cases l with
  |nil=>show qj _
  |cons x r=>have:=h x KW;omega
 |n+1,a,l,G,h=>by
  have L:=BD n a (l.filter λx=>decide (x≠a+n)) (G.filter _) λx R=>by
   let#[h1,h2]:=Mz.mp R;have U:=h x h1;have S:x≠a+n:=of_decide_eq_true h2;omega
  have e:(l.filter λx=>decide (x≠a+n)).length+1>=l.length:=by
   clear L h
   induction l with
   |nil=>simp
   |cons x r O =>
    let#[J,I]:=KJ.mp G;rw[L0];by_cases c:x=a+n
    .rw[Su (by simp[c])];have:r.filter (λx=>decide (x≠a+n))=r:=by
      rw[Og];intro y N;have:y≠a+n:=λe=>J (by rw[c, <-e];show N);simpa using this
     rw[this];simp
    .rw[Sv (by simpa using c)];have:=O I;rw[DO,DO];omega
  omega
theorem gN.len {H:Hp}{k:Int}{G:ue}(S:gN H k G):G.length<=64:=by
 have:=BD 64 0 (G.map (·.1)) S.ns λx J=>by
  let#[y,I,rfl]:=rn.mp J;have:=S.ht y I;omega
 rwa [nq]at this
theorem TabAt.kb {C:Addr}{H:Hp}{p fs:Addr}{tb:js}(T:TabAt C H p fs tb):∀x∈tb,0<=x.1/\x.1<8:=λx G=>by
 have S:=T.hs x G;cases e:x.2.2 with
 |nil=>show absurd e S.ne
 |cons y r =>
  have:=S.ht y (by rw[e];show KW);omega
theorem TabAt.len {C:Addr}{H:Hp}{p fs:Addr}{tb:js}(T:TabAt C H p fs tb):tb.length<=8:=by
 have:=BD 8 0 (tb.map (·.1)) T.nk λx I=>by
  let#[y,G,rfl]:=rn.mp I;have:=T.kb y G;omega
 rwa [nq]at this
theorem TabAt.wW {C:Addr}{H:Hp}{p fs:Addr}{tb:js}(T:TabAt C H p fs tb) {q:Int}(h:dg tb q≠none):0<=q/\q<64:=by
 unfold dg at h;cases e:look tb (q/8)with
 |none=>rw[e]at h;show absurd rfl h
 |some a =>
  rw[e,MY]at h;cases G:look a.2 q with
  |none=>rw[G]at h;show absurd rfl h
  |some b =>
   have:=(T.hs _ (az e)).ht _ (az G);omega
end Tb
namespace L2
open PySem PySem.Spec PyProof.Rows
section
variable {X:Cx}
theorem pF {α G:Type}(f:α->G):∀(l:List α) (i:Nat),(l.map f).eraseIdx i=(l.eraseIdx i).map f
 | [],_=>rfl
 |_::_,0=>rfl
 |a::l,i+1=>by
  change f a::(l.map f).eraseIdx i=f a::(l.eraseIdx i).map f;rw[pF f l i]
inductive xa (x:V) (vs:List V) (H:Hp) (Q:VK):Prop
 |mk (l:Addr) (ns:List Int) (k:Int) (_:x=.ref l) (_:vs=[.int k]) (_:H l=some (.lst (ns.map V.int))) (_:k∈ns) (_:Q .non (upd H l (.lst ((ns.erase k).map V.int)))):xa x vs H Q
theorem pz:FI X "list.remove" xa:=by
 intro pins s σ H x vs v us Q I U Y h;let#[l,ns,k,rfl,rfl,N,L,q]:=h;cases U;let#[u,rfl,ru]:=Y.one;let#[t,rfl]:=ru;let#[z,its,n,r,J,e]:=I.nc N;have hi:=intsAre_of r;have S:=hi.length;have ab:=J;rw[nq]at J z;have hs:=ub;have G:ns.idxOf k<ns.length:=LB.mpr L;show Nm OR #[_,e,rfl] PySem.F.entry_list_remove (PySem.F.args_list_remove_2 _ _)
  (MeetsSeq.list_remove l its.toArray n (.int k t) (Sh k) (λy hy=>eq_isInt k t hi y (by simpa using hy)) (ns.idxOf k) (by simpa[S]using G) ?_ ?_ (by rw[p3];omega)) #[e,?_]
 .change Sh k its[ns.idxOf k]=true;rw[Rt k hi _ ae G];simpa using Od G
 .intro j R O;change Sh k its[j]=false;rw[Rt k hi j (by simpa using R) ae];show ne_of_lt_idxOf O _
 .show#[.non,_,I.CY (its':=its.eraseIdx (ns.idxOf k)) N e ?_ ?_ ?_,?_,q]
  .change its.toArray.eraseIdxIfInBounds _=(its.eraseIdx _).toArray;rw[NC]
  .rw[List.erase_eq_eraseIdx_of_idxOf rfl, <-pF];show r.eraseIdx _
  .rw[nq];have:=List.length_erase_of_mem L;omega
  .trivial
end
noncomputable def iV (K:iF) (H:Hp) (a:Addr) (xs:List V):Prop:=H a=some (.tup xs)\/bL K (λ_=>none) a xs
theorem iV.sq {K:iF}{H:Hp}{a:Addr}{xs:List V}(h:iV K H a xs):bL K H a xs:=by
 rcases h with h|h
 .show bL.of h
 .rcases h with h|h
  .rcases h with h|⟨o,h⟩
   .cases h
   .cases h
  .show .inr h
theorem iV.keep {K:iF}{H H':Hp}{a:Addr}{xs:List V}(h:iV K H a xs) (s:∀o,H a=some o->H' a=some o):iV K H' a xs:=by
 rcases h with h|h
 .show .inl (s _ h)
 .show .inr h
theorem iV.off {K:iF}{H H':Hp}{a:Addr}{xs:List V}(h:iV K H a xs) (s:H a=some (.tup xs)->H' a=some (.tup xs)):iV K H' a xs:=by
 rcases h with h|h
 .show .inl (s h)
 .show .inr h
theorem xS {X:Cx}:dB X (.builtin "isinstance") (λxs H Q=>(∃x n t b,xs=[x,.ty n]/\jL X.K H x t/\Nl X.K t (.type n)=some b/\Q (.bl b) H)\/∃a ys,xs=[.ref a,.ty "tuple"]/\bL X.K H a ys/\Q (.bl true) H):=by
 intro pins s σ H xs us Q I r h;rcases h with h|⟨a,ys,rfl,J,q⟩
 .show dR pins s σ H xs us Q I r h
 .let#[u,c,rfl,G,L]:=vals2 r;obtain rfl:c=Value.type "tuple" := L;cases(show u=Value.ref a from G);let#[its,_,#[o,h1,h2,_],_]:=I.tuple J;show Nv kitx_tuple I.kJ #[o,h1,h2] (Ff _) (λz=>nomatch z) λtk=>#[.bl true,H,I.tok _,rfl,q]
end L2
namespace Tb
open PySem L2
structure zq (mg:Str->Option Value):Prop where
 BC:mg "isinstance" = none
 tuple:mg "tuple" = none
 list:mg "list" = none
 dict:mg "dict" = none
 len:mg "len" = none
 sorted:mg "sorted" = none
noncomputable def Ap:V->Bool
 |.int _=>true
 |.str _=>true
 |.non=>true
 |_=>false
inductive qU (vs:List V) (H:Hp) (Q:VK) (e3:XK):Prop
 |mk (v:_) (_:vs=[v]) (_:Ap v=true) (_:Q v H):qU vs H Q e3
noncomputable def vd (K:iF):Sp:=λvs H Q _=>(∃v,vs=[v]/\Ap v=true/\Q v H)\/∃(a:Addr) (xs:List V),vs=[.ref a]/\iV K H a xs/\oe xs=true/\∀H' l,aZ H H'->H l=none->H' l=some (.tup xs)->Q (.ref l) H'
theorem BZ:∀{v:V},zZ v=true->Ap v=true
 |.int _,_=>rfl
 |.str _,_=>rfl
section
variable {P:rr}{w:Bd}{K:iF}{mg:Str->Option Value}{base:Heap}
theorem Im:aC ["value","copied","key"] ["value"] (aw wO):=L2.bD
theorem zb {f:Addr}{fd:qi}(F:cK K "own_copy" "own_copy" wO f fd) (T:zq mg):a8 P w K mg base aV 1 f fd ["value"] qU:=by
 show F.dh Im (λI A outer s H vs Q E J h=>?_);let#[v,rfl,G,k]:=h;show#[_,(ag (aS (fB (aQ dR (by rfl) T.BC b8 (aa (pv 0) (aa (eS (v:=.ty "tuple") (by rfl) T.tuple mD rfl) ai)))) (ak dP) aF)
  (ag (aS (fB (aQ dR (by rfl) T.BC b8 (aa (pv 0) (aa (eS (v:=.ty "list") (by rfl) T.list dS rfl) ai)))) (ak dP) aF)
  (ag (aS (fB (aQ dR (by rfl) T.BC b8 (aa (pv 0) (aa (eS (v:=.ty "dict") (by rfl) T.dict rD rfl) ai)))) (ag dP
  (ag dP
  (ak dP))) aF)
  (ak (aE (pv 0)))))),?_]
 cases v with
 |int i=>show#[0,.int i,"tuple",_,false,rfl,.int i,AO _,false,rfl,bX #[0,.int i,"list",_,false,rfl,.int i,zf _,false,rfl,bX #[0,.int i,"dict",_,false,rfl,.int i,zl _,false,rfl,bX #[0,k]]]]
 |str i=>show#[0,.str i,"tuple",_,false,rfl,.str i,zS _,false,rfl,bX #[0,.str i,"list",_,false,rfl,.str i,zz _,false,rfl,bX #[0,.str i,"dict",_,false,rfl,.str i,zW _,false,rfl,bX #[0,k]]]]
 |non=>show#[0,.non,"tuple",_,false,rfl,.non,Aq _,false,rfl,bX #[0,.non,"list",_,false,rfl,.non,y6 _,false,rfl,bX #[0,.non,"dict",_,false,rfl,.non,Bx _,false,rfl,bX #[0,k]]]]
 |_=>cases G
theorem Dc {f:Addr}{fd:qi}(F:cK K "own_copy" "own_copy" wO f fd) (T:zq mg) (G0:Df P w K mg base aV 1 "own_copy" qU):a8 P w K mg base aV 2 f fd ["value"] (vd K):=by
 show F.ok Im (λvs H Q E h=>?_) (λam A outer s H vs Q E Y h=>?_)
 .rcases h with⟨v,rfl,_⟩|⟨a,xs,rfl,_⟩
  .rfl
  .rfl
 .show#[_,(ag (aS (fB (aQ xS (by rfl) T.BC b8 (aa (pv 0) (aa (eS (v:=.ty "tuple") (by rfl) T.tuple mD rfl) ai)))) (ak (aE (bH oK (by rfl) T.tuple mD (aa (gz (cl:=[]) (caps:=[]) #[rfl,ao,ao,rfl,by kernel_rfl,by intro p J;simp at J,by kernel_rfl,by intro p J;simp at J,ao] rfl (ED (pv 0)) (λ_ _ _ _=>fJ) (λ_ _ _ _=>(pc G0 Y ax (aa (pv 0) ai)))) ai)))) aF)
   (ag (aS (fB (aQ dR (by rfl) T.BC b8 (aa (pv 0) (aa (eS (v:=.ty "list") (by rfl) T.list dS rfl) ai)))) (ak dP) aF)
   (ag (aS (fB (aQ dR (by rfl) T.BC b8 (aa (pv 0) (aa (eS (v:=.ty "dict") (by rfl) T.dict rD rfl) ai)))) (ag dP
   (ag dP
   (ak dP))) aF)
   (ak (aE (pv 0)))))),?_]
  rcases h with⟨v,rfl,hv,k⟩|⟨a,xs,rfl,L,N,k⟩
  .cases v with
   |int i=>show#[0,.inl #[.int i,"tuple",_,false,rfl,.int i,AO _,false,rfl,bX #[0,.int i,"list",_,false,rfl,.int i,zf _,false,rfl,bX #[0,.int i,"dict",_,false,rfl,.int i,zl _,false,rfl,bX #[0,k]]]]]
   |str i=>show#[0,.inl #[.str i,"tuple",_,false,rfl,.str i,zS _,false,rfl,bX #[0,.str i,"list",_,false,rfl,.str i,zz _,false,rfl,bX #[0,.str i,"dict",_,false,rfl,.str i,zW _,false,rfl,bX #[0,k]]]]]
   |non=>show#[0,.inl #[.non,"tuple",_,false,rfl,.non,Aq _,false,rfl,bX #[0,.non,"list",_,false,rfl,.non,y6 _,false,rfl,bX #[0,.non,"dict",_,false,rfl,.non,Bx _,false,rfl,bX #[0,k]]]]]
   |_=>cases hv
  .have hs:=ub;have U:=De N;have hn:=CM N;show#[0,.inr #[a,xs,rfl,L.sq,true,rfl,eL ?_]];show#[0,a,rfl,#[xs,L.sq],?_];show yc (xs:=xs) (λi ys H'=>H'=H/\ys=xs.take i) #[1] (λi ys H' _ p=>by rw[p.1];show L.sq) (λi x ys H' hi p=>?_) (λys H' p l O=>?_)
   .let#[rfl,rfl]:=p;let#[R,ac]:=kz.mp hi;show#[0,x,rfl,BZ (K0.mp U x (ac▸LM R)),?_,5]
    .rw[DD];omega
    .rw[Rv,hi];rfl
   .let#[rfl,rfl]:=p;rw[Lz];show#[l,xs,rfl,.inl #[bA.of af,λI G=>?_]];have ab:I≠l:=λz=>(by rw[z,af]at G;cases G);have S:H' I=none:=(by rw[ah ab]at G;show G);show k _ I ((au O).trans (au G)) S af
end
structure Txt (K:iF) (mg:Str->Option Value) (C:Addr):Prop where
 cl:r9 K C
 nF:c6 K C "first_step"
 sp:∃u,mg "STEP_PAGES" = some u/\RelV (.int 8) u
noncomputable def Ib (H:Hp) (v:V):Option (List V)->Prop
 |none=>v=.non
 |some xs=>∃t,v=.ref t/\H t=some (.tup xs)
inductive hX (C:Addr) (vs:List V) (H:Hp) (Q:VK) (e3:XK):Prop
 |mk (p dx:Addr) (_:vs=[.ref p]) (_:H p=some (.ins C dx [])) (_:∀(fs:Addr) (H':Hp),H fs=none->TabAt C H' p fs []->Off (· = p) H H'->Q .non H'):hX C vs H Q e3
inductive mM (C:Addr) (vs:List V) (H:Hp) (Q:VK) (e3:XK):Prop
 |mk (p fs:Addr) (tb:js) (q:Int) (_:vs=[.ref p,.int q]) (_:TabAt C H p fs tb) (_:∀H' v,aZ H H'->Ib H' v (dg tb q)->Q v H'):mM C vs H Q e3
inductive sE (K:iF) (C:Addr) (vs:List V) (H:Hp) (Q:VK) (e3:XK):Prop
 |mk (p fs t:Addr) (tb:js) (q:Int) (xs:List V) (_:vs=[.ref p,.int q,.ref t]) (_:TabAt C H p fs tb) (_:0<=q) (_:q<64) (_:iV K H t xs) (_:oe xs=true) (_:∀H' tb',TabAt C H' p fs tb'->(∀j,dg tb' j=if j=q then some xs else dg tb j)->Off (eF fs tb) H H'->(∀b,eF fs tb' b->eF fs tb b\/H b=none)->Q .non H'):sE K C vs H Q e3
inductive qL (C:Addr) (vs:List V) (H:Hp) (Q:VK) (e3:XK):Prop
 |mk (p fs:Addr) (tb:js) (q:Int) (_:vs=[.ref p,.int q]) (_:TabAt C H p fs tb) (_:∀H' tb',TabAt C H' p fs tb'->(∀j,dg tb' j=if j=q then none else dg tb j)->(tb'.length=tb.length\/tb'.length+1=tb.length)->Off (eF fs tb) H H'->(∀b,eF fs tb' b->eF fs tb b\/H b=none)->Q .non H'):qL C vs H Q e3
noncomputable def f6 (tb:js):List Int:=tb.flatMap λx=>x.2.2.map (·.1)
inductive eT (C:Addr) (vs:List V) (H:Hp) (Q:VK) (e3:XK):Prop
 |mk (p fs:Addr) (tb:js) (_:vs=[.ref p]) (_:TabAt C H p fs tb) (_:∀H' l (ns:List Int),aZ H H'->H l=none->H' l=some (.lst (ns.map V.int))->ns.Perm (f6 tb)->ns.Pairwise (· <= ·)->Q (.ref l) H'):eT C vs H Q e3
theorem tQ {C:Addr}{H:Hp}{p fs:Addr}{tb:js}(T:TabAt C H p fs tb) (q:Int):q∈f6 tb↔dg tb q≠none:=by
 unfold f6;rw[NM];constructor
 .rintro⟨x,I,L⟩;let#[y,G,rfl]:=rn.mp L;have S:=T.hs x I;unfold dg;rw[(S.ht y G).2.2.1,bJ T.nk I,MY,bJ S.ns G];simp
 .intro h;unfold dg at h;cases e:look tb (q/8)with
  |none=>rw[e]at h;show absurd rfl h
  |some a =>
   rw[e,MY]at h;cases J:look a.2 q with
   |none=>rw[J]at h;show absurd rfl h
   |some b=>show#[_,az e,rn.mpr #[_,az J,rfl]]
theorem jX {C:Addr}{H:Hp}{p fs:Addr}{tb:js}(T:TabAt C H p fs tb):(f6 tb).Nodup:=by
 have hs:=T.hs;have R:=T.nk;clear T
 induction tb with
 |nil=>show Mc
 |cons x r U =>
  let#[O,N]:=KJ.mp (show(x.1::r.map (·.1)).Nodup from R);change(x.2.2.map (·.1)++f6 r).Nodup;rw[NB];show#[(hs x KW).ns,U (λy I=>hs y (KQ _ I)) N,λa ha b G e=>O ?_];let#[y,I,rfl]:=rn.mp ha;let#[z,L,G]:=NM.mp G;let#[J,S,rfl]:=rn.mp G;have a1:=((hs x KW).ht y I).2.2.1;have a2:=((hs z (KQ _ L)).ht J S).2.2.1;have Y:y.1=J.1:=e;rw[<-a1,Y,a2];show rn.mpr #[z,L,rfl]
theorem tH {C:Addr}{H:Hp}{p fs:Addr}{tb:js}(T:TabAt C H p fs tb) (i:Nat):(f6 (tb.take i)).length<=64:=by
 have h1:(f6 tb).length<=64:=BD 64 0 (f6 tb) (jX T) λx G=>by
  have:=T.wW ((tQ T x).mp G);omega
 have h2:(f6 (tb.take i)).length<=(f6 tb).length:=by
  conv=>rhs;rw[<-LV i tb]
  unfold f6;rw[N0,vl];omega
 omega
theorem sM {tb:js}{q:Int}{d:Addr}{G:ue}(h:look tb (q/8)=some (d,G)):dg tb q=(look G q).map (·.2):=by
 unfold dg;rw[h,MY]
theorem sH {tb:js}{q:Int}(h:look tb (q/8)=none):dg tb q=none:=by
 unfold dg;rw[h];rfl
theorem pC {tb:js}{k q:Int}{d:Addr}{G sec':ue}{o:Option (Addr×List V)}(I:look tb k=some (d,G)) (J:q/8=k) (h:∀j,look sec' j=if j=q then o else look G j) (j:Int) :
  dg (aW tb k (d,sec')) j=if j=q then o.map (·.2)else dg tb j:=by
 unfold dg;rw[bK (j/8) I];by_cases c:j/8=k
 .rw[Sv c,MY,h j,c,I,MY];by_cases e:j=q
  .rw[Sv e,Sv e]
  .rw[Su e,Su e]
 .rw[Su c,Su (λe=>c (by rw[e];show J))]
theorem x9 {tb:js}{k q:Int}{d:Addr}{sec':ue}{o:Option (Addr×List V)}(G:look tb k=none) (I:q/8=k) (h:∀j,look sec' j=if j=q then o else none) (j:Int) :
  dg (tb++[(k,(d,sec'))]) j=if j=q then o.map (·.2)else dg tb j:=by
 unfold dg;rw[bu (j/8) G];by_cases c:j/8=k
 .rw[Sv c,MY,h j,c,G];by_cases e:j=q
  .rw[Sv e,Sv e]
  .rw[Su e,Su e];rfl
 .rw[Su c,Su (λe=>c (by rw[e];show I))]
theorem xD {tb:js}{k q:Int}{d:Addr}{G:ue}(I:look tb k=some (d,G)) (J:q/8=k) (h:∀j,j≠q->look G j=none) (j:Int) :
  dg (bf tb k) j=if j=q then none else dg tb j:=by
 unfold dg;rw[cn];by_cases c:j/8=k
 .rw[Sv c,c,I];by_cases e:j=q
  .rw[Sv e];rfl
  .rw[Su e,MY,h j e];rfl
 .rw[Su c,Su (λe=>c (by rw[e];show J))]
theorem Co {H:Hp}{k q:Int}{I:ue}{l:Addr}{xs:List V}(S:gN H k I) (J:H l=some (.tup xs)) (O:oe xs=true) (L:q/8=k) (N:0<=q) (h1:q<64) :
  ∃sec',putK (dk fS I) (sS q) (.ref l)=dk fS sec'/\(∀j,look sec' j=if j=q then some (l,xs)else look I j)/\gN H k sec':=by
 cases e:look I q with
 |none =>
  show#[I++[(q,(l,xs))],cH (f:=fS) (a:=(l,xs)) e,λj=>bu j e,λy G=>?_,?_,by simp]
  .rcases oR.mp G with G|G
   .show S.ht y G
   .rw[n7.mp G];show#[J,O,L,N,h1]
  .rw[BY];show fN S.ns (cf e)
 |some b =>
  show#[aW I q (l,xs),ic (f:=fS) (a:=(l,xs)) e,λj=>bK j e,λy G=>?_,3]
  .rcases mem_set G with rfl|⟨G,_⟩
   .show#[J,O,L,N,h1]
   .show S.ht y G
  .rw[fG];show S.ns
  .intro z;have:=fP I q (l,xs);rw[z]at this;show S.ne (Lj.mp this.symm)
theorem iu {B:Addr->Prop}{H H' G:Hp}(s:aZ H H') (o:Off B H' G):Off B H G:=λb u e I=>o b u (s b u e) I
theorem qx {B:Addr->Prop}{H:Hp}{a:Addr}{X:HO}(h:B a):Off B H (upd H a X):=λb u e G=>by rw[ah (λz=>G (by rw[z];show h))];show e
theorem Off.mono {B B':Addr->Prop}{H H':Hp}(o:Off B H H') (h:∀b,B b->B' b):Off B' H H':=λb u e G=>o b u e λz=>G (h b z)
theorem Fm {C:Addr}{H:Hp}{p fs:Addr}{tb:js}(T:TabAt C H p fs tb):(dk fF tb).length<sizeLine:=by
 have h:=T.len;have hs:=ub;rw[cg];omega
theorem DU {H:Hp}{k:Int}{G:ue}(S:gN H k G):(dk fS G).length<sizeLine:=by
 have h:=S.len;have hs:=ub;rw[cg];omega
theorem xg {fs d:Addr}{tb:js}{k:Int}{I sec':ue}(J:(k,(d,I))∈tb) {b:Addr}(h:eF fs (aW tb k (d,sec')) b):eF fs tb b:=by
 rcases h with h|⟨x,G,h⟩
 .show .inl h
 .rcases mem_set G with rfl|⟨G,_⟩
  .show .inr #[_,J,h]
  .show .inr #[x,G,h]
theorem Dg {fs:Addr}{tb:js}{k:Int}{b:Addr}(h:eF fs (bf tb k) b):eF fs tb b:=by
 rcases h with h|⟨x,G,h⟩
 .show .inl h
 .show .inr #[x,(b9 G).1,h]
theorem kF (tb:js) (k:Int):bZ (dk fF tb) (sS k)=(look tb k).map fF:=cL fF k tb
theorem uZ (G:ue) (k:Int):bZ (dk fS G) (sS k)=(look G k).map fS:=cL fS k G
section
variable {P:rr}{w:Bd}{K:iF}{mg:Str->Option Value}{base:Heap}
theorem JD:aC ["self"] ["self"] (aw nH):=L2.bD
theorem qZ {f C:Addr}{fd:qi}(F:cK K "__init__" "Table.__init__" nH f fd) (T:Txt K mg C):a8 P w K mg base aV 1 f fd ["self"] (hX C):=by
 show F.dh JD (λN A outer s H vs Q E O h=>?_);let#[p,dx,rfl,J,k]:=h;show#[_,(ak (fm (pv 0) dr rfl)),?_];intro fs I;have np:p≠fs:=ar J I;show#[0,p,C,dx,[],rfl,by rw[ah np];show J,T.cl,T.nF,av,?_];show k fs _ I #[#[dx,by rw[af];rfl],by rw[ah (qs np),af];rfl,λx G=>(By G).elim,λx G=>(By G).elim,.nil,λx G=>(By G).elim,λx G=>(By G).elim] λb u e L=>?_;rw[ah L,ah (ar e I)];show e
theorem J8:aC ["self","page","second"] ["self","page"] (aw EM):=L2.bD
theorem EC {f C:Addr}{fd:qi}(F:cK K "get" "Table.get" EM f fd) (T:Txt K mg C) (U:Df P w K mg base aV 2 "own_copy" (vd K)):a8 P w K mg base aV 3 f fd ["self","page"] (mM C):=by
 let#[u8,Y,S]:=T.sp;show F.dh J8 (λac A outer s H vs Q E I h=>?_);let#[p,fs,tb,q,rfl,TT,k]:=h;let#[dx,h1]:=TT.ob;show#[_,(ag (dn 2 J8.nd (lS (a9 I) (aK (pv 0) rfl) (aA bt (pv 1) (cw (by rfl) Y S)) dr #[1,1]))
  (ak (aE (pc U I ax (aa (Bk (a9 I) (pv 2) (pv 1) #[1,1]) ai))))),?_]
 show#[0,p,C,dx,_,.ref fs,rfl,h1,T.cl,T.nF,kB fs,fs,rfl,.inl #[_,.inl TT.hf],0,_,0,rfl,#[av,av],λe he=>?_];have G:=au (X:=.dK []) he;have J:=TT.same G;show#[_,cZ.k (k:=.inl (q/8)) J.hf,?_];rw[kF];cases c:look tb (q/8)with
 |none =>
  show#[0,e,rfl,.inl #[_,.inl af],0,_,cZ.k (k:=.inl q) af,.inl #[.non,1,k _ _ G ?_]];rw[sH c];rfl
 |some a =>
  let#[d,O]:=a;have N:=az c;have hd:=J.hd _ N;show#[0,d,rfl,.inl #[_,.inl hd],0,_,cZ.k (k:=.inl q) hd,?_];rw[uZ];have le:=sM c;cases L:look O q with
  |none =>
   show .inl #[.non,1,k _ _ G ?_];rw[le,L];rfl
  |some b =>
   let#[t,xs]:=b;have hs:=(J.hs _ N).ht _ (az L);show .inr #[t,xs,rfl,.inl hs.1,hs.2.1,λH' l s' ab R=>k _ _ (G.trans s') ?_];rw[le,L];show#[l,rfl,R]
theorem Ij:aC ["self","page","entry","second"] ["self","page","entry"] (aw E5):=L2.bD
theorem E3 {f C:Addr}{fd:qi}(F:cK K "lay" "Table.lay" E5 f fd) (T:Txt K mg C) (GC:Df P w K mg base aV 2 "own_copy" (vd K)):a8 P w K mg base aV 3 f fd ["self","page","entry"] (sE K C):=by
 let#[u8,m8,r8]:=T.sp;show F.dh Ij (λap A outer s H vs Q E hr h=>?_);let#[p,fs,t,tb,q,xs,rfl,TT,q0,q1,ht,G,k]:=h;let#[dx,h1]:=TT.ob;show#[_,(ag (dn 3 Ij.nd (Ar (aK (pv 0) rfl) (aA bt (pv 1) (cw (by rfl) m8 r8)) dr #[1,1]))
  (ak (jT (a9 hr) (pv 3) (pv 1) (pc GC hr ax (aa (pv 2) ai)) rfl))),?_]
 show#[0,p,C,dx,_,.ref fs,rfl,h1,T.cl,T.nF,kB fs,fs,rfl,.inl #[_,.inl TT.hf],0,_,0,rfl,#[av,av],λe N=>?_];have se:=au (X:=.dK []) N;have Y:=TT.same se;show#[_,.inl (q/8),Y.hf,rfl,Fm Y,λv I=>?_,λI=>?_]
 .rw[kF]at I;cases c:look tb (q/8)with
  |none=>rw[c]at I;cases I
  |some a =>
   let#[d,as]:=a;rw[c]at I;obtain rfl:V.ref d=v:=rk I;have O:=az c;show#[0,.inr #[t,xs,rfl,ht.keep λo e=>se _ _ e,G,λH2 l s2 am R=>?_]];have S:=Y.same s2;let#[sec',U,e2,S']:=Co (S.hs _ O) R G rfl q0 q1;have hd:=S.hd _ O;show#[0,0,d,0,fA.k (k:=.inl q) hd (DU (S.hs _ O)),?_];rw[U];have L:Off (· = d) H2 (upd H2 d (.dK (dk fS sec'))):=qx rfl;show k _ _ (S.put c L af (S'.keep λb ys J=>L _ _ J (cI J hd (by intro z;cases z)))) (λj=>pC c rfl e2 j) (iu (se.trans s2) (L.mono λb z=>.inr #[_,O,z])) λb z=>.inl (xg O z)
 .rw[kF]at I;have c:look tb (q/8)=none:=by
   cases c:look tb (q/8)with
   |none=>rfl
   |some a=>rw[c]at I;cases I
  have ep:putK (dk fF tb) (sS (q/8)) (.ref e)=dk fF (tb++[(q/8,(e,[]))]):=cH (f:=fF) (a:=(e,[])) c;rw[ep];have ef:e≠fs:=λz=>ar TT.hf N z.symm;have hE:upd (upd H e (.dK [])) fs (.dK (dk fF (tb++[(q/8,(e,[]))]))) e=some (.dK []):=(by rw[ah ef,af]);have o1:Off (· = fs) H (upd (upd H e (.dK [])) fs (.dK (dk fF (tb++[(q/8,(e,[]))])))):=λb u J hb=>(by rw[ah hb,ah (ar J N)];show J);show#[0,.inr #[t,xs,rfl,ht.off λe=>o1 _ _ e (cI e TT.hf (by intro z;cases z)),G,λH2 l s2 am R=>?_]];have ab:=s2 _ _ hE;show#[0,0,e,0,fA.k (k:=.inl q) ab av,?_];have U:putK ([]:List (Key×V)) (sS q) (.ref l)=dk fS [(q,(l,xs))]:=rfl;rw[U];have L:Off (· = e) H2 (upd H2 e (.dK (dk fS [(q,(l,xs))]))):=qx rfl;have oA:Off (· = fs) H (upd H2 e (.dK (dk fS [(q,(l,xs))]))):=λb u J hb=>L b u (s2 _ _ (o1 b u J hb)) (ar J N);have ac:(upd H2 e (.dK (dk fS [(q,(l,xs))]))) l=some (.tup xs):=L _ _ R (cI R ab (by intro z;cases z));show k _ _ (TT.add (sec':=[(q,(l,xs))]) c N oA ?_ af #[λy hy=>?_,?_,by simp]) (λj=>x9 (o:=some (l,xs)) c rfl (λj=>?_) j) (oA.mono λb z=>.inl z) λb z=>?_
  rotate_left 4
  .rcases z with z|⟨x,G,z⟩
   .show .inl (.inl z)
   .rcases oR.mp G with G|G
    .show .inl (.inr #[x,G,z])
    .rw[n7.mp G]at z;rw[z];show .inr N
  .show L _ _ (s2 _ _ af) (qs ef) |>.trans ?_;unfold dk;rw[BY,BY];rfl
  .rw[n7.mp hy];show#[ac,G,rfl,q0,q1]
  .simp
  .rw[aO,ix];by_cases z:j=q
   .rw[Sv z,Sv z.symm]
   .rw[Su z,Su (qs z)]
theorem IL:aC ["self","page","k","second"] ["self","page"] (aw vV):=L2.bD
theorem Au {f C:Addr}{fd:qi}(F:cK K "clear" "Table.clear" vV f fd) (T:Txt K mg C) (TP:zq mg):a8 P w K mg base aV 1 f fd ["self","page"] (qL C):=by
 let#[u8,m8,r8]:=T.sp;have R:=T;show F.dh IL (λap A outer s H vs Q E hr h=>?_);let#[p,fs,tb,q,rfl,TT,k]:=h;let#[dx,h1]:=TT.ob;replace T:=TP;show#[_,(ag (dn 2 IL.nd (aA bt (pv 1) (cw (by rfl) m8 r8)))
  (ag (dn 3 IL.nd (lS (a9 hr) (aK (pv 0) rfl) (pv 2) dr #[1,1]))
  (ag (aS (jb (gw (a9 hr) (pv 1) (pv 3))) (ak qR) aF)
  (ag (aL (eE (pv 3) (pv 1) #[1,1]))
  (ak (aS (aD bP (aQ kE (by rfl) T.len boot_len (aa (pv 3) ai)) aj (aI _)) (ak (aL (eE (aK (pv 0) rfl) (pv 2) #[1,1]))) aF)))))),?_]
 show#[0,_,0,rfl,#[av,av],?_];show#[0,p,C,dx,_,.ref fs,rfl,h1,R.cl,R.nF,kB fs,fs,rfl,.inl #[_,.inl TT.hf],0,λe he=>?_];have J:=au (X:=.dK []) he;have I:=TT.same J;show#[_,cZ.k (k:=.inl (q/8)) I.hf,?_];rw[kF];cases c:look tb (q/8)with
 |none =>
  show#[0,0,e,0,cZ.k (k:=.inl q) af,true,rfl,eL ?_];show k _ _ I (λj=>?_) (.inl rfl) (iu J λb u N _=>N) λb z=>.inl z;by_cases z:j=q
  .rw[Sv z,z];show sH c
  .rw[Su z]
 |some a =>
  let#[d,G]:=a;have L:=az c;have hd:=I.hd _ L;have S:=I.hs _ L;show#[0,0,d,0,cZ.k (k:=.inl q) hd,?_];rw[uZ];cases c2:look G q with
  |none =>
   show#[true,rfl,eL ?_];show k _ _ I (λj=>?_) (.inl rfl) (iu J λb u N _=>N) λb z=>.inl z;by_cases z:j=q
   .rw[Sv z,z,sM c,c2];rfl
   .rw[Su z]
  |some b =>
   show#[false,rfl,bX ?_];show#[0,d,rfl,.inl #[_,.inl hd],0,_,.inl q,fS b,hd,rfl,by rw[uZ,c2];rfl,?_];rw[eK];show#[0,d,0,af,5];have O:Off (· = d) (upd H e (.dK [])) (upd (upd H e (.dK [])) d (.dK (dk fS (bf G q)))):=qx rfl;by_cases z:bf G q=[]
   .have Y:decide (V.int ((dk fS (bf G q)).length:Nat)=V.int 0)=true:=(by rw[z];rfl);rw[Y];show#[true,rfl,eL ?_];have ac:d≠fs:=TT.nf _ L;have ab:(upd (upd H e (.dK [])) d (.dK (dk fS (bf G q)))) fs=some (.dK (dk fF tb)):=O _ _ I.hf (qs ac);have am:(upd (upd H e (.dK [])) d (.dK (dk fS (bf G q)))) p=some (.ins C dx (jN fs)):=O _ _ (J _ _ h1) (cI (J _ _ h1) hd (by intro z;cases z));show#[0,p,C,dx,_,.ref fs,rfl,am,R.cl,R.nF,kB fs,fs,rfl,.inl #[_,.inl ab],0,_,.inl (q/8),fF (d,G),ab,rfl,by rw[kF,c];rfl,?_];rw[eK];have o3:Off (λb=>b=d\/b=fs) (upd H e (.dK [])) (upd (upd (upd H e (.dK [])) d (.dK (dk fS (bf G q)))) fs (.dK (dk fF (bf tb (q/8))))):=λb u N hb=>by
     rw[ah λz=>hb (.inr z),ah λz=>hb (.inl z)];show N
    show k _ _ (I.del c o3 af) (λj=>xD c rfl (λj hj=>?_) j) (.inr ?_) (iu J (o3.mono λb z=>z.elim (λz=>.inr #[_,L,z]) .inl)) λb z=>.inl (Dg z)
    .have:=cn G q j;rw[z,ix,Su hj]at this;show this.symm
    .show lL TT.nk c
   .have Y:decide (V.int ((dk fS (bf G q)).length:Nat)=V.int 0)=false:=decide_eq_false λy=>by
     injection y with y;rw[cg]at y;show z (Lj.mp ae)
    rw[Y];show#[false,rfl,bX ?_];have S2:gN (upd (upd H e (.dK [])) d (.dK (dk fS (bf G q)))) (q/8) (bf G q):=#[λy hy=>?_,?_,z]
    .show k _ _ (I.put c O af S2) (λj=>pC c rfl (λj=>cn G q j) j) (.inl (fP _ _ _)) (iu J (O.mono λb z=>.inr #[_,L,z])) λb z=>.inl (xg L z)
    .have U:=S.ht y (b9 hy).1;show#[O _ _ U.1 (cI U.1 hd (by intro z;cases z)),U.2]
    .rw[ju];show S.ns.filter _
theorem HS:aC ["self","found","k"] ["self"] (aw uq):=L2.bD
theorem zT {f C:Addr}{fd:qi}(F:cK K "pages" "Table.pages" uq f fd) (N:Txt K mg C) (T:zq mg):a8 P w K mg base aV 1 f fd ["self"] (eT C):=by
 show F.dh HS (λaB A outer s H vs Q E hr h=>?_);let#[p,fs,tb,rfl,TT,k]:=h;let#[dx,h1]:=TT.ob;have J:=TT.hf;have hs:=ub;show#[_,(ag (dn 1 HS.nd (cj ai))
  (ag (iS (cG C1 rfl (lM (aK (pv 0) rfl)) (f9 2 HS.nd) (ak (aL (ie Ls Mo OS (vk rfl) (pv 1) (aa (bh (a9 hr) (aK (pv 0) rfl) (pv 2) bW) ai))))))
  (ak (aE (aQ rK (by rfl) T.sorted kH (aa (pv 1) ai)))))),?_]
 have Y:∀o u',H fs≠some (.bO o u'):=λo u' z=>(by rw[J]at z;cases z);show#[av,λl G=>?_];have sl:=au (X:=.lst []) G;have R:l≠fs:=λz=>ar J G z.symm;have ab:p≠l:=ar h1 G;have ac:p≠fs:=cI h1 J (by intro z;cases z);show#[0,p,C,dx,_,.ref fs,rfl,sl _ _ h1,N.cl,N.nF,kB fs,fs,0,sl _ _ J,Y,λo=>?_];show lX (kvs:=dk fF tb) (λi σ H'=>H'=upd (upd H l (.lst ((f6 (tb.take i)).map V.int))) fs (.bO o (.dK (dk fF tb)))/\∃v,σ=[some (.ref p),some (.ref l),v]) #[rfl,0] (λi σ H' _ h=>by rw[h.1,af]) (λi k v σ H' hi h=>?_) (λσ H' h=>?_)
 .let#[rfl,v',rfl]:=h;unfold dk at hi;rw[rz]at hi;cases e:tb[i]? with
  |none=>rw[e]at hi;cases hi
  |some x =>
   rw[e]at hi;let#[rfl,rfl]:=OA (rk hi);have L:x∈tb:=ua e;have hd:=TT.hd x L;have dl:x.2.1≠l:=ar hd G;have df:x.2.1≠fs:=TT.nf x L;have as:i<tb.length:=(kz.mp e).1;have BD:=tH TT i;have bx:=(TT.hs x L).len;have S:(upd (upd H l (.lst ((f6 (tb.take i)).map V.int))) fs (.bO o (.dK (dk fF tb)))) l=some (.lst ((f6 (tb.take i)).map V.int)):=(by rw[ah R,af]);show#[0,.inl #[4,bA.of S],0,p,C,dx,_,.ref fs,rfl,by rw[ah ac,ah ab];show h1,N.cl,N.nF,kB fs,0,fs,.ref x.2.1,rfl,.inl #[dk fF tb,.inl x.1,.inr #[o,af],5],l,x.2.1,_,dk fS x.2.2,1,S,by rw[ah df,ah dl];show hd,3]
   .rw[kF,bJ TT.nk L];rfl
   .rw[nq,cg];omega
   .show#[?_,0];rw[Rv,e];funext b;by_cases z:b=l
    .rw[z,af,ah R,af];have ek:(dk fS x.2.2).map (λkv=>kV kv.1)=(x.2.2.map (·.1)).map V.int:=by
      unfold dk;rw[LO,LO];rfl
     rw[ek, <-BY];unfold f6;rw[N0];simp
    .rw[ah z];by_cases O:b=fs
     .rw[O,af,af]
     .rw[ah O,ah O,ah z,ah z]
 .let#[rfl,v',rfl]:=h;show#[fs,o,_,af,Y,?_];rw[cg,Lz];have e0:upd (upd (upd H l (.lst ((f6 tb).map V.int))) fs (.bO o (.dK (dk fF tb)))) fs (.dK (dk fF tb))=upd H l (.lst ((f6 tb).map V.int)):=by
   funext b;by_cases z:b=fs
   .rw[z,af,ah (qs R)];show J.symm
   .rw[ah z,ah z]
  rw[e0];have BD:=tH TT tb.length;rw[Lz]at BD;have am:=au (X:=.lst ((f6 tb).map V.int)) G;show#[0,l,f6 tb,rfl,bA.of af,jX TT,ae,λU ns' I hp hs=>?_];have ap:U≠l:=λz=>(by rw[z,af]at I;cases I);show k _ U ns' (am.trans (au I)) (by rw[ah ap]at I;show I) af hp hs
end
end Tb
namespace Rm
open PySem L2
noncomputable def top (i:Nat):KP:=PySem.Challenge.pw_ownroom_k16_put_out_and_fetched.main.body.getD i (.Pass #[(0),(0),(0),(0)])
noncomputable abbrev jf:KP:=top 20
noncomputable abbrev j4:KP:=top 21
noncomputable abbrev uJ:KP:=top 22
noncomputable abbrev qy:KP:=top 23
noncomputable abbrev nE:KP:=top 24
noncomputable abbrev q8:KP:=top 25
noncomputable abbrev zx:KP:=top 26
theorem au {H:Hp}{l:Addr}{X:HO}(h:H l=none):aZ H (upd H l X):=λb o e=>by rw[ah (ar e h)];show e
theorem CJ {H H':Hp}{l:Addr}{X:HO}(s:aZ H H') (h:H l=none):aZ H (upd H' l X):=λb o e=>by rw[ah (ar e h)];show s b o e
structure Bh (mg:Str->Option Value):Prop where
 wW:∃u,mg "ROOM_PAGES" = some u/\RelV (.int 64) u
 cells:∃u,mg "PAGE_CELLS" = some u/\RelV (.int 8) u
 list:mg "list" = none
 range:mg "range" = none
 len:mg "len" = none
noncomputable def cD (p m:Int):Prop:=m<1\/p<0\/64<p+m
noncomputable def aM (p m:Int):List Int:=(KD m.toNat).map λk:Nat=>p+k
inductive eJ (vs:List V) (H:Hp) (Q:VK) (e3:XK):Prop
 |mk (p m:Int) (_:vs=[.int p,.int m]) (_:¬ cD p m) (_:∀(H':Hp) (l:Addr),aZ H H'->H l=none->H' l=some (.lst ((aM p m).map V.int))->Q (.ref l) H'):eJ vs H Q e3
theorem m9 (q:Int):∀G:List Int,BJ (.int q) (G.map V.int)=decide (q∈G)
 | []=>rfl
 |m::G=>by
  have I:=m9 q G;unfold BJ at I ⊢;rw[LQ,Pt,I];by_cases e:q=m
  .rw[e];simp[kh]
  .have J:m≠q:=qs e;simp[kh,e,J]
inductive gC (vs:List V) (H:Hp) (Q:VK) (e3:XK):Prop
 |mk (a b:Addr) (ms ps:List Int) (_:vs=[.ref a,.ref b]) (_:H a=some (.lst (ms.map V.int))) (_:H b=some (.lst (ps.map V.int))) (_:(∀q∈ps,q∈ms)) (_:Q .non H):gC vs H Q e3
section
variable {P:rr}{w:Bd}{K:iF}{mg:Str->Option Value}{base:Heap}
theorem IX:aC ["page","many"] ["page","many"] (aw jf):=L2.bD
theorem qX {f:Addr}{fd:qi}(F:cK K "pages_from" "pages_from" jf f fd) (T:Bh mg):a8 P w K mg base aV 1 f fd ["page","many"] eJ:=by
 let#[ab,S,L]:=T.wW;show F.dh IX (λac A outer s H vs Q E hr h=>?_);let#[p,m,rfl,G,kQ]:=h;have hs:=ub;have U:¬ m<1:=λz=>G (.inl z);have J:¬ p<0:=λz=>G (.inr (.inl z));have R:¬ 64<p+m:=λz=>G (.inr (.inr z));show#[_,(ag (aS (PW.pt (iy (aD gK (pv 1) aj (aI _)) (iy (aD gK (pv 0) aj (aI _)) (gA (aD gI (aA bp (pv 0) (pv 1)) (cw (by rfl) S L) (aI _)))))) cY aF)
  (ak (aE (bH (lZ rfl) (by rfl) T.list dS (aa (bH yi (by rfl) T.range zM (aa (pv 0) (aa (aA bp (pv 0) (pv 1)) ai))) ai))))),?_]
 show gR λ_ ji O=>?_;clear ji;show#[0,_,0,rfl,0,?_];show gS (λc=>absurd (of_decide_eq_true c) U) (λ_=>?_);show#[0,_,0,rfl,0,?_];show gS (λc=>absurd (of_decide_eq_true c) J) (λ_=>?_);show#[0,0,_,0,4,0,rfl,0,?_];show oz (λc=>absurd (of_decide_eq_true c) R) (λ_=>O _ ?_);show#[0,0,0,_,0,rfl,p,p+m,rfl,λY N=>?_];have s1:=au (X:=.rng p (p+m)) N;show#[Y,p,m.toNat,rfl,by rw[af,N1 ae],ae,ae,ae,λl I=>?_];show kQ _ l (s1.trans (au I)) (s1.free I) ?_;rw[af];unfold aM;rw[LO];rfl
theorem HZ:aC ["mapped","pages","page"] ["mapped","pages"] (aw j4):=L2.bD
theorem uc {f:Addr}{fd:qi}(F:cK K "refuse_unmapped" "refuse_unmapped" j4 f fd):a8 P w K mg base aV 1 f fd ["mapped","pages"] gC:=by
 show F.dh HZ (λU A outer s H vs Q E Y h=>?_);let#[a,b,S,ps,rfl,R,G,O,L]:=h;show#[_,(ak (cG C1 rfl (fQ (pv 1)) (f9 2 HZ.nd) (ak (aS (aD jw (pv 2) (pv 0) (by with_unfolding_all rfl)) cY aF)))),?_];show#[0,b,rfl,#[_,bA.of G],?_];show fC (K:=K) (a:=b) (xs:=ps.map V.int) (λi σ H2=>∃v2:Option V,σ=[some (.ref a),some (.ref b),v2]/\H2=H) #[0,rfl] (λi σ H2 _ N=>by let#[_,_,e]:=N;rw[e];show bA.of G) ?_ ?_
 .rintro i x σ H2 I ⟨v2,rfl,rfl⟩;rw[rz]at I;let#[q,J,rfl]:=pq.mp I;show#[0,0,a,0,.inl (bA.of R),rfl,d0 _,0,?_];rw[m9,decide_eq_true (O q (ua J))];show bX #[0,rfl]
 .rintro σ H2 ⟨v2,rfl,rfl⟩;show L
end
theorem yH {p m:Int}(h:¬ cD p m):∀q∈aM p m,0<=q/\q<64/\q.natAbs.log2<1920:=λq G=>by
 unfold aM at G;let#[k,I,rfl]:=rn.mp G;rw[K5]at I;have h1:¬ m<1:=λz=>h (.inl z);have h2:¬ p<0:=λz=>h (.inr (.inl z));have L:¬ 64<p+m:=λz=>h (.inr (.inr z));show#[ae,ae,?_];by_cases z:(p+(k:Int)).natAbs=0
 .rw[z];decide
 .rw[Nat.log2_lt z];have J:(p+(k:Int)).natAbs<64:=ae;have N:(64:Nat)<2^1920:=ao;omega
inductive qT (vs:List V) (H:Hp) (Q:VK) (e3:XK):Prop
 |mk (a:Addr) (ms:List Int) (p m:Int) (_:vs=[.ref a,.int p,.int m]) (_:H a=some (.lst (ms.map V.int))) (_:¬ cD p m) (_:(∀q∈aM p m,¬ q∈ms)) (_:∀(H':Hp) (l:Addr),aZ H H'->H l=none->H' l=some (.lst ((aM p m).map V.int))->Q (.ref l) H'):qT vs H Q e3
inductive nj (vs:List V) (H:Hp) (Q:VK) (e3:XK):Prop
 |mk (a:Addr) (ms:List Int) (p m:Int) (_:vs=[.ref a,.int p,.int m]) (_:H a=some (.lst (ms.map V.int))) (_:¬ cD p m) (_:(∀q∈aM p m,q∈ms)) (_:∀(H':Hp) (l:Addr),aZ H H'->H l=none->H' l=some (.lst ((aM p m).map V.int))->Q (.ref l) H'):nj vs H Q e3
noncomputable def jm (ad:Int):Int:=ad/8
noncomputable def gW (ad n:Int):Int:=(ad+n-1)/8-ad/8+1
noncomputable def cX (ad n:Int) (G:List Int):Prop:=n<0\/(0<n/\(cD (jm ad) (gW ad n)\/¬ ∀q∈aM (jm ad) (gW ad n),q∈G))
noncomputable def aq (ad n:Int):List Int:=if n=0 then[]else aM (jm ad) (gW ad n)
inductive iE (vs:List V) (H:Hp) (Q:VK) (e3:XK):Prop
 |mk (a:Addr) (ms:List Int) (ad n:Int) (_:vs=[.ref a,.int ad,.int n]) (_:H a=some (.lst (ms.map V.int))) (_:¬ cX ad n ms) (_:∀(H':Hp) (l:Addr),aZ H H'->H l=none->H' l=some (.lst ((aq ad n).map V.int))->Q (.ref l) H'):iE vs H Q e3
section
variable {P:rr}{w:Bd}{K:iF}{mg:Str->Option Value}{base:Heap}
theorem DQ:aC ["mapped","page","many","pages","wanted"] ["mapped","page","many"] (aw uJ):=L2.bD
theorem Bp {f:Addr}{fd:qi}(F:cK K "pages_to_map" "pages_to_map" uJ f fd) (U:Df P w K mg base aV 1 "pages_from" eJ):a8 P w K mg base aV 2 f fd ["mapped","page","many"] qT:=by
 show F.dh DQ (λab A outer s H vs Q E S h=>?_);let#[a,ms,p,m,rfl,ha,L,N,O]:=h;show#[_,(ag (dn 3 DQ.nd (pc U S ax (aa (pv 1) (aa (pv 2) ai))))
  (ag (cG C1 rfl (fQ (pv 3)) (f9 4 DQ.nd) (ak (aS (aD gu (pv 4) (pv 0) (by with_unfolding_all rfl)) cY aF)))
  (ak (aE (pv 3))))),?_]
 show#[0,0,p,m,rfl,L,λH1 l s1 R G=>?_];show#[0,l,rfl,#[_,bA.of G],?_];show fC (K:=K) (a:=l) (xs:=(aM p m).map V.int) (λi σ H2=>∃I:Option V,σ=[some (.ref a),some (.int p),some (.int m),some (.ref l),I]/\H2=H1) #[0,rfl] (λi σ H2 _ z0=>by let#[_,_,e]:=z0;rw[e];show bA.of G) ?_ ?_
 .rintro i x σ H2 J ⟨I,rfl,rfl⟩;rw[rz]at J;let#[q,Y,rfl]:=pq.mp J;show#[0,0,a,0,.inl (bA.of (s1 _ _ ha)),rfl,d0 _,0,?_];rw[m9,decide_eq_false (N q (ua Y))];show bX #[0,rfl]
 .rintro σ H2 ⟨I,rfl,rfl⟩;show#[0,O _ l s1 R G]
theorem HN:aC ["mapped","page","many","pages"] ["mapped","page","many"] (aw qy):=L2.bD
theorem yy {f:Addr}{fd:qi}(F:cK K "pages_to_drop" "pages_to_drop" qy f fd) (N:Df P w K mg base aV 1 "pages_from" eJ) (O:Df P w K mg base aV 1 "refuse_unmapped" gC):a8 P w K mg base aV 2 f fd ["mapped","page","many"] nj:=by
 show F.dh HN (λab A outer s H vs Q E I h=>?_);let#[a,L,p,m,rfl,Y,J,R,S]:=h;show#[_,(ag (dn 3 HN.nd (pc N I ax (aa (pv 1) (aa (pv 2) ai))))
  (ag (aL (pc O I ax (aa (pv 0) (aa (pv 3) ai))))
  (ak (aE (pv 3))))),?_]
 show#[0,0,p,m,rfl,J,λH1 l s1 U G=>?_];show#[0,0,a,l,L,aM p m,rfl,s1 _ _ Y,G,R,#[0,S _ l s1 U G]]
theorem B8:aC ["mapped","address","many","first","last","pages"] ["mapped","address","many"] (aw nE):=L2.bD
theorem vj {f:Addr}{fd:qi}(F:cK K "pages_of_cells" "pages_of_cells" nE f fd) (T:Bh mg) (GP:Df P w K mg base aV 1 "pages_from" eJ) (GU:Df P w K mg base aV 1 "refuse_unmapped" gC):a8 P w K mg base aV 2 f fd ["mapped","address","many"] iE:=by
 let#[u8,U,L]:=T.cells;show F.dh B8 (λab A outer s H vs Q E R h=>?_);let#[a,J,ad,n,rfl,ha,G,N]:=h;show#[_,(ag (aS (aD bP (pv 2) aj (aI _)) (ak (aE (cj ai))) aF)
  (ag (aS (aD gK (pv 2) aj (aI _)) cY aF)
  (ag (dn 3 B8.nd (aA bt (pv 1) (cw (by rfl) U L)))
  (ag (dn 4 B8.nd (aA bt (aA jh (aA bp (pv 1) (pv 2)) aj) (cw (by rfl) U L)))
  (ag (dn 5 B8.nd (pc GP R ax (aa (pv 3) (aa (aA bp (aA jh (pv 4) (pv 3)) aj) ai))))
  (ag (aL (pc GU R ax (aa (pv 0) (aa (pv 5) ai))))
  (ak (aE (pv 5))))))))),?_]
 show#[0,rfl,0,?_];show gS (λc=>?_) (λc=>?_)
 .have e:n=0:=V.int.inj (of_decide_eq_true c);show#[av,λl I=>?_];show N _ l (au I) I ?_;rw[af];unfold aq;rw[Sv e];rfl
 have ne:¬ n=0:=λz=>c (decide_eq_true (by rw[z]));have nn:¬ n<0:=λz=>G (.inl z);have O:0<n:=ae;have np:¬ cD (jm ad) (gW ad n):=λz=>G (.inr #[O,.inl z]);have Y:∀q∈aM (jm ad) (gW ad n),q∈J:=MZ λz=>G (.inr #[O,.inr z]);show#[0,_,0,rfl,0,?_];show gS (λc'=>absurd (of_decide_eq_true c') nn) (λ_=>?_);show#[0,_,0,rfl,#[av,av],0,0,_,0,4,0,4,0,rfl,#[av,av],?_];show#[0,0,0,_,0,4,0,rfl,jm ad,gW ad n,rfl,np,λH1 l s1 nl S=>?_];show#[0,0,a,l,J,aM (jm ad) (gW ad n),rfl,s1 _ _ ha,S,Y,#[0,N _ l s1 nl ?_]];unfold aq;rw[Su ne];show S
end
theorem qu {ws:List Int}{s n:Nat}:ff (ws.map V.int) (some (s:Int)) (some ((s:Int)+(n:Int)))=((ws.drop s).take n).map V.int:=by
 unfold ff;rw[nq,HT.lP,show((s:Int)+(n:Int))=((s+n:Nat):Int)by push_cast;rfl,HT.lP, <-RN, <-map_take];congr 1;by_cases h:s<=ws.length
 .rw[NU h];by_cases h2:s+n<=ws.length
  .rw[NU h2,show s+n-s=n by omega]
  .rw[N6 ae,Lp (by rw[LZ];omega),Lp (by rw[LZ];omega)]
 .rw[N6 ae,N6 ae,My (qj _),My ae];simp
theorem qW {ws:List Int}{s:Nat}:ff (ws.map V.int) none (some (s:Int))=(ws.take s).map V.int:=by
 unfold ff;rw[nq,HT.lP,show HT.de ws.length 0 none=0 from rfl,Rn,Nat.sub_zero, <-map_take];congr 1;by_cases h:s<=ws.length
 .rw[NU h]
 .rw[N6 ae,Lp (qj _),Lp ae]
theorem yx {ws:List Int}{s:Nat}:ff (ws.map V.int) (some (s:Int)) none=(ws.drop s).map V.int:=by
 unfold ff;rw[nq,HT.lP,show HT.de ws.length ws.length none=ws.length from rfl, <-RN, <-map_take];congr 1;by_cases h:s<=ws.length
 .rw[NU h,Lp (by rw[LZ];omega)]
 .rw[N6 ae,My (qj _),My ae];simp
theorem eI {K:iF}{H H':Hp}{a:Addr}{xs:List V}(h:bA K H a xs) (s:∀o,H a=some o->H' a=some o):bA K H' a xs:=by
 rcases h with(h|⟨o,h⟩)|h
 .show .inl (.inl (s _ h))
 .show .inl (.inr #[o,s _ h])
 .show .inr h
theorem vf {α I:Type}{F G:α->I->Prop}(h:∀x y,F x y->G x y):∀{xs:List α}{ys:List I},Paired F xs ys->Paired G xs ys
 |_,_,.nil=>.nil
 |_,_,.cons q t=>.cons (h _ _ q) (vf h t)
theorem uE {α I:Type}{F:α->I->Prop}{xs G:List α}{ys J:List I}(p:Paired F xs ys) (h:Paired F G J):Paired F (xs++G) (ys++J):=by
 induction p with
 |nil=>show h
 |cons q _ L=>show .cons q L
theorem vP {α G:Type}{F:α->G->Prop}{x:α}{xs:List α}{ys:List G}(p:Paired F xs ys) (h:x∈xs):∃y,F x y:=by
 induction p with
 |nil=>cases h
 |cons q _ I =>
  rcases wh.mp h with e|h
  .show#[_,e▸q]
  .show I h
inductive lV (vs:List V) (H:Hp) (Q:VK) (e3:XK):Prop
 |mk (a:Addr) (ws:List Int) (ad:Int) (n:Nat) (_:vs=[.ref a,.int ad,.int n]) (_:H a=some (.lst (ws.map V.int))) (_:∀(H':Hp) (l:Addr),aZ H H'->H l=none->H' l=some (.lst (((ws.drop (ad%8).toNat).take n).map V.int))->Q (.ref l) H'):lV vs H Q e3
noncomputable def dQ (ws:List Int) (s:Nat) (cs:List Int):List Int:=ws.take s++cs++ws.drop (s+cs.length)
noncomputable def fY (k:Nat) (ws:List Int):List (List Int):=(KD k).map λi=>(ws.drop (8*i)).take 8
inductive vG (K:iF) (vs:List V) (H:Hp) (Q:VK) (e3:XK):Prop
 |mk (a c:Addr) (ws cs:List Int) (ad:Int) (k:Nat) (_:vs=[.ref a,.int ad,.ref c]) (_:H a=some (.lst (ws.map V.int))) (_:bA K H c (cs.map V.int)) (_:ws.length<=600) (_:cs.length<=600) (_:k<=64) (_:(dQ ws (ad%8).toNat cs).length=8*k) (_:∀(H':Hp) (l:Addr) (rs:List Addr),aZ H H'->H l=none->H' l=some (.lst (rs.map V.ref))->Paired (λr (row:List Int)=>H' r=some (.lst (row.map V.int))) rs (fY k (dQ ws (ad%8).toNat cs))->(∀r∈rs,H r=none)->rs.Nodup->Q (.ref l) H'):vG K vs H Q e3
theorem Jd:∀k:Nat,k<65->Builtin.Range.small 0 (8*(k:Int)) 8=true/\Builtin.Range.rangeSize 0 (8*(k:Int)) 8=(k:Int)/\Builtin.divisionGoesByPylong (8*(k:Int)-0) 8=false:=ao
section
variable {P:rr}{w:Bd}{K:iF}{mg:Str->Option Value}{base:Heap}
theorem Gi:aC ["whole","address","many","start"] ["whole","address","many"] (aw q8):=L2.bD
theorem yU {f:Addr}{fd:qi}(F:cK K "run_within" "run_within" q8 f fd) (T:Bh mg):a8 P w K mg base aV 1 f fd ["whole","address","many"] lV:=by
 let#[R,J,I]:=T.cells;show F.dh Gi (λS A outer s H vs Q E U h=>?_);let#[a,ws,ad,n,rfl,O,k]:=h;show#[_,(ag (dn 3 Gi.nd (aA bB (pv 1) (cw (by rfl) J I)))
  (ak (aE (cW fM (pv 0) (cO (pv 3)) (cO (aA bp (pv 3) (pv 2))))))),?_]
 show#[0,_,0,rfl,u3,?_];have N:=Lf ad (show(8:Int)≠0 by decide);show#[0,0,ad%8,rfl,0,0,_,0,rfl,ad%8+n,rfl,a,0,bA.of O,λl G=>?_];have e:ad%8=((ad%8).toNat:Int):=(N1 N).symm;have L:ff (ws.map V.int) (some (ad%8)) (some (ad%8+n))=((ws.drop (ad%8).toNat).take n).map V.int:=by
  rw[e];show qu
 show k _ l (au G) G (by rw[af,L])
theorem DY:aC ["whole","address","cells","start","changed"] ["whole","address","cells"] (aw zx):=L2.bD
theorem BN {f:Addr}{fd:qi}(F:cK K "pages_with" "pages_with" zx f fd) (T:Bh mg):a8 P w K mg base aV 1 f fd ["whole","address","cells"] (vG K):=by
 let#[u8,m8,r8]:=T.cells;show F.dh DY (λa5 A outer s H vs Q E hr h=>?_);let#[a,c,ws,cs,ad,j,rfl,ha,hc,hw,a4,hj,a1,k]:=h;have hs:=ub;show#[_,(ag (dn 3 DY.nd (aA bB (pv 1) (cw (by rfl) m8 r8)))
  (ag (dn 4 DY.nd (aA uX (aA uX (cW fM (pv 0) eX (cO (pv 3))) (bH cR (by rfl) T.list dS (aa (pv 2) ai))) (cW fM (pv 0) (cO (aA bp (pv 3) (aQ bG (by rfl) T.len boot_len (aa (pv 2) ai)))) eX)))
  (ak (aE (gz (cl:=[("changed",s.heap.objs.size+1)]) (caps:=[("changed",4)]) #[rfl,ao,ao,rfl,by kernel_rfl,by intro p G;simp only[wh,By,or_false]at G;rcases G with rfl<;>first|rfl|show#[rfl,.inl rfl,.inl rfl]|show#[rfl,.inl rfl,.inr rfl],by kernel_rfl,by intro p G;simp only[wh,By,or_false]at G;rcases G with rfl<;>first|rfl|show#[rfl,.inl rfl,.inl rfl]|show#[rfl,.inl rfl,.inr rfl],ao] rfl (yz (by rfl) T.range (aa aj (aa (aQ bG (by rfl) T.len boot_len (aa (pv 4) ai)) (aa (cw (by rfl) m8 r8) ai)))) (λ_ _ _ _=>fJ) (λ_ _ _ _=>(cW (show Gk _ (Fo K)from fM) (pv 1) (cO (pv 0)) (cO (aA bp (pv 0) (cw (by rfl) m8 r8)))))))))),?_]
 show eO λ_ jt=>?_;show#[0,_,0,rfl,u3,?_];have m0:=Lf ad (show(8:Int)≠0 by decide);have e:ad%8=((ad%8).toNat:Int):=(N1 m0).symm;show jt _ _ ?_;change jz _ _ _ [some (V.ref a),some (.int ad),some (.ref c),some (.int (ad%8)),none] H;rw[e];generalize (ad%8).toNat=st at *;clear e m0;show eO λ_ jt=>?_;show#[0,0,(st:Int),rfl,a,0,bA.of ha,λO a0=>?_];rw[qW];have s1:=au (X:=.lst ((ws.take st).map V.int)) a0;have e1:(upd H O (.lst ((ws.take st).map V.int))) O=some (.lst ((ws.take st).map V.int)):=af;show#[0,c,0,.inl (eI hc (s1 _)),λl2 aB=>?_];have s2:=au (X:=.lst (cs.map V.int)) aB;show#[O,l2,_,0,rfl,s2 _ _ e1,af,by rw[nq,nq,DD];omega,λR a3=>?_];rw[<-BY];have s3:=au (X:=.lst ((ws.take st++cs).map V.int)) a3;have S3:=(s1.trans s2).trans s3;have e3:(upd (upd (upd H O (.lst ((ws.take st).map V.int))) l2 (.lst (cs.map V.int))) R (.lst ((ws.take st++cs).map V.int))) R=some (.lst ((ws.take st++cs).map V.int)):=af;generalize upd (upd (upd H O (.lst ((ws.take st).map V.int))) l2 (.lst (cs.map V.int))) R (.lst ((ws.take st++cs).map V.int))=H3 at *;show#[0,0,0,c,0,.inl (eI hc (S3 _)),_,0,rfl,0,a,0,bA.of (S3 _ _ ha),λU a2=>?_];rw[show((st:Int)+((cs.map V.int).length:Nat))=((st+cs.length:Nat):Int)by rw[nq];push_cast;rfl,yx];have s4:=au (X:=.lst ((ws.drop (st+cs.length)).map V.int)) a2;show#[R,U,_,0,rfl,s4 _ _ e3,af,by rw[nq,nq,vl,DD,LZ];omega,λL aT=>?_];rw[<-BY,show ws.take st++cs++ws.drop (st+cs.length)=dQ ws st cs from rfl];have S5:aZ H (upd (upd H3 U (.lst ((ws.drop (st+cs.length)).map V.int))) L (.lst ((dQ ws st cs).map V.int))):=(S3.trans s4).trans (au aT);have e5:(upd (upd H3 U (.lst ((ws.drop (st+cs.length)).map V.int))) L (.lst ((dQ ws st cs).map V.int))) L=some (.lst ((dQ ws st cs).map V.int)):=af;generalize upd (upd H3 U (.lst ((ws.drop (st+cs.length)).map V.int))) L (.lst ((dQ ws st cs).map V.int))=H5 at *;generalize dQ ws st cs=sp at *;let#[r1,r2,r3]:=Jd j ae;show jt _ _ (Jh λ_ jr=>?_);show#[0,L,0,.inl (bA.of e5),(0),8*(j:Int),(8),j,by rw[nq,a1];push_cast;rfl,r1,r2,av,r3,?_];show rX (lo:=0) (st:=8) (n:=j) (λi ys S=>∃I:List Addr,yP (ys=I.map V.ref) (I.length=i) (Paired (λr (am:List Int)=>S r=some (.lst (am.map V.int))) I (fY i sp)) (aZ H5 S) ((∀r∈I,H5 r=none)) I.Nodup) #[[],1,.nil,aZ.refl _,(λ_ h=>nomatch h),Mc] ?_ ?_
 .rintro i ys S hi ⟨I,rfl,ac,G,N,Y,nd⟩;show#[0,0,0,0,_,0,rfl,0,L,0,bA.of (N _ _ e5),λr ab=>?_];rw[show(0+(i:Int)*8)=((8*i:Nat):Int)by push_cast;omega,show(((8*i:Nat):Int)+8)=((8*i:Nat):Int)+((8:Nat):Int)from rfl,qu];have sr:=au (X:=.lst (((sp.drop (8*i)).take 8).map V.int)) ab;show#[by rw[nq];omega,I++[r],by rw[BY];rfl,by rw[vl,ac];rfl,?_,N.trans sr,λx J=>?_,?_]
  .unfold fY at G ⊢;rw[Pd,BY];show uE (vf (λx y h=>sr _ _ h) G) (.cons af .nil)
  .rcases oR.mp J with J|J
   .show Y x J
   .rw[n7.mp J];show N.free ab
  .show NB.mpr #[nd,KJ.mpr #[by simp,Mc],λx J y hy=>?_];rw[n7.mp hy];intro z;let#[am,ap]:=vP G J;rw[z,ab]at ap;cases ap
 .rintro ys S ⟨I,rfl,ac,G,N,Y,nd⟩ l6 as;have s7:=au (X:=.lst (I.map V.ref)) as;show jr _ _ (k _ l6 I ((S5.trans N).trans s7) ((S5.trans N).free as) af (vf (λx y h=>s7 _ _ h) G) (λr h=>S5.free (Y r h)) nd)
end
end Rm
namespace Pg
noncomputable def upd {α:Type}(f:Bool->α) (b:Bool) (v:α):Bool->α:=λc=>if c=b then v else f c
noncomputable def du {α:Type}(f:Int->α) (k:Int) (v:α):Int->α:=λj=>if j=k then v else f j
theorem af {α:Type}{f:Bool->α}{b:Bool}{v:α}:upd f b v b=v:=Sv rfl
theorem aX {α:Type}{f:Bool->α}{b c:Bool}{v:α}(h:c≠b):upd f b v c=f c:=Su h
theorem bj {α:Type}{f:Int->α}{b:Int}{v:α}:du f b v b=v:=Sv rfl
theorem aJ {α:Type}{f:Int->α}{b c:Int}{v:α}(h:c≠b):du f b v c=f c:=Su h
structure PS where
 ow:Bool->List Int
 co:Bool->List (Option (List Int))
 pl:Int->Option (Bool×Nat)
 ls:Int
 inf:List Int
noncomputable def Vw (s:PS) (k:Int) (cs:List Int) (c:Int):Prop:=∃b n,s.pl k=some (b,n)/\(s.co b)[n]?=some (some cs)/\(s.ow b)[n]?=some c
structure Good (s:PS):Prop where
 rg:∀k p,s.pl k=some p->1<=k/\k<=s.ls
 va:∀k b n,s.pl k=some (b,n)->∃cs c,(s.co b)[n]?=some (some cs)/\(s.ow b)[n]?=some c/\1<=c/\cs.length=8
 inj:∀k j p,s.pl k=some p->s.pl j=some p->k=j
 on:∀b n c,(s.ow b)[n]?=some c->c=0\/∃k,s.pl k=some (b,n)
 ln:∀b,(s.co b).length=(s.ow b).length
 nd:s.inf.Nodup
 fi:∀k,k∈s.inf↔∃n,s.pl k=some (true,n)
noncomputable def xn (s:PS) (b:Bool) (k:Int) (cs:List Int) (c:Int):PS :=
 { ow:=upd s.ow b ((s.ow b).set ((s.ow b).idxOf 0) c),co:=upd s.co b ((s.co b).set ((s.ow b).idxOf 0) (some cs)),pl:=du s.pl k (some (b,(s.ow b).idxOf 0)),ls:=s.ls,inf:=if b=true then s.inf++[k]else s.inf }
noncomputable def oQ (s:PS) (k:Int) (b:Bool) (n:Nat):PS :=
 { ow:=upd s.ow b ((s.ow b).set n 0),co:=s.co,pl:=du s.pl k none,ls:=s.ls,inf:=s.inf.erase k }
noncomputable def cE (s:PS) (b:Bool) (n:Nat) (c:Int):PS:={ s with ow:=upd s.ow b ((s.ow b).set n c) }
noncomputable def write (s:PS) (b:Bool) (n:Nat) (cs:List Int):PS:={ s with co:=upd s.co b ((s.co b).set n (some cs)) }
theorem uL {l:List Int}(h:(0:Int)∈l):l[l.idxOf 0]?=some 0:=by
 have G:l.idxOf 0<l.length:=LB.mpr h;rw[ti G,Od G]
theorem vY {l:List Int}(h:(0:Int)∈l):l.idxOf 0<l.length:=LB.mpr h
section
variable {s:PS}{b:Bool}{k:Int}{cs:List Int}{c:Int}{n:Nat}
theorem wJ (G:Good s) (h:(0:Int)∈s.ow b):∀j,s.pl j≠some (b,(s.ow b).idxOf 0):=by
 intro j e;let#[cs,c,_,h2,I,_]:=G.va _ _ _ e;rw[uL h]at h2;cases h2;omega
theorem nX (G:Good s) (h0:(0:Int)∈s.ow b) (U:s.pl k=none) (h1:1<=k) (h2:k<=s.ls) (h3:1<=c) (h4:cs.length=8):Good (xn s b k cs c):=by
 have hl:=vY h0;have Y:=wJ G h0;have ac:(s.ow b).idxOf 0<(s.co b).length:=(by rw[G.ln b];show hl);show#[3,3,3,?_]
 .intro j p e;by_cases L:j=k
  .subst L;show#[h1,h2]
  .show G.rg j p (by rw[<-e];show(aJ L).symm)
 .intro j J n' e;by_cases L:j=k
  .subst L;have e:some (b,(s.ow b).idxOf 0)=some (J,n'):=(by rw[<-e];show bj.symm);cases e;show#[cs,c,3,h3,h4]
   .change(upd s.co b _ b)[_]?=_;rw[af,Ld ac]
   .change(upd s.ow b _ b)[_]?=_;rw[af,Ld hl]
  .have O:s.pl j=some (J,n'):=(by rw[<-e];show(aJ L).symm);let#[ab,c',e1,e2,e3,e4]:=G.va _ _ _ O;show#[ab,c',3,e3,e4]
   .change(upd s.co b _ J)[_]?=_;by_cases I:J=b
    .subst I;rw[af,KY (λq=>Y j (by rw[O,q]))];show e1
    .rw[aX I];show e1
   .change(upd s.ow b _ J)[_]?=_;by_cases I:J=b
    .subst I;rw[af,KY (λq=>Y j (by rw[O,q]))];show e2
    .rw[aX I];show e2
 .intro j S p e N;by_cases L:j=k
  .by_cases R:S=k
   .rw[L,R]
   .subst L;have e:some (b,(s.ow b).idxOf 0)=some p:=(by rw[<-e];show bj.symm);have N:s.pl S=some p:=(by rw[<-N];show(aJ R).symm);show absurd (N.trans e.symm) (Y S)
  .have O:s.pl j=some p:=(by rw[<-e];show(aJ L).symm);by_cases R:S=k
   .subst R;have N:some (b,(s.ow b).idxOf 0)=some p:=(by rw[<-N];show bj.symm);show absurd (O.trans N.symm) (Y j)
   .have N:s.pl S=some p:=(by rw[<-N];show(aJ R).symm);show G.inj _ _ _ O N
 .intro J n' c' e;have e:(upd s.ow b ((s.ow b).set ((s.ow b).idxOf 0) c) J)[n']?=some c':=e;by_cases I:J=b
  .subst I;by_cases en:(s.ow J).idxOf 0=n'
   .show .inr #[k,by change du s.pl k _ k=_;rw[bj,en]]
   .rw[af,KY en]at e;rcases G.on _ _ _ e with h|⟨j,h⟩
    .show .inl h
    .show .inr #[j,?_];change du s.pl k _ j=_;rw[aJ (λq=>by rw[q,U]at h;cases h)];show h
  .rw[aX I]at e;rcases G.on _ _ _ e with h|⟨j,h⟩
   .show .inl h
   .show .inr #[j,?_];change du s.pl k _ j=_;rw[aJ (λq=>by rw[q,U]at h;cases h)];show h
 .intro J;change(upd s.co b _ J).length=(upd s.ow b _ J).length;by_cases I:J=b
  .subst I;rw[af,af,Lb,Lb];show G.ln _
  .rw[aX I,aX I];show G.ln _
 .change(if b=true then s.inf++[k]else s.inf).Nodup;by_cases I:b=true
  .rw[Sv I];show NB.mpr #[G.nd,by simp,?_];intro x hx y hy e;rw[n7]at hy;subst hy;subst e;let#[m,hm]:=(G.fi x).mp hx;rw[U]at hm;cases hm
  .rw[Su I];show G.nd
 .intro j;change j∈(if b=true then s.inf++[k]else s.inf)↔∃m,du s.pl k (some (b,(s.ow b).idxOf 0)) j=some (true,m);by_cases L:j=k
  .subst L;rw[bj];by_cases I:b=true
   .subst I;rw[Sv rfl];show#[λ_=>#[0],λ_=>by simp]
   .rw[Su I,G.fi];show#[λ⟨m,h⟩=>(by rw[U]at h;cases h),λ⟨m,h⟩=>(by cases h;show absurd rfl I)]
  .rw[aJ L, <-G.fi];by_cases I:b=true
   .rw[Sv I];simp[L]
   .rw[Su I]
theorem nK (I:(0:Int)∈s.ow b) (G:Good s):Vw (xn s b k cs c) k cs c:=by
 show#[b,(s.ow b).idxOf 0,bj,3]
 .change(upd s.co b _ b)[_]?=_;rw[af,Ld (by rw[G.ln b];show vY I)]
 .change(upd s.ow b _ b)[_]?=_;rw[af,Ld (vY I)]
theorem kA (G:Good s) (Y:(0:Int)∈s.ow b) {j:Int}(U:j≠k) {R:List Int}{S:Int}:Vw (xn s b k cs c) j R S↔Vw s j R S:=by
 have hf:=wJ G Y;have A:∀I n',s.pl j=some (I,n')->((xn s b k cs c).co I)[n']?=(s.co I)[n']?/\((xn s b k cs c).ow I)[n']?=(s.ow I)[n']?:=by
  intro I n' e;change(upd s.co b _ I)[n']?=_/\(upd s.ow b _ I)[n']?=_;by_cases N:I=b
  .subst N;have:(s.ow I).idxOf 0≠n':=λq=>hf j (by rw[e,q]);rw[af,af,KY this,KY this];show#[1]
  .rw[aX N,aX N];show#[1]
 constructor
 .rintro⟨I,n',J,O,L⟩;have J:s.pl j=some (I,n'):=(by rw[<-J];show(aJ U).symm);show#[I,n',J,by rw[<-(A _ _ J).1];show O,by rw[<-(A _ _ J).2];show L]
 .rintro⟨I,n',J,O,L⟩;show#[I,n',(aJ U).trans J,by rw[(A _ _ J).1];show O,by rw[(A _ _ J).2];show L]
theorem jG (G:Good s) (O:s.pl k=some (b,n)):Good (oQ s k b n):=by
 let#[ab,c0,g1,g2,_,_]:=G.va _ _ _ O;have hn:n<(s.ow b).length:=(kz.mp g2).1;have up:∀{j p},(oQ s k b n).pl j=some p->j≠k/\s.pl j=some p:=by
  intro j p e;by_cases I:j=k
  .subst I;have N:(none:Option (Bool×Nat))=some p:=(by rw[<-e];show bj.symm);cases N
  .show#[I,by rw[<-e];show(aJ I).symm]
 show#[3,3,3,?_]
 .intro j p e;show G.rg j p (up e).2
 .intro j J n' e;let#[I,N]:=up e;let#[Y,S,e1,U,e3,e4]:=G.va _ _ _ N;show#[Y,S,e1,?_,e3,e4];change(upd s.ow b _ J)[_]?=_;by_cases L:J=b
  .subst L;rw[af,KY (λq=>I (G.inj _ _ _ N (by rw[O,q])))];show U
  .rw[aX L];show U
 .intro j j' p e e';show G.inj _ _ _ (up e).2 (up e').2
 .intro J n' S e;have e:(upd s.ow b ((s.ow b).set n 0) J)[n']?=some S:=e;by_cases L:J=b
  .subst L;by_cases R:n=n'
   .subst R;rw[af,Ld hn]at e;cases e;show .inl rfl
   .rw[af,KY R]at e;rcases G.on _ _ _ e with h|⟨j,h⟩
    .show .inl h
    .show .inr #[j,?_];change du s.pl k _ j=_;rw[aJ (λq=>by rw[q,O]at h;cases h;show R rfl)];show h
  .rw[aX L]at e;rcases G.on _ _ _ e with h|⟨j,h⟩
   .show .inl h
   .show .inr #[j,?_];change du s.pl k _ j=_;rw[aJ (λq=>by rw[q,O]at h;cases h;show L rfl)];show h
 .intro J;change(s.co J).length=(upd s.ow b _ J).length;by_cases L:J=b
  .subst L;rw[af,Lb];show G.ln _
  .rw[aX L];show G.ln _
 .show G.nd.erase k
 .intro j;change j∈s.inf.erase k↔∃m,du s.pl k none j=some (true,m);rw[Ng G.nd,G.fi];by_cases I:j=k
  .subst I;rw[bj];show#[λh=>absurd rfl h.1,λ⟨m,h⟩=>by cases h]
  .rw[aJ I];show#[λh=>h.2,λh=>#[I,h]]
theorem iK (G:Good s) (Y:s.pl k=some (b,n)) {j:Int}(N:j≠k) {R:List Int}{S:Int}:Vw (oQ s k b n) j R S↔Vw s j R S:=by
 have A:∀I n',s.pl j=some (I,n')->((oQ s k b n).ow I)[n']?=(s.ow I)[n']?:=by
  intro I n' e;change(upd s.ow b _ I)[n']?=_;by_cases U:I=b
  .subst U;rw[af,KY (λq=>N (G.inj _ _ _ e (by rw[Y,q])))]
  .rw[aX U]
 constructor
 .rintro⟨I,n',J,O,L⟩;have J:s.pl j=some (I,n'):=(by rw[<-J];show(aJ N).symm);show#[I,n',J,O,by rw[<-A _ _ J];show L]
 .rintro⟨I,n',J,O,L⟩;show#[I,n',(aJ N).trans J,O,by rw[A _ _ J];show L]
theorem sv (G:Good s) (L:s.pl k=some (b,n)):(0:Int)∈(oQ s k b n).ow b:=by
 let#[O,N,R,I,_,_]:=G.va _ _ _ L;have J:n<(s.ow b).length:=(kz.mp I).1;change(0:Int)∈upd s.ow b _ b;rw[af];show ua (Ld J)
theorem jE (G:Good s) (S:s.pl k=some (b,n)) (hc:1<=c):Good (cE s b n c):=by
 let#[ab,c0,g1,g2,_,g4]:=G.va _ _ _ S;have hn:n<(s.ow b).length:=(kz.mp g2).1;show#[G.rg,?_,G.inj,3,G.nd,G.fi]
 .intro j I n' e;let#[Y,O,e1,U,R,e4]:=G.va j I n' e;have A:∃N,(upd s.ow b ((s.ow b).set n c) I)[n']?=some N/\1<=N:=by
   by_cases J:I=b
   .subst J;rw[af];by_cases L:n=n'
    .subst L;show#[c,Ld hn,hc]
    .rw[KY L];show#[O,U,R]
   .rw[aX J];show#[O,U,R]
  let#[N,a1,a2]:=A;show#[Y,N,e1,a1,a2,e4]
 .intro I n' O e;have e:(upd s.ow b ((s.ow b).set n c) I)[n']?=some O:=e;by_cases J:I=b
  .subst J;rw[af]at e;by_cases L:n=n'
   .subst L;show .inr #[k,S]
   .rw[KY L]at e;show G.on _ _ _ e
  .rw[aX J]at e;show G.on _ _ _ e
 .intro I;change(s.co I).length=(upd s.ow b _ I).length;by_cases J:I=b
  .subst J;rw[af,Lb];show G.ln _
  .rw[aX J];show G.ln _
theorem jo (G:Good s) (J:s.pl k=some (b,n)) {N:Int}(h:Vw s k cs N):Vw (cE s b n c) k cs c:=by
 let#[R,n',I,O,L]:=h;rw[J]at I;cases I;show#[b,n,J,O,?_];change(upd s.ow b _ b)[_]?=_;rw[af,Ld (kz.mp L).1]
theorem dy (G:Good s) (Y:s.pl k=some (b,n)) {j:Int}(U:j≠k) {O:List Int}{R:Int}:Vw (cE s b n c) j O R↔Vw s j O R:=by
 have A:∀I n',s.pl j=some (I,n')->((cE s b n c).ow I)[n']?=(s.ow I)[n']?:=by
  intro I n' e;change(upd s.ow b _ I)[n']?=_;by_cases S:I=b
  .subst S;rw[af,KY (λq=>U (G.inj _ _ _ e (by rw[Y,q])))]
  .rw[aX S]
 constructor
 .rintro⟨I,n',J,N,L⟩;show#[I,n',J,N,by rw[<-A _ _ J];show L]
 .rintro⟨I,n',J,N,L⟩;show#[I,n',J,N,by rw[A _ _ J];show L]
theorem vm (G:Good s) (hk:s.pl k=some (b,n)) (Y:cs.length=8):Good (write s b n cs):=by
 let#[ab,c0,g1,g2,_,g4]:=G.va _ _ _ hk;have hn:n<(s.co b).length:=(kz.mp g1).1;show#[G.rg,?_,G.inj,G.on,?_,G.nd,G.fi]
 .intro j I n' e;let#[N,c',O,e2,U,S]:=G.va j I n' e;have A:∃L,(upd s.co b ((s.co b).set n (some cs)) I)[n']?=some (some L)/\L.length=8:=by
   by_cases J:I=b
   .subst J;rw[af];by_cases R:n=n'
    .subst R;show#[cs,Ld hn,Y]
    .rw[KY R];show#[N,O,S]
   .rw[aX J];show#[N,O,S]
  let#[L,a1,a2]:=A;show#[L,c',a1,e2,U,a2]
 .intro I;change(upd s.co b _ I).length=(s.ow I).length;by_cases J:I=b
  .subst J;rw[af,Lb];show G.ln _
  .rw[aX J];show G.ln _
theorem Bw (G:Good s) (J:s.pl k=some (b,n)) {N:List Int}(h:Vw s k N c):Vw (write s b n cs) k cs c:=by
 let#[R,n',I,O,L]:=h;rw[J]at I;cases I;show#[b,n,J,?_,L];change(upd s.co b _ b)[_]?=_;rw[af,Ld (kz.mp O).1]
theorem gY (G:Good s) (Y:s.pl k=some (b,n)) {j:Int}(U:j≠k) {O:List Int}{R:Int}:Vw (write s b n cs) j O R↔Vw s j O R:=by
 have A:∀I n',s.pl j=some (I,n')->((write s b n cs).co I)[n']?=(s.co I)[n']?:=by
  intro I n' e;change(upd s.co b _ I)[n']?=_;by_cases S:I=b
  .subst S;rw[af,KY (λq=>U (G.inj _ _ _ e (by rw[Y,q])))]
  .rw[aX S]
 constructor
 .rintro⟨I,n',J,N,L⟩;show#[I,n',J,by rw[<-A _ _ J];show N,L]
 .rintro⟨I,n',J,N,L⟩;show#[I,n',J,by rw[A _ _ J];show N,L]
end
end Pg
namespace Pg
theorem sum_set {l:List Int}{n:Nat}{x y:Int}(h:l[n]?=some x):(l.set n y).sum=l.sum-x+y:=by
 induction l generalizing n with
 |nil=>cases h
 |cons a l G =>
  cases n with
  |zero =>
   cases h;change(y::l).sum=_;simp only[MD];omega
  |succ n =>
   have h:l[n]?=some x:=h;change(a::l.set n y).sum=_;simp only[MD,G h];omega
noncomputable def all (s:PS):Int:=(s.ow true).sum+(s.ow false).sum
theorem qY {ow:Bool->List Int}{b:Bool}{n:Nat}{x y:Int}(h:(ow b)[n]?=some x) :
  (upd ow b ((ow b).set n y) true).sum+(upd ow b ((ow b).set n y) false).sum=(ow true).sum+(ow false).sum-x+y:=by
 cases b
 .rw[aX av,af,sum_set h];omega
 .rw[af,aX av,sum_set h];omega
section
variable {s s':PS}{b:Bool}{k:Int}{cs:List Int}{c:Int}{n:Nat}
theorem rQ (G:(0:Int)∈s.ow b):all (xn s b k cs c)=all s+c:=by
 have:=qY (ow:=s.ow) (y:=c) (uL G);unfold all xn;dsimp only;omega
theorem qt {G:Int}(h:(s.ow b)[n]?=some G):all (oQ s k b n)=all s-G:=by
 have:=qY (ow:=s.ow) (y:=0) h;unfold all oQ;dsimp only;omega
theorem k7 {G:Int}(h:(s.ow b)[n]?=some G):all (cE s b n c)=all s-G+c:=by
 have:=qY (ow:=s.ow) (y:=c) h;unfold all cE;dsimp only;omega
theorem dD {f:Bool->List Int}{n:Nat}{x:Int}(G:Bool):(upd f b ((f b).set n x) G).length=(f G).length:=by
 by_cases e:G=b
 .subst e;rw[af,Lb]
 .rw[aX e]
structure Kept (s s':PS) (k:Int):Prop where
 ot:∀j cs' c',j≠k->(Vw s' j cs' c'↔Vw s j cs' c')
 ln:∀b,(s'.ow b).length=(s.ow b).length
 fr:(0:Int)∈s'.ow true->(0:Int)∈s.ow true/\∀j m,j≠k->s.pl j=some (true,m)->s'.pl j=some (true,m)
theorem Ac {l:List Int}{n:Nat}{x:Int}(G:x≠0) (h:(0:Int)∈l.set n x):(0:Int)∈l:=by
 rcases Oj h with h|h
 .show h
 .show absurd h.symm G
theorem xI (G:Good s) (J:(0:Int)∈s.ow true) (O:1<=c):Kept s (xn s true k cs c) k :=
 #[λj L N I=>kA G J I,λb=>dD b,λh=>#[J,λj m I e=>(aJ I).trans e]]
noncomputable def out (s:PS) (G:Int) (L:Nat) (J:List Int) (I:Int):PS:=xn (oQ s G true L) false G J I
theorem sC (G:Good s) {I:Int}{J:Nat}{N:List Int}{L:Int}(O:s.pl I=some (true,J)) (hv:Vw s I N L) (hf:(0:Int)∈s.ow false) :
  Good (out s I J N L)/\Vw (out s I J N L) I N L/\(∀j U c',j≠I->(Vw (out s I J N L) j U c'↔Vw s j U c'))/\(0:Int)∈(out s I J N L).ow true/\all (out s I J N L)=all s /\
  (∀b,((out s I J N L).ow b).length=(s.ow b).length)/\(∀j,j≠I->(out s I J N L).pl j=s.pl j):=by
 let#[b',n',e1,e2,e3]:=hv;rw[O]at e1;cases e1;let#[ab,c9,a1,a2,a3,a4]:=G.va _ _ _ O;rw[e2]at a1;cases a1;rw[e3]at a2;cases a2;have Y:=jG G O;have S:(0:Int)∈(oQ s I true J).ow false:=by
  show(aX (f:=s.ow) (v:=(s.ow true).set J 0) (show false≠true by decide)).symm▸hf
 have hn:(oQ s I true J).pl I=none:=bj;have hr:=G.rg _ _ O;show#[nX Y S hn hr.1 hr.2 a3 a4,nK S Y,3,3,?_]
 .intro j U c' R;show(kA Y S R).trans (iK G O R)
 .show(aX (f:=(oQ s I true J).ow) (b:=false) (v:=((oQ s I true J).ow false).set (((oQ s I true J).ow false).idxOf 0) L) (show true≠false by decide)).symm▸sv G O
 .change all (xn _ _ _ _ _)=_;rw[rQ S,qt e3];omega
 .intro b;show(dD (f:=(oQ s I true J).ow) b).trans (dD b)
 .intro j R;show(aJ R).trans (aJ R)
inductive BI (s:PS) (k:Int) (cs:List Int) (c:Int):PS->Prop
 |free:(0:Int)∈s.ow true->BI s k cs c (xn s true k cs c)
 |full {k0:Int}{r:List Int}{n0:Nat}{cs0:List Int}{c0:Int}:¬ (0:Int)∈s.ow true->(0:Int)∈s.ow false->s.inf=k0::r->s.pl k0=some (true,n0)->Vw s k0 cs0 c0->BI s k cs c (xn (out s k0 n0 cs0 c0) true k cs c)
structure J5 (s:PS) (k:Int) (cs:List Int) (c:Int) (s':PS):Prop where
 good:Good s'
 vw:Vw s' k cs c
 fr:∃m,s'.pl k=some (true,m)
 kept:Kept s s' k
 ls:s'.ls=s.ls
 al:all s'=all s+c
theorem DN (G:Good s) (Y:s.pl k=none) (h1:1<=k) (h2:k<=s.ls) (h3:1<=c) (h4:cs.length=8) (h:BI s k cs c s'):J5 s k cs c s':=by
 cases h with
 |free h0=>show#[nX G h0 Y h1 h2 h3 h4,nK h0 G,#[_,bj],xI G h0 h3,rfl,rQ h0]
 | @full J r I N L nf hf hi hp hv =>
  let#[g1,g2,g3,U,g5,g6,g7]:=sC G hp hv hf;have am:k≠J:=λe=>(by rw[e,hp]at Y;cases Y);have ap:(out s J I N L).pl k=none:=(by rw[g7 k am];show Y);show#[nX g1 U ap h1 h2 h3 h4,nK U g1,#[_,bj],#[3,?_],5]
  .intro j ab c' hj;rw[kA g1 U hj];by_cases e:j=J
   .subst e;constructor
    .intro hw;let#[x1,x2,y1,y2,y3]:=hw;let#[z1,z2,R,S,O]:=g2;rw[y1]at R;cases R;rw[y2]at S;cases S;rw[y3]at O;cases O;show hv
    .intro hw;let#[x1,x2,y1,y2,y3]:=hw;let#[z1,z2,R,S,O]:=hv;rw[y1]at R;cases R;rw[y2]at S;cases S;rw[y3]at O;cases O;show g2
   .show g3 j ab c' e
  .intro b;show(dD (f:=(out s J I N L).ow) b).trans (g6 b)
  .intro h;exfalso;apply nf;have h:(0:Int)∈upd (out s J I N L).ow true (((out s J I N L).ow true).set (((out s J I N L).ow true).idxOf 0) c) true:=h;rw[af]at h;have e1:(out s J I N L).ow true=(s.ow true).set I 0:=by
    show(aX (f:=(oQ s J true I).ow) (b:=false) (v:=((oQ s J true I).ow false).set (((oQ s J true I).ow false).idxOf 0) L) (show true≠false by decide)).trans (show upd s.ow true ((s.ow true).set I 0) true=_ from af)
   rw[e1]at h;let#[i,ac,e]:=LI h;have hl:i<(s.ow true).length:=(by simpa using ac);have hz:(0:Int)∈(s.ow true).set I 0:=e1▸U;have e0:((s.ow true).set I 0).idxOf 0=I:=by
    have q:=uL hz;by_cases en:I=((s.ow true).set I 0).idxOf 0
    .show en.symm
    .rw[KY en]at q;show absurd (ua q) nf
   rw[QI]at e;split at e
   .omega
   .rename_i ne;rw[QI]at e;split at e
    .rename_i e2;show absurd (e0.trans e2) ne
    .show e▸LM hl
  .rw[rQ U,g5]
theorem GJ (G:Good s) (hf:(0:Int)∈s.ow true\/(0:Int)∈s.ow false) (U:s.ow true≠[]):((0:Int)∈s.ow true)\/(¬ (0:Int)∈s.ow true/\(0:Int)∈s.ow false/\∃I r J O L,s.inf=I::r/\s.pl I=some (true,J)/\Vw s I O L):=by
 by_cases h:(0:Int)∈s.ow true
 .show .inl h
 .show .inr #[h,hf.resolve_left h,?_];have S:0<(s.ow true).length:=N2.mpr U;have h0:(s.ow true)[0]?=some (s.ow true)[0]:=ti S;rcases G.on _ _ _ h0 with e|⟨j,e⟩
  .show absurd (e▸LM S) h
  .have R:j∈s.inf:=(G.fi j).mpr #[_,e];cases hi:s.inf with
   |nil=>rw[hi]at R;cases R
   |cons I r =>
    let#[J,N]:=(G.fi I).mp (by rw[hi];show KW);let#[O,L,Y,a2,_,_]:=G.va _ _ _ N;show#[I,r,J,O,L,rfl,N,true,J,N,Y,a2]
end
end Pg
namespace Pg
section
variable {s s':PS}{b:Bool}{k:Int}{cs:List Int}{c:Int}{n:Nat}
theorem Vw.one {G:List Int}{I:Int}(h:Vw s k cs c) (h':Vw s k G I):G=cs/\I=c:=by
 let#[U,x2,O,R,S]:=h;let#[z1,Y,J,L,N]:=h';rw[O]at J;cases J;rw[R]at L;cases L;rw[S]at N;cases N;show#[1]
theorem Good.vw (G:Good s) (h:Vw s k cs c):1<=c/\cs.length=8:=by
 let#[x1,x2,N,O,R]:=h;let#[U,Y,I,J,L,S]:=G.va _ _ _ N;rw[O]at I;cases I;rw[R]at J;cases J;show#[L,S]
noncomputable def used (s:PS) (k:Int):PS:={ s with inf:=s.inf.erase k++[k] }
theorem xK (G:Good s) (L:s.pl k=some (true,n)):Good (used s k):=by
 show#[G.rg,G.va,G.inj,G.on,G.ln,3]
 .show NB.mpr #[G.nd.erase k,by simp,?_];intro x J y I e;rw[n7]at I;subst I;subst e;show((Ng G.nd).mp J).1 rfl
 .intro j;change j∈s.inf.erase k++[k]↔_;rw[oR,n7,Ng G.nd,G.fi];constructor
  .rintro(h|h)
   .show h.2
   .subst h;show#[n,L]
  .intro h;by_cases e:j=k
   .show .inr e
   .show .inl #[e,h]
inductive FE (s:PS) (k:Int):PS->Prop
 |here {n:Nat}:s.pl k=some (true,n)->FE s k (used s k)
 |away {n:Nat}{cs:List Int}{c:Int}{s':PS}:s.pl k=some (false,n)->Vw s k cs c->BI (oQ s k false n) k cs c s'->FE s k s'
structure Kv (s:PS) (k:Int) (s':PS):Prop where
 good:Good s'
 vw:∀j cs c,Vw s' j cs c↔Vw s j cs c
 fr:∃m,s'.pl k=some (true,m)
 kept:Kept s s' k
 ls:s'.ls=s.ls
 al:all s'=all s
theorem kU (G:Good s) (h:FE s k s'):Kv s k s':=by
 cases h with
 |here I=>show#[xK G I,λ_ _ _=>Iff.rfl,#[_,I],#[λ_ _ _ _=>Iff.rfl,λ_=>rfl,λh=>#[h,λ_ _ _ e=>e]],1]
 | @away n cs c _ I J hb =>
  have GR:=jG G I;have Y:=G.rg _ _ I;have S:=G.vw J;have B:=DN GR (show du s.pl k none k=none from bj) Y.1 Y.2 S.1 S.2 hb;have e3:(s.ow false)[n]?=some c:=by
   let#[x1,x2,U,y2,y3]:=J;rw[I]at U;cases U;show y3
  show#[B.good,?_,B.fr,#[3,?_],B.ls,?_]
  .intro j L N;by_cases e:j=k
   .subst e;constructor
    .intro h;let#[R,O]:=B.vw.one h;subst R;subst O;show J
    .intro h;let#[R,O]:=J.one h;subst R;subst O;show B.vw
   .show(B.kept.ot j L N e).trans (iK G I e)
  .intro j L N e;show(B.kept.ot j L N e).trans (iK G I e)
  .intro b;show(B.kept.ln b).trans (dD b)
  .intro h;let#[a1,a2]:=B.kept.fr h;have e0:(oQ s k false n).ow true=s.ow true:=aX (f:=s.ow) (v:=(s.ow false).set n 0) (show true≠false by decide);show#[e0▸a1,λj m e hj=>a2 j m e ((aJ e).trans hj)]
  .rw[B.al,qt e3];omega
noncomputable def next (s:PS):PS:={ s with ls:=s.ls+1 }
theorem pP (G:Good s):Good (next s):=#[λk p h=>by have:=G.rg k p h;show#[this.1,by change k<=s.ls+1;omega],G.va,G.inj,G.on,G.ln,G.nd,G.fi]
theorem fh (G:Good s):s.pl (s.ls+1)=none:=by
 cases h:s.pl (s.ls+1)with
 |none=>rfl
 |some p=>have:=G.rg _ _ h;omega
theorem kL (G:Good s) (J:0<=s.ls) (I:cs.length=8) (h:BI (next s) (s.ls+1) cs 1 s'):J5 (next s) (s.ls+1) cs 1 s' :=
 DN (pP G) (fh G) ae (Ll _) (Ll _) I h
inductive CV (s:PS) (k:Int):PS->Prop
 |more {b:Bool}{n:Nat}{cs:List Int}{c:Int}:s.pl k=some (b,n)->Vw s k cs c->1<c->CV s k (cE s b n (c-1))
 |last {b:Bool}{n:Nat}{cs:List Int}:s.pl k=some (b,n)->Vw s k cs 1->CV s k (oQ s k b n)
theorem tV (L:s.pl k=some (b,n)) (I:Vw s k cs c):(s.ow b)[n]?=some c:=by
 let#[R,O,G,N,J]:=I;rw[L]at G;cases G;show J
structure Kf (s:PS) (k:Int) (c:Int) (s':PS):Prop where
 good:Good s'
 ot:∀j cs' c',j≠k->(Vw s' j cs' c'↔Vw s j cs' c')
 me:∀cs' c',Vw s' k cs' c'↔(1<c/\c'=c-1/\Vw s k cs' c)
 pl:∀j,j≠k->s'.pl j=s.pl j
 ln:∀b,(s'.ow b).length=(s.ow b).length
 ls:s'.ls=s.ls
 al:all s'=all s-1
 kept:1<c->Kept s s' k
theorem xb (G:Good s) (L:Vw s k cs c) (h:CV s k s'):Kf s k c s':=by
 cases h with
 | @more b n ab c1 I Y hc =>
  let#[N,O]:=L.one Y;subst N;subst O;have U:=tV I L;show#[jE G I ae,λj R S J=>dy G I J,?_,λ_ _=>rfl,λb=>dD b,rfl,3]
  .intro R S;have W:=jo (c:=c1-1) G I L;constructor
   .intro h;let#[N,O]:=W.one h;subst N;subst O;show#[hc,rfl,L]
   .rintro⟨_,q,h⟩;let#[N,O]:=L.one h;subst N;subst q;show W
  .rw[k7 U];omega
  .intro _;show#[λj R S J=>dy G I J,λb=>dD b,λh=>#[?_,λ_ _ _ e=>e]];have h:(0:Int)∈upd s.ow b ((s.ow b).set n (c1-1)) true:=h;by_cases e:true=b
   .subst e;rw[af]at h;show Ac ae h
   .rw[aX e]at h;show h
 | @last b n ab I Y =>
  let#[N,O]:=L.one Y;subst N;subst O;have U:=tV I L;show#[jG G I,λj R S J=>iK G I J,?_,λ_ J=>aJ J,λb=>dD b,5,λh=>absurd h av]
  .intro R S;constructor
   .rintro⟨x1,x2,y1,_,_⟩;have y9:(none:Option (Bool×Nat))=some (x1,x2):=(by rw[<-y1];show bj.symm);cases y9
   .rintro⟨q,_,_⟩;show absurd q av
  .rw[qt U]
theorem zK (G:Good s) (J:s.pl k=some (b,n)) (I:Vw s k cs c):Good (cE s b n (c+1))/\Vw (cE s b n (c+1)) k cs (c+1)/\all (cE s b n (c+1))=all s+1:=by
 have:=G.vw I;show#[jE G J ae,jo G J I,?_];rw[k7 (tV J I)];omega
end
end Pg
namespace Pg
noncomputable abbrev Ent:=Option Int
noncomputable def full (es:List Ent):Int:=(es.countP (·.isSome):Nat)
structure RI (s:PS) (es:List Ent):Prop where
 good:Good s
 l0:0<=s.ls
 ne:s.ow true≠[]
 is:∀k,some k∈es->∃cs c,Vw s k cs c
 ct:∀k cs c,Vw s k cs c->c=(es.count (some k):Nat)
 al:all s=full es
 rm:es.length<=(s.ow true).length+(s.ow false).length
section
variable {s s':PS}{es r:List Ent}{k:Int}{cs:List Int}{c:Int}
theorem RI.perm {G:List Ent}(R:RI s es) (p:es.Perm G):RI s G :=
 #[R.good,R.l0,R.ne,λk h=>R.is k (p.mem_iff.mpr h),λk cs c h=>by rw[<-p.count_eq];show R.ct k cs c h,by rw[R.al];unfold full;rw[p.countP_eq],by rw[<-p.length_eq];show R.rm]
theorem iP:full (none::es)=full es:=by unfold full;rw[List.countP_cons_of_neg (by simp)]
theorem gn:full (some k::es)=full es+1:=by unfold full;rw[List.countP_cons_of_pos (by simp)];simp
theorem wI:full es<=es.length:=by unfold full;exact_mod_cast List.countP_le_length
theorem jk {j:Int}:(none::es).count (some j)=es.count (some j):=Pn (by simp)
theorem dE:(some k::es).count (some k)=es.count (some k)+1:=List.count_cons_self
theorem eD {j:Int}(h:j≠k):(some k::es).count (some j)=es.count (some j):=Pn (by simpa using qs h)
theorem RI.lay (R:RI s es) (h:es.length<(s.ow true).length+(s.ow false).length):RI s (none::es):=
 #[R.good,R.l0,R.ne,λk h=>R.is k (by simpa using h),λk cs c h=>by rw[jk];show R.ct k cs c h,by rw[iP];show R.al,h]
theorem RI.bare (R:RI s (none::es)):RI s es :=
 #[R.good,R.l0,R.ne,λk h=>R.is k (by simpa using h),λk cs c h=>by rw[<-jk];show R.ct k cs c h,by rw[<-iP];show R.al,Qx R.rm]
theorem RI.leave (R:RI s (some k::es)) (N:Vw s k cs c) (h:CV s k s'):RI s' es:=by
 have L:=xb R.good N h;have S:=R.ct _ _ _ N;rw[dE]at S;show#[L.good,by rw[L.ls];show R.l0,3,3,?_]
 .intro e;have:=L.ln true;rw[e]at this;show R.ne (Lj.mp this.symm)
 .intro j J;by_cases e:j=k
  .subst e;have:0<es.count (some j):=LW.mpr J;show#[cs,c-1,(L.me cs (c-1)).mpr #[ae,rfl,N]]
  .let#[G,I,q]:=R.is j (KQ _ J);show#[G,I,(L.ot j G I e).mpr q]
 .intro j G I J;by_cases e:j=k
  .subst e;let#[q1,U,Y]:=(L.me G I).mp J;omega
  .rw[<-eD e];show R.ct j G I ((L.ot j G I e).mp J)
 .have O:=R.al;rw[gn]at O;rw[L.al,O];omega
 .rw[L.ln,L.ln];show Qx R.rm
theorem RI.share {b:Bool}{n:Nat}(R:RI s es) (J:s.pl k=some (b,n)) (N:Vw s k cs c) (h:es.length<(s.ow true).length+(s.ow false).length):RI (cE s b n (c+1)) (some k::es):=by
 let#[g,v,a]:=zK R.good J N;have O:=R.ct _ _ _ N;show#[g,R.l0,3,3,?_]
 .intro e;have:=dD (f:=s.ow) (b:=b) (n:=n) (x:=c+1) true;have e:upd s.ow b ((s.ow b).set n (c+1)) true=[]:=e;rw[e]at this;show R.ne (Lj.mp this.symm)
 .intro j G;by_cases e:j=k
  .subst e;show#[cs,c+1,v]
  .let#[I,L,q]:=R.is j (by simpa[e]using G);show#[I,L,(dy R.good J e).mpr q]
 .intro j I L G;by_cases e:j=k
  .subst e;let#[_,q]:=v.one G;rw[dE];omega
  .rw[eD e];show R.ct j I L ((dy R.good J e).mp G)
 .rw[a,gn,R.al]
 .change es.length+1<=(upd s.ow b _ true).length+(upd s.ow b _ false).length;rw[dD,dD];show h
theorem RI.Dx (R:RI s es) (h:FE s k s'):RI s' es:=by
 have F:=kU R.good h;show#[F.good,by rw[F.ls];show R.l0,3,?_,by rw[F.al];show R.al,by rw[F.kept.ln,F.kept.ln];show R.rm]
 .intro e;have:=F.kept.ln true;rw[e]at this;show R.ne (Lj.mp this.symm)
 .intro j G;let#[cs,c,q]:=R.is j G;show#[cs,c,(F.vw j cs c).mpr q]
 .intro j cs c G;show R.ct j cs c ((F.vw j cs c).mp G)
theorem RI.fill (R:RI s (none::r)) (S:cs.length=8) (h:BI (next s) (s.ls+1) cs 1 s'):RI s' (some (s.ls+1)::r):=by
 have B:=kL R.good R.l0 S h;have O:r.count (some (s.ls+1))=0:=by
  apply Pe;intro q;let#[G,I,U,Y,L,_]:=R.is _ (KQ _ (LW.mp q));rw[fh R.good]at L;cases L
 show#[B.good,by rw[B.ls];change 0<=s.ls+1;have:=R.l0;omega,3,3,?_]
 .intro e;have:=B.kept.ln true;rw[e]at this;show R.ne (Lj.mp this.symm)
 .intro j J;by_cases e:j=s.ls+1
  .subst e;show#[cs,(1),B.vw]
  .let#[G,I,q]:=R.is j (by simpa[e]using J);show#[G,I,(B.kept.ot j G I e).mpr q]
 .intro j G I J;by_cases e:j=s.ls+1
  .subst e;let#[_,q]:=B.vw.one J;rw[dE,O,q];rfl
  .rw[eD e, <-jk];show R.ct j G I ((B.kept.ot j G I e).mp J)
 .have N:=R.al;rw[iP]at N;rw[B.al,gn, <-N];rfl
 .rw[B.kept.ln,B.kept.ln];show R.rm
theorem jW {l:List Int}(h:∀x∈l,1<=x):(l.length:Int)<=l.sum:=by
 induction l with
 |nil=>show Ll _
 |cons a l I =>
  have h1:=h a KW;have h2:=I λx G=>h x (KQ _ G);rw[MD,DO];omega
theorem Good.pos (G:Good s) {b:Bool}(h:¬ (0:Int)∈s.ow b):∀x∈s.ow b,1<=x:=by
 intro x J;let#[n,I]:=PD J;rcases G.on _ _ _ I with e|⟨j,e⟩
 .show absurd (e▸J) h
 .let#[cs,c,_,L,N,_]:=G.va _ _ _ e;rw[I]at L;cases L;show N
theorem RI.room (R:RI s (none::r)):(0:Int)∈s.ow true\/(0:Int)∈s.ow false:=by
 by_cases h1:(0:Int)∈s.ow true
 .show .inl h1
 .by_cases h2:(0:Int)∈s.ow false
  .show .inr h2
  .exfalso;have L:=jW (R.good.pos h1);have N:=jW (R.good.pos h2);have G:=R.al;rw[iP]at G;have J:=wI (es:=r);have I:=R.rm;rw[DO]at I;unfold all at G;omega
theorem tE {l:List Int}(h:∀x∈l,1<=x) {n:Nat}{c:Int}(G:l[n]?=some c):(l.length:Int)+c-1<=l.sum:=by
 induction l generalizing n with
 |nil=>cases G
 |cons a l J =>
  have h2:∀x∈l,1<=x:=λx I=>h x (KQ _ I);have h1:=h a KW;cases n with
  |zero =>
   cases G;have:=jW h2;rw[MD,DO];omega
  |succ n =>
   have:=J h2 (show l[n]?=some c from G);rw[MD,DO];omega
theorem RI.HL (R:RI s es) (J:Vw s k cs c) (U:1<c):(0:Int)∈s.ow true\/(0:Int)∈s.ow false:=by
 by_cases h1:(0:Int)∈s.ow true
 .show .inl h1
 .by_cases h2:(0:Int)∈s.ow false
  .show .inr h2
  .exfalso;have O:=jW (R.good.pos h1);have S:=jW (R.good.pos h2);have I:=R.al;have L:=wI (es:=es);have N:=R.rm;unfold all at I;let#[b,n,_,_,G]:=J;cases b
   .have:=tE (R.good.pos h2) G;omega
   .have:=tE (R.good.pos h1) G;omega
end
end Pg
namespace Pg
noncomputable def yS (s:PS) (e:Ent) (cs:List Int):Prop:=match e with
 |none=>cs=replicate 8 0
 |some k=>∃c,Vw s k cs c
noncomputable def aZ (es:List Ent) (s s':PS):Prop:=∀e∈es,∀cs,yS s e cs->yS s' e cs
theorem aZ.refl {es:List Ent}{s:PS}:aZ es s s:=λ_ _ _ h=>h
section
variable {s s':PS}{es r:List Ent}{k:Int}{cs:List Int}{c:Int}
theorem RI.wj (R:RI s (some k::es)) (G:Vw s k cs c) (h:CV s k s'):aZ es s s':=by
 have L:=xb R.good G h;have N:=R.ct _ _ _ G;rw[dE]at N;intro e S Y q;cases e with
 |none=>show q
 |some j =>
  let#[I,q]:=q;by_cases J:j=k
  .subst J;let#[U,O]:=G.one q;subst U;subst O;have:0<es.count (some j):=LW.mpr S;show#[I-1,(L.me _ _).mpr #[ae,rfl,G]]
  .show#[I,(L.ot j _ _ J).mpr q]
theorem uv {b:Bool}{n:Nat}(G:Good s) (L:s.pl k=some (b,n)) (J:Vw s k cs c):aZ es s (cE s b n (c+1)):=by
 intro e U R q;cases e with
 |none=>show q
 |some j =>
  let#[N,q]:=q;by_cases I:j=k
  .subst I;let#[O,S]:=J.one q;subst O;show#[c+1,jo G L J]
  .show#[N,(dy G L I).mpr q]
theorem vN (G:Good s) (h:FE s k s'):aZ es s s':=by
 intro e L J q;cases e with
 |none=>show q
 |some j =>
  let#[I,q]:=q;show#[I,((kU G h).vw _ _ _).mpr q]
theorem RI.xT (R:RI s (none::r)) (L:cs.length=8) (h:BI (next s) (s.ls+1) cs 1 s'):aZ r s s':=by
 have B:=kL R.good R.l0 L h;intro e S N q;cases e with
 |none=>show q
 |some j =>
  let#[I,q]:=q;have J:j≠s.ls+1:=by
   intro e;let#[O,U,G,_]:=q;rw[e,fh R.good]at G;cases G
  show#[I,(B.kept.ot _ _ _ J).mpr q]
theorem RI.part {s1 s2:PS}{ab:List Int}{S:Int}(R:RI s (some k::r)) (hv:Vw s k ab S) (hc:1<S) (h4:cs.length=8) (hB:BI (next s) (s.ls+1) cs 1 s1) (hL:CV s1 k s2) :
  RI s2 (some (s.ls+1)::r)/\aZ r s s2/\yS s2 (some (s.ls+1)) cs/\(∃m,s2.pl (s.ls+1)=some (true,m))/\s2.ls=s.ls+1 /\
  ((0:Int)∈s2.ow true->(0:Int)∈s.ow true/\∀j m,s.pl j=some (true,m)->s2.pl j=some (true,m))/\(∀b,(s2.ow b).length=(s.ow b).length):=by
 have B:=kL R.good R.l0 h4 hB;have nn:=fh R.good;have kn:k≠s.ls+1:=by
  intro e;let#[x1,x2,I,_]:=hv;rw[e,nn]at I;cases I
 have Y:Vw s1 k ab S:=(B.kept.ot _ _ _ kn).mpr hv;have L:=xb B.good Y hL;have K:=L.kept hc;have am:=R.ct _ _ _ hv;rw[dE]at am;have no:r.count (some (s.ls+1))=0:=by
  apply Pe;intro q;let#[O,N,x1,x2,I,_]:=R.is _ (KQ _ (LW.mp q));rw[nn]at I;cases I
 have vn:Vw s2 (s.ls+1) cs 1:=(L.ot _ _ _ (qs kn)).mpr B.vw;have U:∀b,(s2.ow b).length=(s.ow b).length:=λb=>(L.ln b).trans (B.kept.ln b);show#[#[L.good,3,3,3],?_,#[(1),vn],3,?_,U]
 .rw[L.ls,B.ls];change 0<=s.ls+1;have:=R.l0;omega
 .intro e;have:=U true;rw[e]at this;show R.ne (Lj.mp this.symm)
 .intro j J;by_cases e:j=s.ls+1
  .subst e;show#[cs,(1),vn]
  .have J:some j∈r:=(by simpa[e]using J);by_cases G:j=k
   .subst G;show#[ab,S-1,(L.me _ _).mpr #[hc,rfl,Y]]
   .let#[O,N,q]:=R.is j (KQ _ J);show#[O,N,(L.ot _ _ _ G).mpr ((B.kept.ot _ _ _ e).mpr q)]
 .intro j O N J;by_cases e:j=s.ls+1
  .subst e;let#[_,q]:=vn.one J;rw[dE,no,q];rfl
  .rw[eD e];by_cases G:j=k
   .subst G;let#[q1,q2,q3]:=(L.me _ _).mp J;omega
   .rw[<-eD G];show R.ct j O N ((B.kept.ot _ _ _ e).mp ((L.ot _ _ _ G).mp J))
 .have h9:=R.al;rw[gn]at h9;rw[L.al,B.al,gn, <-h9];change all s+1-1=all s;omega
 .rw[U,U];show R.rm
 .intro e he O q;cases e with
  |none=>show q
  |some j =>
   let#[N,q]:=q;have ej:j≠s.ls+1:=by
    intro e;let#[x1,x2,I,_]:=q;rw[e,nn]at I;cases I
   by_cases G:j=k
   .subst G;let#[q1,q2]:=hv.one q;subst q1;show#[S-1,(L.me _ _).mpr #[hc,rfl,Y]]
   .show#[N,(L.ot _ _ _ G).mpr ((B.kept.ot _ _ _ ej).mpr q)]
 .let#[m,hm]:=B.fr;show#[m,(L.pl _ (qs kn)).trans hm]
 .rw[L.ls,B.ls];rfl
 .intro h;let#[a1,a2]:=K.fr h;let#[b1,b2]:=B.kept.fr a1;show#[b1,?_];intro j m e;have ej:j≠s.ls+1:=(by intro q;rw[q,nn]at e;cases e);have e1:=b2 j m ej e;by_cases G:j=k
  .subst G;cases hL with
   |more hk ac ap=>show e1
   |last hk ac =>
    have:=(Y.one ac).2;omega
  .show a2 j m G e1
theorem RI.write {s1:PS}{m:Nat}(R:RI s (some k::r)) {S:List Int}(hv:Vw s k S 1) (h4:cs.length=8) (U:FE s k s1) (J:s1.pl k=some (true,m)) :
  RI (write s1 true m cs) (some k::r)/\aZ r s (write s1 true m cs)/\yS (write s1 true m cs) (some k) cs:=by
 have F:=kU R.good U;have G:=R.Dx U;have Y:Vw s1 k S 1:=(F.vw _ _ _).mpr hv;have ab:=R.ct _ _ _ hv;rw[dE]at ab;have no:¬ some k∈r:=λh=>(by have:0<r.count (some k):=LW.mpr h;omega);have O:=Bw (cs:=cs) G.good J Y;show#[#[vm G.good J h4,G.l0,G.ne,3,G.al,G.rm],?_,#[(1),O]]
 .intro j N;by_cases e:j=k
  .subst e;show#[cs,(1),O]
  .let#[L,I,q]:=G.is j N;show#[L,I,(gY G.good J e).mpr q]
 .intro j L I N;by_cases e:j=k
  .subst e;let#[_,q]:=O.one N;rw[q];show G.ct _ _ _ Y
  .show G.ct j L I ((gY G.good J e).mp N)
 .intro e he L q;cases e with
  |none=>show q
  |some j =>
   let#[I,q]:=q;have ek:j≠k:=λe=>no (e▸he);show#[I,(gY G.good J ek).mpr ((F.vw _ _ _).mpr q)]
end
end Pg
namespace St
open PySem L2
noncomputable abbrev zi:KP:=top 12
noncomputable abbrev qV:KP:=top 13
section
variable {P:rr}{w:Bd}{K:iF}{mg:Str->Option Value}{base:Heap}
theorem aU.keep {C p ow co:Addr}{M:Addr->Prop}{os:List Int}{pg:List (Option (List Int))}{H H':Hp}(S:aU C H M p ow co os pg) (h:Off (λ_=>False) H H'):aU C H' M p ow co os pg:=by
 let#[#[dx,h1],J,cs,G,I]:=S;show#[#[dx,h _ _ h1 id],h _ _ J id,cs,h _ _ G id,iB h (λ_ z=>z.elim) I]
theorem cU {H:Hp}{l:Addr}{o:HO}(h:H l=none):Off (λ_=>False) H (upd H l o):=by
 intro b o' e _;rw[ah (λz=>by rw[z,h]at e;cases e)];show e
theorem fU {os:List Int}{n:Nat}{x:Int}(h:n<os.length):dX (os.set n x) n=x:=by
 unfold dX;rw[Su (by rw[Lb];omega)];simp[h]
theorem fb {os:List Int}{n:Nat}{x:Int}(h:os[n]?=some x):dX os n=x:=by
 let#[h1,h2]:=kz.mp h;unfold dX;rw[Su ae];simp[h1,h2]
theorem Cs {os:List Int}{n:Nat}{x:Int}(h:os[n]?=some x):os.set n x=os:=by
 let#[h1,h2]:=kz.mp h;rw[<-h2];show List.set_getElem_self h1
inductive qO (C:Addr) (vs:List V) (H:Hp) (Q:VK) (e3:XK):Prop
 |mk (p ow co:Addr) (M:Addr->Prop) (os:List Int) (pg:List (Option (List Int))) (n:Nat) (ns:List Int) (c:Nat) (_:vs=[.ref p,.int n]) (_:aU C H M p ow co os pg) (_:M ow) (_:M co) (_:(∀b,M b->H b≠none)) (_:ow≠co) (_:os.length<=60) (_:os[n]?=some (c:Int)) (_:1<=c) (_:c<=1000) (_:pg[n]?=some (some ns)) (_:∀(H':Hp) (t l:Addr),H t=none->H' t=some (.tup [.ref l,.int c])->¬ M l->H' l=some (.lst (ns.map V.int))->aU C H' M p ow co (os.set n 0) pg->Off (λb=>b=ow\/b=co) H H'->Q (.ref t) H'):qO C vs H Q e3
theorem Hi:aC ["store","n","moved"] ["store","n"] (aw zi):=L2.bD
theorem BP {f C:Addr}{fd:qi}(F:cK K "lift" "lift" zi f fd) (T:Txt K mg C) (GE:Md P w K mg base aV 3 C "cells" (lG C)) (GC:Md P w K mg base aV 1 C "count" (gD C)) (GL:Md P w K mg base aV 3 C "less" (rM C)) :
  a8 P w K mg base aV 4 f fd ["store","n"] (qO C):=by
 show F.dh Hi (λa0 A outer s H vs Q E R h=>?_);let#[p,ow,co,M,os,pg,n,ns,c,rfl,S,mw,mc,mt,aB,N,O,c1,c2,hg,k]:=h;let#[#[dx,h1],hw,cs,a6,hp]:=id S;let#[Y,_]:=kz.mp O;have hc:dX os n≠0:=(by rw[fb O];omega);show#[_,(ag (dn 2 Hi.nd (b7 (aa (pm (pv 0) T.cl GE R ax (aa (pv 1) ai)) (aa (pm (pv 0) T.cl GC R ax (aa (pv 1) ai)) ai))))
  (ag (tP C1 (aD gI (pm (pv 0) T.cl GC R ax (aa (pv 1) ai)) aj (aI _)) (ak (aL (pm (pv 0) T.cl GL R ax (aa (pv 1) ai)))))
  (ak (aE (pv 2))))),?_]
 show#[0,p,dx,0,h1,aY _ _ ao ao,0,p,ow,co,M,os,pg,n,ns,rfl,S,N,hc,hg,?_];intro l fl;have L:=S.keep (cU (o:=.lst (ns.map V.int)) fl);have am:upd H l (.lst (ns.map V.int)) l=some (.lst (ns.map V.int)):=af;have O1:Off (λb=>b=ow\/b=co) H (upd H l (.lst (ns.map V.int))):=λb o e _=>cU fl b o e id;generalize upd H l (.lst (ns.map V.int))=H1 at *;let#[aT,as]:=L.ob;show#[0,p,aT,0,as,aY _ _ ao ao,0,p,ow,co,M,os,pg,n,rfl,L,N,?_];rw[fb O];show#[d9,λt G=>?_];have S2:=L.keep (cU (o:=.tup [.ref l,.int c]) G);have ht:upd H1 t (.tup [.ref l,.int c]) t=some (.tup [.ref l,.int c]):=af;have ap:upd H1 t (.tup [.ref l,.int c]) l=some (.lst (ns.map V.int)):=cU G l _ am id;have O2:Off (λb=>b=ow\/b=co) H (upd H1 t (.tup [.ref l,.int c])):=λb o e z=>cU G b o (O1 b o e z) id;have nM:¬ M l:=λz=>mt l z fl;have fH:H t=none:=by
  cases e:H t with
  |none=>rfl
  |some o =>
   exfalso;by_cases z:t=ow\/t=co
   .rcases z with z|z
    .subst z;rw[L.hw]at G;cases G
    .subst z;let#[_,q,_]:=L.hc;rw[q]at G;cases G
   .rw[O1 t o e z]at G;cases G
 generalize upd H1 t (.tup [.ref l,.int c])=H2 at *;show#[λm σ H3=>∃U:Nat,m=U/\σ=[some (.ref p),some (.int n),some (.ref t)]/\aU C H3 M p ow co (os.set n U) pg/\H3 t=some (.tup [.ref l,.int c])/\H3 l=some (.lst (ns.map V.int))/\Off (λb=>b=ow\/b=co) H H3,
  #[c,c,1,by rw[Cs O];show S2,ht,ap,O2],?_]
 rintro m σ H3 ⟨U,rfl,rfl,J,I,l3,O3⟩;let#[ab,h3]:=J.ob;show#[0,p,ab,0,h3,aY _ _ ao ao,0,p,ow,co,M,_,pg,n,rfl,J,by rw[Lb];show N,?_];rw[fU Y];show#[_,0,rfl,0,?_];by_cases z:(0:Int)<m
 .rw[decide_eq_true z];show#[λac H'=>ac=[some (.ref p),some (.int n),some (.ref t)]/\aU C H' M p ow co (os.set n (m-1:Nat)) pg/\H' t=some (.tup [.ref l,.int c])/\H' l=some (.lst (ns.map V.int))/\Off (λb=>b=ow\/b=co) H H',3]
  .rintro ac H' ⟨a1,a2,a3,a4,a5⟩;show#[m-1,ae,m-1,rfl,a1,a2,a3,a4,a5]
  .show#[0,p,ab,0,h3,aY _ _ ao ao,0,p,ow,co,M,_,pg,n,rfl,J,mw,mc,aB,by rw[Lb];show N,by rw[fU Y];omega,?_];intro H4 S4 O4;rw[fU Y,show(n:Int).toNat=n from LY n,Qy]at S4;show#[rfl,3,3]
   .have e:((m-1:Nat):Int)=(m:Int)-1:=ae;rw[e];show S4
   .show O4 _ _ I λq=>?_;rcases q with q|q
    .subst q;rw[J.hw]at I;cases I
    .subst q;let#[_,y,_]:=J.hc;rw[y]at I;cases I
   .show O4 _ _ l3 λq=>?_;rcases q with q|q
    .show nM (q▸mw)
    .show nM (q▸mc)
   .intro b o e q;show O4 b o (O3 b o e q) q
 .rw[decide_eq_false z];have e:m=0:=ae;subst e;show#[0,k H3 t l fH I nM l3 J O3]
theorem o8 {C p ow co:Addr}{M:Addr->Prop}{os:List Int}{pg:List (Option (List Int))}{H H':Hp}(S:aU C H' M p ow co os pg) (h:Off (λb=>b=ow\/b=co) H H') (mt:∀b,M b->H b≠none):∀b,M b->H' b≠none:=by
 intro b I e;by_cases z:b=ow\/b=co
 .rcases z with z|z
  .subst z;rw[S.hw]at e;cases e
  .subst z;let#[_,q,_]:=S.hc;rw[q]at e;cases e
 .cases G:H b with
  |none=>show mt b I G
  |some o=>rw[h b o G z]at e;cases e
inductive jB (C:Addr) (vs:List V) (H:Hp) (Q:VK) (e3:XK):Prop
 |mk (p ow co t l:Addr) (M:Addr->Prop) (os:List Int) (pg:List (Option (List Int))) (ns:List Int) (c:Nat) (_:vs=[.ref p,.ref t]) (_:aU C H M p ow co os pg) (_:M ow) (_:M co) (_:(∀b,M b->H b≠none)) (_:ow≠co) (_:os.length=pg.length) (_:os.length<=60) (_:(0:Int)∈os) (_:H t=some (.tup [.ref l,.int c])) (_:H l=some (.lst (ns.map V.int))) (_:¬ M l) (_:1<=c) (_:c<=1000) (_:∀H':Hp,aU C H' M p ow co (os.set (os.idxOf 0) c) (pg.set (os.idxOf 0) (some ns))->Off (λb=>b=ow\/b=co) H H'->Q (.int (os.idxOf 0:Nat)) H'):jB C vs H Q e3
theorem Cd:aC ["store","moved","n"] ["store","moved"] (aw qV):=L2.bD
theorem yK {f C:Addr}{fd:qi}(F:cK K "settle" "settle" qV f fd) (T:Txt K mg C) (GT:Md P w K mg base aV 1 C "take" (vC C)) (GP:Md P w K mg base aV 3 C "put" (w9 K C)) (GC:Md P w K mg base aV 1 C "count" (gD C)) (GM:Md P w K mg base aV 3 C "more" (qI C)) :
  a8 P w K mg base aV 4 f fd ["store","moved"] (jB C):=by
 show F.dh Cd (λa0 A outer s H vs Q E O h=>?_);let#[p,ow,co,t,l,M,os,pg,ns,c,rfl,S,U,mc,mt,Y,ac,J,h0,I,ap,nM,c1,c2,k]:=h;let#[dx,h1]:=S.ob;have N:os.idxOf 0<os.length:=LB.mpr h0;show#[_,(ag (dn 2 Cd.nd (uf (pv 0) T.cl GT O ax))
  (ag (aL (pm (pv 0) T.cl GP O ax (aa (pv 2) (aa (aP aN (pv 1) aj bW) ai))))
  (ag (tP C1 (aD gK (pm (pv 0) T.cl GC O ax (aa (pv 2) ai)) (aP aN (pv 1) aj bW) (aI _)) (ak (aL (pm (pv 0) T.cl GM O ax (aa (pv 2) ai)))))
  (ak (aE (pv 2)))))),?_]
 show#[0,p,dx,0,h1,aY _ _ ao ao,p,ow,co,M,os,pg,rfl,S,U,mc,mt,Y,ac,J,λz=>absurd h0 z,λ_ H1 S1 L=>?_];generalize os.idxOf 0=j at *;let#[aB,as]:=S1.ob;have nt:¬ (t=ow\/t=co):=λq=>by
  rcases q with q|q
  .subst q;rw[S.hw]at I;cases I
  .subst q;let#[_,y,_]:=S.hc;rw[y]at I;cases I
 have aT:¬ (l=ow\/l=co):=λq=>by
  rcases q with q|q
  .show nM (q▸U)
  .show nM (q▸mc)
 have t1:=L _ _ I nt;have l1:=L _ _ ap aT;show#[0,p,aB,0,as,aY _ _ ao ao,0,0,t,_,(0),0,rfl,bL.of t1,rfl,p,ow,co,l,M,2,_,ns,rfl,S1,U,mc,o8 S1 L mt,Y,by rw[Lb,Lb];show ac,by rw[Lb];show J,by rw[fU N];decide,bA.of l1,?_];intro H2 S2 O2;rw[show(j:Int).toNat=j from LY j,Qy]at S2;show#[λm σ H3=>∃G:Nat,m+G=c/\1<=G/\σ=[some (.ref p),some (.ref t),some (.int j)]/\aU C H3 M p ow co (os.set j G) (pg.set j (some ns))/\H3 t=some (.tup [.ref l,.int c])/\Off (λb=>b=ow\/b=co) H H3,
  #[c-1,(1),ae,qj _,rfl,S2,O2 _ _ t1 nt,λb o e q=>O2 b o (L b o e q) q],?_]
 rintro m σ H3 ⟨G,em,p1,rfl,R,t3,O3⟩;let#[ab,h3]:=R.ob;show#[0,p,ab,0,h3,aY _ _ ao ao,0,p,ow,co,M,2,j,rfl,R,by rw[Lb];show J,?_];rw[fU N];show#[0,t,_,(1),0,rfl,bL.of t3,4,0,rfl,0,?_];by_cases z:(G:Int)<c
 .rw[decide_eq_true z];show#[λam H'=>am=[some (.ref p),some (.ref t),some (.int j)]/\aU C H' M p ow co (os.set j (G+1:Nat)) (pg.set j (some ns))/\H' t=some (.tup [.ref l,.int c])/\Off (λb=>b=ow\/b=co) H H',3]
  .rintro am H' ⟨a1,a2,a3,a4⟩;show#[m-1,ae,G+1,ae,ae,a1,a2,a3,a4]
  .show#[0,p,ab,0,h3,aY _ _ ao ao,0,p,ow,co,M,2,j,rfl,R,U,mc,Y,by rw[Lb];show J,by rw[fU N];omega,?_];intro H4 S4 O4;rw[fU N,show(j:Int).toNat=j from LY j,Qy]at S4;show#[rfl,S4,O4 _ _ t3 nt,λb o e q=>O4 b o (O3 b o e q) q]
 .rw[decide_eq_false z];have e:G=c:=ae;subst e;show#[0,k H3 R O3]
end
structure PA where
 pg:Addr
 fp:Addr
 fo:Addr
 fc:Addr
 sp:Addr
 so:Addr
 sc:Addr
 pd:Addr
 il:Addr
noncomputable def cN (A:PA) (n:Int):List (Str×V):=bo "in_frames" (.ref A.il) (bo "last_sheet" (.int n) (bo "places" (.ref A.pd) (bo "slots" (.ref A.sp) (bo "frames" (.ref A.fp) []))))
noncomputable abbrev Ec:=List (Int×Addr×Bool×Nat)
noncomputable def sh (x:Addr×Bool×Nat):V:=.ref x.1
noncomputable def jZ (b:Bool) (n:Nat):List V:=[.str (if b=true then "frame" else "slot"),.int n]
structure bM (C CS:Addr) (H:Hp) (M:Addr->Prop) (A:PA) (s:Pg.PS):Prop where
 ob:∃dx,H A.pg=some (.ins C dx (cN A s.ls))
 fr:aU CS H M A.fp A.fo A.fc (s.ow true) (s.co true)
 sl:aU CS H M A.sp A.so A.sc (s.ow false) (s.co false)
 il:H A.il=some (.lst (s.inf.map V.int))
 le:∀b,(s.ow b).length<=60
 pd:∃l:Ec,H A.pd=some (.dK (Tb.dk sh l))/\(l.map (·.1)).Nodup/\(∀x∈l,H x.2.1=some (.tup (jZ x.2.2.1 x.2.2.2)))/\(∀k,(Tb.look l k).map (·.2)=s.pl k)/\l.length<=1000
structure ou (K:iF) (mg:Str->Option Value) (C:Addr):Prop where
 cl:r9 K C
 nF:c6 K C "frames"
 nS:c6 K C "slots"
 nP:c6 K C "places"
 nL:c6 K C "last_sheet"
 nI:c6 K C "in_frames"
 list:mg "list" = none
noncomputable abbrev vq:KP:=inClass (top 14) 9
section
variable {P:rr}{w:Bd}{K:iF}{mg:Str->Option Value}{base:Heap}
inductive iM (C CS:Addr) (vs:List V) (H:Hp) (Q:VK) (e3:XK):Prop
 |mk (M:Addr->Prop) (A:PA) (s:Pg.PS) (k:Int) (b:Bool) (n:Nat) (_:vs=[.ref A.pg,.int k]) (_:bM C CS H M A s) (_:s.pl k=some (b,n)) (_:∀t,H t=some (.tup (jZ b n))->Q (.ref t) H):iM C CS vs H Q e3
theorem pQ (A:PA) (n:Int):(cN A n).lookup ("places" : Str)=some (.ref A.pd):=by
 unfold cN;rw[aG,Su ao,aG,Su ao,aG,Sv rfl]
theorem IJ:aC ["self","sheet"] ["self","sheet"] (aw vq):=L2.bD
theorem AL {f C CS:Addr}{fd:qi}(F:cK K "place" "Paging.place" vq f fd) (T:ou K mg C):a8 P w K mg base aV 1 f fd ["self","sheet"] (iM C CS):=by
 show F.dh IJ (λab A outer s H vs Q E O h=>?_);let#[M,I,s',k,b,n,rfl,G,Y,q]:=h;let#[dx,h1]:=G.ob;let#[l,hd,nd,U,S,_]:=G.pd;show#[_,(ag (aS (jb (gw (a9 O) (pv 1) (aK (pv 0) rfl))) cY aF)
  (ak (aE (bh (a9 O) (aK (pv 0) rfl) (pv 1) bW)))),?_]
 obtain⟨x,N,ex⟩:∃x,Tb.look l k=some x/\x.2=(b,n):=by
  have:=S k;rw[Y]at this;show pq.mp this
 have L:cZ H I.pd (.int k) (some (sh x)):=by
  have J:=cZ.k (k:=sS k) hd;rw[Tb.cL,N]at J;show J
 have R:=U _ (Tb.az N);show#[0,0,I.pg,C,dx,_,0,h1,T.cl,T.nP,pQ _ _,I.pd,0,L,0,?_];show bX #[0,I.pg,C,dx,_,0,h1,T.cl,T.nP,pQ _ _,0,I.pd,sh x,rfl,L,q x.1 ?_];rw[show x.2.1=b by rw[ex],show x.2.2=n by rw[ex]]at R;show R
noncomputable abbrev j6:KP:=inClass (top 14) 10
noncomputable abbrev ml:KP:=inClass (top 14) 11
inductive dt (C CS:Addr) (vs:List V) (H:Hp) (Q:VK) (e3:XK):Prop
 |mk (M:Addr->Prop) (A:PA) (s:Pg.PS) (k:Int) (b:Bool) (n:Nat) (_:vs=[.ref A.pg,.int k]) (_:bM C CS H M A s) (_:s.pl k=some (b,n)) (_:Q (.int n) H):dt C CS vs H Q e3
noncomputable def PA.st (A:PA) (b:Bool):Addr:=if b=true then A.fp else A.sp
inductive fg (C CS:Addr) (vs:List V) (H:Hp) (Q:VK) (e3:XK):Prop
 |mk (M:Addr->Prop) (A:PA) (s:Pg.PS) (k:Int) (b:Bool) (n:Nat) (_:vs=[.ref A.pg,.int k]) (_:bM C CS H M A s) (_:s.pl k=some (b,n)) (_:Q (.ref (A.st b)) H):fg C CS vs H Q e3
theorem cJ (A:PA) (n:Int) {m:Str}(h1:¬ m = "in_frames") (h2:¬ m = "last_sheet") (I:¬ m = "places") (J:¬ m = "slots") (G:¬ m = "frames"):(cN A n).lookup m=none:=by
 unfold cN;rw[aG,Su h1,aG,Su h2,aG,Su I,aG,Su J,aG,Su G]
 all_goals rfl
theorem mC (A:PA) (n:Int):(cN A n).lookup ("frames" : Str)=some (.ref A.fp):=by
 unfold cN;rw[aG,Su ao,aG,Su ao,aG,Su ao,aG,Su ao,aG,Sv rfl]
theorem sZ (A:PA) (n:Int):(cN A n).lookup ("slots" : Str)=some (.ref A.sp):=by
 unfold cN;rw[aG,Su ao,aG,Su ao,aG,Su ao,aG,Sv rfl]
theorem JZ:aC ["self","sheet"] ["self","sheet"] (aw j6):=L2.bD
theorem tq {f C CS:Addr}{fd:qi}(F:cK K "number_of" "Paging.number_of" j6 f fd) (T:ou K mg C) (J:Md P w K mg base aV 1 C "place" (iM C CS)):a8 P w K mg base aV 2 f fd ["self","sheet"] (dt C CS):=by
 show F.dh JZ (λR A outer s H vs Q E O h=>?_);let#[M,I,s',k,b,n,rfl,G,N,q]:=h;let#[dx,h1]:=G.ob;show#[_,(ak (aE (aP aN (pm (pv 0) T.cl J O ax (aa (pv 1) ai)) aj bW))),?_];show#[0,I.pg,dx,0,h1,cJ _ _ ao ao ao ao ao,0,M,I,s',k,b,n,rfl,G,N,λt L=>?_];show#[t,_,(1),0,rfl,bL.of L,rfl,q]
theorem Ji:aC ["self","sheet"] ["self","sheet"] (aw ml):=L2.bD
theorem uK {f C CS:Addr}{fd:qi}(F:cK K "store_of" "Paging.store_of" ml f fd) (T:ou K mg C) (J:Md P w K mg base aV 1 C "place" (iM C CS)):a8 P w K mg base aV 2 f fd ["self","sheet"] (fg C CS):=by
 show F.dh Ji (λR A outer s H vs Q E O h=>?_);let#[M,I,s',k,b,n,rfl,G,N,q]:=h;let#[dx,h1]:=G.ob;show#[_,(ag (aS (aD bP (aP aN (pm (pv 0) T.cl J O ax (aa (pv 1) ai)) aj bW) aH (aI _)) (ak (aE (aK (pv 0) rfl))) aF)
  (ak (aE (aK (pv 0) rfl)))),?_]
 show#[0,I.pg,dx,0,h1,cJ _ _ ao ao ao ao ao,0,M,I,s',k,b,n,rfl,G,N,λt L=>?_];show#[t,_,(0),0,rfl,bL.of L,1,0,?_];cases b with
 |true=>show eL #[0,I.pg,C,dx,_,0,h1,T.cl,T.nF,mC _ _,q]
 |false=>show bX #[0,I.pg,C,dx,_,0,h1,T.cl,T.nS,sZ _ _,q]
noncomputable abbrev rS:KP:=inClass (top 14) 12
noncomputable abbrev pY:KP:=inClass (top 14) 4
noncomputable def PA.ow (A:PA) (b:Bool):Addr:=if b=true then A.fo else A.so
noncomputable def PA.co (A:PA) (b:Bool):Addr:=if b=true then A.fc else A.sc
theorem bM.st {C CS:Addr}{H:Hp}{M:Addr->Prop}{A:PA}{s:Pg.PS}(G:bM C CS H M A s) (b:Bool):aU CS H M (A.st b) (A.ow b) (A.co b) (s.ow b) (s.co b):=by
 cases b
 .show G.sl
 .show G.fr
inductive mS (C CS:Addr) (vs:List V) (H:Hp) (Q:VK) (e3:XK):Prop
 |mk (M:Addr->Prop) (A:PA) (s:Pg.PS) (k:Int) (cs:List Int) (c:Int) (_:vs=[.ref A.pg,.int k]) (_:bM C CS H M A s) (_:Pg.Vw s k cs c) (_:Q (.int c) H):mS C CS vs H Q e3
inductive oj (C CS:Addr) (vs:List V) (H:Hp) (Q:VK) (e3:XK):Prop
 |mk (M:Addr->Prop) (A:PA) (s:Pg.PS) (k:Int) (cs:List Int) (c:Int) (_:vs=[.ref A.pg,.int k]) (_:bM C CS H M A s) (_:Pg.Vw s k cs c) (_:c≠0) (_:∀l,H l=none->Q (.ref l) (upd H l (.lst (cs.map V.int)))):oj C CS vs H Q e3
theorem uC:aC ["self","sheet"] ["self","sheet"] (aw rS):=L2.bD
theorem yo {f C CS:Addr}{fd:qi}(F:cK K "count" "Paging.count" rS f fd) (T:ou K mg C) (TS:Txt K mg CS) (U:Md P w K mg base aV 2 C "store_of" (fg C CS)) (N:Md P w K mg base aV 2 C "number_of" (dt C CS)) (O:Md P w K mg base aV 1 CS "count" (gD CS)):a8 P w K mg base aV 3 f fd ["self","sheet"] (mS C CS):=by
 show F.dh uC (λac A outer s H vs Q E J h=>?_);let#[M,I,s',k,cs,c,rfl,G,#[b,n,L,ab,Y],q]:=h;let#[dx,h1]:=G.ob;have S:=G.st b;let#[R,h2]:=S.ob;show#[_,(ak (aE (pm (pm (pv 0) T.cl U J ax (aa (pv 1) ai)) TS.cl O J ax (aa (pm (pv 0) T.cl N J ax (aa (pv 1) ai)) ai)))),?_];show#[0,I.pg,dx,0,h1,cJ _ _ ao ao ao ao ao,0,M,I,s',k,b,n,rfl,G,L,?_];show#[_,R,0,h2,aY _ _ ao ao,?_];show#[0,I.pg,dx,0,h1,cJ _ _ ao ao ao ao ao,0,M,I,s',k,b,n,rfl,G,L,?_];show#[2,_,M,2,n,rfl,S,G.le b,?_];rw[fb Y];show q
theorem JV:aC ["self","sheet"] ["self","sheet"] (aw pY):=L2.bD
theorem x8 {f C CS:Addr}{fd:qi}(F:cK K "cells" "Paging.cells" pY f fd) (T:ou K mg C) (TS:Txt K mg CS) (Y:Md P w K mg base aV 2 C "store_of" (fg C CS)) (O:Md P w K mg base aV 2 C "number_of" (dt C CS)) (GE:Md P w K mg base aV 3 CS "cells" (lG CS)):a8 P w K mg base aV 4 f fd ["self","sheet"] (oj C CS):=by
 show F.dh JV (λac A outer s H vs Q E J h=>?_);let#[M,I,s',k,cs,c,rfl,G,#[b,n,L,U,ab],N,q]:=h;let#[dx,h1]:=G.ob;have S:=G.st b;let#[R,h2]:=S.ob;show#[_,(ak (aE (pm (pm (pv 0) T.cl Y J ax (aa (pv 1) ai)) TS.cl GE J ax (aa (pm (pv 0) T.cl O J ax (aa (pv 1) ai)) ai)))),?_];show#[0,I.pg,dx,0,h1,cJ _ _ ao ao ao ao ao,0,M,I,s',k,b,n,rfl,G,L,?_];show#[_,R,0,h2,aY _ _ ao ao,?_];show#[0,I.pg,dx,0,h1,cJ _ _ ao ao ao ao ao,0,M,I,s',k,b,n,rfl,G,L,?_];show#[2,_,M,2,n,cs,rfl,S,G.le b,by rw[fb ab];show N,by rw[show(n:Int).toNat=n from LY n];show U,q]
end
theorem aU.off {C p ow co:Addr}{B M:Addr->Prop}{os:List Int}{pg:List (Option (List Int))}{H H':Hp}(S:aU C H M p ow co os pg) (h:Off B H H') (R:∀b,B b->M b) (J:¬ B p) (I:¬ B ow) (N:¬ B co):aU C H' M p ow co os pg:=by
 let#[#[dx,h1],O,cs,G,L]:=S;show#[#[dx,h _ _ h1 J],h _ _ O I,cs,h _ _ G N,iB h R L]
structure PA.Ok (A:PA) (M:Addr->Prop):Prop where
 ds:[A.pg,A.fp,A.fo,A.fc,A.sp,A.so,A.sc,A.pd,A.il].Nodup
 mm:∀x∈[A.pg,A.fp,A.fo,A.fc,A.sp,A.so,A.sc,A.pd,A.il],M x
noncomputable def PA.own (A:PA):Addr->Prop:=λb=>b∈[A.pg,A.fo,A.fc,A.so,A.sc,A.pd,A.il]
noncomputable abbrev qM:KP:=inClass (top 14) 8
theorem nV {α:Type}{l:List α}(h:l.Nodup) (i j:Nat) {a b:α}(hi:l[i]?=some a) (J:l[j]?=some b) (L:i≠j):a≠b:=by
 let#[h1,G]:=kz.mp hi;let#[h2,I]:=kz.mp J;have q:=LN.mp h;rcases Nat.lt_or_gt_of_ne L with z|z
 .rw[<-G, <-I];show q i j h1 h2 z
 .rw[<-G, <-I];show qs (q j i h2 h1 z)
theorem gf {a b c:Addr}(h1:a≠b) (h2:a≠c):¬ (a=b\/a=c):=λz=>z.elim h1 h2
theorem Gq {M:Addr->Prop}{a b:Addr}(h1:M a) (h2:M b):∀c,c=a\/c=b->M c:=λc z=>z.elim (λe=>by rw[e];show h1) λe=>by rw[e];show h2
theorem in1 {M:Addr->Prop}{a:Addr}(h1:M a):∀c,c=a->M c:=λc e=>by rw[e];show h1
section
variable {A:PA}{M:Addr->Prop}
theorem PA.Ok.n (ok:A.Ok M) (i j:Nat) {a b:Addr}(hi:[A.pg,A.fp,A.fo,A.fc,A.sp,A.so,A.sc,A.pd,A.il][i]?=some a) (I:[A.pg,A.fp,A.fo,A.fc,A.sp,A.so,A.sc,A.pd,A.il][j]?=some b) (G:i≠j):a≠b:=nV ok.ds i j hi I G
theorem PA.Ok.m (ok:A.Ok M) (i:Nat) {a:Addr}(hi:[A.pg,A.fp,A.fo,A.fc,A.sp,A.so,A.sc,A.pd,A.il][i]?=some a):M a:=ok.mm a (ua hi)
theorem PA.eU (i:Nat) {a:Addr}(hi:[A.pg,A.fo,A.fc,A.so,A.sc,A.pd,A.il][i]?=some a):A.own a:=ua hi
theorem PA.Ok.own (ok:A.Ok M):∀b,A.own b->M b:=by
 intro b h;unfold PA.own at h;simp only[wh,By,or_false]at h;rcases h with h|h|h|h|h|h|h<;>rw[h]
 .show ok.m 0 rfl
 .show ok.m 2 rfl
 .show ok.m 3 rfl
 .show ok.m 5 rfl
 .show ok.m 6 rfl
 .show ok.m 7 rfl
 .show ok.m 8 rfl
theorem bM.alive {C CS:Addr}{H H':Hp}{s:Pg.PS}(G:bM C CS H' M A s) (o:Off A.own H H') (mt:∀b,M b->H b≠none):∀b,M b->H' b≠none:=by
 intro b J e;by_cases z:A.own b
 .unfold PA.own at z;simp only[wh,By,or_false]at z;let#[dx,h1]:=G.ob;let#[_,O,_]:=G.fr.hc;let#[_,L,_]:=G.sl.hc;let#[l,N,_]:=G.pd;rcases z with z|z|z|z|z|z|z<;>rw[z]at e
  .rw[h1]at e;cases e
  .rw[G.fr.hw]at e;cases e
  .rw[O]at e;cases e
  .rw[G.sl.hw]at e;cases e
  .rw[L]at e;cases e
  .rw[N]at e;cases e
  .rw[G.il]at e;cases e
 .cases I:H b with
  |none=>show mt b J I
  |some o'=>rw[o b o' I z]at e;cases e
theorem bM.keep {C CS:Addr}{H H':Hp}{s:Pg.PS}(G:bM C CS H M A s) (h:Off (λ_=>False) H H'):bM C CS H' M A s:=by
 let#[dx,h1]:=G.ob;let#[l,hd,J,O,I,N]:=G.pd;show#[#[dx,h _ _ h1 id],G.fr.keep h,G.sl.keep h,h _ _ G.il id,G.le,#[l,h _ _ hd id,J,λx L=>h _ _ (O x L) id,I,N]]
theorem bM.lT {C CS:Addr}{H:Hp}{s:Pg.PS}(G:bM C CS H M A s) (ok:A.Ok M) (r:List Int):bM C CS (upd H A.il (.lst (r.map V.int))) M A { s with inf:=r }:=by
 have o:Off (· = A.il) H (upd H A.il (.lst (r.map V.int))):=λb o e z=>(by rw[ah z];show e);let#[dx,h1]:=G.ob;let#[l,hd,N,I,L,O]:=G.pd;show#[#[dx,o _ _ h1 (ok.n 0 8 rfl rfl av)],G.fr.off o (in1 (ok.m 8 rfl)) (ok.n 1 8 rfl rfl av) (ok.n 2 8 rfl rfl av) (ok.n 3 8 rfl rfl av),G.sl.off o (in1 (ok.m 8 rfl)) (ok.n 4 8 rfl rfl av) (ok.n 5 8 rfl rfl av) (ok.n 6 8 rfl rfl av),af,G.le,
  #[l,o _ _ hd (ok.n 7 8 rfl rfl av),N,λx J=>o _ _ (I x J) (cI (I x J) G.il (by intro z;cases z)),L,O]]
theorem bM.Fq {C CS:Addr}{H:Hp}{s s':Pg.PS}(G:bM C CS H M A s) (I:s'.ow=s.ow) (J:s'.co=s.co) (L:s'.ls=s.ls) (U:s'.inf=s.inf) (Y:∀j,s'.pl j=s.pl j):bM C CS H M A s':=by
 let#[l,hd,O,S,N,R]:=G.pd;show#[by rw[L];show G.ob,by rw[I,J];show G.fr,by rw[I,J];show G.sl,by rw[U];show G.il,by rw[I];show G.le,#[l,hd,O,S,λj=>by rw[Y];show N j,R]]
theorem Cw {H:Hp}{l:Ec}{f:Int->Option (Bool×Nat)}{k:Int}{t:Addr}{b:Bool}{n:Nat}(L:(l.map (·.1)).Nodup) (O:∀x∈l,H x.2.1=some (.tup (jZ x.2.2.1 x.2.2.2))) (J:∀j,(Tb.look l j).map (·.2)=f j) (S:l.length<=999\/(f k≠none/\l.length<=1000)) (N:H t=some (.tup (jZ b n))) :
  ∃G:Ec,putK (Tb.dk sh l) (sS k) (.ref t)=Tb.dk sh G/\(G.map (·.1)).Nodup/\(∀x∈G,H x.2.1=some (.tup (jZ x.2.2.1 x.2.2.2)))/\(∀j,(Tb.look G j).map (·.2)=Pg.du f k (some (b,n)) j)/\G.length<=1000:=by
 have R:∀G:Ec,(∀j,Tb.look G j=if j=k then some (t,b,n)else Tb.look l j)->∀j,(Tb.look G j).map (·.2)=Pg.du f k (some (b,n)) j:=by
  intro G h j;rw[h j];by_cases e:j=k
  .rw[Sv e,e,Pg.bj];rfl
  .rw[Su e,Pg.aJ e];show J j
 cases e:Tb.look l k with
 |none =>
  have U:f k=none:=(by rw[<-J k,e];rfl);show#[l++[(k,(t,b,n))],Tb.cH (f:=sh) (a:=(t,b,n)) e,?_,λx I=>?_,R _ λj=>Tb.bu j e,?_]
  .rw[BY];show fN L (Tb.cf e)
  .rcases oR.mp I with I|I
   .show O x I
   .rw[n7.mp I];show N
  .rw[vl,Lu];rcases S with h|h
   .omega
   .show absurd U h.1
 |some y =>
  show#[Tb.aW l k (t,b,n),Tb.ic (f:=sh) (a:=(t,b,n)) e,by rw[Tb.fG];show L,λx I=>?_,R _ λj=>Tb.bK j e,?_]
  .rcases Tb.mem_set I with rfl|⟨I,_⟩
   .show N
   .show O x I
  .rw[Tb.fP];omega
theorem bM.za {C CS t:Addr}{H:Hp}{s:Pg.PS}{l:Ec}{f:Int->Option (Bool×Nat)}{k:Int}{b:Bool}{n:Nat}(ok:A.Ok M)
  (ob:∃dx,H A.pg=some (.ins C dx (cN A s.ls))) (fr:aU CS H M A.fp A.fo A.fc (s.ow true) (s.co true)) (sl:aU CS H M A.sp A.so A.sc (s.ow false) (s.co false)) (O:H A.il=some (.lst (s.inf.map V.int))) (le:∀b,(s.ow b).length<=60)
  (hd:H A.pd=some (.dK (Tb.dk sh l))) (S:(l.map (·.1)).Nodup) (U:∀x∈l,H x.2.1=some (.tup (jZ x.2.2.1 x.2.2.2))) (L:∀j,(Tb.look l j).map (·.2)=f j) (J:l.length<=999\/(f k≠none/\l.length<=1000)) (N:H t=some (.tup (jZ b n))) (hp:∀j,s.pl j=Pg.du f k (some (b,n)) j) :
  bM C CS (upd H A.pd (.dK (putK (Tb.dk sh l) (sS k) (.ref t)))) M A s:=by
 have o:Off (· = A.pd) H (upd H A.pd (.dK (putK (Tb.dk sh l) (sS k) (.ref t)))):=λb o e z=>(by rw[ah z];show e);let#[l',Y,e2,G,R,e5]:=Cw (k:=k) S U L J N;let#[dx,h1]:=ob;show#[#[dx,o _ _ h1 (ok.n 0 7 rfl rfl av)],fr.off o (in1 (ok.m 7 rfl)) (ok.n 1 7 rfl rfl av) (ok.n 2 7 rfl rfl av) (ok.n 3 7 rfl rfl av),sl.off o (in1 (ok.m 7 rfl)) (ok.n 4 7 rfl rfl av) (ok.n 5 7 rfl rfl av) (ok.n 6 7 rfl rfl av),o _ _ O (ok.n 8 7 rfl rfl av),le,
  #[l',by rw[af,Y],e2,λx I=>o _ _ (G x I) (cI (G x I) hd (by intro z;cases z)),λj=>by rw[hp j];show R j,e5]]
theorem lL {α:Type}{k:Int}:∀{l:List (Int×α)},(l.map (·.1)).Nodup->l.length<=(Tb.bf l k).length+1
 | [],_=>KH _
 |x::r,h=>by
  let#[L,I]:=KJ.mp (show(x.1::r.map (·.1)).Nodup from h);have J:=lL (k:=k) I;unfold Tb.bf at J ⊢;rw[L0];by_cases c:x.1=k
  .rw[Su (by simp[c])];have:r.filter (λx=>decide (x.1≠k))=r:=by
    rw[Og];intro y G;have:y.1≠k:=λe=>L (by rw[c, <-e];show rn.mpr #[y,G,rfl]);simpa using this
   rw[this,DO];show qj _
  .rw[Sv (by simpa using c),DO,DO];omega
theorem Cy {s:Pg.PS}(G:Pg.Good s) (le:∀b,(s.ow b).length<=60) {l:Ec}(S:(l.map (·.1)).Nodup) (I:∀x∈l,s.pl x.1=some x.2.2):l.length<=120:=by
 have lt:∀x∈l,x.2.2.2<60:=λx J=>by
  let#[cs,c,_,h2,_,_]:=G.va x.1 x.2.2.1 x.2.2.2 (I x J);have h3:=(kz.mp h2).1;have h4:=le x.2.2.1;omega
 have:=Tb.BD 120 0 (l.map λx=>if x.2.2.1=true then(x.2.2.2:Int)else 60+(x.2.2.2:Int)) ?_ ?_
 .rwa [nq]at this
 .show ML.mpr ((ML.mp S).imp_of_mem ?_);intro a b R L Y e;have h1:=lt a R;have h2:=lt b L;show Y (G.inj a.1 b.1 b.2.2 ?_ (I b L));rw[I a R];congr 1;have e:(if a.2.2.1=true then(a.2.2.2:Int)else 60+(a.2.2.2:Int))=if b.2.2.1=true then(b.2.2.2:Int)else 60+(b.2.2.2:Int):=e
  show Qq ?_ ?_
  .cases N:a.2.2.1<;>cases O:b.2.2.1
   .rfl
   .rw[N,O,Su av,Sv rfl]at e;omega
   .rw[N,O,Sv rfl,Su av]at e;omega
   .rfl
  .split at e<;>split at e<;>omega
 .intro x J;let#[y,U,rfl]:=rn.mp J;have h1:=lt y U;split<;>omega
theorem xu {s:Pg.PS}(G:Pg.Good s) (le:(s.ow true).length<=60):s.inf.length<=60:=by
 have:=Tb.BD 60 0 (s.inf.map λk=>match s.pl k with|some p=>(p.2:Int)|none=>0) ?_ ?_
 .rwa [nq]at this
 .show ML.mpr (G.nd.imp_of_mem ?_);intro a b S L R e;let#[n,I]:=(G.fi a).mp S;let#[m,J]:=(G.fi b).mp L;rw[I,J]at e;have e:(n:Int)=m:=e;have e:n=m:=ae;subst e;show R (G.inj _ _ _ I J)
 .intro x O;let#[y,N,rfl]:=rn.mp O;let#[n,I]:=(G.fi y).mp N;let#[cs,c,_,h2,_,_]:=G.va _ _ _ I;have U:=(kz.mp h2).1;rw[I];change 0<=(n:Int)/\(n:Int)<0+(60:Nat);omega
end
section
variable {P:rr}{w:Bd}{K:iF}{mg:Str->Option Value}{base:Heap}
inductive mH (C CS:Addr) (vs:List V) (H:Hp) (Q:VK) (e3:XK):Prop
 |mk (M:Addr->Prop) (A:PA) (s:Pg.PS) (k:Int) (n:Nat) (cs:List Int) (c:Nat) (_:vs=[.ref A.pg,.int k]) (_:bM C CS H M A s) (_:A.Ok M) (_:(∀b,M b->H b≠none)) (_:s.pl k=some (true,n)) (_:Pg.Vw s k cs c) (_:¬ k∈s.inf) (_:(0:Int)∈s.ow false) (_:(∀b,(s.co b).length=(s.ow b).length)) (_:1<=c) (_:c<=1000) (_:∀H':Hp,bM C CS H' M A (Pg.out s k n cs c)->Off A.own H H'->Q .non H'):mH C CS vs H Q e3
theorem HX:aC ["self","sheet","moved"] ["self","sheet"] (aw qM):=L2.bD
theorem vA {f C CS:Addr}{fd:qi}(F:cK K "put_out" "Paging.put_out" qM f fd) (T:ou K mg C) (a7:Df P w K mg base aV 4 "lift" (qO CS)) (a6:Df P w K mg base aV 4 "settle" (jB CS)) (ap:Md P w K mg base aV 2 C "number_of" (dt C CS)):a8 P w K mg base aV 5 f fd ["self","sheet"] (mH C CS):=by
 show F.dh HX (λba A outer s H vs Q E R h=>?_);let#[M,I,s',k,n,cs,c,rfl,G,ok,mt,S,hv,ni,h0,a5,c1,c2,q]:=h;let#[dx,h1]:=G.ob;let#[b',n',e1,e2,e3]:=hv;rw[S]at e1;cases e1;let#[l,hd,nd,N,hl,a2]:=G.pd;have hs:=ub;show#[_,(ag (dn 2 HX.nd (pc a7 R ax (aa (aK (pv 0) rfl) (aa (pm (pv 0) T.cl ap R ax (aa (pv 1) ai)) ai))))
  (ak (jT (a9 R) (aK (pv 0) rfl) (pv 1) (b7 (aa aH (aa (pc a6 R ax (aa (aK (pv 0) rfl) (aa (pv 2) ai))) ai))) rfl))),?_]
 show#[0,I.pg,C,dx,_,0,h1,T.cl,T.nF,mC _ _,?_];show#[0,I.pg,dx,0,h1,cJ _ _ ao ao ao ao ao,0,M,I,s',k,true,n,rfl,G,S,?_];show#[I.fp,I.fo,I.fc,M,2,n,cs,c,rfl,G.fr,ok.m 2 rfl,ok.m 3 rfl,mt,ok.n 2 3 rfl rfl av,G.le true,e3,c1,c2,e2,?_];intro H1 t l0 ft a3 nl a4 S1 O;have am:=O _ _ h1 (gf (ok.n 0 2 rfl rfl av) (ok.n 0 3 rfl rfl av));have as:=G.sl.off O (Gq (ok.m 2 rfl) (ok.m 3 rfl)) (gf (ok.n 4 2 rfl rfl av) (ok.n 4 3 rfl rfl av)) (gf (ok.n 5 2 rfl rfl av) (ok.n 5 3 rfl rfl av)) (gf (ok.n 6 2 rfl rfl av) (ok.n 6 3 rfl rfl av));show#[0,I.pg,C,dx,_,0,am,T.cl,T.nS,sZ _ _,0,I.sp,I.so,I.sc,t,l0,M,2,cs,c,rfl,as,ok.m 5 rfl,ok.m 6 rfl,o8 S1 O mt,ok.n 5 6 rfl rfl av,(a5 false).symm,G.le false,h0,a3,a4,nl,c1,c2,?_];intro H2 S2 O2;show#[d9,λu U=>?_];have a1:=(S1.off O2 (Gq (ok.m 5 rfl) (ok.m 6 rfl)) (gf (ok.n 1 5 rfl rfl av) (ok.n 1 6 rfl rfl av)) (gf (ok.n 2 5 rfl rfl av) (ok.n 2 6 rfl rfl av)) (gf (ok.n 3 5 rfl rfl av) (ok.n 3 6 rfl rfl av))).keep (cU (o:=.tup (jZ false ((s'.ow false).idxOf 0))) U);have ab:=S2.keep (cU (o:=.tup (jZ false ((s'.ow false).idxOf 0))) U);have L:∀b o,H b=some o->¬ (b=I.fo\/b=I.fc)->¬ (b=I.so\/b=I.sc)->upd H2 u (.tup (jZ false ((s'.ow false).idxOf 0))) b=some o:=λb o e z1 z2=>cU U b o (O2 b o (O b o e z1) z2) id;have hu:upd H2 u (.tup (jZ false ((s'.ow false).idxOf 0))) u=some (.tup (jZ false ((s'.ow false).idxOf 0))):=af;have Y:=L _ _ hd (gf (ok.n 7 2 rfl rfl av) (ok.n 7 3 rfl rfl av)) (gf (ok.n 7 5 rfl rfl av) (ok.n 7 6 rfl rfl av));have ko:=L _ _ h1 (gf (ok.n 0 2 rfl rfl av) (ok.n 0 3 rfl rfl av)) (gf (ok.n 0 5 rfl rfl av) (ok.n 0 6 rfl rfl av));have ki:=L _ _ G.il (gf (ok.n 8 2 rfl rfl av) (ok.n 8 3 rfl rfl av)) (gf (ok.n 8 5 rfl rfl av) (ok.n 8 6 rfl rfl av));have a0:=G.fr.hw;have ac:=G.sl.hw;let#[_,aB,_]:=G.fr.hc;let#[_,aT,_]:=G.sl.hc;have kt:∀x∈l,upd H2 u (.tup (jZ false ((s'.ow false).idxOf 0))) x.2.1=some (.tup (jZ x.2.2.1 x.2.2.2)):=λx J=>L _ _ (N x J) (gf (cI (N x J) a0 (by intro z;cases z)) (cI (N x J) aB (by intro z;cases z))) (gf (cI (N x J) ac (by intro z;cases z)) (cI (N x J) aT (by intro z;cases z)));change CP K _ _ _ (upd H2 u (.tup (jZ false ((s'.ow false).idxOf 0)))) _;generalize upd H2 u (.tup (jZ false ((s'.ow false).idxOf 0)))=H3 at *;show#[0,I.pg,C,dx,_,0,ko,T.cl,T.nP,pQ _ _,0,I.pd,0,fA.k (k:=sS k) Y (by rw[Tb.cg];omega),?_];show q _ (bM.za (s:=Pg.out s' k n cs c) (f:=s'.pl) (b:=false) (n:=(s'.ow false).idxOf 0) ok #[dx,ko] a1 ab ?_ ?_ Y nd kt hl (.inr #[by rw[S];simp,a2]) hu ?_) ?_
 .change H3 I.il=some (.lst ((s'.inf.erase k).map V.int));rw[MJ ni];show ki
 .intro b;cases b
  .change(Si _ _ _).length<=60;rw[Lb];show G.le false
  .change(Si _ _ _).length<=60;rw[Lb];show G.le true
 .intro j;by_cases e:j=k
  .subst e;show Pg.bj.trans Pg.bj.symm
  .show(Pg.aJ e).trans ((Pg.aJ e).trans (Pg.aJ e).symm)
 .intro b o e z;rw[ah (λy=>z (by rw[y];show PA.eU 5 rfl))];show L b o e (λy=>z (y.elim (λy=>by rw[y];show PA.eU 1 rfl) λy=>by rw[y];show PA.eU 2 rfl)) (λy=>z (y.elim (λy=>by rw[y];show PA.eU 3 rfl) λy=>by rw[y];show PA.eU 4 rfl))
noncomputable abbrev mq:KP:=inClass (top 14) 7
inductive iJ (C CS:Addr) (vs:List V) (H:Hp) (Q:VK) (e3:XK):Prop
 |mk (M:Addr->Prop) (A:PA) (s:Pg.PS) (k:Int) (t l:Addr) (cs:List Int) (c:Nat) (_:vs=[.ref A.pg,.int k,.ref t]) (_:bM C CS H M A s) (_:A.Ok M) (_:(∀b,M b->H b≠none)) (_:Pg.Good { s with pl:=Pg.du s.pl k none }) (_:((0:Int)∈s.ow true\/(0:Int)∈s.ow false)) (_:s.ow true≠[]) (_:(∀b,∀x∈s.ow b,x<=1000)) (_:H t=some (.tup [.ref l,.int c])) (_:H l=some (.lst (cs.map V.int))) (_:¬ M l) (_:1<=c) (_:c<=1000) (_:∀(H':Hp) (s':Pg.PS),Pg.BI { s with pl:=Pg.du s.pl k none } k cs c s'->bM C CS H' M A s'->Off A.own H H'->Q .non H'):iJ C CS vs H Q e3
theorem tI (A:PA) (n:Int):(cN A n).lookup ("in_frames" : Str)=some (.ref A.il):=by
 unfold cN;rw[aG,Sv rfl]
theorem JE:aC ["self","sheet","moved"] ["self","sheet","moved"] (aw mq):=L2.bD
theorem sJ {f C CS:Addr}{fd:qi}(F:cK K "bring_in" "Paging.bring_in" mq f fd) (T:ou K mg C) (TS:Txt K mg CS) (GF:Md P w K mg base aV 1 CS "free" (rY CS)) (a6:Md P w K mg base aV 5 C "put_out" (mH C CS)) (bv:Df P w K mg base aV 4 "settle" (jB CS)):a8 P w K mg base aV 6 f fd ["self","sheet","moved"] (iJ C CS):=by
 show F.dh JE (λbE A outer s H vs Q E hr h=>?_);let#[M,I,s',k,t,l0,cs,c,rfl,G,ok,mt,gd,hf,hn,hb,J,a4,nl,c1,c2,q]:=h;let#[dx,h1]:=G.ob;let#[bn,h2]:=G.fr.ob;have hs:=ub;have bz:¬ I.own l0:=λz=>nl (ok.own _ z);show#[_,(ag (aS (aD bP (uf (aK (pv 0) rfl) TS.cl GF hr ax) aj (aI _)) (ak (aL (pm (pv 0) T.cl a6 hr ax (aa (ie Ls PySem.F.slot_list_pop PySem.F.type_list_pop AD (aK (pv 0) rfl) (aa aj ai)) ai)))) aF)
  (ag (jT (a9 hr) (aK (pv 0) rfl) (pv 1) (b7 (aa aH (aa (pc bv hr ax (aa (aK (pv 0) rfl) (aa (pv 2) ai))) ai))) rfl)
  (ak (aL (ie Ls Nh Ni kR (aK (pv 0) rfl) (aa (pv 1) ai)))))),?_]
 show share (λσ H9=>xZ λ(s1 s2:Pg.PS)=>GW (σ=[some (.ref I.pg),some (.int k),some (.ref t)]) (bM C CS H9 M I s1) (s2.ow=s1.ow) (s2.co=s1.co) (s2.ls=s1.ls) (s2.inf=s1.inf) ((∀j,j≠k->s2.pl j=s1.pl j)) (Pg.Good s2) ((0:Int)∈s2.ow true) (Pg.BI { s' with pl:=Pg.du s'.pl k none } k cs c (Pg.xn s2 true k cs c)) (Off I.own H H9)) (λu' as=>?A) ?B
 case A =>
  show#[0,I.pg,C,dx,_,0,h1,T.cl,T.nF,mC _ _,I.fp,bn,0,h2,aY _ _ ao ao,I.fp,I.fo,I.fc,M,_,0,G.fr,rfl,0,?_];show gS (λz'=>?_) (λz'=>?_)
  rotate_left
  .have z:(0:Int)∈s'.ow true:=MZ λn=>z' (by rw[Qc.mpr n];simp);show as _ _ #[s', { s' with pl:=Pg.du s'.pl k none },rfl,G,1,1,λj hj=>Pg.aJ hj,gd,z,.free z,λb o e _=>e]
  .have z:¬ (0:Int)∈s'.ow true:=Qc.mp (by
    have:(((s'.ow true).count 0:Nat):Int)=0:=(by simpa using z');omega)
   rcases Pg.GJ gd hf hn with h|⟨_,am,N,r,n0,aT,c0,hi,R,ab⟩
   .show absurd h z
   .have a7:N≠k:=λe=>by
     have R:Pg.du s'.pl k none N=some (true,n0):=R;rw[e,Pg.bj]at R;cases R
    have hi:s'.inf=N::r:=hi;have b0:=(gd.vw ab).1;let#[og,_,_,bc,_,_,b2]:=Pg.sC gd R ab am;let#[b1,n1,e1,e2,e3]:=id ab;rw[R]at e1;cases e1;have a0:s'.pl N=some (true,n0):=(by rw[<-R];show(Pg.aJ a7).symm);have bY:=hb true c0 (ua e3);obtain⟨aB,rfl⟩:∃c':Nat,c0=c':=#[c0.toNat,ae];have O:=gd.nd;have O:s'.inf.Nodup:=O;rw[hi]at O;let#[n1,n2]:=KJ.mp O;have L:=G.lT ok r;have S:Off I.own H (upd H I.il (.lst (r.map V.int))):=λb o e z=>(by rw[ah (λy=>z (by rw[y];show PA.eU 6 rfl))];show e);have ap:=G.il;rw[hi]at ap;show#[0,I.pg,dx,0,h1,cJ _ _ ao ao ao ao ao,0,I.pg,C,dx,_,0,h1,T.cl,T.nI,tI _ _,.inl #[4,bA.of ap],I.il,_,(0),(0),.int N,1,ap,av,av,Ox (Ll _) (by rw[nq,DO];omega),5];show#[M,I,_,N,n0,aT,aB,rfl,L,ok,L.alive S mt,a0,#[true,n0,a0,e2,e3],n1,am,gd.ln,ae,ae,λH2 G2 O2=>?_];show as _ _ #[_,Pg.out { s' with pl:=Pg.du s'.pl k none } N n0 aT aB,rfl,G2,1,rfl,3,og,bc,.full z am hi R ab,λb o e y=>O2 b o (S b o e y) y]
    .change s'.inf.erase N=r.erase N;rw[hi,List.erase_cons_head,MJ n1]
    .intro j hj;by_cases e:j=N
     .subst e;show Pg.bj.trans Pg.bj.symm
     .show(Pg.aJ e).trans ((Pg.aJ e).trans ((Pg.aJ hj).trans ((Pg.aJ e).trans (Pg.aJ e)).symm))
 case B =>
  rintro σ H9 ⟨s1,s2,rfl,L,Y,w2,w3,w4,w5,g2,z0,bm,S⟩;let#[ac,h3]:=L.ob;have be:H9 t=some (.tup [.ref l0,.int c]):=S _ _ J λy=>by
   let#[_,q1,_]:=G.fr.hc;let#[_,q2,_]:=G.sl.hc;let#[_,q3,_]:=G.pd;have q4:=G.fr.hw;have q5:=G.sl.hw;have q6:=G.il;unfold PA.own at y;simp only[wh,By,or_false]at y;rcases y with y|y|y|y|y|y|y<;>rw[y]at J
   .rw[h1]at J;cases J
   .rw[q4]at J;cases J
   .rw[q1]at J;cases J
   .rw[q5]at J;cases J
   .rw[q2]at J;cases J
   .rw[q3]at J;cases J
   .rw[q6]at J;cases J
  have a5:=S _ _ a4 bz;let#[l,hd,O,ht,hl,bF]:=L.pd;have bd:l.length<=999:=by
   have a1:=lL (k:=k) O;have a2:=Cy g2 (λb=>by rw[Y];show L.le b) (l:=Tb.bf l k) (by rw[Tb.ju];show O.filter _) λx U=>by
    let#[U,bb]:=Tb.b9 U;have:=hl x.1;rw[Tb.bJ O U]at this;rw[w5 x.1 bb, <-this];rfl
   omega
  rw[Y]at z0;have bx:(s1.co true).length=(s1.ow true).length:=(by rw[<-Y, <-w2];show g2.ln true);show#[0,I.pg,C,ac,_,0,h3,T.cl,T.nF,mC _ _,0,I.fp,I.fo,I.fc,t,l0,M,2,cs,c,rfl,L.fr,ok.m 2 rfl,ok.m 3 rfl,L.alive S mt,ok.n 2 3 rfl rfl av,bx.symm,L.le true,z0,be,a5,nl,c1,c2,?_];intro H2 S2 O2;show#[d9,λu fu=>?_];have bl:=S2.keep (cU (o:=.tup (jZ true ((s1.ow true).idxOf 0))) fu);have a3:=(L.sl.off O2 (Gq (ok.m 2 rfl) (ok.m 3 rfl)) (gf (ok.n 4 2 rfl rfl av) (ok.n 4 3 rfl rfl av)) (gf (ok.n 5 2 rfl rfl av) (ok.n 5 3 rfl rfl av)) (gf (ok.n 6 2 rfl rfl av) (ok.n 6 3 rfl rfl av))).keep (cU (o:=.tup (jZ true ((s1.ow true).idxOf 0))) fu);have kp:∀b o,H9 b=some o->¬ (b=I.fo\/b=I.fc)->upd H2 u (.tup (jZ true ((s1.ow true).idxOf 0))) b=some o:=λb o e z1=>cU fu b o (O2 b o e z1) id;have hu:upd H2 u (.tup (jZ true ((s1.ow true).idxOf 0))) u=some (.tup (jZ true ((s1.ow true).idxOf 0))):=af;have kd:=kp _ _ hd (gf (ok.n 7 2 rfl rfl av) (ok.n 7 3 rfl rfl av));have ko:=kp _ _ h3 (gf (ok.n 0 2 rfl rfl av) (ok.n 0 3 rfl rfl av));have ki:=kp _ _ L.il (gf (ok.n 8 2 rfl rfl av) (ok.n 8 3 rfl rfl av));have bi:=L.fr.hw;let#[_,ba,_]:=L.fr.hc;have kt:∀x∈l,upd H2 u (.tup (jZ true ((s1.ow true).idxOf 0))) x.2.1=some (.tup (jZ x.2.2.1 x.2.2.2)):=λx U=>kp _ _ (ht x U) (gf (cI (ht x U) bi (by intro z;cases z)) (cI (ht x U) ba (by intro z;cases z)));change CP K _ _ _ (upd H2 u (.tup (jZ true ((s1.ow true).idxOf 0)))) _;generalize upd H2 u (.tup (jZ true ((s1.ow true).idxOf 0)))=H3 at *;show#[0,I.pg,C,ac,_,0,ko,T.cl,T.nP,pQ _ _,0,I.pd,0,fA.k (k:=sS k) kd (by rw[Tb.cg];omega),?_];have G4:=bM.za (C:=C) (CS:=CS) (s:={ Pg.xn s1 true k cs c with inf:=s1.inf }) (f:=s1.pl) (k:=k) (b:=true) (n:=(s1.ow true).idxOf 0) ok #[ac,ko] bl a3 ki (λb=>by
   cases b
   .show L.le false
   .change(Si _ _ _).length<=60;rw[Lb];show L.le true) kd O kt hl (.inl bd) hu (λj=>rfl)
  have O4:Off I.own H (upd H3 I.pd (.dK (putK (Tb.dk sh l) (sS k) (.ref u)))):=λb o e z=>by
   rw[ah (λy=>z (by rw[y];show PA.eU 5 rfl))];show kp b o (S b o e z) (λy=>z (y.elim (λy=>by rw[y];show PA.eU 1 rfl) λy=>by rw[y];show PA.eU 2 rfl))
  generalize upd H3 I.pd (.dK (putK (Tb.dk sh l) (sS k) (.ref u)))=H4 at *;let#[bq,h4]:=G4.ob;have bI:s1.inf.length<=60:=(by rw[<-w4];show xu g2 (by rw[Y];show L.le true));show#[0,I.pg,C,bq,_,0,h4,T.cl,T.nI,tI _ _,.inl #[4,bA.of G4.il],0,I.il,_,.int k,1,G4.il,by rw[nq];change s1.inf.length<_;omega,?_];have G5:=G4.lT ok (s1.inf++[k]);rw[BY]at G5;show q _ _ bm (G5.Fq ?_ ?_ w3 ?_ ?_) λb o e z=>by
   rw[ah (λy=>z (by rw[y];show PA.eU 6 rfl))];show O4 b o e z
  .change Pg.upd s2.ow true _=Pg.upd s1.ow true _;rw[Y]
  .change Pg.upd s2.co true _=Pg.upd s1.co true _;rw[Y,w2]
  .change s2.inf++[k]=s1.inf++[k];rw[w4]
  .intro j;change Pg.du s2.pl k _ j=Pg.du s1.pl k _ j;by_cases e:j=k
   .rw[e,Pg.bj,Pg.bj,Y]
   .rw[Pg.aJ e,Pg.aJ e];show w5 j e
end
end St
namespace Pg
theorem sV {α:Type}{f:Bool->α}{b:Bool}:upd f b (f b)=f:=by
 funext c;by_cases e:c=b
 .rw[e,af]
 .rw[aX e]
theorem xW {α:Type}{f:Int->α}{k:Int}{v:α}(h:f k=v):du f k v=f:=by
 funext c;by_cases e:c=k
 .rw[e,bj,h]
 .rw[aJ e]
theorem wq {s:PS}(G:Good s):({ next s with pl:=du (next s).pl (s.ls+1) none }:PS)=next s:=by
 have e:du s.pl (s.ls+1) none=s.pl:=xW (fh G);change PS.mk s.ow s.co (du s.pl (s.ls+1) none) (s.ls+1) s.inf=PS.mk s.ow s.co s.pl (s.ls+1) s.inf;rw[e]
theorem wZ {s:PS}{k:Int}{n:Nat}(G:Good s) (J:s.pl k=some (false,n)):¬ k∈s.inf:=λh=>by
 let#[m,I]:=(G.fi k).mp h;rw[J]at I;cases I
theorem uS {s:PS}{k:Int}{n:Nat}(G:Good s) (I:s.pl k=some (false,n)):({ cE s false n 0 with pl:=du (cE s false n 0).pl k none }:PS)=oQ s k false n:=by
 change PS.mk (upd s.ow false ((s.ow false).set n 0)) s.co (du s.pl k none) s.ls s.inf=PS.mk (upd s.ow false ((s.ow false).set n 0)) s.co (du s.pl k none) s.ls (s.inf.erase k);rw[MJ (wZ G I)]
noncomputable def Cb (s:PS):Prop:=∀b,∀x∈s.ow b,x<=1000
theorem Er {ow:Bool->List Int}{b:Bool}{n:Nat}{x:Int}(h:∀b,∀x∈ow b,x<=1000) (I:x<=1000):∀c,∀y∈upd ow b ((ow b).set n x) c,y<=1000:=by
 intro c y G;by_cases e:c=b
 .rw[e,af]at G;rcases Oj G with h' |h'
  .show h b y h'
  .rw[h'];show I
 .rw[aX e]at G;show h c y G
end Pg
namespace Pg
theorem RI.cb {s:PS}{es:List Ent}(R:RI s es) (le:∀b,(s.ow b).length<=60):Cb s:=by
 intro b x J;let#[n,G]:=PD J;rcases R.good.on b n x G with e|⟨k,I⟩
 .omega
 .let#[cs,c,h1,h2,_,_]:=R.good.va _ _ _ I;rw[G]at h2;cases h2;have U:=R.ct k cs x #[b,n,I,h1,G];have S:=List.count_le_length (a:=some k) (l:=es);have N:=R.rm;have O:=le true;have L:=le false;omega
end Pg
namespace St
open PySem L2
section
variable {A:PA}{M:Addr->Prop}
theorem zU (A:PA) (n:Int):(cN A n).lookup ("last_sheet" : Str)=some (.int n):=by
 unfold cN;rw[aG,Su ao,aG,Sv rfl]
theorem zu (A:PA) (n:Int):cN A n=([("frames",.ref A.fp),("slots",.ref A.sp),("places",.ref A.pd),("last_sheet",.int n),("in_frames",.ref A.il)]:List (Str×V)):=by
 have O:¬ (("frames" : Str) = "slots"):=ao;have R:¬ (("frames" : Str) = "places"):=ao;have G:¬ (("frames" : Str) = "last_sheet"):=ao;have U:¬ (("frames" : Str) = "in_frames"):=ao;have Y:¬ (("slots" : Str) = "places"):=ao;have I:¬ (("slots" : Str) = "last_sheet"):=ao;have J:¬ (("slots" : Str) = "in_frames"):=ao;have L:¬ (("places" : Str) = "last_sheet"):=ao;have S:¬ (("places" : Str) = "in_frames"):=ao;have N:¬ (("last_sheet" : Str) = "in_frames"):=ao;unfold cN;simp only[bo,Su O,Su R,Su G,Su U,Su Y,Su I,Su J,Su L,Su S,Su N]
theorem EG (A:PA) (n m:Int):bo "last_sheet" (.int m) (cN A n)=cN A m:=by
 have G:¬ (("frames" : Str) = "last_sheet"):=ao;have J:¬ (("slots" : Str) = "last_sheet"):=ao;have I:¬ (("places" : Str) = "last_sheet"):=ao;rw[zu,zu];simp only[bo,Su G,Su J,Su I,if_true]
theorem bM.HP {C CS dx:Addr}{H:Hp}{s:Pg.PS}(G:bM C CS H M A s) (ok:A.Ok M) (n:Int):bM C CS (upd H A.pg (.ins C dx (cN A n))) M A { s with ls:=n }:=by
 have o:Off (· = A.pg) H (upd H A.pg (.ins C dx (cN A n))):=λb o e z=>(by rw[ah z];show e);let#[R,h1]:=G.ob;let#[l,hd,N,I,L,O]:=G.pd;show#[#[dx,af],G.fr.off o (in1 (ok.m 0 rfl)) (ok.n 1 0 rfl rfl av) (ok.n 2 0 rfl rfl av) (ok.n 3 0 rfl rfl av),G.sl.off o (in1 (ok.m 0 rfl)) (ok.n 4 0 rfl rfl av) (ok.n 5 0 rfl rfl av) (ok.n 6 0 rfl rfl av),o _ _ G.il (ok.n 8 0 rfl rfl av),G.le,
  #[l,o _ _ hd (ok.n 7 0 rfl rfl av),N,λx J=>o _ _ (I x J) (cI (I x J) h1 (by intro z;cases z)),L,O]]
theorem bM.Dy {C CS:Addr}{H H':Hp}{s:Pg.PS}(G:bM C CS H M A s) (ok:A.Ok M) (b:Bool) {os:List Int}{pg:List (Option (List Int))}(S:aU CS H' M (A.st b) (A.ow b) (A.co b) os pg) (o:Off (λx=>x=A.ow b\/x=A.co b) H H') (hl:os.length<=60):bM C CS H' M A { s with ow:=Pg.upd s.ow b os,co:=Pg.upd s.co b pg }:=by
 let#[R,h1]:=G.ob;let#[l,hd,L,I,N,O]:=G.pd;have le:∀c,(Pg.upd s.ow b os c).length<=60:=λc=>by
  by_cases e:c=b
  .rw[e,Pg.af];show hl
  .rw[Pg.aX e];show G.le c
 have hw:=(G.st b).hw;let#[_,Y,_]:=(G.st b).hc;have U:∀x∈l,H' x.2.1=some (.tup (jZ x.2.2.1 x.2.2.2)):=λx J=>o _ _ (I x J) (gf (cI (I x J) hw (by intro z;cases z)) (cI (I x J) Y (by intro z;cases z)));cases b
 .show#[#[R,o _ _ h1 (gf (ok.n 0 5 rfl rfl av) (ok.n 0 6 rfl rfl av))],G.fr.off o (Gq (ok.m 5 rfl) (ok.m 6 rfl)) (gf (ok.n 1 5 rfl rfl av) (ok.n 1 6 rfl rfl av)) (gf (ok.n 2 5 rfl rfl av) (ok.n 2 6 rfl rfl av)) (gf (ok.n 3 5 rfl rfl av) (ok.n 3 6 rfl rfl av)),S,o _ _ G.il (gf (ok.n 8 5 rfl rfl av) (ok.n 8 6 rfl rfl av)),le,
   #[l,o _ _ hd (gf (ok.n 7 5 rfl rfl av) (ok.n 7 6 rfl rfl av)),L,U,N,O]]
 .show#[#[R,o _ _ h1 (gf (ok.n 0 2 rfl rfl av) (ok.n 0 3 rfl rfl av))],S,G.sl.off o (Gq (ok.m 2 rfl) (ok.m 3 rfl)) (gf (ok.n 4 2 rfl rfl av) (ok.n 4 3 rfl rfl av)) (gf (ok.n 5 2 rfl rfl av) (ok.n 5 3 rfl rfl av)) (gf (ok.n 6 2 rfl rfl av) (ok.n 6 3 rfl rfl av)),o _ _ G.il (gf (ok.n 8 2 rfl rfl av) (ok.n 8 3 rfl rfl av)),le,
   #[l,o _ _ hd (gf (ok.n 7 2 rfl rfl av) (ok.n 7 3 rfl rfl av)),L,U,N,O]]
theorem bM.Aj {C CS:Addr}{H H':Hp}{s:Pg.PS}(G:bM C CS H M A s) (ok:A.Ok M) (b:Bool) {os:List Int}(S:aU CS H' M (A.st b) (A.ow b) (A.co b) os (s.co b)) (o:Off (λx=>x=A.ow b\/x=A.co b) H H') (I:os.length<=60):bM C CS H' M A { s with ow:=Pg.upd s.ow b os }:=
 (G.Dy ok b S o I).Fq rfl Pg.sV.symm rfl rfl λ_=>rfl
theorem bM.HK {C CS:Addr}{H H':Hp}{s:Pg.PS}(G:bM C CS H M A s) (ok:A.Ok M) (b:Bool) {pg:List (Option (List Int))}(S:aU CS H' M (A.st b) (A.ow b) (A.co b) (s.ow b) pg) (o:Off (λx=>x=A.ow b\/x=A.co b) H H'):bM C CS H' M A { s with co:=Pg.upd s.co b pg }:=
 (G.Dy ok b S o (G.le b)).Fq Pg.sV.symm rfl rfl rfl λ_=>rfl
theorem PA.kg (b:Bool):∀x,x=A.ow b\/x=A.co b->A.own x:=by
 intro x h;cases b
 .rcases h with h|h<;>rw[h]
  .show PA.eU 3 rfl
  .show PA.eU 4 rfl
 .rcases h with h|h<;>rw[h]
  .show PA.eU 1 rfl
  .show PA.eU 2 rfl
theorem PA.Ok.mo (ok:A.Ok M) (b:Bool):M (A.ow b):=ok.own _ (PA.kg b _ (.inl rfl))
theorem PA.Ok.mc (ok:A.Ok M) (b:Bool):M (A.co b):=ok.own _ (PA.kg b _ (.inr rfl))
theorem PA.Ok.oc (ok:A.Ok M) (b:Bool):A.ow b≠A.co b:=by
 cases b
 .show ok.n 5 6 rfl rfl av
 .show ok.n 2 3 rfl rfl av
theorem Off.mono {B B':Addr->Prop}{H H':Hp}(o:Off B H H') (h:∀b,B b->B' b):Off B' H H':=λb u e z=>o b u e λy=>z (h b y)
theorem Off.trans {B:Addr->Prop}{H H' G:Hp}(o:Off B H H') (o':Off B H' G):Off B H G:=λb u e z=>o' b u (o b u e z) z
theorem Off.wr {B:Addr->Prop}{H:Hp}{a:Addr}{o:HO}(h:B a):Off B H (upd H a o):=λb u e z=>by rw[ah (λy=>z (by rw[y];show h))];show e
theorem Off.new {B:Addr->Prop}{H:Hp}{a:Addr}{o:HO}(h:H a=none):Off B H (upd H a o):=λb u e z=>cU h b u e id
theorem bM.EJ {C CS:Addr}{H:Hp}{s:Pg.PS}{l:Ec}(G:bM C CS H M A s) (ok:A.Ok M) (k:Int) (hd:H A.pd=some (.dK (Tb.dk sh l))) (N:(l.map (·.1)).Nodup) (J:∀x∈l,H x.2.1=some (.tup (jZ x.2.2.1 x.2.2.2))) (L:∀j,(Tb.look l j).map (·.2)=s.pl j) (O:l.length<=1000) :
  bM C CS (upd H A.pd (.dK (Tb.dk sh (Tb.bf l k)))) M A { s with pl:=Pg.du s.pl k none }:=by
 have o:Off (· = A.pd) H (upd H A.pd (.dK (Tb.dk sh (Tb.bf l k)))):=λb o e z=>(by rw[ah z];show e);let#[dx,h1]:=G.ob;show#[#[dx,o _ _ h1 (ok.n 0 7 rfl rfl av)],G.fr.off o (in1 (ok.m 7 rfl)) (ok.n 1 7 rfl rfl av) (ok.n 2 7 rfl rfl av) (ok.n 3 7 rfl rfl av),G.sl.off o (in1 (ok.m 7 rfl)) (ok.n 4 7 rfl rfl av) (ok.n 5 7 rfl rfl av) (ok.n 6 7 rfl rfl av),o _ _ G.il (ok.n 8 7 rfl rfl av),G.le,
  #[Tb.bf l k,af,by rw[Tb.ju];show N.filter _,λx I=>?_,λj=>?_,KI (MG _ _) O]]
 .have I:=(Tb.b9 I).1;show o _ _ (J x I) (cI (J x I) hd (by intro z;cases z))
 .rw[Tb.cn];change _=Pg.du s.pl k none j;by_cases e:j=k
  .rw[Sv e,e,Pg.bj];rfl
  .rw[Su e,Pg.aJ e];show L j
end
theorem AX {D:Ends}{σ:St}{H:Hp}(h:D.nx σ H):ma D σ H:=h
noncomputable abbrev kM:KP:=inClass (top 14) 1
noncomputable abbrev vg:KP:=inClass (top 14) 2
noncomputable abbrev uN:KP:=inClass (top 14) 3
noncomputable abbrev rf:KP:=inClass (top 14) 5
noncomputable abbrev wm:KP:=inClass (top 14) 6
structure Hn (C CS:Addr) (H:Hp) (M:Addr->Prop) (A:PA) (s:Pg.PS):Prop where
 at_:bM C CS H M A s
 ok:A.Ok M
 mt:∀b,M b->H b≠none
 gd:Pg.Good s
 ne:s.ow true≠[]
 cb:Pg.Cb s
 l0:0<=s.ls
inductive gE (K:iF) (C CS:Addr) (vs:List V) (H:Hp) (Q:VK) (e3:XK):Prop
 |mk (M:Addr->Prop) (A:PA) (s:Pg.PS) (ca:Addr) (cs:List Int) (_:vs=[.ref A.pg,.ref ca]) (_:Hn C CS H M A s) (_:((0:Int)∈s.ow true\/(0:Int)∈s.ow false)) (_:bA K H ca (cs.map V.int)) (_:ca≠A.pg) (_:cs.length=8) (_:∀(H':Hp) (s':Pg.PS),Pg.BI (Pg.next s) (s.ls+1) cs 1 s'->bM C CS H' M A s'->Off A.own H H'->Q (.int (s.ls+1)) H'):gE K C CS vs H Q e3
inductive lu (C CS:Addr) (vs:List V) (H:Hp) (Q:VK) (e3:XK):Prop
 |mk (M:Addr->Prop) (A:PA) (s:Pg.PS) (k:Int) (cs:List Int) (c:Int) (_:vs=[.ref A.pg,.int k]) (_:Hn C CS H M A s) (_:Pg.Vw s k cs c) (_:∀(H':Hp) (s':Pg.PS),Pg.FE s k s'->bM C CS H' M A s'->Off A.own H H'->Q .non H'):lu C CS vs H Q e3
inductive rJ (C CS:Addr) (vs:List V) (H:Hp) (Q:VK) (e3:XK):Prop
 |mk (M:Addr->Prop) (A:PA) (s:Pg.PS) (k:Int) (b:Bool) (n:Nat) (cs:List Int) (c:Int) (_:vs=[.ref A.pg,.int k]) (_:Hn C CS H M A s) (_:s.pl k=some (b,n)) (_:Pg.Vw s k cs c) (_:∀H':Hp,bM C CS H' M A (Pg.cE s b n (c+1))->Off A.own H H'->Q .non H'):rJ C CS vs H Q e3
inductive lC (C CS:Addr) (vs:List V) (H:Hp) (Q:VK) (e3:XK):Prop
 |mk (M:Addr->Prop) (A:PA) (s:Pg.PS) (k:Int) (cs:List Int) (c:Int) (_:vs=[.ref A.pg,.int k]) (_:bM C CS H M A s) (_:A.Ok M) (_:(∀b,M b->H b≠none)) (_:Pg.Good s) (_:Pg.Vw s k cs c) (_:∀(H':Hp) (s':Pg.PS),Pg.CV s k s'->bM C CS H' M A s'->Off A.own H H'->Q .non H'):lC C CS vs H Q e3
inductive mI (C CS:Addr) (vs:List V) (H:Hp) (Q:VK) (e3:XK):Prop
 |mk (M:Addr->Prop) (A:PA) (s:Pg.PS) (k:Int) (ca:Addr) (cs0:List Int) (c0:Int) (cs:List Int) (_:vs=[.ref A.pg,.int k,.ref ca]) (_:Hn C CS H M A s) (_:Pg.Vw s k cs0 c0) (_:H ca=some (.lst (cs.map V.int))) (_:¬ A.own ca) (_:cs.length=8) (_:(1<c0->(0:Int)∈s.ow true\/(0:Int)∈s.ow false)) (_:(1<c0->∀(H':Hp) (s1 s2:Pg.PS),Pg.BI (Pg.next s) (s.ls+1) cs 1 s1->Pg.CV s1 k s2->bM C CS H' M A s2->Off A.own H H'->Q (.int (s.ls+1)) H')) (_:(c0=1->∀(H':Hp) (s1:Pg.PS) (m:Nat),Pg.FE s k s1->s1.pl k=some (true,m)->bM C CS H' M A (Pg.write s1 true m cs)->Off A.own H H'->Q (.int k) H')):mI C CS vs H Q e3
section
variable {P:rr}{w:Bd}{K:iF}{mg:Str->Option Value}{base:Heap}
theorem IV:aC ["self","cells"] ["self","cells"] (aw kM):=L2.bD
theorem rT {f C CS:Addr}{fd:qi}(F:cK K "new_sheet" "Paging.new_sheet" kM f fd) (T:ou K mg C) (TS:Txt K mg CS) (U:Md P w K mg base aV 1 CS "free" (rY CS)) (aB:Md P w K mg base aV 6 C "bring_in" (iJ C CS)):a8 P w K mg base aV 7 f fd ["self","cells"] (gE K C CS):=by
 show F.dh IV (λa3 A outer s H vs Q E L h=>?_);let#[M,I,s',ca,cs,rfl,R,hf,ac,ap,h8,q]:=h;have G:=R.at_;have ok:=R.ok;let#[dx,h1]:=G.ob;let#[as,h2]:=G.fr.ob;let#[a0,h3]:=G.sl.ob;have hs:=ub;show#[_,(ag (aS (aD bP (aA bp (uf (aK (pv 0) rfl) TS.cl U L ax) (uf (aK (pv 0) rfl) TS.cl U L ax)) aj (aI _)) cY aF)
  (ag (yO (pv 0) aj Ef)
  (ag (aL (pm (pv 0) T.cl aB L ax (aa (aK (pv 0) rfl) (aa (b7 (aa (bH cR (by rfl) T.list dS (aa (pv 1) ai)) (aa aj ai))) ai))))
  (ak (aE (aK (pv 0) rfl)))))),?_]
 show#[0,I.pg,C,dx,_,0,h1,T.cl,T.nF,mC _ _,I.fp,as,0,h2,aY _ _ ao ao,I.fp,I.fo,I.fc,M,_,0,G.fr,?_];show#[0,I.pg,C,dx,_,0,h1,T.cl,T.nS,sZ _ _,I.sp,a0,0,h3,aY _ _ ao ao,I.sp,I.so,I.sc,M,_,0,G.sl,_,0,1,0,?_];show gS (λz=>?_) (λ_=>?_)
 .exfalso;have z:(((s'.ow true).count 0:Nat):Int)+(((s'.ow false).count 0:Nat):Int)=0:=(by simpa using z);rcases hf with h|h
  .have:=LW.mpr h;omega
  .have:=LW.mpr h;omega
 show#[0,I.pg,C,dx,_,0,h1,T.cl,T.nL,zU _ _,_,0,rfl,dx,_,h1,by rw[zu];change 5<1000;decide,?_];rw[EG];have G1:=G.HP (dx:=dx) ok (s'.ls+1);have S:Off I.own H (upd H I.pg (.ins C dx (cN I (s'.ls+1)))):=Off.wr (PA.eU 0 rfl);have am:bA K (upd H I.pg (.ins C dx (cN I (s'.ls+1)))) ca (cs.map V.int):=Rm.eI ac λo e=>(by rw[ah ap];show e);have ab:=G1.alive S R.mt;have Y:upd H I.pg (.ins C dx (cN I (s'.ls+1))) I.pg=some (.ins C dx (cN I (s'.ls+1))):=af;generalize upd H I.pg (.ins C dx (cN I (s'.ls+1)))=H1 at *;show#[0,I.pg,dx,0,Y,cJ _ _ ao ao ao ao ao,0,I.pg,C,dx,_,0,Y,T.cl,T.nL,zU _ _,0,ca,0,.inl am,λl N=>?_];show#[d9,λt J=>?_];have O2:Off I.own H1 (upd (upd H1 l (.lst (cs.map V.int))) t (.tup [.ref l,.int 1])):=(Off.new N).trans (Off.new J);have a1:t≠l:=λe=>(by rw[e,af]at J;cases J);have ht:upd (upd H1 l (.lst (cs.map V.int))) t (.tup [.ref l,.int 1]) t=some (.tup [.ref l,.int 1]):=af;have hl:upd (upd H1 l (.lst (cs.map V.int))) t (.tup [.ref l,.int 1]) l=some (.lst (cs.map V.int)):=(by rw[ah (qs a1),af]);have G2:bM C CS (upd (upd H1 l (.lst (cs.map V.int))) t (.tup [.ref l,.int 1])) M I { s' with ls:=s'.ls+1 }:=(G1.keep (cU N)).keep (cU J);generalize upd (upd H1 l (.lst (cs.map V.int))) t (.tup [.ref l,.int 1])=H2 at *;have es:=Pg.wq R.gd;show#[M,I,Pg.next s',s'.ls+1,t,l,cs,(1),rfl,G2,ok,G2.alive O2 ab,by rw[es];show Pg.pP R.gd,hf,R.ne,R.cb,ht,hl,λz=>ab l z N,qj _,av,λH3 s3 O G3 O3=>?_];rw[es]at O;let#[aT,h4]:=G3.ob;have a2:s3.ls=s'.ls+1:=(Pg.kL R.gd R.l0 h8 O).ls;show#[0,I.pg,C,aT,_,0,h4,T.cl,T.nL,zU _ _,?_];rw[a2];show q H3 s3 O G3 ((S.trans O2).trans O3)
theorem Hr:aC ["self","sheet","place"] ["self","sheet"] (aw wm):=L2.bD
theorem zF {f C CS:Addr}{fd:qi}(F:cK K "fetch" "Paging.fetch" wm f fd) (T:ou K mg C) (BO:Md P w K mg base aV 1 C "place" (iM C CS)) (ap:Md P w K mg base aV 6 C "bring_in" (iJ C CS)) (aB:Df P w K mg base aV 4 "lift" (qO CS)):a8 P w K mg base aV 7 f fd ["self","sheet"] (lu C CS):=by
 show F.dh Hr (λa2 A outer s H vs Q E U h=>?_);let#[M,I,s',k,cs,c,rfl,R,Y,q]:=h;have G:=R.at_;have ok:=R.ok;have hc:=(R.gd.vw Y).1;let#[b,n,J,e2,e3]:=id Y;let#[dx,h1]:=G.ob;have hs:=ub;show#[_,(ag (dn 2 Hr.nd (pm (pv 0) T.cl BO U ax (aa (pv 1) ai)))
  (ag (aS (aD bP (aP aN (pv 2) aj bW) aH (aI _)) (ag (aL (ie Ls OR OE pz (aK (pv 0) rfl) (aa (pv 1) ai)))
  (ag (aL (ie Ls Nh Ni kR (aK (pv 0) rfl) (aa (pv 1) ai)))
  (ak qR))) aF)
  (ak (aL (pm (pv 0) T.cl ap U ax (aa (pv 1) (aa (pc aB U ax (aa (aK (pv 0) rfl) (aa (aP aN (pv 2) aj bW) ai))) ai))))))),?_]
 show#[0,I.pg,dx,0,h1,cJ _ _ ao ao ao ao ao,0,M,I,s',k,b,n,rfl,G,J,λt ht=>?_];show#[0,t,_,(0),0,rfl,bL.of ht,1,0,?_];cases b with
 |true =>
  show eL ?_;have hi:k∈s'.inf:=(R.gd.fi k).mpr #[n,J];show#[0,I.pg,C,dx,_,0,h1,T.cl,T.nI,tI _ _,.inl #[4,bA.of G.il],0,I.il,s'.inf,k,1,G.il,hi,?_];have L:=G.lT ok (s'.inf.erase k);have N:Off I.own H (upd H I.il (.lst ((s'.inf.erase k).map V.int))):=Off.wr (PA.eU 6 rfl);generalize upd H I.il (.lst ((s'.inf.erase k).map V.int))=H1 at *;let#[am,h2]:=L.ob;have hl:=xu R.gd (G.le true);have aT:(s'.inf.erase k).length<=s'.inf.length:=List.length_erase_le;show#[0,I.pg,C,am,_,0,h2,T.cl,T.nI,tI _ _,.inl #[4,bA.of L.il],0,I.il,_,.int k,1,L.il,by rw[nq];change(s'.inf.erase k).length<_;omega,?_];have S:=L.lT ok (s'.inf.erase k++[k]);rw[BY]at S;show q _ _ (.here J) S (N.trans (Off.wr (PA.eU 6 rfl)))
 |false =>
  show bX ?_;obtain⟨O,rfl⟩:∃O:Nat,c=O:=#[c.toNat,ae];have a0:=R.cb false _ (ua e3);show#[0,I.pg,dx,0,h1,cJ _ _ ao ao ao ao ao,0,0,I.pg,C,dx,_,0,h1,T.cl,T.nS,sZ _ _,0,t,_,(1),0,rfl,bL.of ht,5];show#[I.sp,I.so,I.sc,M,2,n,cs,O,rfl,G.sl,ok.m 5 rfl,ok.m 6 rfl,R.mt,ok.n 5 6 rfl rfl av,G.le false,e3,ae,ae,e2,?_];intro H1 t1 l1 a1 ac nl as S1 N;have L:=G.Aj ok false S1 N (by rw[Lb];show G.le false);have ab:Off I.own H H1:=N.mono (PA.kg false);have es:=Pg.uS R.gd J;show#[M,I,Pg.cE s' false n 0,k,t1,l1,cs,O,rfl,L,ok,L.alive ab R.mt,by rw[es];show Pg.jG R.gd J,.inr (Pg.sv R.gd J),R.ne,Pg.Er R.cb av,ac,as,nl,ae,ae,λH2 s2 hb S O2=>?_];rw[es]at hb;show q _ _ (.away J Y hb) S (ab.trans O2)
theorem IZ:aC ["self","sheet"] ["self","sheet"] (aw vg):=L2.bD
theorem AA {f C CS:Addr}{fd:qi}(F:cK K "share" "Paging.share" vg f fd) (T:ou K mg C) (TS:Txt K mg CS) (am:Md P w K mg base aV 2 C "store_of" (fg C CS)) (ab:Md P w K mg base aV 2 C "number_of" (dt C CS)) (GM:Md P w K mg base aV 3 CS "more" (qI CS)):a8 P w K mg base aV 4 f fd ["self","sheet"] (rJ C CS):=by
 show F.dh IZ (λap A outer s H vs Q E J h=>?_);let#[M,I,s',k,b,n,cs,c,rfl,R,L,Y,q]:=h;have G:=R.at_;have ok:=R.ok;have hc:=(R.gd.vw Y).1;have N:=Pg.tV L Y;let#[dx,h1]:=G.ob;have S:=G.st b;let#[ac,h2]:=S.ob;show#[_,(ak (aL (pm (pm (pv 0) T.cl am J ax (aa (pv 1) ai)) TS.cl GM J ax (aa (pm (pv 0) T.cl ab J ax (aa (pv 1) ai)) ai)))),?_];show#[0,I.pg,dx,0,h1,cJ _ _ ao ao ao ao ao,0,M,I,s',k,b,n,rfl,G,L,?_];show#[_,ac,0,h2,aY _ _ ao ao,?_];show#[0,I.pg,dx,0,h1,cJ _ _ ao ao ao ao ao,0,M,I,s',k,b,n,rfl,G,L,?_];show#[2,_,M,2,n,rfl,S,ok.mo b,ok.mc b,ok.oc b,G.le b,by rw[fb N];omega,λH1 U O=>?_];rw[fb N,show(n:Int).toNat=n from LY n]at U;show q H1 (G.Aj ok b U O (by rw[Lb];show G.le b)) (O.mono (PA.kg b))
theorem Ey:aC ["self","sheet","store","n"] ["self","sheet"] (aw uN):=L2.bD
theorem Av {f C CS:Addr}{fd:qi}(F:cK K "leave" "Paging.leave" uN f fd) (T:ou K mg C) (TS:Txt K mg CS) (a0:Md P w K mg base aV 2 C "store_of" (fg C CS)) (as:Md P w K mg base aV 2 C "number_of" (dt C CS)) (GL:Md P w K mg base aV 3 CS "less" (rM CS)) (GC:Md P w K mg base aV 1 CS "count" (gD CS)):a8 P w K mg base aV 4 f fd ["self","sheet"] (lC C CS):=by
 show F.dh Ey (λa1 A outer s H vs Q E N h=>?_);let#[M,I,s',k,cs,c,rfl,G,ok,mt,gd,U,q]:=h;have hc:=(gd.vw U).1;let#[b,n,J,e2,e3]:=id U;let#[nl,_]:=kz.mp e3;let#[dx,h1]:=G.ob;have S:=G.st b;let#[aT,h2]:=S.ob;show#[_,(ag (dn 2 Ey.nd (pm (pv 0) T.cl a0 N ax (aa (pv 1) ai)))
  (ag (dn 3 Ey.nd (pm (pv 0) T.cl as N ax (aa (pv 1) ai)))
  (ag (aL (pm (pv 2) TS.cl GL N ax (aa (pv 3) ai)))
  (ag (aS (aD gI (pm (pv 2) TS.cl GC N ax (aa (pv 3) ai)) aj (aI _)) (ak qR) aF)
  (ag (aS (aD bP (aP aN (bh (a9 N) (aK (pv 0) rfl) (pv 1) bW) aj bW) aH (aI _)) (ak (aL (ie Ls OR OE pz (aK (pv 0) rfl) (aa (pv 1) ai)))) aF)
  (ak (aL (eE (aK (pv 0) rfl) (pv 1) #[1,1])))))))),?_]
 show#[0,I.pg,dx,0,h1,cJ _ _ ao ao ao ao ao,0,M,I,s',k,b,n,rfl,G,J,?_];show#[0,I.pg,dx,0,h1,cJ _ _ ao ao ao ao ao,0,M,I,s',k,b,n,rfl,G,J,?_];show#[0,_,aT,0,h2,aY _ _ ao ao,0,2,_,M,2,n,rfl,S,ok.mo b,ok.mc b,ok.oc b,G.le b,by rw[fb e3];omega,λH1 Y O1=>?_];rw[fb e3,show(n:Int).toNat=n from LY n]at Y;have L:=G.Aj ok b Y O1 (by rw[Lb];show G.le b);have ab:Off I.own H H1:=O1.mono (PA.kg b);let#[aB,h3]:=Y.ob;show#[0,_,aB,0,h3,aY _ _ ao ao,0,2,_,M,2,n,rfl,Y,by rw[Lb];show G.le b,?_];rw[fU nl];show#[_,0,rfl,0,?_];by_cases z:(0:Int)<c-1
 .rw[decide_eq_true z];show q _ _ (.more J U ae) L ab
 .rw[decide_eq_false z];have ec:c=1:=ae;subst ec;show bX (AX ?_);let#[am,h4]:=L.ob;let#[l,hd,nd,ht,O,hn]:=L.pd;obtain⟨x,R,ex⟩:∃x,Tb.look l k=some x/\x.2=(b,n):=by
   have h9:(Tb.look l k).map (·.2)=some (b,n):=(O k).trans J;show pq.mp h9
  have hg:cZ H1 I.pd (.int k) (some (sh x)):=by
   have q9:=cZ.k (k:=sS k) hd;rw[Tb.cL,R]at q9;show q9
  have hm:=ht _ (Tb.az R);rw[show x.2.1=b by rw[ex],show x.2.2=n by rw[ex]]at hm;dsimp only;show share (λσ H9=>σ=[some (.ref I.pg),some (.int k),some (.ref (I.st b)),some (.int n)]/\bM C CS H9 M I { Pg.cE s' b n 0 with inf:=s'.inf.erase k }/\Off I.own H H9) (λu' ac=>?A) ?B
  case A =>
   show#[0,I.pg,C,am,_,0,h4,T.cl,T.nP,pQ _ _,0,I.pd,sh x,rfl,hg,x.1,_,(0),0,rfl,bL.of hm,1,0,?_];cases b with
   |true =>
    show eL ?_;have hi:k∈s'.inf:=(gd.fi k).mpr #[n,J];show#[0,I.pg,C,am,_,0,h4,T.cl,T.nI,tI _ _,.inl #[4,bA.of L.il],0,I.il,s'.inf,k,1,L.il,hi,?_];show ac _ _ #[rfl,L.lT ok (s'.inf.erase k),ab.trans (Off.wr (PA.eU 6 rfl))]
   |false =>
    show bX ?_;show ac _ _ #[5,ab];rw[MJ (Pg.wZ gd J)];show L
  case B =>
   rintro σ H9 ⟨rfl,G9,O9⟩;let#[ap,h5]:=G9.ob;let#[l,hd,nd,ht,O,hn]:=G9.pd;obtain⟨x,R,ex⟩:∃x,Tb.look l k=some x/\x.2=(b,n):=by
    have h9:(Tb.look l k).map (·.2)=some (b,n):=(O k).trans J;show pq.mp h9
   show#[0,I.pg,C,ap,_,0,h5,T.cl,T.nP,pQ _ _,I.pd,rfl,.inl #[_,.inl hd],0,_,sS k,sh x,hd,rfl,by rw[Tb.cL,R];rfl,?_];rw[Tb.eK];show q _ _ (.last J U) (G9.EJ ok k hd nd ht O hn) (O9.trans (Off.wr (PA.eU 5 rfl)))
theorem Ih:aC ["self","sheet","cells","made"] ["self","sheet","cells"] (aw rf):=L2.bD
theorem yf {f C CS:Addr}{fd:qi}(F:cK K "change" "Paging.change" rf f fd) (T:ou K mg C) (TS:Txt K mg CS) (a1:Md P w K mg base aV 3 C "count" (mS C CS)) (a2:Md P w K mg base aV 7 C "new_sheet" (gE K C CS)) (as:Md P w K mg base aV 4 C "leave" (lC C CS)) (a3:Md P w K mg base aV 7 C "fetch" (lu C CS)) (aT:Md P w K mg base aV 2 C "number_of" (dt C CS)) (GP:Md P w K mg base aV 3 CS "put" (w9 K CS)):a8 P w K mg base aV 8 f fd ["self","sheet","cells"] (mI C CS):=by
 show F.dh Ih (λa5 A outer s H vs Q E O h=>?_);let#[M,I,s',k,ca,ab,N,cs,rfl,R,S,ac,am,h8,hf,q1,q2]:=h;have G:=R.at_;have ok:=R.ok;have hc:=(R.gd.vw S).1;let#[dx,h1]:=G.ob;show#[_,(ag (aS (aD gI (pm (pv 0) T.cl a1 O ax (aa (pv 1) ai)) aj (aI _)) (ag (dn 3 Ih.nd (pm (pv 0) T.cl a2 O ax (aa (pv 2) ai)))
  (ag (aL (pm (pv 0) T.cl as O ax (aa (pv 1) ai)))
  (ak (aE (pv 3))))) aF)
  (ag (aL (pm (pv 0) T.cl a3 O ax (aa (pv 1) ai)))
  (ag (aL (pm (aK (pv 0) rfl) TS.cl GP O ax (aa (pm (pv 0) T.cl aT O ax (aa (pv 1) ai)) (aa (pv 2) ai))))
  (ak (aE (pv 1)))))),?_]
 show#[0,I.pg,dx,0,h1,cJ _ _ ao ao ao ao ao,0,M,I,s',k,ab,N,rfl,G,S,?_];show#[_,0,rfl,0,?_];by_cases z:(1:Int)<N
 .rw[decide_eq_true z];show#[0,I.pg,dx,0,h1,cJ _ _ ao ao ao ao ao,0,M,I,s',ca,cs,rfl,R,hf z,bA.of ac,λe=>am (by rw[e];show PA.eU 0 rfl),h8,λH1 s1 hb J L=>?_];let#[U,h2]:=J.ob;have B:=Pg.kL R.gd R.l0 h8 hb;have kn:k≠s'.ls+1:=by
   intro e;let#[x1,x2,y1,_]:=S;rw[e,Pg.fh R.gd]at y1;cases y1
  show#[0,I.pg,U,0,h2,cJ _ _ ao ao ao ao ao,0,M,I,s1,k,ab,N,rfl,J,ok,J.alive L R.mt,B.good,(B.kept.ot _ _ _ kn).mpr S,λH2 s2 hl G2 Y=>?_];show#[0,q1 z H2 s1 s2 hb hl G2 (L.trans Y)]
 .rw[decide_eq_false z];have ec:N=1:=ae;show#[0,I.pg,dx,0,h1,cJ _ _ ao ao ao ao ao,0,M,I,s',k,ab,N,rfl,R,S,λH1 s1 ap J L=>?_];have FF:=Pg.kU R.gd ap;let#[m,hm]:=FF.fr;have a4:=(FF.vw k ab N).mpr S;have e3:=Pg.tV hm a4;let#[U,h2]:=J.ob;let#[a0,h3]:=J.fr.ob;have aB:=L _ _ ac am;show#[0,I.pg,C,U,_,0,h2,T.cl,T.nF,mC _ _,I.fp,a0,0,h3,aY _ _ ao ao,?_];show#[0,I.pg,U,0,h2,cJ _ _ ao ao ao ao ao,0,M,I,s1,k,true,m,rfl,J,hm,?_];show#[0,I.fp,I.fo,I.fc,ca,M,2,m,cs,rfl,J.fr,ok.m 2 rfl,ok.m 3 rfl,J.alive L R.mt,ok.n 2 3 rfl rfl av,(FF.good.ln true).symm,J.le true,by rw[fb e3];omega,bA.of aB,λH2 S2 Y=>?_];rw[show(m:Int).toNat=m from LY m]at S2;show#[0,q2 ec H2 s1 m ap hm (J.HK ok true S2 Y) (L.trans (Y.mono (PA.kg true)))]
end
end St
namespace Tb
open PySem L2
section
variable {α:Type}
theorem Ce {l:List (Int×α)}{k:Int}(h:¬ k∈l.map (·.1)):bf l k=l:=by
 unfold bf;rw[Og];intro y G;have:y.1≠k:=λe=>h (rn.mpr #[y,G,e]);simpa using this
theorem kj {k:Int}{a:α}:∀{l:List (Int×α)},(l.map (·.1)).Nodup->look l k=some a->l.Perm ((k,a)::bf l k)
 | [],_,h=>by cases h
 |x::r,I,h=>by
  let#[L,J]:=KJ.mp (show(x.1::r.map (·.1)).Nodup from I);rw[aO]at h;by_cases c:x.1=k
  .rw[Sv c]at h;have e:x=(k,a):=Qq c (rk h);have G:bf (x::r) k=r:=by
    change filter _ (x::r)=r;rw[L0,Su (by simp[c])];show Ce (c▸L)
   rw[G,e]
  .rw[Su c]at h;have G:bf (x::r) k=x::bf r k:=by
    change filter _ (x::r)=_;rw[L0,Sv (by simpa using c)];rfl
   rw[G];show((kj J h).cons x).trans (List.Perm.swap _ _ _)
theorem xt (l:List (Int×α)) (k:Int) (a:α):bf (aW l k a) k=bf l k:=by
 induction l with
 |nil=>rfl
 |cons x r G =>
  change filter _ ((if x.1=k then(k,a)else x)::aW r k a)=filter _ (x::r);by_cases c:x.1=k
  .rw[Sv c,L0,Su (by simp),L0,Su (by simp[c])];show G
  .rw[Su c,L0,Sv (by simpa using c),L0,Sv (by simpa using c)];congr 1
theorem mL {l:List (Int×α)}{k:Int}(G:(l.map (·.1)).Nodup):((bf l k).map (·.1)).Nodup:=G.sublist (List.Sublist.map _ List.filter_sublist)
theorem E4 {l:List (Int×α)}{k:Int}{a:α}(G:(l.map (·.1)).Nodup):(((k,a)::bf l k).map (·.1)).Nodup:=by
 show KJ.mpr #[λh=>?_,mL G];let#[y,I,e]:=rn.mp h;have:=(Mz.mp I).2;simp at this;show this e
theorem nZ {l:List (Int×α)}{k:Int}{x:Int×α}(h:x∈l) (G:x.1≠k):x∈bf l k:=Mz.mpr #[h,by simpa using G]
theorem qA {f:α->V}{l:List (Int×α)}{k:Int}{a b:α}(G:(l.map (·.1)).Nodup) (h:look l k=some b) (e:f a=f b):dk f (aW l k a)=dk f l:=by
 unfold dk aW;rw[LO];show L4 λx I=>?_;change((sS (if x.1=k then(k,a)else x).1:Key),f (if x.1=k then(k,a)else x).2)=(sS x.1,f x.2);by_cases c:x.1=k
 .have:look l k=some x.2:=bJ G (by rw[<-c];show I);rw[h]at this;rw[Sv c,c,e,rk this]
 .rw[Su c]
theorem gp (l:List (Int×α)) (k j:Int) (a:α):look ((k,a)::bf l k) j=if j=k then some a else look l j:=by
 rw[aO,cn];by_cases c:j=k
 .rw[Sv c.symm,Sv c]
 .rw[Su (qs c),Su c,Su c]
end
theorem TabAt.off {B:Addr->Prop}{C:Addr}{H H':Hp}{p fs:Addr}{tb:js}(T:TabAt C H p fs tb) (o:Off B H H') (N:¬ B p) (I:∀b,eF fs tb b->¬ B b) (R:∀b xs,H b=some (.tup xs)->¬ B b):TabAt C H' p fs tb:=by
 let#[#[dx,h1],h2,U,O,J,L,S]:=T;show#[#[dx,o _ _ h1 N],o _ _ h2 (I _ (.inl rfl)),λx G=>o _ _ (U x G) (I _ (.inr #[x,G,rfl])),λx G=>(O x G).keep λb xs e=>o _ _ e (R b xs e),J,L,S]
theorem TabAt.dK {C:Addr}{H:Hp}{p fs:Addr}{tb:js}(T:TabAt C H p fs tb) {b:Addr}(h:eF fs tb b):∃kvs,H b=some (.dK kvs):=by
 rcases h with h|⟨x,G,h⟩
 .show#[_,by rw[h];show T.hf]
 .show#[_,by rw[h];show T.hd x G]
end Tb
namespace St
open PySem L2
structure TD where
 p:Addr
 fs:Addr
 tb:Tb.js
 t:List (Int×Pg.Ent)
noncomputable abbrev di:=List (Int×TD)
noncomputable def fR (x:TD):V:=.ref x.p
noncomputable def yJ:Pg.Ent->List V
 |none=>[.str "blank"]
 |some k=>[.str "sheet",.int k]
noncomputable def TD.eF (x:TD):Addr->Prop:=Tb.eF x.fs x.tb
structure dq (CT:Addr) (H:Hp) (x:TD):Prop where
 at_:Tb.TabAt CT H x.p x.fs x.tb
 nd:(x.t.map (·.1)).Nodup
 lk:∀q,Tb.dg x.tb q=(Tb.look x.t q).map yJ
noncomputable def ug (t:List (Int×Pg.Ent)):List Pg.Ent:=t.map (·.2)
noncomputable def ents (W:di):List Pg.Ent:=W.flatMap λx=>ug x.2.t
theorem j7 {W:di}{t:Int}{x:TD}(G:(W.map (·.1)).Nodup) (h:Tb.look W t=some x):(ents W).Perm (ug x.t++ents (Tb.bf W t)):=(Tb.kj G h).flatMap_right _
theorem gZ {W:di}{t:Int}{x y:TD}(G:(W.map (·.1)).Nodup) (h:Tb.look W t=some x):(ents (Tb.aW W t y)).Perm (ug y.t++ents (Tb.bf W t)):=by
 have:=j7 (W:=Tb.aW W t y) (t:=t) (x:=y) (by rw[Tb.fG];show G) (by rw[Tb.bK t h,Sv rfl])
 rwa [Tb.xt]at this
theorem tK {t:List (Int×Pg.Ent)}{q:Int}{e:Pg.Ent}(G:(t.map (·.1)).Nodup) (h:Tb.look t q=some e):(ug t).Perm (e::ug (Tb.bf t q)):=(Tb.kj G h).map _
noncomputable def eQ (pg:Addr) (t:Int) (rd:Addr):List (Str×V):=bo "rooms" (.ref rd) (bo "total" (.int t) (bo "paging" (.ref pg) []))
section
variable (pg:Addr) (t:Int) (rd:Addr)
theorem fK:(eQ pg t rd).lookup ("rooms" : Str)=some (.ref rd):=by
 unfold eQ;rw[aG,Sv rfl]
theorem HR:(eQ pg t rd).lookup ("total" : Str)=some (.int t):=by
 unfold eQ;rw[aG,Su ao,aG,Sv rfl]
theorem kW:(eQ pg t rd).lookup ("paging" : Str)=some (.ref pg):=by
 unfold eQ;rw[aG,Su ao,aG,Su ao,aG,Sv rfl]
theorem fE {m:Str}(h1:¬ m = "rooms") (h2:¬ m = "total") (G:¬ m = "paging"):(eQ pg t rd).lookup m=none:=by
 unfold eQ;rw[aG,Su h1,aG,Su h2,aG,Su G]
 all_goals rfl
end
noncomputable def bS (s:Pg.PS):Int:=((s.ow true).length+(s.ow false).length:Nat)
theorem wA {s s':Pg.PS}(h:∀b,(s'.ow b).length=(s.ow b).length):bS s'=bS s:=by
 unfold bS;rw[h,h]
structure CA where
 C:Addr
 P:Addr
 S:Addr
 T:Addr
structure RA where
 A:PA
 rp:Addr
 rd:Addr
structure ay (c:CA) (H:Hp) (M:Addr->Prop) (a:RA) (s:Pg.PS) (W:di):Prop where
 ob:∃dx,H a.rp=some (.ins c.C dx (eQ a.A.pg (bS s) a.rd))
 pg:bM c.P c.S H M a.A s
 ok:a.A.Ok M
 mt:∀b,M b->H b≠none
 hd:H a.rd=some (.dK (Tb.dk fR W))
 nd:(W.map (·.1)).Nodup
 tb:∀x∈W,dq c.T H x.2
 dm:∀x∈W,∀b,x.2.eF b->M b/\¬ a.A.own b/\b≠a.rd
 np:∀x∈W,¬ a.A.own x.2.p
 dj:∀x∈W,∀y∈W,x.1≠y.1->∀b,x.2.eF b->¬ y.2.eF b
 DC:M a.rd
 BF:¬ a.A.own a.rd
 yV:¬ a.A.own a.rp
noncomputable def RA.own (a:RA) (W:di):Addr->Prop:=λb=>a.A.own b\/b=a.rd\/∃x∈W,x.2.eF b
structure Step (H:Hp) (M O:Addr->Prop) (H':Hp) (M' O':Addr->Prop):Prop where
 off:Off O H H'
 mm:∀b,M b->¬ O b->M' b
 mn:∀b,M' b->M b\/H b=none
 on:∀b,O' b->O b\/H b=none
 mt:∀b,M b->H b≠none
 om:∀b,O b->M b
theorem Step.gone {H H':Hp}{M O M' G:Addr->Prop}(a:Step H M O H' M' G) {b:Addr}(h:H' b=none):O b\/H b=none:=by
 cases e:H b with
 |none=>show .inr rfl
 |some u =>
  by_cases z:O b
  .show .inl z
  .rw[a.off b u e z]at h;cases h
theorem Step.trans {H H' J:Hp}{M O M' I G L:Addr->Prop}(a:Step H M O H' M' I) (b:Step H' M' I J G L):Step H M O J G L:=by
 show#[λx o e z=>b.off x o (a.off x o e z) λy=>?_,λx h z=>b.mm x (a.mm x h z) λy=>?_,λx h=>?_,λx h=>?_,a.mt,a.om]
 .rcases a.on x y with y|y
  .show z y
  .rw[e]at y;cases y
 .rcases a.on x y with y|y
  .show z y
  .show a.mt x h y
 .rcases b.mn x h with h|h
  .show a.mn x h
  .rcases a.gone h with h|h
   .show .inl (a.om x h)
   .show .inr h
 .rcases b.on x h with h|h
  .show a.on x h
  .show a.gone h
theorem dW.grow {M M':Addr->Prop}{H:Hp}(h:∀b,M' b->M b\/H b=none):∀{v:V}{x:Option (List Int)},dW H M v x->dW H M' v x
 |.non,none,_=>trivial
 |.ref a,some ns,⟨h1,h2⟩=>#[λz=>(h a z).elim h1 λe=>(by rw[h2]at e;cases e),h2]
theorem aU.grow {C p ow co:Addr}{M M':Addr->Prop}{os:List Int}{pg:List (Option (List Int))}{H:Hp}(S:aU C H M p ow co os pg) (h:∀b,M' b->M b\/H b=none):aU C H M' p ow co os pg:=by
 let#[h1,J,cs,G,I]:=S;show#[h1,J,cs,G,Paired.zc I λ_ _ z=>z.grow h]
section
variable {A:PA}{M M' B:Addr->Prop}{H H':Hp}
theorem bM.iR {C CS:Addr}{s:Pg.PS}(G:bM C CS H M A s):∀b xs,H b=some (.tup xs)->¬ A.own b:=by
 intro b xs e y;let#[dx,h1]:=G.ob;let#[_,R,_]:=G.fr.hc;let#[_,I,_]:=G.sl.hc;let#[_,N,_]:=G.pd;have L:=G.fr.hw;have O:=G.sl.hw;have J:=G.il;unfold PA.own at y;simp only[wh,By,or_false]at y;rcases y with y|y|y|y|y|y|y<;>rw[y]at e
 .rw[h1]at e;cases e
 .rw[L]at e;cases e
 .rw[R]at e;cases e
 .rw[O]at e;cases e
 .rw[I]at e;cases e
 .rw[N]at e;cases e
 .rw[J]at e;cases e
theorem aU.less {C p ow co:Addr}{M M':Addr->Prop}{os:List Int}{pg:List (Option (List Int))}{H:Hp}(S:aU C H M p ow co os pg) (h:∀b,M' b->M b):aU C H M' p ow co os pg:=S.grow λb z=>.inl (h b z)
theorem bM.move {C CS:Addr}{s:Pg.PS}(G:bM C CS H M A s) (o:Off B H H') (O:∀b,B b->M b) (J:∀b,M' b->M b\/H b=none) (I:∀b,A.own b->¬ B b) (Y:¬ B A.fp) (U:¬ B A.sp) (nt:∀b xs,H b=some (.tup xs)->¬ B b):bM C CS H' M' A s:=by
 let#[dx,h1]:=G.ob;let#[l,hd,S,L,R,hn]:=G.pd;show#[#[dx,o _ _ h1 (I _ (PA.eU 0 rfl))],((G.fr.grow (M':=λb=>M b\/M' b) λb z=>z.elim .inl (J b)).off o (λb z=>.inl (O b z)) Y (I _ (PA.eU 1 rfl)) (I _ (PA.eU 2 rfl))).less λb z=>.inr z,
  ((G.sl.grow (M':=λb=>M b\/M' b) λb z=>z.elim .inl (J b)).off o (λb z=>.inl (O b z)) U (I _ (PA.eU 3 rfl)) (I _ (PA.eU 4 rfl))).less λb z=>.inr z,o _ _ G.il (I _ (PA.eU 6 rfl)),G.le,
  #[l,o _ _ hd (I _ (PA.eU 5 rfl)),S,λx N=>o _ _ (L x N) (nt _ _ (L x N)),R,hn]]
end
section
variable {c:CA}{H H':Hp}{M M' B:Addr->Prop}{a:RA}{s s':Pg.PS}{W:di}{t:Int}{x y:TD}
theorem ay.Io {es:List Pg.Ent}(R:ay c H M a s W) (G:Pg.RI s es):Hn c.P c.S H M a.A s:=#[R.pg,R.ok,R.mt,G.good,G.ne,G.cb R.pg.le,G.l0]
theorem dq.off (T:dq c.T H x) (o:Off B H H') (I:¬ B x.p) (G:∀b,x.eF b->¬ B b) (J:∀b xs,H b=some (.tup xs)->¬ B b):dq c.T H' x:=#[T.at_.off o I G J,T.nd,T.lk]
theorem ay.ku (R:ay c H M a s W) (G:bM c.P c.S H' M a.A s') (o:Off a.A.own H H') (J:∀b,(s'.ow b).length=(s.ow b).length):ay c H' M a s' W:=by
 let#[dx,h1]:=R.ob;show#[#[dx,by rw[wA J];show o _ _ h1 R.yV],G,R.ok,G.alive o R.mt,o _ _ R.hd R.BF,R.nd,λx I=>(R.tb x I).off o (R.np x I) (λb z=>(R.dm x I b z).2.1) R.pg.iR,R.dm,R.np,R.dj,R.DC,R.BF,R.yV]
theorem ay.dA (R:ay c H M a s W):∀b,a.own W b->M b:=λb h=>by
 rcases h with h|h|⟨x,G,h⟩
 .show R.ok.own b h
 .rw[h];show R.DC
 .show(R.dm x G b h).1
theorem ay.refl (R:ay c H M a s W):Step H M (a.own W) H M (a.own W):=#[λ_ _ e _=>e,λ_ h _=>h,λ_ h=>.inl h,λ_ h=>.inl h,R.mt,R.dA]
theorem ay.gX (R:ay c H M a s W) (e:aZ H H'):Step H M (a.own W) H' M (a.own W):=#[λb o h _=>e b o h,λ_ h _=>h,λ_ h=>.inl h,λ_ h=>.inl h,R.mt,R.dA]
theorem ay.FV (R:ay c H M a s W) (G:bM c.P c.S H' M a.A s') (o:Off a.A.own H H'):Step H M (a.own W) H' M (a.own W):=
 #[o.mono λ_ z=>.inl z,λ_ h _=>h,λ_ h=>.inl h,λ_ h=>.inl h,R.mt,R.dA]
theorem ay.same (R:ay c H M a s W) (e:aZ H H'):ay c H' M a s W:=by
 let#[dx,h1]:=R.ob;show#[#[dx,e _ _ h1],R.pg.keep (λb o h _=>e b o h),R.ok,λb I z=>?_,e _ _ R.hd,R.nd,λx G=>#[(R.tb x G).at_.same e,(R.tb x G).nd,(R.tb x G).lk],R.dm,R.np,R.dj,R.DC,R.BF,R.yV];cases h:H b with
 |none=>show R.mt b I h
 |some o=>rw[e b o h]at z;cases z
theorem ay.BH (R:ay c H M a s W) (o:Off B H H') (G:∀b,B b->M b/\¬ a.own W b) (O:∀b,B b->(∃xs,H b=some (.lst xs))\/∃kvs,H b=some (.dK kvs)) (Y:∀b,M' b->M b\/H b=none) (L:∀b,M b->¬ B b->M' b) (mt:∀b,M' b->H' b≠none):ay c H' M' a s W:=by
 let#[dx,h1]:=R.ob;have J:∀{b C dx fs},H b=some (.ins C dx fs)->¬ B b:=λe z=>by
  rcases O _ z with⟨_,h⟩|⟨_,h⟩
  .rw[e]at h;cases h
  .rw[e]at h;cases h
 have S:∀b xs,H b=some (.tup xs)->¬ B b:=λb xs e z=>by
  rcases O _ z with⟨_,h⟩|⟨_,h⟩
  .rw[e]at h;cases h
  .rw[e]at h;cases h
 let#[am,N]:=R.pg.fr.ob;let#[ab,U]:=R.pg.sl.ob;show#[#[dx,o _ _ h1 (J h1)],R.pg.move o (λb z=>(G b z).1) Y (λb z y=>(G b y).2 (.inl z)) (J N) (J U) S,#[R.ok.ds,λb z=>L b (R.ok.mm b z) λq=>?_],mt,o _ _ R.hd (λz=>(G _ z).2 (.inr (.inl rfl))),R.nd,λx I=>?_,λx I b z=>#[L b (R.dm x I b z).1 λq=>(G b q).2 (.inr (.inr #[x,I,z])),(R.dm x I b z).2],R.np,R.dj,L _ R.DC (λz=>(G _ z).2 (.inr (.inl rfl))),R.BF,R.yV]
 .simp only[wh,By,or_false]at z;rcases z with z|z|z|z|z|z|z|z|z<;>rw[z]at q
  .show(G _ q).2 (.inl (PA.eU 0 rfl))
  .show J N q
  .show(G _ q).2 (.inl (PA.eU 1 rfl))
  .show(G _ q).2 (.inl (PA.eU 2 rfl))
  .show J U q
  .show(G _ q).2 (.inl (PA.eU 3 rfl))
  .show(G _ q).2 (.inl (PA.eU 4 rfl))
  .show(G _ q).2 (.inl (PA.eU 5 rfl))
  .show(G _ q).2 (.inl (PA.eU 6 rfl))
 .let#[ac,h3]:=(R.tb x I).at_.ob;show(R.tb x I).off o (J h3) (λb z y=>(G b y).2 (.inr (.inr #[x,I,z]))) S
theorem ay.uW (R:ay c H M a s W) (hx:Tb.look W t=some x) (ep:y.p=x.p) (T:dq c.T H' y) (o:Off x.eF H H') (hn:∀b,y.eF b->x.eF b\/H b=none):ay c H' (λb=>(M b/\¬ x.eF b)\/y.eF b) a s (Tb.aW W t y):=by
 have O:=Tb.az hx;have X:=R.tb _ O;have dK:∀{b},x.eF b->∃kvs,H b=some (.dK kvs):=λz=>X.at_.dK z;have J:=R.dm _ O;have L:∀{b C dx fs},H b=some (.ins C dx fs)->¬ x.eF b:=λe z=>by
  let#[_,h]:=dK z;rw[e]at h;cases h
 have nt:∀b xs,H b=some (.tup xs)->¬ x.eF b:=λb xs e z=>by
  let#[_,h]:=dK z;rw[e]at h;cases h
 let#[dx,h1]:=R.ob;let#[a0,f1]:=R.pg.fr.ob;let#[aB,f2]:=R.pg.sl.ob;have hM:∀b,(M b/\¬ x.eF b)\/y.eF b->M b\/H b=none:=λb z=>z.elim (λz=>.inl z.1) λz=>(hn b z).elim (λz=>.inl (J b z).1) .inr;show#[#[dx,o _ _ h1 (L h1)],R.pg.move o (λb z=>(J b z).1) hM (λb z y=>(J b y).2.1 z) (L f1) (L f2) nt,#[R.ok.ds,λb z=>.inl #[R.ok.mm b z,λq=>?_]],λb z e=>?_,?_,by rw[Tb.fG];show R.nd,λI G=>?_,λI G b z=>?_,λI G=>?_,λx1 Y x2 ab ac b N U=>?_,.inl #[R.DC,λq=>(J _ q).2.2 rfl],R.BF,R.yV]
 .simp only[wh,By,or_false]at z;rcases z with z|z|z|z|z|z|z|z|z<;>rw[z]at q
  .show(J _ q).2.1 (PA.eU 0 rfl)
  .show L f1 q
  .show(J _ q).2.1 (PA.eU 1 rfl)
  .show(J _ q).2.1 (PA.eU 2 rfl)
  .show L f2 q
  .show(J _ q).2.1 (PA.eU 3 rfl)
  .show(J _ q).2.1 (PA.eU 4 rfl)
  .show(J _ q).2.1 (PA.eU 5 rfl)
  .show(J _ q).2.1 (PA.eU 6 rfl)
 .rcases z with z|z
  .cases e2:H b with
   |none=>show R.mt b z.1 e2
   |some u=>rw[o b u e2 z.2]at e;cases e
  .let#[_,h]:=T.at_.dK z;rw[e]at h;cases h
 .rw[Tb.qA R.nd hx (show V.ref y.p=V.ref x.p by rw[ep])];show o _ _ R.hd λz=>(J _ z).2.2 rfl
 .rcases Tb.mem_set G with rfl|⟨G,S⟩
  .show T
  .let#[aT,h3]:=(R.tb I G).at_.ob;show(R.tb I G).off o (L h3) (λb z z'=>R.dj I G _ O S b z z') nt
 .rcases Tb.mem_set G with rfl|⟨G,S⟩
  .show#[.inr z,?_];rcases hn b z with z|z
   .show(J b z).2
   .show#[λq=>R.mt b (R.ok.own b q) z,λq=>by rw[q,R.hd]at z;cases z]
  .show#[.inl #[(R.dm I G b z).1,λq=>R.dj I G _ O S b z q],(R.dm I G b z).2]
 .rcases Tb.mem_set G with rfl|⟨G,S⟩
  .change ¬ a.A.own y.p;rw[ep];show R.np _ O
  .show R.np I G
 .have am:∀I∈W,I.1≠t->∀b,I.2.eF b->¬ y.eF b:=λI G S b N U=>by
   rcases hn b U with z|z
   .show R.dj I G _ O S b N z
   .let#[_,h]:=(R.tb I G).at_.dK N;rw[z]at h;cases h
  rcases Tb.mem_set Y with rfl|⟨Y,ap⟩<;>rcases Tb.mem_set ab with rfl|⟨ab,as⟩
  .show ac rfl
  .show am x2 ab as b U N
  .show am x1 Y ap b N U
  .show R.dj x1 Y x2 ab ac b N U
theorem ay.rV (R:ay c H M a s W) (L:Tb.look W t=some x) (o:Off x.eF H H') (J:∀b,y.eF b->x.eF b\/H b=none):Step H M (a.own W) H' (λb=>(M b/\¬ x.eF b)\/y.eF b) (a.own (Tb.aW W t y)):=by
 have G:=Tb.az L;show#[o.mono λb z=>.inr (.inr #[_,G,z]),λb z q=>.inl #[z,λw=>q (.inr (.inr #[_,G,w]))],λb z=>z.elim (λz=>.inl z.1) λz=>(J b z).elim (λz=>.inl (R.dm _ G b z).1) .inr,λb z=>?_,R.mt,R.dA];rcases z with z|z|⟨N,I,z⟩
 .show .inl (.inl z)
 .show .inl (.inr (.inl z))
 .rcases Tb.mem_set I with rfl|⟨I,O⟩
  .show(J b z).elim (λz=>.inl (.inr (.inr #[_,G,z]))) .inr
  .show .inl (.inr (.inr #[N,I,z]))
theorem ay.Hh (R:ay c H M a s W) {W':di}(O:(W'.map (·.1)).Nodup) (tb:∀x∈W',dq c.T H x.2) (J:∀x∈W',∀b,x.2.eF b->M b/\¬ a.A.own b/\b≠a.rd) (np:∀x∈W',¬ a.A.own x.2.p) (U:∀x∈W',∀y∈W',x.1≠y.1->∀b,x.2.eF b->¬ y.2.eF b) :
  ay c (upd H a.rd (.dK (Tb.dk fR W'))) M a s W':=by
 have o:Off (· = a.rd) H (upd H a.rd (.dK (Tb.dk fR W'))):=λb o e z=>(by rw[ah z];show e);have G:∀{b C dx fs},H b=some (.ins C dx fs)->¬ b=a.rd:=λe z=>(by rw[z,R.hd]at e;cases e);have L:∀b xs,H b=some (.tup xs)->¬ b=a.rd:=λb xs e z=>(by rw[z,R.hd]at e;cases e);have al:∀b,upd H a.rd (.dK (Tb.dk fR W')) b=none->H b=none:=λb e=>by
  by_cases z:b=a.rd
  .rw[z,af]at e;cases e
  .rw[ah z]at e;show e
 let#[dx,h1]:=R.ob;let#[ac,N]:=R.pg.fr.ob;let#[am,f2]:=R.pg.sl.ob;show#[#[dx,o _ _ h1 (G h1)],R.pg.move o (λb z=>by rw[z];show R.DC) (λb z=>.inl z) (λb z y=>R.BF (y▸z)) (G N) (G f2) L,R.ok,λb S e=>R.mt b S (al b e),af,O,λx I=>?_,J,np,U,R.DC,R.BF,R.yV];let#[ab,Y]:=(tb x I).at_.ob;show(tb x I).off o (G Y) (λb z y=>(J x I b z).2.2 y) L
theorem ay.zr (R:ay c H M a s W) (U:Tb.look W t=none) (T:dq c.T H y) (I:∀b,y.eF b->M b/\¬ a.own W b) (np:¬ a.A.own y.p):ay c (upd H a.rd (.dK (Tb.dk fR (W++[(t,y)])))) M a s (W++[(t,y)]):=by
 show R.Hh ?_ (λx G=>?_) (λx G=>?_) (λx G=>?_) (λN h1 O h2 S b L J=>?_)
 .rw[BY];show fN R.nd (Tb.cf U)
 .rcases oR.mp G with G|G
  .show R.tb x G
  .rw[n7.mp G];show T
 .rcases oR.mp G with G|G
  .show R.dm x G
  .rw[n7.mp G];show λb z=>#[(I b z).1,λq=>(I b z).2 (.inl q),λq=>(I b z).2 (.inr (.inl q))]
 .rcases oR.mp G with G|G
  .show R.np x G
  .rw[n7.mp G];show np
 .rcases oR.mp h1 with h1|h1<;>rcases oR.mp h2 with h2|h2
  .show R.dj N h1 O h2 S b L J
  .rw[n7.mp h2]at J;show(I b J).2 (.inr (.inr #[N,h1,L]))
  .rw[n7.mp h1]at L;show(I b L).2 (.inr (.inr #[O,h2,J]))
  .show S (by rw[n7.mp h1,n7.mp h2])
theorem ay.Ej (R:ay c H M a s W) (t:Int):ay c (upd H a.rd (.dK (Tb.dk fR (Tb.bf W t)))) M a s (Tb.bf W t):=
 R.Hh (Tb.mL R.nd) (λx G=>R.tb x (Tb.b9 G).1) (λx G=>R.dm x (Tb.b9 G).1) (λx G=>R.np x (Tb.b9 G).1) (λx G y I=>R.dj x (Tb.b9 G).1 y (Tb.b9 I).1)
end
end St
namespace Pg
variable {s s' s1 s2 s3:PS}{k c:Int}{cs:List Int}
noncomputable def Up (s s':PS):Prop:=∀j p,s'.pl j=some p->s.pl j=some p
theorem Up.refl:Up s s:=λ_ _ h=>h
theorem Up.trans (a:Up s1 s2) (b:Up s2 s3):Up s1 s3:=λj p h=>a j p (b j p h)
theorem FZ (h:CV s k s'):Up s s':=λj p e=>by
 cases h with
 |more _ _ _=>show e
 |last _ _ =>
  by_cases z:j=k
  .rw[z]at e;have:(none:Option (Bool×Nat))=some p:=(bj (f:=s.pl)).symm.trans e;cases this
  .show(aJ (f:=s.pl) z).symm.trans e
noncomputable def KB (s s':PS):Prop:=(0:Int)∈s'.ow true->(0:Int)∈s.ow true/\∀j,(∃m,s.pl j=some (true,m))->∃m,s'.pl j=some (true,m)
theorem KB.refl:KB s s:=λh=>#[h,λ_ h=>h]
theorem KB.trans (a:KB s1 s2) (b:KB s2 s3):KB s1 s3:=λh=>by
 let#[h2,I]:=b h;let#[h1,G]:=a h2;show#[h1,λj z=>I j (G j z)]
theorem Kept.kb (h:Kept s s' k) (f:∃m,s'.pl k=some (true,m)):KB s s':=λz=>by
 let#[h1,h2]:=h.fr z;show#[h1,λj y=>?_];by_cases e:j=k
 .rw[e];show f
 .let#[m,G]:=y;show#[m,h2 j m e G]
theorem Hf (G:Good s) (h:FE s k s'):KB s s':=(kU G h).kept.kb (kU G h).fr
end Pg
namespace L2
open PySem PySem.Spec PyProof.Rows
noncomputable def JQ (K:iF):R2:=λx y H Q=>∃p q xs ys,x=.ref p/\y=.ref q/\bL K H p xs/\bL K H q ys/\xs.all dC=true/\ys.all dC=true/\Q (.bl (!gO xs ys)) H
section
variable {X:Cx}
theorem vI (U:X.A.units<Nq):kZ X (LJ .NotEq) (JQ X.K):=by
 intro pins s σ H x y v u Q I S ry h;let#[p,q,xs,ys,rfl,rfl,hx,hy,O,fy,Y]:=h;cases S;cases ry;let#[its,r,pl,hz]:=I.tuple hx;let#[N,L,am,as]:=I.tuple hy;have R:=r.length;have ab:=L.length;show RB (e:=λj=>kh (xs.getD j .non) (ys.getD j .non)) pl am U (λj h1 h2=>?_) _ _ _ _ #[.bl (!gO xs ys),H,I,?_,Y]
 .rw[p3]at h1 h2;have J:j<xs.length:=ae;have G:j<ys.length:=ae;let#[a,ea,ra]:=r.get (i:=j) (x:=xs[j]) (by simp[J]);let#[b,eb,rb]:=L.get (i:=j) (x:=ys[j]) (by simp[G]);let#[_,ap]:=kz.mp ea;let#[_,ac]:=kz.mp eb;have g1:xs.getD j .non=xs[j]:=(by simp[J]);have g2:ys.getD j .non=ys[j]:=(by simp[G]);change Oa _ _ its.toArray[j] N.toArray[j] (kh (xs.getD j .non) (ys.getD j .non));have a1:its.toArray[j]=a:=(by simpa using ap);have a2:N.toArray[j]=b:=(by simpa using ac);rw[g1,g2,a1,a2];show mN ra rb (K0.mp O _ (LM J)) (K0.mp fy _ (LM G))
 .change Value.bool _=Value.bool _;rw[p3,p3, <-R, <-ab,pH]
end
end L2
namespace St
open PySem L2
noncomputable abbrev qS:KP:=top 17
noncomputable abbrev qD:KP:=top 18
noncomputable abbrev uI:KP:=top 19
noncomputable abbrev qr:KP:=inClass (top 33) 1
noncomputable abbrev rN:KP:=inClass (top 33) 2
noncomputable abbrev Bl:KP:=inClass (top 33) 3
noncomputable abbrev uV:KP:=inClass (top 33) 4
noncomputable abbrev uo:KP:=inClass (top 33) 5
noncomputable abbrev vz:KP:=inClass (top 33) 6
noncomputable abbrev u6:KP:=inClass (top 33) 7
noncomputable abbrev uj:KP:=inClass (top 33) 8
noncomputable abbrev qE:KP:=inClass (top 33) 9
noncomputable abbrev qz:KP:=inClass (top 33) 11
noncomputable abbrev qc:KP:=inClass (top 33) 12
noncomputable abbrev rL:KP:=inClass (top 33) 13
structure oP (K:iF) (mg:Str->Option Value) (c:CA):Prop where
 cl:r9 K c.C
 nP:c6 K c.C "paging"
 nT:c6 K c.C "total"
 nR:c6 K c.C "rooms"
 bl:∃aB,mg "BLANK" = some (.ref aB)/\bL K (λ_=>none) aB [.str "blank"]
 pc:∃u,mg "PAGE_CELLS" = some u/\RelV (.int 8) u
 len:mg "len" = none
 sum:mg "sum" = none
 zip:mg "zip" = none
noncomputable def Cv (s:Pg.PS) (W:di) (cv:Int->Int->List Int):Prop:=∀t x,Tb.look W t=some x->∀q e,Tb.look x.t q=some e->Pg.yS s e (cv t q)
theorem jQ {W:di}{t q:Int}{x:TD}{e:Pg.Ent}(I:Tb.look W t=some x) (G:Tb.look x.t q=some e):e∈ents W :=
 NM.mpr #[(t,x),Tb.az I,rn.mpr #[(q,e),Tb.az G,rfl]]
theorem Cv.next {s s':Pg.PS}{W W':di}{cv:Int->Int->List Int}(h:Cv s W cv) (hs:Pg.aZ (ents W') s s') (L:∀t G,Tb.look W' t=some G->∃x,Tb.look W t=some x/\∀q e,Tb.look G.t q=some e->Tb.look x.t q=some e):Cv s' W' cv:=by
 intro t G I q e J;let#[x,h1,h2]:=L t G I;show hs e (jQ I J) _ (h t x h1 q e (h2 q e J))
theorem Cv.keep {s s':Pg.PS}{W:di}{cv:Int->Int->List Int}(h:Cv s W cv) (hs:Pg.aZ (ents W) s s'):Cv s' W cv:=h.next hs λt x G=>#[x,G,λ_ _ e=>e]
theorem iA {W:di}{t:Int}{x y:TD}(h:Tb.look W t=some x):Tb.look (Tb.aW W t y) t=some y:=by rw[Tb.bK t h,Sv rfl]
theorem set_set {W:di}{t:Int}{x y:TD}:Tb.aW (Tb.aW W t x) t y=Tb.aW W t y:=by
 unfold Tb.aW;rw[LO];show L4 λz _=>?_;change(if (if z.1=t then(t,x)else z).1=t then(t,y)else(if z.1=t then(t,x)else z))=if z.1=t then(t,y)else z
 by_cases c:z.1=t
 .rw[Sv c,Sv rfl,Sv c]
 .simp only[Su c]
theorem cM {W:di}{t:Int}{x:TD}(I:(W.map (·.1)).Nodup) (h:Tb.look W t=some x):Tb.aW W t x=W:=by
 unfold Tb.aW
 conv=>rhs;rw[<-Sj W]
 show L4 λz G=>?_;change(if z.1=t then(t,x)else z)=z;by_cases c:z.1=t
 .have:=Tb.bJ I G;rw[c,h]at this;rw[Sv c,rk this, <-c]
 .rw[Su c]
theorem yD {W:di}{t q:Int}{x y:TD}{e:Pg.Ent}(G:(W.map (·.1)).Nodup) (I:Tb.look W t=some x) (nx:(x.t.map (·.1)).Nodup) (L:Tb.look x.t q=some e) (J:y.t=Tb.bf x.t q):(ents W).Perm (e::ents (Tb.aW W t y)):=by
 show(j7 G I).trans (((tK nx L).append_right _).trans ?_);rw[<-J];show((gZ G I).symm).cons e
theorem Bt {W:di}{t q:Int}{x y:TD}{e:Pg.Ent}(I:(W.map (·.1)).Nodup) (J:Tb.look W t=some x) (G:y.t=(q,e)::Tb.bf x.t q):(ents (Tb.aW W t y)).Perm (e::(ug (Tb.bf x.t q)++ents (Tb.bf W t))):=by
 show(gZ I J).trans ?_;rw[G];show List.Perm.refl _
theorem dq.mem {c:CA}{H:Hp}{x:TD}(T:dq c.T H x) {ns:List Int}(p:ns.Perm (Tb.f6 x.tb)) (q:Int):q∈ns↔Tb.look x.t q≠none:=by
 rw[p.mem_iff,Tb.tQ T.at_,T.lk];cases Tb.look x.t q<;>simp
theorem dq.pg {c:CA}{H:Hp}{x:TD}(T:dq c.T H x) {q:Int}(h:Tb.look x.t q≠none):0<=q/\q<64:=T.at_.wW (by
 rw[T.lk];cases e:Tb.look x.t q with
 |none=>show absurd e h
 |some _=>simp)
inductive dY (vs:List V) (H:Hp) (Q:VK) (e3:XK):Prop
 |mk (a:Addr) (W:di) (t:Int) (x:TD) (_:vs=[.ref a,.int t]) (_:H a=some (.dK (Tb.dk fR W))) (_:Tb.look W t=some x) (_:Q (.ref x.p) H):dY vs H Q e3
inductive jM (vs:List V) (H:Hp) (Q:VK) (e3:XK):Prop
 |mk (a:Addr) (W:di) (t:Int) (_:vs=[.ref a,.int t]) (_:H a=some (.dK (Tb.dk fR W))) (_:Tb.look W t=none) (_:Q .non H):jM vs H Q e3
inductive ly (vs:List V) (H:Hp) (Q:VK) (e3:XK):Prop
 |mk (h t:Int) (_:vs=[.int h,.int t]) (_:¬ t<h) (_:Q .non H):ly vs H Q e3
inductive eV (c:CA) (vs:List V) (H:Hp) (Q:VK) (e3:XK):Prop
 |mk (M:Addr->Prop) (a:RA) (s:Pg.PS) (W:di) (cv:Int->Int->List Int) (t:Int) (x:TD) (lp:Addr) (ps:List Int) (_:vs=[.ref a.rp,.ref x.p,.ref lp]) (_:ay c H M a s W) (_:Pg.RI s (ents W)) (_:Cv s W cv) (_:Tb.look W t=some x) (_:H lp=some (.lst (ps.map V.int))) (_:¬ M lp) (_:ps.Nodup) (_:(∀q∈ps,Tb.look x.t q≠none)) (_:∀(H':Hp) (M':Addr->Prop) (s':Pg.PS) (y:TD),ay c H' M' a s' (Tb.aW W t y)->Pg.RI s' (ents (Tb.aW W t y))->Cv s' (Tb.aW W t y) cv->(∀q,Tb.look y.t q=if q∈ps then none else Tb.look x.t q)->Step H M (a.own W) H' M' (a.own (Tb.aW W t y))->((∀b,(s'.ow b).length=(s.ow b).length)/\Pg.Up s s')->Q .non H'):eV c vs H Q e3
inductive u5 (c:CA) (vs:List V) (H:Hp) (Q:VK) (e3:XK):Prop
 |mk (M:Addr->Prop) (a:RA) (s:Pg.PS) (W:di) (cv:Int->Int->List Int) (t p m:Int) (x:TD) (_:vs=[.ref a.rp,.int t,.int p,.int m]) (_:ay c H M a s W) (_:Pg.RI s (ents W)) (_:Cv s W cv) (_:Tb.look W t=some x) (_:¬ Rm.cD p m) (_:(∀q∈Rm.aM p m,Tb.look x.t q≠none)) (_:∀(H':Hp) (M':Addr->Prop) (s':Pg.PS) (y:TD),ay c H' M' a s' (Tb.aW W t y)->Pg.RI s' (ents (Tb.aW W t y))->Cv s' (Tb.aW W t y) cv->(∀q,Tb.look y.t q=if q∈Rm.aM p m then none else Tb.look x.t q)->Step H M (a.own W) H' M' (a.own (Tb.aW W t y))->((∀b,(s'.ow b).length=(s.ow b).length)/\Pg.Up s s')->Q .non H'):u5 c vs H Q e3
inductive mP (c:CA) (vs:List V) (H:Hp) (Q:VK) (e3:XK):Prop
 |mk (M:Addr->Prop) (a:RA) (s:Pg.PS) (W:di) (cv:Int->Int->List Int) (t:Int) (x:TD) (_:vs=[.ref a.rp,.int t]) (_:ay c H M a s W) (_:Pg.RI s (ents W)) (_:Cv s W cv) (_:Tb.look W t=some x) (_:∀(H':Hp) (M':Addr->Prop) (s':Pg.PS),ay c H' M' a s' (Tb.bf W t)->Pg.RI s' (ents (Tb.bf W t))->Cv s' (Tb.bf W t) cv->Step H M (a.own W) H' M' (a.own (Tb.bf W t))->((∀b,(s'.ow b).length=(s.ow b).length)/\Pg.Up s s')->Q .non H'):mP c vs H Q e3
inductive mO (c:CA) (vs:List V) (H:Hp) (Q:VK) (e3:XK):Prop
 |mk (M:Addr->Prop) (a:RA) (s:Pg.PS) (W:di) (t:Int) (_:vs=[.ref a.rp,.int t]) (_:ay c H M a s W) (_:Tb.look W t=none) (_:W.length<=1000) (_:∀(H':Hp) (M':Addr->Prop) (y:TD),y.t=[]->ay c H' M' a s (W++[(t,y)])->Step H M (a.own W) H' M' (a.own (W++[(t,y)]))->Q .non H'):mO c vs H Q e3
section
variable {P:rr}{w:Bd}{K:iF}{mg:Str->Option Value}{base:Heap}
theorem fX {α:Type}{f:α->V}{H:Hp}{a:Addr}{l:List (Int×α)}{t:Int}(h:H a=some (.dK (Tb.dk f l))):cZ H a (.int t) ((Tb.look l t).map f):=by
 have q:=cZ.k (k:=sS t) h;rw[Tb.cL]at q;show q
theorem JL:aC ["rooms","task"] ["rooms","task"] (aw qS):=L2.bD
theorem yQ {f:Addr}{fd:qi}(F:cK K "room_of" "room_of" qS f fd):a8 P w K mg base aV 1 f fd ["rooms","task"] dY:=by
 show F.dh JL (λN A outer s H vs Q E I h=>?_);let#[a,W,t,x,rfl,L,J,k]:=h;show#[_,(ag (aS (jb (gw (a9 I) (pv 1) (pv 0))) cY aF)
  (ak (aE (bh (a9 I) (pv 0) (pv 1) bW)))),?_]
 have G:=fX (t:=t) L;rw[J]at G;show#[0,0,a,0,G,0,bX #[0,0,a,fR x,rfl,G,k]]
theorem IY:aC ["rooms","task"] ["rooms","task"] (aw qD):=L2.bD
theorem yt {f:Addr}{fd:qi}(F:cK K "refuse_second_room" "refuse_second_room" qD f fd):a8 P w K mg base aV 1 f fd ["rooms","task"] jM:=by
 show F.dh IY (λN A outer s H vs Q E L h=>?_);let#[a,W,t,rfl,J,I,k]:=h;show#[_,(ak (aS (jb (m4 (a9 L) (pv 1) (pv 0))) cY aF)),?_];have G:=fX (t:=t) J;rw[I]at G;show#[0,0,a,0,G,0,bX k]
theorem Jg:aC ["held","total"] ["held","total"] (aw uI):=L2.bD
theorem Bb {f:Addr}{fd:qi}(F:cK K "refuse_above" "refuse_above" uI f fd):a8 P w K mg base aV 1 f fd ["held","total"] ly:=by
 show F.dh Jg (λI A outer s H vs Q E J h=>?_);let#[h,t,rfl,G,k]:=h;show#[_,(ak (aS (aD gI (pv 0) (pv 1) (aI _)) cY aF)),?_];show#[0,0,_,0,rfl,0,?_];show gS (λc=>absurd (of_decide_eq_true c) G) (λc=>k)
theorem DS:aC ["self","table","pages","page","entry"] ["self","table","pages"] (aw qz):=L2.bD
theorem oy {f:Addr}{fd:qi}{c:CA}(F:cK K "leave_pages" "Rooms.leave_pages" qz f fd) (T:oP K mg c) (TT:Tb.Txt K mg c.T) (TP:ou K mg c.P) (GG:Md P w K mg base aV 3 c.T "get" (Tb.mM c.T)) (GK:Md P w K mg base aV 1 c.T "clear" (Tb.qL c.T)) (a7:Md P w K mg base aV 4 c.P "leave" (lC c.P c.S)):a8 P w K mg base aV 5 f fd ["self","table","pages"] (eV c):=by
 let#[aB,mB,sB]:=T.bl;have rB:RelV (.ref aB) (.ref aB):=rfl;show F.dh DS (λb0 A outer s H vs Q E hr h=>?_);let#[M,a,s',W,cv,t,x,lp,ps,rfl,R,ri,bc,U,a2,bi,be,a6,q]:=h;show#[_,(ak (cG C1 rfl (fQ (pv 2)) (f9 3 DS.nd) (ag (dn 4 DS.nd (pm (pv 1) TT.cl GG hr ax (aa (pv 3) ai)))
  (ag (aL (pm (pv 1) TT.cl GK hr ax (aa (pv 3) ai)))
  (ak (aS (aD (vI hr.iw) (pv 4) (cw (by rfl) mB rB) (aI _)) (ak (aL (pm (aK (pv 0) rfl) TP.cl a7 hr ax (aa (aP aN (pv 4) aj bW) ai)))) aF)))))),?_]
 have bd:¬ a.own W lp:=λz=>bi (R.dA lp z);show#[0,lp,rfl,#[_,bA.of a2],?_];show fC (K:=K) (a:=lp) (xs:=ps.map V.int) (λi σ H2=>BE λ(v3 v4:Option V) (M2:Addr->Prop) (s2:Pg.PS) (y:TD)=>Ii (σ=[some (.ref a.rp),some (.ref y.p),some (.ref lp),v3,v4]) (ay c H2 M2 a s2 (Tb.aW W t y)) (Pg.RI s2 (ents (Tb.aW W t y))) (Cv s2 (Tb.aW W t y) cv) ((∀q,Tb.look y.t q=if q∈ps.take i then none else Tb.look x.t q)) (Step H M (a.own W) H2 M2 (a.own (Tb.aW W t y))) ((∀b,(s2.ow b).length=(s'.ow b).length)/\Pg.Up s' s2))
  #[2,M,s',x,rfl,by rw[cM R.nd U];show R,by rw[cM R.nd U];show ri,by rw[cM R.nd U];show bc,λq=>by simp,by rw[cM R.nd U];show R.refl,λ_=>rfl,Pg.Up.refl] (λi σ H2 _ z0=>by let#[_,_,_,_,_,_,_,_,_,_,st,_]:=z0;show bA.of (st.off _ _ a2 bd)) ?_ ?_
 .rintro i u σ H2 hu ⟨v3,v4,M2,s2,y,rfl,R2,aT,ap,ac,as,am⟩;rw[rz]at hu;let#[p,hp,rfl]:=pq.mp hu;have bF:=ua hp;let#[hi,bY]:=kz.mp hp;have bz:¬ p∈ps.take i:=λz=>by
   let#[j,hj,e]:=LI z;rw[Nx]at e;rw[DD]at hj;show nV be j i (ti ae) hp ae e
  have ab:=iA (y:=y) U;obtain⟨e,he⟩:∃e,Tb.look y.t p=some e:=by
   rw[ac p,Su bz];cases z:Tb.look x.t p with
   |none=>show absurd z (a6 p bF)
   |some e=>show#[e,rfl]
  have T2:=R2.tb _ (Tb.az ab);let#[bq,ht]:=T2.at_.ob;show#[0,y.p,bq,0,ht,Tb.aY _ ao,0,y.p,y.fs,y.tb,p,rfl,T2.at_,λH3 v s3 N=>?_];rw[T2.lk,he]at N;let#[tt,rfl,a4]:=N;have R3:=R2.same s3;have T3:=R3.tb _ (Tb.az ab);let#[bm,bI]:=T3.at_.ob;show#[0,y.p,bm,0,bI,Tb.aY _ ao,0,y.p,y.fs,y.tb,p,rfl,T3.at_,λH4 J T4 l4 _ o4 n4=>?_];have bv:dq c.T H4 #[y.p,y.fs,J,Tb.bf y.t p]:=#[T4,Tb.mL T3.nd,λj=>by
   rw[l4 j,Tb.cn];by_cases z:j=p
   .rw[Sv z,Sv z];rfl
   .rw[Su z,Su z];show T3.lk j]
  have G:=R3.uW (y:=#[y.p,y.fs,J,Tb.bf y.t p]) ab rfl bv o4 n4;have S4:=as.trans ((R2.gX s3).trans (R3.rV (y:=#[y.p,y.fs,J,Tb.bf y.t p]) ab o4 n4));have pe:=yD (y:=#[y.p,y.fs,J,Tb.bf y.t p]) R2.nd ab T2.nd he rfl;rw[set_set]at G S4 pe;have Y:=aT.perm pe;have a1:∀j,Tb.look (Tb.bf y.t p) j=if j∈ps.take (i+1)then none else Tb.look x.t j:=λj=>by
   rw[Tb.cn,ac j,Lm,hp];by_cases z:j=p
   .rw[Sv z,Sv (by rw[z];simp)]
   .rw[Su z];by_cases O:j∈ps.take i
    .rw[Sv O,Sv (LC _ O)]
    .rw[Su O,Su (by simp[z,O])]
  have a5:∀t' x',Tb.look (Tb.aW W t #[y.p,y.fs,J,Tb.bf y.t p]) t'=some x'->∃a0,Tb.look (Tb.aW W t y) t'=some a0/\∀q e,Tb.look x'.t q=some e->Tb.look a0.t q=some e:=by
   intro t' x' h';rw[Tb.bK t' U]at h' ⊢;by_cases z:t'=t
   .rw[Sv z]at h' ⊢;cases h';show#[y,rfl,λq e I=>?_];have I:Tb.look (Tb.bf y.t p) q=some e:=I;rw[Tb.cn]at I;by_cases O:q=p
    .rw[Sv O]at I;cases I
    .rw[Su O]at I;show I
   .rw[Su z]at h' ⊢;show#[x',h',λ_ _ h=>h]
  have bE:¬ y.eF tt:=λz=>by
   let#[_,h]:=T3.at_.dK z;rw[a4]at h;cases h
  have a3:=o4 _ _ a4 bE;show#[0,tt,aB,_,0,rfl,bL.of a3,iV.sq (.inr sB),?_];cases e with
  |none =>
   show#[1,0,bX ?_];show#[2,_,s2,#[y.p,y.fs,J,Tb.bf y.t p],rfl,G,Y.bare,ap.next Pg.aZ.refl a5,a1,S4,am]
  |some k =>
   show#[1,0,eL ?_];let#[bx,bn]:=G.ob;let#[ba,bb]:=G.pg.ob;let#[cs,cc,N]:=Y.is k KW;show#[0,a.rp,c.C,bx,_,0,bn,T.cl,T.nP,kW _ _ _,a.A.pg,ba,0,bb,cJ _ _ ao ao ao ao ao,0,tt,_,(1),0,rfl,bL.of a3,4,a.A,s2,k,cs,cc,rfl,G.pg,G.ok,G.mt,Y.good,N,λH5 s5 le G5 O5=>?_];have L:=Pg.xb Y.good N le;show#[2,_,s5,#[y.p,y.fs,J,Tb.bf y.t p],rfl,G.ku G5 O5 L.ln,Y.leave N le,ap.next (Y.wj N le) a5,a1,S4.trans (G.FV G5 O5),λb=>(L.ln b).trans (am.1 b),am.2.trans (Pg.FZ le)]
 .rintro σ H2 ⟨v3,v4,M2,s2,y,rfl,R2,aT,ap,ac,as,am⟩;rw[nq,Lz]at ac;show q H2 M2 s2 y R2 aT ap ac as am
theorem F5:aC ["self","task","page","many","table"] ["self","task","page","many"] (aw uV):=L2.bD
theorem CK {f:Addr}{fd:qi}{c:CA}(F:cK K "drop" "Rooms.drop" uV f fd) (T:oP K mg c) (TT:Tb.Txt K mg c.T) (GR:Df P w K mg base aV 1 "room_of" dY) (U:Df P w K mg base aV 2 "pages_to_drop" Rm.nj) (ap:Md P w K mg base aV 1 c.T "pages" (Tb.eT c.T)) (a1:Md P w K mg base aV 5 c.C "leave_pages" (eV c)):a8 P w K mg base aV 6 f fd ["self","task","page","many"] (u5 c):=by
 show F.dh F5 (λba A outer s H vs Q E I h=>?_);let#[M,a,s',W,cv,t,p,m,x,rfl,R,ri,a3,J,G,N,q]:=h;let#[dx,S]:=R.ob;have L:=R.tb _ (Tb.az J);let#[am,ht]:=L.at_.ob;have b1:¬ m<1:=λz=>G (.inl z);have b2:¬ p<0:=λz=>G (.inr (.inl z));have b3:¬ 64<p+m:=λz=>G (.inr (.inr z));show#[_,(ag (dn 4 F5.nd (pc GR I ax (aa (aK (pv 0) rfl) (aa (pv 1) ai))))
  (ak (aL (pm (pv 0) T.cl a1 I ax (aa (pv 4) (aa (pc U I ax (aa (uf (pv 4) TT.cl ap I ax) (aa (pv 2) (aa (pv 3) ai)))) ai)))))),?_]
 show#[0,a.rp,c.C,dx,_,0,S,T.cl,T.nR,fK _ _ _,0,a.rd,W,t,x,rfl,R.hd,J,?_];show#[0,a.rp,dx,0,S,fE _ _ _ ao ao ao,0,0,x.p,am,0,ht,Tb.aY _ ao,x.p,x.fs,x.tb,rfl,L.at_,λH1 l1 ns s1 a6 as pm a7=>?_];show#[0,0,l1,ns,p,m,rfl,as,G,λq hq=>(L.mem pm q).mpr (N q hq),λH2 l2 s2 a2 ab=>?_]
 .have O:=s1.trans s2;show#[M,a,s',W,cv,t,x,l2,Rm.aM p m,rfl,R.same O,ri,a3,J,ab,λz=>R.mt _ z (s1.free a2),?_,N,λH3 M3 s3 y Y a4 aT aB ac a5=>q H3 M3 s3 y Y a4 aT aB ((R.gX O).trans ac) a5];unfold Rm.aM;show ML.mpr (QJ.imp ?_);intro i j a0 e;show a0 ae
theorem F7:aC ["self","task","table"] ["self","task"] (aw rN):=L2.bD
theorem yn {f:Addr}{fd:qi}{c:CA}(F:cK K "close" "Rooms.close" rN f fd) (T:oP K mg c) (TT:Tb.Txt K mg c.T) (GR:Df P w K mg base aV 1 "room_of" dY) (ap:Md P w K mg base aV 1 c.T "pages" (Tb.eT c.T)) (a2:Md P w K mg base aV 5 c.C "leave_pages" (eV c)):a8 P w K mg base aV 6 f fd ["self","task"] (mP c):=by
 show F.dh F7 (λba A outer s H vs Q E U h=>?_);let#[M,a,s',W,cv,t,x,rfl,R,ri,a3,I,q]:=h;let#[dx,ho]:=R.ob;have J:=R.tb _ (Tb.az I);let#[am,ht]:=J.at_.ob;show#[_,(ag (dn 2 F7.nd (pc GR U ax (aa (aK (pv 0) rfl) (aa (pv 1) ai))))
  (ag (aL (pm (pv 0) T.cl a2 U ax (aa (pv 2) (aa (uf (pv 2) TT.cl ap U ax) ai))))
  (ak (aL (eE (aK (pv 0) rfl) (pv 1) #[1,1]))))),?_]
 show#[0,a.rp,c.C,dx,_,0,ho,T.cl,T.nR,fK _ _ _,0,a.rd,W,t,x,rfl,R.hd,I,?_];show#[0,a.rp,dx,0,ho,fE _ _ _ ao ao ao,0,0,x.p,am,0,ht,Tb.aY _ ao,x.p,x.fs,x.tb,rfl,J.at_,λH1 l1 ns s1 aT as pm a7=>?_];show#[M,a,s',W,cv,t,x,l1,ns,rfl,R.same s1,ri,a3,I,as,λz=>R.mt _ z aT,pm.nodup_iff.mpr (Tb.jX J.at_),λq hq=>(J.mem pm q).mp hq,λH3 M3 s3 y G a4 a0 aB ac a5=>?_];have a6:=iA (y:=y) I;have ey:y.t=[]:=by
  cases e:y.t with
  |nil=>rfl
  |cons z r =>
   exfalso;have h1:=aB z.1;rw[e,Tb.aO,Sv rfl]at h1;by_cases O:z.1∈ns
   .rw[Sv O]at h1;cases h1
   .rw[Su O]at h1;show O ((J.mem pm z.1).mpr (by rw[<-h1];simp))
 let#[a1,ab]:=G.ob;show#[0,a.rp,c.C,a1,_,0,ab,T.cl,T.nR,fK _ _ _,a.rd,rfl,.inl #[_,.inl G.hd],0,_,sS t,fR y,G.hd,rfl,by rw[Tb.cL,a6];rfl,?_];have Y:=G.Ej t;rw[Tb.eK];rw[Tb.xt]at Y ⊢;have L:=gZ (y:=y) R.nd I;rw[ey]at L;have L:(ents (Tb.aW W t y)).Perm (ents (Tb.bf W t)):=L;show q _ M3 s3 Y (a4.perm L) (a0.next Pg.aZ.refl λt' N h'=>?_) (((R.gX s1).trans ac).trans ?_) a5
 .rw[Tb.cn]at h';by_cases z:t'=t
  .rw[Sv z]at h';cases h'
  .rw[Su z]at h';show#[N,by rw[Tb.bK t' I,Su z];show h',λ_ _ h=>h]
 .show#[Off.wr (.inr (.inl rfl)),λ_ h _=>h,λ_ h=>.inl h,λb z=>.inl ?_,G.mt,G.dA];rcases z with z|z|⟨N,S,z⟩
  .show .inl z
  .show .inr (.inl z)
  .let#[S,ne]:=Tb.b9 S;show .inr (.inr #[N,?_,z]);unfold Tb.aW;show rn.mpr #[N,S,by rw[Su ne]]
theorem Jt:aC ["self","task"] ["self","task"] (aw qr):=L2.bD
theorem yh {f U:Addr}{fd dI:qi}{c:CA}(F:cK K "begin" "Rooms.begin" qr f fd) (T:oP K mg c) (MK:Mk K c.T U) (ap:mg "Table" = some (.ref c.T)) (GS:Df P w K mg base aV 1 "refuse_second_room" jM) (GI:a8 P w K mg base aV 1 U dI ["self"] (Tb.hX c.T)) (bI:Binds K dI ["self"] []):a8 P w K mg base aV 3 f fd ["self","task"] (mO c):=by
 show F.dh Jt (λaT A outer s H vs Q E O h=>?_);let#[M,a,s',W,t,rfl,R,N,hl,q]:=h;let#[dx,ho]:=R.ob;have hs:=ub;show#[_,(ag (aL (pc GS O ax (aa (aK (pv 0) rfl) (aa (pv 1) ai))))
  (ak (jT (a9 O) (aK (pv 0) rfl) (pv 1) (sO MK GI (O.mono av) (by rfl) ap bI .nil ax) rfl))),?_]
 show#[0,a.rp,c.C,dx,_,0,ho,T.cl,T.nR,fK _ _ _,0,a.rd,W,t,rfl,R.hd,N,?_];show λp ac np S aB=>#[p,ac,rfl,af,λfs H1 ab Y off=>#[5]];have s1:aZ H H1:=λb u e=>off b u (by rw[ah (ar e np),ah (ar e S)];show e) (ar e np);have I:H fs=none:=by
  cases e:H fs with
  |none=>rfl
  |some u=>rw[ah (ar e np),ah (ar e S),e]at ab;cases ab
 have L:=R.BH (H':=H1) (B:=λ_=>False) (M':=λb=>M b\/b=fs) (λb o e _=>s1 b o e) (λb z=>z.elim) (λb z=>z.elim) (λb z=>z.elim .inl λz=>.inr (by rw[z];show I)) (λb z _=>.inl z) (λb z e=>z.elim (λz=>(R.same s1).mt b z e) λz=>by rw[z,Y.hf]at e;cases e)
 .let#[as,am]:=L.ob;show#[0,a.rp,c.C,as,_,0,am,T.cl,T.nR,fK _ _ _,0,a.rd,0,fA.k (k:=sS t) L.hd (by rw[Tb.cg];omega),?_];rw[show(V.ref p)=fR #[p,fs,[],[]]from rfl,Tb.cH N];have TI:dq c.T H1 #[p,fs,[],[]]:=#[Y,Mc,λq=>rfl];have J:∀b,(TD.mk p fs [] []).eF b->b=fs:=λb z=>by
   rcases z with z|⟨_,hx,_⟩
   .show z
   .cases hx
  have R2:=L.zr N TI (λb z=>#[.inr (J b z),λy=>?_]) (λy=>?_)
  .show q _ _ #[p,fs,[],[]] rfl R2 #[?_,λb z _=>.inl z,λb z=>z.elim .inl λz=>.inr (by rw[z];show I),λb z=>?_,R.mt,R.dA]
   .intro b o e z;rw[ah (λy=>z (.inr (.inl y)))];show s1 _ _ e
   .rcases z with z|z|⟨x',G,z⟩
    .show .inl (.inl z)
    .show .inl (.inr (.inl z))
    .rcases oR.mp G with G|G
     .show .inl (.inr (.inr #[x',G,z]))
     .rw[n7.mp G]at z;rw[J b z];show .inr I
  .rw[J b z]at y;show R.mt _ (R.dA _ y) I
  .show R.mt _ (R.ok.own _ y) np
end
theorem vJ:KS "sum" = some (.builtin "sum"):=ao
inductive iL (c:CA) (vs:List V) (H:Hp) (Q:VK) (e3:XK):Prop
 |mk (M:Addr->Prop) (a:RA) (s:Pg.PS) (W:di) (tt:Addr) (e:Pg.Ent) (cs:List Int) (_:vs=[.ref a.rp,.ref tt]) (_:ay c H M a s W) (_:Pg.Good s) (_:H tt=some (.tup (yJ e))) (_:Pg.yS s e cs) (_:∀(H':Hp) (l:Addr),aZ H H'->H l=none->H' l=some (.lst (cs.map V.int))->Q (.ref l) H'):iL c vs H Q e3
inductive hV (c:CA) (vs:List V) (H:Hp) (Q:VK) (e3:XK):Prop
 |mk (M:Addr->Prop) (a:RA) (s:Pg.PS) (W:di) (tt ca:Addr) (e:Pg.Ent) (r:List Pg.Ent) (cs:List Int) (_:vs=[.ref a.rp,.ref tt,.ref ca]) (_:ay c H M a s W) (_:Pg.RI s (e::r)) (_:H tt=some (.tup (yJ e))) (_:H ca=some (.lst (cs.map V.int))) (_:¬ M ca) (_:cs.length=8) (_:∀(H':Hp) (s':Pg.PS) (k:Int),ay c H' M a s' W->Pg.RI s' (some k::r)->Pg.aZ r s s'->Pg.yS s' (some k) cs->Step H M (a.own W) H' M (a.own W)->((∀b,(s'.ow b).length=(s.ow b).length)/\Pg.KB s s'/\∃m,s'.pl k=some (true,m))->Q (.int k) H'):hV c vs H Q e3
noncomputable def heldW (W:di):Int:=(W.map λx=>(x.2.t.length:Int)).sum
theorem mZ:∀W:di,heldW W=((ents W).length:Int)
 | []=>rfl
 |x::W=>by
  have G:=mZ W;unfold heldW at G ⊢;rw[LQ,MD,G];change _=(((ug x.2.t++ents W).length:Nat):Int);rw[vl];unfold ug;rw[nq];omega
inductive jx (c:CA) (vs:List V) (H:Hp) (Q:VK) (e3:XK):Prop
 |mk (M:Addr->Prop) (a:RA) (s:Pg.PS) (W:di) (_:vs=[.ref a.rp]) (_:ay c H M a s W) (_:W.length<=1000) (_:∀H',aZ H H'->Q (.int (ents W).length) H'):jx c vs H Q e3
noncomputable def Hl (s:Pg.PS) (H:Hp) (v:V):Option Pg.Ent->Prop
 |none=>v=.non
 |some none=>∃t,v=.ref t/\H t=some (.tup [.str "blank"])
 |some (some k)=>∃t b n,v=.ref t/\s.pl k=some (b,n)/\H t=some (.tup (jZ b n))
inductive m5 (c:CA) (vs:List V) (H:Hp) (Q:VK) (e3:XK):Prop
 |mk (M:Addr->Prop) (a:RA) (s:Pg.PS) (W:di) (t q:Int) (x:TD) (_:vs=[.ref a.rp,.int t,.int q]) (_:ay c H M a s W) (_:Pg.RI s (ents W)) (_:Tb.look W t=some x) (_:∀H' v,aZ H H'->Hl s H' v (Tb.look x.t q)->Q v H'):m5 c vs H Q e3
noncomputable def gM (cv:Int->Int->List Int) (t:Int) (ps:List Int):Int->Int->List Int:=λt' q=>if t'=t/\q∈ps then replicate 8 0 else cv t' q
inductive vU (c:CA) (vs:List V) (H:Hp) (Q:VK) (e3:XK):Prop
 |mk (M:Addr->Prop) (a:RA) (s:Pg.PS) (W:di) (cv:Int->Int->List Int) (t p m:Int) (x:TD) (_:vs=[.ref a.rp,.int t,.int p,.int m]) (_:ay c H M a s W) (_:Pg.RI s (ents W)) (_:Cv s W cv) (_:W.length<=1000) (_:Tb.look W t=some x) (_:¬ Rm.cD p m) (_:(∀q∈Rm.aM p m,Tb.look x.t q=none)) (_:(ents W).length+m<=bS s) (_:∀(H':Hp) (M':Addr->Prop) (y:TD),ay c H' M' a s (Tb.aW W t y)->Pg.RI s (ents (Tb.aW W t y))->Cv s (Tb.aW W t y) (gM cv t (Rm.aM p m))->(∀q,Tb.look y.t q=if q∈Rm.aM p m then some none else Tb.look x.t q)->Step H M (a.own W) H' M' (a.own (Tb.aW W t y))->Q .non H'):vU c vs H Q e3
theorem dq.len {c:CA}{H:Hp}{x:TD}(T:dq c.T H x) {ns:List Int}(p:ns.Perm (Tb.f6 x.tb)):ns.length=x.t.length:=by
 have h:ns.Perm (x.t.map (·.1)):=by
  rw[Oh (p.nodup_iff.mpr (Tb.jX T.at_)) T.nd];intro q;rw[T.mem p q];constructor
  .intro h;cases e:Tb.look x.t q with
   |none=>show absurd e h
   |some v=>show rn.mpr #[_,Tb.az e,rfl]
  .intro h e;show Tb.cf e h
 rw[h.length_eq,nq]
theorem wd {p m:Int}(h:¬ Rm.cD p m):((Rm.aM p m).length:Int)=m:=by
 have:¬ m<1:=λz=>h (.inl z);unfold Rm.aM;rw[nq,Lh];omega
theorem pb (p m:Int):(Rm.aM p m).Nodup:=by
 unfold Rm.aM;show ML.mpr (QJ.imp ?_);intro i j G e;show G ae
theorem yL {cv:Int->Int->List Int}{t:Int}:gM cv t []=cv:=by
 funext t' q;unfold gM;rw[Su (by simp)]
theorem tZ {cv:Int->Int->List Int}{t t' q p:Int}{l:List Int}(h:¬ (t'=t/\q=p)):gM cv t (l++[p]) t' q=gM cv t l t' q:=by
 unfold gM;by_cases z:t'=t/\q∈l
 .rw[Sv z,Sv #[z.1,LC _ z.2]]
 .rw[Su z,Su (λy=>by
   rcases oR.mp y.2 with w|w
   .show z #[y.1,w]
   .show h #[y.1,n7.mp w])]
section
variable {P:rr}{w:Bd}{K:iF}{mg:Str->Option Value}{base:Heap}
theorem IS:aC ["self","entry"] ["self","entry"] (aw qc):=L2.bD
theorem vE {f:Addr}{fd:qi}{c:CA}(F:cK K "cells_of" "Rooms.cells_of" qc f fd) (T:oP K mg c) (TP:ou K mg c.P) (Iq:Md P w K mg base aV 4 c.P "cells" (oj c.P c.S)):a8 P w K mg base aV 5 f fd ["self","entry"] (iL c):=by
 let#[I,mB,sB]:=T.bl;let#[u8,m8,Y]:=T.pc;have rB:RelV (.ref I) (.ref I):=rfl;show F.dh IS (λam A outer s H vs Q E N h=>?_);let#[M,a,s',W,tt,e,cs,rfl,R,gd,O,G,q]:=h;have hs:=ub;show#[_,(ag (aS (aD (uQ N.iw) (pv 1) (cw (by rfl) mB rB) (aI _)) (ak (aE (aA oo (cj (aa aj ai)) (cw (by rfl) m8 Y)))) aF)
  (ak (aE (pm (aK (pv 0) rfl) TP.cl Iq N ax (aa (aP aN (pv 1) aj bW) ai))))),?_]
 show#[0,tt,I,_,0,rfl,bL.of O,iV.sq (.inr sB),?_];cases e with
 |none =>
  show#[1,0,eL ?_];show#[av,λl1 ac=>?_];show#[l1,(8),0,rfl,af,ae,ae,by rw[Lu];omega,λl2 L=>?_];have s1:=Tb.au (X:=.lst [V.int 0]) ac;have s2:=Tb.au (X:=.lst ((replicate (8:Int).toNat [V.int 0]).flatten)) L;have G:cs=replicate 8 0:=G;show q _ l2 (s1.trans s2) (s1.free L) ?_;rw[af,G];rfl
 |some k =>
  show#[1,0,bX ?_];let#[cc,U]:=G;let#[dx,ho]:=R.ob;let#[ab,h2]:=R.pg.ob;show#[0,a.rp,c.C,dx,_,0,ho,T.cl,T.nP,kW _ _ _,a.A.pg,ab,0,h2,cJ _ _ ao ao ao ao ao,0,tt,_,(1),0,rfl,bL.of O,rfl,M,a.A,s',k,cs,cc,rfl,R.pg,U,?_,λl J=>q _ l (Tb.au J) J af];have:=(gd.vw U).1;omega
theorem JB:aC ["self","entry","cells"] ["self","entry","cells"] (aw rL):=L2.bD
theorem p7 {f:Addr}{fd:qi}{c:CA}(F:cK K "sheet_with" "Rooms.sheet_with" rL f fd) (T:oP K mg c) (TP:ou K mg c.P) (ba:Md P w K mg base aV 7 c.P "new_sheet" (gE K c.P c.S)) (as:Md P w K mg base aV 8 c.P "change" (mI c.P c.S)):a8 P w K mg base aV 9 f fd ["self","entry","cells"] (hV c):=by
 let#[aB,mB,sB]:=T.bl;have rB:RelV (.ref aB) (.ref aB):=rfl;show F.dh JB (λbb A outer s H vs Q E hr h=>?_);let#[M,a,s',W,tt,ca,e,r,cs,rfl,R,G,ht,ab,aT,L,q]:=h;have ac:¬ a.A.own ca:=λz=>aT (R.ok.own _ z);let#[dx,ho]:=R.ob;let#[am,h2]:=R.pg.ob;show#[_,(ag (aS (aD (uQ hr.iw) (pv 1) (cw (by rfl) mB rB) (aI _)) (ak (aE (pm (aK (pv 0) rfl) TP.cl ba hr ax (aa (pv 2) ai)))) aF)
  (ak (aE (pm (aK (pv 0) rfl) TP.cl as hr ax (aa (aP aN (pv 1) aj bW) (aa (pv 2) ai)))))),?_]
 show#[0,tt,aB,_,0,rfl,bL.of ht,iV.sq (.inr sB),?_];cases e with
 |none =>
  show#[1,0,eL ?_];show#[0,a.rp,c.C,dx,_,0,ho,T.cl,T.nP,kW _ _ _,a.A.pg,am,0,h2,cJ _ _ ao ao ao ao ao,0,M,a.A,s',ca,cs,rfl,R.Io G,G.room,bA.of ab,λe=>ac (by rw[e];show PA.eU 0 rfl),L,λH1 s1 N J I=>?_];have B:=Pg.kL G.good G.l0 L N;show q H1 s1 _ (R.ku J I B.kept.ln) (G.fill L N) (G.xT L N) #[(1),B.vw] (R.FV J I) #[B.kept.ln,B.kept.kb B.fr,B.fr]
 |some k =>
  show#[1,0,bX ?_];let#[a0,c0,Y]:=G.is k KW;show#[0,a.rp,c.C,dx,_,0,ho,T.cl,T.nP,kW _ _ _,a.A.pg,am,0,h2,cJ _ _ ao ao ao ao ao,0,tt,_,(1),0,rfl,bL.of ht,rfl,0,M,a.A,s',k,ca,a0,c0,cs,rfl,R.Io G,Y,ab,ac,L,λz=>G.HL Y z,λz H1 s1 s2 N hl J I=>?_,λz H1 s1 m ap U J I=>?_]
  .let#[a1,a2,a3,a4,a5,a6,a7]:=G.part Y z L N hl;show q H1 s2 _ (R.ku J I a7) a1 a2 a3 (R.FV J I) #[a7,λz=>#[(a6 z).1,λj y=>by let#[m,U]:=y;show#[m,(a6 z).2 j m U]],a4]
  .subst z;let#[a1,a2,a3]:=G.write Y L ap U;have O:=Pg.kU G.good ap;show q H1 _ k (R.ku J I O.kept.ln) a1 a2 a3 (R.FV J I) #[O.kept.ln,O.kept.kb O.fr,m,U]
theorem Jl:aC ["self"] ["self"] (aw uj):=L2.bD
theorem AG {f:Addr}{fd:qi}{c:CA}(F:cK K "held" "Rooms.held" uj f fd) (T:oP K mg c) (TT:Tb.Txt K mg c.T) (as:Md P w K mg base aV 1 c.T "pages" (Tb.eT c.T)):a8 P w K mg base aV 2 f fd ["self"] (jx c):=by
 show F.dh Jl (λa2 A outer s H vs Q E Y h=>?_);let#[M,a,s',W,rfl,R,lw,k]:=h;have hs:=ub;let#[dx,h1]:=R.ob;show#[_,(ak (aE (aQ (mh rfl) (by rfl) T.sum vJ (aa (wH (gz (cl:=[("self",s.heap.objs.size+1)]) (caps:=[("self",0)]) #[rfl,ao,ao,rfl,by kernel_rfl,by intro p J;simp only[wh,By,or_false]at J;rcases J with rfl<;>first|rfl|show#[rfl,.inl rfl,.inl rfl]|show#[rfl,.inl rfl,.inr rfl],by kernel_rfl,by intro p J;simp only[wh,By,or_false]at J;rcases J with rfl<;>first|rfl|show#[rfl,.inl rfl,.inl rfl]|show#[rfl,.inl rfl,.inr rfl],ao] rfl (lM (aK (pv 0) rfl)) (λ_ _ _ _=>fJ) (λ_ _ _ _=>(aQ (show dB _ _ (wR K)from yl) (by rfl) T.len boot_len (aa (uf (bh (a9 Y) (show PE _ _ (CP K _ "rooms")from aK (pv 1) rfl) (pv 0) bW) TT.cl as Y ax) ai))))) ai)))),?_];have hn:∀(o:Obj) u',H a.rd≠some (.bO o u'):=λo u' z=>(by rw[R.hd]at z;cases z);show#[0,a.rp,c.C,dx,_,0,h1,T.cl,T.nR,fK _ _ _,a.rd,0,R.hd,hn,λo=>?_];have am:a.rp≠a.rd:=λz=>(by rw[z,R.hd]at h1;cases h1);have O:Off (· = a.rd) H (upd H a.rd (.bO o (.dK (Tb.dk fR W)))):=Off.wr rfl;have N:(upd H a.rd (.bO o (.dK (Tb.dk fR W)))) a.rd=some (.bO o (.dK (Tb.dk fR W))):=af;have a0:=O _ _ h1 am;have ap:∀x∈W,dq c.T (upd H a.rd (.bO o (.dK (Tb.dk fR W)))) x.2:=λx G=>by
  let#[a1,h3]:=(R.tb x G).at_.ob;show(R.tb x G).off O (λz=>by rw[z,R.hd]at h3;cases h3) (λb z=>(R.dm x G b z).2.2) (λb xs e z=>by rw[z,R.hd]at e;cases e)
 show vS (a:=a.rd) (o:=o) (kvs:=Tb.dk fR W) (λi ys H2=>ys=((W.take i).map λx=>(x.2.t.length:Int)).map V.int/\aZ (upd H a.rd (.bO o (.dK (Tb.dk fR W)))) H2) #[rfl,λ_ _ e=>e] (λi zs H2 _ ⟨_,e⟩=>e _ _ N) ?_ ?_
 .rintro i kk v zs H2 hk ⟨rfl,I⟩;have ac:(W.map λx:Int×TD=>((sS x.1:Key),fR x.2))[i]?=some (kk,v):=hk;rw[rz]at ac;let#[x,G,e]:=pq.mp ac;cases e;have hm:=ua G;have hi:i<W.length:=(kz.mp G).1;have aT:Tb.look W x.1=some x.2:=Tb.bJ R.nd hm;have hg:cZ H2 a.rd (.int x.1) (some (fR x.2)):=.inl #[Tb.dk fR W,sS x.1,.inr #[o,I _ _ N],rfl,by rw[Tb.cL,aT];rfl];have TX:=ap x hm;have T2:=TX.at_.same I;let#[aB,ht]:=T2.ob;show#[0,a.rp,c.C,dx,_,0,I _ _ a0,T.cl,T.nR,fK _ _ _,0,a.rd,fR x.2,rfl,hg,x.2.p,aB,0,ht,Tb.aY _ ao,x.2.p,x.2.fs,x.2.tb,rfl,T2,λH3 l ns s3 fl L pm a3=>?_];show#[l,0,.inl (bA.of L),3,I.trans s3]
  .rw[nq,nq,DD];omega
  .rw[nq,TX.len pm,Lm,G,BY,BY];rfl
 .rintro zs H2 ⟨rfl,I⟩ l L;have U:=I _ _ N;have ab:l≠a.rd:=λz=>(by rw[z,U]at L;cases L);show#[a.rd,o,Tb.dk fR W,by rw[ah (qs ab)];show U,hn,l,(W.map λx=>(x.2.t.length:Int)),rfl,bA.of ?_,?_]
  .rw[ah ab,af,Tb.cg,Lz]
  .have e9:=mZ W;unfold heldW at e9;rw[e9];show k _ λb u e=>?_;by_cases z:b=a.rd
   .rw[z,af, <-e,z,R.hd]
   .have S:H2 b=some u:=I _ _ (O _ _ e z);rw[ah z,ah (λy=>by rw[y,L]at S;cases S)];show S
theorem Gy:aC ["self","task","page","entry"] ["self","task","page"] (aw qE):=L2.bD
theorem xO {f:Addr}{fd:qi}{c:CA}(F:cK K "place" "Rooms.place" qE f fd) (T:oP K mg c) (TT:Tb.Txt K mg c.T) (TP:ou K mg c.P) (GR:Df P w K mg base aV 1 "room_of" dY) (GG:Md P w K mg base aV 3 c.T "get" (Tb.mM c.T)) (BO:Md P w K mg base aV 1 c.P "place" (iM c.P c.S)):a8 P w K mg base aV 4 f fd ["self","task","page"] (m5 c):=by
 let#[U,mB,sB]:=T.bl;have rB:RelV (.ref U) (.ref U):=rfl;show F.dh Gy (λaT A outer s H vs Q E I h=>?_);let#[M,a,s',W,t,q,x,rfl,R,ri,J,k]:=h;let#[dx,ho]:=R.ob;have O:=R.tb _ (Tb.az J);let#[ab,ht]:=O.at_.ob;show#[_,(ag (dn 3 Gy.nd (pm (pc GR I ax (aa (aK (pv 0) rfl) (aa (pv 1) ai))) TT.cl GG I ax (aa (pv 2) ai)))
  (ag (aS (PW.pt (iy (aD EF (pv 3) rA (aI _)) (gA (aD (uQ I.iw) (pv 3) (cw (by rfl) mB rB) (aI _))))) (ak (aE (pv 3))) aF)
  (ak (aE (pm (aK (pv 0) rfl) TP.cl BO I ax (aa (aP aN (pv 3) aj bW) ai)))))),?_]
 show#[0,a.rp,c.C,dx,_,0,ho,T.cl,T.nR,fK _ _ _,0,a.rd,W,t,x,rfl,R.hd,J,?_];show#[x.p,ab,0,ht,Tb.aY _ ao,0,x.p,x.fs,x.tb,q,rfl,O.at_,λH1 v s1 G=>?_];rw[O.lk]at G;cases Y:Tb.look x.t q with
 |none =>
  rw[Y]at G k;have G:v=.non:=G;subst G;show#[0,rfl,0,eL (eL #[0,k H1 _ s1 rfl])]
 |some e =>
  rw[Y]at G k;let#[tt,rfl,N]:=G;have L:=R.same s1;let#[as,am]:=L.ob;let#[ac,h2]:=L.pg.ob;show#[0,rfl,0,bX ?_];show#[0,tt,U,_,0,rfl,bL.of N,iV.sq (.inr sB),?_];cases e with
  |none=>show#[1,0,eL #[0,k H1 _ s1 #[tt,rfl,N]]]
  |some j =>
   show#[1,0,bX ?_];let#[cs,cc,b,n,hj,_,_]:=ri.is j (jQ J Y);show#[0,a.rp,c.C,as,_,0,am,T.cl,T.nP,kW _ _ _,a.A.pg,ac,0,h2,cJ _ _ ao ao ao ao ao,0,tt,_,(1),0,rfl,bL.of N,rfl,M,a.A,s',j,b,n,rfl,L.pg,hj,λt' ap=>k H1 _ s1 #[t',b,n,rfl,hj,ap]]
theorem BL:aC ["self","task","page","many","table","pages","wanted"] ["self","task","page","many"] (aw Bl):=L2.bD
theorem BU {f:Addr}{fd:qi}{c:CA}(F:cK K "map" "Rooms.map" Bl f fd) (T:oP K mg c) (TT:Tb.Txt K mg c.T) (GR:Df P w K mg base aV 1 "room_of" dY) (GM:Df P w K mg base aV 2 "pages_to_map" Rm.qT) (GA:Df P w K mg base aV 1 "refuse_above" ly) (a7:Md P w K mg base aV 1 c.T "pages" (Tb.eT c.T)) (GH:Md P w K mg base aV 2 c.C "held" (jx c)) (GL:Md P w K mg base aV 3 c.T "lay" (Tb.sE K c.T)):a8 P w K mg base aV 4 f fd ["self","task","page","many"] (vU c):=by
 let#[aB,mB,sB]:=T.bl;have rB:RelV (.ref aB) (.ref aB):=rfl;show F.dh BL (λb5 A outer s H vs Q E O h=>?_);let#[M,a,s',W,cv,t,p,m,x,rfl,R,ri,be,lw,I,U,a2,bY,q]:=h;let#[dx,ho]:=R.ob;have TX:=R.tb _ (Tb.az I);let#[bx,ht]:=TX.at_.ob;have b1:¬ m<1:=λz=>U (.inl z);have b2:¬ p<0:=λz=>U (.inr (.inl z));have b3:¬ 64<p+m:=λz=>U (.inr (.inr z));have pl:=wd U;show#[_,(ag (dn 4 BL.nd (pc GR O ax (aa (aK (pv 0) rfl) (aa (pv 1) ai))))
  (ag (dn 5 BL.nd (pc GM O ax (aa (uf (pv 4) TT.cl a7 O ax) (aa (pv 2) (aa (pv 3) ai)))))
  (ag (aL (pc GA O ax (aa (aA bp (uf (pv 0) T.cl GH O ax) (aQ bG (by rfl) T.len boot_len (aa (pv 5) ai))) (aa (aK (pv 0) rfl) ai))))
  (ak (cG C1 rfl (fQ (pv 5)) (f9 6 BL.nd) (ak (aL (pm (pv 4) TT.cl GL O ax (aa (pv 6) (aa (cw (by rfl) mB rB) ai)))))))))),?_]
 show#[0,a.rp,c.C,dx,_,0,ho,T.cl,T.nR,fK _ _ _,0,a.rd,W,t,x,rfl,R.hd,I,?_];show#[0,x.p,bx,0,ht,Tb.aY _ ao,x.p,x.fs,x.tb,rfl,TX.at_,λH1 l1 ns s1 b6 bb pm b0=>?_];show#[0,0,l1,ns,p,m,rfl,bb,U,λz h1 h2=>absurd (a2 z h1) ((TX.mem pm z).mp h2),λH2 N s2 bF a6=>?_];have S2:=s1.trans s2;have R2:=R.same S2;let#[bz,ba]:=R2.ob;show#[0,a.rp,bz,0,ba,fE _ _ _ ao ao ao,M,a,s',W,rfl,R2,lw,λH3 s3=>?_];have a0:=s3 _ _ a6;have R3:=R2.same s3;let#[bd,a4]:=R3.ob;show#[0,N,0,.inl (bA.of a0),_,0,rfl,0,a.rp,c.C,bd,_,0,a4,T.cl,T.nT,HR _ _ _,_,0,3]
 .rw[nq,pl];omega
 have S3:=S2.trans s3;have bv:¬ M N:=λz=>R.mt _ z (s1.free bF);have bi:¬ a.own W N:=λz=>bv (R.dA N z);show#[0,N,rfl,#[_,bA.of a0],?_];show fC (K:=K) (a:=N) (xs:=(Rm.aM p m).map V.int) (λi σ H4=>Hv λ(v6:Option V) (M4:Addr->Prop) (y:TD)=>Ii (σ=[some (.ref a.rp),some (.int t),some (.int p),some (.int m),some (.ref y.p),some (.ref N),v6]) (ay c H4 M4 a s' (Tb.aW W t y)) (Pg.RI s' (ents (Tb.aW W t y))) ((ents (Tb.aW W t y)).length=(ents W).length+i) (Cv s' (Tb.aW W t y) (gM cv t ((Rm.aM p m).take i))) ((∀q,Tb.look y.t q=if q∈(Rm.aM p m).take i then some none else Tb.look x.t q)) (Step H3 M (a.own W) H4 M4 (a.own (Tb.aW W t y))))
  #[_,M,x,rfl,by rw[cM R.nd I];show R3,by rw[cM R.nd I];show ri,by rw[cM R.nd I];rfl,by rw[cM R.nd I,PJ,yL];show be,λq=>by simp,by rw[cM R.nd I];show R3.refl] (λi σ H4 _ z0=>by let#[_,_,_,_,_,_,_,_,_,st]:=z0;show bA.of (st.off _ _ a0 bi)) ?_ ?_
 .rintro i u σ H4 hu ⟨v6,M4,y,rfl,R4,as,aT,Y,ac,a1⟩;rw[rz]at hu;let#[G,hp,rfl]:=pq.mp hu;have a3:=ua hp;let#[hi,b4]:=kz.mp hp;have bE:¬ G∈(Rm.aM p m).take i:=λz=>by
   let#[j,hj,e]:=LI z;rw[Nx]at e;rw[DD]at hj;show nV (pb p m) j i (ti ae) hp ae e
  have ap:=iA (y:=y) I;have T4:=R4.tb _ (Tb.az ap);let#[bc,bm]:=T4.at_.ob;have bq:Tb.look y.t G=none:=(by rw[ac,Su bE];show a2 G a3);let#[r1,r2,_]:=Rm.yH U G a3;show#[0,y.p,bc,0,bm,Tb.aY _ ao,0,y.p,y.fs,aB,y.tb,G,[.str "blank"],rfl,T4.at_,r1,r2,.inr sB,rfl,λH5 ab T5 l5 o5 n5=>?_];have bI:dq c.T H5 #[y.p,y.fs,ab,(G,none)::y.t]:=#[T5,KJ.mpr #[Tb.cf bq,T4.nd],λj=>by
   rw[l5 j,Tb.aO];by_cases z:j=G
   .rw[Sv z,Sv z.symm];rfl
   .rw[Su z,Su (qs z)];show T4.lk j]
  have R5:=R4.uW (y:=#[y.p,y.fs,ab,(G,none)::y.t]) ap rfl bI o5 n5;have S5:=a1.trans (R4.rV (y:=#[y.p,y.fs,ab,(G,none)::y.t]) ap o5 n5);have pe:(ents (Tb.aW W t #[y.p,y.fs,ab,(G,none)::y.t])).Perm (none::ents (Tb.aW W t y)):=(gZ R.nd I).trans ((gZ (y:=y) R.nd I).symm.cons none);rw[set_set]at R5 S5;have bn:(ents (Tb.aW W t y)).length<(s'.ow true).length+(s'.ow false).length:=by
   rw[aT];unfold bS at bY;omega
  show#[2,#[y.p,y.fs,ab,(G,none)::y.t],rfl,R5,(as.lay bn).perm pe.symm,by rw[pe.length_eq,DO,aT];omega,3,S5]
  .intro S a5 am q e L;rw[Tb.bK S I]at am;rw[Lm,hp];by_cases z:S=t
   .rw[Sv z]at am;cases am;have L:Tb.look ((G,none)::y.t) q=some e:=L;rw[Tb.aO]at L;by_cases J:G=q
    .rw[Sv J]at L;cases L;change gM cv t _ S q=_;unfold gM;rw[Sv #[z,by rw[<-J];simp]]
    .rw[Su J]at L;rw[show(some G).toList=[G]from rfl,tZ (λh=>J h.2.symm)];show Y S y (by rw[z];show ap) q e L
   .rw[Su z]at am;rw[show(some G).toList=[G]from rfl,tZ (λh=>z h.1)];show Y S a5 (by rw[Tb.bK S I,Su z];show am) q e L
  .intro j;change Tb.look ((G,none)::y.t) j=_;rw[Tb.aO,ac j,Lm,hp];by_cases z:G=j
   .rw[Sv z,Sv (by rw[<-z];simp)]
   .rw[Su z];by_cases J:j∈(Rm.aM p m).take i
    .rw[Sv J,Sv (LC _ J)]
    .rw[Su J,Su (by simp[qs z,J])]
 .rintro σ H4 ⟨v6,M4,y,rfl,R4,as,aT,Y,ac,a1⟩;rw[nq,Lz]at Y ac;show q H4 M4 y R4 as Y ac ((R.gX S3).trans a1)
end
end St
namespace Rm
theorem gF {ad n:Int}{G:List Int}(h:¬ cX ad n G):(aq ad n).length<=64/\∀q∈aq ad n,q∈G:=by
 unfold aq;by_cases e:n=0
 .rw[Sv e];show#[KH _,λ_ h=>nomatch h]
 .rw[Su e];have I:0<n:=by
   have:¬ n<0:=λz=>h (.inl z);omega
  have h1:¬ cD (jm ad) (gW ad n):=λz=>h (.inr #[I,.inl z]);have h2:∀q∈aM (jm ad) (gW ad n),q∈G:=MZ λz=>h (.inr #[I,.inr z]);show#[?_,h2];unfold aM;rw[nq,Lh];have J:¬ jm ad<0:=λz=>h1 (.inr (.inl z));have L:¬ 64<jm ad+gW ad n:=λz=>h1 (.inr (.inr z));omega
theorem xh {ad n:Int}{J I:List Int}(h:∀q,q∈J->q∈I) (G:cX ad n I):cX ad n J:=by
 rcases G with G|⟨h1,h2⟩
 .show .inl G
 .show .inr #[h1,h2.imp id λz y=>z λq L=>h q (y q L)]
end Rm
namespace St
open PySem L2
noncomputable def bR (f:Int->List Int) (ps:List Int):List Int:=(ps.map f).flatten
theorem eY {f:Int->List Int}{ps:List Int}{i:Nat}{q:Int}(h:ps[i]?=some q):bR f (ps.take (i+1))=bR f (ps.take i)++f q:=by
 unfold bR;rw[Lm,h,BY,List.flatten_append];simp
theorem yS.len {s:Pg.PS}{e:Pg.Ent}{cs:List Int}(G:Pg.Good s) (h:Pg.yS s e cs):cs.length=8:=by
 cases e with
 |none=>rw[show cs=replicate 8 0 from h];simp
 |some k=>let#[c,h]:=h;show(G.vw h).2
noncomputable def mr (x:List (Int×Pg.Ent)) (ps:List Int) (i:Nat) (s:Pg.PS):Prop:=∀j q k,i=j+1->ps[j]?=some q->Tb.look x q=some (some k)->∃m,s.pl k=some (true,m)
inductive qv (c:CA) (vs:List V) (H:Hp) (Q:VK) (e3:XK):Prop
 |mk (M:Addr->Prop) (a:RA) (s:Pg.PS) (W:di) (cv:Int->Int->List Int) (t ad:Int) (n:Nat) (x:TD) (_:vs=[.ref a.rp,.int t,.int ad,.int n]) (_:ay c H M a s W) (_:Pg.RI s (ents W)) (_:Cv s W cv) (_:Tb.look W t=some x) (_:n<=600) (_:0<=ad) (_:ad<=1000) (_:¬ Rm.cX ad n (x.t.map (·.1))) (_:∀(H':Hp) (M':Addr->Prop) (s':Pg.PS) (l:Addr),ay c H' M' a s' W->Pg.RI s' (ents W)->Cv s' W cv->Step H M (a.own W) H' M' (a.own W)->((∀b,(s'.ow b).length=(s.ow b).length)/\Pg.KB s s'/\mr x.t (Rm.aq ad n) (Rm.aq ad n).length s')->H l=none->H' l=some (.lst ((((bR (cv t) (Rm.aq ad n)).drop (ad%8).toNat).take n).map V.int))->Q (.ref l) H'):qv c vs H Q e3
section
variable {P:rr}{w:Bd}{K:iF}{mg:Str->Option Value}{base:Heap}
variable {c:CA}{H H':Hp}{M M' B:Addr->Prop}{a:RA}{s s':Pg.PS}{W:di}{t:Int}{x y:TD}
theorem nameQ {i:Nat}{v:V}{σ:L2.St}{H:Hp}{Q:L2.St->Hp->Prop}(h:Q (σ.set i (some v)) H):oq i v σ H Q:=h
theorem ay.Kb (R:ay c H M a s W) {l:Addr}{xs ys:List V}(G:H l=some (.lst xs)) (J:M l) (I:¬ a.own W l):ay c (upd H l (.lst ys)) M a s W :=
 R.BH (B:=(· = l)) (Off.wr rfl) (λb z=>by rw[z];show#[J,I]) (λb z=>.inl #[xs,by rw[z];show G]) (λb z=>.inl z) (λb z _=>z) (λb z e=>by
  by_cases q:b=l
  .rw[q,af]at e;cases e
  .rw[ah q]at e;show R.mt b z e)
theorem ay.F8 (R:ay c H M a s W) {l:Addr}{o:HO}(G:H l=none):ay c (upd H l o) (λb=>M b\/b=l) a s W :=
 R.BH (B:=λ_=>False) (λb u e _=>cU G b u e id) (λb z=>z.elim) (λb z=>z.elim) (λb z=>z.elim .inl λz=>.inr (by rw[z];show G)) (λb z _=>.inl z) (λb z e=>by
  by_cases q:b=l
  .rw[q,af]at e;cases e
  .rw[ah q]at e;show z.elim (λz=>R.mt b z e) q)
theorem dq.keys (T:dq c.T H x) (q:Int):q∈x.t.map (·.1)↔Tb.look x.t q≠none:=by
 constructor
 .intro h e;show Tb.cf e h
 .intro h;cases e:Tb.look x.t q with
  |none=>show absurd e h
  |some v=>show rn.mpr #[_,Tb.az e,rfl]
theorem AE:aC ["self","task","address","many","table","whole","page","entry"] ["self","task","address","many"] (aw uo):=L2.bD
theorem zy {f:Addr}{fd:qi}{c:CA}(F:cK K "peek" "Rooms.peek" uo f fd) (T:oP K mg c) (TT:Tb.Txt K mg c.T) (TP:ou K mg c.P) (GR:Df P w K mg base aV 1 "room_of" dY) (GO:Df P w K mg base aV 2 "pages_of_cells" Rm.iE) (bn:Df P w K mg base aV 1 "run_within" Rm.lV) (bx:Md P w K mg base aV 1 c.T "pages" (Tb.eT c.T)) (GG:Md P w K mg base aV 3 c.T "get" (Tb.mM c.T)) (ci:Md P w K mg base aV 7 c.P "fetch" (lu c.P c.S)) (bq:Md P w K mg base aV 5 c.C "cells_of" (iL c)):a8 P w K mg base aV 8 f fd ["self","task","address","many"] (qv c):=by
 let#[aB,mB,sB]:=T.bl;have rB:RelV (.ref aB) (.ref aB):=rfl;show F.dh AE (λcm A outer s H vs Q E N h=>?_);let#[M,a,s',W,cv,t,ad,n,x,rfl,R,ri,bE,hx,n6,cz,cp,hb,q]:=h;have hs:=ub;let#[dx,ho]:=R.ob;have TX:=R.tb _ (Tb.az hx);let#[c1,c2]:=Rm.gF hb;show#[_,(ag (dn 4 AE.nd (pc GR N ax (aa (aK (pv 0) rfl) (aa (pv 1) ai))))
  (ag (dn 5 AE.nd (cj ai))
  (ag (cG C1 rfl (fQ (pc GO N ax (aa (uf (pv 4) TT.cl bx N ax) (aa (pv 2) (aa (pv 3) ai))))) (f9 6 AE.nd) (ag (dn 7 AE.nd (pm (pv 4) TT.cl GG N ax (aa (pv 6) ai)))
  (ag (aS (aD (vI N.iw) (pv 7) (cw (by rfl) mB rB) (aI _)) (ak (aL (pm (aK (pv 0) rfl) TP.cl ci N ax (aa (aP aN (pv 7) aj bW) ai)))) aF)
  (ak (aL (ie Ls Mo OS pV (pv 5) (aa (pm (pv 0) T.cl bq N ax (aa (pv 7) ai)) ai)))))))
  (ak (aE (pc bn N ax (aa (pv 5) (aa (pv 2) (aa (pv 3) ai))))))))),?_]
 show#[0,a.rp,c.C,dx,_,0,ho,T.cl,T.nR,fK _ _ _,0,a.rd,W,t,x,rfl,R.hd,hx,?_];show#[av,λG ab=>?_];have R1:=R.F8 (o:=.lst []) ab;have s1:aZ H (upd H G (.lst [])):=Tb.au ab;have a2:upd H G (.lst []) G=some (.lst []):=af;generalize upd H G (.lst [])=H1 at *;have bd:¬ a.own W G:=λz=>R.mt _ (R.dA _ z) ab;have a7:=R1.tb _ (Tb.az hx);let#[bY,ht]:=a7.at_.ob;show#[0,x.p,bY,0,ht,Tb.aY _ ao,x.p,x.fs,x.tb,rfl,a7.at_,λH2 l2 ns s2 cr b2 pm cx=>?_];have bi:∀{z},z∈x.t.map (·.1)->z∈ns:=λ{z} h=>(TX.mem pm z).mpr ((TX.keys z).mp h);show#[0,0,l2,ns,ad,n,rfl,b2,λh=>hb (Rm.xh (λz hz=>bi hz) h),λH3 l3 s3 bF be=>?_];have S3:=s2.trans s3;have R3:=R1.same S3;have bI:=S3 _ _ a2;have a0:H1 l3=none:=s2.free bF;have ch:¬ a.own W l3:=λz=>R1.mt _ (R1.dA _ z) a0;have b0:l3≠G:=λz=>(by rw[z,a2]at a0;cases a0);show#[l3,rfl,#[_,bA.of be],?_];show fC (K:=K) (a:=l3) (xs:=(Rm.aq ad n).map V.int) (λi σ H4=>Hv λ(v6 v7:Option V) (s4:Pg.PS)=>Ip (σ=[some (.ref a.rp),some (.int t),some (.int ad),some (.int n),some (.ref x.p),some (.ref G),v6,v7]) (ay c H4 (λb=>M b\/b=G) a s4 W) (Pg.RI s4 (ents W)) (Cv s4 W cv) (H4 G=some (.lst ((bR (cv t) ((Rm.aq ad n).take i)).map V.int))) ((bR (cv t) ((Rm.aq ad n).take i)).length=8*i) (Off (λb=>a.own W b\/b=G) H3 H4) ((∀b,(s4.ow b).length=(s'.ow b).length)/\Pg.KB s' s4/\mr x.t (Rm.aq ad n) i s4))
  #[2,s',rfl,R3,ri,bE,bI,rfl,λ_ _ e _=>e,λ_=>rfl,Pg.KB.refl,λ_ _ _ h=>(by cases h)] (λi σ H4 _ z0=>by let#[_,_,_,_,_,_,_,_,_,U,_]:=z0;show bA.of (U _ _ be λz=>z.elim ch b0)) ?_ ?_
 .rintro i u σ H4 hu ⟨v6,v7,s4,rfl,R4,J,am,ap,ca,U,Y⟩;rw[rz]at hu;let#[p,hp,rfl]:=pq.mp hu;have b4:=ua hp;let#[hi,cq]:=kz.mp hp;have T4:=R4.tb _ (Tb.az hx);let#[b3,b6]:=T4.at_.ob;obtain⟨e,he⟩:∃e,Tb.look x.t p=some e:=by
   cases z:Tb.look x.t p with
   |none=>show absurd z ((TX.keys p).mp (c2 p b4))
   |some e=>show#[e,rfl]
  show#[0,x.p,b3,0,b6,Tb.aY _ ao,0,x.p,x.fs,x.tb,p,rfl,T4.at_,λH5 v O hv=>?_];rw[T4.lk,he]at hv;let#[tt,rfl,ac]:=hv;have L:=R4.same O;have a3:=O _ _ ap;show nameQ ?_;dsimp only;show share (λσ H6=>∃I:Pg.PS,Ip (σ=[some (.ref a.rp),some (.int t),some (.int ad),some (.int n),some (.ref x.p),some (.ref G),some (.int p),some (.ref tt)]) (ay c H6 (λb=>M b\/b=G) a I W) (Pg.RI I (ents W)) (Cv I W cv) (H6 tt=some (.tup (yJ e))) (H6 G=some (.lst ((bR (cv t) ((Rm.aq ad n).take i)).map V.int))) (Off (λb=>a.own W b\/b=G) H3 H6) ((∀b,(I.ow b).length=(s'.ow b).length)/\Pg.KB s' I/\∀k,e=some k->∃m,I.pl k=some (true,m))) (λu' a6=>?A) ?B
  case A =>
   show#[0,tt,aB,_,0,rfl,bL.of ac,iV.sq (.inr sB),?_];cases e with
   |none =>
    show#[1,0,bX ?_];show a6 _ _ #[s4,rfl,L,J,am,ac,a3,λb o e z=>O _ _ (U b o e z),Y.1,Y.2.1,λ_ h=>(by cases h)]
   |some k =>
    show#[1,0,eL ?_];let#[bm,bv]:=L.ob;let#[a1,bz]:=L.pg.ob;let#[cs,cc,hv]:=J.is k (jQ hx he);show#[0,a.rp,c.C,bm,_,0,bv,T.cl,T.nP,kW _ _ _,a.A.pg,a1,0,bz,cJ _ _ ao ao ao ao ao,0,tt,_,(1),0,rfl,bL.of ac,4,a.A,s4,k,cs,cc,rfl,L.Io J,hv,λH6 I fe G6 O6=>?_];have FF:=Pg.kU J.good fe;show a6 _ _ #[I,rfl,L.ku G6 O6 FF.kept.ln,J.Dx fe,am.keep (Pg.vN J.good fe),O6 _ _ ac (L.pg.iR _ _ ac),O6 _ _ a3 (λz=>bd (.inl z)),λb o e z=>O6 _ _ (O _ _ (U b o e z)) (λy=>z (.inl (.inl y))),λb=>(FF.kept.ln b).trans (Y.1 b),Y.2.1.trans (Pg.Hf J.good fe),λk' h=>by cases h;show FF.fr]
  case B =>
   rintro σ H6 ⟨I,rfl,R6,aT,a4,ce,a5,o6,as⟩;let#[a1,b1]:=R6.ob;have bc:=a4 t x hx p e he;have c8:=yS.len aT.good bc;show#[0,.inl #[4,bA.of a5],0,a.rp,a1,0,b1,fE _ _ _ ao ao ao,0,_,a,I,W,tt,e,cv t p,rfl,R6,aT.good,ce,bc,λH7 l7 s7 f7 h7=>?_];have R7:=R6.same s7;have ba:=s7 _ _ a5;show#[G,l7,_,0,rfl,ba,h7,by rw[nq,nq];omega,?_];rw[<-BY, <-eY hp];show#[2,I,rfl,R7.Kb ba (.inr rfl) bd,aT,a4,af,by rw[eY hp,vl];omega,λb o e z=>by rw[ah (λy=>z (.inr y))];show s7 _ _ (o6 b o e z),as.1,as.2.1,λj q k hj hq hk=>by
    have:j=i:=ae;subst this;rw[hp]at hq;cases hq;rw[he]at hk;cases hk;show as.2.2 k rfl]
 .rintro σ H4 ⟨v6,v7,s4,rfl,R4,J,am,ap,ca,U,Y⟩;rw[nq,Lz]at ap;show#[0,0,0,G,_,ad,n,rfl,ap,λH5 l5 O bb b5=>?_];have L:=R4.same O;have oA:Off (a.own W) H H5:=λb o e z=>O _ _ (U _ _ (S3 _ _ (s1 _ _ e)) λy=>y.elim z λy=>by rw[y,ab]at e;cases e);show q H5 _ s4 l5 L J am #[oA,λb z _=>.inl z,λb z=>z.elim .inl λz=>.inr (by rw[z];show ab),λb z=>.inl z,R.mt,R.dA] (by rw[nq]at Y;show Y) ?_ b5;cases z:H l5 with
  |none=>rfl
  |some o =>
   exfalso;by_cases w:a.own W l5
   .show R4.mt _ (R4.dA _ w) bb
   .have:=U _ _ (S3 _ _ (s1 _ _ z)) λy=>y.elim w λy=>(by rw[y,ab]at z;cases z);rw[bb]at this;cases this
end
end St
namespace Rm
theorem nu {ad:Int}{cs ws:List Int}{I:List Int}(h:¬ cX ad cs.length I) (G:ws.length=8*(aq ad cs.length).length):(dQ ws (ad%8).toNat cs).length=8*(aq ad cs.length).length:=by
 unfold dQ;rw[vl,vl,DD,LZ];by_cases e:((cs.length:Nat):Int)=0
 .have:aq ad cs.length=[]:=(by unfold aq;rw[Sv e]);rw[this]at G ⊢;have N:ws.length=0:=G;have J:cs.length=0:=ae;rw[N,J];simp
 .have L:(aq ad cs.length).length=(gW ad cs.length).toNat:=by
   unfold aq;rw[Su e];unfold aM;rw[nq,Lh]
  have O:0<((cs.length:Nat):Int):=ae;have h1:¬ cD (jm ad) (gW ad cs.length):=λz=>h (.inr #[O,.inl z]);have h2:¬ gW ad cs.length<1:=λz=>h1 (.inl z);rw[L]at G ⊢;unfold gW at *;omega
theorem Fw {k:Nat}{ws:List Int}(h:ws.length=8*k):∀G∈fY k ws,G.length=8:=by
 intro G I;unfold fY at I;let#[i,hi,rfl]:=rn.mp I;have:=K5.mp hi;rw[DD,LZ,h];omega
end Rm
namespace St
open PySem L2
noncomputable def fV (cv:Int->Int->List Int) (t:Int) (l:List (Int×List Int)):Int->Int->List Int:=λt' q=>if t'=t then(Tb.look l q).getD (cv t' q)else cv t' q
theorem vv {cv:Int->Int->List Int}{t:Int}:fV cv t []=cv:=by
 funext t' q;unfold fV;by_cases z:t'=t
 .rw[Sv z];rfl
 .rw[Su z]
theorem sQ {cv:Int->Int->List Int}{t t' q:Int}{l:List (Int×List Int)}{p:Int}{r:List Int}:fV cv t ((p,r)::l) t' q=if t'=t/\q=p then r else fV cv t l t' q:=by
 unfold fV;by_cases z:t'=t
 .rw[Sv z,Sv z,Tb.aO];by_cases G:p=q
  .rw[Sv G,Sv #[z,G.symm]];rfl
  .rw[Su G,Su (λh=>G h.2.symm)]
 .rw[Su z,Su z,Su (λh=>z h.1)]
noncomputable def eM (f:Int->List Int) (ad:Int) (cs:List Int):List (List Int):=Rm.fY (Rm.aq ad cs.length).length (Rm.dQ (bR f (Rm.aq ad cs.length)) (ad%8).toNat cs)
noncomputable def Ex (y:List (Int×Pg.Ent)) (ps:List Int) (s:Pg.PS):Prop:=(0:Int)∈s.ow true->∀q∈ps,∀k,Tb.look y q=some (some k)->∃m,s.pl k=some (true,m)
inductive qh (K:iF) (c:CA) (vs:List V) (H:Hp) (Q:VK) (e3:XK):Prop
 |mk (M:Addr->Prop) (a:RA) (s:Pg.PS) (W:di) (cv:Int->Int->List Int) (t ad:Int) (ca:Addr) (cs:List Int) (x:TD) (_:vs=[.ref a.rp,.int t,.int ad,.ref ca]) (_:ay c H M a s W) (_:Pg.RI s (ents W)) (_:Cv s W cv) (_:Tb.look W t=some x) (_:bA K H ca (cs.map V.int)) (_:cs.length<=500) (_:0<=ad) (_:ad<=1000) (_:¬ Rm.cX ad cs.length (x.t.map (·.1))) (_:∀(H':Hp) (M':Addr->Prop) (s':Pg.PS) (y:TD),ay c H' M' a s' (Tb.aW W t y)->Pg.RI s' (ents (Tb.aW W t y))->Cv s' (Tb.aW W t y) (fV cv t (((Rm.aq ad cs.length).zip (eM (cv t) ad cs)).reverse))->(∀q,¬ q∈Rm.aq ad cs.length->Tb.look y.t q=Tb.look x.t q)->(∀q∈Rm.aq ad cs.length,∃k,Tb.look y.t q=some (some k))->Step H M (a.own W) H' M' (a.own (Tb.aW W t y))->((∀b,(s'.ow b).length=(s.ow b).length)/\Pg.KB s s'/\Ex y.t (Rm.aq ad cs.length) s'/\mr y.t (Rm.aq ad cs.length) (Rm.aq ad cs.length).length s')->Q .non H'):qh K c vs H Q e3
theorem jH (ad n:Int):(Rm.aq ad n).Nodup:=by
 unfold Rm.aq;by_cases e:n=0
 .rw[Sv e];show Mc
 .rw[Su e];show pb _ _
theorem kS {α G:Type}{F:α->G->Prop}:∀{xs:List α}{ys:List G}{i:Nat}{x:α},Paired F xs ys->xs[i]?=some x->∃y,ys[i]?=some y/\F x y
 |_,_,_,_,.nil,e=>by simp at e
 |_,_,0,_,.cons r _,e=>by simp at e;subst e;show#[0,r]
 |_,_,i+1,x,.cons _ t,e=>by
  let#[u,h1,h2]:=kS (i:=i) (x:=x) t (by simpa using e);show#[u,by simpa using h1,h2]
section
variable {P:rr}{w:Bd}{K:iF}{mg:Str->Option Value}{base:Heap}
theorem p5:aC ["self","task","address","cells","table","pages","whole","page","changed"] ["self","task","address","cells"] (aw vz):=L2.bD
theorem Bs {f:Addr}{fd:qi}{c:CA}(F:cK K "poke" "Rooms.poke" vz f fd) (T:oP K mg c) (TT:Tb.Txt K mg c.T) (GR:Df P w K mg base aV 1 "room_of" dY) (GO:Df P w K mg base aV 2 "pages_of_cells" Rm.iE) (eg:Df P w K mg base aV 1 "pages_with" (Rm.vG K)) (d4:Md P w K mg base aV 1 c.T "pages" (Tb.eT c.T)) (GG:Md P w K mg base aV 3 c.T "get" (Tb.mM c.T)) (GL:Md P w K mg base aV 3 c.T "lay" (Tb.sE K c.T)) (dd:Md P w K mg base aV 5 c.C "cells_of" (iL c)) (dI:Md P w K mg base aV 9 c.C "sheet_with" (hV c)):a8 P w K mg base aV 10 f fd ["self","task","address","cells"] (qh K c):=by
 show F.dh p5 (λeo A outer s H vs Q E O h=>?_);let#[M,a,s',W,cv,t,ad,ca,cs,x,rfl,R,ri,cp,U,b6,n6,ew,ey,hb,q]:=h;have hs:=ub;let#[dx,ho]:=R.ob;have TX:=R.tb _ (Tb.az U);let#[ee,ht]:=TX.at_.ob;let#[c1,c2]:=Rm.gF hb;show#[_,(ag (dn 4 p5.nd (pc GR O ax (aa (aK (pv 0) rfl) (aa (pv 1) ai))))
  (ag (dn 5 p5.nd (pc GO O ax (aa (uf (pv 4) TT.cl d4 O ax) (aa (pv 2) (aa (aQ bG (by rfl) T.len boot_len (aa (pv 3) ai)) ai)))))
  (ag (dn 6 p5.nd (cj ai))
  (ag (cG C1 rfl (fQ (pv 5)) (f9 7 p5.nd) (ak (aL (ie Ls Mo OS pV (pv 6) (aa (pm (pv 0) T.cl dd O ax (aa (pm (pv 4) TT.cl GG O ax (aa (pv 7) ai)) ai)) ai)))))
  (ak (cG C1 rfl (EN (by rfl) T.zip (aa (pv 5) (aa (pc eg O ax (aa (pv 6) (aa (pv 2) (aa (pv 3) ai)))) ai))) (dF rfl (bg (f9 7 p5.nd) (bg (f9 8 p5.nd) cQ))) (ak (aL (pm (pv 4) TT.cl GL O ax (aa (pv 7) (aa (b7 (aa aH (aa (pm (pv 0) T.cl dI O ax (aa (pm (pv 4) TT.cl GG O ax (aa (pv 7) ai)) (aa (pv 8) ai))) ai))) ai))))))))))),?_]
 show#[0,a.rp,c.C,dx,_,0,ho,T.cl,T.nR,fK _ _ _,0,a.rd,W,t,x,rfl,R.hd,U,?_];show#[0,x.p,ee,0,ht,Tb.aY _ ao,x.p,x.fs,x.tb,rfl,TX.at_,λH1 l1 ns s1 eq c4 pm ev=>?_];have bi:∀{z},z∈x.t.map (·.1)->z∈ns:=λ{z} h=>(TX.mem pm z).mpr ((TX.keys z).mp h);show#[0,0,ca,0,.inl (Rm.eI b6 (s1 _)),l1,ns,ad,cs.length,by rw[nq];rfl,c4,λh=>hb (Rm.xh (λz hz=>bi hz) h),λH2 l2 s2 dL be=>?_];generalize eP:Rm.aq ad cs.length=ps at *;have cS:ps.Nodup:=(by rw[<-eP];show jH _ _);have S2:=s1.trans s2;have R2:=R.same S2;show#[av,λG a6=>?_];have R3:=R2.F8 (o:=.lst []) a6;have s3:aZ H2 (upd H2 G (.lst [])):=Tb.au a6;have ea:upd H2 G (.lst []) G=some (.lst []):=af;generalize upd H2 G (.lst [])=H3 at *;have bc:H G=none:=S2.free a6;have ef:¬ a.own W G:=λz=>R.mt _ (R.dA _ z) bc;have bq:=s3 _ _ be;have d8:H l2=none:=s1.free dL;have eb:¬ a.own W l2:=λz=>R.mt _ (R.dA _ z) d8;have cC:l2≠G:=λz=>(by rw[z,a6]at be;cases be);have cx:∀p∈ps,∃e,Tb.look x.t p=some e:=λp a1=>by
  cases z:Tb.look x.t p with
  |none=>show absurd z ((TX.keys p).mp (c2 p a1))
  |some e=>show#[e,rfl]
 show#[0,l2,rfl,#[_,bA.of bq],?_];show fC (K:=K) (a:=l2) (xs:=ps.map V.int) (λi σ H4=>∃v7:Option V,Fc (σ=[some (.ref a.rp),some (.int t),some (.int ad),some (.ref ca),some (.ref x.p),some (.ref l2),some (.ref G),v7,none]) (ay c H4 (λb=>M b\/b=G) a s' W) (H4 G=some (.lst ((bR (cv t) (ps.take i)).map V.int))) ((bR (cv t) (ps.take i)).length=8*i) (Off (· = G) H3 H4))
  #[0,R3,ea,rfl,λ_ _ e _=>e] (λi σ H4 _ z0=>by let#[_,_,_,_,_,o4]:=z0;show bA.of (o4 _ _ bq cC)) ?_ ?_
 .rintro i u σ H4 hu ⟨v7,rfl,R4,a3,bb,o4⟩;rw[rz]at hu;let#[p,J,rfl]:=pq.mp hu;have a1:=ua J;let#[hi,db]:=kz.mp J;have T4:=R4.tb _ (Tb.az U);let#[c5,d7]:=T4.at_.ob;let#[dp,dT]:=R4.ob;let#[e,he]:=cx p a1;have cm:=cp t x U p e he;have c8:=yS.len ri.good cm;show#[0,.inl #[4,bA.of a3],0,a.rp,dp,0,dT,fE _ _ _ ao ao ao,0,x.p,c5,0,d7,Tb.aY _ ao,0,x.p,x.fs,x.tb,p,rfl,T4.at_,λH5 v s5 hv=>?_];rw[T4.lk,he]at hv;let#[tt,rfl,bl]:=hv;show#[_,a,s',W,tt,e,cv t p,rfl,R4.same s5,ri.good,bl,cm,λH7 l7 s7 f7 h7=>?_];have S7:=s5.trans s7;have R7:=R4.same S7;have b1:=S7 _ _ a3;show#[G,l7,_,0,rfl,b1,h7,by rw[nq,nq];omega,?_];rw[<-BY, <-eY J];show#[0,R7.Kb b1 (.inr rfl) ef,af,by rw[eY J,vl];omega,λb o e z=>by rw[ah z];show S7 _ _ (o4 b o e z)]
 .rintro σ H4 ⟨v7,rfl,R4,a3,bb,o4⟩;rw[nq,Lz]at a3 bb;have dM:bA K H4 ca (cs.map V.int):=Rm.eI b6 λo e=>o4 _ _ (s3 _ _ (S2 _ _ e)) (λz=>by rw[z,bc]at e;cases e);have em:=o4 _ _ bq cC;have bn:=Rm.nu hb (ws:=bR (cv t) ps) (by rw[eP];show bb);rw[eP]at bn;show#[0,0,0,0,G,ca,_,cs,ad,ps.length,rfl,a3,dM,by rw[bb];omega,ae,c1,bn,λH5 l5 rs s5 d2 ce ba dV et=>?_];have R5:=R4.same s5;have cP:=s5 _ _ em;have b4:rs.length=ps.length:=by
   rw[ba.length];unfold Rm.fY;rw[nq,Lh]
  have h8:=Rm.Fw bn;generalize eC:Rm.fY ps.length (Rm.dQ (bR (cv t) ps) (ad%8).toNat cs)=ch at ba h8;have d5:ch.length=ps.length:=(by rw[<-ba.length,b4]);have c3:eM (cv t) ad cs=ch:=(by unfold eM;rw[eP];show eC);have ec:Step H M (a.own W) H5 (λb=>M b\/b=G) (a.own W):=#[λb o e z=>s5 _ _ (o4 _ _ (s3 _ _ (S2 _ _ e)) (λy=>by rw[y,bc]at e;cases e)),λb z _=>.inl z,λb z=>z.elim .inl λz=>.inr (by rw[z];show bc),λb z=>.inl z,R.mt,R.dA];have cc:∀r∈rs,¬ (M r\/r=G):=λr O z=>R4.mt r z (dV r O);have c0:∀{l},H4 l=none->¬ a.own W l:=λh z=>R4.mt _ (R4.dA _ z) h;show#[l2,l5,rfl,#[_,bA.of cP],#[_,bA.of ce],?_];show BR (K:=K) (a:=l2) (b:=l5) (xs:=ps.map V.int) (ys:=rs.map V.ref) (λi σ H6=>BE λ(v7 v8:Option V) (M6:Addr->Prop) (Y:Pg.PS) (y:TD)=>Ip (σ=[some (.ref a.rp),some (.int t),some (.int ad),some (.ref ca),some (.ref y.p),some (.ref l2),some (.ref G),v7,v8]) (ay c H6 M6 a Y (Tb.aW W t y)) (Pg.RI Y (ents (Tb.aW W t y))) (Cv Y (Tb.aW W t y) (fV cv t (((ps.zip ch).take i).reverse))) ((∀q,¬ q∈ps.take i->Tb.look y.t q=Tb.look x.t q)) ((∀q∈ps.take i,∃k,Tb.look y.t q=some (some k))) (Step H5 (λb=>M b\/b=G) (a.own W) H6 M6 (a.own (Tb.aW W t y))) ((∀b,(Y.ow b).length=(s'.ow b).length)/\Pg.KB s' Y/\Ex y.t (ps.take i) Y/\mr y.t ps i Y))
   #[2,_,s',x,rfl,by rw[cM R.nd U];show R5,by rw[cM R.nd U];show ri,by rw[cM R.nd U,PJ];change Cv s' W (fV cv t []);rw[vv];show cp,λ_ _=>rfl,λq L=>by simp at L,by rw[cM R.nd U];show R5.refl,λ_=>rfl,Pg.KB.refl,λ_ q L=>(by simp at L),λ_ _ _ h=>(by cases h)] (by rw[nq,nq,b4]) (λi σ H6 _ z0=>by
    let#[_,_,_,_,_,_,_,_,_,_,_,st,_]:=z0;show#[bA.of (st.off _ _ cP eb),bA.of (st.off _ _ ce (c0 d2))]) ?_ ?_
  .rintro i u v σ H6 z hu hv hz ⟨v7,v8,M6,Y,y,rfl,R6,bm,a2,a5,a7,a0,as⟩;rw[rz]at hu hv;let#[p,J,rfl]:=pq.mp hu;let#[r,cz,rfl]:=pq.mp hv;have bE:r∈rs:=ua cz;have a1:=ua J;let#[hi,db]:=kz.mp J;let#[am,b5,b2]:=kS ba cz;have c9:=h8 am (ua b5);have ei:¬ p∈ps.take i:=λz=>by
    let#[j,I,e]:=LI z;rw[Nx]at e;rw[DD]at I;show nV cS j i (ti ae) J ae e
   have en:=a0.off _ _ b2 (λw=>cc r bE (R5.dA _ w));have d1:¬ M6 r:=λw=>(a0.mn r w).elim (cc r bE) λw=>(by rw[b2]at w;cases w);have sT:=Tb.au (X:=.tup [.int p,.ref r]) hz;show#[z,[.int p,.ref r],rfl,bL.of af,rfl,.int p,[.ref r],rfl,.ref r,[],1,?_];have R7:=R6.same sT;have S7:=a0.trans (R6.gX sT);have da:=sT _ _ en;generalize upd H6 z (.tup [.int p,.ref r])=H7 at *;have ap:=iA (y:=y) U;have T7:=R7.tb _ (Tb.az ap);let#[b3,b0]:=T7.at_.ob;let#[ej,dO]:=R7.ob;let#[e,bF]:=cx p a1;have he:Tb.look y.t p=some e:=(a5 p ei).trans bF;show#[0,y.p,b3,0,b0,Tb.aY _ ao,0,0,a.rp,ej,0,dO,fE _ _ _ ao ao ao,0,y.p,b3,0,b0,Tb.aY _ ao,0,y.p,y.fs,y.tb,p,rfl,T7.at_,λH8 v s8 hv=>?_];rw[T7.lk,he]at hv;let#[tt,rfl,bl]:=hv;have R8:=R7.same s8;have S8:=S7.trans (R7.gX s8);have pe:(ents (Tb.aW W t y)).Perm (e::(ug (Tb.bf y.t p)++ents (Tb.bf (Tb.aW W t y) t))):=(j7 R7.nd ap).trans ((tK T7.nd he).append_right _);show#[0,M6,a,Y,Tb.aW W t y,tt,r,e,_,am,rfl,R8,bm.perm pe,bl,s8 _ _ da,d1,c9,λH9 s9 k R9 ek bY d6 dm aB=>?_];show#[d9,λu fu=>?_];have sU:=Tb.au (X:=.tup [.str "sheet",.int k]) fu;have bv:=R9.same sU;have dl:=(S8.trans dm).trans (R9.gX sU);have dj:upd H9 u (.tup [.str "sheet",.int k]) u=some (.tup [.str "sheet",.int k]):=af;have c7:=bv.tb _ (Tb.az ap);let#[g1,g2]:=TX.pg (q:=p) (by rw[bF];simp);show#[y.p,y.fs,u,y.tb,p,[.str "sheet",.int k],rfl,c7.at_,g1,g2,.inl dj,rfl,λdz aT d3 el ci bz=>?_];have TI:dq c.T dz #[y.p,y.fs,aT,(p,some k)::Tb.bf y.t p]:=#[d3,Tb.E4 T7.nd,λj=>by
    rw[el j,Tb.gp];by_cases w:j=p
    .rw[Sv w,Sv w];rfl
    .rw[Su w,Su w];show T7.lk j]
   have bx:=bv.uW (y:=#[y.p,y.fs,aT,(p,some k)::Tb.bf y.t p]) ap rfl TI ci bz;have cq:=dl.trans (bv.rV (y:=#[y.p,y.fs,aT,(p,some k)::Tb.bf y.t p]) ap ci bz);have cr:=Bt (y:=#[y.p,y.fs,aT,(p,some k)::Tb.bf y.t p]) (e:=some k) (q:=p) R7.nd ap rfl;rw[set_set]at bx cq cr;have cT:(ps.zip ch)[i]?=some (p,am):=by
    rw[Ol];show#[J,b5]
   show#[2,_,s9,#[y.p,y.fs,aT,(p,some k)::Tb.bf y.t p],rfl,bx,ek.perm cr.symm,3,?_,cq,λb=>(aB.1 b).trans (as.1 b),as.2.1.trans aB.2.1,λz q L k' N=>?_,λj q k' I L N=>?_]
   .intro ac bd a4 q S ab;rw[Lm,cT,show(some (p,am)).toList=[(p,am)]from rfl,Ny,show([(p,am)]:List (Int×List Int)).reverse=[(p,am)]from rfl,List.singleton_append,sQ];rw[Tb.bK ac U]at a4;have bI:∀{S},S∈ug (Tb.bf y.t p)\/S∈ents (Tb.bf (Tb.aW W t y) t)->S∈ug (Tb.bf y.t p)++ents (Tb.bf (Tb.aW W t y) t):=λh=>oR.mpr h;by_cases w:ac=t
    .rw[Sv w]at a4;cases a4;have ab:Tb.look ((p,some k)::Tb.bf y.t p) q=some S:=ab;rw[Tb.gp]at ab;by_cases w2:q=p
     .rw[Sv w2]at ab;cases ab;rw[Sv #[w,w2]];show d6
     .rw[Su w2]at ab;rw[Su (λh=>w2 h.2)];show bY S (bI (.inl ?_)) _ (a2 ac y (by rw[w];show ap) q S ab);show rn.mpr #[(q,S),Tb.nZ (Tb.az ab) w2,rfl]
    .rw[Su w]at a4;rw[Su (λh=>w h.1)];have h2:Tb.look (Tb.aW W t y) ac=some bd:=(by rw[Tb.bK ac U,Su w];show a4);show bY S (bI (.inr ?_)) _ (a2 ac bd h2 q S ab);show NM.mpr #[(ac,bd),Tb.nZ (Tb.az h2) w,rn.mpr #[(q,S),Tb.az ab,rfl]]
   .intro j I;rw[Lm,J]at I;have w:j≠p:=λw=>I (by rw[w];simp);change Tb.look ((p,some k)::Tb.bf y.t p) j=_;rw[Tb.gp,Su w];show a5 j λh=>I (LC _ h)
   .intro j I;change ∃k',Tb.look ((p,some k)::Tb.bf y.t p) j=some (some k');rw[Tb.gp];by_cases w:j=p
    .rw[Sv w];show#[k,rfl]
    .rw[Su w];rw[Lm,J]at I;rcases oR.mp I with I|I
     .show a7 j I
     .show absurd (by simpa using I) w
   .have N:Tb.look ((p,some k)::Tb.bf y.t p) q=some (some k'):=N;rw[Tb.gp]at N;by_cases w:q=p
    .rw[Sv w]at N;cases N;show aB.2.2
    .rw[Su w]at N;rw[Lm,J]at L;rcases oR.mp L with L|L
     .show(aB.2.1 z).2 k' (as.2.2.1 (aB.2.1 z).1 q L k' N)
     .show absurd (by simpa using L) w
   .have:j=i:=ae;subst this;rw[J]at L;cases L;have N:Tb.look ((p,some k)::Tb.bf y.t p) p=some (some k'):=N;rw[Tb.gp,Sv rfl]at N;cases N;show aB.2.2
  .rintro σ H6 ⟨v7,v8,M6,Y,y,rfl,R6,bm,a2,a5,a7,a0,as⟩;rw[nq,Lz]at a5 a7 as;rw[nq,Lp (by rw[List.length_zip,d5];omega), <-c3]at a2;show q H6 M6 Y y R6 bm a2 a5 a7 (ec.trans a0) as
end
noncomputable def lW (cv:Int->Int->List Int) (t o:Int):Int->Int->List Int:=λt' q=>if t'=o then cv t q else cv t' q
inductive qm (c:CA) (vs:List V) (H:Hp) (Q:VK) (e3:XK):Prop
 |mk (M:Addr->Prop) (a:RA) (s:Pg.PS) (W:di) (cv:Int->Int->List Int) (t o:Int) (x:TD) (_:vs=[.ref a.rp,.int t,.int o]) (_:ay c H M a s W) (_:Pg.RI s (ents W)) (_:Cv s W cv) (_:W.length<=1000) (_:Tb.look W t=some x) (_:Tb.look W o=none) (_:(ents W).length+x.t.length<=bS s) (_:∀(H':Hp) (M':Addr->Prop) (s':Pg.PS) (y:TD),(∀q,Tb.look y.t q=Tb.look x.t q)->ay c H' M' a s' (W++[(o,y)])->Pg.RI s' (ents (W++[(o,y)]))->Cv s' (W++[(o,y)]) (lW cv t o)->Step H M (a.own W) H' M' (a.own (W++[(o,y)]))->((∀b,(s'.ow b).length=(s.ow b).length)/\Pg.Up s s')->Q .non H'):qm c vs H Q e3
theorem mi (W:di) (o:Int) (y:TD):ents (W++[(o,y)])=ents W++ug y.t:=by
 unfold ents;rw[N0];simp
section
variable {P:rr}{w:Bd}{K:iF}{mg:Str->Option Value}{base:Heap}
theorem xU:aC ["self","task","other","table","pages","copied","page","entry"] ["self","task","other"] (aw u6):=L2.bD
theorem zh {f fI:Addr}{fd dI:qi}{c:CA}(F:cK K "copy" "Rooms.copy" u6 f fd) (T:oP K mg c) (TT:Tb.Txt K mg c.T) (TP:ou K mg c.P) (MK:Mk K c.T fI) (cp:mg "Table" = some (.ref c.T)) (GR:Df P w K mg base aV 1 "room_of" dY) (GS:Df P w K mg base aV 1 "refuse_second_room" jM) (GA:Df P w K mg base aV 1 "refuse_above" ly) (GI:a8 P w K mg base aV 1 fI dI ["self"] (Tb.hX c.T)) (bI:Binds K dI ["self"] []) (cS:Md P w K mg base aV 1 c.T "pages" (Tb.eT c.T)) (GH:Md P w K mg base aV 2 c.C "held" (jx c)) (GG:Md P w K mg base aV 3 c.T "get" (Tb.mM c.T)) (GL:Md P w K mg base aV 3 c.T "lay" (Tb.sE K c.T)) (ca:Md P w K mg base aV 4 c.P "share" (rJ c.P c.S)):a8 P w K mg base aV 5 f fd ["self","task","other"] (qm c):=by
 let#[aB,mB,sB]:=T.bl;have rB:RelV (.ref aB) (.ref aB):=rfl;show F.dh xU (λdz A outer s H vs Q E J h=>?_);let#[M,a,s',W,cv,t,o,x,rfl,R,ri,cT,lw,hx,a2,cq,q]:=h;have hs:=ub;let#[dx,ho]:=R.ob;have TX:=R.tb _ (Tb.az hx);let#[c7,ht]:=TX.at_.ob;show#[_,(ag (dn 3 xU.nd (pc GR J ax (aa (aK (pv 0) rfl) (aa (pv 1) ai))))
  (ag (aL (pc GS J ax (aa (aK (pv 0) rfl) (aa (pv 2) ai))))
  (ag (dn 4 xU.nd (uf (pv 3) TT.cl cS J ax))
  (ag (aL (pc GA J ax (aa (aA bp (uf (pv 0) T.cl GH J ax) (aQ bG (by rfl) T.len boot_len (aa (pv 4) ai))) (aa (aK (pv 0) rfl) ai))))
  (ag (dn 5 xU.nd (sO MK GI (J.mono av) (by rfl) cp bI .nil ax))
  (ag (cG C1 rfl (fQ (pv 4)) (f9 6 xU.nd) (ag (dn 7 xU.nd (pm (pv 3) TT.cl GG J ax (aa (pv 6) ai)))
  (ag (aL (pm (pv 5) TT.cl GL J ax (aa (pv 6) (aa (pv 7) ai))))
  (ak (aS (aD (vI J.iw) (pv 7) (cw (by rfl) mB rB) (aI _)) (ak (aL (pm (aK (pv 0) rfl) TP.cl ca J ax (aa (aP aN (pv 7) aj bW) ai)))) aF)))))
  (ak (jT (a9 J) (aK (pv 0) rfl) (pv 2) (pv 5) rfl)))))))),?_]
 show#[0,a.rp,c.C,dx,_,0,ho,T.cl,T.nR,fK _ _ _,0,a.rd,W,t,x,rfl,R.hd,hx,?_];show#[0,a.rp,c.C,dx,_,0,ho,T.cl,T.nR,fK _ _ _,0,a.rd,W,o,rfl,R.hd,a2,?_];show#[0,x.p,c7,0,ht,Tb.aY _ ao,x.p,x.fs,x.tb,rfl,TX.at_,λH1 O ns s1 cm b5 pm dL=>?_];have R1:=R.same s1;have dm:ns.length=x.t.length:=TX.len pm;let#[c1,c9]:=R1.ob;show#[0,a.rp,c1,0,c9,fE _ _ _ ao ao ao,M,a,s',W,rfl,R1,lw,λH2 s2=>?_];have R2:=R1.same s2;have a6:=s2 _ _ b5;let#[c8,b4]:=R2.ob;show#[0,O,0,.inl (bA.of a6),_,0,rfl,0,a.rp,c.C,c8,_,0,b4,T.cl,T.nT,HR _ _ _,_,0,by rw[nq,dm];omega,?_];have S2:=s1.trans s2;show λp ce np be dM=>#[p,ce,rfl,af,λfs H3 bq T3 off=>#[5]];have s3:aZ H2 H3:=λb u e=>off b u (by rw[ah (ar e np),ah (ar e be)];show e) (ar e np);have a1:H2 fs=none:=by
  cases e:H2 fs with
  |none=>rfl
  |some u=>rw[ah (ar e np),ah (ar e be),e]at bq;cases bq
 have bc:H fs=none:=S2.free a1;have cP:H p=none:=S2.free np;have R3:=R2.BH (H':=H3) (B:=λ_=>False) (M':=λb=>M b\/b=fs) (λb o e _=>s3 b o e) (λb z=>z.elim) (λb z=>z.elim) (λb z=>z.elim .inl λz=>.inr (by rw[z];show a1)) (λb z _=>.inl z) (λb z e=>z.elim (λz=>(R2.same s3).mt b z e) λz=>by rw[z,T3.hf]at e;cases e);have bY:=s3 _ _ a6;have c0:¬ a.own W O:=λz=>R.mt _ (R.dA _ z) cm;have b3:Step H M (a.own W) H3 (λb=>M b\/b=fs) (a.own W):=#[λb o e _=>s3 _ _ (S2 _ _ e),λb z _=>.inl z,λb z=>z.elim .inl λz=>.inr (by rw[z];show bc),λb z=>.inl z,R.mt,R.dA];have dd:∀b,(TD.mk p fs [] []).eF b->b=fs:=λb z=>by
  rcases z with z|⟨_,hx,_⟩
  .show z
  .cases hx
 have dj:ns.Nodup:=pm.nodup_iff.mpr (Tb.jX TX.at_);show#[0,O,rfl,#[_,bA.of bY],?_];show fC (K:=K) (a:=O) (xs:=ns.map V.int) (λi σ H4=>BE λ(v6 v7:Option V) (M4:Addr->Prop) (s4:Pg.PS) (y:TD)=>Gu (σ=[some (.ref a.rp),some (.int t),some (.int o),some (.ref x.p),some (.ref O),some (.ref y.p),v6,v7]) (ay c H4 M4 a s4 W) (dq c.T H4 y) ((∀b,y.eF b->M4 b/\¬ a.own W b/\H b=none/\b≠O)) (¬ a.A.own y.p) ((∀q,Tb.look y.t q=if q∈ns.take i then Tb.look x.t q else none)) (Pg.RI s4 (ug y.t++ents W)) (y.t.length=i) (Cv s4 W cv) ((∀q e,Tb.look y.t q=some e->Pg.yS s4 e (cv t q))) (Step H M (a.own W) H4 M4 (a.own W)) (H4 O=some (.lst (ns.map V.int))) ((∀b,(s4.ow b).length=(s'.ow b).length)/\Pg.Up s' s4))
  #[2,_,s',#[p,fs,[],[]],rfl,R3,#[T3,Mc,λq=>rfl],λb z=>?_,λz=>R.mt _ (R.ok.own _ z) cP,λq=>by simp[Tb.ix],ri,rfl,cT,λq e h=>(by cases h),b3,bY,λ_=>rfl,Pg.Up.refl] (λi σ H4 _ z0=>by let#[_,_,_,_,_,_,_,_,_,_,_,_,_,_,_,_,h,_]:=z0;show bA.of h) ?_ ?_
 .rw[dd b z];show#[.inr rfl,λw=>R.mt _ (R.dA _ w) bc,bc,λw=>by rw[w,a6]at a1;cases a1]
 .rintro i u σ H4 hu ⟨v6,v7,M4,s4,y,rfl,N,T4,L,aT,a0,ab,a5,ap,a3,am,bd,ac⟩;rw[rz]at hu;let#[G,hp,rfl]:=pq.mp hu;have cr:=ua hp;let#[hi,dp]:=kz.mp hp;have da:¬ G∈ns.take i:=λz=>by
   let#[j,hj,e]:=LI z;rw[Nx]at e;rw[DD]at hj;show nV dj j i (ti ae) hp ae e
  obtain⟨e,he⟩:∃e,Tb.look x.t G=some e:=by
   cases z:Tb.look x.t G with
   |none=>show absurd z ((TX.mem pm G).mp cr)
   |some e=>show#[e,rfl]
  have c4:Tb.look y.t G=none:=(by rw[a0,Su da]);have X4:=N.tb _ (Tb.az hx);let#[b6,c2]:=X4.at_.ob;show#[0,x.p,b6,0,c2,Tb.aY _ ao,0,x.p,x.fs,x.tb,G,rfl,X4.at_,λH5 v s5 hv=>?_];rw[X4.lk,he]at hv;let#[tt,rfl,ba]:=hv;have R5:=N.same s5;have T5:dq c.T H5 y:=#[T4.at_.same s5,T4.nd,T4.lk];let#[ch,c5]:=T5.at_.ob;let#[g1,g2]:=TX.pg (q:=G) (by rw[he];simp);have c3:Tb.oe (yJ e)=true:=(by cases e<;>rfl);show#[0,y.p,ch,0,c5,Tb.aY _ ao,0,0,y.p,y.fs,tt,y.tb,G,yJ e,rfl,T5.at_,g1,g2,.inl ba,c3,λH6 Y T6 l6 o6 n6=>?_];have dl:¬ y.eF tt:=λz=>by
   let#[_,h]:=T5.at_.dK z;rw[ba]at h;cases h
  have bF:=o6 _ _ ba dl;have a7:dq c.T H6 #[y.p,y.fs,Y,(G,e)::y.t]:=#[T6,KJ.mpr #[Tb.cf c4,T4.nd],λj=>by
   rw[l6 j,Tb.aO];by_cases z:j=G
   .rw[Sv z,Sv z.symm];rfl
   .rw[Su z,Su (qs z)];show T4.lk j]
  have bE:∀{b},H5 b=none->¬ a.own W b/\H b=none:=λ{b} h=>by
   have no:¬ a.own W b:=λz=>R5.mt _ (R5.dA _ z) h;show#[no,((am.trans (N.gX s5)).gone h).resolve_left no]
  have U:=R5.BH (H':=H6) (B:=y.eF) (M':=λb=>(M4 b/\¬ y.eF b)\/(TD.mk y.p y.fs Y ((G,e)::y.t)).eF b) o6 (λb z=>#[(L b z).1,(L b z).2.1]) (λb z=>.inr (T5.at_.dK z)) (λb z=>z.elim (λz=>.inl z.1) λz=>(n6 b z).elim (λz=>.inl (L b z).1) .inr) (λb z w=>.inl #[z,w]) (λb z w=>by
   rcases z with z|z
   .cases e2:H5 b with
    |none=>show R5.mt b z.1 e2
    |some u=>rw[o6 b u e2 z.2]at w;cases w
   .let#[_,h]:=a7.at_.dK z;rw[w]at h;cases h)
  have a4:∀b,(TD.mk y.p y.fs Y ((G,e)::y.t)).eF b->((M4 b/\¬ y.eF b)\/(TD.mk y.p y.fs Y ((G,e)::y.t)).eF b)/\¬ a.own W b/\H b=none/\b≠O:=λb z=>by
   rcases n6 b z with w|w
   .show#[.inr z,(L b w).2]
   .show#[.inr z,(bE w).1,(bE w).2,λy=>by rw[y,s5 _ _ bd]at w;cases w]
  have bb:=am.trans (N.gX s5);have bn:Step H M (a.own W) H6 (λb=>(M4 b/\¬ y.eF b)\/(TD.mk y.p y.fs Y ((G,e)::y.t)).eF b) (a.own W):=#[λb o e z=>o6 _ _ (bb.off b o e z) (λw=>by rw[(L b w).2.2.1]at e;cases e),λb z w=>.inl #[bb.mm b z w,λy=>R.mt b z (L b y).2.2.1],λb z=>z.elim (λz=>bb.mn b z.1) λz=>.inr (a4 b z).2.2.1,λb z=>.inl z,R.mt,R.dA];have b1:=o6 _ _ (s5 _ _ bd) λz=>(L _ z).2.2.2 rfl;have bz:∀j,Tb.look ((G,e)::y.t) j=if j∈ns.take (i+1)then Tb.look x.t j else none:=λj=>by
   rw[Tb.aO,a0 j,Lm,hp];by_cases z:G=j
   .rw[Sv z, <-z,Sv (by simp),he]
   .rw[Su z];by_cases z2:j∈ns.take i
    .rw[Sv z2,Sv (LC _ z2)]
    .rw[Su z2,Su (by simp[qs z,z2])]
  have bx:(ug y.t++ents W).length<(s4.ow true).length+(s4.ow false).length:=by
   have e1:(ug y.t).length=i:=(by unfold ug;rw[nq];show a5);rw[vl,e1,ac.1,ac.1];unfold bS at cq;omega
  have bv:=ap t x hx G e he;show#[0,tt,aB,_,0,rfl,bL.of bF,iV.sq (.inr sB),?_];cases e with
  |none =>
   show#[1,0,bX ?_];show#[2,_,s4,#[y.p,y.fs,Y,(G,none)::y.t],rfl,U,a7,a4,aT,bz,ab.lay bx,by rw[DO,a5],ap,λj I h'=>?_,bn,b1,ac];have h':Tb.look ((G,none)::y.t) j=some I:=h';rw[Tb.aO]at h';by_cases z:G=j
   .rw[Sv z]at h';cases h';rw[<-z];show bv
   .rw[Su z]at h';show a3 j I h'
  |some k =>
   show#[1,0,eL ?_];let#[cC,b2]:=U.ob;let#[db,cx]:=U.pg.ob;let#[cs,cc,hv]:=ab.is k (KO _ (jQ hx he));let#[b0,n0,hk,_,_]:=id hv;show#[0,a.rp,c.C,cC,_,0,b2,T.cl,T.nP,kW _ _ _,a.A.pg,db,0,cx,cJ _ _ ao ao ao ao ao,0,tt,_,(1),0,rfl,bL.of bF,4,a.A,s4,k,b0,n0,cs,cc,rfl,U.Io ab,hk,hv,λH7 G7 O7=>?_];have sm:=λI=>Pg.uv (es:=[I]) ab.good hk hv I (n7.mpr rfl);have bi:∀b,((Pg.cE s4 b0 n0 (cc+1)).ow b).length=(s4.ow b).length:=λb=>Pg.dD b;show#[2,2,#[y.p,y.fs,Y,(G,some k)::y.t],rfl,U.ku G7 O7 bi,a7.off O7 aT (λb z w=>(a4 b z).2.1 (.inl w)) U.pg.iR,a4,aT,bz,ab.share hk hv bx,by rw[DO,a5],ap.keep λI _=>sm I,λj I h'=>?_,bn.trans (U.FV G7 O7),O7 _ _ b1 (λz=>c0 (.inl z)),λb=>(bi b).trans (ac.1 b),ac.2.trans λ_ _ h=>h];have h':Tb.look ((G,some k)::y.t) j=some I:=h';rw[Tb.aO]at h';by_cases z:G=j
   .rw[Sv z]at h';cases h';rw[<-z];show sm _ _ bv
   .rw[Su z]at h';show sm _ _ (a3 j I h')
 .rintro σ H4 ⟨v6,v7,M4,s4,y,rfl,N,T4,L,aT,a0,ab,a5,ap,a3,am,bd,ac⟩;rw[nq,Lz]at a0;have hy:∀j,Tb.look y.t j=Tb.look x.t j:=λj=>by
   rw[a0 j];by_cases z:j∈ns
   .rw[Sv z]
   .rw[Su z];cases w:Tb.look x.t j with
    |none=>rfl
    |some e=>show absurd ((TX.mem pm j).mpr (by rw[w];simp)) z
  let#[ci,cz]:=N.ob;show#[0,0,a.rp,c.C,ci,_,0,cz,T.cl,T.nR,fK _ _ _,0,a.rd,0,fA.k (k:=sS o) N.hd (by rw[Tb.cg];omega),?_];rw[show(V.ref y.p)=fR y from rfl,Tb.cH a2];have R5:=N.zr a2 T4 (λb z=>#[(L b z).1,(L b z).2.1]) aT;show q _ M4 s4 y hy R5 (by rw[mi];show ab.perm MW) ?_ #[?_,am.mm,am.mn,λb z=>?_,R.mt,R.dA] ac
  .intro t' x' h' j I bm;rw[Tb.bu t' a2]at h';unfold lW;by_cases z:t'=o
   .rw[Sv z]at h' ⊢;cases h';show a3 j I bm
   .rw[Su z]at h' ⊢;show ap t' x' h' j I bm
  .intro b u e z;rw[ah (λw=>z (.inr (.inl w)))];show am.off b u e z
  .rcases z with z|z|⟨x',as,z⟩
   .show .inl (.inl z)
   .show .inl (.inr (.inl z))
   .rcases oR.mp as with as|as
    .show .inl (.inr (.inr #[x',as,z]))
    .rw[n7.mp as]at z;show .inr (L b z).2.2.1
end
noncomputable abbrev ve:KP:=inClass (top 14) 0
noncomputable abbrev uB:KP:=inClass (top 33) 0
noncomputable def s0 (nf ns:Nat):Pg.PS:=#[λb=>replicate (if b=true then nf else ns) 0,λb=>replicate (if b=true then nf else ns) none,λ_=>none,(0),[]]
theorem Gr {nf ns:Nat}(h:0<nf):Pg.RI (s0 nf ns) []:=by
 have I:∀(b:Bool) (n:Nat) (c:Int),((s0 nf ns).ow b)[n]?=some c->c=0:=λb n c e=>by
  have e:(replicate (if b=true then nf else ns) (0:Int))[n]?=some c:=e;show(Qd.mp (ua e)).2
 have G:∀n:Nat,(replicate n (0:Int)).sum=0:=λn=>by
  induction n with
  |zero=>rfl
  |succ n J=>rw[Me,MD,J];rfl
 show#[#[(λk p e=>by cases e),(λk b n e=>by cases e),(λk j p e=>by cases e),λb n c e=>.inl (I b n c e),λb=>?_,Mc,λk=>#[(λz=>by cases z),(λ⟨n,e⟩=>by cases e)]],Ll _,λe=>?_,(λk z=>by cases z),λk cs c z=>?_,?_,KH _]
 .change(replicate _ _).length=(replicate _ _).length;rw[Li,Li]
 .have:(replicate nf (0:Int)).length=0:=(by rw[show replicate nf (0:Int)=[]from e];rfl);rw[Li]at this;omega
 .let#[b,n,e,_]:=z;cases e
 .change(replicate nf (0:Int)).sum+(replicate ns (0:Int)).sum=0;rw[G,G];rfl
noncomputable def PA.nine (A:PA):List Addr:=[A.pg,A.fp,A.fo,A.fc,A.sp,A.so,A.sc,A.pd,A.il]
inductive rP (C CS:Addr) (vs:List V) (H:Hp) (Q:VK) (e3:XK):Prop
 |mk (p dx:Addr) (nf ns:Nat) (_:vs=[.ref p,.int nf,.int ns]) (_:nf<=60) (_:ns<=60) (_:H p=some (.ins C dx [])) (_:∀(H':Hp) (A:PA),A.pg=p->A.nine.Nodup->(∀b∈A.nine,b=p\/H b=none)->(∀M,bM C CS H' M A (s0 nf ns))->Off (· = p) H H'->Q .non H'):rP C CS vs H Q e3
inductive rG (c:CA) (vs:List V) (H:Hp) (Q:VK) (e3:XK):Prop
 |mk (p dx:Addr) (nf ns:Nat) (_:vs=[.ref p,.int nf,.int ns]) (_:nf<=60) (_:ns<=60) (_:0<nf) (_:H p=some (.ins c.C dx [])) (_:∀(H':Hp) (M:Addr->Prop) (a:RA),a.rp=p->ay c H' M a (s0 nf ns) []->(∀b,M b->H b=none)->Off (· = p) H H'->Q .non H'):rG c vs H Q e3
theorem cB {H:Hp}{a b:Addr}{o:HO}(h:upd H a o b=none):b≠a/\H b=none:=by
 by_cases z:b=a
 .rw[z,af]at h;cases h
 .rw[ah z]at h;show#[z,h]
theorem ir {C p ow co:Addr}{B:Addr->Prop}{os:List Int}{pg:List (Option (List Int))}{H H':Hp}(S:∀M,aU C H M p ow co os pg) (o:Off B H H') (I:¬ B p) (G:¬ B ow) (J:¬ B co):∀M,aU C H' M p ow co os pg:=λM =>
 ((S λb=>M b\/B b).off o (λb z=>.inr z) I G J).less λb z=>.inl z
theorem gU {C CS p dx q ow co:Addr}{fs:List (Str×V)}{os:List Int}{pg:List (Option (List Int))}{H:Hp}(G:H p=some (.ins C dx fs)) (S:∀M,aU CS H M q ow co os pg):∀b,b=p\/b=q\/b=ow\/b=co->H b≠none:=by
 intro b z e;have S:=S λ_=>False;let#[J,h2]:=S.ob;let#[_,I,_]:=S.hc;rcases z with z|z|z|z<;>rw[z]at e
 .rw[G]at e;cases e
 .rw[h2]at e;cases e
 .rw[S.hw]at e;cases e
 .rw[I]at e;cases e
theorem nr {C CS:Addr}{H:Hp}{M:Addr->Prop}{A:PA}{s:Pg.PS}(G:bM C CS H M A s):∀b∈A.nine,H b≠none:=by
 intro b z e;unfold PA.nine at z;simp only[wh,By,or_false]at z;let#[dx,h1]:=G.ob;let#[_,I]:=G.fr.ob;let#[_,J]:=G.sl.ob;let#[_,O,_]:=G.fr.hc;let#[_,L,_]:=G.sl.hc;let#[l,N,_]:=G.pd;rcases z with z|z|z|z|z|z|z|z|z<;>rw[z]at e
 .rw[h1]at e;cases e
 .rw[I]at e;cases e
 .rw[G.fr.hw]at e;cases e
 .rw[O]at e;cases e
 .rw[J]at e;cases e
 .rw[G.sl.hw]at e;cases e
 .rw[L]at e;cases e
 .rw[N]at e;cases e
 .rw[G.il]at e;cases e
section
variable {P:rr}{w:Bd}{K:iF}{mg:Str->Option Value}{base:Heap}
theorem JT:aC ["self","frames","slots"] ["self","frames","slots"] (aw ve):=L2.bD
theorem Bo {f C CS bn:Addr}{fd bl:qi}(F:cK K "__init__" "Paging.__init__" ve f fd) (T:ou K mg C) (MS:Mk K CS bn) (bb:mg "Store" = some (.ref CS))
  (be:a8 P w K mg base aV 1 bn bl ["self","many"] (hX CS)) (bc:Binds K bl ["self","many"] []):a8 P w K mg base aV 3 f fd ["self","frames","slots"] (rP C CS):=by
 show F.dh JT (λcp A outer s H vs Q E hr h=>?_);let#[p,dx,nf,ns,rfl,n1,n2,hp,k]:=h;show#[_,(ag (fm (pv 0) (lN MS be (hr.mono av) (by rfl) bb bc .nil ax (aa (pv 1) ai)) rfl)
  (ag (fm (pv 0) (lN MS be (hr.mono av) (by rfl) bb bc .nil ax (aa (pv 2) ai)) rfl)
  (ag (fm (pv 0) dr rfl)
  (ag (fm (pv 0) aj rfl)
  (ak (fm (pv 0) (cj ai) rfl)))))),?_]
 show#[0,λfp cc aT bE ce=>#[fp,cc,nf,rfl,n1,af,λR O H1 Y U b0 S1 o1=>#[5]]];have m1:aZ H H1:=λb u e=>o1 b u (by rw[ah (ar e aT),ah (ar e bE)];show e) (ar e aT);let#[q1,Y]:=cB Y;let#[q2,U]:=cB U;have Y:=(cB Y).2;have U:=(cB U).2;have ci:=m1 _ _ hp;have as:fp≠p:=qs (ar hp aT);have am:R≠p:=qs (ar hp Y);have aB:O≠p:=qs (ar hp U);clear o1 bE ce;show#[0,p,C,dx,[],rfl,ci,T.cl,T.nF,av,?_];have o2:Off (· = p) H1 (upd H1 p (.ins C dx (bo "frames" (.ref fp) []))):=Off.wr rfl;have bv:upd H1 p (.ins C dx (bo "frames" (.ref fp) [])) p=some (.ins C dx (bo "frames" (.ref fp) [])):=af;generalize upd H1 p (.ins C dx (bo "frames" (.ref fp) []))=H2 at *;have S2:=ir S1 o2 as am aB;have O2:Off (· = p) H H2:=λb o e z=>o2 b o (m1 b o e) z;show#[0,λsp cm a7 bF ch=>#[sp,cm,ns,rfl,n2,af,λso sc H3 ap ab bY S3 o3=>#[5]]];have m3:aZ H2 H3:=λb u e=>o3 b u (by rw[ah (ar e a7),ah (ar e bF)];show e) (ar e a7);let#[q3,ap]:=cB ap;let#[q4,ab]:=cB ab;have ap:=(cB ap).2;have ab:=(cB ab).2;clear o3 bF ch;have ac:∀b,b=p\/b=fp\/b=R\/b=O->H2 b≠none:=gU bv S2;have b6:=ir (B:=λ_=>False) S2 (λb o e _=>m3 b o e) id id id;have ca:=m3 _ _ bv;show#[0,p,C,dx,0,ca,T.cl,T.nS,by change 1<1000;decide,?_];have a6:∀{b},H2 b=none->b≠p/\b≠fp/\b≠R/\b≠O/\H b=none:=λ{b} h=>#[λz=>ac b (.inl z) h,λz=>ac b (.inr (.inl z)) h,λz=>ac b (.inr (.inr (.inl z))) h,λz=>ac b (.inr (.inr (.inr z))) h,by
  cases e:H b with
  |none=>rfl
  |some u=>rw[O2 b u e λz=>ac b (.inl z) h]at h;cases h]
 let#[a1,a2,a3,a4,a5]:=a6 a7;let#[b1,b2,b3,b4,b5]:=a6 ap;let#[c1,c2,c3,c4,c5]:=a6 ab;have o4:Off (· = p) H3 (upd H3 p (.ins C dx (bo "slots" (.ref sp) (bo "frames" (.ref fp) [])))):=Off.wr rfl;have a0:upd H3 p (.ins C dx (bo "slots" (.ref sp) (bo "frames" (.ref fp) []))) p=some (.ins C dx (bo "slots" (.ref sp) (bo "frames" (.ref fp) []))):=af;generalize upd H3 p (.ins C dx (bo "slots" (.ref sp) (bo "frames" (.ref fp) [])))=H4 at *;have bx:=ir b6 o4 as am aB;have bz:=ir S3 o4 a1 b1 c1;have O4:Off (· = p) H H4:=λb o e z=>o4 b o (m3 b o (O2 b o e z)) z;have bI:∀{b},H4 b=none->b≠p/\b≠fp/\b≠R/\b≠O/\b≠sp/\b≠so/\b≠sc/\H b=none:=λ{b} h=>by
  have N:=gU a0 bx;have S:=gU a0 bz;show#[λz=>N b (.inl z) h,λz=>N b (.inr (.inl z)) h,λz=>N b (.inr (.inr (.inl z))) h,λz=>N b (.inr (.inr (.inr z))) h,λz=>S b (.inr (.inl z)) h,λz=>S b (.inr (.inr (.inl z))) h,λz=>S b (.inr (.inr (.inr z))) h,?_];cases e:H b with
  |none=>rfl
  |some u=>rw[O4 b u e λz=>N b (.inl z) h]at h;cases h
 intro I bm;let#[d1,d2,d3,d4,d5,d6,d7,d8]:=bI bm;show#[0,p,C,dx,0,by rw[ah (qs d1)];show a0,T.cl,T.nP,by change 2<1000;decide,?_];show#[0,p,C,dx,0,af,T.cl,T.nL,by change 3<1000;decide,?_];have o7:Off (· = p) H4 (upd (upd (upd H4 I (.dK [])) p (.ins C dx (bo "places" (.ref I) (bo "slots" (.ref sp) (bo "frames" (.ref fp) []))))) p (.ins C dx (bo "last_sheet" (.int 0) (bo "places" (.ref I) (bo "slots" (.ref sp) (bo "frames" (.ref fp) [])))))):=λb o e z=>by
  rw[ah z,ah z,ah (ar e bm)];show e
 have ba:upd (upd (upd H4 I (.dK [])) p (.ins C dx (bo "places" (.ref I) (bo "slots" (.ref sp) (bo "frames" (.ref fp) []))))) p (.ins C dx (bo "last_sheet" (.int 0) (bo "places" (.ref I) (bo "slots" (.ref sp) (bo "frames" (.ref fp) []))))) p=some (.ins C dx (bo "last_sheet" (.int 0) (bo "places" (.ref I) (bo "slots" (.ref sp) (bo "frames" (.ref fp) []))))):=af;have bi:upd (upd (upd H4 I (.dK [])) p (.ins C dx (bo "places" (.ref I) (bo "slots" (.ref sp) (bo "frames" (.ref fp) []))))) p (.ins C dx (bo "last_sheet" (.int 0) (bo "places" (.ref I) (bo "slots" (.ref sp) (bo "frames" (.ref fp) []))))) I=some (.dK []):=(by rw[ah d1,ah d1,af]);generalize upd (upd (upd H4 I (.dK [])) p (.ins C dx (bo "places" (.ref I) (bo "slots" (.ref sp) (bo "frames" (.ref fp) []))))) p (.ins C dx (bo "last_sheet" (.int 0) (bo "places" (.ref I) (bo "slots" (.ref sp) (bo "frames" (.ref fp) [])))))=H7 at *;have bd:=ir bx o7 as am aB;have bq:=ir bz o7 a1 b1 c1;have O7:Off (· = p) H H7:=λb o e z=>o7 b o (O4 b o e z) z;show#[av,λG L=>?_];have N:=gU ba bd;have S:=gU ba bq;have i1:G≠p:=λz=>N G (.inl z) L;have i2:G≠fp:=λz=>N G (.inr (.inl z)) L;have i3:G≠R:=λz=>N G (.inr (.inr (.inl z))) L;have i4:G≠O:=λz=>N G (.inr (.inr (.inr z))) L;have i5:G≠sp:=λz=>S G (.inr (.inl z)) L;have i6:G≠so:=λz=>S G (.inr (.inr (.inl z))) L;have i7:G≠sc:=λz=>S G (.inr (.inr (.inr z))) L;have i8:G≠I:=λz=>(by rw[z,bi]at L;cases L);have i9:H G=none:=by
  cases e:H G with
  |none=>rfl
  |some u=>rw[O7 G u e i1]at L;cases L
 show#[0,p,C,dx,0,by rw[ah (qs i1)];show ba,T.cl,T.nI,by change 4<1000;decide,?_];have o9:Off (· = p) H7 (upd (upd H7 G (.lst [])) p (.ins C dx (cN #[p,fp,R,O,sp,so,sc,I,G] 0))):=λb o e z=>by
  rw[ah z,ah (ar e L)];show e
 show k _ #[p,fp,R,O,sp,so,sc,I,G] rfl ?_ ?_ (λM=>#[#[dx,af],ir bd o9 as am aB M,ir bq o9 a1 b1 c1 M,3,[],?_,Mc,(λx hx=>by cases hx),λ_=>rfl,KH _]) (λb o e z=>o9 b o (O7 b o e z) z)
 .unfold PA.nine;simp only[KJ,wh,By,or_false,not_or,not_false_eq_true,Mc,and_true];show#[#[λh=>as h.symm,λh=>am h.symm,λh=>aB h.symm,λh=>a1 h.symm,λh=>b1 h.symm,λh=>c1 h.symm,λh=>d1 h.symm,λh=>i1 h.symm],#[λh=>q1 h.symm,λh=>q2 h.symm,λh=>a2 h.symm,λh=>b2 h.symm,λh=>c2 h.symm,λh=>d2 h.symm,λh=>i2 h.symm],#[λh=>(qs b0) h.symm,λh=>a3 h.symm,λh=>b3 h.symm,λh=>c3 h.symm,λh=>d3 h.symm,λh=>i3 h.symm],#[λh=>a4 h.symm,λh=>b4 h.symm,λh=>c4 h.symm,λh=>d4 h.symm,λh=>i4 h.symm],#[λh=>q3 h.symm,λh=>q4 h.symm,λh=>d5 h.symm,λh=>i5 h.symm],#[λh=>(qs bY) h.symm,λh=>d6 h.symm,λh=>i6 h.symm],#[λh=>d7 h.symm,λh=>i7 h.symm],λh=>i8 h.symm]
 .intro b J;unfold PA.nine at J;simp only[wh,By,or_false]at J;rcases J with J|J|J|J|J|J|J|J|J<;>rw[J]
  .show .inl rfl
  .show .inr aT
  .show .inr Y
  .show .inr U
  .show .inr a5
  .show .inr b5
  .show .inr c5
  .show .inr d8
  .show .inr i9
 .change upd (upd H7 G (.lst [])) p _ G=_;rw[ah i1,af];rfl
 .intro b;change(replicate _ _).length<=60;rw[Li];cases b
  .show n2
  .show n1
 .change upd (upd H7 G (.lst [])) p _ I=_;rw[ah d1,ah (qs i8)];show bi
theorem IK:aC ["self","frames","slots"] ["self","frames","slots"] (aw uB):=L2.bD
theorem Ay {f am:Addr}{fd aT:qi}{c:CA}(F:cK K "__init__" "Rooms.__init__" uB f fd) (T:oP K mg c) (MP:Mk K c.P am) (a1:mg "Paging" = some (.ref c.P))
  (a5:a8 P w K mg base aV 3 am aT ["self","frames","slots"] (rP c.P c.S)) (a0:Binds K aT ["self","frames","slots"] []):a8 P w K mg base aV 5 f fd ["self","frames","slots"] (rG c):=by
 show F.dh IK (λbc A outer s H vs Q E hr h=>?_);let#[p,dx,nf,ns,rfl,n1,n2,n3,hp,k]:=h;show#[_,(ag (fm (pv 0) (lN MP a5 (hr.mono av) (by rfl) a1 a0 .nil ax (aa (pv 1) (aa (pv 2) ai))) rfl)
  (ag (fm (pv 0) (aA bp (pv 1) (pv 2)) rfl)
  (ak (fm (pv 0) dr rfl)))),?_]
 show#[0,0,λpg ba ab a6 bd=>#[pg,ba,nf,ns,rfl,n1,n2,af,λH1 G eA a7 aB GA o1=>#[5]]];have Y:aZ H H1:=λb u e=>o1 b u (by rw[ah (ar e ab),ah (ar e a6)];show e) (ar e ab);have fr:∀b∈G.nine,H b=none:=λb N=>by
  rcases aB b N with h|h
  .rw[h];show ab
  .show(cB (cB h).2).2
 have as:=Y _ _ hp;clear o1 aB;show#[0,p,c.C,dx,[],rfl,as,T.cl,T.nP,av,?_];show#[0,0,_,0,5];show#[0,p,c.C,dx,0,af,T.cl,T.nT,by change 1<1000;decide,?_];rw[<-eA];have O:Off (· = p) H1 (upd (upd H1 p (.ins c.C dx (bo "paging" (.ref G.pg) []))) p (.ins c.C dx (bo "total" (.int ((nf:Int)+ns)) (bo "paging" (.ref G.pg) [])))):=λb o e z=>(by rw[ah z,ah z];show e);have ap:upd (upd H1 p (.ins c.C dx (bo "paging" (.ref G.pg) []))) p (.ins c.C dx (bo "total" (.int ((nf:Int)+ns)) (bo "paging" (.ref G.pg) []))) p=some (.ins c.C dx (bo "total" (.int ((nf:Int)+ns)) (bo "paging" (.ref G.pg) []))):=af;generalize upd (upd H1 p (.ins c.C dx (bo "paging" (.ref G.pg) []))) p (.ins c.C dx (bo "total" (.int ((nf:Int)+ns)) (bo "paging" (.ref G.pg) [])))=H3 at *;intro rd J;have L:rd≠p:=qs (ar ap J);show#[0,p,c.C,dx,0,by rw[ah (qs L)];show ap,T.cl,T.nR,by change 2<1000;decide,?_];have o5:Off (· = p) H1 (upd (upd H3 rd (.dK [])) p (.ins c.C dx (eQ G.pg ((nf:Int)+ns) rd))):=λb o e z=>(by rw[ah z,ah (ar (O b o e z) J)];show O b o e z);have U:∀b∈G.nine,b≠p:=λb N z=>(by rw[z]at N;have:=fr p N;rw[hp]at this;cases this);have R:∀b,G.own b->b∈G.nine:=λb h=>by
  unfold PA.own at h;unfold PA.nine;simp only[wh,By,or_false]at h ⊢;rcases h with h|h|h|h|h|h|h<;>simp[h]
 have n9:∀i {b},G.nine[i]?=some b->b≠p:=λi b h=>U b (ua h);have G5:∀M,bM c.P c.S (upd (upd H3 rd (.dK [])) p (.ins c.C dx (eQ G.pg ((nf:Int)+ns) rd))) M G (s0 nf ns):=λM=>(GA λb=>M b\/b=p).move o5 (λb z=>.inr z) (λb z=>.inl (.inl z)) (λb z=>U b (R b z)) (n9 1 rfl) (n9 4 rfl) (λb xs e z=>by rw[z,as]at e;cases e);have bb:upd (upd H3 rd (.dK [])) p (.ins c.C dx (eQ G.pg ((nf:Int)+ns) rd)) p=some (.ins c.C dx (eQ G.pg ((nf:Int)+ns) rd)):=af;have ac:upd (upd H3 rd (.dK [])) p (.ins c.C dx (eQ G.pg ((nf:Int)+ns) rd)) rd=some (.dK []):=(by rw[ah L,af]);have BF:¬ rd∈G.nine:=λz=>by
  have a3:=nr (GA λ_=>False) rd z;cases e:H1 rd with
  |none=>show a3 e
  |some u=>rw[O _ _ e L]at J;cases J
 have a4:H rd=none:=by
  cases e:H rd with
  |none=>rfl
  |some u=>rw[O _ _ (Y _ _ e) L]at J;cases J
 have a2:Off (· = p) H (upd (upd H3 rd (.dK [])) p (.ins c.C dx (eQ G.pg ((nf:Int)+ns) rd))):=λb o e z=>o5 b o (Y b o e) z;show k _ (λb=>b∈G.nine\/b=rd) #[G,p,rd] rfl #[#[dx,?_],G5 _,#[a7,λx I=>.inl I],λb z=>?_,ac,Mc,(λx I=>by cases I),(λx I=>by cases I),(λx I=>by cases I),(λx I=>by cases I),.inr rfl,λz=>BF (R _ z),λz=>U _ (R _ z) rfl] (λb z=>z.elim (fr b) λz=>by rw[z];show a4) a2
 .have e:bS (s0 nf ns)=(nf:Int)+ns:=by
   unfold bS;rw[show((s0 nf ns).ow true).length=nf from Li,show((s0 nf ns).ow false).length=ns from Li];omega
  rw[e];show bb
 .rcases z with z|z
  .show nr (G5 λ_=>False) b z
  .intro w;rw[z]at w;show absurd (ac.symm.trans w) (by simp)
end
end St
namespace HT
open PySem PySem.Spec PyProof.Rows
section
variable {prog:rr}{w:Bd}{A:KL}{E:Value->mu->Prop}{s:mu}
theorem jJ {t sl:Addr}{items:Array Value}{L J:Value}{lo hi:Option Int}{Q:Value->mu->Prop}(G:IsTup s.heap t items) (hs:s.heap.IsSliceOf sl L J .none) (pl:OY L lo) (U:OY J hi)
  (I:de items.size 0 lo=0/\de items.size items.size hi=items.size) (h:Q (.ref t) s):wpAny (model prog w) A (NO (.ref t) (.ref sl)) Q E s:=by
 let#[os,R,O,Y]:=id hs;have N:s.TypeIs (.ref sl) "slice" := #[os,R,O];unfold NO
 try with_reducible show LX ?_
 first|show iN (p4 ?_)|skip
 show iN (Qr G.typeIs av ?_);show iN (Nt (name:=Str.ofString "__getitem__") G.typeIs K8
  (Mb K8 G.typeIs PK ?_ (P4 _ _)))
 change wpAny _ _ (Builtin.Tuple.tupleItemsOf (.ref t)>>=_) _ _ s;show iN (tupleItemsOf_ G ?_);show iN (OZ N ?_);rw[Sv av];show iN (gc hs pl U ?_);have S:(((de items.size 0 lo:Nat):Int)==0&&(1:Int)==1&&(de items.size items.size hi-de items.size 0 lo)==items.size)=true:=by
  rw[I.1,I.2];simp
 change wpAny _ _ (if (((de items.size 0 lo:Nat):Int)==0&&(1:Int)==1&&(de items.size items.size hi-de items.size 0 lo)==items.size)=true then _ else _) _ _ s;rw[Sv S];unfold Builtin.Tuple.tupleIsExact;show iN (iN (OZ G.typeIs (p4 ?_)));rw[Sv av];show iN (MN ?_);show p4 #[0,p4 h]
end
end HT
namespace L2
open PySem PySem.Spec PyProof.Rows
inductive DH (K:iF) (x:V) (lo:Option Int) (hi:Option Int) (H:Hp) (Q:VK):Prop
 |mk (a:_) (xs:_) (_:x=.ref a) (_:bL K H a xs) (_:((HT.de xs.length 0 lo=0/\HT.de xs.length xs.length hi=xs.length)->Q (.ref a) H)) (_:(¬ (HT.de xs.length 0 lo=0/\HT.de xs.length xs.length hi=xs.length)->∀p,H p=none->Q (.ref p) (upd H p (.tup (ff xs lo hi))))):DH K x lo hi H Q
theorem lF {X:Cx}:Gk X (DH X.K):=by
 intro pins s σ H x v S R lo hi sl Q I G hs pl N h;let#[a,xs,rfl,L,Y,U]:=h;by_cases c:HT.de xs.length 0 lo=0/\HT.de xs.length xs.length hi=xs.length
 .cases G;let#[its,r,J,hz]:=I.tuple L;have O:its.toArray.size=xs.length:=(by rw[p3];show r.length.symm);show#["tuple",_,K8.lookup,J.typeIs,?_];show HT.jJ J hs pl N (by rw[O];show c) #[.ref a,H,I,rfl,Y c]
 .show D9 pins s σ H (.ref a) v S R lo hi sl Q I G hs pl N #[a,xs,rfl,L,c,U c]
theorem kN {a:Addr}{o:Obj}{kvs:List (Key×V)}{g:TG}{tb:TS}{D:Ends}{σ:St}{H:Hp}(Pv:Nat->St->Hp->Prop) (U:Pv 0 σ H) (O:∀i σ H,i<=kvs.length->Pv i σ H->H a=some (.bO o (.dK kvs)))
  (hs:∀i k v σ H T,kvs[i]?=some (k,v)->H T=none->Pv i σ H->g (.ref T) σ (upd H T (.tup [kV k,v])) λG H2=>tb { D with nx:=Pv (i+1),ct:=Pv (i+1),bk:=D.nx } G H2) (hd:∀σ H,Pv kvs.length σ H->D.nx σ H) :
  ∃W:Nat->Nat->St->Hp->Prop,(∃m,W 0 m σ H)/\∀i m σ H,W i m σ H ->
   ((FN a o kvs).stop i H/\D.nx σ H)\/((FN a o kvs).go i H/\∃N:St->Hp->Prop,(∀I H',N I H'->∃L,L<m/\W (i+1) L I H')/\∀x H',(FN a o kvs).Bz i H x H'->g x σ H' λG H2=>tb { D with nx:=N,ct:=N,bk:=D.nx } G H2):=by
 show#[λi m σ H=>m=kvs.length-i/\i<=kvs.length/\Pv i σ H,#[kvs.length,by simp,KH _,U],?_];rintro i m σ H ⟨rfl,hi,p⟩;have q:=O i σ H hi p;by_cases J:i<kvs.length
 .show .inr #[#[q,J],Pv (i+1),λI H' Y=>#[kvs.length-(i+1),ae,rfl,J,Y],?_];rintro v H' ⟨T,k,x,rfl,S,R,rfl⟩;show hs i k x σ H T R S p
 .have e:i=kvs.length:=ae;subst e;show .inl #[#[q,qj _],hd σ H p]
theorem uD {a:Addr}{o:Obj}{kvs:List (Key×V)}{caps:List (Str×Nat)}{te:TE}{σ:St}{H:Hp}{I:List V->Hp->Prop}(Pv:Nat->List V->Hp->Prop) (O:Pv 0 [] H)
  (L:∀i zs H,i<=kvs.length->Pv i zs H->H a=some (.bO o (.dK kvs)))
  (hs:∀i k v zs H,kvs[i]?=some (k,v)->Pv i zs H->te (fZ caps σ (some v)) H (λz H3=>zs.length<sizeLine/\Pv (i+1) (zs++[z]) H3))
  (hd:∀zs H,Pv kvs.length zs H->I zs H):∃W:Nat->Nat->List V->Hp->Prop,(∃m,W 0 m [] H)/\hU caps oO te σ (Iy a o kvs) I W:=by
 show#[λi m zs H=>m=kvs.length-i/\i<=kvs.length/\Pv i zs H,#[kvs.length,by simp,KH _,O],?_];rintro i m zs H ⟨rfl,hi,p⟩;have J:=L i zs H hi p;by_cases G:i<kvs.length
 .show .inr #[#[J,G],Pv (i+1),λS H' R=>#[kvs.length-(i+1),ae,rfl,G,R],?_];rintro v H' ⟨rfl,k,N⟩;unfold oO;dsimp only;rw[Sv rfl];show hs i k v zs H' N p
 .have e:i=kvs.length:=ae;subst e;show .inl #[#[J,qj _],hd zs H p]
section
variable {X:Cx}
theorem vZ:dB X (.type "dict") (λxs H Q=>∃(d:Addr) (kvs:List (Key×V)),xs=[.ref d]/\H d=some (.dK kvs)/\∀a,H a=none->Q (.ref a) (upd H a (.dK kvs))):=by
 intro pins s σ H xs us Q I r h;let#[d,kvs,rfl,hd,q]:=h;let#[u,rfl,J]:=vals1 r;obtain rfl:u=Value.ref d:=J;let#[O,R,vs,G,N]:=gJ I.bE hd;have U:=G.length;show kt_call_dict (knd:=br X.prog X.w) R N ae λh' S L=>?_;show#[.ref s.heap.objs.size,_,I.laid (t':=s.toks) (h':=h') (λb o e=>?_) (qj _) (mU O ?_ G S),rfl,q _ I.fresh]
 .show(L.2 b (KZ (Heap.lt_size e))).trans (Heap.get?_push_of_some _ e)
 .show beq_false_of_ne (Qk I.big)
theorem range_any (bs:List Bool):((KD bs.length).any λi=>(bs[i]?).getD true)=bs.any id:=by
 rw[MB,MX,MX];constructor
 .rintro⟨i,hi,e⟩;have G:=K5.mp hi;rw[ti G,QH]at e;show#[_,LM G,e]
 .rintro⟨b,J,e⟩;let#[i,hi,I]:=LI J;show#[i,K5.mpr hi,?_];rw[ti hi,QH,I];show e
theorem Ei:KS "any" = some (.builtin "any"):=ao
theorem xF (Y:X.calm=true):dB X (.builtin "any") (λxs H Q=>∃(l:Addr) (bs:List Bool),xs=[.ref l]/\bA X.K H l (bs.map V.bl)/\Q (.bl (bs.any id)) H):=by
 intro pins s σ H xs us Q I r h;let#[l,bs,rfl,O,q]:=h;let#[u,rfl,ru]:=vals1 r;obtain rfl:u=Value.ref l:=ru;let#[its,rv,p,_]:=I.list O;have ei:=qk rv;subst ei;have J:=p.isList;have R:l<s.heap.objs.size:=let ⟨_,e,_⟩:=J;Heap.lt_size e;show call_any_walk (Ov J ?_);show#[s.heap.objs.size,[s.heap.objs.size,l],[s.heap.objs.size],(bs.map Value.bool).toArray.size,2,λi=>(bs[i]?).getD true,rfl,Sq (A:=X.A.in1) (I.ok.hd Y) _ l (KZ R) (bs.map Value.bool).toArray,
  #[#[_,Heap.get?_push_size _ rfl,1],J.push _],λi v s' Q' E' hP N=>?_,λh' tk hk=>?_]
 .have U:(bs.map Value.bool).toArray[i]?=some v:=hP;have G:(bs.map Value.bool)[i]?=some v:=(by simpa using U);rw[rz]at G;cases L:bs[i]? with
  |none=>rw[L]at G;cases G
  |some b =>
   rw[L]at G;have S:Value.bool b=v:=rk G;subst S;simp only[L,QH]at N;show LG N
 .have e:((KD (bs.map Value.bool).toArray.size).any λi=>(bs[i]?).getD true)=bs.any id:=by
   rw[p3,nq];show range_any bs
  rw[e];show#[.bl _,H,I.kept (RM hk),rfl,q]
noncomputable def Ha:yq:=λo i v H Q=>∃a H',o=.ref a/\fA H a i v H'/\Q H'
theorem set_dict (L:X.A.units+1<Nq):CZ X Ha:=by
 intro pins s σ H o i v ov R u Q I G N O h;let#[a,H',rfl,g,q]:=h;obtain rfl:ov=Value.ref a:=G;show oY L I g N O λs' J=>#[H',J,q]
end
end L2
namespace Lw
open PySem L2 St
noncomputable abbrev vX:KP:=top 35
noncomputable abbrev qo:KP:=top 36
noncomputable abbrev uu:KP:=top 37
noncomputable abbrev mF:KP:=top 38
noncomputable abbrev wb:KP:=top 39
noncomputable abbrev vQ:KP:=top 40
noncomputable abbrev nA:KP:=top 41
noncomputable abbrev EL:KP:=top 42
noncomputable abbrev zP:KP:=top 43
noncomputable abbrev qP:KP:=top 44
noncomputable abbrev vi:KP:=top 46
noncomputable abbrev zg:KP:=top 47
noncomputable abbrev vO:KP:=top 48
structure kl (mg:Str->Option Value):Prop where
 range:mg "range" = none
 enumerate:mg "enumerate" = none
 sum:mg "sum" = none
 int:mg "int" = none
 BC:mg "isinstance" = none
 min:mg "min" = none
 max:mg "max" = none
 list:mg "list" = none
 len:mg "len" = none
 dict:mg "dict" = none
 bool:mg "bool" = none
 tuple:mg "tuple" = none
 sorted:mg "sorted" = none
 all:mg "all" = none
 any:mg "any" = none
inductive rF (vs:List V) (H:Hp) (Q:VK) (e3:XK):Prop
 |mk (c k:Int) (_:vs=[.int c,.int k]) (_:∀v:Int,Q (.int v) H):rF vs H Q e3
inductive mj (K:iF) (vs:List V) (H:Hp) (Q:VK) (e3:XK):Prop
 |mk (a:Addr) (ns:List Int) (k:Nat) (_:vs=[.ref a,.int k]) (_:bA K H a (ns.map V.int)) (_:ns.length<=100) (_:k<=100) (_:∀(v:Int) (H':Hp),aZ H H'->Q (.int v) H'):mj K vs H Q e3
inductive qd (vs:List V) (H:Hp) (Q:VK) (e3:XK):Prop
 |mk (i:Int) (_:vs=[.int i]) (_:Q (.bl true) H):qd vs H Q e3
inductive j8 (vs:List V) (H:Hp) (Q:VK) (e3:XK):Prop
 |mk (m:Int) (n:Nat) (_:vs=[.int m,.int n]) (_:n<=100) (_:∀(cs:List Int) (H':Hp) (l:Addr),cs.length=n->aZ H H'->H l=none->H' l=some (.lst (cs.map V.int))->Q (.ref l) H'):j8 vs H Q e3
noncomputable def sX (m:Int):List Int:=[2,3,4,2+m/4%9]
noncomputable def sW (m:Int):List Int:=[m/40%5,m/40%30,60]
noncomputable def ox (m:Int):Nat:=((sX m).getD (m%4).toNat 0).toNat
noncomputable def pN (m:Int):Nat:=((sW m).getD (m/7%3).toNat 0).toNat
theorem at_of {xs:List Int}{i n:Int}(I:0<=i) (h1:i<n) (J:n=xs.length):wa (xs.map V.int) i=some (.int (xs.getD i.toNat 0))/\xs.getD i.toNat 0∈xs:=by
 obtain⟨j,rfl⟩:∃j:Nat,i=j:=#[i.toNat,ae];have G:j<xs.length:=ae;have e:xs.getD (ND (j:Int)) 0=xs[j]:=(by simp[G]);rw[e];show#[jV (by rw[rz,ti G];rfl),LM G]
theorem zB (m:Int):wa ((sX m).map V.int) (m%4)=some (.int (ox m))/\2<=ox m/\ox m<=40:=by
 let#[h1,h2]:=at_of (xs:=sX m) (i:=m%4) (n:=4) ae ae rfl;have G:2<=(sX m).getD (m%4).toNat 0/\(sX m).getD (m%4).toNat 0<=40:=by
  unfold sX at h2 ⊢;simp only[wh,By,or_false]at h2;rcases h2 with h|h|h|h<;>rw[h]<;>omega
 have e:((ox m:Nat):Int)=(sX m).getD (m%4).toNat 0:=(by unfold ox;omega);rw[e];show#[h1,by unfold ox;omega,by unfold ox;omega]
theorem Ad (m:Int):wa ((sW m).map V.int) (m/7%3)=some (.int (pN m))/\pN m<=60:=by
 let#[h1,h2]:=at_of (xs:=sW m) (i:=m/7%3) (n:=3) ae ae rfl;have G:0<=(sW m).getD (m/7%3).toNat 0/\(sW m).getD (m/7%3).toNat 0<=60:=by
  unfold sW at h2 ⊢;simp only[wh,By,or_false]at h2;rcases h2 with h|h|h<;>rw[h]<;>omega
 have e:((pN m:Nat):Int)=(sW m).getD (m/7%3).toNat 0:=(by unfold pN;omega);rw[e];show#[h1,by unfold pN;omega]
inductive pZ (vs:List V) (H:Hp) (Q:VK) (e3:XK):Prop
 |mk (m:Int) (_:vs=[.int m]) (_:∀(H':Hp) (t:Addr),aZ H H'->H t=none->H' t=some (.tup [.int (ox m),.int (pN m)])->Q (.ref t) H'):pZ vs H Q e3
theorem IT (x y:Int):Bu (x%2305843009213693951) y:=by
 have:=Lf x (show(2305843009213693951:Int)≠0 by decide);have:=K7 x (show(0:Int)<2305843009213693951 by decide);show .inl #[ae,ae]
theorem Gz (x y:Int):Bu (x%2305843009213693907) y:=by
 have:=Lf x (show(2305843009213693907:Int)≠0 by decide);have:=K7 x (show(0:Int)<2305843009213693907 by decide);show .inl #[ae,ae]
section
variable {P:rr}{w:Bd}{K:iF}{mg:Str->Option Value}{base:Heap}
theorem Ik:aC ["_law_cell","_law_k","_law_once","_law_twice"] ["_law_cell","_law_k"] (aw vX):=L2.bD
theorem AZ {f:Addr}{fd:qi}(F:cK K "_law_mixed" "_law_mixed" vX f fd):a8 P w K mg base aV 1 f fd ["_law_cell","_law_k"] rF:=by
 show F.dh Ik (λI A outer s H vs Q E G h=>?_);let#[c,j,rfl,k]:=h;show#[_,(ag (dn 2 Ik.nd (aA bB (aA dZ (aA bp (aA bp (aA bB (pv 0) aj) (aA dZ aj (pv 1))) aj) aj) aj))
  (ag (dn 2 Ik.nd (aA bB (aA dZ (pv 2) (pv 2)) aj))
  (ag (dn 3 Ik.nd (aA bB (aA dZ (aA bp (aA bp (pv 2) (aA dZ aj (pv 1))) aj) aj) aj))
  (ak (aE (aA bp (aA dZ (aA bB (aA dZ (pv 3) (pv 3)) aj) aj) (pv 2))))))),?_]
 show#[0,_,0,rfl,(by change(0:Int)<2305843009213693951;decide),0,_,0,rfl,.inl #[av,av],_,0,4,0,4,0,rfl,.inr #[av,av],_,0,rfl,(by change(0:Int)<2305843009213693951;decide),?_];show#[0,0,_,0,rfl,IT _ _,_,0,rfl,(by change(0:Int)<2305843009213693921;decide),?_];show#[0,0,_,0,rfl,.inl #[av,av],_,0,4,0,4,0,rfl,.inr #[av,av],_,0,rfl,(by change(0:Int)<2305843009213693907;decide),?_];show#[0,0,_,0,rfl,Gz _ _,_,0,rfl,(by change(0:Int)<2305843009213693951;decide),_,0,rfl,.inr #[av,av],0,_,0,rfl,k _]
theorem Gm:aC ["_law_script","_law_k","_law_cell"] ["_law_script","_law_k"] (aw qo):=L2.bD
theorem xX {f:Addr}{fd:qi}(F:cK K "_law_number" "_law_number" qo f fd) (T:kl mg) (GM:Df P w K mg base aV 1 "_law_mixed" rF):a8 P w K mg base aV 2 f fd ["_law_script","_law_k"] (mj K):=by
 show F.dh Gm (λap A outer s H vs Q E Y h=>?_);let#[a,ns,j,rfl,J,hn,hj,k]:=h;have hs:=ub;show#[_,(ag (dn 2 Gm.nd (aP cu (aA uX (cW fM (pv 0) (cO (pv 1)) (cO (aA bp (pv 1) aj))) (cj (aa (aA bp (aA dZ (pv 1) (pv 1)) aj) ai))) aj bW))
  (ag (aS (aD bP (aA bB (aQ (mh rfl) (by rfl) T.sum vJ (aa (cW fM (pv 0) eX (cO aj)) ai)) aj) aj (aI _)) (ak (aE (aA bB (pv 2) (aA uR aj aj)))) aF)
  (ak (aE (pc GM Y ax (aa (pv 2) (aa (pv 1) ai))))))),?_]
 show eO λ_ S=>?_;have ec:ff (ns.map V.int) (some (j:Int)) (some ((j:Int)+1))=((ns.drop j).take 1).map V.int:=Rm.qu (n:=1);show#[0,0,0,0,_,0,rfl,0,a,0,J,λp hp=>?_];change HD _ _ (upd H p (.lst (ff (ns.map V.int) (some (j:Int)) (some ((j:Int)+1))))) _;rw[ec];have s1:=Tb.au (X:=.lst (((ns.drop j).take 1).map V.int)) hp;have h1:upd H p (.lst (((ns.drop j).take 1).map V.int)) p=some (.lst (((ns.drop j).take 1).map V.int)):=af;generalize upd H p (.lst (((ns.drop j).take 1).map V.int))=H1 at *;show#[0,0,_,0,rfl,.inl #[ae,ae],_,0,rfl,HU,λp2 ab=>?_];have s2:=Tb.au (X:=.lst [V.int ((j:Int)*j+3)]) ab;show#[p,p2,_,0,rfl,s2 _ _ h1,af,?_,λG ac=>?_]
 .rw[nq,DD];change min 1 _+1<=sizeLine;omega
 have s3:=Tb.au (X:=.lst (((ns.drop j).take 1).map V.int++[V.int ((j:Int)*j+3)])) ac;have O:((ns.drop j).take 1).map V.int++[V.int ((j:Int)*j+3)]=((ns.drop j).take 1++[(j:Int)*j+3]).map V.int:=(by rw[BY];rfl);have I:=s1.trans (s2.trans s3);let#[N,_]:=at_of (xs:=(ns.drop j).take 1++[(j:Int)*j+3]) (i:=0) (n:=((ns.drop j).take 1++[(j:Int)*j+3]).length) (Ll _) (by rw[vl,Lu];omega) rfl;rw[<-O]at N;show#[G,_,(0),0,rfl,bA.of af,N,S _ _ ?_];generalize ((ns.drop j).take 1++[(j:Int)*j+3]).getD (ND 0) 0=cl;have am:=Rm.eI J (I _);change jz _ _ _ _ (upd (upd H1 p2 (.lst [V.int ((j:Int)*j+3)])) G (.lst (((ns.drop j).take 1).map V.int++[V.int ((j:Int)*j+3)])));generalize upd (upd H1 p2 (.lst [V.int ((j:Int)*j+3)])) G (.lst (((ns.drop j).take 1).map V.int++[V.int ((j:Int)*j+3)]))=H3 at *;have L:ff (ns.map V.int) none (some (1:Int))=(ns.take 1).map V.int:=Rm.qW (s:=1);show#[0,0,a,0,am,λR U=>?_];have s4:=Tb.au (X:=.lst ((ns.take 1).map V.int)) U;show#[R,ns.take 1,rfl,bA.of (by rw[<-L];show af),_,0,rfl,Hc,rfl,0,?_];rw[show ff (ns.map V.int) none (some (1:Int))=(ns.take 1).map V.int from L];show gS (λ_=>?_) (λ_=>?_)
 .show#[0,_,0,rfl,#[av,av,av],_,0,rfl,(by change(0:Int)<10^40;decide),k _ _ (I.trans s4)]
 .show#[0,0,cl,j,rfl,λv=>k v _ (I.trans s4)]
theorem Je:aC ["_law_found"] ["_law_found"] (aw uu):=L2.bD
theorem zX {f:Addr}{fd:qi}(F:cK K "_law_whole" "_law_whole" uu f fd) (T:kl mg):a8 P w K mg base aV 1 f fd ["_law_found"] qd:=by
 show F.dh Je (λI A outer s H vs Q E G h=>?_);let#[i,rfl,k]:=h;show#[_,(ak (aE (Eg (aQ dR (by rfl) T.BC b8 (aa (pv 0) (aa (eS (v:=.ty "int") (by rfl) T.int hJ rfl) ai))) (AY (FK (aQ dR (by rfl) T.BC b8 (aa (pv 0) (aa (eS (v:=.ty "bool") (by rfl) T.bool Cn rfl) ai)))))))),?_];show#[0,.int i,"int",_,true,rfl,.int i,D0 _,true,rfl,eL #[0,.int i,"bool",_,false,rfl,.int i,Fi _,false,rfl,k]]
theorem Ci:aC ["_law_m","_law_many","_law_cells_here","_law_k"] ["_law_m","_law_many"] (aw mF):=L2.bD
theorem vh {f:Addr}{fd:qi}(F:cK K "_law_cells" "_law_cells" mF f fd) (T:kl mg):a8 P w K mg base aV 1 f fd ["_law_m","_law_many"] j8:=by
 show F.dh Ci (λU A outer s H vs Q E S h=>?_);let#[m,n,rfl,R,k]:=h;have hs:=ub;show#[_,(ag (dn 2 Ci.nd (cj ai))
  (ag (cG C1 rfl (pS (by rfl) T.range (aa (pv 1) ai)) (f9 3 Ci.nd) (ag (aL (ie Ls Nh Ni kR (pv 2) (aa (aA bB (aA bp (pv 0) (aA dZ (aA dZ aj (pv 3)) (aA bB (aA bt (pv 0) aj) aj))) aj) ai)))
  (ak (aS (aD bP (aA bB (pv 3) aj) aj (aI _)) (ak (dn 0 Ci.nd (aA bt (pv 0) aj))) aF))))
  (ak (aE (pv 2))))),?_]
 show#[av,λl I=>?_];have s0:=Tb.au (X:=.lst []) I;show#[0,0,ae,ae,?_];show gq (lo:=0) (n:=(n:Int).toNat) (λi σ H2=>Hv λ(G:Int) (v3:Option V) (cs:List Int)=>Em (σ=[some (.int G),some (.int n),some (.ref l),v3]) (cs.length=i) (H2 l=some (.lst (cs.map V.int))) (aZ H H2)) #[m,_,[],1,af,s0] ?_ ?_
 .rintro i σ H2 hi ⟨G,v3,cs,rfl,L,h2,s2⟩;show#[0,.inl #[4,bA.of h2],0,0,_,0,rfl,.inl #[av,av],0,_,0,rfl,#[av,av],_,0,rfl,(by change(0:Int)<7;decide),_,0,rfl,.inr #[3],_,0,4,0,rfl,(by change(0:Int)<256;decide),l,_,0,rfl,h2,by rw[nq];omega,?_]
  .have:=Lf (G/256) (show(7:Int)≠0 by decide);omega
  .have:=K7 (G/256) (show(0:Int)<7 by decide);omega
  have s3:=Rm.CJ s2 I (X:=.lst ((cs++[(G+37*(0+(i:Int))*(G/256%7))%256]).map V.int));have J:cs.map V.int++[V.int ((G+37*(0+(i:Int))*(G/256%7))%256)]=(cs++[(G+37*(0+(i:Int))*(G/256%7))%256]).map V.int:=(by rw[BY];rfl);show#[0,_,0,rfl,u3,rfl,0,?_];have N:(cs++[(G+37*(0+(i:Int))*(G/256%7))%256]).length=i+1:=(by rw[vl,L];rfl);rw[<-J]at s3;have O:upd H2 l (.lst (cs.map V.int++[V.int ((G+37*(0+(i:Int))*(G/256%7))%256)])) l=some (.lst ((cs++[(G+37*(0+(i:Int))*(G/256%7))%256]).map V.int)):=(by rw[<-J];show af);show gS (λ_=>#[0,_,0,rfl,#[av,av],2,0,N,O,s3]) (λ_=>#[2,0,N,O,s3])
 .rintro σ H2 ⟨G,v3,cs,rfl,L,h2,s2⟩;show#[0,k cs H2 l ae s2 I h2]
theorem JG:aC ["_law_m"] ["_law_m"] (aw vi):=L2.bD
theorem Br {f:Addr}{fd:qi}(F:cK K "_law_sizes" "_law_sizes" vi f fd):a8 P w K mg base aV 1 f fd ["_law_m"] pZ:=by
 show F.dh JG (λS A outer s H vs Q E U h=>?_);let#[m,rfl,k]:=h;show#[_,(ak (aE (b7 (aa (aP cu (cj (aa aj (aa aj (aa aj (aa (aA bp aj (aA bB (aA bt (pv 0) aj) aj)) ai))))) (aA bB (pv 0) aj) bW) (aa (aP cu (cj (aa (aA bB (aA bt (pv 0) aj) aj) (aa (aA bB (aA bt (pv 0) aj) aj) (aa aj ai)))) (aA bB (aA bt (pv 0) aj) aj) bW) ai))))),?_];let#[I,_]:=zB m;let#[N,_]:=Ad m;show#[0,_,0,rfl,#[av,av],_,0,rfl,(by change(0:Int)<9;decide),_,0,rfl,oU,λL O=>#[0,_,0,rfl,Eh,L,2,.int (ox m),1,bA.of af,I,?_]];have s0:=Tb.au (X:=.lst ((sX m).map V.int)) O;show#[0,_,0,rfl,#[av,av],_,0,rfl,(by change(0:Int)<5;decide),0,_,0,rfl,#[av,av],_,0,rfl,(by change(0:Int)<30;decide),HQ,λR J=>#[0,_,0,rfl,#[av,av],_,0,rfl,GV,R,2,.int (pN m),1,bA.of af,N,d9,λt G=>?_]];have s1:=Tb.au (X:=.lst ((sW m).map V.int)) J;have s2:=Tb.au (X:=.tup [.int (ox m),.int (pN m)]) G;show k _ t (s0.trans (s1.trans s2)) (s0.free (s1.free G)) af
end
structure MT where
 ra:Addr
 sa:Addr
 pl:List (Int×Addr×Int)
noncomputable abbrev Zs:=List (Int×MT)
noncomputable def ed (z:MT):V:=.ref z.ra
noncomputable def sg (z:MT):V:=.ref z.sa
noncomputable def dJ (x:Addr×Int):V:=.ref x.1
noncomputable def oS (x:Addr×Int):V:=.int x.2
noncomputable def oJ (G ls:Addr) (bS pk:Int):List (Key×V):=[(D2 "rooms",.ref G),(D2 "stands",.ref ls),(D2 "total",.int bS),(D2 "pokes",.int pk)]
structure MA where
 md:Addr
 lr:Addr
 ls:Addr
structure cF (H:Hp) (m:MA) (bS pk:Int) (Z:Zs):Prop where
 hm:H m.md=some (.dK (oJ m.lr m.ls bS pk))
 hr:H m.lr=some (.dK (Tb.dk ed Z))
 hs:H m.ls=some (.dK (Tb.dk sg Z))
 rm:∀x∈Z,H x.2.ra=some (.dK (Tb.dk dJ x.2.pl))
 st:∀x∈Z,H x.2.sa=some (.dK (Tb.dk oS x.2.pl))
 cl:∀x∈Z,∀y∈x.2.pl,∃ns:List Int,H y.2.1=some (.lst (ns.map V.int))/\ns.length=8
 nd:(Z.map (·.1)).Nodup
 np:∀x∈Z,(x.2.pl.map (·.1)).Nodup
 rg:∀x∈Z,∀y∈x.2.pl,0<=y.1/\y.1<64
 da:∀x∈Z,∀y∈Z,x.1≠y.1->x.2.ra≠y.2.ra/\x.2.sa≠y.2.sa
 rs:∀x∈Z,∀y∈Z,x.2.ra≠y.2.sa
 d3:∀x∈Z,x.2.ra≠m.md/\x.2.ra≠m.lr/\x.2.ra≠m.ls/\x.2.sa≠m.md/\x.2.sa≠m.lr/\x.2.sa≠m.ls
 n3:m.md≠m.lr/\m.md≠m.ls/\m.lr≠m.ls
noncomputable def cA (m:MA) (Z:Zs):Addr->Prop:=λb=>b=m.md\/b=m.lr\/b=m.ls\/∃x∈Z,b=x.2.ra\/b=x.2.sa\/∃y∈x.2.pl,b=y.2.1
theorem ks_ne {a b:Str}(h:a≠b):¬ V.str a=V.str b:=λe=>h (by injection e)
theorem yb (G ls:Addr) (bS pk:Int):bZ (oJ G ls bS pk) (D2 "rooms")=some (.ref G):=ck rfl
theorem J2:¬ ((D2 ("rooms" : Str):Key)=D2 ("stands" : Str)):=ao
theorem J1:¬ ((D2 ("rooms" : Str):Key)=D2 ("total" : Str)):=ao
theorem Jx:¬ ((D2 ("rooms" : Str):Key)=D2 ("pokes" : Str)):=ao
theorem Kd:¬ ((D2 ("stands" : Str):Key)=D2 ("total" : Str)):=ao
theorem JP:¬ ((D2 ("stands" : Str):Key)=D2 ("pokes" : Str)):=ao
theorem JF:¬ ((D2 ("total" : Str):Key)=D2 ("pokes" : Str)):=ao
theorem IU (G ls:Addr) (bS pk:Int):bZ (oJ G ls bS pk) (D2 "stands")=some (.ref ls):=by
 unfold oJ;rw[bC J2,ck rfl]
theorem B0 (G ls:Addr) (bS pk:Int):bZ (oJ G ls bS pk) (D2 "total")=some (.int bS):=by
 unfold oJ;rw[bC J1,bC Kd,ck rfl]
theorem F6 (G ls:Addr) (bS pk:Int):bZ (oJ G ls bS pk) (D2 "pokes")=some (.int pk):=by
 unfold oJ;rw[bC Jx,bC JP,bC JF,ck rfl]
theorem yj (G ls:Addr) (bS pk:Int):kr [] (oJ G ls bS pk)=oJ G ls bS pk:=by
 have s2:putK ([(D2 "rooms",V.ref G)]:List (Key×V)) (D2 "stands") (V.ref ls)=([(D2 "rooms",V.ref G),(D2 "stands",V.ref ls)]:List (Key×V)):=jO _ (bC J2);have s3:putK ([(D2 "rooms",V.ref G),(D2 "stands",V.ref ls)]:List (Key×V)) (D2 "total") (V.int bS)=([(D2 "rooms",V.ref G),(D2 "stands",V.ref ls),(D2 "total",V.int bS)]:List (Key×V)):=jO _ ((bC J1).trans (bC Kd));have s4:putK ([(D2 "rooms",V.ref G),(D2 "stands",V.ref ls),(D2 "total",V.int bS)]:List (Key×V)) (D2 "pokes") (V.int pk)=([(D2 "rooms",V.ref G),(D2 "stands",V.ref ls),(D2 "total",V.int bS),(D2 "pokes",V.int pk)]:List (Key×V)):=jO _ ((bC Jx).trans ((bC JP).trans (bC JF)));change putK (putK (putK ([(D2 "rooms",V.ref G)]:List (Key×V)) (D2 "stands") (V.ref ls)) (D2 "total") (V.int bS)) (D2 "pokes") (V.int pk)=_;rw[s2,s3,s4];rfl
theorem zV (I ls:Addr) (bS pk:Int):(oJ I ls bS pk).map (λG=>(kV G.1,G.2))=[(.str "rooms",.ref I),(.str "stands",.ref ls),(.str "total",.int bS),(.str "pokes",.int pk)]:=rfl
section
variable {H H':Hp}{m:MA}{bS pk:Int}{Z:Zs}
theorem cF.g {k:Str}{v:V}(M:cF H m bS pk Z) (h:bZ (oJ m.lr m.ls bS pk) (D2 k)=some v):cZ H m.md (.str k) (some v):=by
 have q:=cZ.k (k:=D2 k) M.hm;rw[h]at q;show q
theorem cF.off {B:Addr->Prop}(M:cF H m bS pk Z) (o:Off B H H') (h:∀b,cA m Z b->¬ B b):cF H' m bS pk Z:=by
 show#[o _ _ M.hm (h _ (.inl rfl)),o _ _ M.hr (h _ (.inr (.inl rfl))),o _ _ M.hs (h _ (.inr (.inr (.inl rfl)))),λx G=>o _ _ (M.rm x G) (h _ (.inr (.inr (.inr #[x,G,.inl rfl])))),λx G=>o _ _ (M.st x G) (h _ (.inr (.inr (.inr #[x,G,.inr (.inl rfl)])))),λx G y I=>?_,M.nd,M.np,M.rg,M.da,M.rs,M.d3,M.n3];let#[ns,h1,h2]:=M.cl x G y I;show#[ns,o _ _ h1 (h _ (.inr (.inr (.inr #[x,G,.inr (.inr #[y,I,rfl])])))),h2]
theorem cF.same (M:cF H m bS pk Z) (s:aZ H H'):cF H' m bS pk Z:=M.off (B:=λ_=>False) (λb o e _=>s b o e) λ_ _=>id
end
noncomputable def tj (Z:Zs):Int:=(Z.map λx=>(x.2.pl.length:Int)).sum
inductive rH (vs:List V) (H:Hp) (Q:VK) (e3:XK):Prop
 |mk (bS:Int) (_:vs=[.int bS]) (_:∀(H':Hp) (m:MA),aZ H H'->H m.md=none->H m.lr=none->H m.ls=none->cF H' m bS 0 []->Q (.ref m.md) H'):rH vs H Q e3
inductive iC (vs:List V) (H:Hp) (Q:VK) (e3:XK):Prop
 |mk (m:MA) (bS pk:Int) (Z:Zs) (_:vs=[.ref m.md]) (_:cF H m bS pk Z) (_:Z.length<=1000) (_:∀H',aZ H H'->Q (.int (tj Z)) H'):iC vs H Q e3
noncomputable def xk (pl:List (Int×Addr×Int)) (ad:Int) (n:Nat):Prop:=ad+n<=512/\∀i:Nat,i<n->Tb.look pl ((ad+i)/8)≠none
inductive kK (vs:List V) (H:Hp) (Q:VK) (e3:XK):Prop
 |mk (ra:Addr) (pl:List (Int×Addr×Int)) (ad:Int) (n:Nat) (_:vs=[.ref ra,.int ad,.int n]) (_:H ra=some (.dK (Tb.dk dJ pl))) (_:0<=ad) (_:ad<=1000) (_:1<=n) (_:n<=100) (_:∀(b:Bool) (H':Hp),aZ H H'->(b=true->xk pl ad n)->Q (.bl b) H'):kK vs H Q e3
section
variable {P:rr}{w:Bd}{K:iF}{mg:Str->Option Value}{base:Heap}
theorem JJ:aC ["_law_total"] ["_law_total"] (aw wb):=L2.bD
theorem z7 {f:Addr}{fd:qi}(F:cK K "_law_model" "_law_model" wb f fd):a8 P w K mg base aV 1 f fd ["_law_total"] rH:=by
 show F.dh JJ (λac A outer s H vs Q E hr h=>?_);let#[bS,rfl,k]:=h;show#[_,(ak (aE (BV (keys:=[some _,some _,some _,some _]) (values:=[_,_,_,_]) (jv aH dr (jv aH dr (jv aH (pv 0) (jv aH aj Cc)))) rfl rfl (List.cons_ne_nil _ _) (Nat.le_of_ble_eq_true rfl)))),?_];show λmd ab J L ls I=>#[0,?_];have N:J≠md:=λe=>(by rw[e,af]at L;cases L);have U:H J=none:=(by rw[ah N]at L;show L);have R:ls≠J:=λe=>(by rw[e,af]at I;cases I);rw[ah R]at I;have O:ls≠md:=λe=>(by rw[e,af]at I;cases I);have S:H ls=none:=(by rw[ah O]at I;show I);show#[by rw[ah (qs O),ah (qs N),af],oJ J ls bS 0,(zV J ls bS 0).symm,by change 4<=15;decide,?_];rw[yj];show k _ #[md,J,ls] (λb o e=>?_) ab U S #[af,3,(λx G=>by cases G),(λx G=>by cases G),(λx G=>by cases G),Mc,(λx G=>by cases G),(λx G=>by cases G),(λx G=>by cases G),(λx G=>by cases G),(λx G=>by cases G),#[qs N,qs O,qs R]]
 .have Y:b≠md:=ar e ab;rw[ah Y,ah (ar e S),ah (ar e U),ah Y];show e
 .change upd _ md _ J=_;rw[ah N,ah (qs R),af];rfl
 .change upd _ md _ ls=_;rw[ah O,af];rfl
theorem IM:aC ["_law_model_here"] ["_law_model_here"] (aw vQ):=L2.bD
theorem AJ {f:Addr}{fd:qi}(F:cK K "_law_held" "_law_held" vQ f fd) (T:kl mg):a8 P w K mg base aV 1 f fd ["_law_model_here"] iC:=by
 show F.dh IM (λab A outer s H vs Q E hr h=>?_);let#[m,bS,pk,Z,rfl,M,lz,k]:=h;have hs:=ub;show#[_,(ak (aE (aQ (mh rfl) (by rfl) T.sum vJ (aa (wH (gz (cl:=[]) (caps:=[]) #[rfl,ao,ao,rfl,by kernel_rfl,by intro p L;simp at L,by kernel_rfl,by intro p L;simp at L,ao] rfl (CL (bh (a9 hr) (pv 0) aH bW)) (λ_ _ _ _=>fJ) (λ_ _ _ _=>(aQ kE (by rfl) T.len boot_len (aa (pv 0) ai))))) ai)))),?_];have O:∀(o:Obj) S,H m.lr≠some (.bO o S):=λo S z=>(by rw[M.hr]at z;cases z);show#[0,m.md,.ref m.lr,rfl,M.g (yb _ _ _ _),m.lr,0,M.hr,O,λo=>?_];have Y:Off (· = m.lr) H (upd H m.lr (.bO o (.dK (Tb.dk ed Z)))):=Off.wr rfl;have N:(upd H m.lr (.bO o (.dK (Tb.dk ed Z)))) m.lr=some (.bO o (.dK (Tb.dk ed Z))):=af;show uD (a:=m.lr) (o:=o) (kvs:=Tb.dk ed Z) (λi ys H2=>ys=((Z.take i).map λx=>(x.2.pl.length:Int)).map V.int/\H2=upd H m.lr (.bO o (.dK (Tb.dk ed Z)))) #[1] (λi zs H2 _ ⟨_,e⟩=>by rw[e];show N) ?_ ?_
 .rintro i kk v zs H2 hk ⟨rfl,rfl⟩;have R:(Z.map λx:Int×MT=>((sS x.1:Key),ed x.2))[i]?=some (kk,v):=hk;rw[rz]at R;let#[x,I,e]:=pq.mp R;cases e;have U:=ua I;have hi:i<Z.length:=(kz.mp I).1;show#[0,x.2.ra,0,Y _ _ (M.rm x U) (M.d3 x U).2.1,3,rfl]
  .rw[nq,nq,DD];omega
  .rw[Tb.cg,Lm,I,BY,BY];rfl
 .rintro zs H2 ⟨rfl,rfl⟩ l G;have J:l≠m.lr:=λz=>(by rw[z,N]at G;cases G);show#[m.lr,o,Tb.dk ed Z,by rw[ah (qs J)];show N,O,l,(Z.map λx=>(x.2.pl.length:Int)),rfl,bA.of ?_,?_]
  .rw[ah J,af,Tb.cg,Lz]
  .show k _ λb u e=>?_;by_cases z:b=m.lr
   .rw[z,af, <-e,z,M.hr]
   .rw[ah z,ah (λy=>by rw[y]at e;rw[ah J,e]at G;cases G),ah z];show e
theorem Cd:aC ["_law_room","_law_address","_law_many"] ["_law_room","_law_address","_law_many"] (aw nA):=L2.bD
theorem wy {f:Addr}{fd:qi}(F:cK K "_law_stretch" "_law_stretch" nA f fd) (T:kl mg):a8 P w K mg base aV 1 f fd ["_law_room","_law_address","_law_many"] kK:=by
 show F.dh Cd (λY A outer s H vs Q E L h=>?_);let#[N,pl,ad,n,rfl,J,U,R,O,S,k]:=h;have hs:=ub;show#[_,(ag (aS (aD gK (pv 2) aj (aI _)) (ak (aE k8)) aF)
  (ag (aS (PW.pt (kO (aD gI (pv 2) aj (aI _)) (iO (PW.pt (iy (aD gK (pv 1) aj (aI _)) (gA (aD gI (aA bp (pv 1) (pv 2)) aj (aI _)))))))) (ak (aE k8)) aF)
  (ak (aE (Gh (iI bP (pv 2) aj (aI _)) (AY (aQ (kD rfl) (by rfl) T.all uU (aa (gz (cl:=[("_law_room",s.heap.objs.size+1)]) (caps:=[("_law_room",0)]) #[rfl,ao,ao,rfl,by kernel_rfl,by intro p G;simp only[wh,By,or_false]at G;rcases G with rfl<;>first|rfl|show#[rfl,.inl rfl,.inl rfl]|show#[rfl,.inl rfl,.inr rfl],by kernel_rfl,by intro p G;simp only[wh,By,or_false]at G;rcases G with rfl<;>first|rfl|show#[rfl,.inl rfl,.inl rfl]|show#[rfl,.inl rfl,.inr rfl],ao] rfl (fj (by rfl) T.range (aa (pv 1) (aa (aA bp (pv 1) (pv 2)) ai))) (λ_ _ _ _=>fJ) (λ_ _ _ _=>(ur (m4 (a9 L) (aA bt (pv 0) aj) (pv 1))))) ai)))))))),?_]
 show#[0,_,0,rfl,0,?_];rw[decide_eq_false ae];show bX (AX ?_);dsimp only;show#[0,_,0,rfl,0,?_];rw[decide_eq_true ae];show eL ?_;show#[0,_,0,rfl,0,?_];rw[decide_eq_false ae];show bX ?_;show#[0,0,_,0,4,0,rfl,0,?_];by_cases c:(512:Int)<ad+n
 .rw[decide_eq_true c];show eL (k false H (aZ.refl H) (λz=>by cases z))
 .rw[decide_eq_false c];show bX (AX ?_);dsimp only;show#[0,rfl,0,?_];show gS (λz=>?_) (λ_=>?_)
  .exfalso;have:((n:Nat):Int)=0:=(by simpa using z);omega
  show#[0,0,0,_,0,4,0,#[ae,ae,ae,ae],?_];show fO (lo:=ad) (n:=(ad+(n:Int)-ad).toNat) (λi ys H2=>ys=((KD i).map λj:Nat=>(Tb.look pl ((ad+j)/8)).isSome).map V.bl/\H2=H) #[1] ?_ ?_
  .rintro i ys H2 hi ⟨rfl,rfl⟩;show#[0,_,0,rfl,#[av,av],0,N,0,fX J,3,rfl]
   .rw[nq,nq,Lh];omega
   .rw[Pd,BY,BY];change _++[V.bl ((Tb.look pl ((ad+(i:Int))/8)).map dJ).isSome]=_;rw[Oe];rfl
  .rintro ys H2 ⟨rfl,rfl⟩ l I;show#[l,0,bA.of af,k _ _ (Tb.au I) λz=>#[ae,λi hi=>?_]];have e:=K0.mp z ((Tb.look pl ((ad+(i:Int))/8)).isSome) (rn.mpr #[i,K5.mpr ae,rfl]);intro w;rw[w]at e;cases e
end
inductive Dd where
 |begin (t:Int)
 |close (t:Int)
 |map (t p m:Int)
 |drop (t p m:Int)
 |peek (t ad:Int) (n:Nat)
 |poke (t ad:Int) (c:Addr) (cs:List Int)
 |copy (t o:Int)
noncomputable def pA:Dd->List V
 |.begin t=>[.str "begin",.int t]
 |.close t=>[.str "close",.int t]
 |.map t p m=>[.str "map",.int t,.int p,.int m]
 |.drop t p m=>[.str "drop",.int t,.int p,.int m]
 |.peek t ad n=>[.str "peek",.int t,.int ad,.int n]
 |.poke t ad c _=>[.str "poke",.int t,.int ad,.ref c]
 |.copy t o=>[.str "copy",.int t,.int o]
noncomputable def k9:Dd->Str
 |.begin _ => "begin" |.close _ => "close" |.map .. => "map" |.drop .. => "drop" |.peek .. => "peek" |.poke .. => "poke" |.copy .. => "copy"
noncomputable def DM:Dd->Int
 |.begin t=>t|.close t=>t|.map t _ _=>t|.drop t _ _=>t|.peek t _ _=>t|.poke t _ _ _=>t|.copy t _=>t
noncomputable def gQ (H:Hp) (d:Addr) (D:Dd):Prop:=H d=some (.tup (pA D))/\∀t ad c cs,D=.poke t ad c cs->H c=some (.lst (cs.map V.int))
noncomputable def vH:Dd->Prop
 |.begin _=>False
 |.map _ p m=>0<=p/\p<64/\1<=m/\m<=64
 |.drop _ p m=>0<=p/\p<64/\1<=m/\m<=64
 |.peek _ ad n=>0<=ad/\ad<=1000/\1<=n/\n<=100
 |.poke _ ad _ cs=>0<=ad/\ad<=1000/\1<=cs.length/\cs.length<=11
 |_=>True
noncomputable def yN (Z:Zs) (bS:Int):Dd->Prop
 |.begin t=>Tb.look Z t=none
 |.close t=>∃z,Tb.look Z t=some z
 |.map t p m=>∃z,Tb.look Z t=some z/\¬ Rm.cD p m/\(∀q∈Rm.aM p m,Tb.look z.pl q=none)/\tj Z+m<=bS
 |.drop t p m=>∃z,Tb.look Z t=some z/\¬ Rm.cD p m/\∀q∈Rm.aM p m,Tb.look z.pl q≠none
 |.peek t ad n=>∃z,Tb.look Z t=some z/\xk z.pl ad n
 |.poke t ad _ cs=>∃z,Tb.look Z t=some z/\xk z.pl ad cs.length
 |.copy t o=>∃z,Tb.look Z t=some z/\Tb.look Z o=none/\tj Z+z.pl.length<=bS
inductive xB (vs:List V) (H:Hp) (Q:VK) (e3:XK):Prop
 |mk (m:MA) (bS pk:Int) (Z:Zs) (d:Addr) (D:Dd) (_:vs=[.ref m.md,.ref d]) (_:cF H m bS pk Z) (_:Z.length<=1000) (_:gQ H d D) (_:vH D) (_:∀(r:Str) (H':Hp),aZ H H'->(r = "" -> yN Z bS D)->Q (.str r) H'):xB vs H Q e3
theorem at2 {a b:V}(k:Bool):wa [a,b] (if k=true then 1 else 0)=some (if k=true then b else a):=by cases k<;>rfl
theorem Ea (D:Dd):ff (pA D) none (some 2)=[.str (k9 D),.int (DM D)]:=by cases D<;>rfl
theorem BB {D:Dd}(h:HT.de (pA D).length 0 none=0/\HT.de (pA D).length (pA D).length (some 2)=(pA D).length):pA D=[.str (k9 D),.int (DM D)]:=by
 let#[_,h]:=h;cases D<;>first|rfl|(show absurd (show HT.de 4 4 (some 2)=4 from h) av)|(show absurd (show HT.de 3 3 (some 2)=3 from h) av)
section
variable {P:rr}{w:Bd}{K:iF}{mg:Str->Option Value}{base:Heap}
theorem t5:aC ["_law_model_here","_law_deed","_law_rooms","_law_name","_law_task","_law_room","_law_page","_law_many","_law_there"] ["_law_model_here","_law_deed"] (aw EL):=L2.bD
theorem bU {a b:Str}(h:a≠b:=by dsimp only[k9];decide +kernel):¬ V.str a=V.str b:=ks_ne h
section
variable {D:Ends}{σ:L2.St}{H:Hp}{t u:TS}{i:Nat}{x y:V}
theorem jY (h:σ[i]?=some (some x)) (s:sI x y=true) (n:¬ x=y) (k:u D σ H):jz (mJ (m6 (BG Fd (tm i) (tC y))) t ma) u D σ H:=gR λ_ _ e=>yW (iU h) iW s n (e _ k)
theorem BQ (h:σ[i]?=some (some x)) (s:sI x x=true) (k:t { D with nx:=u D } σ H):jz (mJ (m6 (BG Fd (tm i) (tC x))) t ma) u D σ H:=gR λ_ e _=>eqT (iU h) iW s (e _ k)
theorem oE (h:σ[i]?=some (some x)) (s:sI x y=true) (n:¬ x=y) (k:u D σ H):mJ (m6 (BG Fd (tm i) (tC y))) t u D σ H:=yW (iU h) iW s n (bX k)
theorem FQ (h:σ[i]?=some (some x)) (s:sI x x=true) (k:t D σ H):mJ (m6 (BG Fd (tm i) (tC x))) t u D σ H:=eqT (iU h) iW s (eL k)
end
theorem DX {f:Addr}{fd:qi}(F:cK K "_law_due" "_law_due" EL f fd) (T:kl mg) (a3:Df P w K mg base aV 1 "_law_held" iC) (a4:Df P w K mg base aV 1 "_law_stretch" kK) :
  a8 P w K mg base aV 2 f fd ["_law_model_here","_law_deed"] xB:=by
 show F.dh t5 (λbb A outer s H vs Q E L h=>?_);let#[m,bS,pk,Z,d,D,rfl,M,lz,hd,ab,k]:=h;have hs:=ub;show#[_,(ag (dn 2 t5.nd (bh (a9 L) (pv 0) aH bW))
  (ag (cV (cW lF (pv 1) eX (cO aj)) (dF rfl (bg (f9 3 t5.nd) (bg (f9 4 t5.nd) cQ))))
  (ag (aS (aD bP (pv 3) aH (aI _)) (ak (aE (aP cu (cj (aa aH (aa aH ai))) (bH er (by rfl) T.int hJ (aa (ur (m4 (a9 L) (pv 4) (pv 2))) ai)) bW))) aF)
  (ag (aS (jb (gw (a9 L) (pv 4) (pv 2))) (ak (aE aH)) aF)
  (ag (dn 5 t5.nd (bh (a9 L) (pv 2) (pv 4) bW))
  (ag (aS (PW.pt (iy (aD bP (pv 3) aH (aI _)) (gA (aD bP (pv 3) aH (aI _))))) (ag (cV (cW lF (pv 1) (cO aj) eX) (dF rfl (bg (f9 6 t5.nd) (bg (f9 7 t5.nd) cQ))))
  (ag (aS (PW.pt (iy (aD gK (pv 7) aj (aI _)) (iy (aD gK (pv 6) aj (aI _)) (gA (aD gI (aA bp (pv 6) (pv 7)) aj (aI _)))))) (ak (aE aH)) aF)
  (ag (B5 (i:=8) (cl:=[("_law_room",s.heap.objs.size+1)]) (caps:=[("_law_room",5)]) t5.nd rfl (Sn rfl) #[rfl,ao,ao,rfl,by kernel_rfl,by intro p Y;simp only[wh,By,or_false]at Y;rcases Y with rfl<;>first|rfl|show#[rfl,.inl rfl,.inl rfl]|show#[rfl,.inl rfl,.inr rfl],by kernel_rfl,by intro p Y;simp only[wh,By,or_false]at Y;rcases Y with rfl<;>first|rfl|show#[rfl,.inl rfl,.inl rfl]|show#[rfl,.inl rfl,.inr rfl],ao] rfl (fj (by rfl) T.range (aa (pv 6) (aa (aA bp (pv 6) (pv 7)) ai))) (λ_ _ _ _=>fJ) (λ_ _ _ _=>(ur (m4 (a9 L) (pv 0) (pv 1)))))
  (ag (aS (aD bP (pv 3) aH (aI _)) (ak (aE (aP cu (cj (aa aH (aa aH ai))) (bH er (by rfl) T.int hJ (aa (aQ (kD rfl) (by rfl) T.all uU (aa (pv 8) ai)) ai)) bW))) aF)
  (ag (aS (fB (aQ (xF rfl) (by rfl) T.any Ei (aa (pv 8) ai))) (ak (aE aH)) aF)
  (ak (aE (aP cu (cj (aa aH (aa aH ai))) (bH er (by rfl) T.int hJ (aa (iI gI (aA bp (pc a3 L ax (aa (pv 0) ai)) (pv 7)) (bh (a9 L) (pv 0) aH bW) (aI _)) ai)) bW)))))))) aF)
  (ag (aS (aD bP (pv 3) aH (aI _)) (ak (aE (aP cu (cj (aa aH (aa aH ai))) (bH er (by rfl) T.int hJ (aa (pc a4 L ax (aa (pv 5) (aa (aP aN (pv 1) aj bW) (aa (aP aN (pv 1) aj bW) ai)))) ai)) bW))) aF)
  (ag (aS (aD bP (pv 3) aH (aI _)) (ak (aE (aP cu (cj (aa aH (aa aH ai))) (bH er (by rfl) T.int hJ (aa (pc a4 L ax (aa (pv 5) (aa (aP aN (pv 1) aj bW) (aa (aQ bG (by rfl) T.len boot_len (aa (aP aN (pv 1) aj bW) ai)) ai)))) ai)) bW))) aF)
  (ag (aS (aD bP (pv 3) aH (aI _)) (ag (aS (jb (m4 (a9 L) (aP aN (pv 1) aj bW) (pv 2))) (ak (aE aH)) aF)
  (ak (aE (aP cu (cj (aa aH (aa aH ai))) (bH er (by rfl) T.int hJ (aa (iI gI (aA bp (pc a3 L ax (aa (pv 0) ai)) (aQ kE (by rfl) T.len boot_len (aa (pv 5) ai))) (bh (a9 L) (pv 0) aH bW) (aI _)) ai)) bW)))) aF)
  (ak (aE aH))))))))))),?_]
 show eO λ_ jt=>?_;show#[0,m.md,.ref m.lr,rfl,M.g (yb _ _ _ _),jt _ _ ?_];show share (λσ H1=>aZ H H1/\σ=[some (.ref m.md),some (.ref d),some (.ref m.lr),some (.str (k9 D)),some (.int (DM D)),none,none,none,none]) (λu' a5=>?A) ?B
 case A =>
  show#[0,0,d,0,bL.of hd.1,λc=>?_,λ_ p Y=>?_]
  .show#[d,0,bL.of hd.1,by rw[BB c];rfl,by rw[BB c];show#[_,0,_,0,rfl,a5 _ _ #[aZ.refl H,rfl]]]
  .rw[Ea];show#[p,0,bL.of af,4,0,_,0,rfl,a5 _ _ #[Tb.au Y,rfl]]
 case B =>
 rintro σ H1 ⟨s1,rfl⟩;have M1:=M.same s1;have O:H1 d=some (.tup (pA D)):=s1 _ _ hd.1;have a7:∀t ad c cs,D=.poke t ad c cs->H1 c=some (.lst (cs.map V.int)):=λt ad c cs e=>s1 _ _ (hd.2 t ad c cs e);have nb:k9 D ≠ "begin" := by
  cases D with
  |begin t=>show absurd ab id
  |close t=>show(show ¬ (("close" : Str) = "begin")by decide +kernel)
  |map t p m=>show(show ¬ (("map" : Str) = "begin")by decide +kernel)
  |drop t p m=>show(show ¬ (("drop" : Str) = "begin")by decide +kernel)
  |peek t p m=>show(show ¬ (("peek" : Str) = "begin")by decide +kernel)
  |poke t p m q=>show(show ¬ (("poke" : Str) = "begin")by decide +kernel)
  |copy t p=>show(show ¬ (("copy" : Str) = "begin")by decide +kernel)
 show gR λ_ J I=>?_;show yW (iU rfl) iW rfl (ks_ne nb) (I _ ?_);clear J I;show gR λ_ J I=>?_;show#[0,0,m.lr,0,fX (t:=DM D) M1.hr,?_];cases R:Tb.look Z (DM D)with
 |none=>show#[true,rfl,J _ (k "NoTask" H1 s1 (λz=>absurd z ao))]
 |some z =>
 show#[false,rfl,I _ ?_];clear J I;have hg:=fX (t:=DM D) M1.hr;rw[R]at hg;have ap:=Tb.az R;show eO λ_ jt=>?_;show#[0,0,m.lr,ed z,rfl,hg,jt _ _ ?_];clear jt;cases D with
 |begin t=>show absurd ab id
 |close t =>
  show gR λ_ J I=>?_;show yW (iU rfl) iW rfl bU (bX (yW (iU rfl) iW rfl bU (I _ ?_)));show jY rfl rfl bU (jY rfl rfl bU ?_);show jY rfl rfl bU ?_;show k "" H1 s1 λ_=>#[z,R]
 |peek t ad n =>
  show gR λ_ J I=>?_;show yW (iU rfl) iW rfl bU (bX (yW (iU rfl) iW rfl bU (I _ ?_)));show BQ rfl rfl ?_;let#[a0,a1,n0,n1]:=ab;show#[d9,λl N=>?_];have s2:=Tb.au (X:=.lst [.str "NoPage",.str ""]) N;have h2:upd H1 l (.lst [.str "NoPage",.str ""]) l=some (.lst [.str "NoPage",.str ""]):=af;show#[0,0,d,2,.int ad,1,bL.of (s2 _ _ O),rfl,0,d,2,.int n,1,bL.of (s2 _ _ O),rfl,z.ra,z.pl,ad,n,rfl,s2 _ _ (M1.rm _ ap),a0,a1,n0,n1,λb H3 s3 hb=>?_];show .inr #[b,rfl,l,2,0,rfl,bA.of (s3 _ _ h2),at2 b,?_];cases b
  .show k "NoPage" H3 (s1.trans (s2.trans s3)) (λw=>absurd w ao)
  .show k "" H3 (s1.trans (s2.trans s3)) (λ_=>#[z,R,hb rfl])
 |poke t ad c cs =>
  show gR λ_ J I=>?_;show yW (iU rfl) iW rfl bU (bX (yW (iU rfl) iW rfl bU (I _ ?_)));show jY rfl rfl bU (BQ rfl rfl ?_);let#[a0,a1,n0,ba]:=ab;have n1:cs.length<=100:=KI ba av;show#[d9,λl N=>?_];have s2:=Tb.au (X:=.lst [.str "NoPage",.str ""]) N;have h2:upd H1 l (.lst [.str "NoPage",.str ""]) l=some (.lst [.str "NoPage",.str ""]):=af;show#[0,0,d,2,.int ad,1,bL.of (s2 _ _ O),rfl,0,d,2,.ref c,1,bL.of (s2 _ _ O),rfl,c,0,.inl (bA.of (s2 _ _ (a7 _ _ _ _ rfl))),z.ra,z.pl,ad,cs.length,by rw[nq];rfl,s2 _ _ (M1.rm _ ap),a0,a1,n0,n1,λb H3 s3 hb=>?_];show .inr #[b,rfl,l,2,0,rfl,bA.of (s3 _ _ h2),at2 b,?_];cases b
  .show k "NoPage" H3 (s1.trans (s2.trans s3)) (λw=>absurd w ao)
  .show k "" H3 (s1.trans (s2.trans s3)) (λ_=>#[z,R,hb rfl])
 |copy t o =>
  show gR λ_ J I=>?_;show yW (iU rfl) iW rfl bU (bX (yW (iU rfl) iW rfl bU (I _ ?_)));show jY rfl rfl bU (jY rfl rfl bU ?_);show BQ rfl rfl ?_;show gR λ_ J I=>?_;show#[0,d,2,.int o,1,bL.of O,rfl,0,m.lr,0,fX (t:=o) M1.hr,?_];cases eo:Tb.look Z o with
  |some _=>show#[true,rfl,J _ (k "Taken" H1 s1 (λw=>absurd w ao))]
  |none =>
  show#[false,rfl,I _ ?_];show#[d9,λl N=>?_];have s2:=Tb.au (X:=.lst [.str "",.str "NoRoom"]) N;have h2:upd H1 l (.lst [.str "",.str "NoRoom"]) l=some (.lst [.str "",.str "NoRoom"]):=af;show#[0,m,bS,pk,Z,rfl,M1.same s2,lz,λH3 s3=>?_];have M3:=(M1.same s2).same s3;show#[0,z.ra,0,M3.rm _ ap,_,0,rfl,0,m.md,.int bS,rfl,M3.g (B0 _ _ _ _),_,0,5];show .inr #[0,l,2,0,rfl,bA.of (s3 _ _ h2),at2 _,?_];rw[Tb.cg];by_cases c:bS<tj Z+z.pl.length
  .rw[decide_eq_true c];show k "NoRoom" H3 (s1.trans (s2.trans s3)) (λw=>absurd w ao)
  .rw[decide_eq_false c];show k "" H3 (s1.trans (s2.trans s3)) (λ_=>#[z,R,eo,ae])
 |map t p G =>
  show gR λ_ J I=>?_;show eqT (iU rfl) iW rfl (eL (J _ ?_));let#[p0,p1,m0,m1]:=ab;show#[0,0,d,0,bL.of O,λc=>absurd c (by rintro⟨c,_⟩;show absurd (show HT.de 4 0 (some 2)=0 from c) av),λ_ p' aB=>?_];have s2:=Tb.au (X:=.tup [.int p,.int G]) aB;have ec:∀x:Str,ff [V.str x,V.int t,V.int p,V.int G] (some 2) none=[V.int p,V.int G]:=λ_=>rfl;dsimp only[pA];rw[ec];show#[p',[.int p,.int G],rfl,bL.of af,4,0,_,0,5];have a6:=s2 _ _ O;have M2:=M1.same s2;generalize upd H1 p' (.tup [.int p,.int G])=H2 at *;show gR λ_ am ac=>?_;show#[0,_,0,rfl,0,?_];rw[decide_eq_false ae];show bX ?_;show#[0,_,0,rfl,0,?_];rw[decide_eq_false ae];show bX ?_;show#[0,0,_,0,4,0,rfl,0,?_];by_cases c:(64:Int)<p+G
  .rw[decide_eq_true c];show am _ (k "NoPage" H2 (s1.trans s2) (λw=>absurd w ao))
  rw[decide_eq_false c];show ac _ ?_;clear am ac;have a2:¬ Rm.cD p G:=λh=>by
   rcases h with h|h|h<;>omega
  show#[0,0,0,_,0,4,0,#[ae,ae,ae,ae],?_];show fO (lo:=p) (n:=(p+G-p).toNat) (λi ys H3=>ys=((KD i).map λj:Nat=>(Tb.look z.pl (p+j)).isSome).map V.bl/\H3=H2) #[1] ?_ ?_
  .rintro i ys H3 hi ⟨rfl,rfl⟩;show#[0,0,z.ra,0,fX (M2.rm _ ap),3,rfl]
   .rw[nq,nq,Lh];omega
   .rw[Pd,BY,BY];change _++[V.bl ((Tb.look z.pl (p+(i:Int))).map dJ).isSome]=_;rw[Oe];rfl
  rintro ys H3 ⟨rfl,rfl⟩ l N;have s3:=Tb.au (X:=.lst (((KD (p+G-p).toNat).map λj:Nat=>(Tb.look z.pl (p+j)).isSome).map V.bl)) N;have h3:upd H3 l (.lst (((KD (p+G-p).toNat).map λj:Nat=>(Tb.look z.pl (p+j)).isSome).map V.bl)) l=some (.lst (((KD (p+G-p).toNat).map λj:Nat=>(Tb.look z.pl (p+j)).isSome).map V.bl)):=af;have aT:Rm.aM p G=(KD (p+G-p).toNat).map λj:Nat=>p+j:=(by unfold Rm.aM;rw[show p+G-p=G by omega]);generalize upd H3 l (.lst (((KD (p+G-p).toNat).map λj:Nat=>(Tb.look z.pl (p+j)).isSome).map V.bl))=H4 at *;have M4:=M2.same s3;have S4:=s1.trans (s2.trans s3);show nameQ ?_;dsimp only;show jY rfl rfl bU ?_;show gR λ_ J I=>?_;show#[0,l,0,bA.of h3,0,?_];cases ea:(((KD (p+G-p).toNat).map λj:Nat=>(Tb.look z.pl (p+j)).isSome)).any id with
  |true=>show J _ (k "Taken" H4 S4 (λw=>absurd w ao))
  |false =>
  show I _ ?_;show#[d9,λU as=>?_];have S:=Tb.au (X:=.lst [.str "",.str "NoRoom"]) as;have h5:upd H4 U (.lst [.str "",.str "NoRoom"]) U=some (.lst [.str "",.str "NoRoom"]):=af;show#[0,m,bS,pk,Z,rfl,M4.same S,lz,λH6 s6=>?_];have M6:=(M4.same S).same s6;show#[0,_,0,rfl,0,m.md,.int bS,rfl,M6.g (B0 _ _ _ _),_,0,5];show .inr #[0,U,2,0,rfl,bA.of (s6 _ _ h5),at2 _,?_];by_cases c2:bS<tj Z+G
  .rw[decide_eq_true c2];show k "NoRoom" H6 (S4.trans (S.trans s6)) (λw=>absurd w ao)
  .rw[decide_eq_false c2];show k "" H6 (S4.trans (S.trans s6)) (λ_=>#[z,R,a2,λq hq=>?_,ae]);rw[aT]at hq;let#[j,hj,rfl]:=rn.mp hq;have e:=Ql.mp ea ((Tb.look z.pl (p+(j:Int))).isSome) (rn.mpr #[j,hj,rfl]);cases w:Tb.look z.pl (p+(j:Int))with
   |none=>rfl
   |some _=>rw[w]at e;show absurd rfl e
 |drop t p G =>
  show gR λ_ J I=>?_;show yW (iU rfl) iW rfl bU (bX (eqT (iU rfl) iW rfl (J _ ?_)));let#[p0,p1,m0,m1]:=ab;show#[0,0,d,0,bL.of O,λc=>absurd c (by rintro⟨c,_⟩;show absurd (show HT.de 4 0 (some 2)=0 from c) av),λ_ p' aB=>?_];have s2:=Tb.au (X:=.tup [.int p,.int G]) aB;have ec:∀x:Str,ff [V.str x,V.int t,V.int p,V.int G] (some 2) none=[V.int p,V.int G]:=λ_=>rfl;dsimp only[pA];rw[ec];show#[p',[.int p,.int G],rfl,bL.of af,4,0,_,0,5];have a6:=s2 _ _ O;have M2:=M1.same s2;generalize upd H1 p' (.tup [.int p,.int G])=H2 at *;show gR λ_ am ac=>?_;show#[0,_,0,rfl,0,?_];rw[decide_eq_false ae];show bX ?_;show#[0,_,0,rfl,0,?_];rw[decide_eq_false ae];show bX ?_;show#[0,0,_,0,4,0,rfl,0,?_];by_cases c:(64:Int)<p+G
  .rw[decide_eq_true c];show am _ (k "NoPage" H2 (s1.trans s2) (λw=>absurd w ao))
  rw[decide_eq_false c];show ac _ ?_;clear am ac;have a2:¬ Rm.cD p G:=λh=>by
   rcases h with h|h|h<;>omega
  show#[0,0,0,_,0,4,0,#[ae,ae,ae,ae],?_];show fO (lo:=p) (n:=(p+G-p).toNat) (λi ys H3=>ys=((KD i).map λj:Nat=>(Tb.look z.pl (p+j)).isSome).map V.bl/\H3=H2) #[1] ?_ ?_
  .rintro i ys H3 hi ⟨rfl,rfl⟩;show#[0,0,z.ra,0,fX (M2.rm _ ap),3,rfl]
   .rw[nq,nq,Lh];omega
   .rw[Pd,BY,BY];change _++[V.bl ((Tb.look z.pl (p+(i:Int))).map dJ).isSome]=_;rw[Oe];rfl
  rintro ys H3 ⟨rfl,rfl⟩ l N;have s3:=Tb.au (X:=.lst (((KD (p+G-p).toNat).map λj:Nat=>(Tb.look z.pl (p+j)).isSome).map V.bl)) N;have h3:upd H3 l (.lst (((KD (p+G-p).toNat).map λj:Nat=>(Tb.look z.pl (p+j)).isSome).map V.bl)) l=some (.lst (((KD (p+G-p).toNat).map λj:Nat=>(Tb.look z.pl (p+j)).isSome).map V.bl)):=af;have aT:Rm.aM p G=(KD (p+G-p).toNat).map λj:Nat=>p+j:=(by unfold Rm.aM;rw[show p+G-p=G by omega]);generalize upd H3 l (.lst (((KD (p+G-p).toNat).map λj:Nat=>(Tb.look z.pl (p+j)).isSome).map V.bl))=H4 at *;have M4:=M2.same s3;have S4:=s1.trans (s2.trans s3);show nameQ ?_;dsimp only;show BQ rfl rfl ?_;show#[d9,λU as=>?_];have S:=Tb.au (X:=.lst [.str "NoPage",.str ""]) as;have h5:upd H4 U (.lst [.str "NoPage",.str ""]) U=some (.lst [.str "NoPage",.str ""]):=af;show#[0,l,0,bA.of (S _ _ h3),?_];show .inr #[0,U,2,0,rfl,bA.of h5,at2 _,?_];cases ea:(((KD (p+G-p).toNat).map λj:Nat=>(Tb.look z.pl (p+j)).isSome)).all id with
  |false=>show k "NoPage" _ (S4.trans S) (λw=>absurd w ao)
  |true =>
   show k "" _ (S4.trans S) (λ_=>#[z,R,a2,λq hq=>?_]);rw[aT]at hq;let#[j,hj,rfl]:=rn.mp hq;have e:=K0.mp ea ((Tb.look z.pl (p+(j:Int))).isSome) (rn.mpr #[j,hj,rfl]);intro w;rw[w]at e;cases e
end
theorem Dz:∀{L:List (List Int)}{i o:Nat},(∀r∈L,r.length=8)->o<8->L.flatten[8*i+o]?=(L[i]?).bind (·[o]?)
 | [],i,o,_,_=>by simp
 |r::L,0,o,h,G=>by
  have:=h r KW;rw[Mj,Lq ae];simp
 |r::L,i+1,o,h,G=>by
  have:=h r KW;rw[Mj,Ln ae,show 8*(i+1)+o-r.length=8*i+o by omega,Dz (λx I=>h x (KQ _ I)) G];simp
theorem xf {ad:Int}{n:Nat}{i:Nat}(h:i<(Rm.aq ad n).length):(Rm.aq ad n)[i]?=some (ad/8+i):=by
 unfold Rm.aq at h ⊢;by_cases e:((n:Nat):Int)=0
 .rw[Sv e]at h;cases h
 .rw[Su e]at h ⊢;unfold Rm.aM at h ⊢;rw[nq,Lh]at h;rw[rz,MO h];rfl
theorem ES {ad:Int}{n:Nat}{j:Nat}(h:j<n):((ad+j)/8-ad/8).toNat<(Rm.aq ad n).length:=by
 unfold Rm.aq;rw[Su ae];unfold Rm.aM;rw[nq,Lh];change _<((ad+n-1)/8-ad/8+1).toNat;omega
variable {F:Int->List Int}{ad:Int}{n:Nat}
theorem zA (I:∀q∈Rm.aq ad n,(F q).length=8) {i o:Nat}(hi:i<(Rm.aq ad n).length) (G:o<8):(bR F (Rm.aq ad n))[8*i+o]?=(F (ad/8+i))[o]?:=by
 unfold bR;rw[Dz (λr L=>by let#[q,J,rfl]:=rn.mp L;show I q J) G,rz,xf hi];rfl
noncomputable def oX (F:Int->List Int) (ad:Int) (n:Nat):List Int:=(KD n).map λj:Nat=>(F ((ad+(j:Int))/8)).getD ((ad+(j:Int))%8).toNat 0
theorem xw (J:∀q∈Rm.aq ad n,(F q).length=8):((bR F (Rm.aq ad n)).drop (ad%8).toNat).take n=oX F ad n:=by
 show Mv λj=>?_;unfold oX;rw[NP,OB,rz];by_cases G:j<n
 .rw[Sv G,MO G];have hi:=ES (ad:=ad) G;have e:(ad%8).toNat+j=8*((ad+j)/8-ad/8).toNat+((ad+j)%8).toNat:=ae;have I:ad/8+(((ad+j)/8-ad/8).toNat:Int)=(ad+j)/8:=ae;rw[e,zA J hi ae,I];have L:(ad+(j:Int))/8∈Rm.aq ad n:=by
   have:=ua (xf hi);rw[I]at this;show this
  have:=J _ L;change _=some ((F ((ad+(j:Int))/8)).getD ((ad+(j:Int))%8).toNat 0);rw[Lg,ti ae];rfl
 .rw[Su G,Lk (by rw[Lh];omega)];rfl
noncomputable def jq (r:List Int) (ad:Int) (cs:List Int) (q:Int):List Int:=(KD 8).map λo:Nat=>if ad<=8*q+(o:Int)/\8*q+(o:Int)<ad+cs.length then cs.getD (8*q+(o:Int)-ad).toNat 0 else r.getD o 0
theorem gh {r:List Int}{cs:List Int}{q:Int}:(jq r ad cs q).length=8:=by unfold jq;rw[nq,Lh]
theorem gG {r:List Int}{cs:List Int}{q:Int}{o:Nat}(h:o<8):(jq r ad cs q)[o]?=some (if ad<=8*q+(o:Int)/\8*q+(o:Int)<ad+cs.length then cs.getD (8*q+(o:Int)-ad).toNat 0 else r.getD o 0):=by
 unfold jq;rw[rz,MO h];rfl
theorem Ao {r:List Int}{q:Int}(h:r.length=8):jq r ad [] q=r:=by
 show Mv λo=>?_;by_cases G:o<8
 .rw[gG G,Su (by rw[Qa];omega),Lg,ti ae];rfl
 .rw[Lk (by rw[gh];omega),Lk ae]
theorem yk {r cs:List Int}{c:Int}{q:Int}:jq r ad (cs++[c]) q=if (ad+(cs.length:Int))/8=q then(jq r ad cs q).set ((ad+(cs.length:Int))%8).toNat c else jq r ad cs q:=by
 have J:(cs++[c]).length=cs.length+1:=(by rw[vl];rfl);have L:∀k:Nat,k<cs.length->(cs++[c]).getD k 0=cs.getD k 0:=λk h=>(by rw[Lg,Lg,Lq h]);have N:(cs++[c]).getD cs.length 0=c:=(by rw[Lg,Ln (qj _)];simp);show Mv λo=>?_;by_cases G:o<8
 .by_cases e:(ad+(cs.length:Int))/8=q
  .rw[Sv e,List.getElem?_set,gh,gG G,gG G,J];by_cases I:((ad+(cs.length:Int))%8).toNat=o
   .rw[Sv I,Sv (show((ad+(cs.length:Int))%8).toNat<8 by omega),Sv ae,show(8*q+(o:Int)-ad).toNat=cs.length by omega,N]
   .rw[Su I];by_cases h:ad<=8*q+(o:Int)/\8*q+(o:Int)<ad+cs.length
    .rw[Sv h,Sv ae,L _ ae]
    .rw[Su h,Su ae]
  .rw[Su e,gG G,gG G,J];by_cases h:ad<=8*q+(o:Int)/\8*q+(o:Int)<ad+cs.length
   .rw[Sv h,Sv ae,L _ ae]
   .rw[Su h,Su ae]
 .have:(if (ad+(cs.length:Int))/8=q then(jq r ad cs q).set ((ad+(cs.length:Int))%8).toNat c else jq r ad cs q).length=8:=(by split<;>simp[gh]);rw[Lk (by rw[gh];omega),Lk ae]
theorem ze {cs:List Int}(J:∀q∈Rm.aq ad cs.length,(F q).length=8) {i:Nat}(hi:i<(Rm.aq ad cs.length).length) (N:(Rm.dQ (bR F (Rm.aq ad cs.length)) (ad%8).toNat cs).length=8*(Rm.aq ad cs.length).length):(eM F ad cs)[i]?=some (jq (F (ad/8+i)) ad cs (ad/8+i)):=by
 unfold eM Rm.fY;rw[rz,MO hi];change some _=some _;congr 1;have wl:(bR F (Rm.aq ad cs.length)).length=8*(Rm.aq ad cs.length).length:=by
  unfold bR;have:∀(L:List (List Int)),(∀r∈L,r.length=8)->L.flatten.length=8*L.length:=λL=>by
   induction L with
   |nil=>intro _;rfl
   |cons r L S=>intro h;rw[Mj,vl,h r KW,S λx Y=>h x (KQ _ Y),DO];omega
  rw[this _ (λr R=>by let#[q,G,rfl]:=rn.mp R;show J q G),nq]
 show Mv λo=>?_;by_cases I:o<8
 .rw[NP,Sv I,OB,gG I];have G:ad/8+(i:Int)∈Rm.aq ad cs.length:=ua (xf hi);have R:=J _ G;have O:(bR F (Rm.aq ad cs.length))[8*i+o]?=some ((F (ad/8+i)).getD o 0):=by
   rw[zA J hi I,Lg,ti ae];rfl
  unfold Rm.dQ at N ⊢;rw[vl,vl,DD,LZ]at N;by_cases U:8*i+o<(ad%8).toNat
  .rw[Su ae,KU,Lq (by rw[DD];omega),NP,Sv U,O]
  .by_cases c2:8*i+o<(ad%8).toNat+cs.length
   .rw[Sv ae,KU,Ln (by rw[DD];omega),DD,Lq ae,Lg,show 8*i+o-min (ad%8).toNat (bR F (Rm.aq ad cs.length)).length=(8*(ad/8+(i:Int))+(o:Int)-ad).toNat by omega,ti ae];rfl
   .rw[Su ae,Ln (by rw[vl,DD];omega),OB,vl,DD,show(ad%8).toNat+cs.length+(8*i+o-(min (ad%8).toNat (bR F (Rm.aq ad cs.length)).length+cs.length))=8*i+o by omega,O]
 .rw[Lk (by rw[DD];omega),Lk (by rw[gh];omega)]
theorem Jm {s:Pg.PS}{W:di}{cv:Int->Int->List Int}{t:Int}{x:TD}(J:Pg.RI s (ents W)) (O:Cv s W cv) (I:Tb.look W t=some x) (G:¬ Rm.cX ad n (x.t.map (·.1))):∀q∈Rm.aq ad n,(cv t q).length=8:=λq N=>by
 have h:=(Rm.gF G).2 q N;cases e:Tb.look x.t q with
 |none=>show absurd h (Tb.cf e)
 |some L=>show yS.len J.good (O t x I q L e)
theorem CO (I:∀q∈Rm.aq ad n,(F q).length=8):(bR F (Rm.aq ad n)).length=8*(Rm.aq ad n).length:=by
 have:∀(L:List (List Int)),(∀r∈L,r.length=8)->L.flatten.length=8*L.length:=λL=>by
  induction L with
  |nil=>intro _;rfl
  |cons r L O=>intro h;rw[Mj,vl,h r KW,O λx G=>h x (KQ _ G),DO];omega
 unfold bR;rw[this _ (λr N=>by let#[q,J,rfl]:=rn.mp N;show I q J),nq]
noncomputable def tG (cv:Int->Int->List Int) (t ad:Int) (cs:List Int):Int->Int->List Int:=λt' q=>if t'=t/\q∈Rm.aq ad cs.length then jq (cv t q) ad cs q else cv t' q
theorem uH {cv:Int->Int->List Int}{t:Int}{cs:List Int}{O:List Int}(S:¬ Rm.cX ad cs.length O) (I:∀q∈Rm.aq ad cs.length,(cv t q).length=8):fV cv t (((Rm.aq ad cs.length).zip (eM (cv t) ad cs)).reverse)=tG cv t ad cs:=by
 have N:=Rm.nu S (ws:=bR (cv t) (Rm.aq ad cs.length)) (CO I);have U:(eM (cv t) ad cs).length=(Rm.aq ad cs.length).length:=(by unfold eM Rm.fY;rw[nq,Lh]);have G:((Rm.aq ad cs.length).zip (eM (cv t) ad cs)).map (·.1)=Rm.aq ad cs.length:=QC ae;have R:((((Rm.aq ad cs.length).zip (eM (cv t) ad cs)).reverse).map (·.1)).Nodup:=by
  rw[List.map_reverse,G];show((List.reverse_perm _).nodup_iff).mpr (jH _ _)
 funext t' q;unfold fV tG;by_cases c:t'=t
 .rw[Sv c];by_cases m:q∈Rm.aq ad cs.length
  .rw[Sv #[c,m]];let#[i,hi,e]:=LI m;have J:=xf hi;rw[ti hi,e]at J;have L:=rk J;rw[Tb.bJ R (Lx.mpr (ua (i:=i) (a:=(q,jq (cv t q) ad cs q)) (by rw[Ol];show#[by rw[ti hi,e],by rw[L];show ze I hi N])))];rfl
  .rw[Su (λh=>m h.2)];have:Tb.look (((Rm.aq ad cs.length).zip (eM (cv t) ad cs)).reverse) q=none:=by
    cases e:Tb.look (((Rm.aq ad cs.length).zip (eM (cv t) ad cs)).reverse) q with
    |none=>rfl
    |some r=>show absurd (by rw[<-G];show rn.mpr #[_,Lx.mp (Tb.az e),rfl]) m
   rw[this];rfl
 .rw[Su c,Su (λh=>c h.1)]
noncomputable def rW (D:Dd) (h h':Int->Bool):Prop:=match D with
 |.begin t=>∀t',h' t'=(decide (t'=t)||h t')
 |.close t=>∀t',h' t'=(decide (t'≠t)&&h t')
 |.copy _ o=>∀t',h' t'=(decide (t'=o)||h t')
 |_=>∀t',h' t'=h t'
noncomputable def lj {α:Type}(I:α) (ok:α->Prop) (D:Dd) (e G:Int->Int->Option α):Prop:=match D with
 |.begin t=>∀t' q,G t' q=if t'=t then none else e t' q
 |.close t=>∀t' q,G t' q=if t'=t then none else e t' q
 |.map t p m=>∀t' q,G t' q=if t'=t/\q∈Rm.aM p m then some I else e t' q
 |.drop t p m=>∀t' q,G t' q=if t'=t/\q∈Rm.aM p m then none else e t' q
 |.peek _ _ _=>∀t' q,G t' q=e t' q
 |.poke t ad _ cs=>∀t' q,if t'=t/\q∈Rm.aq ad cs.length then ∃k,G t' q=some k/\ok k else G t' q=e t' q
 |.copy t o=>∀t' q,G t' q=if t'=o then e t q else e t' q
noncomputable def hW (W:di) (t:Int):Bool:=(Tb.look W t).isSome
noncomputable def eW (W:di) (t q:Int):Option Pg.Ent:=(Tb.look W t).bind λx=>Tb.look x.t q
noncomputable def hZ (Z:Zs) (t:Int):Bool:=(Tb.look Z t).isSome
noncomputable def eZ (Z:Zs) (t q:Int):Option Int:=(Tb.look Z t).bind λz=>(Tb.look z.pl q).map (·.2)
structure Tw (W:di) (Z:Zs):Prop where
 h:∀t,hW W t=hZ Z t
 e:∀t q,(eW W t q).map isNone=(eZ Z t q).map λv=>decide (v=0)
theorem map_if {α G:Type}{c:Prop} [Decidable c] {f:α->G}{a b:Option α}:(if c then a else b).map f=if c then a.map f else b.map f:=by split<;>rfl
theorem Tw.next {W W':di}{Z Z':Zs}{D:Dd}(T:Tw W Z) (h1:rW D (hW W) (hW W')) (h2:rW D (hZ Z) (hZ Z')) (G:lj none (λx=>∃k,x=some k) D (eW W) (eW W')) (I:lj 0 (λv=>v≠0) D (eZ Z) (eZ Z')):Tw W' Z':=by
 show#[λt'=>?_,λt' q=>?_]
 .cases D with
  |begin t=>show(h1 t').trans (by rw[T.h t'];show(h2 t').symm)
  |close t=>show(h1 t').trans (by rw[T.h t'];show(h2 t').symm)
  |copy t o=>show(h1 t').trans (by rw[T.h t'];show(h2 t').symm)
  |map t p m=>show(h1 t').trans ((T.h t').trans (h2 t').symm)
  |drop t p m=>show(h1 t').trans ((T.h t').trans (h2 t').symm)
  |peek t ad n=>show(h1 t').trans ((T.h t').trans (h2 t').symm)
  |poke t ad c cs=>show(h1 t').trans ((T.h t').trans (h2 t').symm)
 .cases D with
  |begin t=>rw[G t' q,I t' q,map_if,map_if,T.e];rfl
  |close t=>rw[G t' q,I t' q,map_if,map_if,T.e];rfl
  |copy t o=>rw[G t' q,I t' q,map_if,map_if,T.e,T.e]
  |map t p m=>rw[G t' q,I t' q,map_if,map_if,T.e];rfl
  |drop t p m=>rw[G t' q,I t' q,map_if,map_if,T.e];rfl
  |peek t ad n=>rw[G t' q,I t' q,T.e]
  |poke t ad c cs =>
   have J:=G t' q;have L:=I t' q;by_cases z:t'=t/\q∈Rm.aq ad cs.length
   .rw[Sv z]at J L;let#[k,O,j,rfl]:=J;let#[v,R,N]:=L;rw[O,R];change some (isNone (some j))=some (decide (v=0));rw[decide_eq_false N];rfl
   .rw[Su z]at J L;rw[J,L];show T.e t' q
theorem rh {W:di}{t:Int}{x y:TD}(h:Tb.look W t=some x) (t':Int):hW (Tb.aW W t y) t'=hW W t':=by
 unfold hW;rw[Tb.bK t' h];by_cases z:t'=t
 .rw[Sv z,z,h];rfl
 .rw[Su z]
theorem rO {W:di}{t:Int}{x y:TD}(h:Tb.look W t=some x) (t' q:Int):eW (Tb.aW W t y) t' q=if t'=t then Tb.look y.t q else eW W t' q:=by
 unfold eW;rw[Tb.bK t' h];by_cases z:t'=t
 .rw[Sv z,Sv z];rfl
 .rw[Su z,Su z]
theorem kT {W:di}{t:Int}{x:TD}(h:Tb.look W t=some x) (q:Int):eW W t q=Tb.look x.t q:=by unfold eW;rw[h];rfl
noncomputable def DJ (W:di) (tt:Int):Dd->Prop
 |.begin _=>False
 |.close t=>∃x,Tb.look W t=some x
 |.map t p m=>∃x,Tb.look W t=some x/\¬ Rm.cD p m/\(∀q∈Rm.aM p m,Tb.look x.t q=none)/\(ents W).length+m<=tt
 |.drop t p m=>∃x,Tb.look W t=some x/\¬ Rm.cD p m/\∀q∈Rm.aM p m,Tb.look x.t q≠none
 |.peek t ad n=>∃x,Tb.look W t=some x/\¬ Rm.cX ad n (x.t.map (·.1))/\0<=ad/\ad<=1000/\n<=100
 |.poke t ad _ cs=>∃x,Tb.look W t=some x/\¬ Rm.cX ad cs.length (x.t.map (·.1))/\0<=ad/\ad<=1000/\cs.length<=100
 |.copy t o=>∃x,Tb.look W t=some x/\Tb.look W o=none/\(ents W).length+x.t.length<=tt
structure FL (P:rr) (w:Bd) (K:iF) (mg:Str->Option Value) (base:Heap) (c:CA):Prop where
 Jk:Md P w K mg base aV 3 c.C "begin" (mO c)
 Kn:Md P w K mg base aV 6 c.C "close" (mP c)
 J7:Md P w K mg base aV 4 c.C "map" (vU c)
 Ku:Md P w K mg base aV 6 c.C "drop" (u5 c)
 Ky:Md P w K mg base aV 5 c.C "copy" (qm c)
 Iq:Md P w K mg base aV 8 c.C "peek" (qv c)
 BO:Md P w K mg base aV 4 c.C "place" (m5 c)
 Kq:Md P w K mg base aV 10 c.C "poke" (qh K c)
noncomputable def pL (D:Dd) (cv:Int->Int->List Int):Int->Int->List Int:=match D with
 |.map t p m=>gM cv t (Rm.aM p m)
 |.copy t o=>lW cv t o
 |.poke t ad _ cs=>tG cv t ad cs
 |_=>cv
noncomputable def Hm (D:Dd) (cv:Int->Int->List Int) (H H':Hp) (v:V):Prop:=match D with
 |.peek t ad n=>∃l,v=.ref l/\H l=none/\H' l=some (.lst ((oX (cv t) ad n).map V.int))
 |_=>True
noncomputable def Iv (D:Dd) (s s':Pg.PS) (W':di):Prop:=match D with
 |.peek t ad n=>Pg.KB s s'/\∃y,Tb.look W' t=some y/\mr y.t (Rm.aq ad n) (Rm.aq ad n).length s'
 |.poke t ad _ cs=>Pg.KB s s'/\∃y,Tb.look W' t=some y/\Ex y.t (Rm.aq ad cs.length) s'/\mr y.t (Rm.aq ad cs.length) (Rm.aq ad cs.length).length s'
 |_=>Pg.Up s s'
inductive nU (c:CA) (vs:List V) (H:Hp) (Q:VK) (e3:XK):Prop
 |mk (M:Addr->Prop) (a:RA) (s:Pg.PS) (W:di) (cv:Int->Int->List Int) (d:Addr) (D:Dd) (_:vs=[.ref a.rp,.ref d]) (_:ay c H M a s W) (_:Pg.RI s (ents W)) (_:Cv s W cv) (_:W.length<=1000) (_:gQ H d D) (_:DJ W (bS s) D) (_:∀(H':Hp) (M':Addr->Prop) (s':Pg.PS) (W':di) (cv':Int->Int->List Int) (v:V),ay c H' M' a s' W'->Pg.RI s' (ents W')->(Cv s' W' cv'/\cv'=pL D cv/\Hm D cv H H' v)->Step H M (a.own W) H' M' (a.own W')->((∀b,(s'.ow b).length=(s.ow b).length)/\Iv D s s' W')->W'.length<=W.length+1->rW D (hW W) (hW W')->lj none (λx=>∃k,x=some k) D (eW W) (eW W')->Q v H'):nU c vs H Q e3
section
variable {P:rr}{w:Bd}{K:iF}{mg:Str->Option Value}{base:Heap}
theorem EK:aC ["_law_kept","_law_deed","_law_name","_law_task"] ["_law_kept","_law_deed"] (aw qP):=L2.bD
theorem yw {f:Addr}{fd:qi}{c:CA}(F:cK K "_law_called" "_law_called" qP f fd) (T:oP K mg c) (M:FL P w K mg base c):a8 P w K mg base aV 11 f fd ["_law_kept","_law_deed"] (nU c):=by
 show F.dh EK (λas A outer s H vs Q E hr h=>?_);let#[MM,a,s',W,cv,d,D,rfl,R,ri,ab,lw,hd,fi,q]:=h;show#[_,(ag (cV (cW lF (pv 1) eX (cO aj)) (dF rfl (bg (f9 2 EK.nd) (bg (f9 3 EK.nd) cQ))))
  (ag (aS (aD bP (pv 2) aH (aI _)) (ak (aE (pm (pv 0) T.cl M.Jk hr ax (aa (pv 3) ai)))) aF)
  (ag (aS (aD bP (pv 2) aH (aI _)) (ak (aE (pm (pv 0) T.cl M.Kn hr ax (aa (pv 3) ai)))) aF)
  (ag (aS (aD bP (pv 2) aH (aI _)) (ak (aE (pm (pv 0) T.cl M.J7 hr ax (aa (pv 3) (aa (aP aN (pv 1) aj bW) (aa (aP aN (pv 1) aj bW) ai)))))) aF)
  (ag (aS (aD bP (pv 2) aH (aI _)) (ak (aE (pm (pv 0) T.cl M.Ku hr ax (aa (pv 3) (aa (aP aN (pv 1) aj bW) (aa (aP aN (pv 1) aj bW) ai)))))) aF)
  (ag (aS (aD bP (pv 2) aH (aI _)) (ak (aE (pm (pv 0) T.cl M.Ky hr ax (aa (pv 3) (aa (aP aN (pv 1) aj bW) ai))))) aF)
  (ag (aS (aD bP (pv 2) aH (aI _)) (ak (aE (pm (pv 0) T.cl M.Iq hr ax (aa (pv 3) (aa (aP aN (pv 1) aj bW) (aa (aP aN (pv 1) aj bW) ai)))))) aF)
  (ak (aE (pm (pv 0) T.cl M.Kq hr ax (aa (pv 3) (aa (aP aN (pv 1) aj bW) (aa (aP aN (pv 1) aj bW) ai))))))))))))),?_]
 show share (λσ H1=>aZ H H1/\σ=[some (.ref a.rp),some (.ref d),some (.str (k9 D)),some (.int (DM D))]) (λu' ac=>?A) ?B
 case A =>
  show#[0,0,d,0,bL.of hd.1,λc=>?_,λ_ p hp=>?_]
  .show#[d,0,bL.of hd.1,by rw[BB c];rfl,by rw[BB c];show#[_,0,_,0,rfl,ac _ _ #[aZ.refl H,rfl]]]
  .rw[Ea];show#[p,0,bL.of af,4,0,_,0,rfl,ac _ _ #[Tb.au hp,rfl]]
 case B =>
 rintro σ H1 ⟨s1,rfl⟩;have R1:=R.same s1;have S1:=R.gX s1;have Y:H1 d=some (.tup (pA D)):=s1 _ _ hd.1;let#[dx,ho]:=R1.ob;have no:∀mm:Str,¬ mm = "rooms" -> ¬ mm = "total" -> ¬ mm = "paging" -> (eQ a.A.pg (bS s') a.rd).lookup mm=none:=λmm=>fE _ _ _;have l0:∀{t y},(Tb.aW W t y).length<=W.length+1:=λ{t y}=>(by rw[Tb.fP];omega);cases D with
 |begin t=>show absurd fi id
 |close t =>
  let#[x,G]:=fi;show jY rfl rfl bU (BQ rfl rfl ?_);show#[0,a.rp,dx,0,ho,no "close" ao ao ao,0,MM,a,s',W,cv,t,x,rfl,R1,ri,ab,G,λH2 M2 s2 R2 S N O L=>q H2 M2 s2 _ cv _ R2 S #[N,rfl,trivial] (S1.trans O) L (KI (MG _ _) (N4 _)) ?_ ?_]
  .intro t';unfold hW;rw[Tb.cn];by_cases z:t'=t
   .rw[Sv z,decide_eq_false (λy=>y z)];rfl
   .rw[Su z,decide_eq_true z];rfl
  .intro t' q;unfold eW;rw[Tb.cn];by_cases z:t'=t
   .rw[Sv z,Sv z];rfl
   .rw[Su z,Su z]
 |map t p m =>
  let#[x,G,I,U,f3]:=fi;show jY rfl rfl bU (jY rfl rfl bU ?_);show BQ rfl rfl ?_;show#[0,a.rp,dx,0,ho,no "map" ao ao ao,0,0,d,2,.int p,1,bL.of Y,rfl,0,d,2,.int m,1,bL.of Y,rfl,MM,a,s',W,cv,t,p,m,x,rfl,R1,ri,ab,lw,G,I,U,f3,λH2 M2 y R2 S N hy O=>q H2 M2 s' _ _ _ R2 S #[N,rfl,trivial] (S1.trans O) #[λ_=>rfl,Pg.Up.refl] l0 (rh G) λt' j=>?_];rw[rO G];by_cases z:t'=t
  .rw[Sv z,hy j];by_cases J:j∈Rm.aM p m
   .rw[Sv J,Sv #[z,J]]
   .rw[Su J,Su (λh=>J h.2),z,kT G]
  .rw[Su z,Su (λh=>z h.1)]
 |drop t p m =>
  let#[x,G,I,U]:=fi;show jY rfl rfl bU (jY rfl rfl bU ?_);show jY rfl rfl bU (BQ rfl rfl ?_);show#[0,a.rp,dx,0,ho,no "drop" ao ao ao,0,0,d,2,.int p,1,bL.of Y,rfl,0,d,2,.int m,1,bL.of Y,rfl,MM,a,s',W,cv,t,p,m,x,rfl,R1,ri,ab,G,I,U,λH2 M2 s2 y R2 S N hy O L=>q H2 M2 s2 _ _ _ R2 S #[N,rfl,trivial] (S1.trans O) L l0 (rh G) λt' j=>?_];rw[rO G];by_cases z:t'=t
  .rw[Sv z,hy j];by_cases J:j∈Rm.aM p m
   .rw[Sv J,Sv #[z,J]]
   .rw[Su J,Su (λh=>J h.2),z,kT G]
  .rw[Su z,Su (λh=>z h.1)]
 |copy t o =>
  let#[x,G,I,U]:=fi;show jY rfl rfl bU (jY rfl rfl bU ?_);show jY rfl rfl bU (jY rfl rfl bU ?_);show BQ rfl rfl ?_;show#[0,a.rp,dx,0,ho,no "copy" ao ao ao,0,0,d,2,.int o,1,bL.of Y,rfl,MM,a,s',W,cv,t,o,x,rfl,R1,ri,ab,lw,G,I,U,λH2 M2 s2 y hy R2 S N O L=>q H2 M2 s2 _ _ _ R2 S #[N,rfl,trivial] (S1.trans O) L (by rw[vl];show qj _) ?_ ?_]
  .intro t';unfold hW;rw[Tb.bu t' I];by_cases z:t'=o
   .rw[Sv z,decide_eq_true z];rfl
   .rw[Su z,decide_eq_false z];rfl
  .intro t' j;unfold eW;rw[Tb.bu t' I];by_cases z:t'=o
   .rw[Sv z,Sv z,G];show hy j
   .rw[Su z,Su z]
 |peek t ad n =>
  let#[x,G,I,U,f3,f4]:=fi;show jY rfl rfl bU (jY rfl rfl bU ?_);show jY rfl rfl bU (jY rfl rfl bU ?_);show jY rfl rfl bU (BQ rfl rfl ?_);show#[0,a.rp,dx,0,ho,no "peek" ao ao ao,0,0,d,2,.int ad,1,bL.of Y,rfl,0,d,2,.int n,1,bL.of Y,rfl,MM,a,s',W,cv,t,ad,n,x,rfl,R1,ri,ab,G,ae,U,f3,I,λH2 M2 s2 l R2 S N O L fl hl=>q H2 M2 s2 _ _ _ R2 S #[N,rfl,l,rfl,s1.free fl,by rw[<-xw (Jm ri ab G I)];show hl] (S1.trans O) #[L.1,L.2.1,x,G,L.2.2] (N4 _) (λ_=>rfl) λ_ _=>rfl]
 |poke t ad cc cs =>
  let#[x,G,I,U,f3,f4]:=fi;show jY rfl rfl bU (jY rfl rfl bU ?_);show jY rfl rfl bU (jY rfl rfl bU ?_);show jY rfl rfl bU (jY rfl rfl bU ?_);show#[0,a.rp,dx,0,ho,no "poke" ao ao ao,0,0,d,2,.int ad,1,bL.of Y,rfl,0,d,2,.ref cc,1,bL.of Y,rfl,MM,a,s',W,cv,t,ad,cc,cs,x,rfl,R1,ri,ab,G,bA.of (s1 _ _ (hd.2 _ _ _ _ rfl)),ae,U,f3,I,λH2 M2 s2 y R2 S N ap am O L=>q H2 M2 s2 _ _ _ R2 S #[N,uH I (Jm ri ab G I),trivial] (S1.trans O) #[L.1,L.2.1,y,by rw[Tb.bK t G,Sv rfl],L.2.2] l0 (rh G) λt' j=>?_];rw[rO G];by_cases z:t'=t
  .by_cases J:j∈Rm.aq ad cs.length
   .rw[Sv #[z,J],Sv z];let#[k,hk]:=am j J;show#[some k,hk,k,rfl]
   .rw[Su (λh=>J h.2),Sv z,ap j J,z,kT G]
  .rw[Su (λh=>z h.1),Su z]
end
theorem eh {α:Type}{f:α->V}{H:Hp}{a:Addr}{l:List (Int×α)}{t:Int}{x:α}(h:H a=some (.dK (Tb.dk f l))) (G:Tb.look l t=some x):cZ H a (.int t) (some (f x)):=by
 have q:=fX (t:=t) h;rw[G]at q;show q
section
variable {H H':Hp}{m:MA}{bS pk:Int}{Z:Zs}{t:Int}{z:MT}
theorem cF.alive (M:cF H m bS pk Z):∀b,cA m Z b->(∃xs,H b=some (.lst xs))\/∃kvs,H b=some (.dK kvs):=by
 intro b h;rcases h with h|h|h|⟨x,G,h|h|⟨y,I,h⟩⟩<;>rw[h]
 .show .inr #[_,M.hm]
 .show .inr #[_,M.hr]
 .show .inr #[_,M.hs]
 .show .inr #[_,M.rm x G]
 .show .inr #[_,M.st x G]
 .let#[ns,h1,_]:=M.cl x G y I;show .inl #[_,h1]
theorem cF.add (M:cF H m bS pk Z) (U:Tb.look Z t=none) (o:Off (λb=>b=m.lr\/b=m.ls) H H') (Y:H' m.lr=some (.dK (Tb.dk ed (Z++[(t,z)])))) (hs:H' m.ls=some (.dK (Tb.dk sg (Z++[(t,z)])))) (h1:H' z.ra=some (.dK (Tb.dk dJ z.pl))) (h2:H' z.sa=some (.dK (Tb.dk oS z.pl)))
  (h3:∀y∈z.pl,∃ns:List Int,H' y.2.1=some (.lst (ns.map V.int))/\ns.length=8) (np:(z.pl.map (·.1)).Nodup) (hg:∀y∈z.pl,0<=y.1/\y.1<64) (J:H z.ra=none) (L:H z.sa=none) (S:z.ra≠z.sa):cF H' m bS pk (Z++[(t,z)]):=by
 have nl:∀{b xs},H b=some (.lst xs)->¬ (b=m.lr\/b=m.ls):=λe w=>by
  rcases w with w|w
  .rw[w,M.hr]at e;cases e
  .rw[w,M.hs]at e;cases e
 have N:∀x∈Z,z.ra≠x.2.ra/\z.sa≠x.2.sa/\z.ra≠x.2.sa/\z.sa≠x.2.ra:=λx G=>#[(λe=>by rw[e,M.rm x G]at J;cases J),(λe=>by rw[e,M.st x G]at L;cases L),(λe=>by rw[e,M.st x G]at J;cases J),(λe=>by rw[e,M.rm x G]at L;cases L)];show#[o _ _ M.hm (gf M.n3.1 M.n3.2.1),Y,hs,λx G=>?_,λx G=>?_,λx G y I=>?_,?_,λx G=>?_,λx G=>?_,λx G y I R=>?_,λx G y I=>?_,λx G=>?_,M.n3]
 .rcases oR.mp G with G|G
  .show o _ _ (M.rm x G) (gf (M.d3 x G).2.1 (M.d3 x G).2.2.1)
  .rw[n7.mp G];show h1
 .rcases oR.mp G with G|G
  .show o _ _ (M.st x G) (gf (M.d3 x G).2.2.2.2.1 (M.d3 x G).2.2.2.2.2)
  .rw[n7.mp G];show h2
 .rcases oR.mp G with G|G
  .let#[ns,O,e2]:=M.cl x G y I;show#[ns,o _ _ O (nl O),e2]
  .rw[n7.mp G]at I;show h3 y I
 .rw[BY];show fN M.nd (Tb.cf U)
 .rcases oR.mp G with G|G
  .show M.np x G
  .rw[n7.mp G];show np
 .rcases oR.mp G with G|G
  .show M.rg x G
  .rw[n7.mp G];show hg
 .rcases oR.mp G with G|G<;>rcases oR.mp I with I|I
  .show M.da x G y I R
  .rw[n7.mp I];show#[qs (N x G).1,qs (N x G).2.1]
  .rw[n7.mp G];show#[(N y I).1,(N y I).2.1]
  .show absurd (by rw[n7.mp G,n7.mp I]) R
 .rcases oR.mp G with G|G<;>rcases oR.mp I with I|I
  .show M.rs x G y I
  .rw[n7.mp I];show qs (N x G).2.2.2
  .rw[n7.mp G];show(N y I).2.2.1
  .rw[n7.mp G,n7.mp I];show S
 .rcases oR.mp G with G|G
  .show M.d3 x G
  .rw[n7.mp G];show#[(λe=>by rw[e,M.hm]at J;cases J),(λe=>by rw[e,M.hr]at J;cases J),(λe=>by rw[e,M.hs]at J;cases J),(λe=>by rw[e,M.hm]at L;cases L),(λe=>by rw[e,M.hr]at L;cases L),(λe=>by rw[e,M.hs]at L;cases L)]
theorem cF.del (M:cF H m bS pk Z) (o:Off (λb=>b=m.lr\/b=m.ls) H H') (O:H' m.lr=some (.dK (Tb.dk ed (Tb.bf Z t)))) (hs:H' m.ls=some (.dK (Tb.dk sg (Tb.bf Z t)))):cF H' m bS pk (Tb.bf Z t):=by
 have L:∀{b xs},H b=some (.lst xs)->¬ (b=m.lr\/b=m.ls):=λe w=>by
  rcases w with w|w
  .rw[w,M.hr]at e;cases e
  .rw[w,M.hs]at e;cases e
 have sub:∀{x},x∈Tb.bf Z t->x∈Z:=λh=>(Tb.b9 h).1;show#[o _ _ M.hm (gf M.n3.1 M.n3.2.1),O,hs,λx G=>?_,λx G=>?_,λx G y I=>?_,Tb.mL M.nd,λx G=>M.np x (sub G),λx G=>M.rg x (sub G),λx G y I=>M.da x (sub G) y (sub I),λx G y I=>M.rs x (sub G) y (sub I),λx G=>M.d3 x (sub G),M.n3]
 .have G:=sub G;show o _ _ (M.rm x G) (gf (M.d3 x G).2.1 (M.d3 x G).2.2.1)
 .have G:=sub G;show o _ _ (M.st x G) (gf (M.d3 x G).2.2.2.2.1 (M.d3 x G).2.2.2.2.2)
 .let#[ns,J,N]:=M.cl x (sub G) y I;show#[ns,o _ _ J (L J),N]
theorem cF.E2 (M:cF H m bS pk Z) (S:Tb.look Z t=some z) {pk':Int}{pl:List (Int×Addr×Int)}(o:Off (λb=>b=m.md\/b=z.ra\/b=z.sa) H H') (hm:H' m.md=some (.dK (oJ m.lr m.ls bS pk'))) (h1:H' z.ra=some (.dK (Tb.dk dJ pl))) (h2:H' z.sa=some (.dK (Tb.dk oS pl)))
  (h3:∀y∈pl,∃ns:List Int,H' y.2.1=some (.lst (ns.map V.int))/\ns.length=8) (np:(pl.map (·.1)).Nodup) (hg:∀y∈pl,0<=y.1/\y.1<64):cF H' m bS pk' (Tb.aW Z t #[z.ra,z.sa,pl]):=by
 have I:=Tb.az S;have nl:∀{b xs},H b=some (.lst xs)->¬ (b=m.md\/b=z.ra\/b=z.sa):=λe w=>by
  rcases w with w|w|w
  .rw[w,M.hm]at e;cases e
  .rw[w,M.rm _ I]at e;cases e
  .rw[w,M.st _ I]at e;cases e
 have O:∀{b},b≠m.md->b≠z.ra->b≠z.sa->¬ (b=m.md\/b=z.ra\/b=z.sa):=λa b c w=>w.elim a λw=>w.elim b c;have N:=M.d3 _ I;show#[hm,3,λx G=>?_,λx G=>?_,λx G y J=>?_,by rw[Tb.fG];show M.nd,λx G=>?_,λx G=>?_,λx G y J L=>?_,λx G y J=>?_,λx G=>?_,M.n3]
 .rw[Tb.qA (f:=ed) (a:=(#[z.ra,z.sa,pl]:MT)) (b:=z) M.nd S rfl];show o _ _ M.hr (O (qs M.n3.1) (qs N.2.1) (qs N.2.2.2.2.1))
 .rw[Tb.qA (f:=sg) (a:=(#[z.ra,z.sa,pl]:MT)) (b:=z) M.nd S rfl];show o _ _ M.hs (O (qs M.n3.2.1) (qs N.2.2.1) (qs N.2.2.2.2.2))
 .rcases Tb.mem_set G with rfl|⟨G,L⟩
  .show h1
  .show o _ _ (M.rm x G) (O (M.d3 x G).1 (M.da x G _ I L).1 (M.rs x G _ I))
 .rcases Tb.mem_set G with rfl|⟨G,L⟩
  .show h2
  .show o _ _ (M.st x G) (O (M.d3 x G).2.2.2.1 (qs (M.rs _ I x G)) (M.da x G _ I L).2)
 .rcases Tb.mem_set G with rfl|⟨G,L⟩
  .show h3 y J
  .let#[ns,Y,e2]:=M.cl x G y J;show#[ns,o _ _ Y (nl Y),e2]
 .rcases Tb.mem_set G with rfl|⟨G,L⟩
  .show np
  .show M.np x G
 .rcases Tb.mem_set G with rfl|⟨G,L⟩
  .show hg
  .show M.rg x G
 .rcases Tb.mem_set G with rfl|⟨G,R⟩<;>rcases Tb.mem_set J with rfl|⟨J,U⟩
  .show absurd rfl L
  .show M.da (t,z) I y J (qs U)
  .show M.da x G (t,z) I R
  .show M.da x G y J L
 .rcases Tb.mem_set G with rfl|⟨G,R⟩<;>rcases Tb.mem_set J with rfl|⟨J,U⟩
  .show M.rs (t,z) I (t,z) I
  .show M.rs (t,z) I y J
  .show M.rs x G (t,z) I
  .show M.rs x G y J
 .rcases Tb.mem_set G with rfl|⟨G,R⟩
  .show N
  .show M.d3 x G
theorem cF.FD (M:cF H m bS pk Z) {l:Addr}{xs:List V}(J:H l=some (.lst xs)) {ns':List Int}(O:ns'.length=8):cF (upd H l (.lst (ns'.map V.int))) m bS pk Z:=by
 have o:Off (· = l) H (upd H l (.lst (ns'.map V.int))):=Off.wr rfl;have I:∀{b kvs},H b=some (.dK kvs)->¬ b=l:=λe w=>(by rw[w,J]at e;cases e);show#[o _ _ M.hm (I M.hm),o _ _ M.hr (I M.hr),o _ _ M.hs (I M.hs),λx G=>o _ _ (M.rm x G) (I (M.rm x G)),λx G=>o _ _ (M.st x G) (I (M.st x G)),λx G y L=>?_,M.nd,M.np,M.rg,M.da,M.rs,M.d3,M.n3];by_cases w:y.2.1=l
 .show#[ns',by rw[w,af],O]
 .let#[ns,N,R]:=M.cl x G y L;show#[ns,o _ _ N w,R]
end
section
variable {Z:Zs}{t:Int}{z y:MT}
theorem vb (h:Tb.look Z t=some z) (t':Int):hZ (Tb.aW Z t y) t'=hZ Z t':=by
 unfold hZ;rw[Tb.bK t' h];by_cases c:t'=t
 .rw[Sv c,c,h];rfl
 .rw[Su c]
theorem vo (h:Tb.look Z t=some z) (t' q:Int):eZ (Tb.aW Z t y) t' q=if t'=t then(Tb.look y.pl q).map (·.2)else eZ Z t' q:=by
 unfold eZ;rw[Tb.bK t' h];by_cases c:t'=t
 .rw[Sv c,Sv c];rfl
 .rw[Su c,Su c]
theorem tS (h:Tb.look Z t=some z) (q:Int):eZ Z t q=(Tb.look z.pl q).map (·.2):=by unfold eZ;rw[h];rfl
end
theorem Jz {t u:TS}{D:Ends}{σ:L2.St}{H:Hp}(h:t { D with nx:=u D } σ H):jz t u D σ H:=h
theorem Bg {α:Type}{W:List (Int×α)}{t:Int}{x y:α}:Tb.aW (Tb.aW W t x) t y=Tb.aW W t y:=by
 unfold Tb.aW;rw[LO];show L4 λz _=>?_;change(if (if z.1=t then(t,x)else z).1=t then(t,y)else(if z.1=t then(t,x)else z))=if z.1=t then(t,y)else z
 by_cases c:z.1=t
 .rw[Sv c,Sv rfl,Sv c]
 .simp only[Su c]
theorem y0 {α:Type}{W:List (Int×α)}{t:Int}{x y:α}(h:Tb.look W t=some x):Tb.look (Tb.aW W t y) t=some y:=by rw[Tb.bK t h,Sv rfl]
theorem xM {Z:Zs}{t:Int}{z:MT}(G:(Z.map (·.1)).Nodup) (h:Tb.look Z t=some z):Tb.aW Z t #[z.ra,z.sa,z.pl]=Z:=by
 unfold Tb.aW
 conv=>rhs;rw[<-Sj Z]
 show L4 λy I=>?_;change(if y.1=t then(t,(#[z.ra,z.sa,z.pl]:MT))else y)=y;by_cases c:y.1=t
 .have:=Tb.bJ G I;rw[c,h]at this;rw[Sv c,rk this, <-c]
 .rw[Su c]
theorem cF.len {H:Hp}{m:MA}{bS pk:Int}{Z:Zs}(M:cF H m bS pk Z) {x:Int×MT}(G:x∈Z):x.2.pl.length<=64:=by
 have:=Tb.BD 64 0 (x.2.pl.map (·.1)) (M.np x G) λq J=>by
  let#[y,I,rfl]:=rn.mp J;have:=M.rg x G y I;omega
 rwa [nq]at this
theorem lR {m:MA}{Z:Zs}{t:Int}{z:MT}{pl:List (Int×Addr×Int)}{H:Hp}(L:Tb.look Z t=some z) (h:∀y∈pl,(∃G∈z.pl,y.2.1=G.2.1)\/H y.2.1=none):∀b,cA m (Tb.aW Z t #[z.ra,z.sa,pl]) b->cA m Z b\/H b=none:=by
 intro b w;have I:=Tb.az L;rcases w with w|w|w|⟨x,J,w⟩
 .show .inl (.inl w)
 .show .inl (.inr (.inl w))
 .show .inl (.inr (.inr (.inl w)))
 .rcases Tb.mem_set J with rfl|⟨J,_⟩
  .rcases w with w|w|⟨y,N,w⟩
   .show .inl (.inr (.inr (.inr #[_,I,.inl w])))
   .show .inl (.inr (.inr (.inr #[_,I,.inr (.inl w)])))
   .rcases h y N with⟨G,h1,h2⟩|h
    .show .inl (.inr (.inr (.inr #[_,I,.inr (.inr #[G,h1,w.trans h2])])))
    .rw[w];show .inr h
  .show .inl (.inr (.inr (.inr #[x,J,w])))
theorem dv {ad q:Int}{n:Nat}:q∈Rm.aq ad n↔∃j:Nat,j<n/\(ad+j)/8=q:=by
 unfold Rm.aq;by_cases e:((n:Nat):Int)=0
 .rw[Sv e];show#[(λh=>nomatch h),(λ⟨j,h,_⟩=>by omega)]
 .rw[Su e];unfold Rm.aM Rm.jm Rm.gW;rw[rn];constructor
  .rintro⟨k,G,rfl⟩;have G:=K5.mp G;show#[(8*(ad/8+k)-ad).toNat,ae,ae]
  .rintro⟨j,I,rfl⟩;show#[((ad+j)/8-ad/8).toNat,K5.mpr ae,ae]
theorem BW (G ls:Addr) (bS pk pk':Int):putK (oJ G ls bS pk) (D2 "pokes") (.int pk')=oJ G ls bS pk':=by
 unfold putK oJ;rw[Sv (by simp)];simp only[LQ,QW,Su Jx,Su JP,Su JF,if_true,decide_eq_true_eq]
theorem pB {pl G:List (Int×Addr×Int)}(h:(G.map λy=>(y.1,y.2.1))=pl.map λy=>(y.1,y.2.1)) (q:Int):Tb.look G q=none↔Tb.look pl q=none:=by
 have J:G.map (·.1)=pl.map (·.1):=by
  have:=congrArg (Sk (·.1)) h;rw[LO,LO]at this;show this
 have I:∀{l:List (Int×Addr×Int)},Tb.look l q=none↔¬ q∈l.map (·.1):=λ{l}=>#[Tb.cf,λh=>by
  cases e:Tb.look l q with
  |none=>rfl
  |some a=>show absurd (rn.mpr #[_,Tb.az e,rfl]) h]
 rw[I,I,J]
theorem ke {α G:Type}(g:α->G) (k:Int):∀l:List (Int×α),Tb.look (l.map λx=>(x.1,g x.2)) k=(Tb.look l k).map g
 | []=>rfl
 |x::l=>by
  rw[LQ,Tb.aO,Tb.aO,ke g k l];by_cases e:x.1=k
  .rw[Sv e,Sv e];rfl
  .rw[Su e,Su e]
theorem lH {α:Type}(f:α->V) (l:List (Int×α)) (o:Int) (a:α):Tb.dk f (l++[(o,a)])=Tb.dk f l++[(sS o,f a)]:=by
 unfold Tb.dk;rw[BY];rfl
theorem Gb {pl G:List (Int×Addr×Int)}(h:(G.map λy=>(y.1,y.2.2))=pl.map λy=>(y.1,y.2.2)):Tb.dk oS G=Tb.dk oS pl:=by
 have e:∀l:List (Int×Addr×Int),Tb.dk oS l=(l.map λy=>(y.1,y.2.2)).map λp=>((sS p.1:Key),V.int p.2):=λl=>by
  unfold Tb.dk;rw[LO];rfl
 rw[e,e,h]
noncomputable def oh (m:MA) (H:Hp) (Z:Zs) (H':Hp) (Z':Zs):Prop:=Off (cA m Z) H H'/\∀b,cA m Z' b->cA m Z b\/H b=none
noncomputable def eA (Z:Zs) (t q:Int):Option Addr:=(Tb.look Z t).bind λz=>(Tb.look z.pl q).map (·.1)
structure Ct (H:Hp) (Z:Zs) (cv:Int->Int->List Int):Prop where
 at_:∀t q a,eA Z t q=some a->H a=some (.lst ((cv t q).map V.int))
 inj:∀t q t' q' a,eA Z t q=some a->eA Z t' q'=some a->t=t'/\q=q'
section
variable {H H':Hp}{Z Z':Zs}{cv cv':Int->Int->List Int}{t:Int}{z z':MT}
theorem qe (h:Tb.look Z t=none) (t' q:Int):eA (Z++[(t,z)]) t' q=if t'=t then(Tb.look z.pl q).map (·.1)else eA Z t' q:=by
 unfold eA;rw[Tb.bu t' h];split<;>rfl
theorem ER (t' q:Int):eA (Tb.bf Z t) t' q=if t'=t then none else eA Z t' q:=by
 unfold eA;rw[Tb.cn];split<;>rfl
theorem kC (h:Tb.look Z t=some z) (t' q:Int):eA (Tb.aW Z t z') t' q=if t'=t then(Tb.look z'.pl q).map (·.1)else eA Z t' q:=by
 unfold eA;rw[Tb.bK t' h];split<;>rfl
theorem xp (h:Tb.look Z t=some z) (q:Int):eA Z t q=(Tb.look z.pl q).map (·.1):=by unfold eA;rw[h];rfl
theorem Ct.keep (C:Ct H Z cv) (k:∀a xs,H a=some (.lst xs)->H' a=some (.lst xs)) (e:∀t q a,eA Z' t q=some a->eA Z t q=some a):Ct H' Z' cv :=
 #[λt q a h=>k _ _ (C.at_ t q a (e _ _ _ h)),λt q t' G a h h'=>C.inj _ _ _ _ _ (e _ _ _ h) (e _ _ _ h')]
theorem Ct.congr (C:Ct H Z cv) (e:∀t q a,eA Z t q=some a->cv t q=cv' t q):Ct H Z cv':=#[λt q a h=>by rw[<-e t q a h];show C.at_ t q a h,C.inj]
theorem Ct.new {I:Int}{l:Addr}{r:List Int}(C:Ct H Z cv) (t:Int) (e:∀t' q,eA Z' t' q=if t'=t/\q=I then some l else eA Z t' q) (O:H' l=some (.lst (r.map V.int))) (f:H l=none) (k:∀a xs,H a=some (.lst xs)->H' a=some (.lst xs)):Ct H' Z' (λt' q=>if t'=t/\q=I then r else cv t' q):=by
 have L:∀{t' q},eA Z t' q=some l->False:=λh=>(by have:=C.at_ _ _ _ h;rw[f]at this;cases this);show#[λt' q a h=>?_,λt' q J N a h h2=>?_]
 .rw[e]at h;by_cases c:t'=t/\q=I
  .rw[Sv c]at h ⊢;cases h;show O
  .rw[Su c]at h;rw[Su c];show k _ _ (C.at_ _ _ _ h)
 .rw[e]at h h2;by_cases c:t'=t/\q=I
  .rw[Sv c]at h;cases h;by_cases G:J=t/\N=I
   .show#[c.1.trans G.1.symm,c.2.trans G.2.symm]
   .rw[Su G]at h2;show(L h2).elim
  .rw[Su c]at h;by_cases G:J=t/\N=I
   .rw[Sv G]at h2;cases h2;show(L h).elim
   .rw[Su G]at h2;show C.inj _ _ _ _ _ h h2
theorem Ct.cell {G:Int}{l:Addr}{r:List Int}(C:Ct H Z cv) (I:eA Z t G=some l):Ct (upd H l (.lst (r.map V.int))) Z (λt' q=>if t'=t/\q=G then r else cv t' q):=by
 show#[λt' q a h=>?_,C.inj];by_cases c:t'=t/\q=G
 .rw[c.1,c.2,I]at h;cases h;rw[Sv c];show af
 .rw[Su c,ah (λz=>c (by rw[z]at h;show C.inj _ _ _ _ _ h I))];show C.at_ _ _ _ h
theorem Ct.IQ {o:Int}{d1 d2:Addr}{pl:List (Int×Addr×Int)}(C:Ct H Z cv) (U:Tb.look Z o=none) (h:∀u∈pl,H' u.2.1=some (.lst ((cv t u.1).map V.int))/\H u.2.1=none) (nd:(pl.map (·.2.1)).Nodup) (k:∀a xs,H a=some (.lst xs)->H' a=some (.lst xs)):Ct H' (Z++[(o,#[d1,d2,pl])]) (lW cv t o):=by
 have pg:∀{q a},(Tb.look pl q).map (·.1)=some a->∃u∈pl,u.1=q/\u.2.1=a:=λ{q a} e=>by
  let#[u,h1,h2]:=pq.mp e;show#[(q,u),Tb.az h1,rfl,h2]
 have S:∀{t' q a},eA Z t' q=some a->∀u∈pl,u.2.1=a->False:=λh1 u J e=>by
  have:=C.at_ _ _ _ h1;rw[<-e,(h u J).2]at this;cases this
 show#[λt' q a e=>?_,λt' q R q2 a e G=>?_]
 .rw[qe U]at e;unfold lW;by_cases c:t'=o
  .rw[Sv c]at e;let#[u,J,rfl,rfl]:=pg e;rw[Sv c];show(h u J).1
  .rw[Su c]at e;rw[Su c];show k _ _ (C.at_ _ _ _ e)
 .rw[qe U]at e G;by_cases c:t'=o
  .rw[Sv c]at e;let#[u,J,rfl,rfl]:=pg e;by_cases I:R=o
   .rw[Sv I]at G;let#[L,N,rfl,g]:=pg G;show#[c.trans I.symm,?_];let#[i,hi,O]:=LI J;let#[j,hj,Y]:=LI N;have:i=j:=by
     show Decidable.byContradiction λn=>nV nd i j (a:=u.2.1) (b:=L.2.1) ?_ ?_ n g.symm
     .rw[rz,ti hi,O];rfl
     .rw[rz,ti hj,Y];rfl
    subst this;rw[<-O, <-Y]
   .rw[Su I]at G;show(S G u J rfl).elim
  .rw[Su c]at e;by_cases I:R=o
   .rw[Sv I]at G;let#[L,N,_,g]:=pg G;show(S e L N g).elim
   .rw[Su I]at G;show C.inj _ _ _ _ _ e G
end
noncomputable def Dj (cv:Int->Int->List Int) (t p:Int) (i:Nat):Int->Int->List Int:=λt' q=>if t'=t/\p<=q/\q<p+(i:Int)then replicate 8 0 else cv t' q
theorem zk {cv:Int->Int->List Int}{t p:Int}:Dj cv t p 0=cv:=by
 funext t' q;unfold Dj;rw[Su ae]
theorem zI {cv:Int->Int->List Int}{t p:Int}{i:Nat}:Dj cv t p (i+1)=λt' q=>if t'=t/\q=p+(i:Int)then replicate 8 0 else Dj cv t p i t' q:=by
 funext t' q;unfold Dj;by_cases c:t'=t/\q=p+(i:Int)
 .rw[Sv c,Sv ae]
 .rw[Su c];by_cases G:t'=t/\p<=q/\q<p+(i:Int)
  .rw[Sv G,Sv ae]
  .rw[Su G,Su ae]
theorem Cr {cv:Int->Int->List Int}{t p G:Int}:Dj cv t p (p+G-p).toNat=gM cv t (Rm.aM p G):=by
 funext t' q;unfold Dj gM Rm.aM;have:(q∈(KD G.toNat).map λk:Nat=>p+(k:Int))↔(p<=q/\q<p+((p+G-p).toNat:Int)):=by
  rw[rn];constructor
  .rintro⟨j,I,rfl⟩;have:=K5.mp I;omega
  .intro h;show#[(q-p).toNat,K5.mpr ae,ae]
 by_cases c:t'=t/\p<=q/\q<p+((p+G-p).toNat:Int)
 .rw[Sv c,Sv #[c.1,this.mpr c.2]]
 .rw[Su c,Su (λh=>c #[h.1,this.mp h.2])]
theorem yF {r cs:List Int}{ad q:Int}(h:r.length=8) (n:¬ q∈Rm.aq ad cs.length):jq r ad cs q=r:=by
 show Mv λo=>?_;by_cases G:o<8
 .rw[gG G,Su (λc=>n (dv.mpr #[(8*q+(o:Int)-ad).toNat,ae,ae])),Lg,ti ae];rfl
 .rw[Lk (by rw[gh];omega),Lk ae]
theorem jA:∀{xs ys:List Int},xs.map V.int=ys.map V.int->xs=ys
 | [],[],_=>rfl
 | [],_::_,h=>by cases h
 |_::_,[],h=>by cases h
 |x::xs,y::ys,h=>by
  injection h with h1 h2;injection h1 with h1;rw[h1,jA h2]
theorem Ct.EE {H:Hp}{m:MA}{bS pk:Int}{Z:Zs}{cv:Int->Int->List Int}{t q:Int}{a:Addr}(C:Ct H Z cv) (M:cF H m bS pk Z) (h:eA Z t q=some a):(cv t q).length=8:=by
 let#[z,h1,h2]:=Mp.mp h;let#[y,L,I]:=pq.mp h2;let#[ns,J,G]:=M.cl _ (Tb.az h1) _ (Tb.az L);have:=C.at_ t q a h;rw[<-I,J]at this;rw[<-jA (HO.lst.inj (rk this))];show G
noncomputable def DL (cv:Int->Int->List Int) (t ad:Int) (cs:List Int):Int->Int->List Int:=λt' q=>if t'=t then jq (cv t q) ad cs q else cv t' q
inductive mE (vs:List V) (H:Hp) (Q:VK) (e3:XK):Prop
 |mk (m:MA) (bS pk:Int) (Z:Zs) (d:Addr) (D:Dd) (_:vs=[.ref m.md,.ref d]) (_:cF H m bS pk Z) (_:0<=pk) (_:Z.length<=1000) (_:gQ H d D) (_:yN Z bS D) (_:(∀t ad c cs,D=.poke t ad c cs->¬ cA m Z c/\0<=ad/\ad<=1000/\cs.length<=100)) (_:(∀t ad n,D=.peek t ad n->0<=ad/\ad<=1000/\n<=100)) (_:∀(H':Hp) (pk':Int) (Z':Zs) (v:V),cF H' m bS pk' Z'->(0<=pk'/\∀cv,Ct H Z cv->Ct H' Z' (pL D cv)/\Hm D cv H H' v)->oh m H Z H' Z'->Z'.length<=Z.length+1->rW D (hZ Z) (hZ Z')->lj 0 (λv=>v≠0) D (eZ Z) (eZ Z')->Q v H'):mE vs H Q e3
section
variable {P:rr}{w:Bd}{K:iF}{mg:Str->Option Value}{base:Heap}
theorem lh:aC ["_law_model_here","_law_deed","_law_rooms","_law_stands","_law_name","_law_task","_law_page","_law_cells_here","_law_k","_law_cell","_law_at"] ["_law_model_here","_law_deed"] (aw zP):=L2.bD
theorem BM {f:Addr}{fd:qi}(F:cK K "_law_done" "_law_done" zP f fd) (T:kl mg):a8 P w K mg base aV 1 f fd ["_law_model_here","_law_deed"] mE:=by
 show F.dh lh (λfe A outer s H vs Q E hr h=>?_);let#[m,bS,pk,Z,d,D,rfl,M,p0,lz,hd,fi,eH,d6,k]:=h;have hs:=ub;show#[_,(ag (cV (b7 (aa (bh (a9 hr) (pv 0) aH bW) (aa (bh (a9 hr) (pv 0) aH bW) ai))) (dF rfl (bg (f9 2 lh.nd) (bg (f9 3 lh.nd) cQ))))
  (ag (cV (cW lF (pv 1) eX (cO aj)) (dF rfl (bg (f9 4 lh.nd) (bg (f9 5 lh.nd) cQ))))
  (ag (aS (aD bP (pv 4) aH (aI _)) (ak (cV (b7 (aa dr (aa dr ai))) (dF rfl (bg (dU (pv 2) (pv 5) (set_dict (a9 hr))) (bg (dU (pv 3) (pv 5) (set_dict (a9 hr))) cQ))))) (ak (aS (aD bP (pv 4) aH (aI _)) (ag (aL (eE (pv 2) (pv 5) #[1,1]))
  (ak (aL (eE (pv 3) (pv 5) #[1,1])))) (ak (aS (aD bP (pv 4) aH (aI _)) (ak (cG C1 rfl (fj (by rfl) T.range (aa (aP aN (pv 1) aj bW) (aa (aA bp (aP aN (pv 1) aj bW) (aP aN (pv 1) aj bW)) ai))) (f9 6 lh.nd) (ak (cV (b7 (aa (aA oo (cj (aa aj ai)) aj) (aa aj ai))) (dF rfl (bg (dU (bh (a9 hr) (pv 2) (pv 5) bW) (pv 6) (set_dict (a9 hr))) (bg (dU (bh (a9 hr) (pv 3) (pv 5) bW) (pv 6) (set_dict (a9 hr))) cQ))))))) (ak (aS (aD bP (pv 4) aH (aI _)) (ak (cG C1 rfl (fj (by rfl) T.range (aa (aP aN (pv 1) aj bW) (aa (aA bp (aP aN (pv 1) aj bW) (aP aN (pv 1) aj bW)) ai))) (f9 6 lh.nd) (ag (aL (eE (bh (a9 hr) (pv 2) (pv 5) bW) (pv 6) #[1,1]))
  (ak (aL (eE (bh (a9 hr) (pv 3) (pv 5) bW) (pv 6) #[1,1])))))) (ak (aS (aD bP (pv 4) aH (aI _)) (ag (cV (bH vZ (by rfl) T.dict rD (aa (bh (a9 hr) (pv 3) (pv 5) bW) ai)) (dU (pv 3) (aP aN (pv 1) aj bW) (set_dict (a9 hr))))
  (ag (cV dr (dU (pv 2) (aP aN (pv 1) aj bW) (set_dict (a9 hr))))
  (ak (iS (cG C1 rfl (nQ (bh (a9 hr) (pv 2) (pv 5) bW)) (dF rfl (bg (f9 6 lh.nd) (bg (f9 7 lh.nd) cQ))) (ak (cV (bH cR (by rfl) T.list dS (aa (pv 7) ai)) (dU (bh (a9 hr) (pv 2) (aP aN (pv 1) aj bW) bW) (pv 6) (set_dict (a9 hr)))))))))) (ak (aS (aD bP (pv 4) aH (aI _)) (ak (aE (gz (cl:=[("_law_task",s.heap.objs.size+2),("_law_rooms",s.heap.objs.size+1)]) (caps:=[("_law_rooms",2),("_law_task",5)]) #[rfl,ao,ao,rfl,by kernel_rfl,by intro p hp;simp only[wh,By,or_false]at hp;rcases hp with rfl|rfl<;>first|rfl|show#[rfl,.inl rfl,.inl rfl]|show#[rfl,.inl rfl,.inr rfl],by kernel_rfl,by intro p hp;simp only[wh,By,or_false]at hp;rcases hp with rfl|rfl<;>first|rfl|show#[rfl,.inl rfl,.inl rfl]|show#[rfl,.inl rfl,.inr rfl],ao] rfl (fj (by rfl) T.range (aa (aP aN (pv 1) aj bW) (aa (aA bp (aP aN (pv 1) aj bW) (aP aN (pv 1) aj bW)) ai))) (λ_ _ _ _=>fJ) (λ_ _ _ _=>(aP (show IA _ (Cz K)from cu) (bh (a9 hr) (bh (a9 hr) (pv 1) (pv 2) bW) (aA bt (pv 0) aj) bW) (aA bB (pv 0) aj) bW))))) (ak (cG C1 rfl (wL (by rfl) T.enumerate (aa (aP aN (pv 1) aj bW) ai)) (dF rfl (bg (f9 8 lh.nd) (bg (f9 9 lh.nd) cQ))) (ag (dn 10 lh.nd (aA bp (aP aN (pv 1) aj bW) (pv 8)))
  (ag (cV (pv 9) (dU (bh (a9 hr) (bh (a9 hr) (pv 2) (pv 5) bW) (aA bt (pv 10) aj) bW) (aA bB (pv 10) aj) set_list))
  (ak (aS (PW.pt (iy (aD bP (pv 8) aj (aI _)) (gA (aD bP (aA bB (pv 10) aj) aj (aI _))))) (ag (cV (aA bp (bh (a9 hr) (pv 0) aH bW) aj) (dU (pv 0) aH (set_dict (a9 hr))))
  (ak (cV (bh (a9 hr) (pv 0) aH bW) (dU (bh (a9 hr) (pv 3) (pv 5) bW) (aA bt (pv 10) aj) (set_dict (a9 hr)))))) aF)))))))))))))))))
  (ak (aE rA))))),?_]
 show share (λσ H1=>aZ H H1/\σ=[some (.ref m.md),some (.ref d),some (.ref m.lr),some (.ref m.ls),none,none,none,none,none,none,none]) (λu' as=>?A) ?B
 case A =>
  show#[0,m.md,.ref m.lr,rfl,M.g (yb _ _ _ _),0,m.md,.ref m.ls,rfl,M.g (IU _ _ _ _),d9,λtp bm=>?_];show#[tp,0,bL.of af,4,0,_,0,rfl,as _ _ #[Tb.au bm,rfl]]
 case B =>
 rintro σ H0 ⟨s0,rfl⟩;have cP:H0 d=some (.tup (pA D)):=s0 _ _ hd.1;show share (λσ H1=>aZ H H1/\σ=[some (.ref m.md),some (.ref d),some (.ref m.lr),some (.ref m.ls),some (.str (k9 D)),some (.int (DM D)),none,none,none,none,none]) (λu' as=>?A2) ?B2
 case A2 =>
  show#[0,0,d,0,bL.of cP,λc=>?_,λ_ p hp=>?_]
  .show#[d,0,bL.of cP,by rw[BB c];rfl,by rw[BB c];show#[_,0,_,0,rfl,as _ _ #[s0,rfl]]]
  .rw[Ea];show#[p,0,bL.of af,4,0,_,0,rfl,as _ _ #[s0.trans (Tb.au hp),rfl]]
 case B2 =>
 rintro σ H1 ⟨s1,rfl⟩;have M1:=M.same s1;have ap:H1 d=some (.tup (pA D)):=s1 _ _ hd.1;show share (λσ H2=>xZ λ(pk':Int) (Z':Zs)=>yP (cF H2 m bS pk' Z') (0<=pk'/\∀cv,Ct H Z cv->Ct H2 Z' (pL D cv)/\Hm D cv H H2 .non) (oh m H Z H2 Z') (Z'.length<=Z.length+1) (rW D (hZ Z) (hZ Z')) (lj 0 (λv=>v≠0) D (eZ Z) (eZ Z'))) (λu' as=>?A3) ?B3
 case B3 =>
  rintro σ H2 ⟨pk',Z',a1,a2,a3,a4,a5,a6⟩;show k H2 pk' Z' .non a1 a2 a3 a4 a5 a6
 case A3 =>
 show Jz ?_;dsimp only;have zo:∀{b},H b=none->H1 b=none->True:=λ_ _=>trivial;cases D with
 |begin t =>
  show FQ rfl rfl ?_;have fi:Tb.look Z t=none:=fi;intro I h1 J h2;have bb:J≠I:=λe=>(by rw[e,af]at h2;cases h2);have ey:H1 J=none:=(by rw[ah bb]at h2;show h2);have sA:=(Tb.au (X:=.dK []) h1).trans (Tb.au (X:=.dK []) h2);have e1:upd (upd H1 I (.dK [])) J (.dK []) I=some (.dK []):=(by rw[ah (qs bb),af]);have e2:upd (upd H1 I (.dK [])) J (.dK []) J=some (.dK []):=af;generalize upd (upd H1 I (.dK [])) J (.dK [])=H2 at *;show#[d9,λtp bm=>?_];have sB:=Tb.au (X:=.tup [.ref I,.ref J]) bm;show#[tp,0,bL.of af,4,0,?_];have M3:=(M1.same sA).same sB;have e1:=sB _ _ e1;have e2:=sB _ _ e2;have S3:=s1.trans (sA.trans sB);generalize upd H2 tp (.tup [.ref I,.ref J])=H3 at *;show#[0,0,m.lr,0,fA.k (k:=sS t) M3.hr (by rw[Tb.cg];omega),?_];rw[show(V.ref I)=ed #[I,J,[]]from rfl,Tb.cH (f:=ed) fi];show#[_,0,0,0,m.ls,0,fA.k (k:=sS t) (by rw[ah (qs M3.n3.2.2)];show M3.hs) (by rw[Tb.cg];omega),5];rw[show(V.ref J)=sg #[I,J,[]]from rfl,Tb.cH (f:=sg) fi];have oC:Off (λb=>b=m.lr\/b=m.ls) H3 (upd (upd H3 m.lr (.dK (Tb.dk ed (Z++[(t,#[I,J,[]])])))) m.ls (.dK (Tb.dk sg (Z++[(t,#[I,J,[]])])))):=λb o e w=>(by rw[ah (λy=>w (.inr y)),ah (λy=>w (.inl y))];show e);have b4:∀{b},H b=none->b≠m.lr/\b≠m.ls:=λh=>#[(λe=>by rw[e,M.hr]at h;cases h),(λe=>by rw[e,M.hs]at h;cases h)];have f1:H I=none:=s1.free h1;have f2:H J=none:=s1.free ey;have M4:cF (upd (upd H3 m.lr (.dK (Tb.dk ed (Z++[(t,#[I,J,[]])])))) m.ls (.dK (Tb.dk sg (Z++[(t,#[I,J,[]])])))) m bS pk (Z++[(t,#[I,J,[]])]):=
   M.add fi (λb o e w=>oC b o (S3 b o e) w) (by rw[ah M.n3.2.2,af]) af (oC _ _ e1 λw=>w.elim (b4 f1).1 (b4 f1).2) (oC _ _ e2 λw=>w.elim (b4 f2).1 (b4 f2).2) (λy G=>by cases G) Mc (λy G=>by cases G) f1 f2 (qs bb)
  show as _ _ #[pk,_,M4,#[p0,λcv C=>#[C.keep (λa xs e=>oC a _ (S3 a _ e) (λw=>by rcases w with w|w;rw[w,M.hr]at e;cases e;rw[w,M.hs]at e;cases e)) (λt' q a h=>by rw[qe fi]at h;by_cases c:t'=t;rw[Sv c]at h;cases h;rw[Su c]at h;show h),trivial]],#[λb o e w=>oC b o (S3 b o e) λy=>w (y.elim (λy=>.inr (.inl y)) λy=>.inr (.inr (.inl y))),λb w=>?_],by rw[vl];show qj _,λt'=>?_,λt' q=>?_]
  .rcases w with w|w|w|⟨x,hx,w⟩
   .show .inl (.inl w)
   .show .inl (.inr (.inl w))
   .show .inl (.inr (.inr (.inl w)))
   .rcases oR.mp hx with hx|hx
    .show .inl (.inr (.inr (.inr #[x,hx,w])))
    .rw[n7.mp hx]at w;rcases w with w|w|⟨y,G,_⟩
     .rw[w];show .inr f1
     .rw[w];show .inr f2
     .cases G
  .unfold hZ;rw[Tb.bu t' fi];by_cases c:t'=t
   .rw[Sv c,decide_eq_true c];rfl
   .rw[Su c,decide_eq_false c];rfl
  .unfold eZ;rw[Tb.bu t' fi];by_cases c:t'=t
   .rw[Sv c,Sv c];rfl
   .rw[Su c,Su c]
 |close t =>
  show oE rfl rfl bU (FQ rfl rfl ?_);let#[z,L]:=fi;show#[0,m.lr,rfl,.inl #[_,.inl M1.hr],0,_,sS t,ed z,M1.hr,rfl,by rw[Tb.cL,L];rfl,?_];rw[Tb.eK];show#[0,m.ls,rfl,.inl #[_,.inl (by rw[ah (qs M1.n3.2.2)];show M1.hs)],0,_,sS t,sg z,by rw[ah (qs M1.n3.2.2)];show M1.hs,rfl,by rw[Tb.cL,L];rfl,?_];rw[Tb.eK];have oC:Off (λb=>b=m.lr\/b=m.ls) H1 (upd (upd H1 m.lr (.dK (Tb.dk ed (Tb.bf Z t)))) m.ls (.dK (Tb.dk sg (Tb.bf Z t)))):=λb o e w=>(by rw[ah (λy=>w (.inr y)),ah (λy=>w (.inl y))];show e);have M4:=M1.del (t:=t) oC (by rw[ah M.n3.2.2,af]) af;show as _ _ #[pk,_,M4,#[p0,λcv C=>#[C.keep (λa xs e=>oC a _ (s1 a _ e) (λw=>by rcases w with w|w;rw[w,M.hr]at e;cases e;rw[w,M.hs]at e;cases e)) (λt' q a h=>by rw[ER]at h;by_cases c:t'=t;rw[Sv c]at h;cases h;rw[Su c]at h;show h),trivial]],#[λb o e w=>oC b o (s1 b o e) λy=>w (y.elim (λy=>.inr (.inl y)) λy=>.inr (.inr (.inl y))),λb w=>.inl ?_],KI (MG _ _) (N4 _),λt'=>?_,λt' q=>?_]
  .rcases w with w|w|w|⟨x,hx,w⟩
   .show .inl w
   .show .inr (.inl w)
   .show .inr (.inr (.inl w))
   .show .inr (.inr (.inr #[x,(Tb.b9 hx).1,w]))
  .unfold hZ;rw[Tb.cn];by_cases c:t'=t
   .rw[Sv c,decide_eq_false (λy=>y c)];rfl
   .rw[Su c,decide_eq_true c];rfl
  .unfold eZ;rw[Tb.cn];by_cases c:t'=t
   .rw[Sv c,Sv c];rfl
   .rw[Su c,Su c]
 |map t p mm =>
  show oE rfl rfl bU (oE rfl rfl bU ?_);show FQ rfl rfl ?_;let#[z,L,bc,d5,_]:=fi;have U:=Tb.az L;have b1:¬ mm<1:=λw=>bc (.inl w);have b2:¬ p<0:=λw=>bc (.inr (.inl w));have b3:¬ 64<p+mm:=λw=>bc (.inr (.inr w));show#[0,d,2,.int p,1,bL.of ap,rfl,0,d,2,.int p,1,bL.of ap,rfl,0,d,2,.int mm,1,bL.of ap,4,0,4,0,#[ae,ae,ae,ae],?_];show gq (lo:=p) (n:=(p+mm-p).toNat) (λi σ H2=>xZ λ(v6:Option V) (pl:List (Int×Addr×Int))=>yP (σ=[some (.ref m.md),some (.ref d),some (.ref m.lr),some (.ref m.ls),some (.str "map"),some (.int t),v6,none,none,none,none]) (cF H2 m bS pk (Tb.aW Z t #[z.ra,z.sa,pl])) ((∀q,(Tb.look pl q).map (·.2)=if p<=q/\q<p+(i:Int)then some 0 else(Tb.look z.pl q).map (·.2))) ((∀y∈pl,y∈z.pl\/H y.2.1=none)) (Off (cA m Z) H H2) ((∀b,H2 b=none->H b=none)/\∀cv,Ct H Z cv->Ct H2 (Tb.aW Z t #[z.ra,z.sa,pl]) (Dj cv t p i))) #[_,z.pl,rfl,by rw[xM M.nd L];show M1,λq=>by rw[Su ae],λy G=>.inl G,λb o e _=>s1 b o e,λb e=>s1.free e,λcv C=>by rw[zk,xM M.nd L];show C.keep (λa xs e=>s1 _ _ e) λ_ _ _ h=>h] ?_ ?_
  .rintro i σ H2 hi ⟨v6,pl,rfl,M2,ac,ba,o2,bn,N⟩;have am:=y0 (y:=(#[z.ra,z.sa,pl]:MT)) L;have O:=Tb.az am;have cx:p+(i:Int)∈Rm.aM p mm:=by
    unfold Rm.aM;show rn.mpr #[i,K5.mpr ae,rfl]
   have bz:Tb.look pl (p+(i:Int))=none:=by
    have:=ac (p+(i:Int));rw[Su ae,d5 _ cx]at this;show NA.mp this
   have cz:=M2.len O;show#[av,λl1 cS=>?_];show#[l1,(8),0,rfl,af,ae,ae,by rw[Lu];omega,λl2 bi=>?_];have sA:=(Tb.au (X:=.lst [V.int 0]) cS).trans (Tb.au (X:=.lst ((replicate (8:Int).toNat [V.int 0]).flatten)) bi);have f2:H2 l2=none:=(Tb.au (X:=.lst [V.int 0]) cS).free bi;have e2:upd (upd H2 l1 (.lst [V.int 0])) l2 (.lst ((replicate (8:Int).toNat [V.int 0]).flatten)) l2=some (.lst ((replicate 8 (0:Int)).map V.int)):=af;generalize upd (upd H2 l1 (.lst [V.int 0])) l2 (.lst ((replicate (8:Int).toNat [V.int 0]).flatten))=H3 at *;show#[d9,λtp bm=>?_];have sB:=Tb.au (X:=.tup [.ref l2,.int 0]) bm;show#[tp,0,bL.of af,4,0,?_];have M4:=(M2.same sA).same sB;have S4:=sA.trans sB;have e4:=sB _ _ e2;generalize upd H3 tp (.tup [.ref l2,.int 0])=H4 at *;show#[0,0,m.lr,0,eh M4.hr am,0,z.ra,0,fA.k (k:=sS (p+(i:Int))) (M4.rm _ O) (by rw[Tb.cg];have:pl.length<=64:=cz;change pl.length<_;omega),?_];have e5:putK (Tb.dk dJ pl) (sS (p+(i:Int))) (.ref l2)=Tb.dk dJ (pl++[(p+(i:Int),(l2,0))]):=Tb.cH (f:=dJ) (a:=(l2,0)) bz;have e6:putK (Tb.dk oS pl) (sS (p+(i:Int))) (.int 0)=Tb.dk oS (pl++[(p+(i:Int),(l2,0))]):=Tb.cH (f:=oS) (a:=(l2,0)) bz;have dz:=M.d3 _ U;have aB:=M.rs _ U _ U;change Aw _ _ _ _ (upd H4 z.ra (.dK (putK (Tb.dk dJ pl) (sS (p+(i:Int))) (.ref l2)))) _;rw[e5];have o5:Off (· = z.ra) H4 (upd H4 z.ra (.dK (Tb.dk dJ (pl++[(p+(i:Int),(l2,0))])))):=Off.wr rfl;show#[_,0,0,0,m.ls,0,eh (o5 _ _ M4.hs (qs dz.2.2.1)) am,0,z.sa,0,fA.k (k:=sS (p+(i:Int))) (o5 _ _ (M4.st _ O) (qs aB)) (by rw[Tb.cg];have:pl.length<=64:=cz;change pl.length<_;omega),5];have o6:Off (λb=>b=m.md\/b=z.ra\/b=z.sa) H4 (upd (upd H4 z.ra (.dK (Tb.dk dJ (pl++[(p+(i:Int),(l2,0))])))) z.sa (.dK (putK (Tb.dk oS pl) (sS (p+(i:Int))) (.int 0)))):=λb o e w=>(by rw[ah (λy=>w (.inr (.inr y))),ah (λy=>w (.inr (.inl y)))];show e);have M7:=M4.E2 (pk':=pk) (pl:=pl++[(p+(i:Int),(l2,0))]) am o6 (by rw[ah (qs dz.2.2.2.1),ah (qs dz.1)];show M4.hm) (by change upd _ z.sa _ z.ra=_;rw[ah aB,af]) (by change upd _ z.sa _ z.sa=_;rw[af,e6]) (λy G=>by
     rcases oR.mp G with G|G
     .let#[ns,Y,N]:=M4.cl _ O y G;show#[ns,o6 _ _ Y (λw=>by
       rcases w with w|w|w
       .rw[w,M4.hm]at Y;cases Y
       .rw[w,M4.rm _ O]at Y;cases Y
       .rw[w,M4.st _ O]at Y;cases Y),N]
     .rw[n7.mp G];show#[replicate 8 0,o6 _ _ e4 (λw=>by
       have w:l2=m.md\/l2=z.ra\/l2=z.sa:=w;rcases w with w|w|w
       .rw[w,M4.hm]at e4;cases e4
       .rw[w,M4.rm _ O]at e4;cases e4
       .rw[w,M4.st _ O]at e4;cases e4),by simp]) (by rw[BY];show fN (M2.np _ O) (Tb.cf bz)) (λy G=>by
     rcases oR.mp G with G|G
     .show M2.rg _ O y G
     .rw[n7.mp G];change 0<=p+(i:Int)/\p+(i:Int)<64;omega)
   rw[Bg]at M7;show#[_,pl++[(p+(i:Int),(l2,0))],rfl,M7,λq=>?_,λy G=>?_,λb o e w=>o6 b o (S4 b o (o2 b o e w)) λy=>w ?_,λb e=>bn b (S4.free (cB (cB e).2).2),λcv C=>?_]
   .rw[Tb.bu q bz];by_cases c:q=p+(i:Int)
    .rw[Sv c,Sv (by rw[c];omega)];rfl
    .rw[Su c,ac q];by_cases N:p<=q/\q<p+(i:Int)
     .rw[Sv N,Sv ae]
     .rw[Su N,Su ae]
   .rcases oR.mp G with G|G
    .show ba y G
    .rw[n7.mp G];show .inr (bn l2 f2)
   .rcases y with y|y|y
    .show .inl y
    .show .inr (.inr (.inr #[_,U,.inl y]))
    .show .inr (.inr (.inr #[_,U,.inr (.inl y)]))
   .rw[zI];show(N cv C).new t (λt' q=>?_) (o6 _ _ e4 (λw=>by
     rcases w with w|w|w
     .rw[w,M4.hm]at e4;cases e4
     .rw[w,M4.rm _ O]at e4;cases e4
     .rw[w,M4.st _ O]at e4;cases e4)) f2 (λa xs e=>by
     have e:=S4 _ _ e;show o6 a _ e (λw=>?_);rcases w with w|w|w
     .rw[w,M4.hm]at e;cases e
     .rw[w,M4.rm _ O]at e;cases e
     .rw[w,M4.st _ O]at e;cases e)
    rw[kC L,kC L];by_cases c:t'=t
    .rw[Sv c,Sv c];change(Tb.look (pl++[(p+(i:Int),(l2,0))]) q).map (·.1)=_;rw[Tb.bu q bz];by_cases c3:q=p+(i:Int)
     .rw[Sv c3,Sv #[c,c3]];rfl
     .rw[Su c3,Su (λh=>c3 h.2)]
    .rw[Su c,Su c,Su (λh=>c h.1)]
  .rintro σ H2 ⟨v6,pl,rfl,M2,ac,ba,o2,bn,N⟩;show as _ _ #[pk,_,M2,#[p0,λcv C=>#[by rw[show pL (.map t p mm) cv=Dj cv t p (p+mm-p).toNat from Cr.symm];show N cv C,trivial]],#[o2,lR L λy G=>(ba y G).imp (λh=>#[y,h,rfl]) id],by rw[Tb.fP];omega,vb L,λt' q=>?_];rw[vo L];have bl:q∈Rm.aM p mm↔(p<=q/\q<p+((p+mm-p).toNat:Int)):=by
    unfold Rm.aM;rw[rn];constructor
    .rintro⟨j,hj,rfl⟩;have:=K5.mp hj;omega
    .intro h;show#[(q-p).toNat,K5.mpr ae,ae]
   by_cases c:t'=t
   .rw[Sv c,ac q];by_cases N:q∈Rm.aM p mm
    .rw[Sv (bl.mp N),Sv #[c,N]]
    .rw[Su (λh=>N (bl.mpr h)),Su (λh=>N h.2),c,tS L]
   .rw[Su c,Su (λh=>c h.1)]
 |drop t p mm =>
  show oE rfl rfl bU (oE rfl rfl bU ?_);show oE rfl rfl bU (FQ rfl rfl ?_);let#[z,L,bc,dM]:=fi;have U:=Tb.az L;have b1:¬ mm<1:=λw=>bc (.inl w);have b2:¬ p<0:=λw=>bc (.inr (.inl w));have b3:¬ 64<p+mm:=λw=>bc (.inr (.inr w));show#[0,d,2,.int p,1,bL.of ap,rfl,0,d,2,.int p,1,bL.of ap,rfl,0,d,2,.int mm,1,bL.of ap,4,0,4,0,#[ae,ae,ae,ae],?_];show gq (lo:=p) (n:=(p+mm-p).toNat) (λi σ H2=>xZ λ(v6:Option V) (pl:List (Int×Addr×Int))=>yP (σ=[some (.ref m.md),some (.ref d),some (.ref m.lr),some (.ref m.ls),some (.str "drop"),some (.int t),v6,none,none,none,none]) (cF H2 m bS pk (Tb.aW Z t #[z.ra,z.sa,pl])) ((∀q,(Tb.look pl q).map (·.2)=if p<=q/\q<p+(i:Int)then none else(Tb.look z.pl q).map (·.2))) ((∀y∈pl,y∈z.pl\/H y.2.1=none)) (Off (cA m Z) H H2) (∀cv,Ct H Z cv->Ct H2 (Tb.aW Z t #[z.ra,z.sa,pl]) cv)) #[_,z.pl,rfl,by rw[xM M.nd L];show M1,λq=>by rw[Su ae],λy G=>.inl G,λb o e _=>s1 b o e,λcv C=>by rw[xM M.nd L];show C.keep (λa xs e=>s1 _ _ e) λ_ _ _ h=>h] ?_ ?_
  .rintro i σ H2 hi ⟨v6,pl,rfl,M2,ac,ba,o2,N⟩;have am:=y0 (y:=(#[z.ra,z.sa,pl]:MT)) L;have O:=Tb.az am;have cx:p+(i:Int)∈Rm.aM p mm:=by
    unfold Rm.aM;show rn.mpr #[i,K5.mpr ae,rfl]
   obtain⟨y,G⟩:∃y,Tb.look pl (p+(i:Int))=some y:=by
    have h1:=ac (p+(i:Int));rw[Su ae]at h1;cases e:Tb.look pl (p+(i:Int))with
    |some y=>show#[y,rfl]
    |none =>
     rw[e]at h1;show absurd (NA.mp h1.symm) (dM _ cx)
   have dz:=M.d3 _ U;have aB:=M.rs _ U _ U;show#[0,0,m.lr,0,eh M2.hr am,z.ra,rfl,.inl #[_,.inl (M2.rm _ O)],0,_,sS (p+(i:Int)),dJ y,M2.rm _ O,rfl,by rw[Tb.cL,G];rfl,?_];rw[Tb.eK];have o5:Off (· = z.ra) H2 (upd H2 z.ra (.dK (Tb.dk dJ (Tb.bf pl (p+(i:Int)))))):=Off.wr rfl;have h5:=o5 _ _ (M2.st _ O) (qs aB);show#[0,0,m.ls,0,eh (o5 _ _ M2.hs (qs dz.2.2.1)) am,z.sa,rfl,.inl #[_,.inl h5],0,_,sS (p+(i:Int)),oS y,h5,rfl,by rw[Tb.cL,G];rfl,?_];rw[Tb.eK];have o6:Off (λb=>b=m.md\/b=z.ra\/b=z.sa) H2 (upd (upd H2 z.ra (.dK (Tb.dk dJ (Tb.bf pl (p+(i:Int)))))) z.sa (.dK (Tb.dk oS (Tb.bf pl (p+(i:Int)))))):=λb o e w=>(by rw[ah (λy=>w (.inr (.inr y))),ah (λy=>w (.inr (.inl y)))];show e);have M7:=M2.E2 (pk':=pk) (pl:=Tb.bf pl (p+(i:Int))) am o6 (by rw[ah (qs dz.2.2.2.1),ah (qs dz.1)];show M2.hm) (by change upd _ z.sa _ z.ra=_;rw[ah aB,af]) (by change upd _ z.sa _ z.sa=_;rw[af]) (λy G=>by
     let#[ns,Y,N]:=M2.cl _ O y (Tb.b9 G).1;show#[ns,o6 _ _ Y (λw=>by
       rcases w with w|w|w
       .rw[w,M2.hm]at Y;cases Y
       .rw[w,M2.rm _ O]at Y;cases Y
       .rw[w,M2.st _ O]at Y;cases Y),N]) (Tb.mL (M2.np _ O)) (λy G=>M2.rg _ O y (Tb.b9 G).1)
   rw[Bg]at M7;show#[_,Tb.bf pl (p+(i:Int)),rfl,M7,λq=>?_,λy G=>ba y (Tb.b9 G).1,λb o e w=>o6 b o (o2 b o e w) λy=>w ?_,λcv C=>(N cv C).keep (λa xs e=>?_) λt' q' a h=>?_]
   .rw[Tb.cn];by_cases c:q=p+(i:Int)
    .rw[Sv c,Sv (by rw[c];omega)];rfl
    .rw[Su c,ac q];by_cases N:p<=q/\q<p+(i:Int)
     .rw[Sv N,Sv ae]
     .rw[Su N,Su ae]
   .rcases y with y|y|y
    .show .inl y
    .show .inr (.inr (.inr #[_,U,.inl y]))
    .show .inr (.inr (.inr #[_,U,.inr (.inl y)]))
   .show o6 a _ e (λw=>?_);rcases w with w|w|w
    .rw[w,M2.hm]at e;cases e
    .rw[w,M2.rm _ O]at e;cases e
    .rw[w,M2.st _ O]at e;cases e
   .rw[kC L]at h ⊢;by_cases c:t'=t
    .rw[Sv c]at h ⊢;have h:(Tb.look (Tb.bf pl (p+(i:Int))) q').map (·.1)=some a:=h;rw[Tb.cn]at h;by_cases c3:q'=p+(i:Int)
     .rw[Sv c3]at h;cases h
     .rw[Su c3]at h;show h
    .rw[Su c]at h ⊢;show h
  .rintro σ H2 ⟨v6,pl,rfl,M2,ac,ba,o2,bn⟩;show as _ _ #[pk,_,M2,#[p0,λcv C=>#[bn cv C,trivial]],#[o2,lR L λy G=>(ba y G).imp (λh=>#[y,h,rfl]) id],by rw[Tb.fP];omega,vb L,λt' q=>?_];rw[vo L];have bl:q∈Rm.aM p mm↔(p<=q/\q<p+((p+mm-p).toNat:Int)):=by
    unfold Rm.aM;rw[rn];constructor
    .rintro⟨j,hj,rfl⟩;have:=K5.mp hj;omega
    .intro h;show#[(q-p).toNat,K5.mpr ae,ae]
   by_cases c:t'=t
   .rw[Sv c,ac q];by_cases N:q∈Rm.aM p mm
    .rw[Sv (bl.mp N),Sv #[c,N]]
    .rw[Su (λh=>N (bl.mpr h)),Su (λh=>N h.2),c,tS L]
   .rw[Su c,Su (λh=>c h.1)]
 |copy t o =>
  show oE rfl rfl bU (oE rfl rfl bU ?_);show oE rfl rfl bU (oE rfl rfl bU ?_);show FQ rfl rfl ?_;let#[z,L,eo,_]:=fi;have U:=Tb.az L;have dz:=M.d3 _ U;have aB:=M.rs _ U _ U;have dO:t≠o:=λe=>(by rw[e,eo]at L;cases L);show#[0,0,m.ls,0,eh M1.hs L,z.sa,0,M1.st _ U,λJ h2=>?_];have f2:H J=none:=s1.free h2;have sA:=Tb.au (X:=.dK (Tb.dk oS z.pl)) h2;have e2:upd H1 J (.dK (Tb.dk oS z.pl)) J=some (.dK (Tb.dk oS z.pl)):=af;have M2:=M1.same sA;have S2:=s1.trans sA;have eP:=sA _ _ ap;generalize upd H1 J (.dK (Tb.dk oS z.pl))=H2 at *;show#[0,0,d,2,.int o,1,bL.of eP,rfl,m.ls,0,fA.k (k:=sS o) M2.hs (by rw[Tb.cg];omega),?_];rw[show(V.ref J)=sg #[J,J,[]]from rfl,Tb.cH (f:=sg) eo,lH];change jz _ _ _ _ (upd H2 m.ls (.dK (Tb.dk sg Z++[(sS o,V.ref J)])));have o3:Off (· = m.ls) H2 (upd H2 m.ls (.dK (Tb.dk sg Z++[(sS o,V.ref J)]))):=Off.wr rfl;have dp:upd H2 m.ls (.dK (Tb.dk sg Z++[(sS o,V.ref J)])) m.ls=some (.dK (Tb.dk sg Z++[(sS o,V.ref J)])):=af;generalize upd H2 m.ls (.dK (Tb.dk sg Z++[(sS o,V.ref J)]))=H3 at *;have dL:J≠m.ls:=λe=>(by rw[e,M.hs]at f2;cases f2);have d8:J≠m.lr:=λe=>(by rw[e,M.hr]at f2;cases f2);have ec:∀{b kvs},H b=some (.dK kvs)->b≠m.ls->H3 b=some (.dK kvs):=λe n=>o3 _ _ (S2 _ _ e) n;have eN:∀{b xs},H b=some (.tup xs)->H3 b=some (.tup xs):=λe=>o3 _ _ (S2 _ _ e) (λw=>by rw[w,M.hs]at e;cases e);have fl:∀{b xs},H b=some (.lst xs)->H3 b=some (.lst xs):=λe=>o3 _ _ (S2 _ _ e) (λw=>by rw[w,M.hs]at e;cases e);intro I h1;have f1:H I=none:=by
   cases e:H I with
   |none=>rfl
   |some u =>
    by_cases w:I=m.ls
    .rw[w,dp]at h1;cases h1
    .rw[o3 _ _ (S2 _ _ e) w]at h1;cases h1
  have bb:I≠J:=λe=>(by rw[e,o3 _ _ e2 dL]at h1;cases h1);have bY:I≠m.lr:=λe=>(by rw[e,M.hr]at f1;cases f1);have db:I≠m.ls:=λe=>(by rw[e,M.hs]at f1;cases f1);have ee:upd H3 I (.dK []) m.lr=some (.dK (Tb.dk ed Z)):=(by rw[ah (qs bY)];show ec M.hr M.n3.2.2);show#[0,0,d,2,.int o,1,bL.of (Tb.au h1 _ _ (eN hd.1)),rfl,m.lr,0,fA.k (k:=sS o) ee (by rw[Tb.cg];omega),?_];rw[show(V.ref I)=ed #[I,J,[]]from rfl,Tb.cH (f:=ed) eo];have o5:Off (λb=>b=m.lr\/b=m.ls) H (upd (upd H3 I (.dK [])) m.lr (.dK (Tb.dk ed (Z++[(o,#[I,J,[]])])))):=λb u e w=>by
   rw[ah (λy=>w (.inl y)),ah (ar e f1)];show o3 _ _ (S2 _ _ e) λy=>w (.inr y)
  have c5:upd (upd H3 I (.dK [])) m.lr (.dK (Tb.dk ed (Z++[(o,#[I,J,[]])]))) m.lr=some (.dK (Tb.dk ed (Z++[(o,#[I,J,[]])]))):=af;have eg:upd (upd H3 I (.dK [])) m.lr (.dK (Tb.dk ed (Z++[(o,#[I,J,[]])]))) m.ls=some (.dK (Tb.dk sg Z++[(sS o,V.ref J)])):=(by rw[ah (qs M.n3.2.2),ah (qs db)];show dp);have ea:upd (upd H3 I (.dK [])) m.lr (.dK (Tb.dk ed (Z++[(o,#[I,J,[]])]))) I=some (.dK []):=(by rw[ah bY,af]);have fa:upd (upd H3 I (.dK [])) m.lr (.dK (Tb.dk ed (Z++[(o,#[I,J,[]])]))) J=some (.dK (Tb.dk oS z.pl)):=(by rw[ah d8,ah (qs bb)];show o3 _ _ e2 dL);generalize upd (upd H3 I (.dK [])) m.lr (.dK (Tb.dk ed (Z++[(o,#[I,J,[]])])))=H5 at *;have bx:∀{b},b≠m.lr->b≠m.ls->¬ (b=m.lr\/b=m.ls):=λa b w=>w.elim a b;have hn:∀(ob:Obj) u',H z.ra≠some (.bO ob u'):=λob u' w=>(by rw[M.rm _ U]at w;cases w);have d4:Tb.look (Z++[(o,(#[I,J,[]]:MT))]) t=some z:=(by rw[Tb.bu t eo,Su dO];show L);have ev:Tb.look (Z++[(o,(#[I,J,[]]:MT))]) o=some #[I,J,[]]:=(by rw[Tb.bu o eo,Sv rfl]);have eC:=o5 _ _ (M.rm _ U) (bx dz.2.1 dz.2.2.1);show#[0,0,m.lr,0,eh c5 d4,z.ra,0,eC,hn,λob=>?_];have bE:I≠z.ra:=λe=>(by rw[e,M.rm _ U]at f1;cases f1);have cT:J≠z.ra:=λe=>(by rw[e,M.rm _ U]at f2;cases f2);have oF:Off (· = z.ra) H5 (upd H5 z.ra (.bO ob (.dK (Tb.dk dJ z.pl)))):=Off.wr rfl;have hF:upd H5 z.ra (.bO ob (.dK (Tb.dk dJ z.pl))) z.ra=some (.bO ob (.dK (Tb.dk dJ z.pl))):=af;have bF:=oF _ _ ea bE;have eb:=oF _ _ fa cT;have b0:=oF _ _ c5 (qs dz.2.1);have dd:=oF _ _ eg (qs dz.2.2.1);have ci:=oF _ _ (o5 _ _ hd.1 (bx (λw=>by have:=hd.1;rw[w,M.hr]at this;cases this) (λw=>by have:=hd.1;rw[w,M.hs]at this;cases this))) (λw=>by have:=hd.1;rw[w,M.rm _ U]at this;cases this);have dl:∀{b},upd H5 z.ra (.bO ob (.dK (Tb.dk dJ z.pl))) b=none->H b=none:=λ{b} e=>by
   cases e2:H b with
   |none=>rfl
   |some u =>
    exfalso;by_cases w1:b=z.ra
    .rw[w1,hF]at e;cases e
    .by_cases w2:b=m.lr
     .rw[w2,b0]at e;cases e
     .by_cases w3:b=m.ls
      .rw[w3,dd]at e;cases e
      .rw[oF _ _ (o5 _ _ e2 (bx w2 w3)) w1]at e;cases e
  have ek:∀y∈z.pl,∃ns:List Int,upd H5 z.ra (.bO ob (.dK (Tb.dk dJ z.pl))) y.2.1=some (.lst (ns.map V.int))/\ns.length=8:=λy G=>by
   let#[ns,Y,N]:=M.cl _ U y G;show#[ns,oF _ _ (o5 _ _ Y (bx (λw=>by rw[w,M.hr]at Y;cases Y) (λw=>by rw[w,M.hs]at Y;cases Y))) (λw=>by rw[w,M.rm _ U]at Y;cases Y),N]
  have OF:∀b u,H b=some u->b≠m.lr->b≠m.ls->b≠z.ra->upd H5 z.ra (.bO ob (.dK (Tb.dk dJ z.pl))) b=some u:=λb u e a1 a2 a3=>oF _ _ (o5 _ _ e (bx a1 a2)) a3;generalize upd H5 z.ra (.bO ob (.dK (Tb.dk dJ z.pl)))=HF at *;have bq:(z.pl.map (·.1)).Nodup:=M.np _ U;show kN (a:=z.ra) (o:=ob) (kvs:=Tb.dk dJ z.pl) (λi σ H6=>Hv λ(v6 v7:Option V) (pl:List (Int×Addr×Int))=>Fc (σ=[some (.ref m.md),some (.ref d),some (.ref m.lr),some (.ref m.ls),some (.str "copy"),some (.int t),v6,v7,none,none,none]) (H6 I=some (.dK (Tb.dk dJ pl))) ((pl.map λy=>(y.1,y.2.2))=((z.pl.take i).map λy=>(y.1,y.2.2))) ((∀y∈pl,(∃ns:List Int,H6 y.2.1=some (.lst (ns.map V.int))/\ns.length=8)/\HF y.2.1=none)) (Off (· = I) HF H6/\(pl.map (·.2.1)).Nodup/\∀cv,Ct H Z cv->∀u∈pl,H6 u.2.1=some (.lst ((cv t u.1).map V.int))))
   #[2,[],rfl,bF,rfl,(λy G=>by cases G),λ_ _ e _=>e,Mc,λcv C u S=>by cases S] (λi σ H6 _ z0=>by let#[_,_,_,_,_,_,_,o6]:=z0;show o6.1 _ _ hF (qs bE)) ?_ ?_
  .rintro i kk v σ H6 T' hk hT ⟨v6,v7,pl,rfl,b5,aT,be,o6,ca,ch⟩;have dI:(z.pl.map λx:Int×Addr×Int=>((sS x.1:Key),dJ x.2))[i]?=some (kk,v):=hk;rw[rz]at dI;let#[y,G,e]:=pq.mp dI;cases e;have cC:=ua G;let#[hi,fk]:=kz.mp G;have cz:z.pl.length<=64:=M.len U;have fn:pl.length=i:=by
    have:=congrArg QM aT;rw[nq,nq,DD]at this;omega
   have el:Tb.look pl y.1=none:=by
    cases e:Tb.look pl y.1 with
    |none=>rfl
    |some u =>
     exfalso;have h1:(y.1,u.2)∈pl.map λy=>(y.1,y.2.2):=rn.mpr #[_,Tb.az e,rfl];rw[aT]at h1;let#[y',h2,h3]:=rn.mp h1;let#[j,hj,e3]:=LI h2;rw[Nx]at e3;rw[DD]at hj;show nV bq j i (a:=y'.1) (b:=y.1) ?_ ?_ ae (OA h3).1
     .rw[rz,ti ae,e3];rfl
     .rw[rz,G];rfl
   let#[ns,Y,N]:=ek y cC;have e9:y.2.1≠I:=λw=>(by rw[w,bF]at Y;cases Y);have sT:=Tb.au (X:=.tup [kV (sS y.1),dJ y.2]) hT;show#[T',[.int y.1,.ref y.2.1],rfl,bL.of af,4,0,_,0,5];have c7:=sT _ _ (o6 _ _ Y e9);have bI:=sT _ _ b5;have e0:=sT _ _ (o6 _ _ b0 (qs bY));have em:=sT _ _ (o6 _ _ ci (λw=>by rw[w,bF]at ci;cases ci));have O7:Off (· = I) HF (upd H6 T' (.tup [kV (sS y.1),dJ y.2])):=λb u e w=>sT _ _ (o6 _ _ e w);have C7:∀u∈pl,(∃ns:List Int,upd H6 T' (.tup [kV (sS y.1),dJ y.2]) u.2.1=some (.lst (ns.map V.int))/\ns.length=8)/\HF u.2.1=none:=λu S=>by
    let#[#[a7,a1,a2],a3]:=be u S;show#[#[a7,sT _ _ a1,a2],a3]
   have dT:∀cv,Ct H Z cv->(∀u∈pl,upd H6 T' (.tup [kV (sS y.1),dJ y.2]) u.2.1=some (.lst ((cv t u.1).map V.int)))/\ns.map V.int=(cv t y.1).map V.int:=λcv C=>by
    show#[λu S=>sT _ _ (ch cv C u S),?_];have e:=C.at_ t y.1 y.2.1 (by rw[xp L,Tb.bJ bq cC];rfl);have e2:=OF _ _ e (λw=>by rw[w,M.hr]at e;cases e) (λw=>by rw[w,M.hs]at e;cases e) (λw=>by rw[w,M.rm _ U]at e;cases e);show HO.lst.inj (rk (Y.symm.trans e2))
   generalize upd H6 T' (.tup [kV (sS y.1),dJ y.2])=H7 at *;show#[0,y.2.1,0,.inl (bA.of c7),λl hl=>?_];have sL:=Tb.au (X:=.lst (ns.map V.int)) hl;have b6:HF l=none:=by
    cases e:HF l with
    |none=>rfl
    |some u =>
     by_cases w:l=I
     .rw[w,bI]at hl;cases hl
     .rw[O7 _ _ e w]at hl;cases hl
   have dj:l≠I:=λw=>(by rw[w,bF]at b6;cases b6);show#[0,0,d,2,.int o,1,bL.of (sL _ _ em),rfl,m.lr,0,eh (sL _ _ e0) ev,0,I,0,fA.k (k:=sS y.1) (sL _ _ bI) (by rw[Tb.cg];omega),?_];have e8:putK (Tb.dk dJ pl) (sS y.1) (.ref l)=Tb.dk dJ (pl++[(y.1,(l,y.2.2))]):=Tb.cH (f:=dJ) (a:=(l,y.2.2)) el;show#[2,pl++[(y.1,(l,y.2.2))],rfl,by rw[<-e8];show af,?_,λu S=>?_,λb u e w=>by rw[ah w];show sL _ _ (O7 _ _ e w),?_,λcv C u S=>?_]
   .rw[BY,aT,Lm,G,BY];rfl
   .rcases oR.mp S with S|S
    .let#[#[a7,a1,a2],a3]:=C7 u S;show#[#[a7,by rw[ah (λw=>by rw[w,bI]at a1;cases a1)];show sL _ _ a1,a2],a3]
    .rw[n7.mp S];show#[#[ns,by change upd _ I _ l=_;rw[ah dj,af],N],b6]
   .rw[BY];show fN ca (λm'=>?_);let#[u,S,e]:=rn.mp m';let#[#[a7,a1,_],_]:=C7 u S;rw[e,hl]at a1;cases a1
   .let#[g1,g2]:=dT cv C;rcases oR.mp S with S|S
    .have a1:=g1 u S;rw[ah (λw=>by rw[w,bI]at a1;cases a1)];show sL _ _ a1
    .rw[n7.mp S];change upd _ I _ l=_;rw[ah dj,af];show congrArg (λx=>some (HO.lst x)) g2
  .rintro σ H6 ⟨v6,v7,pl,rfl,b5,aT,be,o6,ca,ch⟩;rw[Tb.cg,Lz]at aT;show#[z.ra,ob,_,o6 _ _ hF (qs bE),hn,?_];have o7:Off (λb=>b=m.lr\/b=m.ls) H (upd H6 z.ra (.dK (Tb.dk dJ z.pl))):=λb u e w=>by
    by_cases w1:b=z.ra
    .rw[w1,af, <-e,w1,M.rm _ U]
    .rw[ah w1];show o6 _ _ (OF b u e (λy=>w (.inl y)) (λy=>w (.inr y)) w1) (ar e f1)
   have da:(pl.map (·.1))=z.pl.map (·.1):=by
    have:=congrArg (Sk (·.1)) aT;rw[LO,LO]at this;show this
   have M8:cF (upd H6 z.ra (.dK (Tb.dk dJ z.pl))) m bS pk (Z++[(o,#[I,J,pl])]):=M.add (z:=#[I,J,pl]) eo o7
    (by rw[ah (qs dz.2.1),lH];rw[lH]at b0;show o6 _ _ b0 (qs bY))
    (by rw[ah (qs dz.2.2.1),lH];show o6 _ _ dd (qs db))
    (by change upd H6 z.ra _ I=_;rw[ah bE];show b5)
    (by change upd H6 z.ra _ J=_;rw[ah cT,o6 _ _ eb (qs bb),Gb aT])
    (λy G=>by
     let#[#[a7,a1,a2],a3]:=be y G;show#[a7,by rw[ah (λw=>by rw[w,hF]at a3;cases a3)];show a1,a2])
    (by rw[da];show bq)
    (λy G=>by
     have h1:y.1∈pl.map (·.1):=rn.mpr #[y,G,rfl];rw[da]at h1;let#[y',h2,h3]:=rn.mp h1;rw[<-h3];show M.rg _ U y' h2) f1 f2 bb
   show as _ _ #[pk,_,M8,#[p0,λcv C=>#[C.IQ eo (λu S=>#[by rw[ah (λw=>by have:=(be u S).2;rw[w,hF]at this;cases this)];show ch cv C u S,dl (be u S).2]) ca (λa xs e=>o7 a _ e (λw=>by rcases w with w|w;rw[w,M.hr]at e;cases e;rw[w,M.hs]at e;cases e)),trivial]],#[λb u e w=>o7 b u e λy=>w (y.elim (λy=>.inr (.inl y)) λy=>.inr (.inr (.inl y))),λb w=>?_],by rw[vl];show qj _,λt'=>?_,λt' q=>?_]
   .rcases w with w|w|w|⟨x,hx,w⟩
    .show .inl (.inl w)
    .show .inl (.inr (.inl w))
    .show .inl (.inr (.inr (.inl w)))
    .rcases oR.mp hx with hx|hx
     .show .inl (.inr (.inr (.inr #[x,hx,w])))
     .rw[n7.mp hx]at w;rcases w with w|w|⟨y,G,w⟩
      .rw[w];show .inr f1
      .rw[w];show .inr f2
      .rw[w];show .inr (dl (be y G).2)
   .unfold hZ;rw[Tb.bu t' eo];by_cases c:t'=o
    .rw[Sv c,decide_eq_true c];rfl
    .rw[Su c,decide_eq_false c];rfl
   .unfold eZ;rw[Tb.bu t' eo];by_cases c:t'=o
    .rw[Sv c,Sv c,L];change(Tb.look pl q).map (·.2)=(Tb.look z.pl q).map (·.2);have h1:=ke (λx:Addr×Int=>x.2) q pl;have h2:=ke (λx:Addr×Int=>x.2) q z.pl;rw[<-h1, <-h2];change Tb.look (pl.map λy=>(y.1,y.2.2)) q=Tb.look (z.pl.map λy=>(y.1,y.2.2)) q;rw[aT]
    .rw[Su c,Su c]
 |peek t ad n =>
  show oE rfl rfl bU (oE rfl rfl bU ?_);show oE rfl rfl bU (oE rfl rfl bU ?_);show oE rfl rfl bU (FQ rfl rfl ?_);let#[z,L,ef,ce]:=fi;let#[a0,a1,n1]:=d6 _ _ _ rfl;have U:=Tb.az L;show#[0,d,2,.int ad,1,bL.of ap,rfl,0,d,2,.int ad,1,bL.of ap,rfl,0,d,2,.int n,1,bL.of ap,4,0,4,0,#[ae,ae,ae,ae],?_];show fO (lo:=ad) (n:=(ad+(n:Int)-ad).toNat) (λi ys H2=>ys.length=i/\(∀cv,Ct H Z cv->ys=((KD i).map λj:Nat=>(cv t ((ad+(j:Int))/8)).getD ((ad+(j:Int))%8).toNat 0).map V.int)/\H2=H1) #[rfl,λ_ _=>rfl,rfl] ?_ ?_
  .rintro i ys H2 hi ⟨hl,hc,rfl⟩;obtain⟨y,G⟩:∃y,Tb.look z.pl ((ad+(i:Int))/8)=some y:=by
    cases e:Tb.look z.pl ((ad+(i:Int))/8)with
    |some y=>show#[y,rfl]
    |none=>show absurd e (ce i ae)
   let#[ns,Y,N]:=M1.cl _ U _ (Tb.az G);let#[b1,_]:=at_of (xs:=ns) (i:=(ad+(i:Int))%8) (n:=8) ae ae ae;show#[0,0,m.lr,ed z,rfl,eh M1.hr L,0,_,0,rfl,#[av,av],z.ra,dJ y,rfl,eh (M1.rm _ U) G,0,_,0,rfl,u3,y.1,2,0,rfl,bA.of Y,b1,ae,by rw[vl,hl];rfl,λcv C=>by
    have e:=C.at_ t _ y.1 (by rw[xp L,G];rfl);rw[Pd,BY,BY,hc cv C];have:=jA (HO.lst.inj (rk (Y.symm.trans (s1 _ _ e))));rw[this];rfl,rfl]
  .rintro ys H2 ⟨hl,hc,rfl⟩ l bi;have s2:=Tb.au (X:=.lst ys) bi;show k _ pk Z (.ref l) (M1.same s2) #[p0,λcv C=>#[C.keep (λa xs e=>s2 _ _ (s1 _ _ e)) (λ_ _ _ h=>h),l,rfl,s1.free bi,by rw[af,hc cv C,show(ad+(n:Int)-ad).toNat=n by omega];rfl]] #[λb o e _=>s2 _ _ (s1 _ _ e),λb w=>.inl w] (N4 _) (λ_=>rfl) λ_ _=>rfl
 |poke t ad c cs =>
  show oE rfl rfl bU (oE rfl rfl bU ?_);show oE rfl rfl bU (oE rfl rfl bU ?_);show oE rfl rfl bU (oE rfl rfl bU ?_);let#[z,L,ef,ce]:=fi;let#[ew,a0,a1,n1]:=eH _ _ _ _ rfl;have U:=Tb.az L;have c4:=s1 _ _ (hd.2 _ _ _ _ rfl);have dz:=M.d3 _ U;have aB:=M.rs _ U _ U;have bq:¬ cA m Z d:=λw=>by
   rcases M1.alive d w with⟨_,e⟩|⟨_,e⟩
   .rw[ap]at e;cases e
   .rw[ap]at e;cases e
  show#[0,d,2,.ref c,1,bL.of ap,rfl,c,rfl,#[_,bA.of c4],?_];show t4 (K:=K) (a:=c) (xs:=cs.map V.int) (λi σ H2=>BE λ(v8 v9 cp:Option V) (ab:Int) (pl:List (Int×Addr×Int))=>Ii (σ=[some (.ref m.md),some (.ref d),some (.ref m.lr),some (.ref m.ls),some (.str "poke"),some (.int t),none,none,v8,v9,cp]) (cF H2 m bS ab (Tb.aW Z t #[z.ra,z.sa,pl])) (0<=ab) ((pl.map λy=>(y.1,y.2.1))=(z.pl.map λy=>(y.1,y.2.1))) ((∀q,(∃j:Nat,j<i/\(ad+j)/8=q)->∃v,(Tb.look pl q).map (·.2)=some v/\v≠0)) ((∀q,(¬ ∃j:Nat,j<i/\(ad+j)/8=q)->(Tb.look pl q).map (·.2)=(Tb.look z.pl q).map (·.2))) (Off (cA m Z) H1 H2/\∀cv,Ct H Z cv->Ct H2 (Tb.aW Z t #[z.ra,z.sa,pl]) (DL cv t ad (cs.take i))))
   #[2,_,pk,z.pl,rfl,by rw[xM M.nd L];show M1,p0,rfl,λq ⟨j,h,_⟩=>ae,λ_ _=>rfl,λ_ _ e _=>e,λcv C=>by
    rw[xM M.nd L];show(C.keep (λa xs e=>s1 _ _ e) (λ_ _ _ h=>h)).congr λt' q a h=>?_;unfold DL;by_cases R:t'=t
    .rw[Sv R,PJ,R,Ao (C.EE M (by rw[<-R];show h))]
    .rw[Su R]] (λi σ H2 _ z0=>by let#[_,_,_,_,_,_,_,_,_,_,_,o2]:=z0;show bA.of (o2.1 _ _ c4 ew)) ?_ ?_
  .rintro i x σ H2 T' hx hT ⟨v8,v9,cp,ab,pl,rfl,M2,p2,bd,ac,bv,o2,N⟩;have hi:i<cs.length:=(by simpa using(kz.mp hx).1);rw[rz]at hx;let#[cell,eq,rfl]:=pq.mp hx;have am:=y0 (y:=(#[z.ra,z.sa,pl]:MT)) L;have O:=Tb.az am;have sT:=Tb.au (X:=.tup [.int i,.int cell]) hT;have M3:=M2.same sT;show#[T',[.int i,.int cell],rfl,bL.of af,4,0,_,0,5];have d7:=sT _ _ (o2 _ _ ap bq);have c3:∀cv,Ct H Z cv->Ct (upd H2 T' (.tup [.int i,.int cell])) (Tb.aW Z t #[z.ra,z.sa,pl]) (DL cv t ad (cs.take i)):=λcv C=>(N cv C).keep (λa xs e=>sT _ _ e) λ_ _ _ h=>h;have O3:Off (cA m Z) H1 (upd H2 T' (.tup [.int i,.int cell])):=λb o e w=>sT _ _ (o2 _ _ e w);generalize upd H2 T' (.tup [.int i,.int cell])=H3 at *;show#[0,d,2,.int ad,1,bL.of d7,rfl,0,_,0,5];obtain⟨y,G⟩:∃y,Tb.look pl ((ad+(i:Int))/8)=some y:=by
    cases e:Tb.look pl ((ad+(i:Int))/8)with
    |some y=>show#[y,rfl]
    |none=>show absurd ((pB bd _).mp e) (ce i hi)
   let#[ns,Y,N]:=M3.cl _ O _ (Tb.az G);have Y:H3 y.1=some (.lst (ns.map V.int)):=Y;have hj:vW (ns.map V.int).length ((ad+(i:Int))%8)=some ((ad+(i:Int))%8).toNat:=by
    unfold vW;rw[nq,Sv ae,Sv ae]
   show#[0,0,0,m.lr,0,eh M3.hr am,0,_,0,rfl,#[av,av],z.ra,0,eh (M3.rm _ O) G,0,_,0,rfl,u3,y.1,2,0,rfl,Y,hj,?_];rw[<-RZ];have M4:=M3.FD Y (ns':=ns.set ((ad+(i:Int))%8).toNat cell) (by rw[Lb];show N);obtain⟨y',ei,ej⟩:∃y'∈z.pl,y'.2.1=y.1:=by
    have h1:((ad+(i:Int))/8,y.1)∈pl.map λy=>(y.1,y.2.1):=rn.mpr #[_,Tb.az G,rfl];rw[bd]at h1;let#[y',h2,h3]:=rn.mp h1;show#[y',h2,(OA h3).2]
   have O4:Off (cA m Z) H1 (upd H3 y.1 (.lst ((ns.set ((ad+(i:Int))%8).toNat cell).map V.int))):=λb o e w=>by
    rw[ah (λh=>w (.inr (.inr (.inr #[_,U,.inr (.inr #[y',ei,h.trans ej.symm])]))))];show O3 b o e w
   have c9:eA (Tb.aW Z t #[z.ra,z.sa,pl]) t ((ad+(i:Int))/8)=some y.1:=by
    rw[kC L,Sv rfl];change(Tb.look pl ((ad+(i:Int))/8)).map (·.1)=some y.1;rw[G];rfl
   have C4:∀cv,Ct H Z cv->Ct (upd H3 y.1 (.lst ((ns.set ((ad+(i:Int))%8).toNat cell).map V.int))) (Tb.aW Z t #[z.ra,z.sa,pl]) (DL cv t ad (cs.take (i+1))):=λcv C=>by
    have D:=c3 cv C;have en:ns=DL cv t ad (cs.take i) t ((ad+(i:Int))/8):=jA (HO.lst.inj (rk (Y.symm.trans (D.at_ _ _ _ c9))));have et:cs.take (i+1)=cs.take i++[cell]:=(by rw[Lm,eq];rfl);have lt:(cs.take i).length=i:=(by rw[DD];omega);show(D.cell (r:=ns.set ((ad+(i:Int))%8).toNat cell) c9).congr λt' q a _=>?_;unfold DL at en ⊢;rw[Sv rfl]at en;by_cases R:t'=t
    .rw[Sv R,Sv R,et,yk,lt];by_cases cq:q=(ad+(i:Int))/8
     .rw[Sv #[R,cq],Sv cq.symm,en,cq]
     .rw[Su (λh=>cq h.2),Su (qs cq)]
    .rw[Su (λh=>R h.1),Su R,Su R]
   generalize upd H3 y.1 (.lst ((ns.set ((ad+(i:Int))%8).toNat cell).map V.int))=H4 at *;dsimp only;show sk λQ jt je=>?_;show#[0,rfl,0,?_];have dm:∀Hx,Hx=H4->Q true Hx:=λHx ex=>by
    subst ex;show jt _ ?_;show#[0,m.md,.int ab,rfl,M4.g (F6 _ _ _ _),_,0,rfl,0,m.md,0,fA.k (k:=D2 "pokes") M4.hm (by change 4<sizeLine;omega),?_];dsimp only;rw[BW];have o5:Off (· = m.md) Hx (upd Hx m.md (.dK (oJ m.lr m.ls bS (ab+1)))):=Off.wr rfl;have g5:cZ (upd Hx m.md (.dK (oJ m.lr m.ls bS (ab+1)))) m.md (.str "pokes") (some (.int (ab+1))):=by
     have q:=cZ.k (k:=D2 "pokes") (H:=upd Hx m.md (.dK (oJ m.lr m.ls bS (ab+1)))) af;rw[F6]at q;show q
    show#[0,m.md,.int (ab+1),rfl,g5,0,0,m.ls,0,eh (o5 _ _ M4.hs (qs M.n3.2.1)) am,0,_,0,rfl,#[av,av],z.sa,0,fA.k (k:=sS ((ad+(i:Int))/8)) (o5 _ _ (M4.st _ O) dz.2.2.2.1) (by rw[Tb.cg];have:pl.length<=64:=M2.len O;change pl.length<_;omega),?_];have e6:putK (Tb.dk oS pl) (sS ((ad+(i:Int))/8)) (.int (ab+1))=Tb.dk oS (Tb.aW pl ((ad+(i:Int))/8) (y.1,ab+1)):=Tb.ic (f:=oS) (a:=(y.1,ab+1)) G;have e7:Tb.dk dJ (Tb.aW pl ((ad+(i:Int))/8) (y.1,ab+1))=Tb.dk dJ pl:=Tb.qA (f:=dJ) (a:=(y.1,ab+1)) (b:=y) (M2.np _ O) G rfl;have o6:Off (λb=>b=m.md\/b=z.ra\/b=z.sa) Hx (upd (upd Hx m.md (.dK (oJ m.lr m.ls bS (ab+1)))) z.sa (.dK (putK (Tb.dk oS pl) (sS ((ad+(i:Int))/8)) (.int (ab+1))))):=λb o e w=>(by rw[ah (λy=>w (.inr (.inr y))),ah (λy=>w (.inl y))];show e);have M7:=M4.E2 (pk':=ab+1) (pl:=Tb.aW pl ((ad+(i:Int))/8) (y.1,ab+1)) am o6 (by rw[ah (qs dz.2.2.2.1),af]) (by change upd _ z.sa _ z.ra=_;rw[ah aB,ah dz.1,e7];show M4.rm _ O) (by change upd _ z.sa _ z.sa=_;rw[af,e6]) (λu S=>by
      have fc:∃u'∈pl,u'.2.1=u.2.1:=by
       rcases Tb.mem_set S with rfl|⟨S,_⟩
       .show#[_,Tb.az G,rfl]
       .show#[u,S,rfl]
      let#[u',h1,h2]:=fc;let#[a7,I,J]:=M4.cl _ O u' h1;rw[<-h2];show#[a7,o6 _ _ I (λw=>by
       rcases w with w|w|w
       .rw[w,M4.hm]at I;cases I
       .rw[w,M4.rm _ O]at I;cases I
       .rw[w,M4.st _ O]at I;cases I),J]) (by rw[Tb.fG];show M2.np _ O) (λu S=>by
      rcases Tb.mem_set S with rfl|⟨S,_⟩
      .have h9:=M2.rg _ O ((ad+(i:Int))/8,y) (Tb.az G);show h9
      .show M2.rg _ O u S)
    rw[Bg]at M7;show#[2,_,ab+1,Tb.aW pl ((ad+(i:Int))/8) (y.1,ab+1),rfl,M7,ae,?_,λq hq=>?_,λq hq=>?_,λb o e w=>o6 b o (O4 b o e w) λu=>w ?_,λcv C=>(C4 cv C).keep (λa xs e=>?_) λt' q a h=>?_]
    .rw[<-bd];unfold Tb.aW;rw[LO];show L4 λu S=>?_;change((if u.1=(ad+(i:Int))/8 then((ad+(i:Int))/8,(y.1,ab+1))else u).1,(if u.1=(ad+(i:Int))/8 then((ad+(i:Int))/8,(y.1,ab+1))else u).2.1)=(u.1,u.2.1);by_cases R:u.1=(ad+(i:Int))/8
     .have h1:=Tb.bJ (M2.np _ O) S;rw[R,G]at h1;rw[Sv R, <-R,rk h1]
     .rw[Su R]
    .rw[Tb.bK q G];by_cases R:q=(ad+(i:Int))/8
     .rw[Sv R];show#[ab+1,rfl,ae]
     .rw[Su R];let#[j,h1,h2]:=hq;show ac q #[j,?_,h2];by_cases cr:j=i
      .subst cr;show absurd h2.symm R
      .omega
    .rw[Tb.bK q G,Su (λR=>hq #[i,NH _,R.symm])];show bv q λ⟨j,h1,h2⟩=>hq #[j,NQ h1,h2]
    .rcases u with u|u|u
     .show .inl u
     .show .inr (.inr (.inr #[_,U,.inl u]))
     .show .inr (.inr (.inr #[_,U,.inr (.inl u)]))
    .show o6 a _ e (λw=>?_);rcases w with w|w|w
     .rw[w,M4.hm]at e;cases e
     .rw[w,M4.rm _ O]at e;cases e
     .rw[w,M4.st _ O]at e;cases e
    .rw[kC L]at h ⊢;by_cases R:t'=t
     .rw[Sv R]at h ⊢;have h:(Tb.look (Tb.aW pl ((ad+(i:Int))/8) (y.1,ab+1)) q).map (·.1)=some a:=h;change(Tb.look pl q).map (·.1)=some a;rw[Tb.bK q G]at h;by_cases cq:q=(ad+(i:Int))/8
      .rw[Sv cq]at h;rw[cq,G];show h
      .rw[Su cq]at h;show h
     .rw[Su R]at h ⊢;show h
   show gS (λ_=>dm _ rfl) (λc0=>?_);show#[0,_,0,rfl,u3,rfl,0,?_];show oz (λ_=>dm _ rfl) (λc8=>je _ ?_);have c0:¬ ((i:Nat):Int)=0:=λh=>c0 (by rw[h];simp);have c8:¬ (ad+(i:Int))%8=0:=λh=>c8 (decide_eq_true (show V.int ((ad+(i:Int))%8)=V.int 0 by rw[h]));show#[2,_,ab,pl,rfl,M4,p2,bd,λq ⟨j,h1,h2⟩=>?_,λq hq=>bv q λ⟨j,h1,h2⟩=>hq #[j,NQ h1,h2],O4,C4];by_cases cr:j=i
   .subst cr;show ac q #[j-1,ae,ae]
   .show ac q #[j,ae,h2]
  .rintro σ H2 ⟨v8,v9,cp,ab,pl,rfl,M2,p2,bd,ac,bv,o2,N⟩;rw[nq]at ac bv N;have dV:∀y∈pl,(∃y'∈z.pl,y.2.1=y'.2.1)\/H y.2.1=none:=λy G=>by
    have h1:(y.1,y.2.1)∈pl.map λy=>(y.1,y.2.1):=rn.mpr #[y,G,rfl];rw[bd]at h1;let#[y',h2,h3]:=rn.mp h1;show .inl #[y',h2,(OA h3).2.symm]
   show as _ _ #[ab,_,M2,#[p2,λcv C=>#[(N cv C).congr (λt' q a h=>by
    rw[Lz];change DL cv t ad cs t' q=tG cv t ad cs t' q;unfold DL tG;by_cases R:t'=t
    .rw[Sv R];by_cases cm:q∈Rm.aq ad cs.length
     .rw[Sv #[R,cm]]
     .rw[Su (λh=>cm h.2),R];rw[R,kC L,Sv rfl]at h;let#[u,S,_]:=pq.mp h;have S:Tb.look pl q=some u:=S;cases e5:Tb.look z.pl q with
      |none=>rw[(pB bd q).mpr e5]at S;cases S
      |some u'=>show yF (C.EE M (a:=u'.1) (by rw[xp L,e5];rfl)) cm
    .rw[Su R,Su (λh=>R h.1)]),trivial]],#[λb o e w=>o2 b o (s1 b o e) w,lR L dV],by rw[Tb.fP];omega,vb L,λt' q=>?_]
   rw[vo L];by_cases R:t'=t
   .by_cases N:q∈Rm.aq ad cs.length
    .rw[Sv #[R,N],Sv R];show ac q (dv.mp N)
    .rw[Su (λh=>N h.2),Sv R,bv q (λh=>N (dv.mpr h)),R,tS L]
   .rw[Su (λh=>R h.1),Su R]
end
inductive uF (vs:List V) (H:Hp) (Q:VK) (e3:XK):Prop
 |mk (n:Int) (m:MA) (bS pk:Int) (Z:Zs) (tl:Addr) (ts:List Int) (_:vs=[.int n,.ref m.md,.ref tl]) (_:cF H m bS pk Z) (_:Z≠[]) (_:Z.length<=1000) (_:H tl=some (.lst (ts.map V.int))) (_:ts.length=5) (_:∀(H':Hp) (d:Addr) (D:Dd),aZ H H'->gQ H' d D->vH D->(∀t ad c cs,D=.poke t ad c cs->H c=none)->(∀o,D=.close o->∃t,t≠o/\∃z,Tb.look Z t=some z)->Q (.ref d) H'):uF vs H Q e3
section
variable {P:rr}{w:Bd}{K:iF}{mg:Str->Option Value}{base:Heap}
theorem oT:aC ["_law_m","_law_model_here","_law_tasks","_law_rooms","_law_there","_law_kind","_law_rest","_law_task","_law_pages","_law_other","_law_left","_law_at","_law_address"] ["_law_m","_law_model_here","_law_tasks"] (aw zg):=L2.bD
theorem CF {f:Addr}{fd:qi}(F:cK K "_law_busy" "_law_busy" zg f fd) (T:kl mg) (a7:Df P w K mg base aV 1 "_law_held" iC) (bi:Df P w K mg base aV 1 "_law_cells" j8):a8 P w K mg base aV 2 f fd ["_law_m","_law_model_here","_law_tasks"] uF:=by
 show F.dh oT (λbx A outer s H vs Q E hr h=>?_);let#[n,m,bS,pk,Z,tl,ts,rfl,M,zn,lz,be,l5,k]:=h;have hs:=ub;show#[_,(ag (dn 3 oT.nd (bh (a9 hr) (pv 1) aH bW))
  (ag (dn 4 oT.nd (aQ (jK rfl) (by rfl) T.sorted kH (aa (pv 3) ai)))
  (ag (Fx (i:=5) (j:=6) rfl oT.nd rfl rfl av rfl rfl (aa (aA bB (pv 0) aj) (aa (aA bt (pv 0) aj) ai)) rfl)
  (ag (dn 7 oT.nd (aP cu (pv 4) (aA bB (aA bt (pv 0) aj) (aQ bG (by rfl) T.len boot_len (aa (pv 4) ai))) bW))
  (ag (dn 8 oT.nd (aQ (jK rfl) (by rfl) T.sorted kH (aa (bh (a9 hr) (pv 3) (pv 7) bW) ai)))
  (ag (dn 9 oT.nd (aP cu (pv 2) (aA bB (pv 6) (aQ bG (by rfl) T.len boot_len (aa (pv 2) ai))) bW))
  (ag (aS (PW.pt (iy (aD gK (pv 5) aj (aI _)) (gA (aD (EY hr.iw) (pv 8) (cj ai) (aI _))))) (ag (dn 10 oT.nd (aA jh (bh (a9 hr) (pv 1) aH bW) (pc a7 hr ax (aa (pv 1) ai))))
  (ak (aE (b7 (aa aH (aa (pv 7) (aa (aA bB (pv 6) aj) (aa (aA bp aj (aA bB (aA bt (pv 6) aj) (aQ (pJ rfl) (by rfl) T.max Ax (aa aj (aa (aQ (pM rfl) (by rfl) T.min zY (aa aj (aa (pv 10) ai))) ai))))) ai)))))))) aF)
  (ag (aS (PW.pt (kO (aD gK (pv 5) aj (aI _)) (iO (jb (gw (a9 hr) (pv 9) (pv 3)))))) (ak (aE (b7 (aa aH (aa (pv 7) (aa (pv 9) ai)))))) aF)
  (ag (aS (PW.pt (kO (aD bP (pv 5) aj (aI _)) (iO (aD Dw (pv 9) (pv 7) (aI _))))) (ak (aE (b7 (aa aH (aa (pv 9) ai))))) aF)
  (ag (dn 11 oT.nd (aA bB (pv 6) (aQ bG (by rfl) T.len boot_len (aa (pv 8) ai))))
  (ag (aS (aD bP (pv 5) aj (aI _)) (ak (aE (b7 (aa aH (aa (pv 7) (aa (aP cu (pv 8) (pv 11) bW) (aa aj ai))))))) aF)
  (ag (dn 12 oT.nd (aA bp (aA dZ aj (aP cu (pv 8) (pv 11) bW)) (aA bB (aA bt (pv 6) aj) aj)))
  (ag (aS (aD gK (pv 5) aj (aI _)) (ak (aE (b7 (aa aH (aa (pv 7) (aa (pv 12) (aa (aA bp aj (aA bB (aA bt (pv 6) aj) aj)) ai))))))) aF)
  (ak (aE (b7 (aa aH (aa (pv 7) (aa (pv 12) (aa (pc bi hr ax (aa (aA bt (pv 6) aj) (aa (aA bp aj (aA bB (aA bt (pv 6) aj) aj)) ai))) ai)))))))))))))))))))),?_]
 have bd:(Tb.dk ed Z).map (·.1)=(Z.map (·.1)).map sS:=(by unfold Tb.dk;rw[LO,LO];rfl);show eO λ_ I=>?_;show#[0,m.md,.ref m.lr,rfl,M.g (yb _ _ _ _),I _ _ ?_];clear I;show eO λ_ I=>?_;show#[0,m.lr,_,Z.map (·.1),rfl,M.hr,bd,M.nd,by rw[nq];show lz,λR ks bc aB _=>I _ _ ?_];clear I;have s1:=Tb.au (X:=.lst (ks.map V.int)) bc;have h1:upd H R (.lst (ks.map V.int)) R=some (.lst (ks.map V.int)):=af;have M1:=M.same s1;generalize upd H R (.lst (ks.map V.int))=H1 at *;have bn:0<ks.length:=by
  rw[aB.length_eq,nq];show N2.mpr zn
 show#[0,_,0,rfl,(by change(0:Int)<16;decide),0,_,0,rfl,#[av,av],_,0,?_];have bE:=Lf n (show(16:Int)≠0 by decide);have bv:=K7 n (show(0:Int)<16 by decide);dsimp only;generalize n%16=kd at *;generalize n/96=G;show eO λ_ I=>?_;let#[b1,b2]:=at_of (xs:=ks) (i:=n/16%(ks.length:Int)) (n:=ks.length) (Lf _ ae) (K7 _ ae) rfl;generalize ks.getD (n/16%(ks.length:Int)).toNat 0=tk at b1 b2;show#[0,0,_,0,rfl,#[av,av],0,R,0,.inl (bA.of h1),_,0,rfl,by change(0:Int)<((ks.map V.int).length:Nat);rw[nq];omega,R,2,.int tk,1,bA.of h1,by rw[nq];show b1,I _ _ ?_];clear I;obtain⟨z,ez⟩:∃z,Tb.look Z tk=some z:=by
  have h2:=aB.mem_iff.mp b2;cases e:Tb.look Z tk with
  |some z=>show#[z,rfl]
  |none=>show absurd h2 (Tb.cf e)
 have ac:=Tb.az ez;have bb:(Tb.dk dJ z.pl).map (·.1)=(z.pl.map (·.1)).map sS:=(by unfold Tb.dk;rw[LO,LO];rfl);show eO λ_ I=>?_;show#[0,0,m.lr,0,eh M1.hr ez,z.ra,_,z.pl.map (·.1),rfl,M1.rm _ ac,bb,M1.np _ ac,by rw[nq];have:z.pl.length<=64:=M1.len ac;omega,λL ps a6 ba _=>I _ _ ?_];clear I;have s2:=Tb.au (X:=.lst (ps.map V.int)) a6;have h2:upd H1 L (.lst (ps.map V.int)) L=some (.lst (ps.map V.int)):=af;have M2:=M1.same s2;have S2:=s1.trans s2;generalize upd H1 L (.lst (ps.map V.int))=H2 at *;have ap:=S2 _ _ be;show eO λ_ I=>?_;let#[b3,_]:=at_of (xs:=ts) (i:=G%5) (n:=5) ae ae ae;generalize ts.getD (G%5).toNat 0=N at b3;show#[0,0,0,tl,0,.inl (bA.of ap),_,0,rfl,by change(0:Int)<((ts.map V.int).length:Nat);rw[nq,l5];decide,tl,2,.int N,1,bA.of ap,by rw[nq,l5];show b3,I _ _ ?_];clear I;have bz:∀q∈ps,0<=q/\q<64:=λq hq=>by
  let#[y,hy,e]:=rn.mp (ba.mem_iff.mp hq);rw[<-e];show M.rg _ ac y hy
 have ab:∀{U d} (D:Dd),aZ H2 U->gQ U d D->vH D->(∀t ad c cs,D=.poke t ad c cs->H c=none)->(∀o,D=.close o->∃t,t≠o/\∃z,Tb.look Z t=some z)->Q (.ref d) U:=λ{U d} D sx a1 a2 a3 a4=>k U d D (S2.trans sx) a1 a2 a3 a4;show iq (λσ H9=>aZ H2 H9/\ps≠[]/\σ=[some (.int n),some (.ref m.md),some (.ref tl),some (.ref m.lr),some (.ref R),some (.int kd),some (.int G),some (.int tk),some (.ref L),some (.int N),none,none,none]) (λ_ QQ O J=>?A) ?B
 case A =>
  have mp:∀U,aZ H2 U->QQ true U:=λU sx=>by
   have Mx:=M2.same sx;show O _ ?_;show#[0,m.md,.int bS,rfl,Mx.g (B0 _ _ _ _),0,m,bS,pk,Z,rfl,Mx,lz,λH4 s4=>?_];show#[_,0,5];have mx:∀S:Int,0<(if (if S<9 then S else 9)>1 then(if S<9 then S else 9)else 1)/\(if (if S<9 then S else 9)>1 then(if S<9 then S else 9)else 1)<=(9:Int):=λS=>(by split<;>split<;>omega);let#[x1,x2]:=mx (bS-tj Z);have r0:=Lf G (show(64:Int)≠0 by decide);have r1:=K7 G (show(0:Int)<64 by decide);have q0:=Lf (G/64) (show(if (if bS-tj Z<9 then bS-tj Z else 9)>1 then(if bS-tj Z<9 then bS-tj Z else 9)else 1)≠0 by omega);have q1:=K7 (G/64) x1;show#[0,0,_,0,rfl,(by change(0:Int)<64;decide),0,_,0,rfl,#[av,av],0,_,0,_,0,_,0,rfl,x1,_,0,rfl,oU,λd hd=>?_];show ab (.map tk (G%64) (1+G/64%(if (if bS-tj Z<9 then bS-tj Z else 9)>1 then(if bS-tj Z<9 then bS-tj Z else 9)else 1))) (sx.trans (s4.trans (Tb.au hd))) #[af,λ_ _ _ _ e=>by cases e] #[r0,r1,ae,ae] (λ_ _ _ _ e=>by cases e) (λ_ e=>by cases e)
  show#[0,_,0,rfl,0,?_];by_cases c2:kd<2
  .rw[decide_eq_true c2];show eL (mp _ (aZ.refl H2))
  .rw[decide_eq_false c2];show bX ?_;show#[0,av,λl3 bm=>?_];have s3:=Tb.au (X:=.lst []) bm;show#[L,l3,_,0,rfl,bA.of (s3 _ _ h2),bA.of af,d0 _,rfl,0,?_];cases ps with
   |nil=>show mp _ s3
   |cons q r=>show J _ #[s3,(λe=>by cases e),rfl]
 case B =>
 rintro σ H3 ⟨s3,pn,rfl⟩;have M3:=M2.same s3;have bq:0<ps.length:=N2.mpr pn;show iq (λσ H9=>H9=H3/\σ=[some (.int n),some (.ref m.md),some (.ref tl),some (.ref m.lr),some (.ref R),some (.int kd),some (.int G),some (.int tk),some (.ref L),some (.int N),none,none,none]) (λ_ QQ O J=>?A2) ?B2
 case A2 =>
  show#[0,_,0,rfl,0,?_];by_cases c2:kd<5
  .rw[decide_eq_true c2];show eL ?_;show#[0,0,m.lr,0,fX (t:=N) M3.hr,?_];cases eo:Tb.look Z N with
   |some _=>show#[false,rfl,J _ #[1]]
   |none =>
    show#[true,rfl,O _ ?_];show#[0,0,HQ,λd hd=>ab (.copy tk N) (s3.trans (Tb.au hd)) #[af,λ_ _ _ _ e=>by cases e] trivial (λ_ _ _ _ e=>by cases e) (λ_ e=>by cases e)]
  .rw[decide_eq_false c2];show bX (J _ #[1])
 case B2 =>
 rintro σ bl ⟨e3,rfl⟩;subst e3;show iq (λσ H9=>H9=bl/\σ=[some (.int n),some (.ref m.md),some (.ref tl),some (.ref m.lr),some (.ref R),some (.int kd),some (.int G),some (.int tk),some (.ref L),some (.int N),none,none,none]) (λ_ QQ O J=>?A3) ?B3
 case A3 =>
  show#[0,rfl,0,?_];show gS (λ_=>?_) (λ_=>J _ #[1]);show#[0,0,rfl,0,?_];show oz (λc3=>O _ ?_) (λ_=>J _ #[1]);have c3:N≠tk:=λe=>(by rw[e]at c3;simp at c3);show#[0,d9,λd hd=>ab (.close N) (s3.trans (Tb.au hd)) #[af,λ_ _ _ _ e=>by cases e] trivial (λ_ _ _ _ e=>by cases e) (λo e=>by cases e;show#[tk,qs c3,z,ez])]
 case B3 =>
 rintro σ H4 ⟨e4,rfl⟩;subst e4;have am:=s3 _ _ h2;have p0:0<=G%(ps.length:Int):=Lf _ ae;have p1:G%(ps.length:Int)<ps.length:=K7 _ ae;let#[b5,b6]:=at_of (xs:=ps) (i:=G%(ps.length:Int)) (n:=ps.length) p0 p1 rfl;generalize ps.getD (G%(ps.length:Int)).toNat 0=Y at b5 b6;let#[z0,z1]:=bz Y b6;show eO λ_ I=>?_;show#[0,0,L,0,.inl (bA.of am),_,0,rfl,by change(0:Int)<((ps.map V.int).length:Nat);rw[nq];omega,I _ _ ?_];clear I;rw[nq];show iq (λσ H9=>H9=H4/\σ=[some (.int n),some (.ref m.md),some (.ref tl),some (.ref m.lr),some (.ref R),some (.int kd),some (.int G),some (.int tk),some (.ref L),some (.int N),none,some (.int (G%(ps.length:Int))),none]) (λ_ QQ O J=>?A4) ?B4
 case A4 =>
  show#[0,rfl,0,?_];show oz (λ_=>O _ ?_) (λ_=>J _ #[1]);show#[0,0,0,L,2,.int Y,1,bA.of am,b5,oU,λd hd=>ab (.drop tk Y 1) (s3.trans (Tb.au hd)) #[af,λ_ _ _ _ e=>by cases e] #[z0,z1,av,av] (λ_ _ _ _ e=>by cases e) (λ_ e=>by cases e)]
 case B4 =>
 rintro σ H5 ⟨e5,rfl⟩;subst e5;have a0:=Lf (G/64) (show(8:Int)≠0 by decide);have a1:=K7 (G/64) (show(0:Int)<8 by decide);have m0:=Lf (G/512) (show(11:Int)≠0 by decide);have m1:=K7 (G/512) (show(0:Int)<11 by decide);obtain⟨nn,aT⟩:∃nn:Nat,(nn:Int)=1+G/512%11:=#[(1+G/512%11).toNat,ae];show eO λ_ I=>?_;show#[0,0,L,2,.int Y,1,bA.of am,b5,_,0,rfl,.inl #[av,av],0,_,0,rfl,#[av,av],_,0,rfl,u3,_,0,rfl,I _ _ ?_];clear I
 try dsimp only
 show gR λQQ O J=>?_;show#[0,_,0,rfl,0,?_];by_cases as:kd<10
 .rw[decide_eq_true as];show O _ ?_;show#[0,0,0,_,0,rfl,#[av,av],_,0,rfl,(by change(0:Int)<11;decide),_,0,rfl,oU,λd hd=>?_];dsimp only at *;show ab (.peek tk (8*Y+G/64%8) nn) (s3.trans (Tb.au hd)) #[?_,λ_ _ _ _ e=>by cases e] #[ae,ae,ae,ae] (λ_ _ _ _ e=>by cases e) (λ_ e=>by cases e);change upd H5 d _ d=some (.tup [.str "peek",.int tk,.int (8*Y+G/64%8),.int nn]);rw[af,aT]
 .rw[decide_eq_false as];show J _ ?_;show#[0,0,0,_,0,rfl,#[av,av],0,_,0,rfl,#[av,av],_,0,rfl,(by change(0:Int)<11;decide),_,0,rfl,G/4096,nn,by rw[aT];rfl,ae,λcs H6 cl lc s6 a5 h6=>?_];show#[oU,λd hd=>?_];have s7:=Tb.au (X:=.tup [V.str "poke",V.int tk,V.int (8*Y+G/64%8),V.ref cl]) hd;show ab (.poke tk (8*Y+G/64%8) cl cs) (s3.trans (s6.trans s7)) #[af,λ_ _ _ _ e=>by cases e;show s7 _ _ h6] #[ae,ae,ae,ae] (λ_ _ _ _ e=>by cases e;show S2.free (s3.free a5)) (λ_ e=>by cases e)
end
structure wF (c:CA) (H:Hp) (M:Addr->Prop) (a:RA) (m:MA) (nf ns k:Nat) (s:Pg.PS) (cv:Int->Int->List Int) (pk:Int) (W:di) (Z:Zs):Prop where
 R:ay c H M a s W
 ri:Pg.RI s (ents W)
 cv:Cv s W cv
 D:cF H m (bS s) pk Z
 p0:0<=pk
 sp:∀b,cA m Z b->M b/\¬ a.own W b
 tw:Tw W Z
 lf:(s.ow true).length=nf
 ls:(s.ow false).length=ns
 zn:Z≠[]
 lw:W.length<=k
 lz:Z.length<=k
section
variable {c:CA}{H H' H2:Hp}{M M':Addr->Prop}{a:RA}{m:MA}{nf ns k:Nat}{s s':Pg.PS}{cv:Int->Int->List Int}{pk tt:Int}{W W':di}{Z Z':Zs}
theorem wF.same (S:wF c H M a m nf ns k s cv pk W Z) (e:aZ H H'):wF c H' M a m nf ns k s cv pk W Z:=#[S.R.same e,S.ri,S.cv,S.D.same e,S.p0,S.sp,S.tw,S.lf,S.ls,S.zn,S.lw,S.lz]
theorem my (R:ay c H M a s W) (D:cF H m tt pk Z) (sp:∀b,cA m Z b->M b/\¬ a.own W b) {pk':Int}(I:cF H' m tt pk' Z') (st:oh m H Z H' Z') :
  ay c H' (λb=>(M b/\¬ cA m Z b)\/cA m Z' b) a s W/\∀b,cA m Z' b->((M b/\¬ cA m Z b)\/cA m Z' b)/\¬ a.own W b:=by
 show#[R.BH (B:=cA m Z) st.1 sp D.alive (λb z=>z.elim (λz=>.inl z.1) λz=>(st.2 b z).elim (λz=>.inl (sp b z).1) .inr) (λb z w=>.inl #[z,w]) (λb z e=>?_),λb z=>#[.inr z,?_]]
 .rcases z with z|z
  .cases G:H b with
   |none=>show R.mt b z.1 G
   |some u=>rw[st.1 b u G z.2]at e;cases e
  .rcases I.alive b z with⟨_,h⟩|⟨_,h⟩
   .rw[e]at h;cases h
   .rw[e]at h;cases h
 .rcases st.2 b z with z|z
  .show(sp b z).2
  .show λw=>R.mt b (R.dA b w) z
theorem m7 (D:cF H m tt pk Z) (sp:∀b,cA m Z b->M b/\¬ a.own W b) (st:Step H M (a.own W) H' M' (a.own W')):cF H' m tt pk Z/\∀b,cA m Z b->M' b/\¬ a.own W' b:=by
 show#[D.off st.off λb z=>(sp b z).2,λb z=>#[st.mm b (sp b z).1 (sp b z).2,λw=>?_]];rcases st.on b w with w|w
 .show(sp b z).2 w
 .rcases D.alive b z with⟨_,h⟩|⟨_,h⟩
  .rw[w]at h;cases h
  .rw[w]at h;cases h
theorem sN {α N:Type}{l:List (Int×α)}{G:List (Int×N)}(L:(l.map (·.1)).Nodup) (O:(G.map (·.1)).Nodup) (h:∀q,Tb.look l q=none↔Tb.look G q=none):(l.map (·.1)).Perm (G.map (·.1)):=by
 have J:∀{I:Type}{l:List (Int×I)}{q:Int},q∈l.map (·.1)↔¬ Tb.look l q=none:=λ{I l q}=>#[λh e=>Tb.cf e h,λh=>by
  cases e:Tb.look l q with
  |none=>show absurd e h
  |some a=>show rn.mpr #[_,Tb.az e,rfl]]
 rw[Oh L O];intro q;rw[J,J,h q]
theorem Tw.look (T:Tw W Z) (t:Int):Tb.look W t=none↔Tb.look Z t=none:=by
 have h:=T.h t;unfold hW hZ at h;cases I:Tb.look W t with
 |none=>cases G:Tb.look Z t with
  |none=>show#[λ_=>rfl,λ_=>rfl]
  |some z=>rw[I,G]at h;cases h
 |some x=>cases G:Tb.look Z t with
  |none=>rw[I,G]at h;cases h
  |some z=>show#[nofun,nofun]
theorem Tw.uY (T:Tw W Z) {t:Int}{x:TD}{z:MT}(L:Tb.look W t=some x) (J:Tb.look Z t=some z) (q:Int):Tb.look x.t q=none↔Tb.look z.pl q=none:=by
 have h:=T.e t q;rw[kT L,tS J]at h;cases I:Tb.look x.t q with
 |none=>cases G:Tb.look z.pl q with
  |none=>show#[λ_=>rfl,λ_=>rfl]
  |some z=>rw[I,G]at h;cases h
 |some x=>cases G:Tb.look z.pl q with
  |none=>rw[I,G]at h;cases h
  |some z=>show#[nofun,nofun]
theorem Tw.get (T:Tw W Z) {t:Int}{z:MT}(G:Tb.look Z t=some z):∃x,Tb.look W t=some x:=by
 cases e:Tb.look W t with
 |some x=>show#[x,rfl]
 |none=>rw[(T.look t).mp e]at G;cases G
theorem AU {l G:List Int}(p:l.Perm G):l.sum=G.sum:=by
 induction p with
 |nil=>rfl
 |cons x _ L=>rw[MD,MD,L]
 |swap x y l=>rw[MD,MD,MD,MD];omega
 |trans _ _ I J=>show I.trans J
theorem Tw.len (T:Tw W Z) (R:ay c H M a s W) (D:cF H m tt pk Z) {t:Int}{x:TD}{z:MT}(I:Tb.look W t=some x) (G:Tb.look Z t=some z):x.t.length=z.pl.length:=by
 have:=(sN (R.tb _ (Tb.az I)).nd (D.np _ (Tb.az G)) (T.uY I G)).length_eq;rw[nq,nq]at this;show this
theorem Tw.held (T:Tw W Z) (R:ay c H M a s W) (D:cF H m tt pk Z):tj Z=((ents W).length:Int):=by
 rw[<-mZ];have p:=(sN R.nd D.nd T.look).symm;have q:=AU (p.map λt:Int=>(((Tb.look W t).map λx=>(x.t.length:Int)).getD 0));rw[LO,LO]at q;unfold tj heldW;rw[show(Z.map λx=>(x.2.pl.length:Int))=Z.map ((λt:Int=>(((Tb.look W t).map λx=>(x.t.length:Int)).getD 0))∘(·.1))from L4 λx G=>by
  have I:=Tb.bJ D.nd G;let#[y,J]:=T.get I;change((x.2.pl.length:Nat):Int)=(((Tb.look W x.1).map λx=>(x.t.length:Int)).getD 0);rw[J, <-T.len R D J I];rfl]
 rw[q];show congrArg List.sum (L4 λx G=>?_);change(((Tb.look W x.1).map λx=>(x.t.length:Int)).getD 0)=(x.2.t.length:Int);rw[Tb.bJ R.nd G];rfl
theorem qg {x:TD}{z:MT}{ad:Int}{n:Nat}(N:∀q,Tb.look x.t q=none↔Tb.look z.pl q=none) (S:0<=ad) (h:xk z.pl ad n):¬ Rm.cX ad n (x.t.map (·.1)):=by
 let#[h1,h2]:=h;rintro(w|⟨w,G⟩)
 .omega
 .rcases G with G|G
  .unfold Rm.cD Rm.jm Rm.gW at G;omega
  .show G λq L=>?_;have R:q∈Rm.aq ad n:=by
    unfold Rm.aq;rw[Su ae];show L
   let#[j,O,e]:=dv.mp R;have J:=h2 j O;rw[e]at J;cases I:Tb.look x.t q with
   |none=>show absurd ((N q).mp I) J
   |some v=>show rn.mpr #[_,Tb.az I,rfl]
theorem Dp (T:Tw W Z) (R:ay c H M a s W) (D:cF H m tt pk Z) {Dd:Dd}(ok:vH Dd) (f:yN Z (bS s) Dd):DJ W (bS s) Dd:=by
 have O:=T.held R D;cases Dd with
 |begin t=>show ok
 |close t=>let#[z,G]:=f;show T.get G
 |map t p S =>
  let#[z,G,J,L,U]:=f;let#[x,I]:=T.get G;show#[x,I,J,λq N=>(T.uY I G q).mpr (L q N),by rw[<-O];show U]
 |drop t p S =>
  let#[z,G,J,L]:=f;let#[x,I]:=T.get G;show#[x,I,J,λq N w=>L q N ((T.uY I G q).mp w)]
 |peek t ad n =>
  let#[z,G,J]:=f;let#[x,I]:=T.get G;show#[x,I,qg (T.uY I G) ok.1 J,ok.1,ok.2.1,ok.2.2.2]
 |poke t ad Y cs =>
  let#[z,G,J]:=f;let#[x,I]:=T.get G;show#[x,I,qg (T.uY I G) ok.1 J,ok.1,ok.2.1,KI ok.2.2.2 av]
 |copy t o =>
  let#[z,G,J,L]:=f;let#[x,I]:=T.get G;show#[x,I,(T.look o).mpr J,by rw[<-O,T.len R D I G];show L]
end
inductive qB (c:CA) (vs:List V) (H:Hp) (Q:VK) (e3:XK):Prop
 |mk (n:Int) (_:vs=[.int n]) (_:∀(H':Hp) (t:Addr) (M:Addr->Prop) (a:RA) (m:MA) (s:Pg.PS) (cv:Int->Int->List Int) (pk:Int) (W:di) (Z:Zs),aZ H H'->wF c H' M a m (ox n) (pN n) 1 s cv pk W Z->Ct H' Z cv->(∀t,hZ Z t=decide (t=1))->(∀b,M b->H b=none)->H' t=some (.tup [.ref a.rp,.ref m.md])->Q (.ref t) H'):qB c vs H Q e3
section
variable {P:rr}{w:Bd}{K:iF}{mg:Str->Option Value}{base:Heap}
theorem Az:aC ["_law_m","_law_frames","_law_slots","_law_kept","_law_model_here"] ["_law_m"] (aw vO):=L2.bD
theorem Ba {f ap:Addr}{fd am:qi}{c:CA}(F:cK K "_law_begun" "_law_begun" vO f fd) (TR:oP K mg c) (MK:FL P w K mg base c) (MR:Mk K c.C ap) (ba:mg "Rooms" = some (.ref c.C)) (bd:Df P w K mg base aV 1 "_law_sizes" pZ) (as:a8 P w K mg base aV 5 ap am ["self","frames","slots"] (rG c)) (be:Binds K am ["self","frames","slots"] []) (a1:Df P w K mg base aV 1 "_law_model" rH) (a7:Df P w K mg base aV 1 "_law_done" mE):a8 P w K mg base aV 7 f fd ["_law_m"] (qB c):=by
 show F.dh Az (λbm A outer s H vs Q E I h=>?_);let#[n,rfl,k]:=h;have hs:=ub;let#[_,f2,bn]:=zB n;let#[_,bl]:=Ad n;show#[_,(ag (cV (pc bd I ax (aa (pv 0) ai)) (dF rfl (bg (f9 1 Az.nd) (bg (f9 2 Az.nd) cQ))))
  (ag (dn 3 Az.nd (lN MR as (I.mono av) (by rfl) ba be .nil ax (aa (pv 1) (aa (pv 2) ai))))
  (ag (dn 4 Az.nd (pc a1 I ax (aa (aA bp (pv 1) (pv 2)) ai)))
  (ag (aL (pm (pv 3) TR.cl MK.Jk I ax (aa aj ai)))
  (ag (aL (pc a7 I ax (aa (pv 4) (aa (b7 (aa aH (aa aj ai))) ai))))
  (ak (aE (b7 (aa (pv 3) (aa (pv 4) ai)))))))))),?_]
 show#[0,n,rfl,λH1 t1 s1 bq bb=>#[t1,0,bL.of bb,4,0,_,0,5]];show#[0,0,λrp dx np aB bv=>#[rp,dx,ox n,pN n,rfl,ae,ae,ae,af,λH2 M a ea R fr o2=>#[5]]];have s2:aZ H1 H2:=λb u e=>o2 b u (by rw[ah (ar e np),ah (ar e aB)];show e) (ar e np);have ac:∀b,M b->H b=none:=λb z=>s1.free (cB (cB (fr b z)).2).2;clear o2 fr;rw[<-ea];have et:bS (s0 (ox n) (pN n))=((ox n:Nat):Int)+((pN n:Nat):Int):=by
  unfold bS;rw[show((s0 (ox n) (pN n)).ow true).length=ox n from Li,show((s0 (ox n) (pN n)).ow false).length=pN n from Li];omega
 show#[0,0,_,0,rfl,0,λH3 m s3 g1 g2 g3 D3=>?_];rw[<-et]at D3;have N:=s1.trans s2;have a2:∀b,cA m [] b->H3 b≠none:=λb z e=>by
  rcases D3.alive b z with⟨_,h⟩|⟨_,h⟩
  .rw[e]at h;cases h
  .rw[e]at h;cases h
 have O:∀b,cA m [] b->H2 b=none:=λb z=>by
  rcases z with z|z|z|⟨x,G,_⟩
  .rw[z];show g1
  .rw[z];show g2
  .rw[z];show g3
  .cases G
 have R3:=R.BH (H':=H3) (B:=λ_=>False) (M':=λb=>M b\/cA m [] b) (λb o e _=>s3 b o e) (λb z=>z.elim) (λb z=>z.elim) (λb z=>z.elim .inl λz=>.inr (O b z)) (λb z _=>.inl z) (λb z e=>z.elim (λz=>(R.same s3).mt b z e) λz=>a2 b z e);have bc:∀b,cA m [] b->(M b\/cA m [] b)/\¬ a.own [] b:=λb z=>#[.inr z,λw=>R.mt b (R.dA b w) (O b z)];let#[a4,ho]:=R3.ob;show#[0,a.rp,a4,0,ho,fE _ _ _ ao ao ao,_,a,_,[],(1),rfl,R3,rfl,KH _,λH4 M4 y ey R4 ab=>?_];let#[D4,S]:=m7 D3 bc ab;have U:∀b,M4 b->H b=none:=λb z=>by
  rcases ab.mn b z with z|z
  .show z.elim (ac b) λz=>N.free (O b z)
  .show N.free (s3.free z)
 have S4:aZ H H4:=λb u e=>ab.off b u (s3 _ _ (N _ _ e)) λw=>by
  have:=R3.dA b w;rcases this with h|h
  .rw[ac b h]at e;cases e
  .rw[N.free (O b h)]at e;cases e
 show#[0,d9,λd hd=>?_];have J:=Tb.au (X:=.tup [V.str "begin",V.int 1]) hd;show#[m,_,(0),[],d,.begin 1,rfl,D4.same J,Ll _,KH _,#[af,λ_ _ _ _ e=>by cases e],rfl,(λ_ _ _ _ e=>by cases e),(λ_ _ _ e=>by cases e),λH6 a6 L v D6 p6 Y l6 h6 e6=>?_];have R5:=R4.same J;let#[R6,aT]:=my R5 (D4.same J) S D6 Y;have a5:∀b,((M4 b/\¬ cA m [] b)\/cA m L b)->H b=none:=λb z=>by
  rcases z with z|z
  .show U b z.1
  .rcases Y.2 b z with z|z
   .show U b (S b z).1
   .show S4.free (J.free z)
 have S6:aZ H H6:=λb u e=>Y.1 b u (J _ _ (S4 _ _ e)) λw=>(by rw[U b (S b w).1]at e;cases e);show#[0,0,d9,λtp a3=>?_];have st:=Tb.au (X:=.tup [.ref a.rp,.ref m.md]) a3;have a0:Pg.RI (s0 (ox n) (pN n)) (ents ([]++[(1,y)])):=by
  rw[mi,ey];show Gr ae
 have T0:Tw [] []:=#[λ_=>rfl,λ_ _=>rfl];have T6:Tw ([]++[(1,y)]) L:=T0.next (D:=.begin 1) (λt'=>by
   unfold hW;rw[Tb.bu t' rfl];by_cases z:t'=1
   .rw[Sv z,decide_eq_true z];rfl
   .rw[Su z,decide_eq_false z];rfl) h6 (λt' q=>by
   unfold eW;rw[Tb.bu t' rfl];by_cases z:t'=1
   .rw[Sv z,Sv z,MY,ey];rfl
   .rw[Su z,Su z]) e6
 have bi:L≠[]:=λe=>by
  have:=T6.h 1;rw[e]at this;unfold hW hZ at this;rw[Tb.bu 1 rfl,Sv rfl]at this;cases this
 show k _ tp _ a m _ (λ_ _=>[]) a6 _ L (S6.trans st) (wF.same #[R6,a0,λt x G q e he=>?_,D6,p6.1,aT,T6,Li,Li,bi,qj _,l6] st) (by have C0:Ct (upd H4 d (.tup [V.str "begin",V.int 1])) [] (λ_ _=>[]):=#[λ_ _ _ e=>(by cases e),λ_ _ _ _ _ e=>(by cases e)];show(p6.2 _ C0).1.keep (λa xs e=>st _ _ e) λ_ _ _ h=>h) (λt=>(h6 t).trans (RL _)) a5 af;rw[Tb.bu t rfl]at G;by_cases z:t=1
 .rw[Sv z]at G;cases G;rw[ey]at he;cases he
 .rw[Su z]at G;cases G
end
noncomputable abbrev nD:KP:=top 45
noncomputable abbrev AR:KP:=top 49
inductive iQ (vs:List V) (H:Hp) (Q:VK) (e3:XK):Prop
 |mk (p q:Addr) (xs:List Int) (_:vs=[.ref p,.ref q]) (_:H p=some (.lst (xs.map V.int))) (_:H q=some (.lst (xs.map V.int))) (_:xs.length<=100) (_:∀H',aZ H H'->Q (.bl true) H'):iQ vs H Q e3
theorem Ja {c:CA}{H H':Hp}{M M' B:Addr->Prop}{a:RA}{s:Pg.PS}{W:di}(R:ay c H M a s W) (o:Off B H H') (G:∀b,B b->M b/\¬ a.own W b) (J:∀{b C dx fs},H b=some (.ins C dx fs)->¬ B b) (O:∀b xs,H b=some (.tup xs)->¬ B b) (U:∀b,M' b->M b\/H b=none) (L:∀b,M b->¬ B b->M' b) (mt:∀b,M' b->H' b≠none):ay c H' M' a s W:=by
 let#[dx,h1]:=R.ob;let#[am,N]:=R.pg.fr.ob;let#[ab,S]:=R.pg.sl.ob;show#[#[dx,o _ _ h1 (J h1)],R.pg.move o (λb z=>(G b z).1) U (λb z y=>(G b y).2 (.inl z)) (J N) (J S) O,#[R.ok.ds,λb z=>L b (R.ok.mm b z) λq=>?_],mt,o _ _ R.hd (λz=>(G _ z).2 (.inr (.inl rfl))),R.nd,λx I=>?_,λx I b z=>#[L b (R.dm x I b z).1 λq=>(G b q).2 (.inr (.inr #[x,I,z])),(R.dm x I b z).2],R.np,R.dj,L _ R.DC (λz=>(G _ z).2 (.inr (.inl rfl))),R.BF,R.yV]
 .simp only[wh,By,or_false]at z;rcases z with z|z|z|z|z|z|z|z|z<;>rw[z]at q
  .show(G _ q).2 (.inl (PA.eU 0 rfl))
  .show J N q
  .show(G _ q).2 (.inl (PA.eU 1 rfl))
  .show(G _ q).2 (.inl (PA.eU 2 rfl))
  .show J S q
  .show(G _ q).2 (.inl (PA.eU 3 rfl))
  .show(G _ q).2 (.inl (PA.eU 4 rfl))
  .show(G _ q).2 (.inl (PA.eU 5 rfl))
  .show(G _ q).2 (.inl (PA.eU 6 rfl))
 .let#[ac,Y]:=(R.tb x I).at_.ob;show(R.tb x I).off o (J Y) (λb z y=>(G b y).2 (.inr (.inr #[x,I,z]))) O
theorem xY {F:Int->List Int}{q:Int}(h:(F q).length=8):oX F (8*q) 8=F q:=by
 show Mv λj=>?_;unfold oX;rw[rz];by_cases G:j<8
 .rw[MO G];change some ((F ((8*q+(j:Int))/8)).getD ((8*q+(j:Int))%8).toNat 0)=_;rw[show(8*q+(j:Int))/8=q by omega,show((8*q+(j:Int))%8).toNat=j by omega,Lg,ti ae];rfl
 .rw[Lk (by rw[Lh];omega),Lk ae];rfl
structure oM (c:CA) (H0:Hp) (M0:Addr->Prop) (a:RA) (s0:Pg.PS) (W:di) (cv:Int->Int->List Int) (H:Hp) (M:Addr->Prop) (s:Pg.PS):Prop where
 R:ay c H M a s W
 ri:Pg.RI s (ents W)
 cv:Cv s W cv
 st:Step H0 M0 (a.own W) H M (a.own W)
 ln:∀b,(s.ow b).length=(s0.ow b).length
section
variable {c:CA}{H0 H H':Hp}{M0 M M':Addr->Prop}{a:RA}{s0 s s':Pg.PS}{W:di}{cv:Int->Int->List Int}
theorem oM.same (P:oM c H0 M0 a s0 W cv H M s) (h:aZ H H'):oM c H0 M0 a s0 W cv H' M s:=#[P.R.same h,P.ri,P.cv,P.st.trans (P.R.gX h),P.ln]
theorem oM.next (P:oM c H0 M0 a s0 W cv H M s) (R:ay c H' M' a s' W) (G:Pg.RI s' (ents W)) (h:Cv s' W cv) (st:Step H M (a.own W) H' M' (a.own W)) (I:∀b,(s'.ow b).length=(s.ow b).length):oM c H0 M0 a s0 W cv H' M' s':=#[R,G,h,P.st.trans st,λb=>(I b).trans (P.ln b)]
end
section
variable {c:CA}{H0 H H2 H3 H4:Hp}{M0 M M2 M3 M4:Addr->Prop}{a:RA}{s s0 s2 s3 s4:Pg.PS}{W:di}{cv:Int->Int->List Int}{r:Addr}{kvs:List (Key×V)}{ob:Obj}
theorem oM.bO (P:oM c H0 M0 a s0 W cv H3 M3 s3) (I:H3 r=some (.dK kvs)) (G:M3 r/\¬ a.own W r):oM c (upd H3 r (.bO ob (.dK kvs))) M3 a s3 W cv (upd H3 r (.bO ob (.dK kvs))) M3 s3:=by
 have R:ay c (upd H3 r (.bO ob (.dK kvs))) M3 a s3 W:=P.R.BH (B:=(· = r)) (Off.wr rfl) (λb z=>by rw[z];show G) (λb z=>.inr #[_,(congrArg H3 z).trans I]) (λb z=>.inl z) (λb z _=>z) (λb z e=>by
  by_cases q:b=r
  .rw[q,af]at e;cases e
  .rw[ah q]at e;show P.R.mt b z e)
 show#[R,P.ri,P.cv,R.refl,λ_=>rfl]
theorem oM.back (P:oM c H0 M0 a s0 W cv H3 M3 s3) (O:H3 r=some (.dK kvs)) (I:M3 r/\¬ a.own W r) (G:oM c (upd H3 r (.bO ob (.dK kvs))) M3 a s3 W cv H4 M4 s4):oM c H0 M0 a s0 W cv (upd H4 r (.dK kvs)) M4 s4:=by
 have h2:=G.st.off r _ af I.2;have L:Off (a.own W) H3 (upd H4 r (.dK kvs)):=λb u q n=>by
  by_cases z:b=r
  .rw[z,af, <-q,z,O]
  .rw[ah z];show G.st.off _ _ (by rw[ah z];show q) n
 have N:∀b,M4 b->upd H4 r (.dK kvs) b≠none:=λb z q=>by
  by_cases y:b=r
  .rw[y,af]at q;cases q
  .rw[ah y]at q;show G.R.mt b z q
 have J:M4 r:=G.st.mm _ I.1 I.2;have R2:ay c (upd H4 r (.dK kvs)) M4 a s4 W:=Ja (B:=(· = r)) G.R (Off.wr rfl) (λb z=>by rw[z];show#[J,I.2]) (λq z=>by rw[z,h2]at q;cases q) (λb xs q z=>by rw[z,h2]at q;cases q) (λb z=>.inl z) (λb z _=>z) N;show#[R2,G.ri,G.cv,P.st.trans #[L,G.st.mm,λb z=>(G.st.mn b z).imp id λq=>(cB q).2,λb z=>.inl z,P.R.mt,P.R.dA],λb=>(G.ln b).trans (P.ln b)]
theorem AB {m:MA}{nf ns G:Nat}{pk:Int}{Z:Zs}(S:wF c H M a m nf ns G s cv pk W Z) (C:Ct H Z cv) (P:oM c H M a s W cv H2 M2 s2):wF c H2 M2 a m nf ns G s2 cv pk W Z/\Ct H2 Z cv:=by
 let#[L,I]:=m7 S.D S.sp P.st;show#[#[P.R,P.ri,P.cv,?_,S.p0,I,S.tw,(P.ln true).trans S.lf,(P.ln false).trans S.ls,S.zn,S.lw,S.lz],#[λt q b h=>?_,C.inj]]
 .rw[wA P.ln];show L
 .let#[z,h1,h2]:=Mp.mp h;let#[y,N,J]:=pq.mp h2;show P.st.off _ _ (C.at_ _ _ _ h) (S.sp _ (.inr (.inr (.inr #[_,Tb.az h1,.inr (.inr #[_,Tb.az N,J.symm])])))).2
end
inductive vK (c:CA) (vs:List V) (H:Hp) (Q:VK) (e3:XK):Prop
 |mk (M:Addr->Prop) (a:RA) (m:MA) (nf ns kk:Nat) (s:Pg.PS) (cv:Int->Int->List Int) (pk:Int) (W:di) (Z:Zs) (_:vs=[.ref a.rp,.ref m.md]) (_:wF c H M a m nf ns kk s cv pk W Z) (_:Ct H Z cv) (_:kk<=1000) (_:∀H' M' s',wF c H' M' a m nf ns kk s' cv pk W Z->Ct H' Z cv->Step H M (a.own W) H' M' (a.own W)->Q (.bl true) H'):vK c vs H Q e3
section
variable {P:rr}{w:Bd}{K:iF}{mg:Str->Option Value}{base:Heap}
theorem Js:aC ["_law_found","_law_due_here"] ["_law_found","_law_due_here"] (aw nD):=L2.bD
theorem vy {f:Addr}{fd:qi}(F:cK K "_law_numbers" "_law_numbers" nD f fd) (T:kl mg) (N:Df P w K mg base aV 1 "_law_whole" qd) :
  a8 P w K mg base aV 2 f fd ["_law_found","_law_due_here"] iQ:=by
 show F.dh Js (λU A outer s H vs Q E L h=>?_);let#[p,q,xs,rfl,G,O,I,k]:=h;have hs:=ub;show#[_,(ag (aS (PW.pt (iy (rj (fB (aQ dR (by rfl) T.BC b8 (aa (pv 0) (aa (eS (v:=.ty "list") (by rfl) T.list dS rfl) ai))))) (gA (aD (E6 L.iw) (pv 0) (pv 1) (aI _))))) (ak (aE k8)) aF)
  (ak (aE (aQ (kD rfl) (by rfl) T.all uU (aa (gz (cl:=[]) (caps:=[]) #[rfl,ao,ao,rfl,by kernel_rfl,by intro p G;simp at G,by kernel_rfl,by intro p G;simp at G,ao] rfl (fQ (pv 0)) (λ_ _ _ _=>fJ) (λ_ _ _ _=>(pc N L ax (aa (pv 0) ai)))) ai))))),?_]
 show#[0,.ref p,"list",_,true,rfl,.lst G,FH _,true,rfl,bX ?_];show#[0,0,p,q,_,0,rfl,bA.of G,bA.of O,d0 _,d0 _,0,?_];rw[pU,decide_eq_true rfl];show bX ?_;show#[0,p,rfl,#[_,bA.of G],?_];show u0 (K:=K) (a:=p) (xs:=xs.map V.int) (λi ys H2=>i<=xs.length/\ys=(replicate i true).map V.bl/\H2=H) #[KH _,1] (λi ys H2 _ z=>by rw[z.2.2];show bA.of G) ?_ ?_
 .rintro i x ys H2 J ⟨hi,rfl,rfl⟩;rw[rz]at J;let#[n,R,rfl]:=pq.mp J;show#[0,n,5,(kz.mp R).1,?_,rfl]
  .rw[nq,Li];omega
  .rw[List.replicate_succ',BY];rfl
 .rintro ys H2 ⟨_,rfl,rfl⟩ l I;show#[l,0,bA.of af,?_];rw[show(replicate (Sk V.int xs).length true).all id=true from K0.mpr λb S=>(Qd.mp S).2];show k _ (Tb.au I)
theorem Di:aC ["_law_kept","_law_model_here","_law_task","_law_room","_law_page"] ["_law_kept","_law_model_here"] (aw AR):=L2.bD
theorem CD {f:Addr}{fd:qi}{c:CA}(F:cK K "_law_all_right" "_law_all_right" AR f fd) (TR:oP K mg c) (MK:FL P w K mg base c) (be:Df P w K mg base aV 2 "_law_numbers" iQ) (aB:Df P w K mg base aV 1 "_law_held" iC) (a0:Md P w K mg base aV 2 c.C "held" (jx c)) :
  a8 P w K mg base aV 11 f fd ["_law_kept","_law_model_here"] (vK c):=by
 show F.dh Di (λbx A outer s H vs Q E U h=>?_);let#[M,a,m,nf,ns,kk,s',cv,pk,W,Z,rfl,S,C,bE,k]:=h;have hs:=ub;have ac:M m.lr/\¬ a.own W m.lr:=S.sp _ (.inr (.inl rfl));have hn:∀(ob:Obj) u',H m.lr≠some (.bO ob u'):=λob u' w=>(by rw[S.D.hr]at w;cases w);show#[_,(ag (iS (cG C1 rfl (nQ (bh (a9 U) (pv 1) aH bW)) (dF rfl (bg (f9 2 Di.nd) (bg (f9 3 Di.nd) cQ))) (ak (iS (cG C1 rfl (lM (pv 3)) (f9 4 Di.nd) (ak (aS (rj (fB (pc be U ax (aa (pm (pv 0) TR.cl MK.Iq U ax (aa (pv 2) (aa (aA dZ aj (pv 4)) (aa aj ai)))) (aa (bh (a9 U) (pv 3) (pv 4) bW) ai))))) (ak (aE k8)) aF)))))))
  (ak (aE (iI bP (uf (pv 0) TR.cl a0 U ax) (pc aB U ax (aa (pv 1) ai)) (aI _))))),?_]
 show#[0,m.md,.ref m.lr,rfl,S.D.g (yb _ _ _ _),m.lr,0,S.D.hr,hn,λob=>?_];have oF:Off (· = m.lr) H (upd H m.lr (.bO ob (.dK (Tb.dk ed Z)))):=Off.wr rfl;have hF:upd H m.lr (.bO ob (.dK (Tb.dk ed Z))) m.lr=some (.bO ob (.dK (Tb.dk ed Z))):=af;have PS:oM c H M a s' W cv H M s':=#[S.R,S.ri,S.cv,S.R.refl,λ_=>rfl];have P0:=PS.bO (ob:=ob) S.D.hr ac;have back:∀{H9 M9 L},oM c (upd H m.lr (.bO ob (.dK (Tb.dk ed Z)))) M a s' W cv H9 M9 L->oM c H M a s' W cv (upd H9 m.lr (.dK (Tb.dk ed Z))) M9 L:=λP=>PS.back S.D.hr ac P;have aT:∀x∈Z,upd H m.lr (.bO ob (.dK (Tb.dk ed Z))) x.2.ra=some (.dK (Tb.dk dJ x.2.pl)):=λx hx=>oF _ _ (S.D.rm x hx) (S.D.d3 x hx).2.1;have bm:∀t q G,eA Z t q=some G->upd H m.lr (.bO ob (.dK (Tb.dk ed Z))) G=some (.lst ((cv t q).map V.int)):=λt q G e=>oF _ _ (C.at_ _ _ _ e) (λz=>by have:=C.at_ _ _ _ e;rw[z,S.D.hr]at this;cases this);have zo:∀t q G,eA Z t q=some G->cA m Z G:=λt q G e=>by
  let#[z,h1,h2]:=Mp.mp e;let#[y,O,h4]:=pq.mp h2;show .inr (.inr (.inr #[_,Tb.az h1,.inr (.inr #[_,Tb.az O,h4.symm])]))
 generalize bz:upd H m.lr (.bO ob (.dK (Tb.dk ed Z)))=HF at *;show kN (a:=m.lr) (o:=ob) (kvs:=Tb.dk ed Z) (λj σ H2=>∃(v2 v3 v4:Option V) (M2:Addr->Prop) (s2:Pg.PS),σ=[some (.ref a.rp),some (.ref m.md),v2,v3,v4]/\oM c HF M a s' W cv H2 M2 s2) #[2,_,M,s',rfl,P0] (λj σ H2 _ z0=>by let#[_,_,_,_,_,_,I2]:=z0;show I2.st.off _ _ hF ac.2) ?_ ?_
 .rintro j bv v σ H2 T' hk bd ⟨v2,v3,v4,M2,s2,rfl,P2⟩;have ab:(Z.map λx:Int×MT=>((sS x.1:Key),ed x.2))[j]?=some (bv,v):=hk;rw[rz]at ab;let#[x,hx,e]:=pq.mp ab;cases e;have N:=ua hx;have ez:Tb.look Z x.1=some x.2:=Tb.bJ S.D.nd N;let#[xx,am]:=S.tw.get ez;have bl:=S.tw.uY am ez;show#[T',[.int x.1,.ref x.2.ra],rfl,bL.of af,4,0,_,0,5];have P3:=P2.same (Tb.au (X:=.tup [kV (sS x.1),ed x.2]) bd);generalize upd H2 T' (.tup [kV (sS x.1),ed x.2])=H3 at *;have Y:¬ a.own W x.2.ra:=(S.sp _ (.inr (.inr (.inr #[x,N,.inl rfl])))).2;have as:M2 x.2.ra/\¬ a.own W x.2.ra:=#[P3.st.mm _ (S.sp _ (.inr (.inr (.inr #[x,N,.inl rfl])))).1 Y,Y];have O:=P3.st.off _ _ (aT x N) Y;have ap:∀(ob:Obj) u',H x.2.ra≠some (.bO ob u'):=λob u' w=>(by rw[S.D.rm x N]at w;cases w);show#[0,x.2.ra,0,O,ap,λJ=>?_];have hG:upd H3 x.2.ra (.bO J (.dK (Tb.dk dJ x.2.pl))) x.2.ra=some (.bO J (.dK (Tb.dk dJ x.2.pl))):=af;have PG:=P3.bO (ob:=J) O as;have bb:∀{H9 M9 L},oM c (upd H3 x.2.ra (.bO J (.dK (Tb.dk dJ x.2.pl)))) M2 a s2 W cv H9 M9 L->oM c HF M a s' W cv (upd H9 x.2.ra (.dK (Tb.dk dJ x.2.pl))) M9 L:=λP=>P3.back O as P;have a5:∀t q G,eA Z t q=some G->upd H3 x.2.ra (.bO J (.dK (Tb.dk dJ x.2.pl))) G=some (.lst ((cv t q).map V.int)):=λt q G e=>by
   have e2:=P3.st.off _ _ (bm t q G e) (S.sp _ (zo _ _ _ e)).2;rw[ah (λz=>by rw[z,O]at e2;cases e2)];show e2
  generalize upd H3 x.2.ra (.bO J (.dK (Tb.dk dJ x.2.pl)))=HG at *;show lX (a:=x.2.ra) (o:=J) (kvs:=Tb.dk dJ x.2.pl) (λi σ H4=>∃(v4:Option V) (M4:Addr->Prop) (s4:Pg.PS),σ=[some (.ref a.rp),some (.ref m.md),some (.int x.1),some (.ref x.2.ra),v4]/\oM c HG M2 a s2 W cv H4 M4 s4) #[_,M2,s2,rfl,PG] (λi σ H4 _ z0=>by let#[_,_,_,_,I]:=z0;show I.st.off _ _ hG Y) ?_ ?_
  .rintro i a4 v σ H4 hk ⟨bc,M4,s4,rfl,I⟩;have ab:(x.2.pl.map λy:Int×Addr×Int=>((sS y.1:Key),dJ y.2))[i]?=some (a4,v):=hk;rw[rz]at ab;let#[#[pg,y],hy,e]:=pq.mp ab;cases e;have ba:=ua hy;have ep:Tb.look x.2.pl pg=some y:=Tb.bJ (S.D.np x N) ba;show nameQ ?_;dsimp only;show sk λQQ ji je=>?_;let#[g0,g1]:=S.D.rg x N (pg,y) (Tb.az ep);have g0:0<=pg:=g0;have g1:pg<64:=g1;have hb:=qg (x:=xx) (z:=x.2) (ad:=8*pg) (n:=8) bl ae #[ae,λi hi=>by rw[show(8*pg+(i:Int))/8=pg by omega,ep];show λq=>by cases q];let#[a1,a3]:=I.R.ob;have ea:eA Z x.1 pg=some y.1:=(by rw[xp ez,ep];rfl);have l8:=C.EE S.D ea;show#[0,a.rp,a1,0,a3,fE _ _ _ ao ao ao,0,0,_,0,5,M4,a,s4,W,cv,x.1,8*pg,(8),xx,rfl,I.R,I.ri,I.cv,am,av,ae,ae,hb,λH5 M5 s5 l R5 bi bn a2 a7 fl hl=>?_]
   .show .inl #[av,av]
   have P5:=I.next R5 bi bn a2 a7.1;rw[xw (Jm I.ri I.cv am hb),xY l8]at hl;have h5:=P5.st.off _ _ hG Y;have c5:=P5.st.off _ _ (a5 _ _ _ ea) (S.sp _ (zo _ _ _ ea)).2;show#[0,0,x.2.ra,0,(.inl #[_,sS pg,.inr #[J,h5],rfl,by rw[Tb.cL,ep];rfl]:cZ _ _ _ (some (dJ y))),l,y.1,cv x.1 pg,rfl,hl,c5,ae,λH6 s6=>#[true,rfl,je _ #[_,M5,s5,rfl,P5.same s6]]]
  .rintro σ H4 ⟨bc,M4,s4,rfl,I⟩;show#[x.2.ra,J,_,I.st.off _ _ hG Y,ap,2,_,M4,s4,rfl,bb I]
 .rintro σ H2 ⟨v2,v3,v4,M2,s2,rfl,P2⟩;show#[m.lr,ob,_,P2.st.off _ _ hF ac.2,hn,?_];have PE:=back P2;let#[S2,C2]:=AB S C PE;let#[bq,a6]:=S2.R.ob;show#[0,a.rp,bq,0,a6,fE _ _ _ ao ao ao,M2,a,s2,W,rfl,S2.R,by have:=S.lw;omega,λH8 s8=>?_];have P8:=PE.same s8;show#[0,m,_,pk,Z,rfl,(S2.same s8).D,by have:=S.lz;omega,λH9 L=>#[5]];have P9:=P8.same L;let#[S9,C9]:=AB S C P9;rw[S.tw.held S.R S.D,decide_eq_true rfl];show k _ M2 s2 S9 C9 P9.st
end
structure Lv (c:CA) (H0:Hp) (a:RA) (m:MA) (nf ns:Nat) (tl:Addr) (tv:HO) (k:Nat) (H:Hp) (M:Addr->Prop) (s:Pg.PS) (cv:Int->Int->List Int) (pk:Int) (W:di) (Z:Zs):Prop where
 S:wF c H M a m nf ns k s cv pk W Z
 C:Ct H Z cv
 sm:aZ H0 H
 fr:∀b,M b->H0 b=none
 ht:H tl=some tv
 nt:¬ M tl
section
variable {c:CA}{H0 H H':Hp}{M M':Addr->Prop}{a:RA}{m:MA}{nf ns k:Nat}{tl:Addr}{tv:HO}{s s':Pg.PS}{cv cv':Int->Int->List Int}{pk:Int}{W W':di}{Z:Zs}
theorem iR (R:ay c H M a s W) {b:Addr}{xs:List V}(h:H b=some (.tup xs)):¬ a.own W b:=λw=>by
 let#[dx,h1]:=R.pg.ob;let#[cs,h2,_]:=R.pg.fr.hc;let#[N,L,_]:=R.pg.sl.hc;let#[l,I,_]:=R.pg.pd;rcases w with w|w|⟨x,G,w⟩
 .unfold PA.own at w;simp only[wh,By,or_false]at w;rcases w with w|w|w|w|w|w|w<;>rw[w]at h
  .rw[h1]at h;cases h
  .rw[R.pg.fr.hw]at h;cases h
  .rw[h2]at h;cases h
  .rw[R.pg.sl.hw]at h;cases h
  .rw[L]at h;cases h
  .rw[I]at h;cases h
  .rw[R.pg.il]at h;cases h
 .rw[w,R.hd]at h;cases h
 .rcases w with w|⟨y,J,w⟩
  .rw[w,(R.tb x G).at_.hf]at h;cases h
  .rw[w,(R.tb x G).at_.hd y J]at h;cases h
theorem Ct.same (C:Ct H Z cv) (h:aZ H H'):Ct H' Z cv:=C.keep (λa xs e=>h _ _ e) λ_ _ _ h=>h
theorem Lv.same (L:Lv c H0 a m nf ns tl tv k H M s cv pk W Z) (h:aZ H H'):Lv c H0 a m nf ns tl tv k H' M s cv pk W Z:=#[L.S.same h,L.C.same h,L.sm.trans h,L.fr,h _ _ L.ht,L.nt]
theorem wF.up (S:wF c H M a m nf ns k s cv pk W Z) {j:Nat}(h:k<=j):wF c H M a m nf ns j s cv pk W Z:=#[S.R,S.ri,S.cv,S.D,S.p0,S.sp,S.tw,S.lf,S.ls,S.zn,KI S.lw h,KI S.lz h]
theorem Lv.up (L:Lv c H0 a m nf ns tl tv k H M s cv pk W Z) {j:Nat}(h:k<=j):Lv c H0 a m nf ns tl tv j H M s cv pk W Z:=#[L.S.up h,L.C,L.sm,L.fr,L.ht,L.nt]
theorem Cf {D:Dd}{Z2:Zs}(O:Z≠[]) (h:rW D (hZ Z) (hZ Z2)) (N:∀o,D=.close o->∃t,t≠o/\∃z,Tb.look Z t=some z):Z2≠[]:=λe=>by
 have I:∀t,hZ Z2 t=false:=λt=>(by rw[e];rfl);obtain⟨G,J⟩:∃G,hZ Z G=true:=by
  cases S:Z with
  |nil=>show absurd S O
  |cons x r =>
   show#[x.1,?_];unfold hZ;rw[Tb.aO,Sv rfl];rfl
 cases D with
 |begin t=>have:=h G;rw[I G,J]at this;simp at this
 |close o =>
  let#[L,R,Y,U]:=N o rfl;have:=h L;rw[I L,decide_eq_true R]at this;unfold hZ at this;rw[U]at this;cases this
 |copy t o=>have:=h G;rw[I G,J]at this;simp at this
 |map t p q=>have:=h G;rw[I G,J]at this;cases this
 |drop t p q=>have:=h G;rw[I G,J]at this;cases this
 |peek t p q=>have:=h G;rw[I G,J]at this;cases this
 |poke t p q r=>have:=h G;rw[I G,J]at this;cases this
theorem Lv.zE (L:Lv c H0 a m nf ns tl tv k H M s cv pk W Z) {d:Addr}{D:Dd}(hd:gQ H d D) (J:∀t ad G cs,D=.poke t ad G cs->¬ M G) {H2:Hp}{Z2:Zs}(I:oh m H Z H2 Z2):gQ H2 d D:=by
 show#[I.1 _ _ hd.1 λw=>?_,λt ad G cs e=>I.1 _ _ (hd.2 t ad G cs e) λw=>J t ad G cs e (L.S.sp _ w).1];rcases L.S.D.alive _ w with⟨_,h⟩|⟨_,h⟩
 .rw[hd.1]at h;cases h
 .rw[hd.1]at h;cases h
theorem Lv.Fu (L:Lv c H0 a m nf ns tl tv k H M s cv pk W Z) {D:Dd}(a0:∀o,D=.close o->∃t,t≠o/\∃z,Tb.look Z t=some z)
  {H2:Hp}{N:Int}{Z2:Zs}{v:V}(Y:cF H2 m (bS s) N Z2) (p2:0<=N/\∀cv,Ct H Z cv->Ct H2 Z2 (pL D cv)/\Hm D cv H H2 v) (I:oh m H Z H2 Z2) (l2:Z2.length<=Z.length+1) (h2:rW D (hZ Z) (hZ Z2)) (e2:lj 0 (λv=>v≠0) D (eZ Z) (eZ Z2))
  {H3:Hp}{M3:Addr->Prop}{s3:Pg.PS}{W3:di}{J:Int->Int->List Int}{v3:V}(R3:ay c H3 M3 a s3 W3) (a7:Pg.RI s3 (ents W3)) (c3:Cv s3 W3 J/\J=pL D cv/\Hm D cv H2 H3 v3) (st:Step H2 (λb=>(M b/\¬ cA m Z b)\/cA m Z2 b) (a.own W) H3 M3 (a.own W3)) (O:∀b,(s3.ow b).length=(s.ow b).length) (lw:W3.length<=W.length+1) (h3:rW D (hW W) (hW W3)) (e3:lj none (λx=>∃k,x=some k) D (eW W) (eW W3)) :
  Lv c H0 a m nf ns tl tv (k+1) H3 M3 s3 J N W3 Z2:=by
 have G:=L.S;let#[aB,as]:=my G.R G.D G.sp Y I;have ab:aZ H0 H2:=λb u e=>I.1 b u (L.sm _ _ e) λw=>(by rw[L.fr b (G.sp b w).1]at e;cases e);have ap:∀b,((M b/\¬ cA m Z b)\/cA m Z2 b)->H0 b=none:=λb z=>by
  rcases z with z|z
  .show L.fr b z.1
  .rcases I.2 b z with z|z
   .show L.fr b (G.sp b z).1
   .show L.sm.free z
 have U:=I.1 _ _ L.ht λw=>L.nt (G.sp _ w).1;have am:¬ ((M tl/\¬ cA m Z tl)\/cA m Z2 tl):=λz=>by
  rcases z with z|z
  .show L.nt z.1
  .rcases I.2 _ z with z|z
   .show L.nt (G.sp _ z).1
   .rw[L.ht]at z;cases z
 let#[a4,a3]:=m7 Y as st;have a5:=G.tw.next h3 h2 e3 e2;have a2:aZ H0 H3:=λb u e=>st.off b u (ab _ _ e) λw=>(by rw[ap b (aB.dA b w)]at e;cases e);have a1:∀b,M3 b->H0 b=none:=λb z=>(st.mn b z).elim (ap b) λz=>ab.free z;have a6:=st.off _ _ U λw=>am (aB.dA _ w);have aT:¬ M3 tl:=λz=>(st.mn _ z).elim am λz=>(by rw[U]at z;cases z);have ac:Ct H2 Z2 J:=(by rw[c3.2.1];show(p2.2 cv L.C).1);show#[#[R3,a7,c3.1,?_,p2.1,a3,a5,(O true).trans G.lf,(O false).trans G.ls,Cf G.zn h2 a0,3],?_,a2,a1,a6,aT]
 .rw[wA O];show a4
 .have:=G.lw;omega
 .have:=G.lz;omega
 .show#[λt q b h=>?_,ac.inj];let#[z,h5,hh]:=Mp.mp h;let#[y,h6,h7]:=pq.mp hh;show st.off _ _ (ac.at_ _ _ _ h) (as _ (.inr (.inr (.inr #[_,Tb.az h5,.inr (.inr #[_,Tb.az h6,h7.symm])])))).2
end
end Lw
namespace L2
open PySem PySem.Spec PyProof.Rows
section
variable {prog:rr}{w:Bd}{A:KL}{E:Value->mu->Prop}{s:mu}{d it:Addr}{o:Obj}{es:Array DictEntry}{ep i:Nat}
theorem Cm {Q:Value->mu->Prop}(G:s.TypeIs (.ref d) "dict") (hd:(d==LS)=false) (I:s.heap.get? d=some o) (J:o.data=.dict es ep)
  (k:Q (.ref s.heap.objs.size) { s with heap:=s.heap.push { cls:=.type "dict_keyiterator",data:=.fields ([.ref d,.int 0 0,.int es.size 0,.int ep 0].toArray) } }):wpAny (model prog w) A (pyIter (.ref d)) Q E s:=by
 show Qw G F.slot_dict_iter (Mb F.slot_dict_iter G F.entry_dict_iter ?_ (F.args_dict_iter_1 _));unfold Builtin.«dict.__iter__» Builtin.Dict.dictSlotNone;show iN (iN (wpAny_notOrdered_dict G (p4 ?_)));show iN (p4 ?_);unfold Builtin.Dict.showsAll;rw[Su (by rw[hd];show tu)];show iN (p4 (iN (Qz I J (iN (wpAny_dictEpoch I J (iN (Ly (p4 #[0,"dict_keyiterator",_,#[_,Heap.get?_push_size _ rfl,rfl],F.slot_dict_keyiterator_next.lookup,k]))))))))
theorem wK {Q:Option Value->mu->Prop}(S:A.handled=none) (st:s.heap.IsKeyIter it d i es.size ep) (O:s.heap.get? d=some o) (R:o.data=.dict es ep)
  (Y:∀e h',es[i]?=some e->h'.IsKeyIter it d (i+1) es.size ep->Heap.SameBut it s.heap h'->Q (some e.key) { s with heap:=h' })
  (k2:∀h',es[i]?=none->Heap.ExtBut it s.heap h'->Q none { s with heap:=h' }):wpAny (model prog w) A (pyNext (.ref it)) Q E s:=by
 let#[oi,hi,U,I]:=id st;have G:=st.typeIs;unfold pyNext;show iN (wpAny_attempt (Nt (name:=Str.ofString "__next__") G F.slot_dict_keyiterator_next (Mb F.slot_dict_keyiterator_next G F.entry_dict_keyiterator_next ?_ (F.args_dict_keyiterator_next_1 _))));show iN (p4 (iN (iN ?_)))
 first|show iN (Mr G (p4 ?_))|show iN (Nj G (p4 ?_))
 show iN (wpAny_fieldsOf hi I ?_);have J:Builtin.Dict_items.ownsTuple "dict_keyiterator" = false:=av;rw[J];simp only[LF,if_false];change wpAny _ _ (ite ((Value.ref d==Value.none)=true) _ _) _ _ s;rw[Su (show ¬ ((Value.ref d==Value.none)=true)from tu)];show iN (p4 (iN (Qz O R ?_)));rw[Su (by simp)];show iN (p4 (iN (wpAny_dictEpoch O R ?_)));rw[Su (by simp)];show p4 ?_;simp only[show ¬ ((i:Int)<0)from by omega,if_false,LY];cases N:es[i]? with
 |some e =>
  show iN ?_
  first|show iN (Mr G (p4 ?_))|show iN (Nj G (p4 ?_))
  show iN (Po G ?_);show iN (wpAny_setField hi I (by rw[J];simp) ?_);have L:(s.heap.update it (Obj.mapFields (·.setIfInBounds 1 (rawInt ((i:Int)+1))))).IsKeyIter it d (i+1) es.size ep :=
   #[_,Heap.get?_update_self _ hi (Obj.isFreed_of_fields (Obj.data_mapFields I _)),(Obj.cls_mapFields ..).trans U,by rw[Obj.data_mapFields I];simp[rawInt]]
  show iN (LX (iN (Po (s:={ s with heap:=s.heap.update it (Obj.mapFields (·.setIfInBounds 1 (rawInt ((i:Int)+1)))) }) L.typeIs ?_)));show p4 (p4 #[0,p4 (Y _ _ N L (Heap.SameBut.update ..))])
 |none =>
  show iN ?_
  first|show iN (Mr G (p4 ?_))|show iN (Nj G (p4 ?_))
  show iN (wpAny_setField hi I (by rw[J];simp) (iN ?_));simp only[newExc,newTuple];show iN (Ly ?_ (by size_fits));show iN (m:=firstArgMember _ _) (wpAny_of_eq (a:=Value.none) (by first|rfl|(simp only[firstArgMember];rfl)) (Ly ?_ (by size_fits)));simp only[raiseNew];show iN (wpAny_handled ?_);rw[show A.in1.handled=none from S];show iN (p4 (wpAny_throw ?_));show iN (wpAny_isInstance (T := "StopIteration") (b:=true) #[_,Heap.get?_push_size _ rfl,rfl] isSubtype_stop ?_);show p4 (k2 _ N (((Heap.SameBut.update ..).extBut.push _).push _))
end
noncomputable def FO (a:Addr) (o:Obj) (kvs:List (List Key×V)):It :=
 #[λi H=>H a=some (.bO o (.dT kvs))/\i<kvs.length,λi H x H'=>H'=H/\∃b k v,kvs[i]?=some (k,v)/\x=.ref b/\H b=some (.tup (k.map kV)),λi H=>H a=some (.bO o (.dT kvs))/\kvs.length<=i]
theorem kt_at {H:Hp}{l:List (List Key×V)}{m:List (List Key×Addr×Value)}(r:KT H l m):∀i:Nat,(l[i]?=none/\m[i]?=none)\/∃p q,l[i]?=some p/\m[i]?=some q/\H q.2.1=some (.tup (p.1.map kV)):=by
 induction r with
 |nil=>intro i;show .inl #[1]
 | @cons p q ps J G t I =>
  intro i;cases i with
  |zero=>show .inr #[p,q,1,G.2.1]
  |succ j=>show I j
theorem xC {P:rr}{w:Bd}{H:Hp}{h:Heap}{a:Addr}{o:Obj}{kvs:List (List Key×V)}(ok:iZ P w H h) (e:H a=some (.bO o (.dT kvs))) :
  (a==LS)=false/\h.get? a=some o/\∃es,o.data=.dict es (r6 o)/\es.size=kvs.length/\∀i:Nat,(kvs[i]?=none/\es[i]?=none)\/∃p x b,kvs[i]?=some p/\es[i]?=some x/\x.key=.ref b/\H b=some (.tup (p.1.map kV)):=by
 let#[N,_,hd,xs,r,o',es,ep,h1,h2,O,J,U]:=(show bT P w H h a (.bO o (.dT kvs))from ok a _ e);rw[N]at h1;cases h1;have S:r6 o=ep:=(by unfold r6;rw[O]);have L:∀i:Nat,es[i]?=(xs[i]?).map (entryOfKey (NF (br P w))):=λi=>(by rw[<-LL,J,rz]);show#[hd,N,es,by rw[S];show O,by rw[<-Lr,J,nq];show(Paired.length r).symm,λi=>?_];rcases kt_at r i with⟨G,I⟩|⟨p,q,G,I,R⟩
 .show .inl #[G,by rw[L,I];rfl]
 .show .inr #[p,_,q.2.1,G,by rw[L,I];rfl,rfl,R]
theorem vR {P:rr}{w:Bd}{K:iF}{tg:KN}(a it:Addr) (ap:a≠it) (o:Obj) (kvs:List (List Key×V)):Turn P w K tg (FO a o kvs) [it] it (λi h=>h.IsKeyIter it a i kvs.length (r6 o)) where
 mem:=by simp
 obj:=λi h st b N=>by
  have e:b=it:=(by simpa using N);subst e;let#[ob,h1,_,h3]:=st;show#[ob,h1,λv z=>by rw[h3]at z;cases z]
 keep:=λi h h' st k=>st.at λo e=>k it (by simp) o e
 item:=by
  intro X hP hw hK R i pins s σ H E I O st hg;subst hP hw hK;let#[ab,U]:=hg;let#[f0,f1,f2,Y,S,f5]:=O it (by simp);let#[hd,ho,es,he,hz,al]:=xC I.bE ab;rw[<-hz]at st ⊢;show wK (I.ok.hd R) st ho he (λe h' G ac am=>?_) (λh' G _=>?_)
  .have I1:Inv X pins σ H { s with heap:=h',toks:=s.toks }:=I.turned (λb o N e=>(am.2 b N).trans e) f0 f1 Y S f5;let#[ob,h1,h2,h3]:=id ac;rcases al i with⟨_,L⟩|⟨p,x,b,J,L,a3,a4⟩
   .rw[L]at G;cases G
   .rw[L]at G;cases G;rw[a3];show#[0,mT (s:={ s with heap:=h' }) (n := "dict_keyiterator") h1 h2 h3 av #[.ref b,H,I1,rfl,#[rfl,b,p.1,p.2,J,rfl,a4],ac,λb N=>(O b N).1]]
  .rcases al i with⟨J,_⟩|⟨p,x,b,J,L,_⟩
   .rw[ti U]at J;cases J
   .rw[L]at G;cases G
 done:=by
  intro X hP hw hK R i pins s σ H E I O st hg;subst hP hw hK;let#[ab,U]:=hg;let#[f0,f1,f2,Y,S,f5]:=O it (by simp);let#[hd,ho,es,he,hz,al]:=xC I.bE ab;rw[<-hz]at st;show wK (I.ok.hd R) st ho he (λe h' G _ _=>?_) (λh' G eb=>#[rfl,I.turned (t':=s.toks) (λb o N e=>eb b o N e) f0 f1 Y S f5]);rcases al i with⟨_,L⟩|⟨p,x,b,J,L,_⟩
  .rw[L]at G;cases G
  .rw[Lk U]at J;cases J
 self:=λ_ _ _ _ _ st h=>Pz st h
noncomputable def En (H₀:Hp) (td:TE):TI:=λσ H R=>td σ H λx H1=>xZ λa kvs=>Em (x=.ref a) (H1 a=some (.dT kvs)) ((∀o G,H₀ a≠some (.bO o G))) (∀o,R (FO a o kvs) (upd H1 a (.bO o (.dT kvs))))
section
variable {X:Cx}{tg:KN}
theorem Ab {l:KN}{td:TE}(S:PE X l td):PI X tg l (En X.H₀ td):=by
 intro pins s σ H R I h;show bV (S pins s σ H _ I h) λv s1 U=>?_;let#[x,H1,L,r1,a,kvs,e,G,Y,q]:=U;subst e;cases r1;let#[_,hd,xs,ab,N]:=DE L.bE G;have hT:=N.typeIs;let#[ob,es,ep,h1,h2,O,h4,h5]:=id N;have J:Inv X pins σ (upd H1 a (.bO ob (.dT kvs))) s1:=L.swap G Y (λ_ z=>nomatch z) (λ_ z=>nomatch z) (λ_ z=>nomatch z) #[h1,(show bT X.prog X.w H1 s1.heap a (.dT kvs)from L.bE a _ G).mW (λ_ _ _ z=>z) (λc z=>by rw[ah (λe=>by rw[e,G]at z;cases z)];show z) λc xs z=>by rw[ah (λe=>by rw[e,G]at z;cases z)];show z];have lt:a<s1.heap.objs.size:=Heap.lt_size h1;show Cm hT hd h1 O ?_;show#[s1.heap.objs.size,[s1.heap.objs.size],_,FO a ob kvs,0,J.kept (t':=s1.toks) λb o e=>Heap.get?_push_of_some _ e,vR a _ (KZ lt) ob kvs,#[_,Heap.get?_push_size _ rfl,5],λb hb=>?_,q ob]
 .rw[Paired.length ab,show r6 ob=ep by unfold r6;rw[O],show es.size=xs.length by rw[<-Lr,h4,nq]];rfl
 .have e:b=s1.heap.objs.size:=(by simpa using hb);subst e;show J.jn (qj _) (J.bE.fresh (qj _))
noncomputable def Fe (H₀:Hp) (t:TS):TS:=λD σ H=>t { D with
 nx:=λI H'=>∃a o kvs,H' a=some (.bO o (.dT kvs))/\(∀o G,H₀ a≠some (.bO o G))/\D.nx I (upd H' a (.dT kvs))
 rt:=λv H'=>∃a o kvs,H' a=some (.bO o (.dT kvs))/\(∀o G,H₀ a≠some (.bO o G))/\D.rt v (upd H' a (.dT kvs)) } σ H
theorem Inv.Ds {pins:List (Addr×Obj)}{σ:St}{H:Hp}{s:mu}{a:Addr}{o:Obj}{kvs:List (List Key×V)}(I:Inv X pins σ H s) (h:H a=some (.bO o (.dT kvs))) (h1:∀o G,X.H₀ a≠some (.bO o G)):Inv X pins σ (upd H a (.dT kvs)) s :=
 I.swap h h1 (λ_ z=>nomatch z) (λ_ z=>nomatch z) (λ_ z=>nomatch z) ((show bT X.prog X.w H s.heap a (.bO o (.dT kvs))from I.bE a _ h).2.mW (λ_ _ _ z=>z) (λc z=>by rw[ah (λe=>by rw[e,h]at z;cases z)];show z) λc xs z=>by rw[ah (λe=>by rw[e,h]at z;cases z)];show z)
theorem zL {st:KP}{t:TS}(h:PS X st t):PS X st (Fe X.H₀ t):=by
 intro pins s σ H D I q;show bV (h pins s σ H _ I q) λf s1 G=>?_;cases f with
 |next =>
  let#[O,H',J,a,o,kvs,R,N,L]:=G;show#[O,_,J.Ds R N,L]
 |ret u =>
  let#[v,O,H',J,r,a,o,kvs,R,N,L]:=G;show#[v,O,_,J.Ds R N,r,L]
 |brk=>show G
 |cont=>show G
end
theorem yM {a:Addr}{o:Obj}{kvs:List (List Key×V)}{g:TG}{tb:TS}{D:Ends}{σ:St}{H:Hp}(Pv:Nat->St->Hp->Prop) (U:Pv 0 σ H) (O:∀i σ H,i<=kvs.length->Pv i σ H->H a=some (.bO o (.dT kvs)))
  (hs:∀i b k v σ H,kvs[i]?=some (k,v)->H b=some (.tup (k.map kV))->Pv i σ H->g (.ref b) σ H λG H2=>tb { D with nx:=Pv (i+1),ct:=Pv (i+1),bk:=D.nx } G H2) (hd:∀σ H,Pv kvs.length σ H->D.nx σ H) :
  ∃W:Nat->Nat->St->Hp->Prop,(∃m,W 0 m σ H)/\∀i m σ H,W i m σ H ->
   ((FO a o kvs).stop i H/\D.nx σ H)\/((FO a o kvs).go i H/\∃N:St->Hp->Prop,(∀I H',N I H'->∃L,L<m/\W (i+1) L I H')/\∀x H',(FO a o kvs).Bz i H x H'->g x σ H' λG H2=>tb { D with nx:=N,ct:=N,bk:=D.nx } G H2):=by
 show#[λi m σ H=>m=kvs.length-i/\i<=kvs.length/\Pv i σ H,#[kvs.length,by simp,KH _,U],?_];rintro i m σ H ⟨rfl,hi,p⟩;have q:=O i σ H hi p;by_cases J:i<kvs.length
 .show .inr #[#[q,J],Pv (i+1),λI H' Y=>#[kvs.length-(i+1),ae,rfl,J,Y],λx H' y=>?_];let#[e,b,k,v,R,ex,S]:=y;subst e ex;show hs i b k v σ _ R S p
 .have e:i=kvs.length:=ae;subst e;show .inl #[#[q,qj _],hd σ H p]
end L2
namespace Lw
open PySem L2 St
noncomputable abbrev mX:KP:=inClass (top 14) 13
noncomputable abbrev mz:KP:=inClass (top 33) 10
noncomputable abbrev qG:KP:=top 51
noncomputable abbrev vL:KP:=top 52
structure FY (H H':Hp) (s:Pg.PS) (p l1 l2:Addr):Prop where
 sm:aZ H H'
 f1:H l1=none
 f2:H l2=none
 fp:H p=none
 n:l1≠l2
 h1:H' l1=some (.lst ((s.ow true).map V.int))
 h2:H' l2=some (.lst ((s.ow false).map V.int))
 hp:H' p=some (.tup [.ref l1,.ref l2])
inductive j0 (C CS:Addr) (vs:List V) (H:Hp) (Q:VK) (e3:XK):Prop
 |mk (M:Addr->Prop) (A:PA) (s:Pg.PS) (_:vs=[.ref A.pg]) (_:bM C CS H M A s) (_:∀H' p l1 l2,FY H H' s p l1 l2->Q (.ref p) H'):j0 C CS vs H Q e3
inductive j9 (c:CA) (vs:List V) (H:Hp) (Q:VK) (e3:XK):Prop
 |mk (M:Addr->Prop) (a:RA) (s:Pg.PS) (W:di) (_:vs=[.ref a.rp]) (_:ay c H M a s W) (_:∀H' p l1 l2,FY H H' s p l1 l2->Q (.ref p) H'):j9 c vs H Q e3
noncomputable def kP (t q:Int):List Key:=[.inl t,.inl q]
theorem BK {s:Pg.PS}{H H':Hp}{v:V}{e:Option Pg.Ent}(h:Hl s H v e) (k:∀b xs,H b=some (.tup xs)->H' b=some (.tup xs)):Hl s H' v e:=by
 cases e with
 |none=>show h
 |some e =>
  cases e with
  |none=>let#[t,a,b]:=h;show#[t,a,k _ _ b]
  |some x=>let#[t,b,n,a,c,d]:=h;show#[t,b,n,a,c,k _ _ d]
noncomputable def yX (s:Pg.PS) (W:di) (H:Hp) (kvs:List (List Key×V)):Prop:=∀k v,bZ kvs k=some v->∃t q e,k=kP t q/\eW W t q=some e/\Hl s H v (some e)
theorem yX.keep {s:Pg.PS}{W:di}{H H':Hp}{kvs:List (List Key×V)}(h:yX s W H kvs) (k:∀b xs,H b=some (.tup xs)->H' b=some (.tup xs)):yX s W H' kvs:=λx v e=>by
 let#[t,q,e,a,b,c]:=h x v e;show#[t,q,e,a,b,BK c k]
structure LP (HB H:Hp) (s:Pg.PS) (W:di) (d:Addr) (n:Nat) (B:Int->Int->Prop):Prop where
 sm:aZ HB H
 fd:HB d=none
 dd:∃kvs,H d=some (.dT kvs)/\kvs.length<=n/\yX s W H kvs/\∀t q,B t q->∃v,bZ kvs (kP t q)=some v
inductive nW (c:CA) (vs:List V) (H:Hp) (Q:VK) (e3:XK):Prop
 |mk (M:Addr->Prop) (a:RA) (m:MA) (nf ns kk:Nat) (s:Pg.PS) (cv:Int->Int->List Int) (pk:Int) (W:di) (Z:Zs) (_:vs=[.ref a.rp,.ref m.md]) (_:wF c H M a m nf ns kk s cv pk W Z) (_:Z.length<=1000) (_:∀(H':Hp) (d:Addr) (kvs:List (List Key×V)),aZ H H'->H d=none->H' d=some (.dT kvs)->yX s W H' kvs->(∀t q,eZ Z t q≠none->∃v,bZ kvs (kP t q)=some v)->Q (.ref d) H'):nW c vs H Q e3
theorem Iw (D:Dd):wa (pA D) 0=some (.str (k9 D)):=by cases D<;>rfl
noncomputable def Wd (H:Hp) (v:V) (x:Str):Prop:=∃t r,v=.ref t/\H t=some (.tup (.str x::r))
noncomputable def Jr:Dd->Nat
 |.peek _ _ n=>n
 |.poke _ _ _ cs=>cs.length
 |_=>0
inductive rC (c:CA) (vs:List V) (H:Hp) (Q:VK) (e3:XK):Prop
 |mk (M:Addr->Prop) (a:RA) (s:Pg.PS) (W:di) (md d b f:Addr) (kb kf:List (List Key×V)) (D:Dd) (_:vs=[.ref a.rp,.ref md,.ref d,.ref b,.ref f]) (_:ay c H M a s W) (_:gQ H d D) (_:H b=some (.dT kb)) (_:H f=some (.dT kf)) (_:b≠f) (_:(0:Int)∈s.ow true->∀k v,bZ kf k=some v->∃x,Wd H v x/\(x = "slot" -> ∀u,bZ kb k=some u->∃y,Wd H u y/\y ≠ "frame")) (_:∀t ad,(∃n,D=.peek t ad n)\/(∃cc cs,D=.poke t ad cc cs)->∃v x,bZ kf (kP t ((ad+Jr D-1)/8))=some v/\Wd H v x/\x ≠ "slot") (_:∀H',aZ H H'->Q (.bl true) H'):rC c vs H Q e3
section
variable {HB H H':Hp}{s:Pg.PS}{W:di}{d:Addr}{n n':Nat}{B B':Int->Int->Prop}
theorem LP.same (I:LP HB H s W d n B) (h:aZ H H'):LP HB H' s W d n B:=by
 let#[G,fd,kvs,a,b,c,e]:=I;show#[G.trans h,fd,kvs,h _ _ a,b,c.keep λb xs z=>h _ _ z,e]
theorem LP.imp (I:LP HB H s W d n B) (l:n<=n') (h:∀t q,B' t q->B t q):LP HB H s W d n' B':=by
 let#[G,fd,kvs,a,b,c,e]:=I;show#[G,fd,kvs,a,KI b l,c,λt q z=>e t q (h t q z)]
theorem LP.wr (I:LP HB H s W d n B) {r:Addr}{o:HO}(G:d≠r) (J:∀xs,H r≠some (.tup xs)):LP (upd HB r o) (upd H r o) s W d n B:=by
 let#[L,fd,kvs,a,b,c,e]:=I;show#[λc u e=>?_,by rw[ah G];show fd,kvs,by rw[ah G];show a,b,c.keep λb xs z=>by rw[ah (λy=>J xs (by rw[<-y];show z))];show z,e];by_cases z:c=r
 .rw[z,af]at e ⊢;show e
 .rw[ah z]at e ⊢;show L c u e
theorem LP.back {r:Addr}{o u:HO}(I:LP (upd HB r o) H s W d n B) (N:HB r=some u) (J:∀xs,H r≠some (.tup xs)):LP HB (upd H r u) s W d n B:=by
 let#[L,fd,kvs,a,b,c,e]:=I;have G:d≠r:=λz=>(by rw[z,af]at fd;cases fd);show#[λc w e=>?_,by rw[ah G]at fd;show fd,kvs,by rw[ah G];show a,b,c.keep λb xs z=>by rw[ah (λy=>J xs (by rw[<-y];show z))];show z,e];by_cases z:c=r
 .rw[z,af, <-N, <-z];show e
 .rw[ah z];show L c w (by rw[ah z];show e)
theorem LP.put {kvs:List (List Key×V)}{t q:Int}{v:V}{e:Pg.Ent}(sm:aZ HB H) (fd:HB d=none) (h:H d=some (.dT kvs)) (l:kvs.length<=n) (A:yX s W H kvs) (N:∀t q,B t q->∃v,bZ kvs (kP t q)=some v) (Y:eW W t q=some e) (S:Hl s H v (some e)):LP HB (upd H d (.dT (putK kvs (kP t q) v))) s W d (n+1) (λt' G=>B t' G\/(t'=t/\G=q)):=by
 have I:∀b xs,H b=some (.tup xs)->upd H d (.dT (putK kvs (kP t q) v)) b=some (.tup xs):=λb xs z=>(by rw[ah (λy=>by rw[y,h]at z;cases z)];show z);show#[λc u z=>?_,fd,_,af,KI (eG _ _ _) (QB l),λk u z=>?_,λt' G z=>?_]
 .rw[ah (λy=>by rw[y,fd]at z;cases z)];show sm c u z
 .rw[t7]at z;by_cases c:k=kP t q
  .rw[Sv c]at z;cases z;show#[t,q,e,c,Y,BK S I]
  .rw[Su c]at z;let#[O,q1,L,R,U,J]:=A k u z;show#[O,q1,L,R,U,BK J I]
 .rw[t7];by_cases c:kP t' G=kP t q
  .rw[Sv c];show#[0]
  .rw[Su c];rcases z with z|⟨rfl,rfl⟩
   .show N _ _ z
   .show absurd rfl c
end
section
variable {P:rr}{w:Bd}{K:iF}{mg:Str->Option Value}{base:Heap}
theorem p5:aC ["self"] ["self"] (aw mX):=L2.bD
theorem wk {f C CS:Addr}{fd:qi}(F:cK K "counts" "Paging.counts" mX f fd) (T:ou K mg C) (TS:Txt K mg CS):a8 P w K mg base aV 1 f fd ["self"] (j0 C CS):=by
 show F.dh p5 (λab A outer s H vs Q E hr h=>?_);let#[M,J,s',rfl,G,k]:=h;let#[dx,ho]:=G.ob;let#[d1,hf]:=G.fr.ob;show#[_,(ak (aE (b7 (aa (bH cR (by rfl) T.list dS (aa (aK (aK (pv 0) rfl) rfl) ai)) (aa (bH cR (by rfl) T.list dS (aa (aK (aK (pv 0) rfl) rfl) ai)) ai))))),?_];show#[0,J.pg,C,dx,_,0,ho,T.cl,T.nF,mC _ _,J.fp,CS,d1,_,0,hf,TS.cl,TS.nO,eB _ _,J.fo,0,.inl (bA.of G.fr.hw),λR S=>?_];have I:=Tb.au (X:=.lst ((s'.ow true).map V.int)) S;let#[d2,hg]:=G.sl.ob;show#[0,J.pg,C,dx,_,0,I _ _ ho,T.cl,T.nS,sZ _ _,J.sp,CS,d2,_,0,I _ _ hg,TS.cl,TS.nO,eB _ _,J.so,0,.inl (bA.of (I _ _ G.sl.hw)),λU L=>?_];have O:=Tb.au (X:=.lst ((s'.ow false).map V.int)) L;show#[d9,λp Y=>?_];have N:=Tb.au (X:=.tup [.ref R,.ref U]) Y;show k _ p R U #[I.trans (O.trans N),S,I.free L,I.free (O.free Y),(λz=>by rw[z,af]at L;cases L),N _ _ (O _ _ af),N _ _ af,af]
theorem JU:aC ["self"] ["self"] (aw mz):=L2.bD
theorem vM {f:Addr}{fd:qi}{c:CA}(F:cK K "counts" "Rooms.counts" mz f fd) (T:oP K mg c) (TP:ou K mg c.P) (L:Md P w K mg base aV 1 c.P "counts" (j0 c.P c.S)) :
  a8 P w K mg base aV 2 f fd ["self"] (j9 c):=by
 show F.dh JU (λN A outer s H vs Q E I h=>?_);let#[M,a,s',W,rfl,R,k]:=h;let#[dx,J]:=R.ob;let#[G,h2]:=R.pg.ob;show#[_,(ak (aE (uf (aK (pv 0) rfl) TP.cl L I ax))),?_];show#[0,a.rp,c.C,dx,_,0,J,T.cl,T.nP,kW _ _ _,a.A.pg,G,0,h2,cJ _ _ ao ao ao ao ao,M,a.A,s',rfl,R.pg,k]
theorem uC:aC ["_law_kept","_law_model_here","_law_places_here","_law_task","_law_room","_law_page"] ["_law_kept","_law_model_here"] (aw qG):=L2.bD
theorem xJ {f:Addr}{fd:qi}{c:CA}(F:cK K "_law_places" "_law_places" qG f fd) (TR:oP K mg c) (MK:FL P w K mg base c) :
  a8 P w K mg base aV 5 f fd ["_law_kept","_law_model_here"] (nW c):=by
 show F.dh uC (λbi A outer s H vs Q E hr h=>?_);let#[M,a,m,nf,ns,kk,s',cv,pk,W,Z,rfl,S,hz,k]:=h;have hs:=ub;have aT:M m.lr/\¬ a.own W m.lr:=S.sp _ (.inr (.inl rfl));have hn:∀(ob:Obj) u',H m.lr≠some (.bO ob u'):=λob u' w=>(by rw[S.D.hr]at w;cases w);show#[_,(ag (dn 2 uC.nd Be)
  (ag (iS (cG C1 rfl (nQ (bh (a9 hr) (pv 1) aH bW)) (dF rfl (bg (f9 3 uC.nd) (bg (f9 4 uC.nd) cQ))) (ak (iS (cG C1 rfl (lM (pv 4)) (f9 5 uC.nd) (ak (cV (pm (pv 0) TR.cl MK.BO hr ax (aa (pv 3) (aa (pv 5) ai))) (dU (pv 2) (b7 (aa (pv 3) (aa (pv 5) ai))) (set_dict (a9 hr))))))))))
  (ak (aE (pv 2))))),?_]
 intro d f2;have sm:=Tb.au (X:=.dT []) f2;have I5:LP H (upd H d (.dT [])) s' W d 0 (λ_ _=>False):=#[sm,f2,[],af,qj _,(λv x e=>by cases e),λ_ _ z=>z.elim];change jz _ _ _ _ (upd H d (.dT []));generalize upd H d (.dT [])=H5 at *;have D5:=S.D.same sm;show#[0,m.md,.ref m.lr,rfl,D5.g (yb _ _ _ _),m.lr,0,D5.hr,hn,λob=>?_];have oF:Off (· = m.lr) H (upd H m.lr (.bO ob (.dK (Tb.dk ed Z)))):=Off.wr rfl;have hF:upd H m.lr (.bO ob (.dK (Tb.dk ed Z))) m.lr=some (.bO ob (.dK (Tb.dk ed Z))):=af;have RF:ay c (upd H m.lr (.bO ob (.dK (Tb.dk ed Z)))) M a s' W:=S.R.BH (B:=(· = m.lr)) oF (λb z=>by rw[z];show aT) (λb z=>.inr #[_,(congrArg H z).trans S.D.hr]) (λb z=>.inl z) (λb z _=>z) (λb z e=>by
  by_cases q:b=m.lr
  .rw[q,hF]at e;cases e
  .rw[ah q]at e;show S.R.mt b z e)
 have ac:∀x∈Z,upd H m.lr (.bO ob (.dK (Tb.dk ed Z))) x.2.ra=some (.dK (Tb.dk dJ x.2.pl)):=λx N=>oF _ _ (S.D.rm x N) (S.D.d3 x N).2.1;have m1:d≠m.lr:=λz=>(by rw[z,S.D.hr]at f2;cases f2);have IF:=I5.wr (r:=m.lr) (o:=.bO ob (.dK (Tb.dk ed Z))) m1 (λxs z=>by rw[D5.hr]at z;cases z);have back:∀{H9 i B},LP (upd H m.lr (.bO ob (.dK (Tb.dk ed Z)))) H9 s' W d i B->LP H (upd H9 m.lr (.dK (Tb.dk ed Z))) s' W d i B:=λI=>I.back S.D.hr λxs z=>(by rw[I.sm _ _ hF]at z;cases z);generalize bn:upd H m.lr (.bO ob (.dK (Tb.dk ed Z)))=L at *;show kN (a:=m.lr) (o:=ob) (kvs:=Tb.dk ed Z) (λj σ H2=>∃(v3 v4 v5:Option V),σ=[some (.ref a.rp),some (.ref m.md),some (.ref d),v3,v4,v5]/\LP L H2 s' W d (64*j) (λt q=>∃x∈Z.take j,x.1=t/\Tb.look x.2.pl q≠none)) #[2,0,IF.imp (qj _) (λt q z=>by let#[x,N,_]:=z;simp at N)] (λj σ H2 _ z0=>by let#[_,_,_,_,U]:=z0;show U.sm _ _ hF) ?_ ?_
 .rintro j be v σ H2 T' hk a6 ⟨v3,v4,v5,rfl,U⟩;have ab:(Z.map λx:Int×MT=>((sS x.1:Key),ed x.2))[j]?=some (be,v):=hk;rw[rz]at ab;let#[x,N,e]:=pq.mp ab;cases e;have J:=ua N;have hj:j<Z.length:=(kz.mp N).1;have ez:Tb.look Z x.1=some x.2:=Tb.bJ S.D.nd J;let#[xx,am]:=S.tw.get ez;have a4:=S.tw.uY am ez;have bm:x.2.pl.length<=64:=S.D.len J;show#[T',[.int x.1,.ref x.2.ra],rfl,bL.of af,4,0,_,0,5];have I3:=U.same (Tb.au (X:=.tup [kV (sS x.1),ed x.2]) a6);generalize upd H2 T' (.tup [kV (sS x.1),ed x.2])=H3 at *;have aB:∀(ob:Obj) u',H x.2.ra≠some (.bO ob u'):=λob u' w=>(by rw[S.D.rm x J]at w;cases w);have a5:M x.2.ra/\¬ a.own W x.2.ra:=S.sp _ (.inr (.inr (.inr #[x,J,.inl rfl])));have h3:=I3.sm _ _ (ac x J);show#[0,x.2.ra,0,h3,aB,λG=>?_];have m1:d≠x.2.ra:=λz=>(by have:=I3.fd;rw[z,ac x J]at this;cases this);have oG:Off (· = x.2.ra) L (upd L x.2.ra (.bO G (.dK (Tb.dk dJ x.2.pl)))):=Off.wr rfl;have hG:upd L x.2.ra (.bO G (.dK (Tb.dk dJ x.2.pl))) x.2.ra=some (.bO G (.dK (Tb.dk dJ x.2.pl))):=af;have RG:ay c (upd L x.2.ra (.bO G (.dK (Tb.dk dJ x.2.pl)))) M a s' W:=RF.BH (B:=(· = x.2.ra)) oG (λb z=>by rw[z];show a5) (λb z=>.inr #[_,(congrArg L z).trans (ac x J)]) (λb z=>.inl z) (λb z _=>z) (λb z e=>by
   by_cases q:b=x.2.ra
   .rw[q,hG]at e;cases e
   .rw[ah q]at e;show RF.mt b z e)
  have IG:=I3.wr (r:=x.2.ra) (o:=.bO G (.dK (Tb.dk dJ x.2.pl))) m1 (λxs z=>by rw[h3]at z;cases z);have a2:∀{H9 i B},LP (upd L x.2.ra (.bO G (.dK (Tb.dk dJ x.2.pl)))) H9 s' W d i B->LP L (upd H9 x.2.ra (.dK (Tb.dk dJ x.2.pl))) s' W d i B:=λI=>I.back (ac x J) λxs z=>(by rw[I.sm _ _ hG]at z;cases z);generalize bl:upd L x.2.ra (.bO G (.dK (Tb.dk dJ x.2.pl)))=HG at *;show lX (a:=x.2.ra) (o:=G) (kvs:=Tb.dk dJ x.2.pl) (λi σ H4=>∃(v5:Option V),σ=[some (.ref a.rp),some (.ref m.md),some (.ref d),some (.int x.1),some (.ref x.2.ra),v5]/\LP HG H4 s' W d (64*j+i) (λt q=>(∃x∈Z.take j,x.1=t/\Tb.look x.2.pl q≠none)\/(t=x.1/\q∈(x.2.pl.take i).map (·.1)))) #[0,IG.imp (qj _) (λt q z=>z.elim id λz=>by simp at z)] (λq σ H4 _ z0=>by let#[_,_,O]:=z0;show O.sm _ _ hG) ?_ ?_
  .rintro i kk v σ H4 hk ⟨a3,rfl,O⟩;have ab:(x.2.pl.map λy:Int×Addr×Int=>((sS y.1:Key),dJ y.2))[i]?=some (kk,v):=hk;rw[rz]at ab;let#[y,hy,e]:=pq.mp ab;cases e;have a0:=ua hy;have hi:i<x.2.pl.length:=(kz.mp hy).1;have ey:Tb.look x.2.pl y.1=some y.2:=Tb.bJ (S.D.np x J) a0;have R4:=RG.same O.sm;let#[dx,ho]:=R4.ob;show#[0,a.rp,dx,0,ho,fE _ _ _ ao ao ao,0,0,M,a,s',W,x.1,y.1,xx,rfl,R4,S.ri,am,λH6 v s6 ap=>?_];cases he:Tb.look xx.t y.1 with
   |none=>rw[(a4 y.1).mp he]at ey;cases ey
   |some en =>
   rw[he]at ap;show#[0,0,0,d9,λtk bc=>?_];have s7:=Tb.au (X:=.tup [.int x.1,.int y.1]) bc;have h7:upd H6 tk (.tup [.int x.1,.int y.1]) tk=some (.tup [.int x.1,.int y.1]):=af;let#[ba,bd,kvs,k1,k2,k3,k4]:=(O.same s6).same s7;have bb:=BK ap (λb xs z=>s7 _ _ z);show#[d,0,fA.t (k:=kP x.1 y.1) k1 h7 ae,0,(LP.put ba bd k1 k2 k3 k4 (by rw[kT am];show he) bb).imp (qj _) λt q z=>?_];rcases z with z|⟨z1,Y⟩
   .show .inl (.inl z)
   .rw[Lm,hy,BY]at Y;rcases oR.mp Y with Y|Y
    .show .inl (.inr #[z1,Y])
    .show .inr #[z1,by simpa using Y]
  .rintro σ H4 ⟨a3,rfl,O⟩;show#[x.2.ra,G,_,O.sm _ _ hG,aB,2,0,(a2 O).imp ?_ λt q z=>?_]
   .rw[Tb.cg];omega
   .let#[x',h1,h2,as]:=z;rw[Lm,N]at h1;rcases oR.mp h1 with h1|h1
    .show .inl #[x',h1,h2,as]
    .have:x'=x:=(by simpa using h1);subst this;show .inr #[h2.symm,?_];rw[Tb.cg,Lz];cases e:Tb.look x'.2.pl q with
     |none=>show absurd e as
     |some u=>show rn.mpr #[_,Tb.az e,rfl]
 .rintro σ H2 ⟨v3,v4,v5,rfl,U⟩;let#[a7,a1,kvs,k1,k2,k3,k4]:=back U;show#[m.lr,ob,_,U.sm _ _ hF,hn,?_];show#[0,k _ d kvs a7 a1 k1 k3 λt q z=>k4 t q ?_];unfold eZ at z;cases e:Tb.look Z t with
  |none=>rw[e]at z;show absurd rfl z
  |some y =>
   show#[(t,y),by rw[Tb.cg,Lz];show Tb.az e,rfl,λw=>z ?_];rw[e];change(Tb.look y.pl q).map (·.2)=none;rw[w];rfl
theorem D1:aC ["_law_kept","_law_model_here","_law_deed","_law_before","_law_after","_law_owner","_law_many"] ["_law_kept","_law_model_here","_law_deed","_law_before","_law_after"] (aw vL):=L2.bD
theorem Ck {x:Int}{xs:List Int}(h:BJ (.int x) (xs.map V.int)=true):x∈xs:=by
 let#[y,h1,h2]:=MX.mp h;let#[z,G,rfl]:=rn.mp h1;have:z=x:=(by simpa[kh]using h2);show this▸G
theorem zJ {κ:Type} [DecidableEq κ] {kvs:List (κ×V)}{i:Nat}{k:κ}{v:V}(h:kvs[i]?=some (k,v)):∃u,bZ kvs k=some u:=by
 have:=fq k kvs;rw[show(kvs.any λG=>decide (G.1=k))=true from MX.mpr #[(k,v),ua h,decide_eq_true rfl]]at this;show Mm.mp this.symm
theorem zw {x:V}{r:List V}:wa (x::r) 0=some x:=by unfold wa vW;simp
theorem Wd.keep {H H':Hp}{v:V}{x:Str}(h:Wd H v x) (k:∀b xs,H b=some (.tup xs)->H' b=some (.tup xs)):Wd H' v x:=by
 let#[t,r,a,b]:=h;show#[t,r,a,k _ _ b]
theorem Ag {f:Addr}{fd:qi}{c:CA}(F:cK K "_law_right" "_law_right" vL f fd) (T:kl mg) (TR:oP K mg c) (a1:Md P w K mg base aV 2 c.C "counts" (j9 c)) :
  a8 P w K mg base aV 5 f fd ["_law_kept","_law_model_here","_law_deed","_law_before","_law_after"] (rC c):=by
 show F.dh D1 (λa5 A outer s H vs Q E hr h=>?_);let#[M,a,s',W,md,d,b,G,kb,kf,D,rfl,R,hd,hb,hf,a4,h1,h2,k]:=h;have hs:=ub;let#[dx,ho]:=R.ob;have hn:∀(ob:Obj) u',H G≠some (.bO ob u'):=λob u' z=>(by rw[hf]at z;cases z);show#[_,(ag (aS (aD gu aj (aP aN (uf (pv 0) TR.cl a1 hr ax) aj bW) (by with_unfolding_all rfl)) (ak (zL (cG C1 rfl (Ab (pv 4)) (f9 5 D1.nd) (ak (aS (PW.pt (kO (aD bP (aP aN (bh (a9 hr) (pv 4) (pv 5) bW) aj bW) aH (aI _)) (iO (aD bP (aP aN (lS (a9 hr) (pv 3) (pv 5) (b7 (aa aH ai)) #[1,1]) aj bW) aH (aI _))))) (ak (aE k8)) aF))))) aF)
  (ag (aS (aD gu (aP aN (pv 2) aj bW) (b7 (aa aH (aa aH ai))) (by with_unfolding_all rfl)) (ag (dn 6 D1.nd (Bj (aD bP (aP aN (pv 2) aj bW) aH (aI _)) (aP aN (pv 2) aj bW) (aQ bG (by rfl) T.len boot_len (aa (aP aN (pv 2) aj bW) ai))))
  (ak (aE (iI Dw (aP aN (bh (a9 hr) (pv 4) (b7 (aa (aP aN (pv 2) aj bW) (aa (aA bt (aA jh (aA bp (aP aN (pv 2) aj bW) (pv 6)) aj) aj) ai))) bW) aj bW) aH (aI _))))) aF)
  (ak (aE k8)))),?_]
 show iq (λσ H2=>aZ H H2/\∃O,σ=[some (.ref a.rp),some (.ref md),some (.ref d),some (.ref b),some (.ref G),O,none]) (λa2 QQ ji S=>?A) ?B
 case A =>
  show#[0,a.rp,dx,0,ho,fE _ _ _ ao ao ao,M,a,s',W,rfl,R,λH1 p k1 k2 N=>#[p,2,.ref k1,1,bL.of N.hp,rfl,k1,0,.inl (bA.of N.h1),rfl,d0 _,0,?_]];show oz (λcz=>ji _ ?_) (λ_=>S _ #[N.sm,0]);have al:=h1 (Ck cz);have a3:=N.sm _ _ hf;show#[0,G,0,a3,hn,λob=>?_];have hF:upd H1 G (.bO ob (.dT kf)) G=some (.bO ob (.dT kf)):=af;have bF:upd H1 G (.bO ob (.dT kf)) b=some (.dT kb):=(by rw[ah a4];show N.sm _ _ hb);have tF:∀b xs,H b=some (.tup xs)->upd H1 G (.bO ob (.dT kf)) b=some (.tup xs):=λb xs z=>(by rw[ah (λy=>by rw[y,hf]at z;cases z)];show N.sm _ _ z);have sF:∀H9,aZ (upd H1 G (.bO ob (.dT kf))) H9->aZ H (upd H9 G (.dT kf)):=λH9 s9 b o e=>by
   by_cases z:b=G
   .rw[z,af, <-hf, <-z];show e
   .rw[ah z];show s9 _ _ (by rw[ah z];show N.sm _ _ e)
  generalize upd H1 G (.bO ob (.dT kf))=HF at *;show yM (a:=G) (o:=ob) (kvs:=kf) (λi σ H2=>aZ HF H2/\∃O,σ=[some (.ref a.rp),some (.ref md),some (.ref d),some (.ref b),some (.ref G),O,none]) #[aZ.refl _,0] (λi σ H2 _ z=>z.1 _ _ hF) ?_ ?_
  .rintro i bk kk v σ H2 hk ap ⟨s2,O,rfl⟩;let#[u,hu]:=zJ hk;let#[x,hx,hy]:=al kk u hu;let#[t,r,rfl,ht]:=(hx.keep tF).keep λb xs z=>s2 _ _ z;have fF:Rd H2 G (.dT kf):=.inr #[ob,s2 _ _ hF];show nameQ ?_;dsimp only;show sk λQQ ji S=>?_;show#[0,0,G,.ref t,rfl,.inr #[kf,kk,bk,fF,rfl,ap,hu.symm],t,_,(0),.str x,1,bL.of ht,zw,rfl,0,?_];show gS (λcs=>?_) (λ_=>S _ #[s2,0]);have cs:=hy (V.str.inj (of_decide_eq_true cs));have b2:=s2 _ _ bF;show#[0,b,rfl,.inr #[_,.inl b2],0,HU,λt2 am=>#[_,cZ.t (k:=kk) (by rw[ah (ar b2 am)];show b2) (by rw[ah (ar ap am)];show ap),?_]];have s3:=Tb.au (X:=.tup [V.str "slot"]) am;obtain⟨U,r3,y,Y,g2,g3⟩:∃U r3 y,(bZ kb kk).getD (.ref t2)=.ref U/\upd H2 t2 (.tup [V.str "slot"]) U=some (.tup (.str y::r3))/\y ≠ "frame" := by
    cases e:bZ kb kk with
    |none=>show#[t2,[],"slot",rfl,af,ao]
    |some u =>
     let#[y,a0,ny]:=cs u e;let#[U,r3,rfl,h3]:=((a0.keep tF).keep λb xs z=>s2 _ _ z).keep λb xs z=>s3 _ _ z;show#[U,r3,y,rfl,h3,ny]
   rw[Y];show#[U,_,(0),.str y,1,bL.of g2,zw,rfl,false,by rw[decide_eq_false (λz=>g3 (V.str.inj z))],S _ #[s2.trans s3,0]]
  .rintro σ H2 ⟨s2,O,rfl⟩;show#[G,ob,_,s2 _ _ hF,hn,a2 _ _ #[sF _ s2,0]]
 case B =>
  rintro σ H2 ⟨s2,O,rfl⟩;have aB:=s2 _ _ hd.1;have R2:∀v x,Wd H v x->Wd H2 v x:=λv x z=>z.keep λb xs z=>s2 _ _ z;show gR λ_ ji S=>?_;show#[0,d,_,(0),.str (k9 D),1,bL.of aB,Iw D,d9,λp hp=>#[p,0,.inr (bL.of af),1,0,?_]];have s3:=Tb.au (X:=.tup [V.str "peek",V.str "poke"]) hp;have J:=s3 _ _ aB;have as:=s3 _ _ (s2 _ _ hf);have ac:=s2.trans s3;show oz (λcp=>ji _ ?_) (λ_=>S _ (k _ ac));generalize upd H2 p (.tup [V.str "peek",V.str "poke"])=H3 at *;cases D with
  |peek t ad n =>
   let#[v,x,e1,e2,e3]:=h2 t ad (.inl #[n,rfl]);let#[tt,r,rfl,ht]:=(R2 _ _ e2).keep λb xs z=>s3 _ _ z;show eO λ_ jt=>?_;show#[0,d,_,(0),.str "peek",1,bL.of J,1,0,eL #[0,d,_,(3),.int n,1,bL.of J,rfl,jt _ _ ?_]];have ab:∀tk,H3 tk=none->∃I v,V.ref G=.ref I/\cZ (upd H3 tk (.tup [.int t,.int ((ad+(n:Nat)-1)/8)])) I (.ref tk) (some v)/\v=.ref tt/\upd H3 tk (.tup [.int t,.int ((ad+(n:Nat)-1)/8)]) tt=some (.tup (.str x::r))/\Q (.bl (!decide (V.str x=V.str "slot"))) (upd H3 tk (.tup [.int t,.int ((ad+(n:Nat)-1)/8)])):=λtk L=>by
    have s4:=Tb.au (X:=.tup [.int t,.int ((ad+(n:Nat)-1)/8)]) L;show#[G,.ref tt,rfl,.inr #[kf,kP t ((ad+(n:Nat)-1)/8),tk,.inl (s4 _ _ as),rfl,af,e1.symm],rfl,s4 _ _ ht,?_];rw[decide_eq_false (λz=>e3 (V.str.inj z))];show k _ (ac.trans s4)
   show#[0,0,d,_,(1),.int t,1,bL.of J,rfl,0,d,_,(2),.int ad,1,bL.of J,rfl,0,_,0,4,0,4,0,rfl,#[av,av],d9,λtk L=>?_];let#[I,v',Y,g2,rfl,g4,g5]:=ab tk L;show#[I,_,Y,g2,tt,_,(0),.str x,1,bL.of g4,zw,rfl,g5]
  |poke t ad cc cs =>
   let#[v,x,e1,e2,e3]:=h2 t ad (.inr #[cc,cs,rfl]);let#[tt,r,rfl,ht]:=(R2 _ _ e2).keep λb xs z=>s3 _ _ z;have aT:=s3 _ _ (s2 _ _ (hd.2 _ _ _ _ rfl));show eO λ_ jt=>?_;show#[0,d,_,(0),.str "poke",1,bL.of J,1,0,bX #[0,d,_,(3),.ref cc,1,bL.of J,rfl,cc,0,.inl (bA.of aT),jt _ _ ?_]];rw[nq];have ab:∀tk,H3 tk=none->∃I v,V.ref G=.ref I/\cZ (upd H3 tk (.tup [.int t,.int ((ad+(cs.length:Nat)-1)/8)])) I (.ref tk) (some v)/\v=.ref tt/\upd H3 tk (.tup [.int t,.int ((ad+(cs.length:Nat)-1)/8)]) tt=some (.tup (.str x::r))/\Q (.bl (!decide (V.str x=V.str "slot"))) (upd H3 tk (.tup [.int t,.int ((ad+(cs.length:Nat)-1)/8)])):=λtk L=>by
    have s4:=Tb.au (X:=.tup [.int t,.int ((ad+(cs.length:Nat)-1)/8)]) L;show#[G,.ref tt,rfl,.inr #[kf,kP t ((ad+(cs.length:Nat)-1)/8),tk,.inl (s4 _ _ as),rfl,af,e1.symm],rfl,s4 _ _ ht,?_];rw[decide_eq_false (λz=>e3 (V.str.inj z))];show k _ (ac.trans s4)
   show#[0,0,d,_,(1),.int t,1,bL.of J,rfl,0,d,_,(2),.int ad,1,bL.of J,rfl,0,_,0,4,0,4,0,rfl,#[av,av],d9,λtk L=>?_];let#[I,v',Y,g2,rfl,g4,g5]:=ab tk L;show#[I,_,Y,g2,tt,_,(0),.str x,1,bL.of g4,zw,rfl,g5]
  |begin t=>show absurd cp (by dsimp only[k9];decide +kernel)
  |close t=>show absurd cp (by dsimp only[k9];decide +kernel)
  |map t x y=>show absurd cp (by dsimp only[k9];decide +kernel)
  |drop t x y=>show absurd cp (by dsimp only[k9];decide +kernel)
  |copy t o=>show absurd cp (by dsimp only[k9];decide +kernel)
end
noncomputable abbrev qH:KP:=top 50
section
variable {c:CA}{H0 H H2 H3:Hp}{M M3:Addr->Prop}{a:RA}{m:MA}{nf ns k:Nat}{tl:Addr}{tv:HO}{s s3:Pg.PS}{cv:Int->Int->List Int}{pk:Int}{W W3:di}{Z Z2:Zs}
theorem Lv.kept (L:Lv c H0 a m nf ns tl tv k H M s cv pk W Z) (N:oh m H Z H2 Z2) (R:ay c H2 (λb=>(M b/\¬ cA m Z b)\/cA m Z2 b) a s W) (st:Step H2 (λb=>(M b/\¬ cA m Z b)\/cA m Z2 b) (a.own W) H3 M3 (a.own W3)) {b:Addr}{o:HO}(O:H b=some o) (G:¬ M b):H3 b=some o/\¬ M3 b:=by
 have J:=N.1 _ _ O λw=>G (L.S.sp _ w).1;have I:¬ ((M b/\¬ cA m Z b)\/cA m Z2 b):=λz=>by
  rcases z with z|z
  .show G z.1
  .rcases N.2 _ z with z|z
   .show G (L.S.sp _ z).1
   .rw[O]at z;cases z
 show#[st.off _ _ J λw=>I (R.dA _ w),λz=>(st.mn _ z).elim I λz=>by rw[J]at z;cases z]
theorem Lv.mf (L:Lv c H0 a m nf ns tl tv k H M s cv pk W Z) (N:oh m H Z H2 Z2) (J:ay c H2 (λb=>(M b/\¬ cA m Z b)\/cA m Z2 b) a s W) (st:Step H2 (λb=>(M b/\¬ cA m Z b)\/cA m Z2 b) (a.own W) H3 M3 (a.own W3)) (b:Addr) (xs:List V) (G:H b=some (.tup xs)):H3 b=some (.tup xs):=by
 have I:=N.1 _ _ G λw=>by
  rcases L.S.D.alive _ w with⟨_,h⟩|⟨_,h⟩
  .rw[G]at h;cases h
  .rw[G]at h;cases h
 show st.off _ _ I (iR J I)
theorem yr {t:Int}{y:TD}(L:Tb.look W t=none) (J:y.t=[]):ents (W++[(t,y)])=ents W/\rW (.begin t) (hW W) (hW (W++[(t,y)]))/\lj none (λx=>∃k,x=some k) (.begin t) (eW W) (eW (W++[(t,y)]))/\(Cv s W cv->Cv s (W++[(t,y)]) cv):=by
 show#[by rw[mi,J];show P1 _,λt'=>?_,λt' j=>?_,λN t' x G j e I=>?_]
 .unfold hW;rw[Tb.bu t' L];by_cases z:t'=t
  .rw[Sv z,decide_eq_true z];rfl
  .rw[Su z,decide_eq_false z];rfl
 .unfold eW;rw[Tb.bu t' L];by_cases z:t'=t
  .rw[Sv z,Sv z,MY,J];rfl
  .rw[Su z,Su z]
 .rw[Tb.bu t' L]at G;by_cases z:t'=t
  .rw[Sv z]at G;cases G;rw[J]at I;cases I
  .rw[Su z]at G;show N t' x G j e I
theorem CW {t p q:Int}{x y:TD}(I:Tb.look W t=some x) (J:∀j,Tb.look y.t j=if j∈Rm.aM p q then some none else Tb.look x.t j):lj none (λx=>∃k,x=some k) (.map t p q) (eW W) (eW (Tb.aW W t y)):=λt' j=>by
 rw[rO I];by_cases z:t'=t
 .rw[Sv z,J j];by_cases G:j∈Rm.aM p q
  .rw[Sv G,Sv #[z,G]]
  .rw[Su G,Su (λh=>G h.2),z,kT I]
 .rw[Su z,Su (λh=>z h.1)]
theorem HE {D:Dd}(I:Iv D s s3 W3) (J:lj none (λx=>∃k,x=some k) D (eW W) (eW W3)) (S:∀t o,D=.copy t o->Tb.look W o=none) (z:(0:Int)∈s3.ow true) {t q j O:Int}{n n':Nat}{b:Bool}(h1:eW W3 t q=some (some j)) (h2:s3.pl j=some (false,n)) (N:eW W t q=some (some O)) (R:s.pl O=some (b,n')):b=false:=by
 have up:Pg.Up s s3->eW W3 t q=eW W t q->b=false:=λu e=>by
  rw[e,N]at h1;cases h1;have:=u _ _ h2;rw[R]at this;cases this;rfl
 have kb:Pg.KB s s3->eW W3 t q=eW W t q->b=false:=λu e=>by
  rw[e,N]at h1;cases h1;cases b with
  |false=>rfl
  |true =>
   let#[m,L]:=(u z).2 _ #[_,R];rw[h2]at L;cases L
 cases D with
 |begin G =>
  have e:=J t q;by_cases y:t=G
  .rw[Sv y,h1]at e;cases e
  .rw[Su y]at e;show up I e
 |close G =>
  have e:=J t q;by_cases y:t=G
  .rw[Sv y,h1]at e;cases e
  .rw[Su y]at e;show up I e
 |map G p m =>
  have e:=J t q;by_cases y:t=G/\q∈Rm.aM p m
  .rw[Sv y,h1]at e;cases e
  .rw[Su y]at e;show up I e
 |drop G p m =>
  have e:=J t q;by_cases y:t=G/\q∈Rm.aM p m
  .rw[Sv y,h1]at e;cases e
  .rw[Su y]at e;show up I e
 |copy G o =>
  have e:=J t q;by_cases y:t=o
  .unfold eW at N;rw[y,S G o rfl]at N;cases N
  .rw[Su y]at e;show up I e
 |peek G ad n=>show kb I.1 (J t q)
 |poke G ad cc cs =>
  have e:=J t q;by_cases y:t=G/\q∈Rm.aq ad cs.length
  .let#[_,x,U,Y,_]:=I;rw[y.1,kT U]at h1;let#[m,L]:=Y z q y.2 j h1;rw[h2]at L;cases L
  .rw[Su y]at e;show kb I.1 e
theorem xP {ad:Int}{n:Nat}(h:1<=n):∃j,(Rm.aq ad n).length=j+1/\(Rm.aq ad n)[j]?=some ((ad+n-1)/8):=by
 unfold Rm.aq;rw[Su ae];unfold Rm.aM Rm.jm Rm.gW;rw[nq,Lh];show#[((ad+n-1)/8-ad/8+1).toNat-1,ae,?_];rw[rz,MO ae];change some _=_;congr 1;omega
end
inductive nJ (c:CA) (vs:List V) (H:Hp) (Q:VK) (e3:XK):Prop
 |mk (H0:Hp) (a:RA) (m:MA) (nf ns:Nat) (tl:Addr) (ts:List Int) (mm:Int) (M:Addr->Prop) (s:Pg.PS) (cv:Int->Int->List Int) (pk:Int) (W:di) (Z:Zs) (_:vs=[.ref a.rp,.ref m.md,.int mm,.ref tl]) (_:Lv c H0 a m nf ns tl (.lst (ts.map V.int)) 1 H M s cv pk W Z) (_:∀i t,0<i->i<4->ts[i]?=some t->t≠1/\t∉ts.take i) (_:∀t,hZ Z t=decide (t=1)) (_:∀(H':Hp) (M':Addr->Prop) (s':Pg.PS) (cv':Int->Int->List Int) (pk':Int) (W':di) (Z':Zs),Lv c H0 a m nf ns tl (.lst (ts.map V.int)) 9 H' M' s' cv' pk' W' Z'->Q .non H'):nJ c vs H Q e3
section
variable {P:rr}{w:Bd}{K:iF}{mg:Str->Option Value}{base:Heap}
theorem Bv:aC ["_law_kept","_law_model_here","_law_m","_law_tasks","_law_k","_law_task","_law_left","_law_deed"] ["_law_kept","_law_model_here","_law_m","_law_tasks"] (aw qH):=L2.bD
theorem ya {f:Addr}{fd:qi}{c:CA}(F:cK K "_law_filled" "_law_filled" qH f fd) (T:kl mg) (TR:oP K mg c) (MK:FL P w K mg base c) (ba:Df P w K mg base aV 1 "_law_done" mE) (bc:Df P w K mg base aV 1 "_law_held" iC) (bF:Df P w K mg base aV 2 "_law_due" xB) :
  a8 P w K mg base aV 5 f fd ["_law_kept","_law_model_here","_law_m","_law_tasks"] (nJ c):=by
 show F.dh Bv (λbY A outer s H vs Q E hr h=>?_);let#[H0,a,m,nf,ns,tl,ts,U,M,s',cv,pk,W,Z,rfl,L,nd,O,k]:=h;have hs:=ub;show#[_,(ak (cG C1 rfl (wL (by rfl) T.enumerate (aa (cW fM (pv 3) eX (cO (aA bp aj (aA bB (aA bt (pv 2) aj) aj)))) ai)) (dF rfl (bg (f9 4 Bv.nd) (bg (f9 5 Bv.nd) cQ))) (ag (aS (aD gI (pv 4) aj (aI _)) (ag (aL (pc ba hr ax (aa (pv 1) (aa (b7 (aa aH (aa (pv 5) ai))) ai))))
  (ak (aL (pm (pv 0) TR.cl MK.Jk hr ax (aa (pv 5) ai))))) aF)
  (ag (dn 6 Bv.nd (aA jh (aA jh (bh (a9 hr) (pv 1) aH bW) (pc bc hr ax (aa (pv 1) ai))) (aA bB (aA bt (pv 2) aj) aj)))
  (ag (dn 7 Bv.nd (b7 (aa aH (aa (pv 5) (aa (aA bB (aA bt (pv 2) aj) aj) (aa (aQ (pM rfl) (by rfl) T.min zY (aa (aP cu (cj (aa aj (aa aj (aa aj (aa aj ai))))) (pv 4) bW) (aa (aA bt (pv 6) (aP cu (cj (aa aj (aa aj (aa aj (aa aj ai))))) (pv 4) bW)) ai))) ai))))))
  (ak (aS (PW.pt (kO (aD gI (aP aN (pv 7) aj bW) aj (aI _)) (iO (aD bP (pc bF hr ax (aa (pv 1) (aa (pv 7) ai))) aH (aI _))))) (ag (aL (pc ba hr ax (aa (pv 1) (aa (pv 7) ai))))
  (ak (aL (pm (pv 0) TR.cl MK.J7 hr ax (aa (pv 5) (aa (aP aN (pv 7) aj bW) (aa (aP aN (pv 7) aj bW) ai))))))) aF))))))),?_]
 have w0:=Lf (U/3) (show(4:Int)≠0 by decide);have w1:=K7 (U/3) (show(0:Int)<4 by decide);obtain⟨N,en⟩:∃N:Nat,1+U/3%4=(N:Int):=#[(1+U/3%4).toNat,ae];have n4:N<=4:=ae;show#[0,0,_,0,rfl,#[av,av],_,0,rfl,Eh,_,0,5];rw[en];show#[0,tl,0,bA.of L.ht,λp hp=>?_];have ec:ff (ts.map V.int) none (some (N:Int))=(ts.take N).map V.int:=Rm.qW (s:=N);rw[ec];have sp:=Tb.au (X:=.lst ((ts.take N).map V.int)) hp;show#[p,rfl,#[_,bA.of af],?_];have L1:=L.same sp;have Y:¬ M p:=λz=>L.S.R.mt p z hp;have aT:upd H p (.lst ((ts.take N).map V.int)) p=some (.lst ((ts.take N).map V.int)):=af;generalize upd H p (.lst ((ts.take N).map V.int))=H1 at *;show t4 (K:=K) (a:=p) (xs:=(ts.take N).map V.int) (λi σ H2=>∃(v4 v5 v6 v7:Option V) (M:Addr->Prop) (G:Pg.PS) (cv:Int->Int->List Int) (pk:Int) (W:di) (Z:Zs),σ=[some (.ref a.rp),some (.ref m.md),some (.int U),some (.ref tl),v4,v5,v6,v7]/\Lv c H0 a m nf ns tl (.lst (ts.map V.int)) (1+2*i) H2 M G cv pk W Z/\H2 p=some (.lst ((ts.take N).map V.int))/\¬ M p/\∀t,hZ Z t=true->t=1\/t∈ts.take i)
  #[2,2,M,s',cv,pk,W,Z,rfl,L1,aT,Y,λt z=>.inl (by rw[O t]at z;show of_decide_eq_true z)] (λi σ H2 _ z0=>by let#[_,_,_,_,_,_,_,_,_,_,_,_,h,_]:=z0;show bA.of h) ?_ ?_
 .clear L L1 hp Y aT sp O ec M s' cv pk W Z;rintro i x σ H2 T' hx hT ⟨v4,v5,v6,v7,M,G,cv,pk,W,Z,rfl,L2,bb,Y,O⟩;have hi:i<4:=(by have:=(kz.mp hx).1;rw[nq,DD]at this;omega);rw[rz]at hx;let#[t,ht,rfl]:=pq.mp hx;have ht:ts[i]?=some t:=by
   rw[NP]at ht;by_cases z:i<N
   .rw[Sv z]at ht;show ht
   .rw[Su z]at ht;cases ht
  have sT:=Tb.au (X:=.tup [.int i,.int t]) hT;show#[T',[.int i,.int t],rfl,bL.of af,4,0,_,0,5];have L3:=L2.same sT;have ac:=sT _ _ bb;generalize upd H2 T' (.tup [.int i,.int t])=H3 at *;clear L2 bb sT hT;show iq (λσ H2=>∃(M:Addr->Prop) (G:Pg.PS) (cv:Int->Int->List Int) (pk:Int) (W:di) (Z:Zs),σ=[some (.ref a.rp),some (.ref m.md),some (.int U),some (.ref tl),some (.int i),some (.int t),v6,v7]/\Lv c H0 a m nf ns tl (.lst (ts.map V.int)) (2+2*i) H2 M G cv pk W Z/\H2 p=some (.lst ((ts.take N).map V.int))/\¬ M p/\∀t,hZ Z t=true->t=1\/t∈ts.take (i+1)) (λbe QQ ji je=>?A) ?B
  case A =>
   show#[0,_,0,rfl,0,?_];show oz (λc0=>ji _ ?_) (λ_=>je _ #[M,G,cv,pk,W,Z,rfl,L3.up ae,ac,Y,λt z=>(O t z).imp id λz=>NW (by rw[Rl,NU (N4 i)];show z)]);have c0:0<i:=(by have:=of_decide_eq_true c0;omega);let#[t1,t2]:=nd i t c0 hi ht;have fz:Tb.look Z t=none:=by
    cases e:Tb.look Z t with
    |none=>rfl
    |some z=>rcases O t (by unfold hZ;rw[e];rfl)with y|y;show absurd y t1;show absurd y t2
   show#[0,0,d9,λd hd=>?_];have sd:=Tb.au (X:=.tup [V.str "begin",V.int t]) hd;have I:=L3.same sd;have ab:=sd _ _ ac;have bm:gQ (upd H3 d (.tup [V.str "begin",V.int t])) d (.begin t):=#[af,λ_ _ _ _ e=>by cases e];generalize upd H3 d (.tup [V.str "begin",V.int t])=H4 at *;show#[m,_,pk,Z,d,.begin t,rfl,I.S.D,I.S.p0,by have:=I.S.lz;omega,bm,fz,(λ_ _ _ _ e=>by cases e),(λ_ _ _ e=>by cases e),λH6 bd Z6 v D6 p6 z6 l6 h6 e6=>?_];let#[R6,_]:=my I.S.R I.S.D I.S.sp D6 z6;let#[bz,bi]:=R6.ob;have fw:=(I.S.tw.look t).mpr fz;show#[0,a.rp,bz,0,bi,fE _ _ _ ao ao ao,0,_,a,G,W,t,rfl,R6,fw,by have:=I.S.lw;omega,λH7 M7 y ey R7 ap=>?_];let#[g1,g2,g3,g4]:=yr (s:=G) (cv:=cv) fw ey;let#[k1,k2]:=I.kept z6 R6 ap ab Y;show be _ _ #[M7,G,cv,bd,_,Z6,rfl,(I.Fu (D:=.begin t) (λ_ e=>by cases e) D6 p6 z6 l6 h6 e6 R7 (by rw[g1];show I.S.ri) (v3:=.non) #[g4 I.S.cv,rfl,trivial] ap (λ_=>rfl) (by rw[vl];show qj _) g2 g3).up ae,k1,k2,λt' z=>?_];have:=h6 t';rw[z]at this;rw[Lm,ht];by_cases y:t'=t
   .show .inr (oR.mpr (.inr (by simp[y])))
   .rw[decide_eq_false y,RJ]at this;show(O t' this.symm).imp id λq=>oR.mpr (.inl q)
  case B =>
   clear L3 ac Y O;rintro σ H4 ⟨M,G,cv,pk,W,Z,rfl,I,ab,Y,O⟩;show eO λ_ jt=>?_;show#[0,m.md,.int (bS G),rfl,I.S.D.g (B0 _ _ _ _),0,m,_,pk,Z,rfl,I.S.D,by have:=I.S.lz;omega,λH5 s5=>#[_,0,rfl,0,_,0,rfl,#[av,av],_,0,rfl,GV,_,0,rfl,jt _ _ ?_]];clear jt;have L5:=I.same s5;have a1:=s5 _ _ ab;clear I s5 ab;generalize bS G-tj Z-U/12%3=lf;obtain⟨c1,e1,b1⟩:∃c1:Int,wa [V.int 3,V.int 9,V.int 30,V.int 44] (i:Int)=some (.int c1)/\c1<=44:=by
    match i,hi with
    |0,_=>show#[(3),rfl,av]
    |1,_=>show#[(9),rfl,av]
    |2,_=>show#[30,rfl,av]
    |3,_=>show#[44,rfl,av]
   obtain⟨c2,e2,b2⟩:∃c2:Int,wa [V.int 3,V.int 2,V.int 1,V.int 1] (i:Int)=some (.int c2)/\F0 lf c2:=by
    match i,hi with
    |0,_=>show#[(3),rfl,av,av]
    |1,_=>show#[(2),rfl,av,av]
    |2,_=>show#[(1),rfl,av,av]
    |3,_=>show#[(1),rfl,av,av]
   have p0:=Lf (U/36) (show(20:Int)≠0 by decide);have p1:=K7 (U/36) (show(0:Int)<20 by decide);show eO λ_ jt=>?_;show#[0,0,_,0,rfl,#[av,av],_,0,rfl,(by change(0:Int)<20;decide),oU,λl1 a6=>#[0,l1,2,.int c1,1,bA.of af,e1,0,oU,λl2 a4=>#[0,l2,2,.int c2,1,bA.of af,e2,_,0,rfl,b2,_,0,oU,λd hd=>jt _ _ ?_]]];clear jt;have q1:=Tb.au (X:=.lst [V.int 3,V.int 9,V.int 30,V.int 44]) a6;have q2:=Tb.au (X:=.lst [V.int 3,V.int 2,V.int 1,V.int 1]) a4;have bq:(if lf/c2<c1 then lf/c2 else c1)<=44:=(by split<;>omega);generalize (if lf/c2<c1 then lf/c2 else c1)=mc at *;generalize U/36%20=pg at *;have q3:=Tb.au (X:=.tup (pA (.map t pg mc))) hd;have Q3:=q1.trans (q2.trans q3);have L6:=L5.same Q3;have a0:=Q3 _ _ a1;have am:gQ (upd (upd (upd H5 l1 (.lst [V.int 3,V.int 9,V.int 30,V.int 44])) l2 (.lst [V.int 3,V.int 2,V.int 1,V.int 1])) d (.tup (pA (.map t pg mc)))) d (.map t pg mc):=#[af,λ_ _ _ _ e=>by cases e];change mJ _ _ _ _ _ (upd (upd (upd H5 l1 (.lst [V.int 3,V.int 9,V.int 30,V.int 44])) l2 (.lst [V.int 3,V.int 2,V.int 1,V.int 1])) d (.tup (pA (.map t pg mc))));generalize upd (upd (upd H5 l1 (.lst [V.int 3,V.int 9,V.int 30,V.int 44])) l2 (.lst [V.int 3,V.int 2,V.int 1,V.int 1])) d (.tup (pA (.map t pg mc)))=H6 at *;clear q1 q2 q3 Q3 hd a6 a4 L5 a1 e1 e2 b1 b2;have a3:Z.length<=1000:=(by have:=L6.S.lz;omega);show sk λQQ ji je=>?_;show#[0,d,_,(3),.int mc,1,bL.of am.1,4,0,rfl,0,?_];show gS (λcm=>?_) (λ_=>je _ #[2,2,M,G,cv,pk,W,Z,rfl,L6.up ae,a0,Y,O]);have cm:0<mc:=of_decide_eq_true cm;have a7:vH (.map t pg mc):=#[p0,ae,ae,ae];show#[0,0,m,_,pk,Z,d,.map t pg mc,rfl,L6.S.D,a3,am,a7,λr H7 s7 bE=>#[rfl,0,?_]];have J:=L6.same s7;have aB:=s7 _ _ a0;have a2:gQ H7 d (.map t pg mc):=#[s7 _ _ am.1,λ_ _ _ _ e=>by cases e];show oz (λcr=>ji _ ?_) (λ_=>je _ #[2,2,M,G,cv,pk,W,Z,rfl,J.up ae,aB,Y,O]);have fi:yN Z (bS G) (.map t pg mc):=bE (V.str.inj (of_decide_eq_true cr));show#[0,0,m,_,pk,Z,d,.map t pg mc,rfl,J.S.D,J.S.p0,a3,a2,fi,(λ_ _ _ _ e=>by cases e),(λ_ _ _ e=>by cases e),λH8 bn Z8 v D8 p8 z8 l8 h8 e8=>?_];let#[R8,_]:=my J.S.R J.S.D J.S.sp D8 z8;have a5:=J.zE a2 (λ_ _ _ _ e=>by cases e) z8;let#[bv,bx]:=R8.ob;let#[x,hx,f1,f2,f3]:=Dp J.S.tw J.S.R J.S.D a7 fi;show#[0,a.rp,bv,0,bx,fE _ _ _ ao ao ao,0,0,d,_,(2),.int pg,1,bL.of a5.1,rfl,0,d,_,(3),.int mc,1,bL.of a5.1,4,a,G,W,cv,t,pg,mc,x,rfl,R8,J.S.ri,J.S.cv,by have:=J.S.lw;omega,hx,f1,f2,f3,λH9 M9 y R9 bI bl hy as=>?_];let#[k1,k2]:=J.kept z8 R8 as aB Y;show#[2,2,M9,G,_,bn,_,Z8,rfl,(J.Fu (D:=.map t pg mc) (λ_ e=>by cases e) D8 p8 z8 l8 h8 e8 R9 bI (v3:=.non) #[bl,rfl,trivial] as (λ_=>rfl) (by rw[Tb.fP];omega) (rh hx) (CW hx hy)).up ae,k1,k2,λt' z=>O t' ?_];rw[<-h8 t'];show z
 .rintro σ H2 ⟨v4,v5,v6,v7,M,G,cv,pk,W,Z,rfl,L2,_,_,_⟩;show k _ M G cv pk W Z (L2.up (by rw[nq,DD];omega))
end
noncomputable abbrev Ep:KP:=top 53
noncomputable def wG (K:iF):Sp:=λvs H Q _=>∃(a:Addr) (ns:List Int),vs=[.ref a]/\bA K H a (ns.map V.int)/\ns.length<=63/\∀H',Q (.bl true) H'
theorem CU {D:Dd}(h:k9 D = "peek"):∃t ad n,D=.peek t ad n:=by
 cases D<;>first|show#[2,0]|show absurd h (by dsimp only[k9];decide +kernel)
noncomputable def JW (D:Dd):Bool:=BJ (.str (k9 D)) [.str "peek",.str "poke"]
theorem AK {r w lo:Int}{ts:List Int}(J:([0, -1-r%10^ND 59]:List Int).getD w.toNat 0=lo) (e:[1,2,r%10^ND 59+3,lo,12]=ts) (i:Nat) (t:Int) (I:0<i) (L:i<4) (G:ts[i]?=some t):t≠1/\t∉ts.take i:=by
 have N:=Lf r (show((10:Int)^ND 59)≠0 by decide);have O:lo<=0:=by
  rw[<-J];generalize r%10^ND 59=x at *
  match w.toNat with
  |0=>show Ll _
  |1=>change -1-x<=0;omega
  |k+2=>show Ll _
 generalize r%10^ND 59=x at *;subst e
 match i,I,L with
 |1,_,_=>cases G;show#[av,by simp]
 |2,_,_=>cases G;show#[ae,by simp;omega]
 |3,_,_=>cases G;show#[ae,by simp;omega]
section
variable {H:Hp}{s s3:Pg.PS}{W W3:di}{Z Z3:Zs}{kb kf:List (List Key×V)}{D:Dd}{tt:Int}
theorem zd {t q t' G:Int}(h:kP t q=kP t' G):t=t'/\q=G:=by
 unfold kP at h;injection h with h1 h2;injection h2 with h2 _;injection h1 with h1;injection h2 with h2;show#[h1,h2]
theorem Fp (A:yX s W H kb) (A3:yX s3 W3 H kf) (S:Iv D s s3 W3) (L:lj none (λx=>∃k,x=some k) D (eW W) (eW W3)) (N:∀t o,D=.copy t o->Tb.look W o=none):(0:Int)∈s3.ow true->∀k v,bZ kf k=some v->∃x,Wd H v x/\(x = "slot" -> ∀u,bZ kb k=some u->∃y,Wd H u y/\y ≠ "frame"):=λz k v hv=>by
 let#[t,q,e,rfl,he,J]:=A3 k v hv;cases e with
 |none=>let#[tt,rfl,h]:=J;show#["blank",#[tt,[],rfl,h],λy=>absurd y ao]
 |some j =>
  let#[tt,b,n,rfl,h1,h2]:=J;show#[if b=true then "frame" else "slot",#[tt,[.int n],rfl,h2],λy u R=>?_];cases b with
  |true=>show absurd y ao
  |false =>
   let#[t',q',e',O,ab,I]:=A _ u R;let#[rfl,rfl]:=zd O;cases e' with
   |none=>let#[G,rfl,h]:=I;show#["blank",#[G,[],rfl,h],ao]
   |some j' =>
    let#[G,U,n',rfl,Y,g2]:=I;have:U=false:=HE S L N z he h1 ab Y;subst this;show#["slot",#[G,[.int n'],rfl,g2],ao]
theorem FC (A3:yX s3 W3 H kf) (B:∀t q,eZ Z3 t q≠none->∃v,bZ kf (kP t q)=some v) (R:Iv D s s3 W3) (S:vH D) (fi:yN Z tt D) (e2:lj 0 (λv=>v≠0) D (eZ Z) (eZ Z3)) (t ad:Int) (ac:(∃n,D=.peek t ad n)\/(∃Y cs,D=.poke t ad Y cs)):∃v x,bZ kf (kP t ((ad+Jr D-1)/8))=some v/\Wd H v x/\x ≠ "slot" := by
 have ab:∀(n:Nat) (y:TD),Jr D=n->1<=n->eZ Z3 t ((ad+n-1)/8)≠none->Tb.look W3 t=some y->mr y.t (Rm.aq ad n) (Rm.aq ad n).length s3->∃v x,bZ kf (kP t ((ad+n-1)/8))=some v/\Wd H v x/\x ≠ "slot" := λn y _ h1 G J I=>by
  let#[v,O]:=B _ _ G;let#[t',q',e,ek,he,U]:=A3 _ v O;let#[rfl,rfl]:=zd ek;cases e with
  |none=>let#[L,rfl,h]:=U;show#[_,"blank",O,#[L,[],rfl,h],ao]
  |some j =>
   let#[L,b,m,rfl,g1,g2]:=U;rw[kT J]at he;let#[jj,l1,l2]:=xP (ad:=ad) h1;let#[m',hm]:=I jj _ j l1 l2 he;rw[g1]at hm;cases hm;show#[_,"frame",O,#[L,[.int m],rfl,g2],ao]
 have hZ:∀{z:MT}{q:Int},Tb.look Z t=some z->Tb.look z.pl q≠none->eZ Z t q≠none:=λ{z q} G h w=>by
  rw[tS G]at w;show h (by cases e:Tb.look z.pl q with|none=>rfl|some u=>rw[e]at w;cases w)
 rcases ac with⟨n,rfl⟩|⟨Y,cs,rfl⟩
 .let#[_,y,J,I]:=R;let#[z,G,_,h2]:=fi;have N:=S.2.2.1;show ab n y rfl N (by rw[e2 t];show hZ G (by have:=h2 (n-1) ae;rw[show ad+((n-1:Nat):Int)=ad+n-1 by omega]at this;show this)) J I
 .let#[_,y,J,_,I]:=R;have N:=S.2.2.1;show ab cs.length y rfl N (λw=>?_) J I;have:=e2 t ((ad+cs.length-1)/8);rw[Sv #[rfl,dv.mpr #[cs.length-1,ae,by rw[show ad+((cs.length-1:Nat):Int)=ad+cs.length-1 by omega]]],w]at this;let#[_,e,_]:=this;cases e
end
section
variable {P:rr}{w:Bd}{K:iF}{mg:Str->Option Value}{base:Heap}
theorem eR:aC ["_law_script","_law_m","_law_kept","_law_model_here","_law_low","_law_tasks","_law_before","_law_k","_law_number_here","_law_deed","_law_turn","_law_due_here","_law_found","_law_after"] ["_law_script"] (aw Ep):=L2.bD
theorem EX {f:Addr}{fd:qi}{c:CA}(F:cK K "law" "law" Ep f fd) (T:kl mg) (d5:Df P w K mg base aV 2 "_law_number" (mj K)) (eo:Df P w K mg base aV 7 "_law_begun" (qB c)) (fa:Df P w K mg base aV 2 "_law_busy" uF) (e9:Df P w K mg base aV 2 "_law_due" xB) (el:Df P w K mg base aV 1 "_law_done" mE) (e8:Df P w K mg base aV 11 "_law_called" (nU c)) (et:Df P w K mg base aV 2 "_law_numbers" iQ) (ei:Df P w K mg base aV 5 "_law_filled" (nJ c)) (dm:Df P w K mg base aV 5 "_law_places" (nW c)) (eC:Df P w K mg base aV 5 "_law_right" (rC c)) (ez:Df P w K mg base aV 11 "_law_all_right" (vK c)) :
  a8 P w K mg base aV 12 f fd ["_law_script"] (wG K):=by
 show F.ok eR (λvs H Q E h=>?_) (λfe A outer s H vs Q E hr h=>?_)
 .let#[a,ns,rfl,_]:=h;rfl
 .let#[sc,ns,rfl,b6,ft,k]:=h;have hs:=ub;show#[_,(ag (dn 1 eR.nd (pc d5 hr ax (aa (pv 0) (aa aj ai))))
   (ag (cV (pc eo hr ax (aa (pv 1) ai)) (dF rfl (bg (f9 2 eR.nd) (bg (f9 3 eR.nd) cQ))))
   (ag (dn 4 eR.nd (aP cu (cj (aa aj (aa (aA jh (Ic EH aj) (aA bB (aA bt (pv 1) aj) (aA uR aj aj))) ai))) (aA bB (aA bt (pv 1) aj) aj) bW))
   (ag (dn 5 eR.nd (cj (aa aj (aa aj (aa (aA bp (aA bB (aA bt (pv 1) aj) (aA uR aj aj)) aj) (aa (pv 4) (aa aj ai)))))))
   (ag (aL (pc ei hr ax (aa (pv 2) (aa (pv 3) (aa (aA bt (pv 1) aj) (aa (pv 5) ai))))))
   (ag (dn 6 eR.nd (pc dm hr ax (aa (pv 2) (aa (pv 3) ai))))
   (ag (cG C1 rfl (fj (by rfl) T.range (aa aj (aa (aQ (pJ rfl) (by rfl) T.max Ax (aa aj (aa (aQ bG (by rfl) T.len boot_len (aa (cW fM (pv 0) eX (cO aj)) ai)) ai))) ai))) (f9 7 eR.nd) (ag (dn 8 eR.nd (pc d5 hr ax (aa (pv 0) (aa (pv 7) ai))))
   (ag (dn 9 eR.nd (pc fa hr ax (aa (pv 8) (aa (pv 3) (aa (pv 5) ai)))))
   (ak (cG C1 rfl (pS (by rfl) T.range (aa (aA bp aj (aA dZ (aA bB (aA bt (pv 8) aj) aj) (bH er (by rfl) T.int hJ (aa (iI gu (aP aN (pv 9) aj bW) (b7 (aa aH (aa aH ai))) (by with_unfolding_all rfl)) ai)))) ai)) (f9 10 eR.nd) (ag (aS (aD bP (pc e9 hr ax (aa (pv 3) (aa (pv 9) ai))) aH (aI _)) (ag (dn 11 eR.nd (pc el hr ax (aa (pv 3) (aa (pv 9) ai))))
   (ag (dn 12 eR.nd (pc e8 hr ax (aa (pv 2) (aa (pv 9) ai))))
   (ag (aS (PW.pt (kO (aD bP (aP aN (pv 9) aj bW) aH (aI _)) (iO (rj (fB (pc et hr ax (aa (pv 12) (aa (pv 11) ai)))))))) (ak (aE k8)) aF)
   (ag (dn 13 eR.nd (pc dm hr ax (aa (pv 2) (aa (pv 3) ai))))
   (ag (aS (rj (fB (pc eC hr ax (aa (pv 2) (aa (pv 3) (aa (pv 9) (aa (pv 6) (aa (pv 13) ai)))))))) (ak (aE k8)) aF)
   (ak (dn 6 eR.nd (pv 13)))))))) aF)
   (ak (aS (aD gu (aP aN (pv 9) aj bW) (b7 (aa aH (aa aH ai))) (by with_unfolding_all rfl)) (ak (dn 9 eR.nd (b7 (aa (aP aN (pv 9) aj bW) (aa (aP aN (pv 9) aj bW) (aa (aA bB (aA bp (aP aN (pv 9) aj bW) aj) aj) (aa (aP aN (pv 9) aj bW) ai))))))) aF))))))))
   (ak (aE (pc ez hr ax (aa (pv 2) (aa (pv 3) ai)))))))))))),?_]
  show eO λ_ U=>?_;show#[0,sc,ns,(0),rfl,b6,ae,ae,λJ H1 s1=>U _ _ ?_];clear U;show#[0,J,rfl,λH3 t3 M a m L cv pk W Z s3 S3 C3 c7 d1 h3=>#[t3,0,bL.of h3,4,0,_,0,5]];have fr:∀b,M b->H b=none:=λb z=>s1.free (d1 b z);have dV:=s1.trans s3;clear d1 h3 s1 s3
  try dsimp only
  show eO λ_ U=>?_;have w0:=Lf (J/20000) (show(2:Int)≠0 by decide);have w1:=K7 (J/20000) (show(0:Int)<2 by decide);let#[b1,_]:=at_of (xs:=[0, -1-J/20000%10^ND 59]) (i:=J/20000%2) (n:=2) w0 w1 rfl;generalize dp:([0, -1-J/20000%10^ND 59]:List Int).getD (J/20000%2).toNat 0=lo at b1;show#[0,0,_,0,rfl,#[av,av],_,0,rfl,#[av,av,av],_,0,rfl,(by change(0:Int)<10^ND 59;decide),_,0,rfl,d9,λl0 dd=>#[0,_,0,rfl,#[av,av],_,0,rfl,Hc,l0,2,.int lo,1,bA.of af,b1,U _ _ ?_]];clear U;have s4:=Tb.au (X:=.lst ([0, -1-J/20000%10^ND 59].map V.int)) dd;show eO λ_ U=>?_;show#[0,_,0,rfl,#[av,av],_,0,rfl,#[av,av,av],_,0,rfl,(by change(0:Int)<10^ND 59;decide),_,0,rfl,0,I0,λtl ch=>U _ _ ?_];clear U;have s5:=Tb.au (X:=.lst ([1,2,J/20000%10^ND 59+3,lo,12].map V.int)) ch;generalize bv:([1,2,J/20000%10^ND 59+3,lo,12]:List Int)=ts at s5;have l5:ts.length=5:=(by rw[<-bv];rfl);have nd:=AK dp bv;have ef:¬ M tl:=λz=>S3.R.mt tl z (s4.free ch);have L5:Lv c H a m (ox J) (pN J) tl (.lst (ts.map V.int)) 1 (upd (upd H3 l0 (.lst ([0, -1-J/20000%10^ND 59].map V.int))) tl (.lst (ts.map V.int))) M L cv pk W Z:=#[S3.same (s4.trans s5),C3.same (s4.trans s5),dV.trans (s4.trans s5),fr,af,ef];subst bv;change jz _ _ _ _ (upd (upd H3 l0 (.lst ([0, -1-J/20000%10^ND 59].map V.int))) tl (.lst ([1,2,J/20000%10^ND 59+3,lo,12].map V.int)));clear s4 s5;generalize ([1,2,J/20000%10^ND 59+3,lo,12]:List Int)=ts at *;clear dd ch S3 dV ef fr C3 dp;generalize upd (upd H3 l0 (.lst ([0, -1-J/20000%10^ND 59].map V.int))) tl (.lst (ts.map V.int))=H5 at *;show#[0,0,0,_,0,rfl,#[av,av],0,H,a,m,2,tl,ts,_,M,L,cv,pk,W,Z,rfl,L5,nd,c7,λH6 M6 s6 dz d2 W6 Z6 L6=>?_];clear L5 c7 nd M L cv pk W Z;dsimp only;show eO λ_ U=>?_;show#[0,0,M6,a,m,2,_,s6,dz,d2,W6,Z6,rfl,L6.S,by have:=L6.S.lz;omega,λH7 I kb s7 cS as aB ej=>U _ _ ?_];clear U;have L7:=L6.same s7;have ab:¬ M6 I:=λz=>L6.S.R.mt I z cS;clear L6 cS s7;have eg:=Rm.eI b6 (L7.sm _);have ec:ff (ns.map V.int) none (some (63:Int))=(ns.take 63).map V.int:=Rm.qW (s:=63);show#[0,0,sc,0,eg,λp8 d3=>?_];have s8:=Tb.au (X:=.lst (ff (ns.map V.int) none (some (63:Int)))) d3;show#[p8,0,.inl (bA.of af),_,0,?_];rw[ec]at s8 ⊢;rw[nq,DD];generalize eN:(if ((min 63 ns.length:Nat):Int)>8 then((min 63 ns.length:Nat):Int)else 8)=N;have hN:8<=N/\N<=63:=(by rw[<-eN];split<;>omega);show#[_,0,#[av,av,ae,ae],?_];show gq (lo:=1) (n:=(N-1).toNat) (λi σ H7=>∃(v7 v8 v9 a5 a1 a0 aT:Option V) (M:Addr->Prop) (L:Pg.PS) (cv:Int->Int->List Int) (pk:Int) (W:di) (Z:Zs) (I:Addr) (kb:List (List Key×V)),σ=[some (.ref sc),some (.int J),some (.ref a.rp),some (.ref m.md),some (.int lo),some (.ref tl),some (.ref I),v7,v8,v9,a5,a1,a0,aT]/\Lv c H a m (ox J) (pN J) tl (.lst (ts.map V.int)) (9+4*i) H7 M L cv pk W Z/\H7 I=some (.dT kb)/\¬ M I/\yX L W H7 kb)
   #[2,2,2,_,M6,s6,dz,d2,W6,Z6,I,kb,rfl,L7.same s8,s8 _ _ as,ab,aB.keep λb xs z=>s8 _ _ z] ?_ ?_
  .clear d3 s8 L7 eg ec as ab aB ej I kb;rintro i σ H7 hi ⟨v7,v8,v9,a5,a1,a0,aT,M,L,cv,pk,W,Z,I,kb,rfl,L7,as,ab,aB⟩;show eO λ_ U=>?_;show#[0,0,sc,ns,1+i,by rw[Int.natCast_add];rfl,Rm.eI b6 (L7.sm _),ae,ae,λnh H8 s8=>U _ _ ?_];clear U;have L8:=L7.same s8;show eO λ_ U=>?_;show#[0,0,0,nh,m,_,pk,Z,tl,ts,rfl,L8.S.D,L8.S.zn,by have:=L8.S.lz;omega,L8.ht,l5,λH9 d D s9 hd Y c8 a2=>U _ _ ?_];clear U;have L9:=L8.same s9;have ce:=s8.trans s9;have ap:∀t ad G cs,D=.poke t ad G cs->¬ M G:=λt ad G cs e z=>L8.S.R.mt G z (c8 t ad G cs e);have c5:=ce _ _ as;have cP:=aB.keep λb xs z=>ce _ _ z;clear L7 L8 c8 s8 s9 ce as aB;have t0:=Lf (nh/13) (show(4:Int)≠0 by decide);have t1:=K7 (nh/13) (show(0:Int)<4 by decide);show#[0,_,0,rfl,#[av,av],_,0,rfl,Eh,0,d,_,(0),.str (k9 D),1,bL.of hd.1,Iw D,d9,λp hp=>#[p,0,.inr (bL.of af),1,?_]];have sp:=Tb.au (X:=.tup [V.str "peek",V.str "poke"]) hp;show .inr #[JW D,4,0,rfl,.inr (by split<;>decide),_,0,5];generalize ba:JW D=pp;obtain⟨nt,d8,fl,e7⟩:∃nt:Nat,1+nh/13%4*(if pp=true then 1 else 0)=(nt:Int)/\nt<=4/\(pp=false->nt=1):=by
    cases pp with
    |false=>show#[(1),by simp,av,λ_=>rfl]
    |true=>show#[(1+nh/13%4).toNat,by simp;omega,ae,λz=>by cases z]
   rw[d8];show#[0,ae,ae,?_];rw[LY];have c3:=L9.same sp;have c4:gQ _ d D:=#[sp _ _ hd.1,λt ad G cs e=>sp _ _ (hd.2 t ad G cs e)];have cC:=sp _ _ c5;have ea:=cP.keep λb xs z=>sp _ _ z;generalize upd H9 p (.tup [V.str "peek",V.str "poke"])=fo at *;clear L9 hd c5 cP sp hp d8 t0 t1;show gq (lo:=0) (n:=nt) (λj σ H7=>∃(a5 a1 a0 aT:Option V) (M:Addr->Prop) (L:Pg.PS) (cv:Int->Int->List Int) (pk:Int) (W:di) (Z:Zs) (I:Addr) (kb:List (List Key×V)) (d:Addr) (D:Dd),σ=[some (.ref sc),some (.int J),some (.ref a.rp),some (.ref m.md),some (.int lo),some (.ref tl),some (.ref I),some (.int (1+(i:Int))),some (.int nh),some (.ref d),a5,a1,a0,aT]/\Lv c H a m (ox J) (pN J) tl (.lst (ts.map V.int)) (9+4*i+j) H7 M L cv pk W Z/\H7 I=some (.dT kb)/\¬ M I/\yX L W H7 kb/\gQ H7 d D/\vH D/\(∀t ad G cs,D=.poke t ad G cs->¬ M G)/\JW D=pp/\(j=0->∀o,D=.close o->∃t,t≠o/\∃z,Tb.look Z t=some z))
    #[2,2,M,L,cv,pk,W,Z,I,kb,d,D,rfl,c3,cC,ab,ea,c4,Y,ap,ba,λ_=>a2] ?_ ?_
   .clear c3 cC ea c4 Y ap ba a2 ab M L cv pk W Z I kb d D a5 a1 a0 aT;rintro j σ eq hj ⟨a5,a1,a0,aT,M,L,cv,pk,W,Z,I,kb,d,D,rfl,a7,as,ab,aB,hd,Y,ap,ba,a2⟩;show nameQ ?_;dsimp only;show iq (λσ H7=>∃(a1 a0 aT:Option V) (M:Addr->Prop) (L:Pg.PS) (cv:Int->Int->List Int) (pk:Int) (W:di) (Z:Zs) (I:Addr) (kb:List (List Key×V)),σ=[some (.ref sc),some (.int J),some (.ref a.rp),some (.ref m.md),some (.int lo),some (.ref tl),some (.ref I),some (.int (1+(i:Int))),some (.int nh),some (.ref d),some (.int (0+(j:Int))),a1,a0,aT]/\Lv c H a m (ox J) (pN J) tl (.lst (ts.map V.int)) (9+4*i+(j+1)) H7 M L cv pk W Z/\H7 I=some (.dT kb)/\¬ M I/\yX L W H7 kb/\gQ H7 d D/\∀t ad G cs,D=.poke t ad G cs->¬ M G) (λeP QQ ji je=>?A) ?B
    case A =>
     show#[0,0,m,_,pk,Z,d,D,rfl,a7.S.D,by have:=a7.S.lz;omega,hd,Y,λr ci bb d6=>#[rfl,0,?_]];have O:=a7.same bb;have bc:gQ ci d D:=#[bb _ _ hd.1,λt ad G cs e=>bb _ _ (hd.2 t ad G cs e)];have bx:=bb _ _ as;have bY:=aB.keep λb xs z=>bb _ _ z;show oz (λcr=>ji _ ?_) (λ_=>je _ #[2,_,M,L,cv,pk,W,Z,I,kb,rfl,O.up ae,bx,ab,bY,bc,ap]);have fi:yN Z (bS L) D:=d6 (V.str.inj (of_decide_eq_true cr));clear a7 hd as aB bb d6 cr ji je;have a2:∀o,D=.close o->∃t,t≠o/\∃z,Tb.look Z t=some z:=λo e=>by
      subst e;have:pp=false:=ba.symm.trans (by change BJ (.str "close") [.str "peek",.str "poke"]=false;decide +kernel);have:=e7 this;show a2 ae o rfl
     show eO λ_ U=>?_;show#[0,0,m,_,pk,Z,d,D,rfl,O.S.D,O.S.p0,by have:=O.S.lz;omega,bc,fi,(λt ad G cs e=>?_),(λt ad n e=>?_),λeH c0 Z2 u8 bz b3 a3 c1 c9 dO=>U _ _ ?_]
     .subst e;show#[λw=>ap _ _ _ _ rfl (O.S.sp _ w).1,Y.1,Y.2.1,KI Y.2.2.2 av]
     .subst e;show#[Y.1,Y.2.1,Y.2.2.2]
     clear U;let#[a6,_]:=my O.S.R O.S.D O.S.sp bz a3;have ac:=O.zE bc ap a3;have fw:=Dp O.S.tw O.S.R O.S.D Y fi;show eO λ_ U=>?_;show#[0,0,_,a,L,W,cv,d,D,rfl,a6,O.S.ri,O.S.cv,by have:=O.S.lw;omega,ac,fw,λbl bi am bF d4 u9 da dM cm a4 bI dj c2 dL=>U _ _ ?_];clear U;have ca:=O.Fu a2 bz b3 a3 c1 c9 dO da dM cm a4 bI.1 dj c2 dL;have bm:gQ bl d D:=#[a4.off _ _ ac.1 (iR a6 ac.1),λt ad G cs e=>(O.kept a3 a6 a4 (bc.2 t ad G cs e) (ap t ad G cs e)).1];have e0:∀t ad G cs,D=.poke t ad G cs->¬ bi G:=λt ad G cs e=>(O.kept a3 a6 a4 (bc.2 t ad G cs e) (ap t ad G cs e)).2;let#[cx,fk]:=O.kept a3 a6 a4 bx ab;have ee:=bY.keep (O.mf a3 a6 a4);have ew:∀t o,D=.copy t o->Tb.look W o=none:=λt o e=>(by subst e;let#[_,_,g,_]:=fw;show g);have d7:∀t ad n,D=.peek t ad n->∃p q,∃xs:List Int,u9=.ref p/\u8=.ref q/\bl p=some (.lst (xs.map V.int))/\bl q=some (.lst (xs.map V.int))/\xs.length<=100:=λt ad n e=>by
      subst e;let#[q,e1,e2,e3]:=(b3.2 cv O.C).2;let#[p,e4,e5,e6]:=cm.2.2;show#[p,q,_,e4,e1,e6,a4.off _ _ e3 λw=>O.S.R.mt q (O.S.R.dA _ w) e2,?_];unfold oX;rw[nq,Lh];show Y.2.2.2
     have mv:=bI.2;clear bz b3 a3 c1 c9 a6 ac da dM cm a4 bI dj c2 O bc a2 ap fw bY bx ab;show iq (λσ cT=>aZ bl cT/\σ=[some (.ref sc),some (.int J),some (.ref a.rp),some (.ref m.md),some (.int lo),some (.ref tl),some (.ref I),some (.int (1+(i:Int))),some (.int nh),some (.ref d),some (.int (0+(j:Int))),some u8,some u9,aT]) (λ_ QQ ji je=>?A1) ?B1
     case A1 =>
      show#[0,d,2,.str (k9 D),1,bL.of bm.1,Iw D,rfl,0,?_];show gS (λcp=>?_) (λ_=>je _ #[aZ.refl _,rfl]);let#[t,ad,n,rfl]:=CU (V.str.inj (of_decide_eq_true cp));let#[p,q,xs,e1,e2,hp,hq,hx]:=d7 _ _ _ rfl;subst e1 e2;show#[0,0,p,q,xs,rfl,hp,hq,hx,λbl am=>#[true,rfl,je _ #[am,rfl]]]
     case B1 =>
     rintro σ cT ⟨bn,rfl⟩;have bq:=ca.same bn;show eO λ_ U=>?_;show#[0,0,bi,a,m,2,_,am,d4,c0,bF,Z2,rfl,bq.S,by have:=bq.S.lz;omega,λek df kf eb bE dI b2 en=>U _ _ ?_];clear U;have bd:=bn.trans eb;have dl:=ca.same bd;have cz:gQ ek d D:=#[bd _ _ bm.1,λt ad G cs e=>bd _ _ (bm.2 t ad G cs e)];have ev:=bd _ _ cx;have ey:=ee.keep λb xs z=>bd _ _ z;have fc:I≠df:=ar (bn _ _ cx) bE;have em:¬ bi df:=λz=>bq.S.R.mt df z bE;clear ca bq bm cx ee bn eb bd d7 bE;show gR λQQ ji je=>?_;show#[0,0,0,0,0,bi,a,am,bF,m.md,d,I,df,kb,kf,D,rfl,dl.S.R,cz,ev,dI,fc,Fp ey b2 mv dL ew,FC b2 en mv Y fi dO,λfn be=>#[true,rfl,je _ ?_]];show#[0,eP _ _ #[2,_,bi,am,d4,c0,bF,Z2,df,kf,rfl,dl.same be,be _ _ dI,em,b2.keep λb xs z=>be _ _ z,#[be _ _ cz.1,λt ad G cs e=>be _ _ (cz.2 t ad G cs e)],e0]]
    case B =>
     clear a7 as ab aB hd ap a2;rintro σ ci ⟨a1,a0,aT,M,L,cv,pk,W,Z,I,kb,rfl,O,as,ab,aB,hd,ap⟩;show sk λQQ ji je=>?_;show#[0,d,_,(0),.str (k9 D),1,bL.of hd.1,Iw D,d9,λp hp=>#[p,0,.inr (bL.of af),1,0,?_]];have sp:=Tb.au (X:=.tup [V.str "peek",V.str "poke"]) hp;have b5:=O.same sp;have ac:gQ _ d D:=#[sp _ _ hd.1,λt ad G cs e=>sp _ _ (hd.2 t ad G cs e)];have b0:=sp _ _ as;have cq:=aB.keep λb xs z=>sp _ _ z;generalize upd ci p (.tup [V.str "peek",V.str "poke"])=eH at *;show oz (λcp=>ji _ ?_) (λ_=>je _ #[2,2,M,L,cv,pk,W,Z,I,kb,d,D,rfl,b5,b0,ab,cq,ac,Y,ap,ba,λz=>by omega]);cases D with
     |peek t ad n =>
      have r0:=Lf (ad+8) (show(512:Int)≠0 by decide);have r1:=K7 (ad+8) (show(0:Int)<512 by decide);show#[0,d,_,(0),.str "peek",1,bL.of ac.1,rfl,0,d,_,(1),.int t,1,bL.of ac.1,rfl,0,d,_,(2),.int ad,1,bL.of ac.1,4,0,4,0,rfl,(by change(0:Int)<512;decide),0,d,_,(3),.int n,1,bL.of ac.1,rfl,oU,λd' b4=>?_];have am:=Tb.au (X:=.tup (pA (.peek t ((ad+8)%512) n))) b4;show nameQ #[2,2,M,L,cv,pk,W,Z,I,kb,d',.peek t ((ad+8)%512) n,rfl,b5.same am,am _ _ b0,ab,cq.keep λb xs z=>am _ _ z,#[af,λt ad G cs e=>?_],#[r0,ae,Y.2.2],λt ad G cs e=>?_,ba,λz=>by omega]
      .cases e
      .cases e
     |poke t ad G cs =>
      have r0:=Lf (ad+8) (show(512:Int)≠0 by decide);have r1:=K7 (ad+8) (show(0:Int)<512 by decide);show#[0,d,_,(0),.str "poke",1,bL.of ac.1,rfl,0,d,_,(1),.int t,1,bL.of ac.1,rfl,0,d,_,(2),.int ad,1,bL.of ac.1,4,0,4,0,rfl,(by change(0:Int)<512;decide),0,d,_,(3),.ref G,1,bL.of ac.1,rfl,oU,λd' b4=>?_];have am:=Tb.au (X:=.tup (pA (.poke t ((ad+8)%512) G cs))) b4;show nameQ #[2,2,M,L,cv,pk,W,Z,I,kb,d',.poke t ((ad+8)%512) G cs,rfl,b5.same am,am _ _ b0,ab,cq.keep λb xs z=>am _ _ z,#[af,λt ad G cs e=>?_],#[r0,ae,Y.2.2],λt ad G cs e=>?_,ba,λz=>by omega]
      .cases e;show am _ _ (ac.2 _ _ _ _ rfl)
      .cases e;show ap _ _ _ _ rfl
     |begin t=>show absurd cp (by dsimp only[k9];decide +kernel)
     |close t=>show absurd cp (by dsimp only[k9];decide +kernel)
     |map t x y=>show absurd cp (by dsimp only[k9];decide +kernel)
     |drop t x y=>show absurd cp (by dsimp only[k9];decide +kernel)
     |copy t o=>show absurd cp (by dsimp only[k9];decide +kernel)
   .rintro σ eq ⟨a5,a1,a0,aT,M,L,cv,pk,W,Z,I,kb,d,D,rfl,a7,as,ab,aB,_⟩;show#[2,2,2,_,M,L,cv,pk,W,Z,I,kb,rfl,a7.up ae,as,ab,aB]
  .rintro σ H7 ⟨v7,v8,v9,a5,a1,a0,aT,M,L,cv,pk,W,Z,I,kb,rfl,L7,_⟩;show#[0,0,M,a,m,2,_,L,cv,pk,W,Z,rfl,L7.S,L7.C,ae,λH' _ _ _ _ _=>k H']
end
end Lw
end
namespace Hd
open PySem PySem.W PyProof.Rows
def rE:List Obj->List Obj×List Obj
 | []=>([],[])
 | [a]=>([a],[])
 |a::b::r=>(a::(rE r).1,b::(rE r).2)
def build:Nat->List Obj->BT
 |0,_=>.nil
 |_+1,[]=>.nil
 |f+1,o::r=>.node o (build f (rE r).1) (build f (rE r).2)
def topT (tb:String->Option Builtin) (p:Program) (w:World) (m:Nat) (an:Option Value):Nat->SharedT->Thread->Option SharedT
 |0,_,_=>none
 |k+1,x,t=>match through t with
  |true=>some x
  |false=>match stepOk m an t with
   |false=>none
   |true=>match stepT (denote tb) p w x t with
    |some (y,u)=>topT tb p w m an k y u
    |none=>none
theorem topT_of {tb:String->Option Builtin}{p:Program}{w:World}{m:Nat}{an:Option Value}:∀{k:Nat}{x z:SharedT}{t:Thread},topT tb p w m an k x t=some z->topRun tb p w m an k x.abs t=some z.abs:=by
 intro k
 induction k with
 |zero=>intro x z t e;cases e
 |succ k G =>
  intro x z t e;unfold topT at e;unfold topRun;cases a:through t with
  |true=>rw[a]at e;cases e;rfl
  |false =>
   rw[a]at e;cases b:stepOk m an t with
   |false=>rw[b]at e;cases e
   |true =>
    rw[b]at e;cases c:stepT (denote tb) p w x t with
    |none=>rw[c]at e;cases e
    |some r =>
     obtain⟨y,u⟩:=r;rw[c]at e;rw[stepT_spec c];exact G e
def Bm (p q:Program) (loose:List Str) (G:Shared->Bool) (I:Bool) (h:Heap) (s:Shared):=
 (staticsOk (importedModules p.main.body) h s.heap&&namesBound p s.heap&&gensDone s&&laidKept h s.heap,openSeen q loose (importedModules p.main.body) G I s)
theorem CC {p q:Program}{loose:List Str}{J:Shared->Bool}{α:Type}{O:Shared->α}{L:World->α}{N M m:Nat}{R:Bool}{H:Params->Heap}{T:Params->BT}{life:Life}{gs:Array GenState}{d:Drawn}{k:Nat}{an:Option Value}
  (hO:∀w:World,(fencedOpening treeTable p w N).map (λs=>(s.heap,s.gens,s.drawn,s.toks))=some (H w.params,gs,d,k))
  (hT:∀P,absHeap (T P) m life=H P)
  (S:∀w:World,((H w.params).isNs mainGlobals&&gs.size==0,(H w.params).objs.size,(H w.params).nsMap mainGlobals "__annotations__")=(true,m,an))
  (le:Nat.ble M N=true)
  (run:∀(w:World) (os:OsState),(topT treeTable p w m an M ⟨T w.params,m,life,gs,d,k,os⟩ (topStub p)).map (λs=>(Bm p q loose J R (H w.params) s.abs,O s.abs))=some ((true,openGood q loose),L w)) :
  LeftO p q loose J O L N R:=by
 intro w;obtain⟨s,a,b⟩:=Option.map_eq_some_iff.mp (hO w);obtain⟨h,I,d',G,os⟩:=s;simp only[Prod.mk.injEq]at b;obtain⟨rfl,rfl,rfl,rfl⟩:=b;have z:=S w;simp only[Prod.mk.injEq]at z;obtain⟨z1,z2,Y⟩:=z;obtain⟨x,c,e⟩:=Option.map_eq_some_iff.mp (run w os);have r:=topT_of c;have ab:(SharedT.mk (T w.params) m life I d' G os).abs=⟨H w.params,I,d',G,os⟩:=by
  unfold SharedT.abs;rw[hT]
 rw[ab]at r;have r:=topRun_mono (N-M) _ _ _ _ r;rw[show M+(N-M)=N from Nat.add_sub_cancel' (Nat.le_of_ble_eq_true le)]at r;simp only[Bm,Prod.mk.injEq]at e;obtain⟨⟨e1,e2⟩,U⟩:=e;have t:topFrom treeTable p w N ⟨H w.params,I,d',G,os⟩=some x.abs:=by
  unfold topFrom;dsimp only;rw[z1,z2,Y,r];simp only[bind_some,e1]
 unfold openEnds;rw[a];simp only[bind_some,t,map_some,e2,U]
theorem both {r:OpenRow}{q:Program}{loose:List Str}{d:DefRec}{G:List (Str×Expr)}{N:Nat}(H:Hook)
  (h1:defOf q r.name=some (d,G)) (h2:r.prog.theDef r.name=some (d.params,d.body,d.scope)) (R:kwWritten? d.params.kwonlyargs d.params.kw_defaults=some G) (L:(!r.writes||r.records.isEmpty)=true)
  (I:r.wellSaid=true) (J:(chainsOk q&&opensWell r.prog&&(frees r.toRowW&&r.within.isEmpty))=true) (O:r.prog.bare) (S:r.toRowW.promised)
  (h:LeftO r.prog q loose (λs=>xlAt q [] s&&recOk r.records s) H.obs H.val N/\WalkO q loose (XL q []) H.says r.toRowW d G λf vs=>PySem.call f vs):r.Holds :=
 holds_open h.1 H.of H.keeps (λs e=>xl_of s (Bool.and_eq_true_iff.mp e).1) XL.keeps h1 h2 R (λs e=>recFacts_of (Bool.and_eq_true_iff.mp e).2) L I J O S h.2
noncomputable def DP (P:Params):BT:=build 12 (boot_heap P).objs.toList
def q:Program:=PySem.W.view PySem.Challenge.pw_ownroom_k16_put_out_and_fetched [53]
def loose:List Str:=[Str.ofString "_wall",Str.ofString "__name__",Str.ofString "KernelError",Str.ofString "ValueError",Str.ofString "NoOwner",Str.ofString "NoTask",Str.ofString "NoPage",Str.ofString "NoRoom",Str.ofString "Taken",Str.ofString "PAGE_CELLS",Str.ofString "Store",Str.ofString "lift",Str.ofString "settle",Str.ofString "Paging",Str.ofString "ROOM_PAGES",Str.ofString "room_of",Str.ofString "refuse_second_room",Str.ofString "refuse_above",Str.ofString "pages_from",Str.ofString "refuse_unmapped",Str.ofString "pages_to_map",Str.ofString "pages_to_drop",Str.ofString "pages_of_cells",Str.ofString "run_within",Str.ofString "pages_with",Str.ofString "STEP_PAGES",Str.ofString "own_copy",Str.ofString "Table",Str.ofString "BLANK",Str.ofString "Rooms",Str.ofString "_law_mixed",Str.ofString "_law_number",Str.ofString "_law_whole",Str.ofString "_law_cells",Str.ofString "_law_model",Str.ofString "_law_held",Str.ofString "_law_stretch",Str.ofString "_law_due",Str.ofString "_law_done",Str.ofString "_law_called",Str.ofString "_law_numbers",Str.ofString "_law_sizes",Str.ofString "_law_busy",Str.ofString "_law_begun",Str.ofString "_law_all_right",Str.ofString "_law_filled",Str.ofString "_law_places",Str.ofString "_law_right"]
local macro_rules | `(tactic| o_head $H) => `(tactic| refine Hd.both (q:=Hd.q) (loose:=Hd.loose) (N:=100000) $H (by rfl) (by rfl) (by rfl) (by rfl) (by assumption) ao ⟨rfl,rfl,rfl,rfl,rfl,ao⟩ ?$(Lean.mkIdent `hw):ident ?$(Lean.mkIdent `hc):ident)
open_top top for PySem.Challenge.rw_ownroom_k16_put_out_and_fetched
def at_:List Addr:=[2,3,15,17,18,20,21,22,29,30,31,32,35,42,43,44,47,54,55,56,59,66,67,68,71,78,79,80,83,90,91,92,102,104,105,107,108,109,111,112,114,115,116,118,119,121,122,123,125,126,128,129,130,132,133,135,136,137,139,140,142,143,144,146,147,149,150,151,153,154,156,157,158,160,161,163,164,165,166,167,168,169,172,174,175,177,178,179,181,182,184,185,193,195,196,198,199,200,202,203,205,206,207,209,210,212,213,214,216,217,219,220,221,223,224,226,227,228,230,231,233,234,235,237,238,240,241,242,244,245,247,248,249,251,252,254,255,256,258,259,261,262,263,265,266,268,269,270,272,273,275,276,277,279,280,282,283,284,286,287,289,290,291,292,293,294,295,298,300,301,303,304,305,307,308,310,311,312,314,315,317,318,319,321,322,324,325,326,328,329,331,332,333,335,336,338,339,340,342,343,345,346,347,349,350,352,353,354,356,357,359,360,361,364,365,366,369,370,378,380,381,383,384,385,387,388,390,391,392,394,395,397,398,399,401,402,404,405,406,408,409,411,412,413,415,416,418,419,420,421,422,423,424,427,435,437,438,440,441,442,444,445,447,448,449,451,452,454,455,456,458,459,461,462,463,465,466,468,469,470,472,473,475,476,477,479,480,482,483,484,486,487,489,490,491,494,495,496,498,499,501,502,503,505,506,508,509,510,512,513,515,516,517,519,520,522,523,524,526,527,529,530,531,532,533,534,535,538,540,541,543,544,545,547,548,550,551,552,554,555,557,558,559,561,562,564,565,566,568,569,571,572,573,576,577,578,581,582,583,586,587,588,591,592,593,595,596,598,599,600,603,604,605,607,608,610,611,612,614,615,617,618,619,621,622,624,625,626,628,629,631,632,633,635,636,638,639,640,642,643,645,646,647,649,650,652,653,654,656,657,659,660]
noncomputable def lhs (w:World) (os:OsState):=
 (topT treeTable PySem.Challenge.pw_ownroom_k16_put_out_and_fetched w 11 (some (.ref 6)) 100000 ⟨DP w.params,11, {},Array.mk [],boot_drawn,boot_toks,os⟩ (topStub PySem.Challenge.pw_ownroom_k16_put_out_and_fetched)).map
  λs=>(Bm PySem.Challenge.pw_ownroom_k16_put_out_and_fetched q loose (λs=>xlAt q [] s&&recOk PySem.Challenge.rw_ownroom_k16_put_out_and_fetched.row.records s) true (boot_heap w.params) s.abs,at_.map s.abs.heap.get?)
noncomputable def Jp (K:Frag):=some ((true,openGood q loose),K.map λp=>some p.2)
theorem lhs_self:lhs=lhs:=rfl
theorem zQ:Jp=Jp:=rfl
name_quick hdL for Hd.lhs by Hd.lhs_self
name_quick hdR for Hd.Jp by Hd.zQ
noncomputable def rhs (w:World):=some ((true,openGood q loose),(Hd.top.heap_39 w.params).map λp=>some p.2)
theorem same_ (w:World) (os:OsState):PySem.W.Fast.hdL w os=PySem.W.Fast.hdR (Hd.top.heap_39 w.params):=by kernel_rfl
theorem run_ (w:World) (os:OsState):lhs w os=rhs w:=((congrFun (congrFun PySem.W.Fast.hdL_eq w) os).trans (same_ w os)).trans (congrFun PySem.W.Fast.hdR_eq (Hd.top.heap_39 w.params)).symm
end Hd
section
local macro_rules|`(tactic|show $t)=>`(tactic|refine $t)
open Lean in
local macro_rules|`(#[$xs,*])=>do
 let T:=([← `(⟨_,rfl⟩),← `(⟨rfl,rfl⟩),← `(⟨_,_⟩),← `(⟨?_,?_⟩),← `(⟨rfl,_⟩),← `(⟨rfl,?_⟩)]:List (TSyntax `term))
 let mut r:Array (TSyntax `term):=Array.mk []
 for x in xs.getElems do
  match x.raw.isNatLit? with
  |some k=>
   match T[k]! with
   |`(⟨$ys,*⟩)=>r:=r++ys.getElems
   |_=>r:=r
  |_=>r:=r.push x
 `(⟨$r,*⟩)
open Lean in
local macro_rules|`(tactic|let $p:term:=$e)=>do
 let rec go (n:Nat)(t:Syntax):MacroM (TSyntax `rcasesPat):=do
  match n with
  |0=>Macro.throwUnsupported
  |n+1=>match t with
   |`($i:ident)=>`(rcasesPat|$i:ident)
   |`(_)=>`(rcasesPat|_)
   |`(#[$xs,*])=>do `(rcasesPat|⟨$(←xs.getElems.mapM fun x=>do `(Parser.Tactic.rcasesPatLo|$(←go n x):rcasesPat)),*⟩)
   |_=>Macro.throwUnsupported
 match p with
 |`(#[$_,*])=>do `(tactic|obtain $(←go 99 p):rcasesPat := $e)
 |_=>Macro.throwUnsupported
namespace Lw
open PySem L2
def Al:Nat->(List Value->Prop)->Prop
 |0,p=>p []
 |n+1,p=>∀a,Al n λl=>p (a::l)
theorem al:∀{n:Nat}{p:List Value->Prop},Al n p->∀us:List Value,us.length=n->p us
 |0,_,h,us,e=>by cases List.eq_nil_of_length_eq_zero e;show h
 |n+1,_,h,us,e=>by
  cases us with
  |nil=>cases e
  |cons a us=>show al (h a) us (Nat.succ.inj e)
inductive MI (K:iF) (C:Addr) (m q:Str) (st:KP) (ps:List Str):Prop
 |mk (f:Addr) (fd:qi) (_:cK K m q st f fd) (_:Binds K fd ps []) (_:Meth K C m f):MI K C m q st ps
inductive DI (K:iF) (x:Str) (st:KP) (ps:List Str):Prop
 |mk (f:Addr) (fd:qi) (_:cK K x x st f fd) (_:Binds K fd ps []) (_:Sr K Lc x=some (some (.ref f))):DI K x st ps
section
variable {K:iF}{C f:Addr}{m q:Str}{st:KP}{ps:List Str}{od an:Option Addr}{sl:Array (Option Value)}{oc kV dc pm cd ct:Value}
theorem MI.of (a:N9 K (.ref C) m=some (some (.ref f))) (i:isFn K (.ref f)=true) (l:K.lookup f=some #[oc,od,.func (RW m q (fL st) (eu st) (aw st) .none kV dc pm an cd ct),sl]) (c:RX K cd q=true) (k:Pq K (.ref f)=true)
  (b:∀kV G pm an I ct,Al ps.length λus=>Q6 (RW m q (fL st) (eu st) (aw st) .none kV G pm an I ct) #[us,[]]=pure (ps.zip us)):MI K C m q st ps :=
 #[2,qJ l c k,(qJ l c k).binds λ_ _ _ _ _ _=>al (b _ _ _ _ _ _),a,i,k]
theorem DI.of (a:Sr K Lc m=some (some (.ref f))) (l:K.lookup f=some #[oc,od,.func (RW m m (fL st) (eu st) (aw st) .none kV dc pm an cd ct),sl]) (c:RX K cd m=true) (k:Pq K (.ref f)=true)
  (b:∀kV G pm an I ct,Al ps.length λus=>Q6 (RW m m (fL st) (eu st) (aw st) .none kV G pm an I ct) #[us,[]]=pure (ps.zip us)):DI K m st ps :=
 #[2,qJ l c k,(qJ l c k).binds λ_ _ _ _ _ _=>al (b _ _ _ _ _ _),a]
inductive CI (K:iF) (C:Addr) (x:Str):Prop
 |mk (_:Sr K Lc x=some (some (.ref C))) (_:r9 K C) (_:makesIn K C=true) (_:Pq K (.ref C)=true):CI K C x
end
theorem MI.md {P:rr}{w:Bd}{K:iF}{mg:Str->Option Value}{base:Heap}{CX:uh}{n:Nat}{C:Addr}{m q:Str}{st:KP}{ps:List Str}{sp:Sp}(h:MI K C m q st ps) (k:∀{f fd},cK K m q st f fd->a8 P w K mg base CX n f fd ps sp):Md P w K mg base CX n C m sp:=by
 let#[f,fd,F,b,M]:=h;show Md.mk _ _ _ (k F) b M
theorem DI.df {P:rr}{w:Bd}{K:iF}{mg:Str->Option Value}{base H:Heap}{CX:uh}{n:Nat}{x:Str}{st:KP}{ps:List Str}{sp:Sp}(h:DI K x st ps) (X:K.In H) (G:H.Ns Lc mg) (k:∀{f fd},cK K x x st f fd->a8 P w K mg base CX n f fd ps sp):Df P w K mg base CX n x sp:=by
 let#[f,fd,F,b,a]:=h;show Df.mk _ _ _ (k F) b (Ph X G a) F.kp
def NI (K:iF):List Str->Prop
 | []=>True
 |x::l=>Sr K Lc x=some none/\NI K l
def AI (K:iF) (C:Addr):List Str->Prop
 | []=>True
 |x::l=>N9 K (.ref C) x=some none/\AI K C l
theorem all_mk {l:NS}{w:Bd}{K:iF}{h:Heap}{mg:Str->Option Value}{fa L I N J aB:Addr}{fy t8 t9:Ss}{bz:Value}{f7:Option Addr}{hP:Array (Option Value)}{a1:Array Value}{nB:Nat}(X:K.In h) (G:h.Ns Lc mg) (fz:mg "law" = some (.ref fa)) :
  CI K L "Store" -> AI K L ["owners","contents"]->MI K L "__init__" "Store.__init__" St.nH ["self","many"]->MI K L "take" "Store.take" St.zm ["self"]->MI K L "less" "Store.less" St.AW ["self","n"]->MI K L "more" "Store.more" St.Ak ["self","n"]->MI K L "free" "Store.free" St.Ae ["self"]->MI K L "count" "Store.count" St.vp ["self","n"]->MI K L "cells" "Store.cells" St.uk ["self","n"]->MI K L "put" "Store.put" St.DV ["self","n","cells"]->MI K L "refuse_free" "Store.refuse_free" St.qp ["self","n"]->CI K I "Paging" -> AI K I ["frames","slots","places","last_sheet","in_frames"]->MI K I "__init__" "Paging.__init__" St.ve ["self","frames","slots"]->MI K I "new_sheet" "Paging.new_sheet" St.kM ["self","cells"]->MI K I "share" "Paging.share" St.vg ["self","sheet"]->MI K I "leave" "Paging.leave" St.uN ["self","sheet"]->MI K I "cells" "Paging.cells" St.pY ["self","sheet"]->MI K I "change" "Paging.change" St.rf ["self","sheet","cells"]->MI K I "fetch" "Paging.fetch" St.wm ["self","sheet"]->MI K I "bring_in" "Paging.bring_in" St.mq ["self","sheet","moved"]->MI K I "put_out" "Paging.put_out" St.qM ["self","sheet"]->MI K I "place" "Paging.place" St.vq ["self","sheet"]->MI K I "number_of" "Paging.number_of" St.j6 ["self","sheet"]->MI K I "store_of" "Paging.store_of" St.ml ["self","sheet"]->MI K I "count" "Paging.count" St.rS ["self","sheet"]->MI K I "counts" "Paging.counts" Lw.mX ["self"]->CI K N "Table" -> AI K N ["first_step"]->MI K N "__init__" "Table.__init__" Tb.nH ["self"]->MI K N "get" "Table.get" Tb.EM ["self","page"]->MI K N "lay" "Table.lay" Tb.E5 ["self","page","entry"]->MI K N "clear" "Table.clear" Tb.vV ["self","page"]->MI K N "pages" "Table.pages" Tb.uq ["self"]->CI K J "Rooms" -> AI K J ["paging","total","rooms"]->MI K J "__init__" "Rooms.__init__" St.uB ["self","frames","slots"]->MI K J "begin" "Rooms.begin" St.qr ["self","task"]->MI K J "close" "Rooms.close" St.rN ["self","task"]->MI K J "map" "Rooms.map" St.Bl ["self","task","page","many"]->MI K J "drop" "Rooms.drop" St.uV ["self","task","page","many"]->MI K J "peek" "Rooms.peek" St.uo ["self","task","address","many"]->MI K J "poke" "Rooms.poke" St.vz ["self","task","address","cells"]->MI K J "copy" "Rooms.copy" St.u6 ["self","task","other"]->MI K J "held" "Rooms.held" St.uj ["self"]->MI K J "counts" "Rooms.counts" Lw.mz ["self"]->MI K J "place" "Rooms.place" St.qE ["self","task","page"]->MI K J "leave_pages" "Rooms.leave_pages" St.qz ["self","table","pages"]->MI K J "cells_of" "Rooms.cells_of" St.qc ["self","entry"]->MI K J "sheet_with" "Rooms.sheet_with" St.rL ["self","entry","cells"]->DI K "lift" St.zi ["store","n"]->DI K "settle" St.qV ["store","moved"]->DI K "own_copy" Tb.wO ["value"]->DI K "room_of" St.qS ["rooms","task"]->DI K "refuse_second_room" St.qD ["rooms","task"]->DI K "refuse_above" St.uI ["held","total"]->DI K "pages_from" Rm.jf ["page","many"]->DI K "refuse_unmapped" Rm.j4 ["mapped","pages"]->DI K "pages_to_map" Rm.uJ ["mapped","page","many"]->DI K "pages_to_drop" Rm.qy ["mapped","page","many"]->DI K "pages_of_cells" Rm.nE ["mapped","address","many"]->DI K "run_within" Rm.q8 ["whole","address","many"]->DI K "pages_with" Rm.zx ["whole","address","cells"]->DI K "_law_mixed" Lw.vX ["_law_cell","_law_k"]->DI K "_law_number" Lw.qo ["_law_script","_law_k"]->DI K "_law_whole" Lw.uu ["_law_found"]->DI K "_law_cells" Lw.mF ["_law_m","_law_many"]->DI K "_law_model" Lw.wb ["_law_total"]->DI K "_law_held" Lw.vQ ["_law_model_here"]->DI K "_law_stretch" Lw.nA ["_law_room","_law_address","_law_many"]->DI K "_law_due" Lw.EL ["_law_model_here","_law_deed"]->DI K "_law_done" Lw.zP ["_law_model_here","_law_deed"]->DI K "_law_called" Lw.qP ["_law_kept","_law_deed"]->DI K "_law_numbers" Lw.nD ["_law_found","_law_due_here"]->DI K "_law_sizes" Lw.vi ["_law_m"]->DI K "_law_busy" Lw.zg ["_law_m","_law_model_here","_law_tasks"]->DI K "_law_begun" Lw.vO ["_law_m"]->DI K "_law_all_right" Lw.AR ["_law_kept","_law_model_here"]->DI K "_law_filled" Lw.qH ["_law_kept","_law_model_here","_law_m","_law_tasks"]->DI K "_law_places" Lw.qG ["_law_kept","_law_model_here"]->DI K "_law_right" Lw.vL ["_law_kept","_law_model_here","_law_deed","_law_before","_law_after"]->DI K "law" Lw.Ep ["_law_script"]->Sr K Lc "ROOM_PAGES" = some (some (.int 64 fy))->Sr K Lc "PAGE_CELLS" = some (some (.int 8 t8))->Sr K Lc "STEP_PAGES" = some (some (.int 8 t9))->NI K ["range","enumerate","sum","int","isinstance","min","max","list","len","dict","bool","tuple","sorted","all","any","zip"]->Sr K Lc "BLANK" = some (some (.ref aB))->K.lookup aB=some #[bz,f7,.seq a1 nB,hP]->bz=.type "tuple" -> Vals [V.str "blank"] a1.toList->a1.size<=1 ->
  ∃fd:qi,(∀(s:mu) (v:Value),Qp s fd #[[v],[]] [("_law_script",v)])/\∀base:Heap,K.In base->base.Ns Lc mg->a8 l.prog w K mg base aV 12 fa fd ["_law_script"] (wG K):=by
 intro h0 h1 h2 h3 h4 h5 h6 h7 h8 h9 dI d3 d8 ej dp eH db ev eg hx c9 gd hu fH ez hN ho dV fk gH dl et e3 g4 hc hG e6 eo eN fi em fT c5 e9 ec ei gm hC hj g7 eP en cm c8 gs c4 f3 fc hK dT fu g2 hA g6 ge f0 hL ga d2 ek gt g5 dM cp hO hQ hl d6 ft e7 hD dj q0 q1 q2 hM yB lB oB vB wB;let#[hz,f4,dO,hw]:=h0;let#[eq,hh,_]:=h1;let#[f1,d1,F1,b1,M1]:=h2;let#[gr,ha,fx,e5]:=d3;let#[fo,hb,hg,fw,cx,_]:=d8;let#[ih,hR,cz,g3,bI]:=ej;let#[cc,ea,b6,b2]:=dV;let#[eC,_]:=fk;let#[im,ii,hr,a7,a2]:=gH;let#[ew,hF,c2,fD]:=hc;let#[e0,g9,e2,_]:=hG;let#[ia,ik,d7,hv,bx]:=e6;let#[io,c3,b0,hT,hB]:=dj;let#[ce,hm,bc,c7,bb,g0,hE,ab,Y,bd,fr,bm,ca,ht,eb,cr,_]:=hM;have e:=fz.symm.trans (Ph X G hB);cases e;show#[c3,λs v=>?_,λbase _ _=>?_]
 .let#[oc,od,kV,il,pm,an,hS,ct,hY,rfl,lk,ib]:=b0.ex;show .of_eq rfl
 have TS:St.Txt K mg L:=#[f4,eq,hh,KG X G Y,KG X G ab,#[_,Ph X G q1,#[0]]];have TT:Tb.Txt K mg N:=#[ea,eC,#[_,Ph X G q2,#[0]]];have TQ:Tb.zq mg:=#[KG X G bb,KG X G bm,KG X G ab,KG X G bd,KG X G Y,KG X G ca];have SX:Rm.Bh mg:=#[#[_,Ph X G q0,#[0]],#[_,Ph X G q1,#[0]],KG X G ab,KG X G ce,KG X G Y];have TP:St.ou K mg I:=#[ha,fo,hb,hg,fw,cx,KG X G ab];have O:St.oP K mg #[J,I,L,N]:=#[hF,e0,g9,e2,#[aB,Ph X G yB,.inr #[_,a1,nB,lB,oB,rfl,KI wB av,vB]],#[_,Ph X G q1,#[0]],KG X G Y,KG X G bc,KG X G cr];have MT:Lw.kl mg:=#[KG X G ce,KG X G hm,KG X G bc,KG X G c7,KG X G bb,KG X G g0,KG X G hE,KG X G ab,KG X G Y,KG X G bd,KG X G fr,KG X G bm,KG X G ca,KG X G ht,KG X G eb];have dL:=St.qZ (P:=l.prog) (w:=w) (base:=base) F1 TS;have ac:=h7.md λF=>St.zC (P:=l.prog) (w:=w) (base:=base) F TS;have a0:=dI.md λF=>St.ye F TS ac;have b4:=h4.md λF=>St.Cp F TS a0;have ba:=h8.md λF=>St.y4 F TS a0;have bY:=h9.md λF=>St.EZ F TS a0;have b5:=h5.md λF=>St.Dl F TS a0;have hH:=h3.md λF=>St.C8 (P:=l.prog) (w:=w) (base:=base) F TS;have bn:=h6.md λF=>St.Cg (P:=l.prog) (w:=w) (base:=base) F TS;have e1:=cm.df X G λF=>Tb.zb (P:=l.prog) (w:=w) (base:=base) F TQ;have GC:=cm.df X G λF=>Tb.Dc F TQ e1;have bi:=Tb.qZ (P:=l.prog) (w:=w) (base:=base) hr TT;have am:=dl.md λF=>Tb.EC F TT GC;have a3:=et.md λF=>Tb.E3 F TT GC;have f5:=e3.md λF=>Tb.Au (P:=l.prog) (w:=w) (base:=base) F TT TQ;have R:=g4.md λF=>Tb.zT (P:=l.prog) (w:=w) (base:=base) F TT TQ;have GP:=f3.df X G λF=>Rm.qX (P:=l.prog) (w:=w) (base:=base) F SX;have GU:=fc.df X G λF=>Rm.uc (P:=l.prog) (w:=w) (base:=base) (mg:=mg) F;have GM:=hK.df X G λF=>Rm.Bp F GP;have GD:=dT.df X G λF=>Rm.yy F GP GU;have GO:=fu.df X G λF=>Rm.vj F SX GP GU;have ef:=g2.df X G λF=>Rm.yU (P:=l.prog) (w:=w) (base:=base) F SX;have hy:=hA.df X G λF=>Rm.BN (P:=l.prog) (w:=w) (base:=base) F SX;have bq:=eP.df X G λF=>St.BP F TS ba ac b4;have ch:=en.df X G λF=>St.yK F TS hH bY ac b5;have as:=hu.md λF=>St.AL (CS:=L) (P:=l.prog) (w:=w) (base:=base) F TP;have U:=fH.md λF=>St.tq F TP as;have aT:=ez.md λF=>St.uK F TP as;have hq:=hN.md λF=>St.yo F TP TS aT U ac;have ee:=ev.md λF=>St.x8 F TP TS aT U ba;have fv:=gd.md λF=>St.vA F TP bq ch U;have b3:=c9.md λF=>St.sJ F TP TS bn fv ch;have be:=dp.md λF=>St.rT F TP TS bn b3;have bl:=hx.md λF=>St.zF F TP as b3 bq;have ey:=eH.md λF=>St.AA F TP TS aT U b5;have bF:=db.md λF=>St.Av F TP TS aT U b4 ac;have d4:=eg.md λF=>St.yf F TP TS hq be bF bl U bY;have d5:=St.Bo cz TP #[dO,M1.at_,M1.fn,hw] (Ph X G hz) dL b1;have S:=c8.df X G λF=>St.yQ (P:=l.prog) (w:=w) (base:=base) (mg:=mg) F;have GS:=gs.df X G λF=>St.yt (P:=l.prog) (w:=w) (base:=base) (mg:=mg) F;have GA:=c4.df X G λF=>St.Bb (P:=l.prog) (w:=w) (base:=base) (mg:=mg) F;have g8:=St.Ay (c:=#[J,I,L,N]) d7 O #[fx,bI.at_,bI.fn,e5] (Ph X G gr) d5 g3;have bE:=hC.md λF=>St.oy (c:=#[J,I,L,N]) F O TT TP am f5 bF;have dm:=em.md λF=>St.CK (c:=#[J,I,L,N]) F O TT S GD R bE;have fl:=eN.md λF=>St.yn (c:=#[J,I,L,N]) F O TT S R bE;have hk:=eo.md λF=>St.yh (c:=#[J,I,L,N]) F O #[b6,a2.at_,a2.fn,b2] (Ph X G cc) GS bi a7;have a6:=hj.md λF=>St.vE (c:=#[J,I,L,N]) F O TP ee;have f2:=g7.md λF=>St.p7 (c:=#[J,I,L,N]) F O TP be d4;have a5:=ec.md λF=>St.AG (c:=#[J,I,L,N]) F O TT R;have fI:=fi.md λF=>St.BU (c:=#[J,I,L,N]) F O TT S GM GA R a5 a3;have dz:=fT.md λF=>St.zy (c:=#[J,I,L,N]) F O TT TP S GO ef R am bl a6;have hd:=c5.md λF=>St.Bs (c:=#[J,I,L,N]) F O TT S GO hy R am a3 a6 f2;have g1:=e9.md λF=>St.zh (c:=#[J,I,L,N]) F O TT TP #[b6,a2.at_,a2.fn,b2] (Ph X G cc) S GS GA bi a7 R a5 am a3 ey;have c0:=gm.md λF=>St.xO (c:=#[J,I,L,N]) F O TT TP S am as;have KT:Lw.FL l.prog w K mg base #[J,I,L,N]:=#[hk,fl,fI,dm,g1,dz,c0,hd];have da:=g6.df X G λF=>Lw.AZ (P:=l.prog) (w:=w) (base:=base) (mg:=mg) F;have he:=ge.df X G λF=>Lw.xX F MT da;have e8:=hO.df X G λF=>Lw.Br (P:=l.prog) (w:=w) (base:=base) (mg:=mg) F;have gl:=ga.df X G λF=>Lw.z7 (P:=l.prog) (w:=w) (base:=base) (mg:=mg) F;have ap:=d2.df X G λF=>Lw.AJ (P:=l.prog) (w:=w) (base:=base) F MT;have dd:=ek.df X G λF=>Lw.wy (P:=l.prog) (w:=w) (base:=base) F MT;have ci:=gt.df X G λF=>Lw.DX F MT ap dd;have a4:=g5.df X G λF=>Lw.BM (P:=l.prog) (w:=w) (base:=base) F MT;have hn:=dM.df X G λF=>Lw.yw F O KT;have cq:=f0.df X G λF=>Lw.zX (P:=l.prog) (w:=w) (base:=base) F MT;have bv:=cp.df X G λF=>Lw.vy F MT cq;have f8:=d6.df X G λF=>Lw.CD F O KT bv ap a5;have hf:=hL.df X G λF=>Lw.vh (P:=l.prog) (w:=w) (base:=base) F MT;have hI:=hQ.df X G λF=>Lw.CF F MT ap hf;have fe:=ho.md λF=>Lw.wk (P:=l.prog) (w:=w) (base:=base) F TP TS;have hp:=ei.md λF=>Lw.vM (c:=#[J,I,L,N]) F O TP fe;have c1:=ft.df X G λF=>Lw.ya F MT O KT a4 ap ci;have e4:=e7.df X G λF=>Lw.xJ F O KT;have go:=hD.df X G λF=>Lw.Ag F MT O hp;have el:=hl.df X G λF=>Lw.Ba F O KT #[c2,bx.at_,bx.fn,fD] (Ph X G ew) e8 g8 hv gl a4;show Lw.EX b0 MT he el hI ci a4 hn bv c1 e4 go f8
theorem walk {l:NS}{q:rr}{loose:List Str}{R:(Str->Option Value)->Heap->Prop}{I:Bd->Heap->Prop}{d:DefRec}{K:Params->iF}(S:l.most=some 63) (O:d.params.defaults=[])
  (N:∀(w:Bd) (h:Heap),I w h->(K w.params).In h)
  (F:∀(w:Bd) (mg:Str->Option Value) (G:Addr) (h:Heap),(K w.params).In h->h.Ns Lc mg->mg d.name=some (.ref G) ->
   ∃fd:qi,(∀(s:mu) (u:Value),Qp s fd #[[u],[]] [("_law_script",u)])/\∀base:Heap,(K w.params).In base->base.Ns Lc mg->a8 l.prog w (K w.params) mg base aV 12 G fd ["_law_script"] (wG (K w.params))) :
  QX q loose R I l.row.toRowW d [] (λf vs=>Rh f vs):=
 L2.Cj (n:=63) (k:=12) (x := "_law_script") (CX:=λ_=>aV) (sp:=λw=>wG (K w.params)) S av O #[rfl,av,av] N F (λ_ _ a ns L _ J=>#[a,ns,rfl,J,L,λ_=>rfl]) λ_ _ _ _ _ z=>z
end Lw
end
open PySem PySem.W PyProof.Rows
theorem PySem.Challenge.cw_ownroom_k16_put_out_and_fetched_holds : PySem.Challenge.rw_ownroom_k16_put_out_and_fetched.Holds := by
 refine Hd.top ⟨Hd.CC (H:=boot_heap) (T:=Hd.DP) (life:={}) (m:=11) (M:=100000) (gs:=Array.mk []) (d:=boot_drawn) (k:=boot_toks) (an:=some (.ref 6)) (boot_open (by kernel_rfl) av (λs=>by kernel_rfl)) (λP=>by kernel_rfl) (λw=>by kernel_rfl) av (λw os=>Hd.run_ w os),?_⟩
 k_fill
 refine Lw.walk (l:=PySem.Challenge.rw_ownroom_k16_put_out_and_fetched) rfl rfl (λw h Y=>PySem.W.kIn_of Y) ?F
 case F =>
  intro w mg fa h KX G hmg;apply Lw.all_mk KX G hmg
  all_goals first
   |(apply Lw.MI.of<;>first|k_is|(first|exact λ_ _ _ _ _ _ _=>rfl|exact λ_ _ _ _ _ _ _ _=>rfl|exact λ_ _ _ _ _ _ _ _ _=>rfl|exact λ_ _ _ _ _ _ _ _ _ _=>rfl|exact λ_ _ _ _ _ _ _ _ _ _ _=>rfl))
   |(apply Lw.DI.of<;>first|k_is|(first|exact λ_ _ _ _ _ _ _=>rfl|exact λ_ _ _ _ _ _ _ _=>rfl|exact λ_ _ _ _ _ _ _ _ _=>rfl|exact λ_ _ _ _ _ _ _ _ _ _=>rfl|exact λ_ _ _ _ _ _ _ _ _ _ _=>rfl))
   |(apply Lw.CI.mk;k_is;(constructor<;>k_is);k_is;k_is)
   |(unfold Lw.NI;repeat' first|apply And.intro|exact trivial|k_is|unfold Lw.NI)
   |(unfold Lw.AI;repeat' first|apply And.intro|exact trivial|k_is|unfold Lw.AI)
   |k_is|rfl|exact .cons ⟨_,rfl⟩ .nil|exact le_refl 1
