import PyProof.Rows.All
import KE.KDictSum
import KE.KDictOf
import KE.LcSums
import KE.KItem
import KE.KEqDict
import KE.KFromBytes
import KE.KSortTup
import KE.RegKIsAll
import KE.RegKTryMore
import PySem.Challenge.RW_ownroom_k94_whole_files_behind_falls
set_option compiler.extract_closed false
set_option bootstrap.genMatcherCode false
theorem eW {n:Nat}(h:Nat.ble n 16777216=true:=by rfl):n<=PySem.sizeLine:=PySem.sizeLine_eq▸Nat.le_of_ble_eq_true h
inductive Dh {α β:Type}(p:α->β->Prop):Prop
 |mk (x0:α) (x1:β) (_:p x0 x1):Dh p
inductive RA {α β γ:Type}(p:α->β->γ->Prop):Prop
 |mk (x0:α) (x1:β) (x2:γ) (_:p x0 x1 x2):RA p
inductive SO {α β γ δ:Type}(p:α->β->γ->δ->Prop):Prop
 |mk (x0:α) (x1:β) (x2:γ) (x3:δ) (_:p x0 x1 x2 x3):SO p
inductive Pz {α β γ δ ε:Type}(p:α->β->γ->δ->ε->Prop):Prop
 |mk (x0:α) (x1:β) (x2:γ) (x3:δ) (x4:ε) (_:p x0 x1 x2 x3 x4):Pz p
inductive RU {α β γ δ ε ζ:Type}(p:α->β->γ->δ->ε->ζ->Prop):Prop
 |mk (x0:α) (x1:β) (x2:γ) (x3:δ) (x4:ε) (x5:ζ) (_:p x0 x1 x2 x3 x4 x5):RU p
inductive tD (A0 A1 A2:Prop):Prop
 |mk (_:A0) (_:A1) (_:A2):tD A0 A1 A2
inductive Hg (A0 A1 A2 A3:Prop):Prop
 |mk (_:A0) (_:A1) (_:A2) (_:A3):Hg A0 A1 A2 A3
inductive OZ (A0 A1 A2 A3 A4:Prop):Prop
 |mk (_:A0) (_:A1) (_:A2) (_:A3) (_:A4):OZ A0 A1 A2 A3 A4
inductive HG (A0 A1 A2 A3 A4 A5:Prop):Prop
 |mk (_:A0) (_:A1) (_:A2) (_:A3) (_:A4) (_:A5):HG A0 A1 A2 A3 A4 A5
local macro_rules|`(%[|1])=>`(by repeat' first|exact List.forall_mem_nil _|refine List.forall_mem_cons.2 ⟨?_,?_⟩|rfl|exact ⟨rfl,.inl rfl,.inl rfl⟩|exact ⟨rfl,.inl rfl,.inr rfl⟩)
set_option hygiene false in
local macro_rules|`(%[|2])=>`(⟨rfl,ax,ax,rfl,by kernel_rfl,by nofun,by kernel_rfl,by nofun,ax⟩)
set_option hygiene false in
local macro_rules|`(%[|3])=>`(⟨rfl,ax,ax,rfl,by kernel_rfl,%[|1],by kernel_rfl,%[|1],ax⟩)
theorem cq {α β F:Sort _}{f:α->β->F}(a:α) (b:β):f a b=f a b:=rfl
theorem zC3:(0:Int)<2:=by(decide)
theorem qa6:(0:Int)<3:=by(decide)
local macro_rules (kind:=Lean.Parser.Command.mutual)|s=>return(s.getArg 1).rewriteBottomUp (·.setInfo .none)
set_option Elab.async false
set_option linter.all false
set_option genSizeOf false
set_option genInjectivity false
set_option tactic.hygienic false
set_option maxRecDepth 100000
open PySem.W (Frag)
set_option maxHeartbeats 0
local macro_rules | `(tactic| omega) => `(tactic| lia)
mutual
theorem ax {p:Prop}(h:p:=by decide +kernel):p:=h
theorem az {p:Prop}(h:p:=by decide):p:=h
theorem ak {p:Prop}(h:p:=by omega):p:=h
open PySem.W (instObj methodObj hideAll hideAll_get of_hideAll lookIn hasDictIn handedIn isFn plainOver takerIn makesIn emptyDict kitx_list kitx_dict fnOf codeRec_of excIn exm_one KdlSrc kat_cons kat_yes nsIn)
open PyProof.Rows (iadd_int isub_int)
open List (map_nil foldl drop_left' take_left' sum_cons all_map map_drop any_map sum_append)
open Nat (le_of_ble_eq_true le_refl one_pos add_sub_cancel')
open Option (map_some map_none bind_some none_or some_or isNone)
open Array (toList toList_map)
open PySem
open _root_.List renaming length_map->si,length_append->tp,getElem?_eq_getElem->vu,getElem?_eq_some_iff->wh,mem_singleton->z4,map_append->DD,mem_append_right->DO,getElem?_map->IF,length_take->Nx,getElem?_append_right->Ya,take_of_length_le->Ye,size_toArray->Yg,mem_append->Yh,mem_map->Yj,mem_of_getElem?->Yk,replicate->Yl,mem_cons_self->Yn,getElem?_append_left->Yo,mem_cons_of_mem->Yp,length_singleton->Yq,mem_cons->Yu,append_nil->Yw,length_eq_zero_iff->Yz,append_assoc->YA,length_drop->YB,mem_append_left->YC,pairwise_iff_getElem->YE,dropLast_concat_getLast->YG,nodup_append->YJ,length->YL,take_append_drop->YM,mem_filter->YN,range->YQ,getElem?_set_ne->YS,length_cons->YU,nodup_cons->YZ,drop_of_length_le->Y3,map_cons->Y5,mem_iff_getElem->Y8,take_add_one->Y9,getElem?_take->Zb,mem_of_mem_take->Zf,length_replicate->Zg,filter_cons_of_neg->Zn,take_length->Zo,getElem?_set_self->Zq,getElem_mem->Zr,filter_cons_of_pos->Zv,length_filter_le->Zx,getElem?_drop->Zz,mem_of_mem_drop->ZG,replicate_succ->ZM,drop_eq_getElem_cons->ZN,mergeSort_perm->ZP,flatten_cons->ZV,filter_append->ZY,all_eq_true->Z0,mem_filterMap->Z2,take_zero->Z9,not_mem_nil->xy,take_append->GK,length_filterMap_le->me,flatten_append->MQ,eq_nil_of_length_eq_zero->G6,getElem?_replicate->Xp,findIdx_le_length->zo,getElem?_of_mem->Ks,drop_zero->vz,nodup_nil->mh,cons_append->Bw,range_succ->WV,getElem?_eq_none_iff->P8,map_replicate->Lc,filter_nil->E7,count_pos_iff->Ra,lookup->GX,filterMap_cons->uK,map->ua,ext_getElem?->TY,pairwise_map->OO,length_take_le->V2,eraseIdxIfInBounds_toArray->abm,mem_iff_getElem?->Ug,length_set->Cj,find?_cons->yZ,map_map->vv,pairwise_append->Nv,reverse_reverse->Ek,filter_cons->Up,length_erase_le->Gb,cons_merge_cons->Hk,getLast?_append->Ej,countP_eq_length_filter->abP,dropLast_concat->xl,findSome?_cons->Qa,take_sublist->MO,length_range->yG,drop_drop->Rf,mem_range->Iq,nil_append->Kb,getLast?_eq_getElem?->aco,getLastD_eq_getLast?->acq,length_merge->WR,drop_sublist->Km,not_lt->AQ,foldl_append->P6,getElem_inj->Sf,pairwise_mergeSort->acX,mem_flatten->Kt,getElem_take->HY,length_take_of_le->adf,range_succ_eq_map->adh,findIdx_eq_length->adm,set_append_right->adx,getElem?_eq_none->adF,findSome?_append->adG,filterMap_append->adH,getElem_map->LQ,take_nil->w4,drop_append->y3,cons_ne_nil->ad2,take_take->Bu,reverse_append->aeb,getElem_of_mem->aed,map_congr_left->aee,filter_sublist->aef,replicate_zero->aeg,countP_pos_iff->aeh,of_mem_zip->a',length_nil->R5,count_cons->C3,any_eq_false->aeF,all_cons->RF,any_cons->Nc,map_take->RQ,findIdx_cons->aeX,count_append->aeY,drop_left->MW,take_left->Ky,map_snd_zip->ae5,nodup_range->ae9,filter_map->afl,drop_take->afu,drop_nil->afA
open _root_.PySem renaming Shared->ti,wpAny_bind->yl,Program->By,FuncData->C6,sizeLine_eq->HC,World->L3,Around->Ys,Stmt->Yv,Expr->YD,mainGlobals->YF,wpAny_mono->YK,bootBuiltins->YY,wpAny_passesOwn->Ze,compareOp->Zp,mem_of_lookup->ZD,wpAny_execs_nil->ZE,lookup_relabel_local->ZO,wpAny_truthy_bool->ZQ,call_meets->ZR,wpAny_holding->ZW,Builtin->zB0,wpAny_Call_Name_kw->Z3,tupleKind_room_in1->Z6,sysModules->yh,wpAny_field->BR,foldedSetIterable->QH,Spec->aaD,keywordEach->KU,wpAny_call_entry->IE,isinstance_tuple->uk,cLine->ff,binaryOp->ou,attributeBase->Rt,wpAny_comprehension_free->w5,call_isinstance->Hr,wpAny_rule->Nb,wpAny_setField_rec->Yc,swapsWith->CC,strIterType->P9,wpAny_seqItems->CZ,IsPair->xj,wpAny_execs_cons->CT,typeIs_str->Q7,behindInMarks->yC,holding->y7,Scope->iM,letOwnedTupleGo->Na,codeAny->Ez,codeAny_mono->wC,call_meetsIn->L1,tupleKind->B8,assignEach->QN,backToKw->Xz,wpAny_newFunctionEnv_cells->ab7,wpAny_FormattedValue_plain->ach,reprText->Tu,wpAny_newObj_type->Fw,Model->Qz,wpAny_Call_method->LI,wpAny_attempt->CA,wpAny_standAt->Dy,typeOf->vf,wpAny_callSpecial?_slot->acN,wpAny_pyNext_range_end->ac3,wpAny_pyIter_rangeiter->ac4,wpAny_call->E5,Keyword->Ce,wpAny_noteFrame_againW->adi,valueAt->XM,wpAny_isTrue_Compare1->adq,codeAny_call_function->adu,codeAny_handlers_test->adz,wpAny_formatField_str->adC,wpAny_setField->WG,wpAny_updateSeq_pair->adJ,IsRangeIter->B0,recursionLimit->wF,subscripted->U1,sliceBounds->yv,codeAny_call_builtin->adQ,underTheClaimsCaller->adT,standAt->X6,BindsTo->Uz,callerA->XJ,codeAny_forLoop_any->ad9,wpAny_Tuple_spliced->aea,wpAny_handleBy_cons->aec,wpAny_newList->IH,frameOf->Qv,rawInt->WD,wpAny_pyIter_tuple->aen,assign->He,wpAny_pyIter_range->aer,IsZip->Ay,Within->Sm,bindArgs->EC,callWith->Q',getItem->Me,entryPlaceOf->Nr,wpAny_landsW->Ia,PassesOwn->I9,cellsFrom->NX,strValues->JO,seqIndex_of->N8,atKey->OM,spliced->pS,Operator->IG,call->Sq,compEnvC->QC
open _root_.Nat renaming le_refl->BY,le_trans->Oi,lt_of_lt_of_le->Ym,lt_of_le_of_ne->Yy,lt_of_succ_lt->YR,min_eq_left->YV,add_sub_cancel_left->YW,le_add_right->Y7,ne_of_lt->Za,le_of_lt->Zm,lt_of_lt_of_eq->Zu,le_antisymm->Zw,zero_le->Zy,lt_of_le_of_lt->ZA,add_sub_cancel'->ZF,eq_zero_of_not_pos->ZJ,add_lt_add_left->ZS,sub_self->ZU,le_sub_one_of_lt->ZZ,le_of_add_right_le->Z5,sub_eq_zero_of_le->Z7,lt_irrefl->Z8,le_of_not_lt->OV,min_eq_right->MG,le_of_lt_succ->Qq,add_le_add_right->Ca,sub_eq_zero_iff_le->OS,succ_le_succ->Gp,add_le_add_left->zI,le_of_succ_le->XW,le_of_ble_eq_true->aaC,sub_le->iC,min_le_left->Rm,pos_of_ne_zero->zD,sub_le_sub_left->OB,zero_lt_of_lt->Vm,le_succ_of_le->RM,le_of_eq->vS,le_succ->uO,lt_trans->fE,le_add_right_of_le->NM,add_le_of_le_sub'->Mx,min_le_right->Dc,lt_of_not_le->Cm,add_le_add->IP,sub_pos_of_lt->Mg,lt_succ_of_lt->Ou,lt_succ_self->Oy,max_eq_right->FT,le_max_right->EB,add_assoc->Ea,not_lt_zero->B6,add_lt_of_lt_sub'->adv,add_sub_add_right->adw,sub_le_sub_right->adR,not_lt->NA,ne_of_gt->FD,lt_succ_of_le->aeN,zero_add->Ec,min_self->BG,lt_trichotomy->aeV,le_zero->Q6,add_comm->Qb
open _root_.PyProof.Rows renaming wpS_bind->G0,wpS_pure->TN,Keyed->Yr,SortSt->Yt,pendingOf->YX,wpS_forRange->Zd,callWith_type1->Zj,wpS_mono->Z4,IntsAre->qD,failedOf->rX,envOfC->rB,size_push'->BV,AllBare->ig,wpS_get->z6,SortKind->E8,pairsOf_toList->MS,wpS_lift->Mv,subscriptTail_builtinR->ac7,wpS_modify->E6,pairsOf->OD,subscriptTail->Kg,listUpdate_at->Q9,Subscript_->BB,seqEpoch_at->HX
open _root_.Option renaming map_eq_some_iff->NC,isSome_iff_exists->uw,bind_some->MV,filter_eq_some_iff->acr,map_eq_none_iff->adl,map_some->DK,isSome_map->Kx,none->afG
open _root_.Option.some renaming inj->OR,injEq->Zt
open _root_.Sum renaming inl->Xt,inr->FH
open _root_.Bool renaming false_ne_true->Yf,eq_false_iff->Y0,and_eq_true->wx,eq_iff_iff->Lm,false_eq_true->aew,and_false->afr,false_or->afy
open _root_.PySem.W renaming Frag->Yi,kitOne->YT,findIn->Y4,keepIn->Zk,kia_one->Zl,mg_of->a8,methodCall_KW->Jc,specialIn->XX,callWith_K->Ex,OpenLaw->C0,looks_findIn->Gs,Looks->Et,takesIn->RH,mroIn->Cz,cellsFrom_some->E3,typeIn->Sz,exmOne->BK,plainGet_of->OG,callWith_K0->wg,WalkO->Rq,plainGet->JW,codeIn->P5
open _root_.Array renaming length_toList->Yx,getElem?_toList->YO,toList_append->Zh,getD_eq_getD_getElem?->Zi,perm_iff_toList_perm->ZC,getD->tW,toList_reverse->rC,toList_setIfInBounds->ace,getElem?_eq_some_iff->aci,size_append->aeO,toList_inj->ae7,size_push->afj
open _root_.PySem.PassesOwn renaming never->YH
open _root_.PySem.F renaming plainAttrs_list->Y6,slot_list_append->ZK,type_list_append->ZL,slot_str_split->zE,plainAttrs_str->E9,slot_dict_get->yI,slot_list_extend->zJ,type_list_extend->M5,slot_list_index->RJ,entry_dict_get->Kl,args_list_index_2->acp,args_tuple_add_2->acG,slot_list_remove->acK,slot_tuple_index->acL,entry_list_index->acM,entry_tuple_add->acO,args_dict_get_2->acV,args_dict_get_3->acW,args_str_split_2->Cy,slot_list_count->acZ,type_list_index->ac0,slot_tuple_add->ac2,slot_str_index->adk,plainAttrs_dict->PX,entry_str_split->LR,slot_dict_pop->adA,type_dict_get->adB,type_str_split->ad1
open _root_.False renaming elim->Zc
open _root_.Classical renaming byContradiction->ZH
open _root_.True renaming intro->ZI
open _root_.Int renaming toNat_of_nonneg->ZT,toNat_natCast->Xd,le_refl->Jz,mul_ediv_add_emod->adE,emod_nonneg->Kp,emod_lt_of_pos->aeB
open _root_.PySem.Sem renaming wp->jN
open _root_.ForInStep renaming yield->EF,done->x9
open _root_.PySem.Builtin.Str renaming occurrences->abI
open _root_.PySem.Challenge renaming pw_ownroom_k94_whole_files_behind_falls->abK
open _root_.PySem.SeqAt renaming EqAt->Lg,list_indexAt->aez,in_listAt->afi
open _root_.List.Nodup renaming sublist->VQ
open _root_.Decidable renaming not_not->O4
open _root_.PySem.StrLaws renaming partsFrom->DX
open _root_.List.Perm renaming eq_of_pairwise->acJ,append_right->ade,append_left->ady,refl->afw
open _root_.PySem.W.Looks renaming ld->qc
open _root_.Or renaming inl->CH,inr->Gf
open _root_.PySem.Answers renaming of_false_none->adD,of_false_int->adX,of_false_str->adY,of_true->afk
open _root_.PySem.SeqAt.EqAt renaming bool_bool->adP,int_str->aeo,str_int->aep,same->afh
open _root_.Std.Legacy.Range renaming forIn_eq_forIn_range'->adW,size->afD
open _root_.Eq renaming symm->EL
open _root_.PyProof.Rows.SortSt renaming mk'->R8
open _root_.PySem.Around renaming under->NK
open _root_.PySem.Code renaming isFrame->uF
open _root_.PySem.SeqAt.RcNeAt renaming lists_lengths->aeS,lists->afz
open _root_.List.Pairwise renaming map->aeW
open _root_.PySem.IsL renaming update->ae2
open _root_.Sum.inl renaming inj->O9
open _root_.List.cons renaming inj->afx
open _root_.Nat.succ renaming inj->afC
open _root_.PySem.Shared renaming heap->afE
open _root_.PySem.IsRange renaming new->afF
open _root_.Prod.mk renaming inj->afH
open _root_.Prod renaming ext->LP
theorem vr {c:Prop}{h:Decidable c}(n:¬c){α:Sort u}{t e:α}:ite c t e=e:=if_neg n
theorem C' {c:Prop}{h:Decidable c}(n:c){α:Sort u}{t e:α}:ite c t e=t:=if_pos n
abbrev eE:=Addr->Prop
abbrev Jr:=List (Addr×Obj)
abbrev gJ:=Value->ti->Prop
abbrev j5:=Str->Option Value
abbrev ic:=Int->List Int
abbrev p9:=Array Value
abbrev WX:=List Value
abbrev O0:=Option Value
abbrev ro:=Option Addr
theorem Ao(n:Nat):(0:Int)<Int.ofNat (n+1):=Int.ofNat_lt.mpr (Nat.succ_pos n)
abbrev iE:=List Yr
abbrev fK:=List YD
abbrev fM:=Array Yr
abbrev vZ:=Option Int
abbrev JS:=List Addr
abbrev gq:=List Str
abbrev N4:=List Int
end
section
namespace Hd
open PySem PySem.W PyProof.Rows
mutual
def vx:List Obj->List Obj×List Obj
 | []=>([],[])
 | [a]=>([a],[])
 |a::b::r=>(a::(vx r).1,b::(vx r).2)
def build:Nat->List Obj->BT
 |0,_=>.nil
 |_+1,[]=>.nil
 |f+1,o::r=>.node o (build f (vx r).1) (build f (vx r).2)
def topT (tb:String->Option Builtin) (p:Program) (w:World) (m:Nat) (an:Option Value):Nat->SharedT->Thread->Option SharedT
 |0,_,_=>none
 |k+1,x,t=>match through t with
  |true=>some x
  |false=>match stepOk m an t with
   |false=>none
   |true=>match stepT (denote tb) p w x t with
    |some (y,u)=>topT tb p w m an k y u
    |none=>none
theorem topT_of {tb:String->Option Builtin}{p:Program}{w:World}{m:Nat}{an:Option Value}:∀{k:Nat}{x z:SharedT}{t:Thread},topT tb p w m an k x t=some z->topRun tb p w m an k x.abs t=some z.abs:=by
 intro k
 induction k with
 |zero=>intro x z t e;cases e
 |succ k F =>
  intro x z t e;unfold topT at e;unfold topRun;cases a:through t with
  |true=>rw[a]at e;cases e;rfl
  |false =>
   rw[a]at e;cases b:stepOk m an t with
   |false=>rw[b]at e;cases e
   |true =>
    rw[b]at e;cases c:stepT (denote tb) p w x t with
    |none=>rw[c]at e;cases e
    |some r =>
     obtain⟨y,u⟩:=r;rw[c]at e;rw[stepT_spec c];exact F e
def Gk (p q:Program) (loose:List Str) (F:Shared->Bool) (G:Bool) (h:Heap) (s:Shared):=
 (staticsOk (importedModules p.main.body) h s.heap&&namesBound p s.heap&&gensDone s&&laidKept h s.heap,openSeen q loose (importedModules p.main.body) F G s)
theorem qAc {p q:Program}{loose:List Str}{L:Shared->Bool}{α:Type}{I:Shared->α}{G:World->α}{N M m:Nat}{U:Bool}{H:Params->Heap}{T:Params->BT}{life:Life}{gs:Array GenState}{d:Drawn}{k:Nat}{an:Option Value}
  (hO:∀w:World,(fencedOpening treeTable p w N).map (λs=>(s.heap,s.gens,s.drawn,s.toks))=some (H w.params,gs,d,k))
  (Z:∀P,absHeap (T P) m life=H P)
  (hS:∀w:World,((H w.params).isNs mainGlobals&&gs.size==0,(H w.params).objs.size,(H w.params).nsMap mainGlobals "__annotations__")=(true,m,an))
  (le:Nat.ble M N)
  (run:∀(w:World) (os:OsState),(topT treeTable p w m an M ⟨T w.params,m,life,gs,d,k,os⟩ (topStub p)).map (λs=>(Gk p q loose L U (H w.params) s.abs,I s.abs))=some ((true,openGood q loose),G w)) :
  LeftO p q loose L I G N U:=by
 intro w;obtain⟨s,a,b⟩:=Option.map_eq_some_iff.mp (hO w);obtain⟨h,F,d',k',os⟩:=s;simp only[Prod.mk.injEq]at b;obtain⟨rfl,rfl,rfl,rfl⟩:=b;have z:=hS w;simp only[Prod.mk.injEq]at z;obtain⟨z1,Y,z3⟩:=z;obtain⟨x,c,e⟩:=Option.map_eq_some_iff.mp (run w os);have r:=topT_of c;have ab:(SharedT.mk (T w.params) m life F d' k' os).abs=⟨H w.params,F,d',k',os⟩:=by
  unfold SharedT.abs;rw[Z]
 rw[ab]at r;have r:=topRun_mono (N-M) _ _ _ _ r;rw[show M+(N-M)=N from add_sub_cancel' (le_of_ble_eq_true le)]at r;simp only[Gk,Prod.mk.injEq]at e;obtain⟨⟨e1,e2⟩,e3⟩:=e;have t:topFrom treeTable p w N ⟨H w.params,F,d',k',os⟩=some x.abs:=by
  unfold topFrom;dsimp only;rw[z1,Y,z3,r];simp only[bind_some,e1]
 unfold openEnds;rw[a];simp only[bind_some,t,map_some,e2,e3]
theorem both {r:OpenRow}{q:Program}{loose:List Str}{d:DefRec}{F:List (Str×Expr)}{N:Nat}(H:Hook)
  (h1:defOf q r.name=some (d,F)) (h2:r.prog.theDef r.name=some (d.params,d.body,d.scope)) (I:kwWritten? d.params.kwonlyargs d.params.kw_defaults=some F) (U:(!r.writes||r.records.isEmpty)=true)
  (Z:r.wellSaid) (L:(chainsOk q&&opensWell r.prog&&(frees r.toRowW&&r.within.isEmpty))=true) (Y:r.prog.bare) (G:r.toRowW.promised)
  (h:LeftO r.prog q loose (λs=>xlAt q [] s&&recOk r.records s) H.obs H.val N/\WalkO q loose (XL q []) H.says r.toRowW d F λf vs=>PySem.call f vs):r.Holds :=
 holds_open h.1 H.of H.keeps (λs e=>xl_of s (Bool.and_eq_true_iff.mp e).1) XL.keeps h1 h2 I (λs e=>recFacts_of (Bool.and_eq_true_iff.mp e).2) U Z L Y G h.2
def JB (s:SharedT) (a:Nat):Option Obj:=match Nat.blt a s.n with
 |true=>match s.tree.get a with
  |some o=>alive o
  |none=>alive default
 |false=>none
theorem qa1 (s:SharedT):s.abs.heap.get?=JB s:=by
 funext a;unfold JB;cases h:Nat.blt a s.n with
 |true =>
  have h:a<s.n:=le_of_ble_eq_true h;cases g:s.tree.get a with
  |some o=>exact abs_get h g
  |none =>
   show(absHeap s.tree s.n s.life).get? a=_;unfold Heap.get?;rw[absHeap_at,if_pos h,g];rfl
 |false=>exact abs_get_none λk=>by rw[show Nat.blt a s.n from Nat.ble_eq_true_of_le k]at h;cases h
noncomputable def Lh (P:Params):BT:=build 12 (boot_heap P).objs.toList
open PySem.Challenge
def q:Program:=PySem.W.view pw_ownroom_k94_whole_files_behind_falls [98]
def loose:List Str:=(pw_ownroom_k94_whole_files_behind_falls.main.scope.names.map (·.1)).dropLast
theorem ws:rw_ownroom_k94_whole_files_behind_falls.wellSaid:=by kernel_rfl
end
local macro_rules | `(tactic| o_law) => `(tactic| refine PySem.W.holds_law Hd.ws λ said=>?_)
local macro_rules | `(tactic| o_head $H) => `(tactic| refine Hd.both (q:=Hd.q) (loose:=Hd.loose) (N:=100000) $H (by rfl) (by rfl) (by rfl) (by rfl) (by assumption) ax ⟨rfl,rfl,rfl,rfl,rfl,ax⟩ ?$(Lean.mkIdent `hw):ident ?$(Lean.mkIdent `hc):ident)
open_top top for rw_ownroom_k94_whole_files_behind_falls
noncomputable def ru (p q:Program) (G:List Str) (F:_) (f:SharedT->List (Option Obj)) (w:World) (os:OsState):=(topT treeTable p w 11 (some (.ref 6)) 100000 ⟨Lh w.params,11, {},Array.mk [],boot_drawn,boot_toks,os⟩ (topStub p)).map λs=>(Gk p q G (λs=>xlAt q [] s&&recOk F s) true (boot_heap w.params) s.abs,f s)
noncomputable def VJ (p q:Program) (G:List Str) (F:_) (l:List Addr):=ru p q G F λs=>l.map (JB s)
noncomputable def Td (q:Program) (F:List Str) (K:Frag):=some ((true,openGood q F),K.map λp=>some p.2)
theorem EJ:VJ=VJ:=rfl
theorem Ee:Td=Td:=rfl
name_quick hdL for Hd.VJ by Hd.EJ
name_quick hdR for Hd.Td by Hd.Ee
theorem run_ {p q:Program}{F:List Str}{G:_}{l:List Addr}{K:Frag}(w:World) (os:OsState) (h:PySem.W.Fast.hdL p q F G l w os=PySem.W.Fast.hdR q F K):ru p q F G (λs=>l.map s.abs.heap.get?) w os=Td q F K:=by
 rw[show(λs:SharedT=>l.map s.abs.heap.get?)=λs=>l.map (JB s)from funext λs=>by rw[qa1]];exact(congrFun (congrFun (congrFun (congrFun (congrFun (congrFun (congrFun PySem.W.Fast.hdL_eq p) q) F) G) l) w) os).trans (h.trans (congrFun (congrFun (congrFun PySem.W.Fast.hdR_eq q) F) K).symm)
def top2:=λh=>Hd.top ⟨qAc (H:=boot_heap) (T:=Lh) (life:={}) (m:=11) (M:=100000) (gs:=Array.mk []) (d:=boot_drawn) (k:=boot_toks) (an:=some (.ref 6)) (boot_open (by kernel_rfl) az (λs=>by kernel_rfl)) (λP=>by kernel_rfl) (λw=>by kernel_rfl) az (λw os=>run_ w os (by kernel_rfl)),h⟩
end Hd
open Lean in
def ri(s:String):Term:=
 let f k l:Syntax:=mkNode (`Lean.Parser.Term++k) l
 let m (l:List Term):=Syntax.mkApp l.head! l.tail!.toArray
 m ((s.splitOn " ").foldl (init:=([[]]:List (List Term))) fun|a::k,x=>let n:=(x.drop 1).toString;if x=="(" then []::a::k else if x==")" then match k with|b::k=>(b++[m a])::k|_=>k else (a++[⟨match x.front with|'?'=>f `syntheticHole ⟨[mkAtom "?",mkAtom "_"]⟩|'_'=>f `hole ⟨[mkAtom x]⟩|'.'=>f `dotIdent ⟨[mkAtom ".",mkIdent n.toName]⟩|'('=>f `paren ⟨[f `hygienicLParen ⟨[mkAtom x,mkNode `hygieneInfo ⟨[mkIdent .anonymous]⟩]⟩,Syntax.mkNumLit n,mkAtom ")"]⟩|_=>if x.isNat then Syntax.mkNumLit x else mkIdent x.toName⟩])::k|k,_=>k).head!
set_option hygiene false
open Lean in
local macro_rules|`(%[$xs,*|9])=>do
 let w (s:String):=(s.splitOn ";").map (·.splitOn " ")
 let C:=w "c h d1;e a 1;g a 2;j dZ 0;k aU zA2;l h M;o bh 1;r ai F;s a 0;t dc dm;w i b6;z b 1;A bX dS;B aU zA0;D f an;G Q cg;H' a 3;O aE F;P j 1;Q bX d2;T E ca;V bl ae;X d3 0;U b j;ah f cg;aj a d;ak a aE;ao di d6;au bX dQ;av aO dS;az a 4;aD b 0;aF a ai;aH ah 2;aI cj w;aJ E j cM;aL d7 0;aP aU qAb;aQ x b;aR ah 1;aS aD a;aZ co v d8;a1 cS F;a2 aU qa2;a9 cu ag;ba ah 3;bf f cs;bh bM br;bj A dw;bk aO d9;bq aU zC1;bv u zA6;bA x ae;bC b ai;bE i fs';bJ rfl bo;bL v T.cC;bO 0 L.cl;bQ 0 aE;bU aE jH;bV aU qa3;bZ aU nm';b0 j TD.cl;b1 rfl rfl;b3 q qa4;ca 0 de;cb aw rfl;ce v T.fi;cj bX bu;cl v T.uP;co cK aS;cw v T.hG;cy v T.oV;cz v T.gi;cD 0 TF.cl;cE ai ai;cK L.pX aaq;c0 cM df;c2 O.cells e;c3 aJ O.links;dc q zA4;di aO d4;dm T.len dd"
 let T:=w "a aa _ ae;b aa _ _;d pc _ R aC _;f av _ _;h aw _;i aD _ _ _ _;m kI _ R _;p aQ aW _ _ cq;q aF _ W _ _ _;u F _;v d7 _;x bw _;y H'' n N;C bG q0 _ _ _;E pm _ _ _ R aC _;F aP q1;H aaP q2 ai;K cy R;M a9 _;S A _ _ _ _ _ _;Z aZ aE _;aa cQ _ _;af aQ aW _ ai cq;ag bJ _;al cW _;an cf _ _ bp;aq T.xe _;aw hr.mono q3;ax dm _ _ _ cq;aA qAf _;aG cy hr;aO aI _;aU aL _ _ _;bg gh Y6 _ _ _ _ _;bl aZ ai _;bn A _ _;bo cK _;bs qAe _ _ _ _ rfl;bt A _ _ _ _ _;bu b8 _ _ q4;bw aQ _ _ _ _;bD c9 W T.range _;bG aaF _;bH aaJ _;bI d9 q5 W T.list fG _;bM aQ _ _ ai cq;bP qAg _ _ _ W _ _ cp aC _;bT PW.pt _;bX aq _ _;b9 aak _;cd i5 W _ _;cf qAj _ _ _;cg dj n N _;ch cs' _;cm vC _ cM O.fin R;cn abD _ _ _;cs qa0 YH rfl _ _ _;ct ik _ _;cv A _ _ _ _;cA JU _ _ _ R aC;cB qAi _ _;cG abp _ _;cH abt _;cI zA5 _;cJ bs' _;cU abf _ _;cV mz _ b4 mR GR _ bR cp jw _;cW qa5 rfl rfl rfl _ _ _;cX ie _ b4 mW GW _ rfl bW cp _;cY aaz _;cZ aaA _ _ _;c1 CH rfl;c4 abC aW _ _ cq;c6 A _ _ _ _ _ _ _;c8 ad2 q1 q1;c9 aaC rfl;da M q3;dj ie _ _ _ _ _ _ _ _ _;dk aaf _ _ _;dl vq rfl _;dn aaS _ _ _;dq gh _ _ _ _ _ _;dr A _ _ _ _ _ _ _ _ _;ds abB _ _;dt acI _;du gh E9 zE ad1 aaV _ _;dv kI _ hr _;dw lG _ _ _ R _;dx pm _ TF.cl _ R jw _;dy JU _ _ _ _ _;dz pc _ R jw _;dB mT b6 _ _ _;dC om _ _ _ _ _ _ _ _;dD aah _ _ _;dE rR _ _ _ _ _ _ _ _ _;dF qAk _ _ _;dG pm _ _ _ _ _ _;dH vC _ _ _ _;dI aac _;dJ aad _;dK bG _ _ _ _;dL abi _;dN mT _ _ _ _;dO abT _;dP aeC _ _ _ _ _ _ _;dQ abe n N _;dR c9 _ _ _;dS aU _;dT d9 _ _ _ _ _;dU A _ _ _;dW lG _ _ _ _ _;dX A _ _ _ _ _ _ _ _ _ _ _;dY G _;dZ aH _ rfl;d1 aM _;d2 bE _;d3 di _ _ rfl;d4 bP rfl _ _ rfl rfl _;d6 T.xm _;d7 lG _ TF.cl _ hr _;d8 T.xg _;d9 abg _"
 let a:=xs.getElems
 let hr:=a[1]!
 let nd:Term:=⟨mkIdent (a[0]!.raw.getId++`nd)⟩
 let W ← `([(by rfl),(show cM _ _ (kH K)from cU),%[|2],%[|3],(show Bv _ (pH K)from br),(eR (cl:=[]) (sI:=[])),#[1,1],(by with_unfolding_all rfl)])
 let Q:List (String×Term):=("N",nd)::("R",hr)::("cT",nd)::("dh",hr)::("W aM bS b7 b8 cr cF dg".splitOn " ").zip (W.raw[1].getSepArgs.toList.map TSyntax.mk)++("b4,TC.cl;cp,.nil;cM,O.cl;cN,.badName;cO,.taken;cP,.noNode;cQ,.notAllowed;dd,boot_len;de,T.cl;df,O.kind;q0,bU;q1,_;q2,cV;q3,az;q4,bA;q5,cG".splitOn ";").map fun l=>let l:=l.splitOn ",";(l[0]!,ri l[1]!)
 let mut p:=a[2:].toArray
 let mut k:Array Term:=Array.mk []
 for _ in [0:99999] do
  if p.isEmpty then break
  let x:=p.back!
  p:=p.pop
  let n:=x.raw.getId.toString false
  match C.find? (·.head! == n) with
  |some l=>p:=p++(l.tail!.map ri).toArray
  |_=>match T.find? (·.head! == n) with
   |some (_::f::ts)=>
    let mut v:Array Term:=Array.mk []
    for y in ts do
     if y=="_"||y=="n" then
      let z:=k.back!
      k:=k.pop
      v:=v.push (if y=="_"&&z.raw.isNatLit?.isSome then Syntax.mkApp (ri "pv") (Array.mk [z]) else z)
     else v:=v.push ((Q.lookup y).getD (ri y))
    k:=k.push (← match f with|"F"=>`(fun _ _ _ _=>$(v[0]!))|"G"=>`(fun _=>$(v[0]!))|"A"=>pure (Syntax.mkApp v[0]! v[1:].toArray)|"M"=>pure (Syntax.mkApp (mkIdent (hr.raw.getId++`mono)) v)|_=>pure (Syntax.mkApp (ri f) v))
   |_=>k:=k.push ((Q.lookup n).getD x)
 return k.back!
set_option hygiene true
local macro_rules|`($t<*[$r,*])=>`(by rw[$[$r:term],*];refine $t)|`($t<*$r)=>`(by rw[$r:term];refine $t)
local macro_rules|`($h:ident*>[$r,*])=>`(by rw[$[$r:term],*]at $h:ident;cases $h:ident)|`($h:ident*>$r)=>`(by rw[$r:term]at $h:ident;cases $h:ident)
local macro_rules|`($_:num^$_)=>Lean.Macro.throwUnsupported|`($x^$y)=>`($x=some $y)
open Lean in
local macro_rules|`(!$h $x*)=>if [`aO,`Md,`Df].contains h.raw.getId then `($h $(mkIdent `P) $(mkIdent `w) $(mkIdent `K) $(mkIdent `mg) $(mkIdent `base) ($(mkIdent `bO) $(mkIdent `P) $(mkIdent `w)) $x*) else `($(mkIdent `Inv) $(mkIdent `X) $(mkIdent `Cr) $(mkIdent `σ) $h $x*)
open Lean in
local macro_rules|`(-$h $x*)=>if [`aO,`Md,`Df].contains h.raw.getId then `($h $(mkIdent `P) $(mkIdent `w) $(mkIdent `K) $(mkIdent `mg) $(mkIdent `base) $(mkIdent `bj) $x*) else Macro.throwUnsupported
open Lean in
local macro_rules|`(%[$q,$u|8])=>let t:=q.raw.isStrLit?.get!;`($(mkIdent `bX) $(mkIdent `K) $(Syntax.mkStrLit ((t.splitOn ".").getLast!)) $q $u $(mkIdent `f) $(mkIdent `fd))
theorem J0{p:Prop}(h:p:=by simp):p:=h
abbrev iu:=List (List Int)
def D9{a:Prop}{b:Sort _}(h:a)(n:¬a):b:=absurd h n
theorem Ur{α β:Sort _}{a b:α}(f:α->β)(h:a=b):f a=f b:=congrArg f h
theorem MC{α}[BEq α][LawfulBEq α]{a b:α}(h:a=b):(a==b)=true:=beq_iff_eq.mpr h
theorem yE{α}[BEq α][LawfulBEq α]{a b:α}(h:a==b):a=b:=eq_of_beq h
open _root_.PySem renaming sizeLine->yr
open _root_.PySem renaming Value->xr
open Lean in
local macro_rules|`($x.$n:fieldIdx)=>do
 let i:=mkIdent
 let a (f:Name)(l:List Term):Term:=Syntax.mkApp (i f) ⟨l⟩
 let P (x:Term)(f:String):Term:=⟨mkNode `Lean.Parser.Term.proj ⟨[x,mkAtom ".",i f.toName]⟩⟩
 match n.raw.isFieldIdx? with|some 1=>(match x.raw.isStrLit? with|some t=>(do let y:=((t.splitOn " ").map fun z=>(⟨Syntax.mkStrLit z⟩:Term)).toArray;`([$y,*]))|_=>Macro.throwUnsupported)|some 13=>pure (P (P (P x "heap") "objs") "size")|some 14=>`(($x==("__debug__" : Str))=false)|some 15=>pure (a `starEach [x,i `X.env])|some 16=>pure (a `model (if x.raw.getId==`X then [i `X.prog,i `X.w] else [i `prog,x]))|some 17=>pure (Syntax.mkApp (P x "map") ⟨[i `V.int]⟩)|some 2=>Macro.throwUnsupported|k=>match ("- - - size Nodup toNat symm toList toArray length isSome flatten natAbs".splitOn " ")[k.getD 0]? with|some f=>pure (P x f)|_=>Macro.throwUnsupported
theorem zau (h:True:=by first|rfl|decide|(intro _;rfl)|exact .inl rfl|exact .inr rfl|assumption):True:=h
set_option hygiene false in
local macro_rules|`(%[$p|0])=>`(autoParam $p zau._auto_1)
local macro_rules|`($_%$_:num)=>Lean.Macro.throwUnsupported|`($x%$y)=>`($x^(.lst $y))
local macro_rules|`($x|||$y)=>`($x^(.tup $y))
local macro_rules|`($x^^^$y)=>`($x^(.dK $y))
theorem cL{p:Prop}[Decidable p](h:decide p=true):p:=of_decide_eq_true h
theorem Ja{p:Prop}[Decidable p](h:p):decide p=true:=decide_eq_true h
theorem ck{p:Prop}[Decidable p](h:¬p):decide p=false:=decide_eq_false h
theorem oR{α:Sort _}{a b:α}(h:a≠b):b≠a:=Ne.symm h
open _root_.PySem.Heap renaming get?_push_of_some->aV,get?_push_size->qZ,lt_size->gu,get?_push_ne->JJ,size_update->vh,size_push->G1
open _root_.PySem renaming Addr->ZX
local macro_rules|`(tactic|show $t)=>`(tactic|refine $t)
open Lean in
local macro_rules|`(tactic|let $d:letDecl)=>`(tactic|have $d:letDecl)
local macro_rules|`(tactic|rwa $s:rwRuleSeq at $h:ident)=>`(tactic|(rw $s:rwRuleSeq at $h:ident;cases $h:ident))
local macro_rules|`(‹$t›)=>`(by simpa using $t)
local macro_rules|`(tactic|cases $h:ident : $t)=>`(tactic|by_cases $h:ident : $t)
open Lean in
local macro_rules|`(tactic|intros $x*)=>`(tactic|intro $(mkIdent `Cr):ident $(mkIdent `s):ident $(mkIdent `σ):ident $(mkIdent `H):ident $(x.map fun y=>⟨y⟩)*)
local macro_rules|`(tactic|intros)=>`(tactic|repeat intro)
open Lean in
local macro_rules|`(↑$f)=>`(wpAny (model $(mkIdent `X.prog) $(mkIdent `X.w)) $(mkIdent `X.A) $f)
open Lean in
local macro_rules|`(#v[$xs,*])=>do
 let y<-xs.getElems.mapM λ(x:Term)=>match x with|`(.$_:ident $_*)=>`(some $x)|_=>pure x
 `([$y,*])
set_option hygiene false in open Lean in
local macro_rules|`(#[$xs,*])=>do
 let S:="_,rfl;rfl,rfl;_,_;rfl,?;?,?;rfl,_;0,z.a,CF,dy,_,.ref z.na,rfl;_,0,rfl;cp kf,z.na,dx,0,ho,hm _ ax;bq ax ax,0;0,z.a,CF,dz,_,.ref z.na,rfl;rfl,0,?;0,z.a,dy,0;0,z.na,m,ah;L.cl,L.nN,cp kf,13,(0,N;0,z.a,CF,dy,_,.ref z.hd,rfl;I.os,I.bare,I.base,I.loc,I.cell,I.free,I.iy,I.pin,I.bK,I.len;m,ah,d,N;12,U,9,t,_,(1,.str p,1,eM.of G,119;k _ _ ( .inl rfl ) e;eQ _ _ _ _ ax ax ax ax;0,b.dr,c.CD,dx,_,.ref s'.dd,rfl;W.f1.same ( G _ _ ) s,W.f2.same F s,W.sep,s _ _ W.wd,W.wn,s _ _ W.dl,W.dn;z,m,ah,(0,N,h;T.cl,T.nD;0,a,dx,0;(1,rfl;Z.len _,Z.ok _;0,a,CN,dx,_,.ref b.dr,rfl;ok.mod,ok.kind,ok.glob,ok.blt,ok.above,ok.inj,ok.has,ok.LS;ok.frames,ok.PB,ok.SH,ok.bs,ok.Dl,ok.zb,ok.zi,ok.kP,ok.HM;0,p,C,dx;7,0,?;0,a,CP,dx;10,hz,L.cl,L.nN,8;g.dl,g.ts,g.N,g.S,g.h,g.hs;I.cl,I.nN,cp kf;z,m,ah,N;rfl,l,o,rfl,lo,G,bl;a,b,s',ah;bh.of e3;9,t,_,(1,.int n,1,eM.of G,119;qZ _ rfl;abS _ _ _ _,?;24,cp kn,b.dr;rfl,ag;I.ok,I.os,I.bare;iter,ifs,(0;18,37,S,h,p,rfl,Y,Z,ok,125;bh.of ag;S ( lst v ),rfl;U.cl,U.nN,cp kf,13,(0,N;13,d,N,n,nd,rfl;33,_,.ref m.ls,rfl;z.na,m8,ah,2,lst v;z.sameBut hs ( Ep y c e );(24,rfl,az,az,?;F.s1,F.s2,F.hk;T.cl,T.nS,wc,0,m.ls,0;31,_,0,h1,T.cl,T.nB,qA _ _ _ _;no _ ax ax;(0,(0;0,l,rfl;0,p,dx,0;0,b.dr,c.CD,dx,_,.ref b.p,rfl;0,p,bl;rfl,q _ ( I.bK.fresh ( BY _ ) );_,e,rfl;dr,p,bl;H,I.tok _;h _ _ ( I.tok _ ) ?;a,b,s,ah,n;33,_,.ref m.lk,rfl;Z.len _,Z.nd _;12,hy,9;rfl,l,0;0,n,rfl;DO _ ( z4.mpr rfl );9,39,n,r,rfl;S,l1,ns,rfl;15,I _ _ U,L.cl,L.nH,kK;fQ vn,a,17,lst v;26,q3,121,40,fQ W.ne,?;cs,bs,rfl;T.cl,T.nU;T.cl,T.nK;T.cl,T.nL,zT,0,m.lk,0;12,ab _ _ hy,9;0,f2,f2,eW;dd,cs,bs;0,p,rfl,hp;hm _ ax,0,a,17;l,0,.inl ( bh.of hl );TF.cl,TF.nN;0,de ?;0,2,_,0;.Name t px,47;?,rfl;24,kK,0,s'.dd;33,_,.ref m.kd,rfl;0,t,_,(0;L.cl,L.nN;0,U,_,(0,.int u,1;S ( eG v ),cF ns,rfl;0,wa,0;W.rn,W.ln;31,0,ag,T.cl,T.nF;1,eM.of ht;0,.inl ( bh.of e1 );26,q2,121,bh.of e2;p,bl,bs,fl;0,cO ?;25,s1 _ _ ho;z,17,h,n,rfl;36,z.na,dx,0;G.cl,G.nH,kK;.str ( pF nd.dir )".splitOn ";"
 let C ← `([⟨λJ m' A' st=>(I _ _ _ _ (dI hk)).1 J m' A' (cH.of st),(I _ _ _ _ (dI hk)).2⟩,
⟨aJ (j:=0) rfl⟩,
⟨aJ (j:=1) rfl⟩,
⟨H,I.tok _,#[0],q⟩,
⟨_, -1,.int (lst v),1⟩,
⟨λ_=>.inl⟩,
⟨λx hx=>?_⟩,
⟨by rw[show(0:Int)+(i:Int)=(i:Int)by omega];rfl⟩,
⟨λe L=>kE e (jd L)⟩,
⟨g.z1,g.z2,({ I.1 with fl:=true },I.2),Z⟩,
⟨b1,λx hx=>(b2 x hx).len⟩,
⟨I.base.free,λb o e hx=>?_,I.base.qF,I.base.pV,I.base.qJ⟩,
⟨by rw[si];omega⟩,
⟨G.laid (t':=F.toks) (λb u e=>aV _ e) (BY _) ?_,rfl⟩,
⟨λ_ _ e _=>e⟩,
⟨(W.ds x hx).1⟩,
⟨7,.inl #[az,az]⟩,
⟨by change 1<1000;decide,?_⟩,
⟨kd,(1),[]⟩,
⟨rfl,λi v h=>by cases h⟩,
⟨0,26,l1,_, -1,.str (cF ns),1⟩,
⟨.ref s.13,_⟩,
⟨λ_ _ h=>(by cases h)⟩,
⟨λv hv H3 q3 s3 f3 e3=>?_⟩,
⟨o,λ_ _ h=>h⟩,
⟨1,eM.of G,aJ (j:=2) rfl⟩,
⟨λ_ h=>by cases h⟩,
⟨jy (48+ah)⟩])
 let mut r:Array Term:=Array.mk []
 let mut p:=xs.getElems.toList
 for _ in [0:9999] do
  match p with
  |[]=>break
  |x::q=>
   p:=q
   match x.raw.isNatLit? with
   |some k=>p:=(match S[k]? with|some s=>(s.splitOn ",").map ri|_=>C.raw[1].getSepArgs[k-117]![1].getSepArgs.toList.map TSyntax.mk)++q
   |_=>r:=r.push x
 `(⟨$r,*⟩)
open Lean in
local macro_rules|`(tactic|let $p:term:=$e)=>do
 let rec go (n:Nat)(t:Syntax):MacroM (TSyntax `rcasesPat):=do
  match n with
  |0=>Macro.throwUnsupported
  |n+1=>match t with
   |`($i:ident)=>`(rcasesPat|$i:ident)
   |`(_)=>`(rcasesPat|_)
   |`(#[$xs,*])=>do `(rcasesPat|⟨$(←xs.getElems.mapM fun x=>do `(Parser.Tactic.rcasesPatLo|$(←go n x):rcasesPat)),*⟩)
   |_=>Macro.throwUnsupported
 match p with
 |`(#[$_,*])=>do `(tactic|obtain $(←go 99 p):rcasesPat := $e)
 |_=>Macro.throwUnsupported
namespace PySem
section
variable{prog:By}{w:L3}{A:Ys}{E:gJ}{s:ti}
mutual
def JI(t:Bool)(h:Heap)(i l:ZX)(k:Nat):Prop:=cond t (h.IsTupleIter i l k) (h.IsListIter i l k)
def JL(t:Bool)(h:Heap)(l:ZX)(xs:p9):Prop:=cond t (h.IsTuple l xs) (h.IsList l xs)
theorem JI.at{t:Bool}{h h':Heap}{i l:ZX}{k:Nat}(a:JI t h i l k)(b:∀o,h.get? i^o->h'.get? i^o):JI t h' i l k:=by
 cases t
 .show Heap.IsListIter.at a b
 .show Heap.IsTupleIter.at a b
theorem JI.obj{t:Bool}{h:Heap}{i l:ZX}{k:Nat}(a:JI t h i l k):∃o,h.get? i^o/\∀v,o.data≠.cell v:=by
 cases t<;>(let#[o,e,c,d]:=a;show#[o,e,λv q=>by rwa[d]at q])
theorem nC{it t:ZX}{i:Nat}{U}{Q:gJ}(Y:A.handled=none)(L:s.heap.IsTupleIter it t i)(ht:s.heap.IsTuple t U)
  (I:(∃x,U[i]?^x/\∀h',h'.IsTupleIter it t (i+1)->Heap.SameBut it s.heap h'->Q x { s with heap:=h' })\/(U[i]?=none/\∀h' e,Heap.ExtBut it s.heap h'->(∃o,h'.get? e^o/\o.cls=.type "StopIteration")->E (.ref e) { s with heap:=h' })):wpAny w.16 A (Builtin.SmallTypes.nextOf (.ref it)) Q E s:=by
 let#[o,G,hc,hd]:=id L;let#[ol,Z,_,nl,ab]:=ht;unfold Builtin.SmallTypes.nextOf;show yl (acN (name:=Str.ofString "__next__") L.typeIs F.slot_tuple_iterator_next (IE F.slot_tuple_iterator_next L.typeIs F.entry_tuple_iterator_next ?_ (F.args_tuple_iterator_next_1 _)));change wpAny _ _ (field (.ref it) 0>>=_) _ _ s;show yl (BR G hd (x:=.ref t) rfl ?_);change wpAny _ _ (if (Value.ref t==Value.none)=true then _ else _) _ _ s;rw[vr (show ¬ ((Value.ref t==Value.none)=true)from Yf)];change wpAny _ _ (field (.ref it) 1>>=_) _ _ s;show yl (BR G hd (x:=.int i 0) rfl ?_);change wpAny _ _ (seqItems? (.ref t)>>=_) _ _ s;show yl (CZ Z ab ?_);rcases I with⟨x,hx,I⟩|⟨hx,hE⟩
 .simp only[Xd,hx];show yl (WG G hd J0 (wpAny_pure #[x,rfl,wpAny_pure (I _ #[_,Heap.get?_update_self _ G (Obj.isFreed_of_fields (Obj.data_mapFields hd _)),(Obj.cls_mapFields ..).trans hc,?_] (Heap.SameBut.update ..))]));rw[Obj.data_mapFields hd];simp[WD]
 .simp only[Xd,hx];show yl (Nb (yl (WG G hd J0 ?_)));change wpAny _ _ (newExc (.type "StopIteration") []>>=_) _ _ _;show yl ?_;simp only[newExc,newTuple];show yl (Fw ?_ (by size_fits));show yl (m:=firstArgMember _ _) (wpAny_of_eq (a:=Value.none) (by first|rfl|(simp only[firstArgMember];rfl)) ?_);show Fw ?_ (by size_fits);simp only[raiseNew];show yl (wpAny_handled ?_)
  first|rw[show A.in1.handled=none from Y]|rw[Y]
  show yl (wpAny_pure (wpAny_throw (hE _ _ (((Heap.SameBut.update ..).extBut.push _).push _) #[_,42,rfl])))
theorem xH{t:Bool}{z TI TO L I l1 l2:ZX}{k:Nat}{xs ys:p9}{a b:xr}{Q:Option xr->ti->Prop}(hh:A.handled=none)(D:ZipApart z TI TO L I l1 l2)(hz:Ay s.heap z TI TO .none)(ad:xj s.heap TI (.ref L) (.ref I))(ap:xj s.heap TO a b)
  (h1:JI t s.heap L l1 k) (h2:JI t s.heap I l2 k) (ac:JL t s.heap l1 xs) (ab:JL t s.heap l2 ys)
  (U:(∃x y,xs[k]?^x/\ys[k]?^y/\∀h',Ay h' z TI TO (WD s.13)->xj h' TO x y->JI t h' L l1 (k+1)->JI t h' I l2 (k+1)->xj h' s.13 x y ->
   (∀c o,c≠z->c≠TO->c≠L->c≠I->s.heap.get? c^o->h'.get? c^o)->Q (some (.ref s.13)) { s with heap:=h' }) \/
   xs[k]?=none/\∀h',(∀c o,c≠z->c≠TO->c≠L->c≠I->s.heap.get? c^o->h'.get? c^o)->Q none { s with heap:=h' }):wpAny w.16 A (pyNext (.ref z)) Q E s:=by
 cases t
 .rcases U with⟨x,y,hx,hy,U⟩|⟨hx,U⟩
  .show wpAny_pyNext_zip_item D hz ad ap h1 h2 ac ab hx hy λh' a b c d e _ f=>U h' a b c d e f
  .show wpAny_pyNext_zip_end hh D hz ad ap h1 h2 ac ab (.inl hx) U
 replace h1:s.heap.IsTupleIter L l1 k:=h1;replace h2:s.heap.IsTupleIter I l2 k:=h2;replace ac:s.heap.IsTuple l1 xs:=ac;replace ab:s.heap.IsTuple l2 ys:=ab;let hT:s.TypeIs (.ref z) "zip" := #[_,hz,rfl];unfold pyNext;show yl (CA (acN (name:=Str.ofString "__next__") hT F.slot_zip_next (IE F.slot_zip_next hT F.entry_zip_next ?_ (F.args_zip_next_1 _))));change wpAny _ _ (field (.ref z) 2>>=_) _ _ _;show yl (BR hz rfl (x:=.bool false) rfl ?_);change wpAny _ _ (field (.ref z) 3>>=_) _ _ _;show yl (BR hz rfl (x:=.ref TI) rfl (yl (CZ ad rfl ?_)));change wpAny _ _ (Builtin.SmallTypes.ownedTupleIsFree (.ref z)>>=_) _ _ _;show yl ?_;unfold Builtin.SmallTypes.ownedTupleIsFree;show yl (BR hz rfl (x:=.none) rfl (wpAny_pure ?_));simp only[if_true];show yl (Nb (yl (BR hz rfl (x:=.ref TO) rfl (yl (Yc hz J0 λg1 z1 e1=>?_)))));replace z1:Ay g1 z TI TO .ellipsis:=z1;show yl ?_;simp only[List.zipIdx_cons,List.zipIdx_nil,List.forIn_cons,List.forIn_nil];show yl (yl (wpAny_onRaise ?_));change wpAny _ _ (Builtin.SmallTypes.nextOf (.ref L)>>=_) _ _ _;show yl (nC hh (h1.extBut e1.extBut D.i1z) (ac.extBut e1.extBut D.l1z) ?_);rcases U with⟨x,y,hx,hy,U⟩|⟨hx,U⟩
 .show .inl #[x,hx,λg2 j1 Z=>wpAny_pure ?_];let t2:xj g2 TO a b:=Z.extBut _ _ D.TOi1 (e1.extBut _ _ D.TOz ap);show yl (CZ t2 rfl (yl (adJ t2 λg3 t3 e3=>?_)));replace t3:xj g3 TO x b:=t3;show yl (wpAny_letGo (wpAny_pure (yl (yl (wpAny_onRaise ?_)))));change wpAny _ _ (Builtin.SmallTypes.nextOf (.ref I)>>=_) _ _ _;show yl (nC hh (((h2.extBut e1.extBut D.i2z).extBut Z.extBut D.i12.6).extBut e3.extBut D.TOi2.6) (((ab.extBut e1.extBut D.l2z).extBut Z.extBut D.l2i1).extBut e3.extBut D.l2TO) (.inl #[y,hy,λg4 j2 e4=>wpAny_pure ?_]));let t4:xj g4 TO x b:=e4.extBut _ _ D.TOi2 t3;show yl (CZ t4 rfl (yl (adJ t4 λG t5 e5=>?_)));replace t5:xj G TO x y:=t5;show yl (wpAny_letGo (wpAny_pure (wpAny_pure (yl (CZ t5 rfl (yl (wpAny_newTuple ?_)))))));let ez:G.objs.3=s.13:=(by rw[e5.1,e4.1,e3.1,Z.1,e1.1]);let z5:Ay G z TI TO .ellipsis:=e5.extBut _ _ D.TOz.symm (e4.extBut _ _ D.i2z.symm (e3.extBut _ _ D.TOz.symm (Z.extBut _ _ D.i1z.symm z1)));let k5:∀c o,c≠z->c≠TO->c≠L->c≠I->s.heap.get? c^o->G.get? c^o:=λc o Y c2 c3 c4 e=>e5.extBut _ _ c2 (e4.extBut _ _ c4 (e3.extBut _ _ c2 (Z.extBut _ _ c3 (e1.extBut _ _ Y e))));let j1:G.IsTupleIter L l1 (k+1):=((j1.extBut e3.extBut D.TOi1.6).extBut e4.extBut D.i12).extBut e5.extBut D.TOi1.6;let j2:G.IsTupleIter I l2 (k+1):=j2.extBut e5.extBut D.TOi2.6;let ar:z<G.objs.3:=gu z5;change wpAny _ _ (Builtin.SmallTypes.ownedTupleHandOut (.ref z) (.ref G.objs.3)>>=_) _ _ _;show yl ?_;unfold Builtin.SmallTypes.ownedTupleHandOut;let abX:Ay (G.push { cls:=.type "tuple",data:=.seq ([x,y].8) }) z TI TO .ellipsis:=aV _ z5;show yl (Yc abX J0 λg7 z7 e7=>?_);replace z7:Ay g7 z TI TO (WD G.objs.3):=z7;show Yc z7 J0 λg8 z8 e8=>?_;replace z8:Ay g8 z TI TO (WD G.objs.3):=z8;let up:∀c o,c≠z->G.get? c^o->g8.get? c^o:=λc o Y e=>e8.extBut _ _ Y (e7.extBut _ _ Y (aV _ e));let t8:xj g8 G.objs.3 x y:=e8.extBut _ _ (FD ar) (e7.extBut _ _ (FD ar) (qZ _ rfl));rw[ez]at z8 t8;show wpAny_pure #[0,wpAny_pure ?_];change Q (some (.ref G.objs.3)) _;rw[ez];show U g8 z8 (up _ _ D.TOz t5) (j1.at λo e=>up _ o D.i1z e) (j2.at λo e=>up _ o D.i2z e) t8 λc o Y c2 c3 c4 e=>up c o Y (k5 c o Y c2 c3 c4 e)
 show .inr #[hx,λg2 e Z he=>?_];let#[oe,am,as]:=he;let z2:Ay g2 z TI TO .ellipsis:=Z _ _ D.i1z.symm z1;let ay:e≠z:=λq=>(by subst q;rwa[z2]at am;simp at as);show Yc z2 J0 λg3 _ e3=>?_;show yl (wpAny_isInstance (T := "StopIteration") (b:=true) #[oe,e3.extBut _ _ ay am,as] isSubtype_stop ?_);show wpAny_pure (U _ λc o Y _ c3 _ q=>e3.extBut _ _ Y (Z _ _ c3 (e1.extBut _ _ Y q)))
noncomputable abbrev Tn(h:Heap)(t:ZX):Heap:=h.push { cls:=.type "tuple_iterator",data:=.fields ([.ref t,.int 0 0].8) }
noncomputable abbrev SX(h:Heap)(t l:ZX):Heap:=(Tn h t).push { cls:=.type "tuple_iterator",data:=.fields ([.ref l,.int 0 0].8) }
noncomputable abbrev Tc(h:Heap)(t l:ZX):Heap:=(SX h t l).push { cls:=.type "tuple",data:=.seq ([.ref h.objs.3,.ref (Tn h t).objs.3].8) }
noncomputable abbrev Ti(h:Heap)(t l:ZX):Heap:=(Tc h t l).push { cls:=.type "tuple",data:=.seq ([.none,.none].8) }
noncomputable abbrev PD(h:Heap)(t l:ZX):Heap:=(Ti h t l).push { cls:=.type "zip",data:=.fields ([.none,.bool false,.bool false,.ref (SX h t l).objs.3,.ref (Tc h t l).objs.3].8) }
theorem acn(t l:ZX)(xs ys:p9) :
  Meets (Builtin.«zip.__new__» #[[.type "zip",.ref t,.ref l],[]]) (λ_ R s=>s.heap.IsTuple t xs/\s.heap.IsTuple l ys/\R (.ok (.ret (.ref (Ti s.heap t l).objs.3))) { s with heap:=PD s.heap t l }):=
 .of_wp λprog w A R s h=>by
  let#[F,g,d,tk,os]:=s;let#[h1,h2,h]:=h;let G:=sub_zip;let a1:Heap.IsTuple (afE #[F,g,d,tk,os]) t xs:=h1;let a2:Heap.IsTuple (afE #[F.push { cls:=.type "tuple_iterator",data:=.fields ([.ref t,.int 0 0].8) },g,d,tk,os]) l ys:=Heap.IsTuple.push h2 _
  wp_walk using aen a1,aen a2
  show#[0,h]
theorem adt{b:Bool}{t l:ZX}{xs ys:p9}{Q:gJ}(h1:JL b s.heap t xs)(h2:JL b s.heap l ys)
  (h:∀h',Ay h' (s.13+4) (s.13+2) (s.13+3) .none->xj h' (s.13+2) (.ref s.13) (.ref (s.13+1)) ->
   xj h' (s.13+3) .none .none->JI b h' s.13 t 0->JI b h' (s.13+1) l 0 ->
   (∀c o,s.heap.get? c^o->h'.get? c^o)->Q (.ref (s.13+4)) { s with heap:=h' }) :
  wpAny w.16 A (call (.type "zip") [.ref t,.ref l]) Q E s:=by
 cases b
 .show call_zip_2 h1 h2 λh' a b c d e _ f=>h h' a b c d e f
 show callType_new F.called_zip az (F.typeCall_zip_2 _ _) (F.newCall_zip_2 _ _) (λobj=>F.args_object_init_3 obj _ _) F.entry_zip_new (acn t l xs ys) #[h1,h2,?_];let U:(Tn s.heap t).objs.3=s.13+1:=G1 ..;let I:(SX s.heap t l).objs.3=s.13+2:=(by rw[G1,U]);let G:(Tc s.heap t l).objs.3=s.13+3:=(by rw[G1,I]);let Z:(Ti s.heap t l).objs.3=s.13+4:=(by rw[G1,G]);let up:∀{c:ZX}{o:Obj}(u:Heap)(p:Obj),u.get? c^o->(u.push p).get? c^o:=λu p e=>aV _ e;let L:(PD s.heap t l).get? (Ti s.heap t l).objs.3^_:=qZ _ rfl;let Y:(PD s.heap t l).get? (Tc s.heap t l).objs.3^_:=up _ _ (qZ _ rfl);let g3:(PD s.heap t l).get? (SX s.heap t l).objs.3^_:=up _ _ (up _ _ (qZ _ rfl));let g2:(PD s.heap t l).get? (Tn s.heap t).objs.3^_:=up _ _ (up _ _ (up _ _ (qZ _ rfl)));let g1:(PD s.heap t l).get? s.13^_:=up _ _ (up _ _ (up _ _ (up _ _ (qZ _ rfl))));change _/\_;rw[I,G,Z]at L;rw[U,I]at g3;rw[G]at Y;rw[U]at g2;rw[Z];show#[#[_,L,rfl],h _ L g3 Y #[_,g1,1] #[_,g2,1] λc o x=>up _ _ (up _ _ (up _ _ (up _ _ (up _ _ x))))]
end
end
end PySem
namespace HT
open PySem PyProof.Rows
section
open PySem.SeqAt
open PySem.AutoSeq1 (wpAny_loadPart')
open PySem.MeetsSeq PySem.MeetsSeq2 PySem.MeetsSeq3
variable{prog:By}{w:L3}{A:Ys}{E:gJ}{s:ti}
theorem JK{t b:ZX}{vs ws:WX}{Q:gJ}(ht:IsTup s.heap t vs.8)(hb:IsTup s.heap b ws.8)(hv:vs≠[])
  (h1:ws=[]->Q (.ref t) s) (h2:ws≠[]->Q (.ref s.13) { s with heap:=s.heap.push { cls:=.type "tuple",data:=.seq (vs++ws).8 } })
  (hsz:vs.9+ws.9<=yr):wpAny w.16 A (ou .Add (.ref t) (.ref b)) Q E s:=by
 let#[#[cls,dd,data,sl],I,hc,n,hd]:=id ht;let#[#[ac,ab,data2,Z],L,Y,n2,U]:=id hb;simp only at hc hd Y U;subst hc hd Y U;let e:vs.8++ws.8=(vs++ws).8:=J0;cases G:ws=[]
 .show concat_meets #[_,I,rfl] #[_,L,rfl] noFill_tuple_add seq_tuple_add ac2 acO (acG _ _)
   (tuple_addW1 t b vs.8 ws.8 n n2 dd ab sl Z ‹hv› (by simp[G])) #[I,L,h1 G]
 .show concat_meets #[_,I,rfl] #[_,L,rfl] noFill_tuple_add seq_tuple_add ac2 acO (acG _ _)
   (tuple_addW2 t b vs.8 ws.8 n n2 dd ab sl Z ‹hv› ‹G› (by rw[Yg,Yg];show hsz)) #[I,L,?_]
  rw[e];show h2 G
def uu(n d:Nat):Option Int->Nat
 |none=>d
 |some v=>if v<0 then(v+(n:Int)).5 else min v.5 n
theorem mC(n d:Nat):uu n d none=d:=rfl
theorem kA(n d k:Nat):uu n d (some (k:Int))=min k n:=by
 change(if (k:Int)<0 then((k:Int)+(n:Int)).5 else min (k:Int).toNat n)=min k n;rw[vr ak,Xd]
end
open PySem.Spec
end HT
namespace L2
open PySem PySem.Spec PyProof.Rows
mutual
abbrev Key:=Sum Int Str
def rJ:Key->xr->Bool
 |.inl k,v=>Value.isInt k v
 |.inr x,v=>Value.isStrOf x v
def aaL(w:L3):Key->Int
 |.inl k=>hashInt k
 |.inr x=>hashStr w x
theorem cT:∀{k:Key}{v:xr},rJ k v->(∃i t,k=Xt i/\v=Value.int i t)\/(∃x t,k=FH x/\v=Value.str x t)
 |.inl i,v,h=>by
  let#[t,e]:=Value.isInt_shape (k:=i) (v:=v) h;show .inl #[i,t,rfl,e]
 |.inr x,v,h=>by
  let#[t,e]:=Value.isStrOf_shape (x:=x) (v:=v) h;show .inr #[x,t,rfl,e]
def aao(i:Int)(t:Tok):rJ (.inl i) (.int i t):=by simp[rJ,Value.isInt]
def aa8(x:Str)(t:Tok):rJ (.inr x) (.str x t):=by simp[rJ,Value.isStrOf]
def afg(a b:Int):decide ((Xt a:Key)=Xt b)=(a==b):=by
 cases e:a=b
 .subst e;simp
 .let h:¬ (Xt a:Key)=Xt b:=λq=>e (O9 q);rw[ck h];show(beq_eq_false_iff_ne.mpr e).6
def aaa(a b:Str):decide ((FH a:Key)=FH b)=decide (a=b):=by
 cases e:a=b
 .subst e;simp
 .let h:¬ (FH a:Key)=FH b:=λq=>e (Sum.inr.inj q);rw[ck h,ck e]
def aab(a:Int)(b:Str):decide ((Xt a:Key)=FH b)=false:=ck (λq=>nomatch q)
def abb(a:Str)(b:Int):decide ((FH a:Key)=Xt b)=false:=ck (λq=>nomatch q)
def cj(prog:By)(w:L3):PySem.KeyKind prog w Key where
 is:=rJ
 hash:=aaL w
 inj:=λv a b U I=>by
  rcases cT U with⟨i,t,rfl,rfl⟩|⟨x,t,rfl,rfl⟩
  .rcases cT I with⟨j,u,rfl,e⟩|⟨y,u,rfl,e⟩
   .injection e with F _;rw[F]
   .show nomatch e
  .rcases cT I with⟨j,u,rfl,e⟩|⟨y,u,rfl,e⟩
   .show nomatch e
   .injection e with F _;rw[F]
 byValue:=λk v h=>by
  rcases cT h with⟨i,t,rfl,rfl⟩|⟨x,t,rfl,rfl⟩<;>rfl
 pyHash:=λG h=>by
  rcases cT G with⟨i,t,rfl,rfl⟩|⟨x,t,rfl,rfl⟩
  .show wpAny_pyHash_int h
  .show wpAny_pyHash_str h
 eqBool:=λL G h=>by
  rcases cT L with⟨i,t,rfl,rfl⟩|⟨x,t,rfl,rfl⟩
  .rcases cT G with⟨j,u,rfl,rfl⟩|⟨y,u,rfl,rfl⟩
   .rw[afg]at h;show wpAny_eqBool_int h
   .rw[aab]at h;show aeo i t y u _ _ _ _ h
  .rcases cT G with⟨j,u,rfl,rfl⟩|⟨y,u,rfl,rfl⟩
   .rw[abb]at h;show aep x t j u _ _ _ _ h
   .rw[aaa]at h;show wpAny_eqBool_str h
 «strs» := λk x t v h=>by
  rcases cT h with⟨i,u,rfl,e⟩|⟨y,u,rfl,e⟩
  .show nomatch e
  .injection e with F _;subst F;cases v<;>rfl
def qAd(prog:By)(w:L3)(i:Int)(t:Tok):(cj prog w).is (.inl i) (.int i t)=true:=aao i t
def cdv(prog:By)(w:L3)(x:Str)(t:Tok):(cj prog w).is (.inr x) (.str x t)=true:=aa8 x t
set_option genInjectivity true in
inductive V where
 |bu|bl (b:Bool)|int (i:Int)|str (x:Str)|byt (b:Array UInt8)|flt (b:UInt64)|ref (a:ZX)|ty (n:String)
 deriving DecidableEq
abbrev nI:=List (Key×V)
abbrev vl:=List V
def zH:V->xr->Prop
 |.bu,u=>u=Value.none
 |.bl b,u=>u=Value.bool b
 |.int i,u=>∃t,u=Value.int i t
 |.str x,u=>∃t,u=Value.str x t
 |.byt b,u=>∃t,u=Value.bytes b t
 |.flt b,u=>∃t,u=Value.float b t
 |.ref a,u=>u=Value.ref a
 |.ty n,u=>u=Value.type n
abbrev Si:List V->List xr->Prop:=Paired zH
variable{xs:vl}{us:WX}
theorem Si.length(r:Si xs us):xs.9=us.9:=Paired.length r
variable{i:Nat}
def Si.get{x:V}(h:Si xs us)(e:xs[i]?^x):∃u,us[i]?^u/\zH x u:=by
 induction h generalizing i with
 |nil=>cases e
 |cons r _ F =>
  cases i with
  |zero=>cases e;show#[0,r]
  |succ i=>show F e
theorem Si.set{x:V}{u:xr}(r:zH x u):∀{xs:vl}{us:WX}(i:Nat),Si xs us->Si (xs.set i x) (us.set i u)
 |_,_,_,.nil=>.nil
 |_,_,0,.cons _ t=>.cons r t
 |_,_,i+1,.cons q t=>.cons q (Si.set r i t)
variable{ys:vl}
def Si.append{ws:WX}(h:Si xs us)(s:Si ys ws):Si (xs++ys) (us++ws):=by
 induction h with
 |nil=>show s
 |cons r _ F=>show .cons r F
theorem Si.take:∀{xs:vl}{us:WX}(n:Nat),Si xs us->Si (xs.take n) (us.take n)
 |_,_,0,_=>.nil
 |_,_,_+1,.nil=>.nil
 |_,_,n+1,.cons r t=>.cons r (Si.take n t)
theorem Si.drop:∀{xs:vl}{us:WX}(n:Nat),Si xs us->Si (xs.drop n) (us.drop n)
 |_,_,0,r=>r
 |_,_,_+1,.nil=>.nil
 |_,_,n+1,.cons _ t=>Si.drop n t
def jS:Option V->Option xr->Prop
 |some v,some u=>zH v u
 |none,none=>True
 |_,_=>False
def KV{κ:Type}:List (κ×V)->List (κ×xr)->Prop:=Paired λ(p:κ×V)(q:κ×xr)=>p.1=q.1/\zH p.2 q.2
noncomputable def kV:Key->V
 |.inl i=>.int i
 |.inr x=>.str x
set_option genInjectivity true in
inductive HO where
  |lst(xs:vl)
  |tup(xs:vl)
  |dK(Ki:nI)|dT (Ki:List (List Key×V))
  |set(S:Int->Bool)(n:Nat)
  |ins(C dx:ZX)(fs:List (Str×V))
  |own(x:ZX)
  |xd(fs:List (Str×V))
  |met(f x:ZX)
  |so(lo hi:Int)
  |frz(o:Obj)(u:HO)
  |tbl(ps:p9)
  |ext(φ:Heap->Prop)
abbrev Hp:=ZX->Option HO
def QZ(H:Hp)(a:ZX)(o:HO):Hp:=λb=>if b=a then some o else H b
variable{H:Hp}{a:ZX}{o:HO}
def ag:QZ H a o a^o:=by unfold QZ;rw[C' rfl]
variable{b:ZX}
def au(h:b≠a):QZ H a o b=H b:=by unfold QZ;rw[vr h]
variable{u:HO}
def tj(h:H a^o)(h':H b^u)(d:o≠u):a≠b:=by
 intro e;subst e;rw[h]at h';show d (OR h')
def ba(h:H a^o)(h':H b=none):a≠b:=by
 intro e;subst e;rwa[h]at h'
end
section
variable(P:By)(w:L3)
def cz(H:Hp)(h:Heap)(a:ZX):HO->Prop
 |.lst xs=>xs.9<=yr/\∃(XO:WX)(n:Nat),Si xs XO/\h.get? a=some { cls:=.type "list",data:=.seq XO.8 n }
 |.tup xs=>xs.9<=yr/\∃XO:List xr,Si xs XO/\IsTup h a XO.8
 |.dK Ki=>Ki.9<=yr/\(a==yh)=false/\∃vs,KV Ki vs/\h.DictOf (cj P w) a vs
 |.dT Ki=>Ki.9<=yr/\(a==yh)=false/\∃xs:List (List Key×ZX×xr),
   Paired (λ(p:List Key×V)(q:List Key×ZX×xr)=>p.1=q.1/\H q.2.1|||(p.1.map kV)/\zH p.2 q.2.2) Ki xs /\
   ∃o es ep,h.get? a^o/\o.ExactDict/\o.data=.dict es ep/\es.7=xs.map (entryOfKey (B8 (cj P w)))/\(xs.map (·.1)).4
 |.set S n=>h.SetOf (intKind P w) a S n
 |.ins C dx fs=>H dx^.own a/\fs.9<=1000/\dx≠a/\h.get? a=some (instObj C dx) /\
   ∃mA,h.Ns1 dx mA/\(∀f,jS (fs.lookup f) (mA f))/\Sm mA (fs.map (·.1))
 |.own _=>∃o,h.get? a^o
 |.xd fs=>∃mA,h.Ns1 a mA/\∀f,jS (fs.lookup f) (mA f)
 |.so lo hi=>∃t u v,h.get? a=some { cls:=.type "range",data:=.fields ([.int lo t,.int hi u,.int 1 v].8) }
 |.frz o u=>h.get? a^o/\cz H h a u
 |.tbl ps=>h.get? a=some { cls:=.none,data:=.fields ps }
 |.met f x=>h.get? a^methodObj (.ref f) (.ref x)
 |.ext F=>F h/\(∃o,h.get? a^o)/\∀h1 h2:Heap, F h1->(∀o,h1.get? a^o->h2.get? a^o)->F h2
def kY(H:Hp)(h:Heap):=∀a o,H a^o->cz P w H h a o
variable{P:By}{w:L3}{h:Heap}
theorem cz.lt(x:cz P w H h a o):a<h.objs.3:=by
 cases o with
 |lst xs=>let#[_,_,_,_,e]:=x;show gu e
 |tup xs=>let#[_,_,_,p]:=x;show p.lt
 |dK Ki=>let#[_,_,_,_,o,_,_,e,_]:=x;show gu e
 |dT Ki=>let#[_,_,_,_,o,_,_,e,_]:=x;show gu e
 |set S n=>let#[o,_,_,_,e,_]:=x;show gu e
 |ins C dx fs=>let#[_,_,_,e,_]:=x;show gu e
 |own y=>let#[_,e]:=x;show gu e
 |xd fs=>let#[_,#[_,_,_,e,_],_]:=x;show gu e
 |so lo hi=>let#[_,_,_,e]:=x;show gu e
 |frz G u=>let#[e,_]:=x;show gu e
 |tbl ps=>show gu (show h.get? a^_ from x)
 |met f y=>show gu (show h.get? a^_ from x)
 |ext F=>let#[_,#[_,e],_]:=x;show gu e
def Paired.sv{α β:Type}{F G:α->β->Prop}{l₁:List α}{l₂:List β}(h:Paired F l₁ l₂)(f:∀a b,F a b->G a b):Paired G l₁ l₂:=by
 induction h with
 |nil=>show .nil
 |cons r _ I=>show .cons (f _ _ r) I
variable{h':Heap}
def cz.iW{J:Hp}(x:cz P w H h a o)(k:∀b u,(b=a\/H b=some (.own a))->h.get? b^u->h'.get? b^u)
  (L:∀b,H b^.own a->J b^.own a) (G:∀b xs,H b|||xs->J b|||xs):cz P w J h' a o:=by
 induction o with
 |lst xs=>let#[z,XO,n,r,e]:=x;show#[z,XO,n,r,19]
 |tup xs=>let#[z,XO,r,F,e,c]:=x;show#[z,XO,r,F,19,c]
 |dK Ki=>let#[z,y,vs,r,F,es,ep,e,c]:=x;show#[z,y,vs,r,F,es,ep,19,c]
 |dT Ki =>
  let#[z,y,xs,r,F,es,ep,e,c]:=x;show#[z,y,xs,Paired.sv r λp q z=>#[z.1,G _ _ z.2.1,z.2.2],F,es,ep,19,c]
 |set S n=>let#[F,es,ep,t,e,c]:=x;show#[F,es,ep,t,19,c]
 |ins C dx fs =>
  let#[d,z,ne,e,mA,#[od,es,ep,I,c],r]:=x;show#[L _ d,z,ne,19,mA,#[od,es,ep,k _ _ (.inr d) I,c],r]
 |own y=>let#[F,e]:=x;show#[F,19]
 |xd fs=>let#[mA,#[od,es,ep,e,c],r]:=x;show#[mA,#[od,es,ep,19,c],r]
 |so lo hi=>let#[t,u,v,e]:=x;show#[t,u,v,19]
 |frz F u U=>let#[e,q]:=x;show#[19,U q]
 |tbl ps =>
  let e:h.get? a=some { cls:=.none,data:=.fields ps }:=x;change h'.get? a=some { cls:=.none,data:=.fields ps };show k a _ (.inl rfl) e
 |met f y =>
  let e:h.get? a^methodObj (.ref f) (.ref y):=x;change h'.get? a^methodObj (.ref f) (.ref y);show k a _ (.inl rfl) e
 |ext Y=>let#[p,#[o,e],st]:=x;show#[st _ _ p λo q=>k _ _ (.inl rfl) q,#[o,19],st]
theorem kY.lt(x:kY P w H h)(e:H a^o):a<h.objs.3:=(x a o e).lt
def kY.fresh(x:kY P w H h)(e:h.objs.3<=a):H a=none:=by
 cases q:H a with
 |none=>rfl
 |some u=>show D9 (Ym (x.lt q) e) (Z8 _)
def kY.kept(x:kY P w H h)(k:∀b u,h.get? b^u->h'.get? b^u):kY P w H h':=λa o e =>
 (x a o e).iW (λb u _ q=>k b u q) (λ_ q=>q) λ_ _ q=>q
def kY.laid(x:kY P w H h)(k:∀b u,h.get? b^u->h'.get? b^u)(I:h.objs.3<=a)(L:cz P w (QZ H a o) h' a o):kY P w (QZ H a o) h':=λb u e=>by
 let G:=x.fresh I;cases F:b=a
 .subst F;rwa[ag]at e;show L
 .rw[au F]at e;show(x b u e).iW (λc v _ q=>k c v q) (λc q=>q<*au (ba q G)) λc xs q=>by rw[au (ba q G)];show q
end
def Rd(H:Hp)(a:ZX)(u:HO):Prop:=H a=some u\/∃o,H a^.frz o u
variable{P:By}{w:L3}{h:Heap}
def Rd.ok(r:Rd H a u)(x:kY P w H h):cz P w H h a u:=by
 obtain r|⟨o,r⟩:=r
 .show x a u r
 .let#[_,q]:=x a _ r;show q
def Q0:Option HO->Prop
 |some (.lst _)=>True
 |some (.dK _)=>True
 |some (.dT _)=>True
 |some (.set _ _)=>True
 |some (.ins _ _ _)=>True
 |some (.ext _)=>True
 |_=>False
variable{h':Heap}{x e:ZX}
def kY.write{o':HO}(ok:kY P w H h)(G:Q0 (H x))(Y:e=x\/H e=some (.own x))(k:∀b u,b≠e->h.get? b^u->h'.get? b^u)(ab:∃u,h'.get? e^u)
  (ac:cz P w (QZ H x o') h' x o'):kY P w (QZ H x o') h':=λb u q=>by
 let U:∀c y,H c^.own y->c≠x:=λc y r z=>(by subst z;rw[r]at G;show G);let ad:∀c xs,H c|||xs->c≠x:=λc xs r z=>(by subst z;rw[r]at G;show G);cases F:b=x
 .subst F;rwa[ag]at q;show ac
 .rw[au F]at q;cases I:b=e
  .let Z:H b^.own x:=by
    obtain z|z:=Y
    .show D9 (I.trans z) F
    .rw[I];show z
   rwa[q]at Z;let#[v,hv]:=ab;show#[v,hv<*I]
  .show(ok b u q).iW (λc v L r=>k c v ?_ r) (λc r=>r<*au (U c b r)) λc xs r=>(r<*au (ad c xs r));obtain rfl|L:=L
   .show I
   .rintro rfl;obtain z|z:=Y
    .show U c b L z
    .rw[L]at z;cases z;show F rfl
structure Un(fs ex:JS)(H J:Hp)(h h':Heap):Prop where
 keep:∀b o,h.get? b^o->H b=none->b∉fs->b∉ex->h'.get? b^o
 slot:∀b o,h.get? b^o->H b=none->b∈fs->b∉ex->∃sl,h'.get? b=some { o with slots:=sl }
 free:∀b o,h.get? b^o->H b=none->b∉ex->J b=none
 there:∀b o,h.get? b^o->b∉ex->∃o',h'.get? b^o'
 qF:∀b xs,H b|||xs->J b|||xs
 pV:∀b o u,H b^.frz o u->J b^.frz o u
 qJ:∀b ps,H b^.tbl ps->∃more,J b^.tbl (ps++more)
section
variable{fs kX ex ex':JS}{H H1 H2:Hp}{h h1 h2 h':Heap}{a x e:ZX}{o:HO}
def Un.any(u:Un fs ex H H1 h h1){F:Obj}(q:h.get? b^F)(n:H b=none)(hx:b∉ex):∃sl,h1.get? b=some { F with slots:=sl }:=by
 cases G:b∈fs
 .show u.slot b F q n G hx
 .show#[F.slots,u.keep b F q n G hx]
def Un.kept(k:∀b u,h.get? b^u->h'.get? b^u):Un fs ex H H h h' :=
 #[λb F q _ _ _=>k b F q,λb F q _ _ _=>#[F.slots,k b F q],λ_ _ _ n _=>n,λb F q _=>#[F,k b F q],λ_ _ q=>q,λ_ _ _ q=>q,λ_ ps q=>#[([].8),by rw[q];simp]]
def Un.refl:Un fs ex H H h h:=Un.kept λ_ _ q=>q
def Un.laid(k:∀b u,h.get? b^u->h'.get? b^u)(G:h.objs.3<=a)(F:H a=none):Un fs ex H (QZ H a o) h h' where
 keep:=λb u q _ _ _=>k b u q
 slot:=λb u q _ _ _=>#[u.slots,k b u q]
 free:=λb u q n _=>by rw[au (Za (Ym (gu q) G))];show n
 there:=λb u q _=>#[u,k b u q]
 qF:=λb xs q=>by rw[au (ba q F)];show q
 pV:=λb u xs q=>by rw[au (ba q F)];show q
 qJ:=λb ps q=>#[([].8),by rw[au (ba q F),q];simp]
def Un.write(F:Q0 (H x))(U:e=x\/H e=some (.own x))(k:∀b u,b≠e->h.get? b^u->h'.get? b^u)(Y:∃u,h'.get? e^u):Un fs ex H (QZ H x o) h h':=by
 let hx:∀b,H b=none->b≠x:=λb n z=>(by subst z;rw[n]at F;show F);let L:∀b,H b=none->b≠e:=λb n z=>by
  subst z;obtain r|r:=U
  .show hx b n r
  .rw[n]at r;cases r
 let G:∀b u,H b^u->¬ Q0 (some u)->b≠x:=λb u q nm z=>(by subst z;rw[q]at F;show nm F);show#[λb u q n _ _=>k b u (L b n) q,λb u q n _ _=>#[u.slots,k b u (L b n) q],λb u q n _=>n<*au (hx b n),λb u q _=>?_,
  λb xs q=>q<*au (G b _ q λz=>z),λb u xs q=>q<*au (G b _ q λz=>z),λb ps q=>#[([].8),by rw[au (G b _ q λz=>z),q];simp]]
 cases I:b=e
 .subst I;show Y
 .show#[u,k b u I q]
end
mutual
def Tg(h:Heap)(H:Hp):List ZX:=(YQ h.objs.3).filter λa=>(H a).10
def uS(h:Heap)(H:Hp):Heap:=hideAll h (Tg h H)
def aaH(h:Heap)(H:Hp):(uS h H).objs.3=h.objs.3:=PySem.W.hideAll_size _ _
variable{o:Obj}
def aa6(e:h.get? b^o)(n:H b=none):(uS h H).get? b=some o :=
 hideAll_get _ e λF=>by
  let q:(H b).10=true:=(YN.mp F).2;rw[n]at q;simp at q
def aaE(e:(uS h H).get? b^o):h.get? b^o/\H b=none:=by
 let F:h.get? b^o:=of_hideAll (Tg h H) e;show#[F,?_];cases q:H b with
 |none=>rfl
 |some x =>
  let G:b∈Tg h H:=YN.mpr #[Iq.mpr (gu F),by simp[q]];let z:(uS h H).get? b=none:=PySem.W.hideAll_none (Tg h H) G;rwa[z]at e
structure Mod(K:Yi)(mg:j5)(base:Heap):Prop where
 FK:K.In base
 glob:base.Ns YF mg
 blt:∃mb,base.Ns builtinsNs mb/\∀x:Str,x ≠ "__name__" -> mb x=YY x
 nolimit:base.NoLimit
structure Cx where
 prog:By
 w:L3
 K:Yi
 mg:Str->Option xr
 base:Heap
 A:Ys
 N:List Str
 s₀:ti
 H₀:Hp
 env:Env
 outer:List Env
 stack:List Env
 ex:List ZX
 fn:Str->Bool
 calm:Bool
 pn:List (ZX×Obj)
 xe:xr->ti->Prop
abbrev iL(X:Cx)(e:Expr)(es:List Expr):=(starEach (e::es) X.env=(false,eval e X.env)::starEach es X.env)
def sC(l:List Env):List ZX:=l.filterMap (·.frame)
abbrev Cx.fs(X:Cx):List ZX:=sC X.outer
def Qc(F:iM)(x:Str):Prop:=F.names.lookup x=some .local\/F.names.lookup x=some .cell\/F.names.lookup x=some .free
def Loc(F:iM)(x:Str):Prop:=F.names.lookup x=some .local\/F.names.lookup x=some .cell
def Look(env:Env)(h:Heap)(m:j5)(x:Str)(u:xr):Prop :=
 (env.kindOf x^.local/\m x^u)\/((env.kindOf x^.cell\/env.kindOf x=some .free)/\∃c,env.cells.lookup x^c/\h.IsCell c (some u))
structure Cx.Ok(X:Cx):Prop where
 mod:Mod X.K X.mg X.base
 kind:X.env.scope.kind=.function
 glob:X.env.globals=YF
 blt:X.env.builtins=builtinsNs
 above:X.s₀.heap.objs.3<=X.env.locals
 inj:∀x y c,X.env.cells.lookup x^c->X.env.cells.lookup y^c->x=y
 has:∀x,(X.env.kindOf x^.cell\/X.env.kindOf x=some .free)->∃c,X.env.cells.lookup x^c
 LS:∀x c,X.fn x->X.env.cells.lookup x^c->X.s₀.heap.objs.3<=c
 hd:X.calm->X.A.handled=none
 frames:X.A.frames^X.stack
 PB:X.stack=X.outer\/(X.stack=X.env::X.outer/\X.env.frame^X.env.locals)
 SH:∀b∈X.ex,b≠X.env.locals/\∀x c,X.env.cells.lookup x^c->c≠b
 bs:∀b o,X.base.get? b^o->X.s₀.heap.get? b^o/\X.H₀ b=none
 Dl:X.base.objs.3<=X.s₀.heap.objs.3
 zb:∀b o,X.base.get? b^o->b∉X.ex
 zi:∀b∈X.ex,b∉X.fs
 kP:X.s₀.heap.FunFrames X.base X.outer
 HM:∀b∈X.fs,X.H₀ b=none
structure Inv(X:Cx)(Cr:Jr)(σ:List (Option V))(H:Hp)(s:ti):Prop where
 ok:X.Ok
 os:s.os=X.s₀.os
 bare:ig s.gens
 base:Un X.fs X.ex X.H₀ H X.s₀.heap s.heap
 loc:∃m,s.heap.Ns X.env.locals m/\∀(i:Nat)(x:Str)(v:V),X.N[i]?^x->σ[i]?^some v->Qc X.env.scope x->∃u,zH v u/\Look X.env s.heap m x u
 cell:∀x c,X.env.cells.lookup x^c->∃v,s.heap.IsCell c v
 free:H X.env.locals=none
 iy:∀x c,X.env.cells.lookup x^c->H c=none
 pin:∀p∈X.pn++Cr,s.heap.get? p.1^p.2/\H p.1=none/\p.1≠X.env.locals/\p.1∉X.fs/\∀v,p.2.data≠.cell v
 bK:kY X.prog X.w H s.heap
 len:σ.9=X.N.9
variable{X:Cx}
def Cx.Ok.V3(ok:X.Ok)(e:X.base.get? b^o):b∉X.fs:=λF=>by
 have:=(ok.kP.mem F).1;rwa[e]at this
variable{Cr:Jr}{σ:List (Option V)}{s:ti}
theorem Inv.bs(I:!H s):∀b o,X.base.get? b^o->s.heap.get? b^o/\H b=none:=λb o e =>
 #[I.base.keep b o (I.ok.bs b o e).1 (I.ok.bs b o e).2 (I.ok.V3 e) (I.ok.zb b o e),I.base.free b o (I.ok.bs b o e).1 (I.ok.bs b o e).2 (I.ok.zb b o e)]
def Inv.bk(I:!H s):∀b o,X.base.get? b^o->s.heap.get? b^o:=λb o e=>(I.bs b o e).1
theorem Inv.mod(I:!H s):Mod X.K X.mg X.base:=I.ok.mod
def Inv.jY(I:!H s):X.K.In s.heap:=I.ok.mod.FK.keeps I.bk
theorem Inv.lt(I:!H s):X.env.locals<s.13:=let ⟨_,F,_⟩:=I.loc;F.lt
def Inv.sz(I:!H s):X.s₀.heap.objs.3<=s.13:=Oi I.ok.above (Zm I.lt)
def Inv.Sn(I:!H s)(h:s.13<=a):a∉X.fs:=λF=>by
 let#[_,o,G,_]:=I.ok.kP.mem F;show D9 (Ym (gu G) (Oi I.sz h)) (Z8 _)
def Inv.Ep(I:!H s):∀x c,X.env.cells.lookup x^c->c≠X.env.locals:=λx c e z=>by
 let#[v,o,F,hd]:=I.cell x c e;let#[m,#[o',es,ep,L,G,_],_]:=I.loc;rwa[z,L]at F;rwa[G]at hd
theorem Inv.kP(I:!H s):s.heap.FunFrames X.base X.outer:=by
 let all:∀(l:List Env),(∀b∈sC l,b∈X.fs)->X.s₀.heap.FunFrames X.base l->s.heap.FunFrames X.base l:=by
  intro l
  induction l with
  |nil=>intro _ _;trivial
  |cons env r ih =>
   intro hs Z;let#[hk,#[L,o,F,hn,Y,hd],hr]:=Z;let U:L∈X.fs:=hs L (by unfold sC;rw[uK,F];show Yn);let#[sl,e]:=I.base.slot L o Y (I.ok.HM L U) U λz=>I.ok.zi L z U;show#[hk,#[L,_,F,hn,e,hd],ih (λb G=>hs b (by unfold sC;rw[uK,F];show Yp _ G)) hr]
 show all X.outer (λ_ G=>G) I.ok.kP
theorem Inv.stack(I:!H s):s.heap.FunFrames X.base X.stack:=by
 obtain e|⟨e,F⟩:=I.ok.PB
 .rw[e];show I.kP
 .rw[e];let#[m,G,_]:=I.loc;show .cons (by rw[I.ok.kind];decide) F G ?_ I.kP;show Heap.get?_none_of_le (Oi I.ok.Dl I.ok.above)
def Inv.vD(I:!H s):∀b∈sC X.stack,b∈X.env.locals::X.fs:=λb F=>by
 obtain e|⟨e,G⟩:=I.ok.PB
 .rw[e]at F;show Yp _ F
 .rw[e]at F;unfold sC at F;rw[uK,G]at F;show F
def Inv.uj(I:!H s):∀b∈sC X.stack,H b=none:=λb F=>by
 rcases Yu.mp (I.vD b F)with e|F
 .rw[e];show I.free
 .let#[_,o,G,_]:=I.ok.kP.mem F;show I.base.free b o G (I.ok.HM b F) λz=>I.ok.zi b z F
def Inv.step{X:Cx}{Cr:Jr}{σ:List (Option V)}{H J:Hp}{s:ti}{h':Heap}{g':Array GenState}{t':Nat}{d':Drawn}{ch:JS}(I:!H s)
  (Z:∀b∈ch,(b∈X.ex\/X.s₀.heap.objs.3<=b)/\b≠X.env.locals/\(∀x c,X.env.cells.lookup x^c->c≠b)/\∀p∈X.pn++Cr,p.1≠b)
  (keep:∀b o,b≠X.env.locals->b∉X.fs->b∉ch->s.heap.get? b^o->H b=none->h'.get? b^o)
  (slot:∀b o,b≠X.env.locals->b∈X.fs->b∉ch->s.heap.get? b^o->H b=none->∃sl,h'.get? b=some { o with slots:=sl }) (free:∀b o,b∉ch->s.heap.get? b^o->H b=none->J b=none)
  (there:∀b o,b∉ch->s.heap.get? b^o->∃o',h'.get? b^o')
  (qF:∀b xs,H b|||xs->J b|||xs) (pV:∀b o u,H b^.frz o u->J b^.frz o u) (qJ:∀b ps,H b^.tbl ps->∃am,J b^.tbl (ps++am))
  (ns:∀m,s.heap.Ns X.env.locals m->h'.Ns X.env.locals m) (bK:kY X.prog X.w J h') (hg:ig g') :
 !J { s with heap:=h',gens:=g',drawn:=d',toks:=t' }:=by
 let ac:∀b o,X.s₀.heap.get? b^o->b≠X.env.locals:=λb o e=>Za (Ym (gu e) I.ok.above);let ab:∀b o,X.s₀.heap.get? b^o->b∉X.ex->b∉ch:=λb o e hx G=>by
  rcases(Z b G).1 with z|z
  .show hx z
  .show D9 (Ym (gu e) z) (Z8 _)
 let ad:∀x c,X.env.cells.lookup x^c->∀v,s.heap.IsCell c v->h'.IsCell c v:=λx c e v ap=>by
  let#[o,L,hd]:=ap;let Y:c∉ch:=λz=>(Z c z).2.2.1 x c e rfl;cases hc:c∈X.fs
  .let#[sl,q]:=slot c o (I.Ep x c e) hc Y L (I.iy x c e);show#[_,q,hd]
  .show#[o,keep c o (I.Ep x c e) hc Y L (I.iy x c e),hd]
 show#[I.ok,I.os,hg,#[λb o e n G hx=>?_,λb o e n G hx=>?_,λb o e n hx=>?_,λb o e hx=>?_,λb xs e=>qF b xs (I.base.qF b xs e),λb o xs e=>pV b o xs (I.base.pV b o xs e),λb ps e=>?_],?_,λx c e=>?_,?_,λx c e=>?_,λp hp=>?_,bK,I.len]
 .show keep b o (ac b o e) G (ab b o e hx) (I.base.keep b o e n G hx) (I.base.free b o e n hx)
 .let#[sl,F]:=I.base.slot b o e n G hx;let#[ar,U]:=slot b _ (ac b o e) G (ab b o e hx) F (I.base.free b o e n hx);show#[ar,U]
 .let#[o',F]:=I.base.there b o e hx;show free b o' (ab b o e hx) F (I.base.free b o e n hx)
 .let#[o',F]:=I.base.there b o e hx;show there b o' (ab b o e hx) F
 .let#[m1,F]:=I.base.qJ b ps e;let#[m2,U]:=qJ b _ F;show#[m1++m2,by rw[U,Array.append_assoc]]
 .let#[m,hn,hl]:=I.loc;show#[m,ns m hn,λi x v F U e3=>?_];let#[u,r,l]:=hl i x v F U e3;show#[u,r,?_];obtain l|⟨k,c,e,z⟩:=l
  .show .inl l
  .show .inr #[k,c,e,ad x c e _ z]
 .let#[v,z]:=I.cell x c e;show#[v,ad x c e v z]
 .let#[m,#[o,_,_,L,_],_]:=I.loc;show free _ o (λz=>(Z _ z).2.1 rfl) L I.free
 .let#[v,o,L,hd]:=I.cell x c e;show free c o (λz=>(Z c z).2.2.1 x c e rfl) L (I.iy x c e)
 .let#[e,n,ne,nf,d]:=I.pin p hp;let Y:p.1∉ch:=λz=>(Z p.1 z).2.2.2 p hp rfl;show#[keep p.1 p.2 ne nf Y e n,free p.1 p.2 Y e n,ne,nf,d]
variable{J:Hp}{t':Nat}
def Inv.un(I:!H s)(u:Un X.fs [] H J s.heap h')(bK:kY X.prog X.w J h'):!J { s with heap:=h',toks:=t' }:=by
 let#[m,#[o,es,ep,G,r],_]:=id I.loc;let#[sl,hL]:=u.any G I.free J0;show I.step (g':=s.gens) (d':=s.drawn) (ch:=[]) (λ_ z=>nomatch z) (λb o _ F _ e n=>u.keep b o e n F J0) (λb o _ F _ e n=>u.slot b o e n F J0) (λb o _ e n=>u.free b o e n J0) (λb o _ e=>u.there b o e J0) u.qF u.pV u.qJ (λm' Z=>by
  let#[o',Y,ab,L,U]:=Z;rwa[G]at L;show#[_,Y,ab,hL,U]) bK I.bare
variable{ch:JS}
def Inv.call{g':Array GenState}{d':Drawn}(I:!H s)(u:Un (sC X.stack) ch H J s.heap h')(bK:kY X.prog X.w J h')(hg:ig g')
  (Y:∀b∈ch,(b∈X.ex\/X.s₀.heap.objs.3<=b)/\b≠X.env.locals/\(∀x c,X.env.cells.lookup x^c->c≠b)/\∀p∈X.pn++Cr,p.1≠b) :
 !J { s with heap:=h',gens:=g',drawn:=d',toks:=t' }:=by
 let#[m,#[o,es,ep,L,r],_]:=id I.loc;let#[sl,G]:=u.any L I.free λz=>(Y _ z).2.1 rfl;show I.step (ch:=ch) Y (λb o G hb F e n=>u.keep b o e n (λz=>(Yu.mp (I.vD b z)).elim G hb) F) (λb o _ _ F e n=>u.any e n F) (λb o F e n=>u.free b o e n F) (λb o F e=>u.there b o e F) u.qF u.pV u.qJ (λm' hm=>by
  let#[o',ac,ab,U,Z]:=hm;rwa[L]at U;show#[_,ac,ab,G,Z]) bK hg
def Inv.zQ(I:!H s)(k:∀b o,b∉ch->s.heap.get? b^o->h'.get? b^o)(G:∀b∈ch,H b=none/\b≠X.env.locals/\(b∈X.ex\/X.s₀.heap.objs.3<=b)/\(∀x c,X.env.cells.lookup x^c->c≠b)/\∀p∈X.pn++Cr,p.1≠b):!H { s with heap:=h',toks:=t' }:=by
 let L:∀b u,H b^u->b∉ch:=λb u e z=>(e*>(G b z).1);show I.step (g':=s.gens) (d':=s.drawn) (ch:=ch) (λb Z=>?_) (λb o _ _ F e _=>k b o F e) (λb o _ _ F e _=>#[o.slots,k b o F e]) (λ_ _ _ _ n=>n)
  (λb o F e=>#[o,k b o F e]) (λ_ _ e=>e) (λ_ _ _ e=>e) (λb ps e=>#[([].8),by rw[e];simp]) (λm hm=>?_) (λb u e=>?_) I.bare
 .let#[_,f1,f3,f4,Y]:=G b Z;show#[f3,f1,f4,Y]
 .let#[o,es,ep,U,r]:=hm;show#[o,es,ep,k _ o (λz=>(G _ z).2.1 rfl) U,r]
 .show(I.bK b u e).iW (λc v F q=>k c v ?_ q) (λ_ q=>q) λ_ _ q=>q;obtain z|z:=F
  .rw[z];show L b u e
  .show L c _ z
variable{it:ZX}
def Inv.turned(I:!H s)(k:∀b o,b≠it->s.heap.get? b^o->h'.get? b^o)(L:H it=none)(U:it≠X.env.locals)
  (h1:it∈X.ex\/X.s₀.heap.objs.3<=it) (h2:∀x c,X.env.cells.lookup x^c->c≠it) (G:∀p∈X.pn++Cr,p.1≠it):!H { s with heap:=h',toks:=t' }:=
 I.zQ (ch:=[it]) (λb o F e=>k b o (λz=>F (z4.mpr z)) e) λb F=>by cases z4.mp F;show#[L,U,h1,h2,G]
def Inv.tok(I:!H s)(t:Nat):!H { s with toks:=t }:=I.un (h':=s.heap) (t':=t) Un.refl I.bK
theorem Inv.kept(I:!H s)(k:∀b u,s.heap.get? b^u->h'.get? b^u):!H { s with heap:=h',toks:=t' }:=I.un (Un.kept k) (I.bK.kept k)
variable{o:HO}
theorem Inv.laid(I:!H s)(k:∀b u,s.heap.get? b^u->h'.get? b^u)(F:s.13<=a)(G:cz X.prog X.w (QZ H a o) h' a o) :
 !(QZ H a o) { s with heap:=h',toks:=t' }:=I.un (Un.laid k F (I.bK.fresh F)) (I.bK.laid k F G)
theorem Inv.write(I:!H s)(G:Q0 (H x))(L:e=x\/H e=some (.own x))(k:∀b u,b≠e->s.heap.get? b^u->h'.get? b^u)(F:∃u,h'.get? e^u)
  (U:cz X.prog X.w (QZ H x o) h' x o):!(QZ H x o) { s with heap:=h',toks:=t' }:=I.un (Un.write G L k F) (I.bK.write G L k F U)
def Inv.p7{F:Jr}(I:!H s)(h:∀p∈F,s.heap.get? p.1^p.2/\H p.1=none/\p.1≠X.env.locals/\p.1∉X.fs/\∀v,p.2.data≠.cell v):Inv X F σ H s :=
 #[46,I.base,I.loc,I.cell,I.free,I.iy,λp G=>(Yh.mp G).elim (λz=>I.pin p (YC _ z)) (h p),I.bK,I.len]
variable{N:gq}{x:Str}
def qL(G:N.4){j:Nat}(a:N[i]?^x)(b:N[j]?^x):i=j:=by
 let#[h1,F]:=wh.mp a;let#[h2,I]:=wh.mp b;show(Sf G).mp (F.trans I.6)
variable{M:Qz}{A:Ys}{E:gJ}{v:V}{u:xr}{Q:Unit->ti->Prop}
def tR(I:!H s)(hN:X.N.4)(hi:X.N[i]?^x)(hx:Loc X.env.scope x)(r:zH v u)
  (h:∀s',Inv X Cr (σ.set i (some v)) H s'->(∃a,Heap.SameBut a s.heap s'.heap/\(a=X.env.locals\/X.env.cells.lookup x=some a))->Q () s') (hf:%[X.fn x\/X.env.scope.names.lookup x=some .local|0]):wpAny M A (storeName X.env x u) Q E s:=by
 let#[m,hn,hl]:=id I.loc;let aK:(X.env.scope.kind == .class||(X.env.scope.kind == .module&&X.env.locals != X.env.globals))=false:=(by rw[I.ok.kind];rfl);let ar:i<σ.9:=((wh.mp hi).1<*I.len);let Ep:=I.Ep;let as:∀{a:ZX}{h':Heap},(∃o,s.heap.get? a^o/\H a=none)->Heap.SameBut a s.heap h'->kY X.prog X.w H h':=λ{a h'} ha hs b ob e=>by
  let#[_,_,ad]:=ha;show(I.bK b ob e).iW (λc Z G q=>(hs.2 c ?_).trans q) (λ_ q=>q) λ_ _ q=>q;rintro rfl;obtain rfl|G:=G
  .rw[ad]at e;cases e
  .rw[ad]at G;cases G
 obtain hk|hk:=hx
 .show wpAny_storeName_local hk hn (λh' aB hs=>?_) aK;let#[oL,_,_,aN,_]:=id hn;show h _ #[46,#[λb o e n U hx=>?_,λb o e n U hx=>?_,128],#[_,aB,λj y v' F L e3=>?_],λy c e=>?_,I.free,I.iy,λp hp=>?_,as #[oL,aN,I.free] hs,by simpa using I.len] #[_,hs,.inl rfl]
  .show(hs.2 b (Za (Ym (gu e) I.ok.above))).trans (I.base.keep b o e n U hx)
  .let#[sl,F]:=I.base.slot b o e n U hx;show#[sl,(hs.2 b (Za (Ym (gu e) I.ok.above))).trans F]
  .let#[o',F]:=I.base.there b o e hx;show#[o',(hs.2 b (Za (Ym (gu e) I.ok.above))).trans F]
  .cases Y:j=i
   .subst Y;rwa[hi]at F;rwa[Zq ar]at L;show#[u,r,.inl #[hk,by simp]]
   .rw[YS (oR Y)]at L;let#[u',r',q]:=hl j y v' F L e3;show#[u',r',?_];rcases q with⟨k,e⟩|⟨k,c,e,z⟩
    .show .inl #[k,?_];have:y≠x:=λe=>Y (qL hN F (e▸hi));simp[this,e]
    .show .inr #[k,c,e,55]
  .let#[Z,z]:=I.cell y c e;show#[Z,55]
  .let#[e,n,ne,nf,d]:=I.pin p hp;show#[(hs.2 p.1 ne).trans e,n,ne,nf,d]
 .let ab:X.fn x:=by
   obtain z|z:=hf
   .show z
   .rw[z]at hk;cases hk
  let#[c,G]:=I.ok.has x (.inl hk);let#[Z,z]:=I.cell x c G;show wpAny_storeName_cell I.ok.kind hk G z (λh' ap hs=>?_);let#[oc,ac,ay]:=id z;show h { s with heap:=h' } #[46,#[λb o e n U hx=>?_,λb o e n U hx=>?_,128],#[m,hn.sameBut hs (oR (Ep x c G)),λj y v' F L e3=>?_],λy c' e=>?_,I.free,I.iy,λp hp=>?_,as #[oc,ac,I.iy x c G] hs,by simpa using I.len] #[c,hs,.inr G]
  .show(hs.2 b (Za (Ym (gu e) (I.ok.LS x c ab G)))).trans (I.base.keep b o e n U hx)
  .let#[sl,F]:=I.base.slot b o e n U hx;show#[sl,(hs.2 b (Za (Ym (gu e) (I.ok.LS x c ab G)))).trans F]
  .let#[o',F]:=I.base.there b o e hx;show#[o',(hs.2 b (Za (Ym (gu e) (I.ok.LS x c ab G)))).trans F]
  .cases Y:j=i
   .subst Y;rwa[hi]at F;rwa[Zq ar]at L;show#[u,r,.inr #[.inl hk,c,G,ap]]
   .rw[YS (oR Y)]at L;let#[u',r',q]:=hl j y v' F L e3;show#[u',r',?_];obtain q|⟨k,c',e,z'⟩:=q
    .show .inl q
    .show .inr #[k,c',e,z'.sameBut hs ?_];rintro rfl;show Y (qL hN F (I.ok.inj _ _ _ e G▸hi))
  .cases am:c'=c
   .subst am;show#[_,ap]
   .let#[w2,z2]:=I.cell y c' e;show#[w2,z2.sameBut hs am]
  .let#[e,n,ne,nf,d]:=I.pin p hp;show#[(hs.2 p.1 ?_).trans e,n,ne,nf,d];intro q;rw[q,ac]at e;let q':oc=p.2:=OR e;show d Z (by rw[<-q'];show ay)
def mP(I:!H s)(L:X.N.4)(hi:X.N[i]?^x)(hx:Loc X.env.scope x)(r:zH v u)
  (h:∀s',Inv X Cr (σ.set i (some v)) H s'->Q () s') (F:%[X.fn x\/X.env.scope.names.lookup x=some .local|0]):wpAny M A (storeName X.env x u) Q E s :=
 tR I L hi hx r (λs' G _=>h s' G) F
variable{s':ti}
def Inv.EG(I:!H s)(F:s'.os=s.os)(u:Un (sC X.stack) ch H J s.heap s'.heap)(U:kY X.prog X.w J s'.heap)(G:ig s'.gens)
  (L:∀b∈ch,(b∈X.ex\/X.s₀.heap.objs.3<=b)/\b≠X.env.locals/\(∀x c,X.env.cells.lookup x^c->c≠b)/\∀p∈X.pn++Cr,p.1≠b):!J s':=by
 let#[h',g',d',t',o']:=s';let e:o'=s.os:=F;subst e;show I.call (g':=g') (t':=t') (d':=d') u U G L
abbrev XK:=xr->Option ZX->Hp->Prop
abbrev St:=List (Option V)
abbrev VK:=V->Hp->Prop
abbrev TE:=St->Hp->VK->Prop
abbrev TT:=St->Hp->(Bool->Hp->Prop)->Prop
abbrev TA:=St->Hp->(List V->Hp->Prop)->Prop
structure Ends where
 nx:St->Hp->Prop
 rt:VK
 bk:St->Hp->Prop:=λ_ _=>False
 ct:St->Hp->Prop:=λ_ _=>False
abbrev TS:=Ends->St->Hp->Prop
def EP(X:Cx)(Cr:Jr)(σ:St)(Q:VK)(u:xr)(s':ti):=∃v J,!J s'/\zH v u/\Q v J
def TP(X:Cx)(Cr:Jr)(σ:St)(Q:Bool->Hp->Prop)(b:Bool)(s':ti):=∃J,!J s'/\Q b J
def AP(X:Cx)(Cr:Jr)(σ:St)(Q:List V->Hp->Prop)(us:WX)(s':ti):=∃vs J,!J s'/\Si vs us/\Q vs J
def SP(X:Cx)(Cr:Jr)(D:Ends)(f:Flow)(s':ti):Prop :=
 match f with
 |.next=>∃F J,Inv X Cr F J s'/\D.nx F J
 |.brk=>∃F J,Inv X Cr F J s'/\D.bk F J
 |.cont=>∃F J,Inv X Cr F J s'/\D.ct F J
 |.ret u=>∃v F J,Inv X Cr F J s'/\zH v u/\D.rt v J
def PE(X:Cx)(e:YD)(t:TE):=
 ∀(Cr:Jr)(s:ti)(σ:St)(H:Hp)(Q:VK),!H s->t σ H Q->↑(eval e X.env) (EP X Cr σ Q) X.xe s
def PT(X:Cx)(e:YD)(t:TT):=
 ∀(Cr:Jr)(s:ti)(σ:St)(H:Hp)(Q:Bool->Hp->Prop),!H s->t σ H Q->↑(isTrue e X.env (eval e X.env)) (TP X Cr σ Q) X.xe s
def PW(X:Cx)(e:YD)(t:TT):=
 ∀(F:Sem xr)(Cr:Jr)(s:ti)(σ:St)(H:Hp)(Q:Bool->Hp->Prop),!H s->t σ H Q->↑(isTrue e X.env F) (TP X Cr σ Q) X.xe s
variable{e:YD}
def PW.pt{t:TT}(h:PW X e t):PT X e t:=h _
def PA(X:Cx)(es:fK)(t:TA):=
 ∀(Yb:Pos)(Cr:Jr)(s:ti)(σ:St)(H:Hp)(Q:List V->Hp->Prop),!H s->t σ H Q->↑(pS (backTo Yb es.15)) (AP X Cr σ Q) X.xe s
def PS(X:Cx)(st:Yv)(t:TS):=
 ∀(Cr:Jr)(s:ti)(σ:St)(H:Hp)(D:Ends),!H s->t D σ H->↑(exec st X.env) (SP X Cr D) X.xe s
def t9(X:Cx)(st:List Yv)(t:TS):=
 ∀(Cr:Jr)(s:ti)(σ:St)(H:Hp)(D:Ends),!H s->t D σ H->↑(execs st X.env) (SP X Cr D) X.xe s
def b9{α:Type}{t:Sem α}{Q F:α->ti->Prop}(h:wpAny M A t Q E s)(G:∀a s,Q a s->F a s):wpAny M A t F E s:=YK h G λ_ _ x=>x
inductive xV(i:Nat)(σ:St)(H:Hp)(Q:VK):Prop
 |mk(v:_)(_:σ[i]?^some v)(_:Q v H)
def tC(v:V):TE:=λ_ H Q=>Q v H
variable{Yb:Pos}
def aa3(U:X.N[i]?^x)(hv:Qc X.env.scope x)(hd:%[x.14|0])(ab:%[(x==("__classdict__" : Str))=false|0]):PE X (.Name x Yb) (xV i):=by
 intros Q I h;let#[v,e,h]:=h;let#[m,Y,L]:=I.loc;let#[u,r,l]:=L i x v U e hv;let fin:EP X Cr σ Q u s:=#[v,H,I,r,h];rcases l with⟨hk,Z⟩|⟨hk,c,F,G⟩
 .show wpAny_Name (wpAny_loadName_local I.ok.kind hk Y Z fin) hd
 .rcases hk with hk|hk
  .show wpAny_Name (wpAny_loadName_cell I.ok.kind hk F G fin) hd
  .show wpAny_Name (wpAny_loadName_free I.ok.kind hk F G fin ab) hd
def ai{i j Yb}:PE X (.Constant (.int i) j Yb) (tC (.int i)):=λ_ _ _ H _ I h=>wpAny_Constant_int #[.int i,69,#[0],h]
def jq{b j Yb}:PE X (.Constant (.bool b) j Yb) (tC (.bl b)):=λ_ _ _ H _ I h=>Constant_bool #[.bl b,H,I,rfl,h]
def cS{j Yb}:PE X (.Constant .none j Yb) (tC .bu):=λ_ _ _ H _ I h=>Constant_none #[.bu,H,I,rfl,h]
def aE{x j Yb}:PE X (.Constant (.str x) j Yb) (tC (.str x)):=λ_ _ _ H _ I h=>Calls.Constant_str #[.str x,69,#[0],h]
def Gl(X:Cx)(x:Str):Prop:=X.env.kindOf x=some .globalImplicit
variable{σ:St}{Q:gJ}
def i9(I:!H s)(G:Gl X x)(F:X.mg x^u)(h:Q u s)
  (hd:%[x.14|0]):↑(eval (.Name x Yb) X.env) Q E s :=
 Calls.Name_function_global I.ok.kind G (Calls.loadGlobal_global (I.mod.glob.keeps I.bk<*I.ok.glob) F h) hd
def kh(I:!H s)(F:Gl X x)(L:X.mg x=none)(U:YY x^u)(h:Q u s)
  (G:x ≠ "__name__" := by decide) (hd:%[x.14|0]):↑(eval (.Name x Yb) X.env) Q E s:=by
 let#[Y,h1,h2]:=I.mod.blt;show Calls.Name_function_global I.ok.kind F (Calls.loadGlobal_builtin (I.mod.glob.keeps I.bk<*I.ok.glob) L (h1.keeps I.bk<*I.ok.blt) ((h2 x G).trans U) h) hd
def i5(G:Gl X x)(F:X.mg x^u)(r:zH v u)(hd:%[x.14|0]):PE X (.Name x Yb) (tC v):=
 λ_ _ _ H _ I h=>i9 I G F #[v,H,I,r,h] hd
def gv(L:Gl X x)(F:X.mg x=none)(G:YY x^u)(r:zH v u)(U:x ≠ "__name__" := by decide)(hd:%[x.14|0]):PE X (.Name x Yb) (tC v):=
 λ_ _ _ H _ I h=>kh I L F G #[v,H,I,r,h] U hd
def PC(X:Cx)(F:CmpOp)(a b:YD)(t:TE):=
 ∀(Cr:Jr)(s:ti)(σ:St)(H:Hp)(Q:VK),!H s->t σ H Q ->
  ↑(eval a X.env) (λv I=>↑(eval b X.env) (λu G=>↑(Zp F v u) (EP X Cr σ Q) X.xe G) X.xe I) X.xe s
inductive ab6(t:TE)(Q:Bool->Hp->Prop)(x:V)(H1:Hp):Prop
 |mk(c:_)(_:x=.bl c)(_:Q c H1)
def tB(t:TE):TT:=λσ H Q=>t σ H λx H1=>ab6 t Q x H1
variable{a b:YD}{t:TE}
def aaz{F:CmpOp}(h:PC X F a b t)(h1:yC F b=false:=by first|show nobehind _ az az|rfl):PT X (.Compare a [F] [b] Yb) (tB t):=by
 intros Q I G;show adq (b9 (h Cr s σ H _ I G) λv s1 h1=>b9 h1 λu s2 h2=>b9 h2 λc s3 Z=>?_) h1;let#[x,H1,U,L,Y]:=Z;let#[d,rfl,q]:=Y;cases L;show ZQ #[H1,U,q]
def aaJ(h:PE X e t)(Y:%[∀F,isTrue e X.env F=(do let v <-F;X6 e.pos;y7 [v] (truthy v))|0]):PT X e (tB t):=by
 intros Q I G;show isTrue_plain (b9 (h Cr s σ H _ I G) λv s1 Z=>?_) (Y _);let#[x,H1,U,L,q1]:=Z;let#[d,rfl,q]:=q1;cases L;show ZQ #[H1,U,q]
def ack(t u:TT):TT:=λσ H Q=>t σ H λc H1=>if c then u σ H1 Q else Q false H1
def adj(t u:TT):TT:=λσ H Q=>t σ H λc H1=>if c then Q true H1 else u σ H1 Q
def aem(t:TT):TT:=λσ H Q=>t σ H λc H1=>Q (!c) H1
variable{tA:TT}
def acI(F:PT X a tA):PW X (.BoolOp .And [a] Yb) tA:=by
 intro G Cr s σ H Q I h;show isTrue_and (b9 (F Cr s σ H Q I h) λc L e=>?_);cases c with
 |true=>show isTrue_and_nil e
 |false=>show e
def abt(F:PT X a tA):PW X (.BoolOp .Or [a] Yb) tA:=by
 intro G Cr s σ H Q I h;show isTrue_or (b9 (F Cr s σ H Q I h) λc L e=>?_);cases c with
 |false=>show isTrue_or_nil e
 |true=>show e
variable{uN:TT}{rest:fK}
def abB(Z:PT X a tA)(Y:PW X (.BoolOp .And (b::rest) Yb) uN):PW X (.BoolOp .And (a::b::rest) Yb) (ack tA uN):=by
 intro L Cr s σ H Q I h;show isTrue_and (b9 (Z Cr s σ H _ I h) λc U ab=>?_);let#[H1,F,G]:=ab;cases c with
 |true=>show Y L Cr U σ H1 Q F G
 |false=>show#[H1,F,G]
def abp(ha:PT X a tA)(Z:PW X (.BoolOp .Or (b::rest) Yb) uN):PW X (.BoolOp .Or (a::b::rest) Yb) (adj tA uN):=by
 intro U Cr s σ H Q I h;show isTrue_or (b9 (ha Cr s σ H _ I h) λc Y L=>?_);let#[H1,F,G]:=L;cases c with
 |true=>show#[H1,F,G]
 |false=>show Z U Cr Y σ H1 Q F G
def bs'(F:PT X a tA):PT X (.UnaryOp .Not a Yb) (aem tA):=by
 intros Q I h;show isTrue_not (F Cr s σ H (λc H1=>Q (!c) H1) I h)
inductive aeq(ta tb:TE)(σ:St)(Q:VK)(x:V)(H1:Hp):Prop
 |mk(c:_)(_:x=.bl c)(_:if c then tb σ H1 Q else Q (.bl false) H1)
def aai(ta tb:TE):TE:=λσ H Q=>ta σ H λx H1=>aeq ta tb σ Q x H1
inductive aat(ta:TE)(Q:VK)(x:V)(H1:Hp):Prop
 |mk(c:_)(_:x=.bl c)(_:Q (.bl (!c)) H1)
def aaG(ta:TE):TE:=λσ H Q=>ta σ H λx H1=>aat ta Q x H1
def zA5{op}(h:PE X a t):PE X (.BoolOp op [a] Yb) t:=λCr s σ H Q I F=>BoolOp_one (h Cr s σ H Q I F)
variable{ta tb:TE}
def qAi(ha:PE X a ta)(Y:PE X (.BoolOp .And (b::rest) Yb) tb):PE X (.BoolOp .And (a::b::rest) Yb) (aai ta tb):=by
 intros Q I h;show BoolOp_and (b9 (ha Cr s σ H _ I h) λv U Z=>?_);let#[x,H1,G,L,F]:=Z;let#[c,rfl,F]:=F;cases L;show ZQ ?_;cases c with
 |true=>show Y Cr U σ H1 Q G F
 |false=>show#[.bl false,H1,G,rfl,F]
def adg(Y:PE X a ta):PE X (.UnaryOp .Not a Yb) (aaG ta):=by
 intros Q I h;show UnaryOp_ (b9 (Y Cr s σ H _ I h) λv Z U=>?_);let#[x,H1,L,G,F]:=U;let#[c,rfl,F]:=F;cases G;show not_of (ZQ #[.bl (!c),H1,L,rfl,F])
def aa5(t:TT)(ta tb:TE):TE:=λσ H Q=>t σ H λc H1=>if c then ta σ H1 Q else tb σ H1 Q
variable{c:YD}
def qAj(hc:PT X c tA)(Z:PE X a ta)(Y:PE X b tb):PE X (.IfExp c a b Yb) (aa5 tA ta tb):=by
 intros Q I h;show wpAny_IfExp (b9 (hc Cr s σ H _ I h) λd F U=>?_);let#[H1,G,L]:=U;cases d with
 |true=>show Z Cr F σ H1 Q G L
 |false=>show Y Cr F σ H1 Q G L
def bh(K:Yi)(H:Hp)(a:ZX)(xs:vl):Prop :=
 Rd H a (.lst xs) \/
  ∃(o:Obj)(XO:p9)(n:Nat),K.lookup a^o/\o.cls=.type "list" /\ o.dict=none/\o.data=.seq XO n/\XO.3<=yr/\Si xs XO.7
def eM(K:Yi)(H:Hp)(a:ZX)(xs:vl):Prop :=
 Rd H a (.tup xs) \/
  ∃(o:Obj)(XO:p9)(n:Nat),K.lookup a^o/\o.cls=.type "tuple" /\ o.data=.seq XO n/\XO.3<=yr/\Si xs XO.7
noncomputable def aae:xr->Option V
 |.none=>some .bu
 |.bool b=>some (.bl b)
 |.int i _=>some (.int i)
 |.str x _=>some (.str x)
 |.bytes b _=>some (.byt b)
 |.float b _=>some (.flt b)
 |.ref a=>some (.ref a)
 |.type n=>some (.ty n)
 |_=>none
variable{x:V}
def zH.abs(r:zH x u):aae u^x:=by
 cases x with
 |bu=>cases r;rfl
 |bl _=>cases r;rfl
 |int _=>let#[t,rfl]:=r;rfl
 |str _=>let#[t,rfl]:=r;rfl
 |byt _=>let#[t,rfl]:=r;rfl
 |flt _=>let#[t,rfl]:=r;rfl
 |ref _=>cases r;rfl
 |ty _=>cases r;rfl
variable{y:V}
def zH.inj(r:zH x u)(q:zH y u):x=y:=OR (r.abs.symm.trans q.abs)
theorem Si.inj(h:Si xs us)(g:Si ys us):xs=ys:=by
 induction h generalizing ys with
 |nil=>cases g;rfl
 |cons r _ F=>cases g with|cons q t=>rw[r.inj q,F t]
variable{a:ZX}{K:Yi}
def bh.of(h:H a%xs):bh K H a xs:=.inl (.inl h)
def eM.of(h:H a|||xs):eM K H a xs:=.inl (.inl h)
theorem Inv.list(I:!H s)(h:bh X.K H a xs):∃XO:List xr,Si xs XO/\PlainL s.heap a XO.8/\xs.9<=yr:=by
 obtain h|⟨o,XO,n,hk,F,hd,hs,G,r⟩:=h
 .let#[z,XO,n,r,e]:=h.ok I.bK;show#[XO,r,#[_,n,e,1,rfl],z]
 .show#[XO.7,r,#[o,n,I.jY a o hk,F,hd,by simpa using hs],?_];let e:=r.9;simp only[Yx]at e;lia
theorem Inv.tuple(I:!H s)(h:eM X.K H a xs):∃XO:List xr,Si xs XO/\IsTup s.heap a XO.8/\xs.9<=yr:=by
 obtain h|⟨o,XO,n,hk,F,hs,G,r⟩:=h
 .let#[z,XO,r,p]:=h.ok I.bK;show#[XO,r,p,z]
 .show#[XO.7,r,#[o,I.jY a o hk,F,n,by simpa using hs],?_];let e:=r.9;simp only[Yx]at e;lia
def Inv.sg(I:!H s)(h:bh X.K H a xs)(h':bh X.K H a ys):xs=ys:=by
 let#[XO,r,#[o,n,e,_,_,d],_]:=I.list h;let#[its',G,#[o',U,F,_,_,d'],_]:=I.list h';rwa[e]at F;rw[d]at d';injection d' with L _;have:XO=its':=‹Ur toList L›;subst this;show r.inj G
def Inv.BM(I:!H s)(h:eM X.K H a xs)(h':eM X.K H a ys):xs=ys:=by
 let#[XO,r,#[o,e,_,n,d],_]:=I.tuple h;let#[its',G,#[o',F,_,U,d'],_]:=I.tuple h';rwa[e]at F;rw[d]at d';injection d' with L _;have:XO=its':=‹Ur toList L›;subst this;show r.inj G
noncomputable abbrev Cx.iw(X:Cx)(E:gJ):Cx:={ X with xe:=E }
noncomputable abbrev Cx.kR(X:Cx):Cx:=X.iw λ_ _=>False
theorem Cx.Ok.iw(ok:X.Ok)(E:gJ):(X.iw E).Ok :=
 #[29,ok.hd,30]
def Cx.Ok.bZ(ok:(X.iw E).Ok):X.Ok :=
 #[29,ok.hd,30]
theorem Inv.iw(I:!H s)(E:gJ):Inv (X.iw E) Cr σ H s:=#[I.ok.iw E,16]
theorem Inv.bZ(I:Inv (X.iw E) Cr σ H s):!H s:=#[I.ok.bZ,16]
variable{D:Ends}
theorem SP.bZ{f:Flow}(h:SP (X.iw E) Cr D f s'):SP X Cr D f s':=by
 cases f with
 |next=>let#[F,J,I,q]:=h;show#[F,J,I.bZ,q]
 |brk=>let#[F,J,I,q]:=h;show#[F,J,I.bZ,q]
 |cont=>let#[F,J,I,q]:=h;show#[F,J,I.bZ,q]
 |ret u=>let#[v,F,J,I,r,q]:=h;show#[v,F,J,I.bZ,r,q]
variable{t:TS}
theorem t9.kR{st:List Yv}(h:t9 X.kR st t):t9 X st t:=λCr s σ H D I F =>
 YK (h Cr s σ H D (I.iw _) F) (λ_ _ q=>q.bZ) λ_ _ z=>Zc z
def Ap:TS:=λD σ H=>D.nx σ H
def kJ(t u:TS):TS:=λD σ H=>t { D with nx:=u D } σ H
def bp:t9 X [] Ap:=λ_ _ σ H _ I h=>ZE #[σ,H,I,h]
variable{st:Yv}{u:TS}
def av{rest:List Yv}(h1:PS X st t)(h2:t9 X rest u):t9 X (st::rest) (kJ t u):=by
 intros D I h;show CT (b9 (h1 Cr s σ H { D with nx:=u D } I h) λf F q=>?_);cases f with
 |next =>
  let#[G,J,L,q]:=q;show h2 Cr F G J D L q
 |ret v=>show q
 |brk=>show q
 |cont=>show q
def aw(h1:PS X st t):t9 X [st] t:=by
 intros D I h;show CT (b9 (h1 Cr s σ H D I h) λf F q=>?_);cases f with
 |next=>show ZE q
 |ret v=>show q
 |brk=>show q
 |cont=>show q
def st':PS X (.Pass Yb) Ap:=λ_ _ σ H _ I h=>wpAny_Pass #[σ,H,I,h]
def Inv.quiet(I:!H s):interactive X.env=false:=by simp[interactive,I.ok.kind]
def Lz(te:TE):TS:=λD σ H=>te σ H λ_ H1=>D.nx σ H1
variable{te:TE}
def a9(F:PE X e te)(hs:%[CC e none Yb.line X.env=pure false|0]):PS X (.Expr e Yb) (Lz te):=by
 intros D I h;show wpAny_Expr_any (b9 (F Cr s σ H _ I h) λv Z U=>by let#[x,H1,L,Y,G]:=U;show#[σ,H1,L,G]) I.quiet hs
def Ri(te:TE):TS:=λD σ H=>te σ H D.rt
def aM(F:PE X e te):PS X (.Return (some e) Yb) (Ri te):=by
 intros D I h;show wpAny_Return_some (b9 (F Cr s σ H _ I h) λv Z U=>by let#[x,H1,Y,G,L]:=U;show#[x,σ,H1,Y,G,L])
def Kw(c:TT)(t u:TS):TS:=λD σ H=>c σ H λb H1=>if b then t D σ H1 else u D σ H1
variable{tc:TT}
def cf{a b:List Yv}(hc:PT X c tc)(Z:t9 X a t)(Y:t9 X b u):PS X (.If c a b Yb) (Kw tc t u):=by
 intros D I h;show wpAny_If (b9 (hc Cr s σ H _ I h) λd F U=>?_);let#[H1,G,L]:=U;cases d with
 |true=>show Z Cr F σ H1 D G L
 |false=>show Y Cr F σ H1 D G L
abbrev TG:=V->St->Hp->(St->Hp->Prop)->Prop
abbrev Pp:=List V->St->Hp->(St->Hp->Prop)->Prop
def PG(X:Cx)(G:YD)(t:TG):=
 ∀(Cr:Jr)(s:ti)(σ:St)(H:Hp)(v:V)(u:xr)(Q:St->Hp->Prop),!H s->zH v u->t v σ H Q ->
  ↑(He G X.env u) (λ_ s'=>∃F J,Inv X Cr F J s'/\Q F J) X.xe s
def SQ(X:Cx)(ts:fK)(t:Pp):=
 ∀(Cr:Jr)(s:ti)(σ:St)(H:Hp)(vs:vl)(us:WX)(Q:St->Hp->Prop),!H s->Si vs us->t vs σ H Q ->
  ↑(assignInOrder ((QN ts X.env).map (·.2)) us) (λ_ s'=>∃F J,Inv X Cr F J s'/\Q F J) X.xe s
abbrev Oa:=V->V->V->Hp->(Hp->Prop)->Prop
def RP(X:Cx)(t:Oa):=
 ∀(Cr:Jr)(s:ti)(σ:St)(H:Hp)(o i v:V)(ov F u:xr)(Q:Hp->Prop),!H s->zH o ov->zH i F->zH v u->t o i v H Q ->
  ↑(setItem ov F u) (λ_ s'=>∃J,!J s'/\Q J) X.xe s
def iZ(i:Nat):TG:=λv σ H Q=>Q (σ.set i (some v)) H
variable{x:Str}
def qz(L:X.N.4)(hi:X.N[i]?^x)(hx:Loc X.env.scope x)(F:%[X.fn x\/X.env.scope.names.lookup x=some .local|0]):PG X (.Name x Yb) (iZ i):=by
 intros v u Q I r h;show wpAny_assign_Name (mP I L hi hx r (λs' G=>#[_,H,G,h]) F)
def H''(i:Nat)(G:X.N.4)(hi:%[X.N[i]?^x|0])(hx:%[Loc X.env.scope x|0])(F:%[X.fn x=true\/X.env.scope.names.lookup x=some .local|0]):PG X (.Name x Yb) (iZ i):=qz G hi hx F
def QS:Pp:=λvs σ H Q=>vs=[]/\Q σ H
inductive AD(t:TG)(u:Pp)(vs:vl)(σ:St)(H:Hp)(Q:St->Hp->Prop):Prop
 |mk (v r:_) (_:vs=v::r) (_:t v σ H λσ' J=>u r σ' J Q):AD t u vs σ H Q
def qq:SQ X [] QS:=by
 intros vs us Q I r h;let#[e,h]:=h;subst e;cases r;show assignInOrder_nil #[σ,H,I,h]
variable{es:fK}
def ik{t:TG}{u:Pp}(h1:PG X e t)(h2:SQ X es u)
  (hs:%[(QN (e::es) X.env).map (·.2)=He e X.env::(QN es X.env).map (·.2)|0]):SQ X (e::es) (AD t u):=by
 intros vs us Q I r h;let#[v,afJ,U,h]:=h;subst U;cases r with
 |cons r Z =>
  rw[hs];show assignInOrder_cons (b9 (h1 Cr s σ H _ _ _ I r h) λ_ G ab=>?_);let#[F,H1,L,Y]:=ab;show h2 Cr G F H1 _ _ Q L Z Y
inductive Om(K:Yi)(n:Nat)(t:Pp)(v:V)(σ:St)(H:Hp)(Q:St->Hp->Prop):Prop
 |mk(a xs:_)(_:v=.ref a)(_:eM K H a xs)(_:xs.9=n)(_:t xs σ H Q)
def vq{k:Nat}{t:Pp}{n:Nat}(hc:X.calm)(h:SQ X es t)
  (Z:%[(QN es X.env).9=n|0]) (ab:%[(QN es X.env).findIdx? (·.1)=none|0]):PG X (.Tuple es k Yb) (Om X.K n t):=by
 intros v u Q I r F;let#[a,xs,e1,hq,L,F]:=F;subst e1;cases r;let#[XO,G,U,hz]:=I.tuple hq;show assign_Tuple_tuple (I.ok.hd hc) U (by simp[Z, <-L,G.9]) ab λh' hx=>?_;let Y:!H { s with heap:=h' }:=I.kept (t':=s.toks) λb o e=>hx b o (Za (gu e)) e;show h Cr _ σ H xs _ Q Y ‹G› F
def ws'(to F:TE)(t:Oa):TG:=λv σ H Q=>to σ H λo H1=>F σ H1 λi H2=>t o i v H2 λG=>Q σ G
variable{to:TE}
def aaf{o i:YD}{G:TE}{t:Oa}(ho:PE X o to)(hi:PE X i G)(hs:RP X t)
  (ha:∀v,He (.Subscript o i Yb) X.env v=(do
   let ov <-y7 [v] (eval o X.env)
   let F <-y7 [v,ov] (eval i X.env)
   X6 Yb
   y7 [v,ov,F] (setItem ov F v)
   release [v,ov,F] []):=by intro _;rfl):PG X (.Subscript o i Yb) (ws' to G t):=by
 intros v u Q I r h;rw[ha];show yl (ZW (b9 (ho Cr s σ H _ I h) λov s1 Z=>?_));let#[x,H1,Y,U,q1]:=Z;show yl (ZW (b9 (hi Cr s1 σ H1 _ Y q1) λF s2 ab=>?_));let#[y,H2,I2,r2,q2]:=ab;show yl (Dy (yl (ZW (b9 (hs Cr s2 σ H2 x y v ov F u _ I2 U r2 r q2) λ_ s3 L=>?_))));let#[H3,I3,q3]:=L;show wpAny_release #[σ,H3,I3,q3]
def BX(te:TE)(g:TG):TS:=λD σ H=>te σ H λx H1=>g x σ H1 D.nx
variable{tg:YD}{g:TG}
def abf(he:PE X e te)(Y:PG X tg g)(hs:%[swapsWithSole [tg] e Yb.line X.env=pure false|0])(F:%[swappedStores [tg] e X.env=pure none|0])
  (h1:%[(QN [tg] X.env).map (·.2)=[He tg X.env]|0]):PS X (.Assign [tg] e Yb) (BX te g):=by
 intros D I h;show wpAny_Assign_stores (b9 (he Cr s σ H _ I h) λv L U=>?_) hs F;let#[x,H1,Z,G,q1]:=U;rw[h1];show b9 (Y Cr L σ H1 x v _ Z G q1) λ_ s2 q=>q
variable{pos':Pos}
def G7(Y:X.N.4)(hi:X.N[i]?^x)(hx:Loc X.env.scope x)(Z:PE X e te)(hs:%[CC e (some (.Name x pos')) Yb.line X.env=pure false|0])(F:%[X.fn x\/X.env.scope.names.lookup x=some .local|0]) :
  PS X (.Assign [.Name x pos'] e Yb) (BX te (iZ i)):=by
 intros D I h;show wpAny_Assign_Name (b9 (Z Cr s σ H _ I h) λv s1 L=>?_) hs;let#[y,H1,U,G,q1]:=L;show mP U Y hi hx G (λs2 I2=>#[_,H1,I2,q1]) F
def dj(i:Nat)(I:X.N.4)(G:PE X e te)(hi:%[X.N[i]?^x|0])(hx:%[Loc X.env.scope x|0])(hs:%[CC e (some (.Name x pos')) Yb.line X.env=pure false|0])(F:%[X.fn x=true\/X.env.scope.names.lookup x=some .local|0]):PS X (.Assign [.Name x pos'] e Yb) (BX te (iZ i)):=G7 I hi hx G hs F
def aan(c:TT)(tb:TS):TS:=λD σ H=>∃W:Nat->St->Hp->Prop,(∃m,W m σ H)/\∀m σ H,W m σ H ->
 c σ H λb H1=>if b then ∃N:St->Hp->Prop,(∀F J,N F J->∃m',m'<m/\W m' F J)/\tb { D with nx:=N,ct:=N,bk:=D.nx } σ H1 else D.nx σ H1
variable{body:List Yv}{tb:TS}
def aa9(hp:I9 X.16 X.A X.env X.xe)(hc:PT X c tc)(hb:t9 X body tb):PS X (.While c body [] Yb) (aan tc tb):=by
 intros D I h;let#[W,#[m0,w0],ad]:=h;show wpAny_While (codeAny_whileLoop (λn s'=>∃ab J,Inv X Cr ab J s'/\W n ab J) ?_ m0 #[σ,H,I,w0]);rintro n s1 ⟨U,H1,I1,w1⟩;show Ze hp (b9 (hc Cr s1 U H1 _ I1 (ad n U H1 w1)) λb s2 ac=>?_);let#[H2,I2,Y]:=ac;cases b with
 |true =>
  let#[N,hN,Y]:=Y;rw[C' rfl];show Ze hp (b9 (hb Cr s2 U H2 _ I2 Y) λf s3 L=>?_);cases f with
  |next =>
   let#[F,G,I3,Z]:=L;let#[m',hm,w3]:=hN F G Z;show#[m',hm,F,G,I3,w3]
  |cont =>
   let#[F,G,I3,Z]:=L;let#[m',hm,w3]:=hN F G Z;show#[m',hm,F,G,I3,w3]
  |brk=>show L
  |ret v=>show L
 |false =>
  rw[vr Yf];show ZE #[U,H2,I2,Y]
structure It where
 go:Nat->Hp->Prop
 Lu:Nat->Hp->V->Hp->Prop
 stop:Nat->Hp->Prop
def jR(X:Cx)(Cr:Jr)(H:Hp)(b:ZX):Prop :=
 H b=none/\b≠X.env.locals/\b∉X.fs/\(b∈X.ex\/X.s₀.heap.objs.3<=b)/\(∀x c,X.env.cells.lookup x^c->c≠b)/\∀p∈X.pn++Cr,p.1≠b
def Inv.rl{b:ZX}(I:!H s)(F:s.13<=b)(L:J b=none):jR X Cr J b:=by
 show#[L,FD (Ym I.lt F),I.Sn F,.inr (Oi I.sz F),λx c e z=>?_,λp G z=>?_]
 .let#[v,q]:=I.cell x c e;show D9 (Ym q.lt (F<*z)) (Z8 _)
 .show D9 (Ym (gu (I.pin p G).1) (F<*z)) (Z8 _)
structure Turn(P:By)(w:L3)(K:Yi)(tg:YD)(H':It)(fp:JS)(it:ZX)(tn:Nat->Heap->Prop):Prop where
 mem:it∈fp
 obj:∀i h,tn i h->∀b∈fp,∃o,h.get? b^o/\∀v,o.data≠.cell v
 keep:∀i h h',tn i h->(∀b∈fp,∀o,h.get? b^o->h'.get? b^o)->tn i h'
 item:∀(X:Cx),X.prog=P->X.w=w->X.K=K->X.calm->∀(i:Nat)(Cr:Jr)(s:ti)(σ:St)(H:Hp)(E:gJ),!H s->(∀b∈fp,jR X Cr H b)->tn i s.heap->H'.go i H ->
  wpAny (model P w) X.A (pyNext (.ref it)) (λr s1=>∃u,r=some u /\
   wpAny (model P w) X.A (Na tg (.ref it) u) (λ_ s2=>∃x J,!J s2/\zH x u/\H'.Lu i H x J/\tn (i+1) s2.heap/\∀b∈fp,J b=none) E s1) E s
 done:∀(X:Cx),X.prog=P->X.w=w->X.K=K->X.calm->∀(i:Nat)(Cr:Jr)(s:ti)(σ:St)(H:Hp)(E:gJ),!H s->(∀b∈fp,jR X Cr H b)->tn i s.heap->H'.stop i H ->
  wpAny (model P w) X.A (pyNext (.ref it)) (λr s1=>r=none/\!H s1) E s
 self:∀(A:Ys)(i:Nat)(s:ti)(Q E:gJ),tn i s.heap->Q (.ref it) s->wpAny (model P w) A (pyIter (.ref it)) Q E s
abbrev TI:=St->Hp->(It->Hp->Prop)->Prop
def Xh(X:Cx)(Cr:Jr)(σ:St)(tg:YD)(R:It->Hp->Prop)(I:xr)(G:ti):=
 ∃(it:ZX)(fp:JS)(F:Nat->Heap->Prop)(H':It)(J:Hp),I=.ref it/\!J G/\Turn X.prog X.w X.K tg H' fp it F/\F 0 G.heap/\(∀b∈fp,jR X Cr J b)/\R H' J
def PI(X:Cx)(tg iter:YD)(wi:TI):=
 ∀(Cr:Jr)(s:ti)(σ:St)(H:Hp)(R:It->Hp->Prop),!H s->wi σ H R ->
  ↑(eval iter X.env) (λv F=>↑(pyIter v) (Xh X Cr σ tg R) X.xe F) X.xe s
variable{o:Obj}
def wk{u:xr}{n:String}{vs:p9}{Q:Unit->ti->Prop}(G:s.heap.get? it^o)(I:o.cls=.type n)(hd:o.data=.fields vs)
  (L:["enumerate","zip","dict_itemiterator","dict_reverseitemiterator","odict_iterator","itertools.zip_longest","itertools.pairwise"].contains n=false) (F:Q () s):wpAny M A (Na tg (.ref it) u) Q E s:=by
 unfold Na;cases tg<;>first
  |show wpAny_pure F
  |(cases u<;>first
    |show wpAny_pure F
    |(show yl (wpAny_load G ?_)
      rw[I,hd];change wpAny M A (if (["enumerate","zip","dict_itemiterator","dict_reverseitemiterator","odict_iterator","itertools.zip_longest","itertools.pairwise"].contains n&&vs[0]?==some (WD _))=true then _ else _) Q E s;rw[vr (by intro h;rwa[L,Bool.false_and]at h)];show wpAny_pure F))
def Lj(K:Yi)(a:ZX):It :=
 #[λi H=>∃xs x,bh K H a xs/\xs[i]?^x,λi H x J=>J=H/\∀xs,bh K H a xs->xs[i]?^x,λi H=>∃xs,bh K H a xs/\xs.9<=i]
def HJ(lo:Int)(n:Nat):It:=#[λi _=>i<n,λi H x J=>J=H/\x=.int (lo+i),λi _=>n<=i]
theorem abv(a it:ZX):Turn P w K tg (Lj K a) [it] it (λi h=>h.IsListIter it a i) where
 mem:=by simp
 obj:=λi h st b F=>by
  let e:b=it:=‹F›;subst e;let#[o,e,c,d]:=st;show#[o,e,λv z=>by rwa[d]at z]
 keep:=λi h h' st k=>st.at λo e=>k it J0 o e
 item:=by
  intro X hP hw hK hc i Cr s σ H E I L st U;subst hP hw hK;let#[xs,x,G,hx]:=U;let#[XO,rv,p,hz]:=I.list G;let#[u,hu,ru]:=rv.get hx;let#[Y,Z,f2,f3,f4,f5]:=L it J0;show wpAny_pyNext_list_item st p.isList (x:=u) ‹hu› λh' ab sb=>?_;let I1:!H { s with heap:=h' }:=I.turned (t':=s.toks) (λb o F e=>(sb.2 b F).trans e) Y Z f3 f4 f5;let#[o,e,c,d]:=id ab;show#[u,rfl,wk (s:={ s with heap:=h' }) e c d az #[x,H,I1,ru,#[rfl,λys hy=>hx<*I.sg hy G],ab,λb F=>(L b F).1]]
 done:=by
  intro X hP hw hK hc i Cr s σ H E I L st U;subst hP hw hK;let#[xs,G,hx]:=U;let#[XO,rv,p,hz]:=I.list G;let#[Y,Z,f2,f3,f4,f5]:=L it J0;let hl:=rv.9;show wpAny_pyNext_list_end (I.ok.hd hc) st p.isList (by simp;lia) λh' eb=>#[rfl,I.turned (t':=s.toks) eb Y Z f3 f4 f5]
 self:=λ_ _ _ _ _ st h=>wpAny_pyIter_listiter st h
theorem abx(it:ZX)(lo:Int)(n:Nat):Turn P w K tg (HJ lo n) [it] it (λi h=>B0 h it (lo+(i:Nat)*1) ((n:Int)-(i:Nat)) 1) where
 mem:=by simp
 obj:=λi h st b F=>by
  let e:b=it:=‹F›;subst e;show#[_,st,λv z=>by
   let z':Data.fields _=Data.cell v:=z;cases z']
 keep:=λi h h' st k=>k it J0 _ st
 item:=by
  intro X hP hw Z hc i Cr s σ H E I G st L;subst hP hw Z;let#[U,Y,f2,f3,f4,f5]:=G it J0;let W:=Walks.range (prog:=X.prog) (w:=X.w) (I.ok.hd hc) it lo 1 n;show W.item i s _ _ L st λv h' tk hv ab kk=>?_;let#[t,rfl]:=hv;let I1:!H { s with heap:=h',toks:=tk }:=I.turned (λb o F e=>kk b o ‹F› e) U Y f3 f4 f5;show#[0,wk (s:={ s with heap:=h',toks:=tk }) (n := "range_iterator") ab rfl rfl az #[.int (lo+i),H,I1,#[t,?_],#[1],ab,λb F=>(G b F).1]];rw[Int.mul_one]
 done:=by
  intro X hP hw Z hc i Cr s σ H E I G st L;subst hP hw Z;let#[U,Y,f2,f3,f4,f5]:=G it J0;show ac3 (I.ok.hd hc) st (by have:n<=i:=L;lia) λh' eb=>#[rfl,I.turned (t':=s.toks) eb U Y f3 f4 f5]
 self:=λ_ _ _ _ _ st h=>ac4 st h
def ab2(K:Yi)(tl:TE):TI:=λσ H R=>tl σ H λx H1=>∃a,x=.ref a/\(∃xs,bh K H1 a xs)/\R (Lj K a) H1
def cK{l:YD}{tl:TE}(L:PE X l tl):PI X tg l (ab2 X.K tl):=by
 intros R I h;show b9 (L Cr s σ H _ I h) λv F Y=>?_;let#[x,H1,G,U,q1]:=Y;let#[a,e,#[xs,hq],q]:=q1;subst e;cases U;let#[XO,rv,p,hz]:=G.list hq;show wpAny_pyIter_list p.isList ?_;show#[F.13,[F.13],2,H1,rfl,G.kept (t':=F.toks) λb o e=>aV _ e,abv a _,#[_,42,1],λb Z=>?_,q];let e:b=F.13:=‹Z›;subst e;show G.rl (BY _) (G.bK.fresh (BY _))
variable{lo:Int}
theorem v9{R:It->Hp->Prop}{hi:Int}{t u v:Tok}{tk:Nat}(I:!H s)(h1 : -(2^62)<=lo)(h2:lo<2^62)(G : -(2^62)<=hi)(Y:hi<2^62)
  (q:R (HJ lo (hi-lo).5) H):↑(pyIter (.ref s.13)) (Xh X Cr σ tg R) E { s with heap:=s.heap.push { cls:=.type "range",data:=.fields ([.int lo t,.int hi u,.int 1 v].8) },toks:=tk }:=by
 show aer (afF ..) (small_one h1 h2 G Y) ?_;let F:!H { s with heap:=s.heap.push { cls:=.type "range",data:=.fields ([.int lo t,.int hi u,.int 1 v].8) },toks:=tk }:=I.kept λb o e=>aV _ e;show#[(s.heap.push { cls:=.type "range",data:=.fields ([.int lo t,.int hi u,.int 1 v].8) }).objs.3,[(s.heap.push { cls:=.type "range",data:=.fields ([.int lo t,.int hi u,.int 1 v].8) }).objs.3],2,H,rfl,
  F.kept (t':=tk) λb o e=>aV _ e,abx _ lo (hi-lo).5,?_,λb L=>?_,q]
 .let U:lo+((0:Nat):Int)*1=lo:=J0;let Z:(((hi-lo).5:Nat):Int)-((0:Nat):Int)=Builtin.Range.rangeSize lo hi 1:=(by rw[rangeSize_one];split<;>lia);change B0 _ _ (lo+((0:Nat):Int)*1) ((((hi-lo).5:Nat):Int)-((0:Nat):Int)) 1;rw[U,Z];show qZ _ rfl
 .let e:b=(s.heap.push { cls:=.type "range",data:=.fields ([.int lo t,.int hi u,.int 1 v].8) }).objs.3:=‹L›;subst e;show F.rl (BY _) (F.bK.fresh (BY _))
def aba(ta:TA):TI:=λσ H R=>ta σ H λvs H1=>∃j:Int,vs=[.int j] /\ -(2^62)<=j/\j<2^62/\R (HJ 0 j.5) H1
def abu(ta:TA):TI:=λσ H R=>ta σ H λvs H1=>Dh λ(i j:Int)=>tD (vs=[.int i,.int j]) ((-(2^62)<=i/\i<2^62 /\ -(2^62)<=j/\j<2^62)) (R (HJ i (j-i).5) H1)
variable{a:YD}{ta:TA}{p:Pos}
def c9(L:Gl X "range")(Y:X.mg "range" = none)(Z:PA X [a] ta)(hs:%[starEach [a] X.env=[(false,eval a X.env)]|0]):PI X tg (.Call (.Name "range" p) [a] [] Yb) (aba ta):=by
 intros R I h;show Call_ (kh I L Y boot_range (Zj (b9 (Z Yb Cr s σ H _ I h) λus s1 ab=>?_) hs rfl));let#[vs,H1,U,G,F]:=ab;let#[j,e,F,q2,q]:=F;subst e;cases G with
 |cons r rr =>
  cases rr;let#[t,rfl]:=r;show call_range_1 (v9 U ak ak F q2 ‹q›)
def ab1(hg:Gl X "range")(hm:X.mg "range" = none)(ha:PA X [a,b] ta)(hs:%[starEach [a,b] X.env=[(false,eval a X.env),(false,eval b X.env)]|0])(L:%[starEach [b] X.env=[(false,eval b X.env)]|0]) :
  PI X tg (.Call (.Name "range" p) [a,b] [] Yb) (abu ta):=by
 intros R I h;show Call_ (kh I hg hm boot_range (Zj (b9 (ha Yb Cr s σ H _ I h) λus s1 ⟨vs,H1,Z,Y,F⟩=>?_) (by rw[hs,L]) (by rw[L];rfl)));let#[i,j,e,#[F,q2,q3,q4],q]:=F;subst e;cases Y with
 |cons r G =>
  cases G with
  |cons U G =>
   cases G;let#[t,rfl]:=r;let#[t',rfl]:=U;show call_range_2 (v9 Z F q2 q3 q4 q)
def FW(H':It)(g:TG)(tb:TS)(D:Ends)(σ:St)(H1:Hp):=∃W:Nat->Nat->St->Hp->Prop,(∃m,W 0 m σ H1)/\∀i m σ H,W i m σ H ->
 (H'.stop i H/\D.nx σ H)\/(H'.go i H/\∃N:St->Hp->Prop,(∀F J,N F J->∃m',m'<m/\W (i+1) m' F J)/\∀x J,H'.Lu i H x J->g x σ J λG H2=>tb { D with nx:=N,ct:=N,bk:=D.nx } G H2)
def R9(wi:TI)(g:TG)(tb:TS):TS:=λD σ H=>wi σ H λH' H1=>FW H' g tb D σ H1
variable{n:Nat}
def Jp{α:Type}{st go:Nat->Hp->Prop}{G:Nat->α->Hp->(α->Hp->Prop)->Prop}{dn:α->Hp->Prop}{a:α}(Pv:Nat->α->Hp->Prop)(L:Pv 0 a H)(hd:∀a H,Pv n a H->dn a H)(U:∀a H,Pv n a H->st n H)(hi:∀i a H,i<n->Pv i a H->go i H/\G i a H (Pv (i+1))) :
  ∃W:Nat->Nat->α->Hp->Prop,(∃m,W 0 m a H)/\∀i m a H,W i m a H->(st i H/\dn a H)\/(go i H/\∃N:α->Hp->Prop,(∀I J,N I J->∃m',m'<m/\W (i+1) m' I J)/\G i a H N):=by
 show#[λi m a H=>m=n-i/\i<=n/\Pv i a H,#[n,rfl,Zy _,L],?_];rintro i m a H ⟨rfl,Y,p⟩;cases F:i<n
 .show .inr #[(hi i a H F p).1,Pv (i+1),λ_ _ Z=>#[_,Nat.sub_succ_lt_self n i F,rfl,F,Z],(hi i a H F p).2]
 .cases Zw Y (OV F);show .inl #[U a H p,hd a H p]
def oF(fp:JS)(h:Heap):List (ZX×Obj):=fp.filterMap λb=>(h.get? b).map λo=>(b,o)
variable{fp:JS}
def gU{b:ZX}(F:b∈fp)(e:h.get? b^o):(b,o)∈oF fp h:=Z2.mpr #[b,F,by rw[e];rfl]
def ac6{p:ZX×Obj}(F:p∈oF fp h):p.1∈fp/\h.get? p.1^p.2:=by
 let#[b,G,e]:=Z2.mp F;cases q:h.get? b with
 |none=>rwa[q]at e
 |some o =>
  rw[q]at e;let I:(b,o)=p:=OR e;subst I;show#[G,q]
def Inv.pinned(I:!H s)(U:∀b∈fp,jR X Cr H b)(Y:∀b∈fp,∃o,s.heap.get? b^o/\∀v,o.data≠.cell v):Inv X (Cr++oF fp s.heap) σ H s :=
 I.p7 λp L=>(Yh.mp L).elim (λz=>I.pin p (DO _ z)) λz=>by
  let#[F,e]:=ac6 z;let#[Z,f1,f2,_]:=U p.1 F;let#[o,G,d]:=Y p.1 F;rwa[e]at G;show#[e,Z,f1,f2,d]
def Inv.gx{pl:Jr}(I:Inv X (Cr++pl) σ H s):!H s:=I.p7 λp F=>I.pin p (DO _ (YC _ F))
def qa0{iter:YD}{wi:TI}(hp:I9 X.16 X.A X.env X.xe)(hc:X.calm)(hi:PI X tg iter wi)(hg:PG X tg g)(F:t9 X body tb)
  (hs:%[∀x,QH iter X.env x=pure x|0]):PS X (.For tg iter body [] Yb) (R9 wi g tb):=by
 intros D I h;show wpAny_For (b9 (hi Cr s σ H _ I h) λv s1 h1=>b9 h1 λa3 s2 h2=>?_) hs;let#[it,fp,tn,H',H2,e,I2,T,aB,f2,W,#[m0,w0],aX]:=h2;subst e;let ad:∀{J:Hp},(∀b∈fp,J b=none)->∀b∈fp,jR X Cr J b:=λhn b F=>#[hn b F,(f2 b F).2];show ad9 (λn s'=>∃i ab J,Inv X Cr ab J s'/\tn i s'.heap/\(∀b∈fp,J b=none)/\W i n ab J) ?_ m0 #[(0),σ,H2,I2,aB,λb F=>(f2 b F).1,w0];rintro n s3 ⟨i,Z,H3,I3,ap,am,w3⟩;rcases aX i n Z H3 w3 with⟨ar,qn⟩|⟨go,N,hN,step⟩
 .show Ze hp (b9 (T.done X rfl rfl rfl hc i Cr s3 Z H3 X.xe I3 (ad am) ap ar) λr s4 aT=>?_);let#[hr,I4]:=aT;subst hr;show ZE #[Z,H3,I4,qn]
 .show Ze hp (b9 (T.item X rfl rfl rfl hc i Cr s3 Z H3 X.xe I3 (ad am) ap go) λr s4 aK=>?_);let#[u,hr,h4]:=aK;subst hr;show Ze hp (b9 h4 λ_ s5 as=>?_);let#[x,H5,I5,r5,y5,ac,aN]:=as;let aY:=I5.pinned (ad aN) (T.obj _ _ ac);show Ze hp (b9 (hg _ s5 Z H5 x u _ aY r5 (step x H5 y5)) λ_ s6 ay=>?_);let#[a0,H6,I6,q6]:=ay;show Ze hp (b9 (F _ s6 a0 H6 _ I6 q6) λf s7 Y=>?_);let again:∀{G:St}{U:Hp},Inv X (Cr++oF fp s5.heap) G U s7->N G U->∃m,m<n/\∃i ab J,Inv X Cr ab J s7/\tn i s7.heap/\(∀b∈fp,J b=none)/\W i m ab J:=λ{G U} L n7=>by
   let#[m',hm,w7]:=hN G U n7;show#[m',hm,i+1,G,U,L.gx,T.keep _ _ _ ac λb F o e=>(L.pin (b,o) (DO _ (DO _ (gU F e)))).1,λb F=>?_,w7];let#[o,e,d]:=T.obj _ _ ac b F;show(L.pin (b,o) (DO _ (DO _ (gU F e)))).2.1
  cases f with
  |next=>let#[G,U,L,n7]:=Y;show again L n7
  |cont=>let#[G,U,L,n7]:=Y;show again L n7
  |brk=>let#[G,U,L,Y]:=Y;show#[G,U,L.gx,Y]
  |ret v=>let#[x7,G,U,L,r7,Y]:=Y;show#[x7,G,U,L.gx,r7,Y]
def fL{a:ZX}(Pv:Nat->St->Hp->Prop)(I:Pv 0 σ H)(G:∀i σ H,i<=xs.9->Pv i σ H->bh K H a xs)
  (hs:∀i x σ H,xs[i]?^x->Pv i σ H->g x σ H λL H2=>tb { D with nx:=Pv (i+1),ct:=Pv (i+1),bk:=D.nx } L H2) (hd:∀σ H,Pv xs.9 σ H->D.nx σ H) :
  FW (Lj K a) g tb D σ H:=by
 show Jp Pv I hd (λσ H p=>#[xs,G _ σ H (BY _) p,BY _]) λi σ H F p=>?_;let q:=G i σ H (Zm F) p;show#[#[xs,xs[i],q,by simp[F]],λx J y=>?_];let#[e,y]:=y;subst e;show hs i x σ _ (y xs q) p
def gc(Pv:Nat->St->Hp->Prop)(G:Pv 0 σ H)
  (hs:∀i σ H,i<n->Pv i σ H->g (.int (lo+i)) σ H λI H2=>tb { D with nx:=Pv (i+1),ct:=Pv (i+1),bk:=D.nx } I H2) (hd:∀σ H,Pv n σ H->D.nx σ H) :
  FW (HJ lo n) g tb D σ H:=by
 show Jp Pv G hd (λσ H p=>BY _) λi σ H F p=>?_;show#[F,λx J y=>?_];let#[e,y]:=y;subst e y;show hs i σ _ F p
abbrev R2:=V->V->Hp->VK->Prop
def mf(X:Cx)(f:xr->xr->Sem xr)(r:R2):=
 ∀(Cr:Jr)(s:ti)(σ:St)(H:Hp)(x y:V)(v u:xr)(Q:VK),!H s->zH x v->zH y u->r x y H Q ->
  ↑(f v u) (EP X Cr σ Q) X.xe s
def WY(X:Cx)(f:xr->Sem xr)(r:V->Hp->VK->Prop):=
 ∀(Cr:Jr)(s:ti)(σ:St)(H:Hp)(x:V)(v:xr)(Q:VK),!H s->zH x v->r x H Q ->
  ↑(f v) (EP X Cr σ Q) X.xe s
def cM(X:Cx)(f:xr)(r:List V->Hp->VK->Prop):=
 ∀(Cr:Jr)(s:ti)(σ:St)(H:Hp)(xs:vl)(us:WX)(Q:VK),!H s->Si xs us->r xs H Q ->
  ↑(call f us) (EP X Cr σ Q) X.xe s
def Li(r:R2)(ta tb:TE):TE:=λσ H Q=>ta σ H λx H1=>tb σ H1 λy H2=>r x y H2 Q
def ad4(r:V->Hp->VK->Prop)(ta:TE):TE:=λσ H Q=>ta σ H λx H1=>r x H1 Q
inductive rI(C:Int->Int->Prop)(g:Int->Int->V)(x y:V)(H:Hp)(Q:VK):Prop
 |mk(i j:_)(_:x=.int i)(_:y=.int j)(_:C i j)(_:Q (g i j) H)
inductive Ij(g:Int->Int->V)(x y:V)(H:Hp)(Q:VK):Prop
 |mk(i j:_)(_:x=.int i)(_:y=.int j)(_:Q (g i j) H)
inductive rU(g:Int->V)(x:V)(H:Hp)(Q:VK):Prop
 |mk(i:_)(_:x=.int i)(_:Q (g i) H)
variable{ta tb:TE}{f:xr->xr->Sem xr}
def OJ(ha:PE X a ta)(hb:PE X b tb){R:V->V->Hp->Prop}(I:!H s)
  (h:ta σ H λx H1=>tb σ H1 λy H2=>R x y H2) 
  (G:∀v u F x y H2,!H2 F->zH x v->zH y u->R x y H2->↑(f v u) Q X.xe F) :
  ↑(eval a X.env) (λv ac=>↑(eval b X.env) (λu L=>↑(f v u) Q X.xe L) X.xe ac) X.xe s:=by
 show b9 (ha Cr s σ H _ I h) λv Z Y=>?_;let#[x,H1,I1,U,q1]:=Y;show b9 (hb Cr Z σ H1 _ I1 q1) λu F ab=>?_;let#[y,H2,I2,r2,q2]:=ab;show G v u F x y H2 I2 U r2 q2
def aL{F:IG}{r:R2}(G:mf X (ou F) r)(ha:PE X a ta)(L:PE X b tb):PE X (.BinOp a F b Yb) (Li r ta tb):=by
 intros Q I h;show wpAny_BinOp (OJ ha L I h λv u Z x y H2 I2 U Y q=>G Cr Z σ H2 x y v u Q I2 U Y q)
def aaP{F:UnaryOp}{r:V->Hp->VK->Prop}(G:WY X (unaryOp F) r)(ha:PE X a ta):PE X (.UnaryOp F a Yb) (ad4 r ta):=by
 intros Q I h;show UnaryOp_ (b9 (ha Cr s σ H _ I h) λv Y U=>by let#[x,H1,Z,L,q1]:=U;show G Cr Y σ H1 x v Q Z L q1)
variable{g:Int->Int->Int}
def VN{C:Int->Int->Prop}
  (rule:∀(i j:Int)(t u:Tok)(s:ti)(Q E:gJ),C i j->Q (.int (g i j) s.toks) { s with toks:=s.toks+1 }->↑(f (.int i t) (.int j u)) Q E s) :
  mf X f (rI C λi j=>.int (g i j)):=by
 intros x y v u Q I F G h;let#[i,j,rfl,rfl,L,q]:=h;let#[t,rfl]:=F;let#[t',rfl]:=G;show rule i j t t' s _ _ L #[.int (g i j),120]
def Ro(rule:∀(i j:Int)(t u:Tok)(s:ti)(Q E:gJ),Q (.int (g i j) s.toks) { s with toks:=s.toks+1 }->↑(f (.int i t) (.int j u)) Q E s) :
  mf X f (Ij λi j=>.int (g i j)):=by
 intros x y v u Q I F G h;let#[i,j,rfl,rfl,q]:=h;let#[t,rfl]:=F;let#[t',rfl]:=G;show rule i j t t' s _ _ #[.int (g i j),120]
def KW{g:Int->Int->Bool}
  (rule:∀(i j:Int)(t u:Tok)(s:ti)(Q E:gJ),Q (.bool (g i j)) s->↑(f (.int i t) (.int j u)) Q E s) :
  mf X f (Ij λi j=>.bl (g i j)):=by
 intros x y v u Q I F G h;let#[i,j,rfl,rfl,q]:=h;let#[t,rfl]:=F;let#[t',rfl]:=G;show rule i j t t' s _ _ #[.bl (g i j),H,I,rfl,q]
def ad5(i j:Int):=0<j/\j<1073741824
def NZ(i j:Int):Prop:=(-(2^64)<i/\i<2^64)\/(-(2^64)<j/\j<2^64)
variable{i j:Int}
def NZ.ok(h:NZ i j):IntMulOk i j:=by
 rcases h with⟨h1,h2⟩|⟨h1,h2⟩
 .show .of_left (intBits_le_64 h1 h2)
 .show .of_right (intBits_le_64 h1 h2)
def zA2:mf X (ou .Add) (Ij λi j=>.int (i+j)):=Ro λ_ _ _ _ _ _ _ q=>add_int q
def qa2:mf X (ou .Sub) (Ij λi j=>.int (i-j)):=Ro λ_ _ _ _ _ _ _ q=>sub_int q
def zC1:mf X (ou .Mult) (rI NZ λi j=>.int (i*j)):=VN λ_ _ _ _ _ _ _ F q=>mul_int q F.ok
def nm':mf X (ou .FloorDiv) (rI ad5 λi j=>.int (i/j)):=VN λi j _ _ _ _ _ F q=>by
 let h1:(0:Int)<j:=F.1;let h2:j<1073741824:=F.2;show floordiv_int ak (q<*Int.fdiv_eq_ediv_of_nonneg i ak) (.inl (PyProof.noPylong_small ak))
def qAb:mf X (ou .Mod) (rI (λ_ j=>0<j) λi j=>.int (HMod.hMod i j)):=VN λi j _ _ _ _ _ F q=>by
 let h1:(0:Int)<j:=F;show mod_int' ak (q<*Int.fmod_eq_emod_of_nonneg i ak)
def ad6{f:xr->Sem xr}{g:Int->Int}
  (rule:∀(i:Int)(t:Tok)(s:ti)(Q E:gJ),Q (.int (g i) s.toks) { s with toks:=s.toks+1 }->↑(f (.int i t)) Q E s) :
  WY X f (rU λi=>.int (g i)):=by
 intros x v Q I F h;let#[i,rfl,q]:=h;let#[t,rfl]:=F;show rule i t s _ _ #[.int (g i),120]
def cV:WY X (unaryOp .USub) (rU λi=>.int (-i)):=ad6 λ_ _ _ _ _ q=>neg_int q
noncomputable def NY:V->V->Bool
 |.bu,.bu=>true|.bu,.int _=>true|.int _,.bu=>true|.bu,.bl _=>true|.bl _,.bu=>true|.bu,.str _=>true|.str _,.bu=>true
 |.int _,.int _=>true|.bl _,.bl _=>true|.str _,.str _=>true|.byt _,.byt _=>true
 |.int _,.str _=>true|.str _,.int _=>true|.bl _,.str _=>true|.str _,.bl _=>true
 |_,_=>false
def Vy:R2:=λx y H Q=>NY x y=true/\Q (.bl (decide (x=y))) H
def aay:R2:=λx y H Q=>NY x y=true/\Q (.bl (!(decide (x=y)))) H
def AL:decide (V.int i=V.int j)=(i==j):=by
 rw[Lm];simp
def EX{i j:Bool}:decide (V.bl i=V.bl j)=(i==j):=by
 rw[Lm];simp
def Ae{i j:Str}:decide (V.str i=V.str j)=(i==j):=by
 rw[Lm];simp
def Bt{i j:Array UInt8}:decide (V.byt i=V.byt j)=(i.7==j.7):=by
 rw[Lm];cases i;cases j;simp
def bT{Q:VK}{k k':Bool}(I:!H s)(q:Q (.bl k) H)(e:k=k'):EP X Cr σ Q (.bool k') s:=by
 subst e;show#[.bl k,H,I,rfl,q]
def b6:mf X (Zp .Eq) Vy:=by
 intros x y v u Q I G F h;let#[hs,q]:=h;cases x with
 |bu =>
  cases G;cases y with
  |bu=>cases F;show PySem.EqNone.eq_none_none (bT I q J0)
  |bl j=>cases F;show PySem.EqNone.eq_none_bool (bT I q J0)
  |int j=>let#[t',rfl]:=F;show PySem.EqNone.eq_none_int (bT I q J0)
  |str j=>let#[t',rfl]:=F;show PySem.EqNone.eq_none_str (bT I q J0)
  |_=>show D9 (show false from hs) Yf
 |bl i =>
  cases G;cases y with
  |bu=>cases F;show PySem.EqNone.eq_bool_none (bT I q J0)
  |bl j=>cases F;show eq_bool (bT I q EX)
  |str j=>let#[t',rfl]:=F;show PySem.EqMixed.eq_bool_str (bT I q J0)
  |_=>show D9 (show false from hs) Yf
 |int i =>
  let#[t,rfl]:=G;cases y with
  |bu=>cases F;show PySem.EqNone.eq_int_none (bT I q J0)
  |int j=>let#[t',rfl]:=F;show eq_int (bT I q AL)
  |str j=>let#[t',rfl]:=F;show PySem.EqMixed.eq_int_str (bT I q J0)
  |_=>show D9 (show false from hs) Yf
 |str i =>
  let#[t,rfl]:=G;cases y with
  |bu=>cases F;show PySem.EqNone.eq_str_none (bT I q J0)
  |bl j=>cases F;show PySem.EqMixed.eq_str_bool (bT I q J0)
  |int j=>let#[t',rfl]:=F;show PySem.EqMixed.eq_str_int (bT I q J0)
  |str j=>let#[t',rfl]:=F;show eq_str (bT I q Ae)
  |_=>show D9 (show false from hs) Yf
 |byt i =>
  let#[t,rfl]:=G;cases y with
  |byt j=>let#[t',rfl]:=F;show PySem.W.eq_bytes (bT I q Bt)
  |_=>show D9 (show false from hs) Yf
 |_=>cases y<;>show D9 (show false from hs) Yf
def ud:mf X (Zp .NotEq) aay:=by
 intros x y v u Q I G F h;let#[hs,q]:=h;cases x with
 |bu =>
  cases G;cases y with
  |bu=>cases F;show PySem.EqNone.ne_none_none (bT I q J0)
  |bl j=>cases F;show PySem.EqNone.ne_none_bool (bT I q J0)
  |int j=>let#[t',rfl]:=F;show PySem.EqNone.ne_none_int (bT I q J0)
  |str j=>let#[t',rfl]:=F;show PySem.EqNone.ne_none_str (bT I q J0)
  |_=>show D9 (show false from hs) Yf
 |bl i =>
  cases G;cases y with
  |bu=>cases F;show PySem.EqNone.ne_bool_none (bT I q J0)
  |bl j=>cases F;show ne_bool (bT I q (Ur not EX))
  |str j=>let#[t',rfl]:=F;show PySem.EqMixed.ne_bool_str (bT I q J0)
  |_=>show D9 (show false from hs) Yf
 |int i =>
  let#[t,rfl]:=G;cases y with
  |bu=>cases F;show PySem.EqNone.ne_int_none (bT I q J0)
  |int j=>let#[t',rfl]:=F;show ne_int (bT I q (Ur not AL))
  |str j=>let#[t',rfl]:=F;show PySem.EqMixed.ne_int_str (bT I q J0)
  |_=>show D9 (show false from hs) Yf
 |str i =>
  let#[t,rfl]:=G;cases y with
  |bu=>cases F;show PySem.EqNone.ne_str_none (bT I q J0)
  |bl j=>cases F;show PySem.EqMixed.ne_str_bool (bT I q J0)
  |int j=>let#[t',rfl]:=F;show PySem.EqMixed.ne_str_int (bT I q J0)
  |str j=>let#[t',rfl]:=F;show ne_str (bT I q (Ur not Ae))
  |_=>show D9 (show false from hs) Yf
 |byt i =>
  let#[t,rfl]:=G;cases y with
  |byt j=>let#[t',rfl]:=F;show PySem.W.ne_bytes (bT I q (Ur not Bt))
  |_=>show D9 (show false from hs) Yf
 |_=>cases y<;>show D9 (show false from hs) Yf
def tT:mf X (Zp .Lt) (Ij λi j=>.bl (decide (i<j))):=KW λ_ _ _ _ _ _ _ q=>lt_int q
def K0:mf X (Zp .LtE) (Ij λi j=>.bl (decide (i<=j))):=KW λ_ _ _ _ _ _ _ q=>le_int q
def fs':mf X (Zp .Gt) (Ij λi j=>.bl (decide (j<i))):=KW λ_ _ _ _ _ _ _ q=>gt_int q
def Fl:mf X (Zp .GtE) (Ij λi j=>.bl (decide (j<=i))):=KW λ_ _ _ _ _ _ _ q=>ge_int q
def abw:mf X (Zp .In) (λx y H Q=>∃i j,x=.str i/\y=.str j/\Q (.bl (!(Builtin.Str.occurrences j i 0 j.9 1).isEmpty)) H):=by
 intros x y v u Q I F G h;let#[i,j,rfl,rfl,q]:=h;let#[t,rfl]:=F;let#[t',rfl]:=G;show in_str (bT I q rfl)
def nE:mf X (Zp .Is) (λx y H Q=>y=.bu/\Q (.bl (decide (x=.bu))) H):=by
 intros x y v u Q I F G h;let#[rfl,q]:=h;cases G;show is_none_gen (bT I q ?_);cases x<;>first
  |(cases F;rfl)
  |(let#[t,rfl]:=F;rfl)
def jF:mf X (Zp .IsNot) (λx y H Q=>y=.bu/\Q (.bl (!(decide (x=.bu)))) H):=by
 intros x y v u Q I F G h;let#[rfl,q]:=h;cases G;show isnot_none_gen (bT I q ?_);cases x<;>first
  |(cases F;rfl)
  |(let#[t,rfl]:=F;rfl)
variable{F:CmpOp}
def aP(b:YD)(h:%[F≠.In|0])(h2:%[F≠.NotIn|0]):yC F b=false:=by
 let G:(F==CmpOp.In)=false:=by cases F<;>first|rfl|show D9 rfl h
 let I:(F==CmpOp.NotIn)=false:=by cases F<;>first|rfl|show D9 rfl h2
 cases b<;>simp[yC,G,I]
variable{r:R2}
def mT(G:mf X (Zp F) r)(ha:PE X a ta)(L:PE X b tb)(Z:yC F b=false):PE X (.Compare a [F] [b] Yb) (Li r ta tb):=by
 intros Q I h;show wpAny_Compare1 (OJ ha L I h λv u s2 x y H2 I2 U Y q=>G Cr s2 σ H2 x y v u Q I2 U Y q) Z
inductive aca(t:TE)(Q:Bool->Hp->Prop)(x:V)(J:Hp):Prop
 |mk(k:_)(_:x=.bl k)(_:Q k J)
def E2(t:TE):TT:=λσ H Q=>t σ H λx J=>aca t Q x J
def aD(G:mf X (Zp F) r)(ha:PE X a ta)(Z:PE X b tb)(hm:yC F b=false):PT X (.Compare a [F] [b] Yb) (E2 (Li r ta tb)):=by
 intros Q I h;show adq (b9 (ha Cr s σ H _ I h) λv Y ⟨x,H1,I1,U,q1⟩=>b9 (Z Cr Y σ H1 _ I1 q1) λu s2 ⟨y,H2,I2,r2,q2⟩ =>
  b9 (G Cr s2 σ H2 x y v u _ I2 U r2 q2) λc s3 ⟨z,H3,I3,L,k,e,q3⟩=>?_) hm
 subst e;cases L;show ZQ #[H3,I3,q3]
inductive AZ(r r':R2)(ta tb tc:TE)(σ:St)(Q:VK)(y z:V)(H3:Hp):Prop
 |mk (k:_) (_:z=.bl k) (_:(if k then tc σ H3 λw' H4=>r' y w' H4 Q else Q (.bl false) H3)):AZ r r' ta tb tc σ Q y z H3
def acS(r F:R2)(ta tb tc:TE):TE:=λσ H Q=>ta σ H λx H1=>tb σ H1 λy H2=>r x y H2 λz G=>AZ r F ta tb tc σ Q y z G
def ad3{tc:TE}{G:CmpOp}{L:R2}(ho:mf X (Zp G) r)(ac:mf X (Zp F) L)(ha:PE X a ta)(hb:PE X b tb)(hc:PE X c tc)
  (hm:lastMarks [G,F] [b,c]=false:=by with_unfolding_all rfl):PE X (.Compare a [G,F] [b,c] Yb) (acS r L ta tb tc):=by
 intros Q I h;show Compare_chain (b9 (ha Cr s σ H _ I h) λv s1 ⟨x,H1,I1,r1,q1⟩=>chain_link (b9 (hb Cr s1 σ H1 _ I1 q1) λu s2 ⟨y,H2,I2,r2,q2⟩ =>
  b9 (ho Cr s2 σ H2 x y v u _ I2 r1 r2 q2) λd s3 ⟨z,U,Y,r3,k,e,Z⟩=>?_)) hm
 subst e;cases r3;show ZQ ?_;cases k with
 |false=>show ite_ff #[.bl false,U,Y,rfl,Z]
 |true=>show ite_tt (chain_last (b9 (hc Cr s3 σ U _ Y Z) λw' s4 ab=>by let#[z',H4,I4,r4,q4]:=ab;show ac Cr s4 σ H4 y z' u w' Q I4 r2 r4 q4))
def oh:(yr:Nat)<2^63:=by rw[HC];decide
def gO:mf X (ou .Add) (λx y H Q=>∃i j,x=.str i/\y=.str j/\i.9+j.9<=yr/\Q (.str (i++j)) H):=by
 intros x y v u Q I F G h;let#[i,j,rfl,rfl,L,q]:=h;let#[t,rfl]:=F;let#[t',rfl]:=G;show add_str (λt' tk=>#[.str (i++j),120]) L
variable{x:V}
def vals1(r:Si [x] us):∃u,us=[u]/\zH x u:=by
 cases r with
 |cons G F=>cases F;show#[0,G]
def vals2(r:Si [x,y] us):∃u F,us=[u,F]/\zH x u/\zH y F:=by
 cases r with
 |cons U G =>
  cases G with
  |cons L I=>cases I;show#[_,0,U,L]
def abr:cM X (.builtin "abs") (λxs H Q=>∃i,xs=[.int i]/\Q (.int (if i<0 then -i else i)) H):=by
 intros xs us Q I r h;let#[i,rfl,q]:=h;let#[u,rfl,t,rfl]:=vals1 r;show call_abs_int λu tk=>#[.int (if i<0 then -i else i),120]
def ae6(G:X.calm):cM X (.builtin "min") (λxs H Q=>∃i j,xs=[.int i,.int j]/\Q (.int (if j<i then j else i)) H):=by
 intros xs us Q I r h;let#[i,j,rfl,q]:=h;let#[u,L,rfl,#[t,rfl],#[t',rfl]]:=vals2 r;show min_two_ints (I.ok.hd G) λh' tk k=>#[_,H,I.kept k,?_,q];cases F:j<i
 .rw[C' F,C' F];show#[0]
 .rw[vr F,vr F];show#[0]
structure zF(h:Heap)(x dx C:ZX)(mA:j5):Prop where
 obj:h.get? x^instObj C dx
 ns:h.Ns1 dx mA
 ne:dx≠x
variable{dx:ZX}{mA:j5}
def ac9(n:h.Ns1 dx mA):∃od,h.get? dx^od/\∀name,lookIn name od^mA name:=by
 let#[o,es,ep,F,hd,hk,_,I]:=n;show#[o,F,λname=>?_];let e:=I name;unfold nsFind findBy at e;rw[<-Array.find?_toList]at e;unfold lookIn;rw[hd];dsimp only
 set_option tactic.hygienic true in split
 .rename_i y q;rw[q]at e;show Ur some e
 .rename_i q;rw[q]at e;let a:es.toList.any (·.refKey)=false:=by
   rw[aeF];intro y G;let#[z,t,L]:=hk y (Array.mem_toList_iff.mp G);simp[DictEntry.refKey,L]
  let U:¬ es.toList.any (·.refKey):=(Yf<*a);rw[vr U];show Ur some e
variable{x C:ZX}
def zF.look(I:zF h x dx C mA):∃od,PySem.W.InstAt h x (instObj C dx) C (some od)/\∀name,lookIn name od^mA name:=
 let ⟨od,F,G⟩:=ac9 I.ns
 #[od,#[I.obj,1,F],G]
variable{prog:By}{name:Str}{v:xr}
def get_map{ab:Bool}(X:K.In s.heap)(I:zF s.heap x dx C mA)(Z:JW K C name)(U:hasDictIn K C)
  (L:Y4 K (.ref C) name^none) (G:mA name^v) (F:handedIn v) (h:Q v { s with toks:=s.toks+1 }) :
  wpAny w.16 A (getAttr (.ref x) name ab) Q E s:=by
 let#[od,H',Y]:=I.look;show PySem.W.get_value X H' (OG Z).1 (PySem.W.findObj_own U L rfl (by rw[Y,G])) F h
variable{f:ZX}{pl:Sem Bool}
def ad7{Q:xr×List xr->ti->Prop}(X:K.In s.heap)(I:zF s.heap x dx C mA)(F:JW K C name)
  (G:Y4 K (.ref C) name^some (.ref f)) (Y:isFn K (.ref f)) (L:mA name=none) (h:Q (.ref f,[.ref x]) s) :
  wpAny w.16 A (getMethod (.ref x) name pl) Q E s:=by
 let#[od,H',U]:=I.look;show PySem.W.method_fn X H' (OG F).1 (OG F).2 G (beq_iff_eq.mp Y) (by change(lookIn name od).map (·.isSome)^false;rw[U,L];rfl) h
theorem zA7{ns:gq}{Q:Unit->ti->Prop}(X:K.In s.heap)(I:zF s.heap x dx C mA)
  (hs:Y4 K (.ref C) "__setattr__" = some (some (.builtin "object.__setattr__"))) (L:plainOver K C) (Z:takerIn K C name^none) (Y:hasDictIn K C)
  (U:Sm mA ns) (hsz:ns.9<=yr)
  (h:∀h',zF h' x dx C (λy=>if y=name then some v else mA y)->Heap.SameBut dx s.heap h'->Q () { s with heap:=h',toks:=s.toks+2 }) :
  wpAny w.16 A (setAttr (.ref x) name v) Q E s:=by
 let#[od,H',hl]:=I.look;show PySem.W.set_plain X H' hs (PySem.W.osa_open (s:={ s with toks:=s.toks+1 }) (r:=none) X H' L Z λb=>?_);let#[cd,hc,ad]:=PySem.W.any_some Y;let hx:s.heap.get? x^#[.ref C,some dx,.plain, ([].8)]:=I.obj;show yl (wpAny_pure (yl (yl (wpAny_loadPart hx (yl (PySem.W.Looks.here (s:={ s with toks:=s.toks+1 }) (PySem.W.looks_clsIn X hc) ?_))))));rw[ad];show wpAny_pure (a:=some dx) (yl (wpAny_pure (yl ?_)));show wpAny_nsSet1 (s:={ s with toks:=s.toks+1 }) I.ns λh' G F=>?_;let#[oD,ar,ap,ac,am,ab]:=G.count (PySem.Within.cons name v U);show yl (wpAny_lookBehind ac (pastItsLine_dict (Oi ab (by rw[YU];lia))<*am) ?_);show wpAny_pure (h _ #[(F.2 _ (oR I.ne)).trans I.obj,G,I.ne] F)
def zA9{R:Result->ti->Prop}{vs:WX}{F:List (Str×xr)}(X:K.In s.heap)(I:makesIn K C)
  (hi:Y4 K (.ref C) "__init__" = some (some (.ref f))) (G:Sz K (.ref f)^.type "function")
  (h:Ez w.16 (A.under (.builtin "type.__call__" #[.ref C::vs,F])) (.call (.ref f) #[.ref (s.13+1)::vs,F]) (PySem.W.InitBack (s.13+1) R)
   { s with heap:=(s.heap.push emptyDict).push (instObj C s.13) }) :
  Ez w.16 A (.call (.ref C) #[vs,F]) R s:=by
 let#[L,g,d,t,os]:=s;show PySem.W.make_core (PySem.W.makes_of X I) (Gs X hi) (λself=>PySem.W.bind_fn X self G) (.inl rfl) h
noncomputable def bI(f:Str)(v:V):List (Str×V)->List (Str×V)
 | []=>[(f,v)]
 |(g,x)::r=>if g=f then(g,v)::r else(g,x)::bI f v r
theorem aS(f g:Str)(v:V):∀fs:List (Str×V),(bI f v fs).lookup g=if g=f then some v else fs.lookup g
 | []=>by
  change GX g [(f,v)]=_;cases h:g=f
  .let F:(g==f)=true:=MC h;simp only[GX,F,C' h]
  .let F:(g==f)=false:=beq_eq_false_iff_ne.mpr h;simp only[GX,F,vr h]
 |(k,x)::r=>by
  let G:=aS f g v r;rw[show bI f v ((k,x)::r)=(if k=f then(k,v)::r else(k,x)::bI f v r)from rfl];cases hk:k=f
  .rw[C' hk];cases h:g=k
   .let F:(g==k)=true:=MC h;simp only[GX,F,C' (h.trans hk)]
   .let F:(g==k)=false:=beq_eq_false_iff_ne.mpr h;simp only[GX,F,vr (λe:g=f=>h (e.trans hk.6))]
  .rw[vr hk];cases h:g=k
   .let F:(g==k)=true:=MC h;simp only[GX,F,vr (λe:g=f=>hk (h.symm.trans e))]
   .let F:(g==k)=false:=beq_eq_false_iff_ne.mpr h;simp only[GX,F];show G
theorem nQ(f:Str)(v:V):∀fs:List (Str×V),f∈(bI f v fs).map (·.1)/\∀g,g∈fs.map (·.1)->g∈(bI f v fs).map (·.1)
 | []=>#[by simp[bI],λg h=>by simp at h]
 |(k,x)::r=>by
  let#[F,G]:=nQ f v r;rw[show bI f v ((k,x)::r)=(if k=f then(k,v)::r else(k,x)::bI f v r)from rfl];cases hk:k=f
  .rw[C' hk];subst hk;show#[by simp,λg h=>by simpa using h]
  .rw[vr hk];show#[?_,λg h=>?_]
   .rw[Y5];show Yp _ F
   .rw[Y5]at h ⊢;obtain e|e:=Yu.mp h
    .show Yu.mpr (.inl e)
    .show Yp _ (G g e)
theorem pj(f:Str)(v:V):∀fs:List (Str×V),(bI f v fs).9<=fs.9+1
 | []=>by simp[bI]
 |(k,x)::r=>by
  let F:=pj f v r;rw[show bI f v ((k,x)::r)=(if k=f then(k,v)::r else(k,x)::bI f v r)from rfl];cases hk:k=f
  .rw[C' hk,YU,YU];lia
  .rw[vr hk,YU,YU];lia
variable{v:V}{o:O0}
def jS.some_of(r:jS (some v) o):∃u,o^u/\zH v u:=by
 cases o with
 |none=>show(show False from r).elim
 |some u=>show#[u,rfl,r]
def jS.none_of(r:jS none o):o=none:=by
 cases o with
 |none=>rfl
 |some u=>show(show False from r).elim
variable{u:xr}
def Srt(r:zH v u):handedIn u:=by
 cases v with
 |bu=>cases(show u=Value.none from r);rfl
 |bl b=>cases(show u=Value.bool b from r);rfl
 |int i=>let#[t,e]:=(show ∃t,u=Value.int i t from r);cases e;rfl
 |str x=>let#[t,e]:=(show ∃t,u=Value.str x t from r);cases e;rfl
 |byt b=>let#[t,e]:=(show ∃t,u=Value.bytes b t from r);cases e;rfl
 |flt b=>let#[t,e]:=(show ∃t,u=Value.float b t from r);cases e;rfl
 |ref a=>cases(show u=Value.ref a from r);rfl
 |ty n=>cases(show u=Value.type n from r);rfl
end
section
variable{P:By}{w:L3}{H J:Hp}{h h':Heap}{a C dx:ZX}{fs kX:List (Str×V)}
def qd(G:kY P w H h)(e:H a^.ins C dx fs):∃mA,zF h a dx C mA/\(∀f,jS (fs.lookup f) (mA f))/\Sm mA (fs.map (·.1))/\fs.9<=1000/\H dx^.own a:=by
 let#[d,z,ne,F,mA,n,r,q]:=(show cz P w H h a (.ins C dx fs)from G a _ e);show#[mA,#[F,n,ne],r,q,z,d]
end
structure ph(K:Yi)(C:ZX):Prop where
 pg:JW K C Str.empty
 hd:hasDictIn K C
 po:plainOver K C
 sa:Y4 K (.ref C) "__setattr__" = some (some (.builtin "object.__setattr__"))
def ph.get(c:ph K C)(f:Str):JW K C f:=c.pg
def c8(K:Yi)(C:ZX)(f:Str):Prop:=Y4 K (.ref C) f=some none
variable{f:Str}
def c8.Qg(n:c8 K C f):takerIn K C f^none:=by
 unfold takerIn;rw[show Y4 K (.ref C) f^none from n];rfl
structure Meth(K:Yi)(C:ZX)(m:Str)(f:ZX):Prop where
 at_:Y4 K (.ref C) m^some (.ref f)
 fn:isFn K (.ref f)
 kp:Zk K (.ref f)
section
variable{X:Cx}{Cr:Jr}{σ:St}{H:Hp}{s:ti}{a C dx:ZX}{fs:List (Str×V)}{f:Str}{v:V}{A:Ys}{E:gJ}
def rQ{b:Bool}(I:!H s)(e:H a^.ins C dx fs)(c:ph X.K C)(n:c8 X.K C f)(l:fs.lookup f^v)
  (h:∀u s',!H s'->zH v u->Q u s'):wpAny X.16 A (getAttr (.ref a) f b) Q E s:=by
 let#[mA,O,r,_,_,_]:=qd I.bK e;let#[u,F,ru]:=jS.some_of (v:=v) (o:=mA f) (by rw[<-l];show r f);show get_map I.jY O (c.get f) c.hd n F (Srt ru) (h u _ (I.tok _) ru)
def iK{m:Str}{g:ZX}{Q:xr×List xr->ti->Prop}(I:!H s)(e:H a^.ins C dx fs)(c:ph X.K C)(k:Meth X.K C m g)(l:fs.lookup m=none)
  (h:Q (.ref g,[.ref a]) s):wpAny X.16 A (getMethod (.ref a) m pl) Q E s:=by
 let#[mA,O,r,_,_,_]:=qd I.bK e;let F:mA m=none:=jS.none_of (by rw[<-l];show r m);show ad7 I.jY O (c.get m) k.at_ k.fn F h
theorem rK{Q:Unit->ti->Prop}(I:!H s)(e:H a^.ins C dx fs)(c:ph X.K C)(n:c8 X.K C f)(hl:fs.9<1000)(U:zH y u)
  (h:∀s',!(QZ H a (.ins C dx (bI f y fs))) s'->Q () s'):wpAny X.16 A (setAttr (.ref a) f u) Q E s:=by
 let#[mA,O,r,wi,_,G]:=qd I.bK e;let hz:(fs.map (·.1)).9<=yr:=(by rw[si,HC];lia);show zA7 I.jY O c.sa c.po n.Qg c.hd wi hz λh' F sb=>h _ ?_;let hd:∃o,h'.get? dx^o:=let ⟨o,_,_,Z,_⟩:=F.ns;#[o,Z];show I.write (x:=a) (e:=dx) (ZI<*e) (.inr G) (λb q L z=>(sb.2 b L).trans z) hd ?_;show#[G<*au O.ne,?_,O.ne,F.obj,_,F.ns,λg=>?_,λg Y=>?_]
 .have:=pj f y fs;lia
 .change jS ((bI f y fs).lookup g) (if g=f then some u else mA g);rw[aS];cases q:g=f
  .rw[C' q,C' q];show U
  .rw[vr q,vr q];show r g
 .cases q:g=f
  .rw[q];show(nQ f y fs).1
  .show(nQ f y fs).2 g (wi g λz=>Y ?_);change(if g=f then some u else mA g)=none;rw[vr q];show z
def Inv.made(I:!H s):!(QZ (QZ H s.13 (.own (s.13+1))) (s.13+1) (.ins C s.13 []))
  { s with heap:=(s.heap.push emptyDict).push (instObj C s.13) }:=by
 let F:(s.heap.push emptyDict).get? s.13^emptyDict:=qZ s.heap rfl;let L:((s.heap.push emptyDict).push (instObj C s.13)).get? (s.13+1)^(instObj C s.13):=by
  have:=qZ (s.heap.push emptyDict) (o:=instObj C s.13) rfl
  (rw[G1]at this;assumption)
 let e3:(s.heap.push emptyDict).Ns s.13 (λ_=>none):=#[emptyDict, ([].8),_,F,rfl,(λe Y=>D9 Y J0),λ_=>rfl];let G:=I.laid (a:=s.13) (o:=.own (s.13+1)) (h':=s.heap.push emptyDict) (t':=s.toks) (λb u q=>aV _ q) (BY _) #[_,F];show G.laid (a:=s.13+1) (o:=.ins C s.13 []) (t':=s.toks) (λb u q=>aV _ q) (vS (G1 _ _)) ?_;let ne:s.13≠s.13+1:=Za (Oy _);show#[by rw[au ne,ag],Zy _,ne,L,λ_=>none,(Heap.Ns1.of_empty e3).at λo q=>aV _ q,λ_=>ZI,λy U=>D9 rfl U]
def aax{env:Env}(G:Rt e f env (eval e env)=eval e env)
  (h:wpAny w.16 A (eval e env) (λo F=>wpAny w.16 A (getAttr o f true) Q E F) E s):wpAny w.16 A (eval (.Attribute e f Yb) env) Q E s :=
 Attribute_any_ h (by rw[arm_eval_Attribute,G])
end
mutual
inductive aa0(K:Yi)(ta:TE)(f:Str)(Q:VK)(x:V)(H1:Hp):Prop
 |mk(a C dx fs v:_)(_:x=.ref a)(_:H1 a^.ins C dx fs)(_:ph K C)(_:c8 K C f)(_:fs.lookup f^v)(_:Q v H1)
def abj(K:Yi)(ta:TE)(f:Str):TE:=λσ H Q=>ta σ H λx H1=>aa0 K ta f Q x H1
def abH(K:Yi)(ta tv:TE)(f:Str):TS:=λD σ H=>tv σ H λy H1=>ta σ H1 λx H2=>SO λa C dx fs=>HG (x=.ref a) (H2 a^.ins C dx fs) (ph K C) (c8 K C f) (fs.9<1000) (D.nx σ (QZ H2 a (.ins C dx (bI f y fs))))
def IQ(X:Cx)(F:IG)(rd:V->V->Hp->VK->Prop):=
 ∀(Cr:Jr)(s:ti)(σ:St)(H:Hp)(x y:V)(u v:xr)(Q:VK),!H s->zH x u->zH y v->rd x y H Q->↑(inplaceOp F u v) (EP X Cr σ Q) X.xe s
def ab9(K:Yi)(ta tv:TE)(rd:V->V->Hp->VK->Prop)(f:Str):TS:=λD σ H=>ta σ H λx H1=>Pz λa C dx fs v=>HG (x=.ref a) (H1 a^.ins C dx fs) (ph K C) (c8 K C f) (fs.lookup f^v) (tv σ H1 λy H2=>rd v y H2 λz F=>∃G kX,F a^.ins C G kX/\kX.9<1000/\D.nx σ (QZ F a (.ins C G (bI f z kX))))
def aH(U:PE X e ta)(F:Rt e f X.env (eval e X.env)=eval e X.env):PE X (.Attribute e f Yb) (abj X.K ta f):=by
 intros Q I h;show aax F (b9 (U Cr s σ H _ I h) λu s1 Y=>?_);let#[x,H1,L,G,a,C,dx,fs,v,ex,Z,c,n,l,q]:=Y;subst ex;obtain rfl:u=Value.ref a:=G;show rQ L Z c n l λu' s2 I2 ru=>#[v,H1,I2,ru,q]
variable{o value:YD}{tv:TE}
def di(ha:PE X o ta)(hv:PE X value tv)(hs:CC value (some (.Attribute o f pos')) Yb.line X.env=pure false):PS X (.Assign [.Attribute o f pos'] value Yb) (abH X.K ta tv f):=by
 intros D I h;show plainObj_wpAny_Assign_Attribute (b9 (hv Cr s σ H _ I h) λu U ab=>?_) hs;let#[y,H1,F,Y,q]:=ab;show b9 (ha Cr U σ H1 _ F q) λov s2 Z=>?_;let#[x,H2,L,rx,a,C,dx,fs,ex,ea,c,n,l,q2]:=Z;subst ex;obtain rfl:ov=Value.ref a:=rx;show rK L ea c n l Y λs3 G=>#[σ,_,G,q2]
def aah{tpos:Pos}{F:IG}{rd:V->V->Hp->VK->Prop}(ha:PE X o ta)(hv:PE X value tv)(U:IQ X F rd):PS X (.AugAssign (.Attribute o f tpos) F value Yb) (ab9 X.K ta tv rd f):=by
 intros D I h;show wpAny_AugAssign_AttributeAny (b9 (ha Cr s σ H _ I h) λov s1 ac=>?_);let#[x,H1,L,rx,a,C,dx,fs,v,ex,ea,c,n,l,q]:=ac;subst ex;obtain rfl:ov=Value.ref a:=rx;show rQ L ea c n l λu Z I2 ru=>b9 (hv Cr Z σ H1 _ I2 q) λw3 s3 ad=>?_;let#[y,H2,Y,ry,q3]:=ad;show b9 (U Cr s3 σ H2 v y u w3 _ Y ru ry q3) λadV s4 ab=>?_;let#[z,H3,G,rz,ap,kX,am,l',q4]:=ab;show rK G am c n l' rz λs5 I5=>#[σ,_,I5,q4]
inductive aaT(x y:V)(H:Hp)(Q:VK):Prop
 |mk(i j:_)(_:x=.int i)(_:y=.int j)(_:Q (.int (i+j)) H)
inductive ab4(x y:V)(H:Hp)(Q:VK):Prop
 |mk(i j:_)(_:x=.int i)(_:y=.int j)(_:Q (.int (i-j)) H)
def aeK:IQ X .Add aaT:=by
 rintro Cr s σ H x y u v Q I F G ⟨i,j,rfl,rfl,q⟩;let#[t,rfl]:=(show ∃t,u=Value.int i t from F);let#[t',rfl]:=(show ∃t',v=Value.int j t' from G);show iadd_int #[.int (i+j),120]
def DW:IQ X .Sub ab4:=by
 rintro Cr s σ H x y u v Q I F G ⟨i,j,rfl,rfl,q⟩;let#[t,rfl]:=(show ∃t,u=Value.int i t from F);let#[t',rfl]:=(show ∃t',v=Value.int j t' from G);show isub_int #[.int (i-j),120]
inductive ny(K:Yi)(H:Hp):V->xr->Prop where
 |bu:ny K H .bu (.type "NoneType")
 |bl(x:Bool):ny K H (.bl x) (.type "bool")
 |int(i:Int):ny K H (.int i) (.type "int")
 |str(x:Str):ny K H (.str x) (.type "str")
 |flt(x:UInt64):ny K H (.flt x) (.type "float")
 |lst {a:ZX}{xs:vl}(e:H a%xs):ny K H (.ref a) (.type "list")
 |frz {a:ZX}{o:Obj}{xs:vl}(e:H a^.frz o (.lst xs)):ny K H (.ref a) (.type "list")
 |tup {a:ZX}{xs:vl}(e:H a|||xs):ny K H (.ref a) (.type "tuple")
 |dK {a:ZX}{Ki:nI}(e:H a^^^Ki):ny K H (.ref a) (.type "dict")
 |dT {a:ZX}{Ki:List (List Key×V)}(e:H a^.dT Ki):ny K H (.ref a) (.type "dict")
 |ins {a C dx:ZX}{fs:List (Str×V)}(e:H a^.ins C dx fs) (cl:ph K C) (ha:Y4 K (.ref C) "__class__" = some (some (.builtin "object.__class__")))
   (hn:XX K (.builtin "object.__class__") "__get__" = some (some (.builtin "getset_descriptor.__get__"))) (htk:RH K (.builtin "object.__class__")^true)
   (hm:Cz K C (.type "object")^true):ny K H (.ref a) (.ref C)
def aam{c:xr}{b:Bool}{x:V}{t:xr}(I:!H s)(F:zH x u)(ty:ny X.K H x t)(e:YT X.K t c^b)(h:∀tk,Q (.bool b) { s with toks:=tk }) :
  wpAny X.16 A (call (.builtin "isinstance") [u,c]) Q E s:=by
 cases ty with
 |bu=>cases(show u=Value.none from F);show Zl PySem.W.kitx_none I.jY ZI e (λz=>nomatch z) h
 |bl y=>cases(show u=Value.bool y from F);show Zl PySem.W.kitx_bool I.jY ZI e (λz=>nomatch z) h
 |int i=>let#[t,q]:=(show ∃t,u=Value.int i t from F);cases q;show Zl PySem.W.kitx_int I.jY ZI e (λz=>nomatch z) h
 |str y=>let#[t,q]:=(show ∃t,u=Value.str y t from F);cases q;show Zl PySem.W.kitx_str I.jY ZI e (λz=>nomatch z) h
 |flt y=>let#[t,q]:=(show ∃t,u=Value.float y t from F);cases q;show Zl PySem.W.kitx_float I.jY ZI e (λz=>nomatch z) h
 | @lst a xs G =>
  cases(show u=Value.ref a from F);let#[_,_,n,_,h1]:=(show cz X.prog X.w H s.heap a (.lst xs)from I.bK a _ G);show Zl kitx_list I.jY #[_,h1,rfl] e (λz=>nomatch z) h
 | @frz a U xs G =>
  cases(show u=Value.ref a from F);let#[_,_,_,n,_,h1]:=(show cz X.prog X.w H s.heap a (.frz U (.lst xs))from I.bK a _ G);show Zl kitx_list I.jY #[_,h1,rfl] e (λz=>nomatch z) h
 | @tup a xs G =>
  cases(show u=Value.ref a from F);let#[_,_,_,p]:=(show cz X.prog X.w H s.heap a (.tup xs)from I.bK a _ G);let#[o,h1,h2,_]:=p;show Zl PySem.W.kitx_tuple I.jY #[o,h1,h2] e (λz=>nomatch z) h
 | @dK a Ki G =>
  cases(show u=Value.ref a from F);let#[_,_,vs,_,p]:=(show cz X.prog X.w H s.heap a (.dK Ki)from I.bK a _ G);let#[o,es,ep,h1,h2,_]:=p;show Zl kitx_dict I.jY #[o,h1,h2.1] e (λz=>nomatch z) h
 | @dT a Ki G =>
  cases(show u=Value.ref a from F);let#[_,_,xs,_,o,es,ep,h1,h2,_]:=(show cz X.prog X.w H s.heap a (.dT Ki)from I.bK a _ G);show Zl kitx_dict I.jY #[o,h1,h2.1] e (λz=>nomatch z) h
 | @ins a C dx fs G cl ha Y L Z =>
  cases(show u=Value.ref a from F);let#[mA,O,_]:=qd I.bK G;let#[od,H',_]:=O.look;show Zl (PySem.W.kitx_own (cl.get _) cl.hd ha Y L Z) I.jY H' e (λz=>nomatch z) h
structure cZ(k:Nat)(A:Ys):Prop where
 hd:A.handled=none
 dp:A.depth+3*k+5<wF
 un:A.units+16*k+200<ff
variable{j k:Nat}
theorem cZ.mono(r:cZ k A)(h:j<=k):cZ j A:=#[r.hd,by have:=r.dp;lia,by have:=r.un;lia]
theorem cZ.deeper(r:cZ (k+1) A)(env:Env):cZ k (A.deeper env):=
 #[r.hd,by have:=r.dp;change A.depth+1+3*k+5<_;lia,by have:=r.un;change A.units+3+16*k+200<_;lia]
variable{F:List (Str×xr)}
def aaw:(A.under (.builtin "type.__call__" #[.ref C::us,F])).depth=A.depth+1:=by
 first|rfl|simp[NK,Code.weight,Code.isCreation,Code.isGuard,Code.isCaller,Code.frames,uF,guardIds]
def aaI:(A.under (.builtin "type.__call__" #[.ref C::us,F])).units=A.units+1:=by
 first|rfl|simp[NK,Code.cUnits,Code.frames,uF]
theorem cZ.make(r:cZ (k+1) A)(C:ZX)(us:WX)(F:List (Str×xr)):cZ k (A.under (.builtin "type.__call__" #[.ref C::us,F])):=
 #[r.hd,by have:=r.dp;rw[aaw];lia,by have:=r.un;rw[aaI];lia]
theorem cZ.depth(r:cZ k A):A.depth<wF:=by have:=r.dp;lia
theorem cZ.units(r:cZ k A):A.units+64<ff:=by have:=r.un;lia
theorem cZ.ET(r:cZ k A):A.units<ff:=by have:=r.un;lia
def wV:TA:=λ_ H Q=>Q [] H
def wN(ta:TE)(tr:TA):TA:=λσ H Q=>ta σ H λx H1=>tr σ H1 λxs H2=>Q (x::xs) H2
def ae:PA X [] wV:=λ_ _ _ _ H Q I h=>Calls.spliced_nil #[[],H,I,.nil,h]
variable{t:TA}
def aa(ha:PE X e te)(U:PA X es t)(hs:%[iL X e es|0]):PA X (e::es) (wN te t):=by
 intro Yb Cr s σ H Q I h;rw[hs];change wpAny _ _ (pS ((false,eval e X.env)::backTo Yb es.15)) _ _ s;show Calls.spliced_cons (b9 (ha Cr s σ H _ I h) λu Y ab=>?_);let#[x,H1,Z,L,q1]:=ab;show b9 (U Yb Cr Y σ H1 _ Z q1) λus s2 G=>by let#[xs,H2,F,r2,q2]:=G;show#[x::xs,H2,F,.cons L r2,q2]
def aaW(t:TA):TE:=λσ H Q=>t σ H λxs H1=>xs.9<=yr/\∀p,H1 p=none->Q (.ref p) (QZ H1 p (.tup xs))
def P7(t:TA):TE:=λσ H Q=>t σ H λxs H1=>xs.9<=yr/\∀p,H1 p=none->Q (.ref p) (QZ H1 p (.lst xs))
def qAf{x1}(h:PA X es t):PE X (.Tuple es x1 Yb) (aaW t):=by
 intros Q I Y;show aea (b9 (h Yb Cr s σ H _ I Y) λus F U=>?_);let#[xs,H1,G,r,z,q]:=U;show#[by rw[<-r.9];show z,?_];let L:H1 F.13=none:=G.bK.fresh (BY _);show#[.ref F.13,QZ H1 F.13 (.tup xs),130,q _ L];show#[z,us,r,#[_,42,rfl,0]]
def bw(h:PA X es t):PE X (.List es Yb) (P7 t):=by
 intros Q I Y;show wpAny_List_spliced (b9 (h Yb Cr s σ H _ I Y) λus F L=>?_);let#[xs,H1,G,r,z,q]:=L;show#[by rw[<-r.9];show z,?_];let U:H1 F.13=none:=G.bK.fresh (BY _);show#[.ref F.13,QZ H1 F.13 (.lst xs),130,q _ U];show#[z,us,(0),r,42]
abbrev Sp:=List V->Hp->VK->XK->Prop
abbrev pJ:=List Env->Hp->ti->XK->xr->ti->Prop
structure uJ(P:By)(w:L3)(K:Yi)(mg:j5)(base:Heap)(A:Ys)(outer:List Env)(s:ti)(H:Hp):Prop where
 frames:A.frames^outer
 mod:Mod K mg base
 bs:∀b o,base.get? b^o->s.heap.get? b^o/\H b=none
 Dl:base.objs.3<=s.13
 kP:s.heap.FunFrames base outer
 HM:∀b∈sC outer,H b=none
 bK:kY P w H s.heap
 bare:ig s.gens
def CE(outer:List Env)(P:By)(w:L3)(H:Hp)(s:ti)(Q:VK)(u:xr)(s':ti):=
 ∃v J,s'.os=s.os/\ig s'.gens/\Un (sC outer) [] H J s.heap s'.heap/\kY P w J s'.heap/\zH v u/\Q v J
def CR(CX:pJ)(outer:List Env)(P:By)(w:L3)(H:Hp)(s:ti)(Q:VK)(E:XK)(r:Result)(s':ti):Prop :=
 match r with
 |.ok (.ret u)=>CE outer P w H s Q u s'
 |.ok _=>False
 |.error e=>CX outer H s E e s'
structure aO(P:By)(w:L3)(K:Yi)(mg:j5)(base:Heap)(CX:pJ)(k:Nat)(f:ZX)(fd:C6)(ps:gq)(sp:Sp):Prop where
 len:∀vs H Q E,sp vs H Q E->vs.9=ps.9
 run:∀(A:Ys)(outer:List Env)(s:ti)(H:Hp)(args:Args)(us:WX)(vs:vl)(Q:VK)(E:XK),cZ k A->uJ P w K mg base A outer s H->Uz s fd args (ps.zip us)->Si vs us->sp vs H Q E ->
  Ez (model P w) A (.call (.ref f) args) (CR CX outer P w H s Q E) s
variable{mg:j5}{base:Heap}{CX:pJ}{f:ZX}{fd:C6}{ps:gq}{sp:Sp}
theorem aO.mono(F:aO P w K mg base CX j f fd ps sp)(h:j<=k) :
  aO P w K mg base CX k f fd ps sp:=#[F.len,λA outer s H args us vs Q E G=>F.run A outer s H args us vs Q E (G.mono h)]
def aO.imp{G:Sp}(F:aO P w K mg base CX k f fd ps sp)
  (h:∀vs H Q E,G vs H Q E->sp vs H Q E):aO P w K mg base CX k f fd ps G :=
 #[λvs H Q E q=>F.len vs H Q E (h _ _ _ _ q),λA outer s H args us vs Q E I U L Y hs=>F.run A outer s H args us vs Q E I U L Y (h _ _ _ _ hs)]
variable{outer:List Env}
def uJ.make(e:uJ P w K mg base A outer s H)(C:ZX)(us:WX)(F:List (Str×xr)) :
  uJ P w K mg base (A.under (.builtin "type.__call__" #[.ref C::us,F])) outer s H:=#[by first|show e.frames|(simpa[NK,Code.envs,uF,pushEnvs]using e.frames),e.mod,e.bs,e.Dl,e.kP,e.HM,e.bK,e.bare]
def Inv.Oq(I:!H s):uJ X.prog X.w X.K X.mg X.base X.A X.stack s H :=
 #[I.ok.frames,I.ok.mod,I.bs,Oi I.ok.Dl I.sz,I.stack,I.uj,I.bK,I.bare]
variable{Q:VK}
def Inv.after(I:!H s)(h:CE X.stack X.prog X.w H s Q u s'):EP X Cr σ Q u s':=by
 let#[v,J,os,bare,un,L,r,q]:=h;let#[F,g,d,t,G]:=s';obtain rfl:G=s.os:=os;show#[v,J,I.call (h':=F) (g':=g) (d':=d) (t':=t) (ch:=[]) un L bare (λb z=>D9 z J0),r,q]
def Em(sp:Sp)(dvs:vl)(E:XK)(t:TA):TE:=λσ H Q=>t σ H λvs H1=>sp (vs++dvs) H1 Q E
inductive G8(C:ZX)(m:Str)(sp:Sp)(dvs:vl)(E:XK)(ta:TE)(t:TA)(σ:St)(Q:VK)(x:V)(H1:Hp):Prop
 |mk (a dx fs:_) (_:x=.ref a) (_:H1 a^.ins C dx fs) (_:fs.lookup m=none) (_:t σ H1 λvs H2=>sp (x::(vs++dvs)) H2 Q E):G8 C m sp dvs E ta t σ Q x H1
def wW(C:ZX)(m:Str)(sp:Sp)(dvs:vl)(E:XK)(ta:TE)(t:TA):TE:=λσ H Q=>ta σ H λx H1=>G8 C m sp dvs E ta t σ Q x H1
def aaX(C:ZX)(sp:Sp)(dvs:vl)(E:XK)(t:TA):TE:=λσ H Q=>t σ H λvs H1=>∀x dx,H1 x=none->H1 dx=none->dx≠x ->
 sp (.ref x::(vs++dvs)) (QZ (QZ H1 dx (.own x)) x (.ins C dx [])) (λv H2=>v=.bu/\Q (.ref x) H2) E
def Nl(K:Yi)(fd:C6)(ps:gq)(ds:WX):=
 ∀(s:ti)(us:WX),K.In s.heap->(us++ds).9=ps.9->Uz s fd #[us,[]] (ps.zip (us++ds))
def Nl.all(h:∀us:List xr,us.9=ps.9->EC fd #[us,[]]=pure (ps.zip us)):Nl K fd ps []:=λs us _ F=>by
 rw[Yw]at F ⊢;show .of_eq (h us F)
def Passes(CX:pJ)(X:Cx)(E:XK):=∀(Cr:Jr)(σ:St)(H:Hp)(s:ti)(e:xr)(s':ti),!H s->CX X.stack H s E e s'->X.xe e s'
variable{dvs:vl}{ds:WX}{E:XK}{vs:vl}
def Ax{U:gJ}(F:aO X.prog X.w X.K X.mg X.base CX k f fd ps sp)(Z:cZ k X.A)(hb:Nl X.K fd ps ds)(hd:Si dvs ds)(hx:∀e s',CX X.stack H s E e s'->U e s')
  (I:!H s) (r:Si vs us) (h:sp (vs++dvs) H Q E):↑(call (.ref f) us) (EP X Cr σ Q) U s:=by
 let L:Si (vs++dvs) (us++ds):=r.append hd;let Y:(us++ds).9=ps.9:=(by rw[<-L.9];show F.len _ _ _ _ h);show E5 (wC (F.run X.A X.stack s H #[us,[]] (us++ds) (vs++dvs) Q E Z I.Oq (hb s us I.jY Y) L h) λr s' G=>?_);cases r with
 |error e=>show hx e s' G
 |ok fl =>
  cases fl with
  |ret u=>show I.after G
  |next=>show Zc G
  |brk=>show Zc G
  |cont=>show Zc G
def vO(F:aO X.prog X.w X.K X.mg X.base CX k f fd ps sp)(G:cZ k X.A)(L:Nl X.K fd ps ds)(hd:Si dvs ds)(hx:Passes CX X E)
  (I:!H s) (r:Si vs us) (h:sp (vs++dvs) H Q E):↑(call (.ref f) us) (EP X Cr σ Q) X.xe s :=
 Ax F G L hd (λe s' q=>hx Cr σ H s e s' I q) I r h
variable{x:Str}
def acf(F:aO X.prog X.w X.K X.mg X.base CX k f fd ps sp)(L:cZ k X.A)(hg:Gl X x)(hm:X.mg x^.ref f)(hk:Zk X.K (.ref f))(Z:Nl X.K fd ps ds)(hd:Si dvs ds)(hx:Passes CX X E)
  (ha:PA X (e::es) t) (ab:%[x.14|0]) (he:%[iL X e es|0]) (Y:%[(backTo Yb es.15).any (·.1)=false|0]) :
  PE X (.Call (.Name x p) (e::es) [] Yb) (Em sp dvs E t):=by
 intros Q I h;show Z3 (i9 I hg hm ?_ ab);show Ex (h₀:=X.base) I.ok.mod.FK hk (b9 (ha Yb Cr s σ H _ I h) λus s1 U=>?_) he Y;let#[vs,H1,G,r,q]:=U;show#[G.jY,?_];show vO F L Z hd hx G r q
abbrev Ph(X:Cx)(o:YD)(m:Str)(apos Yb:Pos)(pl:Sem Bool)(F:fK):Prop:=eval (.Call (.Attribute o m apos) F [] Yb) X.env=(do
   let ov <-eval o X.env
   X6 apos.atName
   let (f,first) <-y7 [ov] (getMethod ov m pl)
   Q' Yb f first (backTo Yb (starEach F X.env)) (Xz Yb (KU [] X.env)))
variable{m:Str}{apos:Pos}
def mz(he:PE X o ta)(c:ph X.K C)(U:Meth X.K C m f)(F:aO X.prog X.w X.K X.mg X.base CX k f fd ps sp)(hr:cZ k X.A)(hb:Nl X.K fd ps ds)(hd:Si dvs ds)(hx:Passes CX X E)(ha:PA X (e::es) t)
  (ac:%[iL X e es|0]) (Y:%[(backTo Yb es.15).any (·.1)=false|0])
  (Z:%[Ph X o m apos Yb pl (e::es)|0]) :
  PE X (.Call (.Attribute o m apos) (e::es) [] Yb) (wW C m sp dvs E ta t):=by
 intros Q I h;show Jc (pl:=pl) (b9 (he Cr s σ H _ I h) λu s1 ad=>?_) Z;let#[x,H1,G,rx,a,dx,fs,ex,ea,l,q]:=ad;subst ex;obtain rfl:u=Value.ref a:=rx;show iK G ea c U l ?_;show Ex (first:=[.ref a]) (h₀:=X.base) I.ok.mod.FK U.kp (b9 (ha Yb Cr s1 σ H1 _ G q) λus s2 ab=>?_) ac Y;let#[vs,H2,L,r,q2]:=ab;show#[L.jY,?_];show vO (us:=.ref a::us) (vs:=.ref a::vs) F hr hb hd hx L (.cons rfl r) q2
def acU(he:PE X o ta)(c:ph X.K C)(L:Meth X.K C m f)(F:aO X.prog X.w X.K X.mg X.base CX k f fd ps sp)(U:cZ k X.A)(Z:Nl X.K fd ps ds)(hd:Si dvs ds)(hx:Passes CX X E)
  (Y:%[Ph X o m apos Yb pl []|0]) :
  PE X (.Call (.Attribute o m apos) [] [] Yb) (wW C m sp dvs E ta wV):=by
 intros Q I h;show Jc (pl:=pl) (b9 (he Cr s σ H _ I h) λu s1 ab=>?_) Y;let#[x,H1,G,rx,a,dx,fs,ex,ea,l,q]:=ab;subst ex;obtain rfl:u=Value.ref a:=rx;show iK G ea c L l ?_;show wg (first:=[.ref a]) G.jY L.kp (vO (us:=[.ref a]) (vs:=[.ref a]) F U Z hd hx G (.cons rfl .nil) q)
structure Mk(K:Yi)(C f:ZX):Prop where
 makes:makesIn K C
 init:Y4 K (.ref C) "__init__" = some (some (.ref f))
 fn:isFn K (.ref f)
 kp:Zk K (.ref C)
def adU(M:Mk X.K C f)(F:aO X.prog X.w X.K X.mg X.base CX k f fd ps sp)(hr:cZ (k+1) X.A)(Z:Nl X.K fd ps ds)(hd:Si dvs ds)
  (hx:Passes CX X E) (I:!H s) (r:Si vs us)
  (h:∀x dx,H x=none->H dx=none->dx≠x->sp (.ref x::(vs++dvs)) (QZ (QZ H dx (.own x)) x (.ins C dx [])) (λv H2=>v=.bu/\Q (.ref x) H2) E) :
  ↑(call (.ref C) us) (EP X Cr σ Q) X.xe s:=by
 let U:=h (s.13+1) s.13 (I.bK.fresh (uO _)) (I.bK.fresh (BY _)) (Za (Oy _));let L:=Inv.made (C:=C) I;let Y:Si (V.ref (s.13+1)::(vs++dvs)) (Value.ref (s.13+1)::(us++ds)):=.cons rfl (r.append hd);let hl:(Value.ref (s.13+1)::us++ds).9=ps.9:=by
  let e:=Y.9;rw[F.len _ _ _ _ U]at e;show e.6
 show E5 (zA9 (f:=f) I.jY M.makes M.init (beq_iff_eq.mp M.fn) (wC (F.run _ X.stack _ _ #[Value.ref (s.13+1)::us,[]] (Value.ref (s.13+1)::(us++ds)) _ _ E (hr.make C us [])
  (L.Oq.make C us []) (Z _ (Value.ref (s.13+1)::us) L.jY hl) Y U) λr s' G=>?_))
 cases r with
 |error e=>show hx Cr σ _ _ e s' L G
 |ok fl =>
  cases fl with
  |ret u =>
   let#[v,J,I3,rv,ev,q3]:=L.after G;subst ev;show#[rv,#[V.ref (s.13+1),J,I3,rfl,q3]]
  |next=>show Zc G
  |brk=>show Zc G
  |cont=>show Zc G
def qAg(M:Mk X.K C f)(F:aO X.prog X.w X.K X.mg X.base CX k f fd ps sp)(L:cZ (k+1) X.A)(Z:Gl X x)(hm:X.mg x^.ref C)(Y:Nl X.K fd ps ds)(hd:Si dvs ds)(hx:Passes CX X E)
  (ha:PA X (e::es) t) (ac:%[x.14|0]) (he:%[iL X e es|0]) (U:%[(backTo Yb es.15).any (·.1)=false|0]) :
  PE X (.Call (.Name x p) (e::es) [] Yb) (aaX C sp dvs E t):=by
 intros Q I h;show Z3 (i9 I Z hm ?_ ac);show Ex (h₀:=X.base) I.ok.mod.FK M.kp (b9 (ha Yb Cr s σ H _ I h) λus s1 ab=>?_) he U;let#[vs,H1,G,r,q]:=ab;show#[G.jY,?_];show adU M F L Y hd hx G r q
structure aA(N P:gq)(sc:iM):Prop where
 kind:sc.kind=.function
 co:sc.isCoroutine=false
 gen:sc.isGenerator=false
 nd:N.4
 pre:N.take P.9=P
 par:∀x∈P,sc.names.lookup x^.local\/sc.names.lookup x=some .cell
 Mc:∀y∈sc.names,y.2≠.free
variable{F:iM}
def bo{P:gq}(a:%[F.kind=.function|0])(b:%[F.isCoroutine=false|0])(c:%[F.isGenerator=false|0])(d:N.4:=by decide +kernel)(e:%[N.take P.9=P|0])(f:∀x∈P,F.names.lookup x^.local\/F.names.lookup x=some .cell:=by decide +kernel)(g:∀y∈F.names,y.2≠.free:=by decide +kernel):aA N P F:=#[a,b,c,d,e,f,g]
theorem tN{kindOf:Str->Option NameKind}{x:Str}:∀{binds:List (Str×xr)}{m:j5},(∀v,(x,v)∉binds)->bindL kindOf binds m x=m x
 | [],_,_=>rfl
 |(n,v)::r,m,h=>by
  unfold bindL;rw[tN λw F=>h w (Yp _ F)];split
  .have:x≠n:=(by rintro rfl;show h v Yn);simp[this]
  .rfl
theorem ug{kindOf:Str->Option NameKind}{x:Str}:∀{binds:List (Str×xr)}{m:j5},(∀v,(x,v)∉binds)->bindC kindOf binds m x=m x
 | [],_,_=>rfl
 |(n,v)::r,m,h=>by
  unfold bindC;rw[ug λw F=>h w (Yp _ F)];split
  .rfl
  .have:x≠n:=(by rintro rfl;show h v Yn);simp[this]
theorem tF{kindOf:Str->Option NameKind}{x:Str}{v:xr}:∀{P:gq}{vs:WX}{i:Nat}{m:j5},P.4->P[i]?^x->vs[i]?^v->kindOf x=some .local ->
  bindL kindOf (P.zip vs) m x^v
 | [],_,_,_,_,h,_,_=>by simp at h
 |_::_,[],_,_,_,_,h,_=>by simp at h
 |p::P,w::vs,0,m,nd,h1,h2,hk=>by
  simp at h1 h2;subst h1;subst h2;change bindL kindOf ((p,w)::P.zip vs) m p=_;unfold bindL;rw[tN λv F=>(YZ.mp nd).1 (a' F).1,C' hk];simp
 |p::P,w::vs,i+1,m,nd,h1,h2,hk=>by
  change bindL kindOf ((p,w)::P.zip vs) m x=_;unfold bindL;show tF (i:=i) (YZ.mp nd).2 ‹h1› ‹h2› hk
theorem ue{kindOf:Str->Option NameKind}{x:Str}{v:xr}:∀{P:gq}{vs:WX}{i:Nat}{m:j5},P.4->P[i]?^x->vs[i]?^v->kindOf x≠some .local ->
  bindC kindOf (P.zip vs) m x^v
 | [],_,_,_,_,h,_,_=>by simp at h
 |_::_,[],_,_,_,_,h,_=>by simp at h
 |p::P,w::vs,0,m,nd,h1,h2,hk=>by
  simp at h1 h2;subst h1;subst h2;change bindC kindOf ((p,w)::P.zip vs) m p=_;unfold bindC;rw[ug λv F=>(YZ.mp nd).1 (a' F).1,vr hk];simp
 |p::P,w::vs,i+1,m,nd,h1,h2,hk=>by
  change bindC kindOf ((p,w)::P.zip vs) m x=_;unfold bindC;show ue (i:=i) (YZ.mp nd).2 ‹h1› ‹h2› hk
def start(N:gq)(vs:vl):St:=vs.map some++Yl (N.9-vs.9) none
noncomputable def sG(CX:pJ)(P:By)(w:L3)(K:Yi)(mg:j5)(base:Heap)(N:gq)(qual:Str)(scope:iM)(f:ZX)(cd:xr)(A:Ys)(outer:List Env)(s:ti)(H:Hp)(E:XK):Cx where
 prog:=P
 w:=w
 K:=K
 mg:=mg
 base:=base
 A:=A.deeper (rB qual scope s.13 f cd)
 N:=N
 s₀:=s
 H₀:=H
 env:=rB qual scope s.13 f cd
 outer:=outer
 stack:=rB qual scope s.13 f cd::outer
 ex:=[]
 calm:=true
 fn:=λ_=>true
 pn:=[]
 xe:=λe s'=>wpAny (model P w) (A.deeper (rB qual scope s.13 f cd)) (leaving (rB qual scope s.13 f cd) e) (λ_ F=>CX outer H s E e F) (λG F=>CX outer H s E G F) s'
def wA(h:F.names.lookup x^.cell):∃c,(NX n F.names []).lookup x^c:=by
 let q:=E3 F.names n [] (.inl h);show uw.mp q
variable{qual:Str}{scope:iM}
theorem tI{cd:xr}{Y:ti}
  (S:aA N ps scope) (hd:A.handled=none) (F:uJ P w K mg base A outer s H) (hl:vs.9=ps.9) (r:Si vs us)
  (x:InCallC s s.13 (bindL (rB qual scope s.13 f cd).kindOf (ps.zip us) λ_=>none) (NX (s.13+1) scope.names []) (bindC (rB qual scope s.13 f cd).kindOf (ps.zip us) λ_=>none) Y) :
  Inv (sG CX P w K mg base N qual scope f cd A outer s H E) [] (start N vs) H Y:=by
 let ab:ps.9<=N.9:=(by have:=Ur YL S.pre;rw[Nx]at this;lia);let#[h1,tk,rfl,hk]:=x.done;let L:∀b:ZX,b∉(sG CX P w K mg base N qual scope f cd A outer s H E).ex:=λb z=>D9 (show b∈([]:JS)from z) J0;show#[#[F.mod,S.kind,1,BY _,λy z c h1 h2=>?_,λy G=>?_,λy c _ h=>?_,λ_=>hd,Around.frames_deeper F.frames,.inr #[1],λb z=>D9 z (L b),F.bs,F.Dl,λb _ _=>L b,λb z=>D9 z (L b),F.kP,F.HM],
  rfl,F.bare,Un.kept hk,#[_,x.toInCall.ns,λi y v h1 h2 h3=>?_],λy c h=>#[_,x.cell y c h],F.bK.fresh (BY _),λy c h=>?_,λp I=>D9 (show p∈([]:Jr)from I) J0,F.bK.kept hk,?_]
 .show name_of_addr x.apart (ZD h1) (ZD h2)
 .let G:scope.names.lookup y^.cell\/scope.names.lookup y=some .free:=G;obtain G|G:=G
  .show wA G
  .show D9 rfl (S.Mc _ (ZD G))
 .show Zm (x.above y c (ZD h))
 .let hi:i<vs.9:=by
   unfold start at h2;cases hi:i<vs.9
   .show hi
   .rw[Ya ‹hi›]at h2;rw[Xp]at h2;split at h2<;>cases h2
  let ha:vs[i]?^v:=by
   unfold start at h2;rw[Yo ‹hi›,IF]at h2;cases e:vs[i]? with
   |none=>rwa[e]at h2
   |some a=>rwa[e]at h2;rfl
  let#[u,U,rv]:=r.get ha;let I:ps[i]?^y:=by
   rw[<-S.pre,List.getElem?_take_of_lt ak];show h1
  let Z:ps.4:=(by rw[<-S.pre];show S.nd.sublist (MO _ _));show#[u,rv,?_];rcases S.par y (Yk I)with k|k
  .show .inl #[k,tF Z I U k]
  .let#[c,e]:=wA (n:=s.13+1) k;show .inr #[.inl k,c,e,?_];let q:=x.cell y c e;rw[ue Z I U (by change scope.names.lookup y≠_;rw[k];decide)]at q;show q
 .show F.bK.fresh (Zm (x.above y c (ZD h)))
 .unfold start;change _=N.9;rw[tp,si,Zg];lia
def K7{ab:Arguments}{dV kV ad pm F ct oc:xr}{an od:ro}
  {ay:Array (Option xr)}(lk:K.lookup f^#[oc,od,.func (fnOf name qual ab body scope dV kV ad pm an F ct),ay]) (aB:P5 K F qual) (S:aA N ps scope)
  (len:∀vs H Q E,sp vs H Q E->vs.9=ps.9)
  (ar:∀(A:Ys)(outer:List Env)(s:ti)(H:Hp)(vs:vl)(Q:VK)(E:XK),cZ k (A.deeper (rB qual scope s.13 f F))->sp vs H Q E ->
   ∃t,t9 (sG CX P w K mg base N qual scope f F A outer s H E) body t/\t { nx:=λ_ J=>Q .bu J,rt:=Q } (start N vs) H) :
  aO P w K mg base CX (k+1) f (fnOf name qual ab body scope dV kV ad pm an F ct) ps sp:=by
 show#[len,λA outer s H args us vs Q E Y G hb r ac=>?_];let hl:=len _ _ _ _ ac;let Z:K.In s.heap:=G.mod.FK.keeps λb o e=>(G.bs b o e).1;let am:s.heap.NoLimit:=G.mod.nolimit.keeps λb o e=>(G.bs b o e).1;let ap:∀y∈ps.zip us,scope.names.lookup y.1^.local\/(scope.names.lookup y.1^.cell/\((NX (s.13+1) scope.names []).lookup y.1).10=true):=λas hy=>by
  let#[n,v]:=as;obtain q|q:=S.par n (a' hy).1
  .show .inl q
  .show .inr #[q,E3 _ _ _ (.inl q)]
 show adu Y.depth (Z _ _ lk) rfl S.co S.gen rfl (codeRec_of Z aB) (hb _ _ _ _ ?_);show ab7 S.kind ap λenv he s1 x=>?_;subst he;show#[am.keeps x.toInCall.keep,codeAny_func ?_];let#[t,ht,hq]:=ar A outer s H vs Q E (Y.deeper _) ac;let I:Inv (sG CX P w K mg base N qual scope f F A outer s H E) [] (start N vs) H s1:=tI S Y.hd G hl r x;show YK (ht [] s1 (start N vs) H _ I hq) (λfl s' hs=>?_) λe s' hs=>hs;let fin:∀{L:St}{J:Hp}{v:V}{u:xr},Inv (sG CX P w K mg base N qual scope f F A outer s H E) [] L J s'->zH v u->Q v J->CE outer P w H s Q u s' :=
  λ{L J v u} H' U q=>#[v,J,H'.os,H'.bare,H'.base,H'.bK,U,q]
 cases fl with
 |ret u =>
  let#[v,L,J,H',U,q]:=hs;show fin H' U q
 |next =>
  let#[L,J,H',q]:=hs;show fin (v:=V.bu) (u:=Value.none) H' rfl q
 |brk =>
  let#[_,_,_,q]:=hs;show Zc q
 |cont =>
  let#[_,_,_,q]:=hs;show Zc q
def V7(r:List V->Hp->VK->Prop)(t:TA):TE:=λσ H Q=>t σ H λvs H1=>r vs H1 Q
variable{id:String}{r:List V->Hp->VK->Prop}
def aF(hc:cM X (.builtin id) r)(Z:Gl X x)(hm:X.mg x=none)(hv:YY x^.builtin id)(ha:PA X (e::es) t)(hn:x ≠ "__name__" := by decide)(Y:%[x.14|0])
  (he:%[iL X e es|0]) (L:%[(backTo Yb es.15).any (·.1)=false|0]):PE X (.Call (.Name x p) (e::es) [] Yb) (V7 r t):=by
 intros Q I h;show Z3 (kh I Z hm hv ?_ hn Y);show PyProof.Rows.callWith_builtin1 (b9 (ha Yb Cr s σ H _ I h) λus U F=>by let#[vs,H1,I1,G,q1]:=F;show hc Cr U σ H1 vs us Q I1 G q1) he L
variable{T:String}
def d9(hc:cM X (.type T) r)(Z:Gl X x)(hm:X.mg x=none)(hv:YY x^.type T)(ha:PA X (e::es) t)(hn:x ≠ "__name__" := by decide)(Y:%[x.14|0])
  (he:%[iL X e es|0]) (L:%[(backTo Yb es.15).any (·.1)=false|0]):PE X (.Call (.Name x p) (e::es) [] Yb) (V7 r t):=by
 intros Q I h;show Z3 (kh I Z hm hv ?_ hn Y);show Zj (b9 (ha Yb Cr s σ H _ I h) λus U F=>by let#[vs,H1,I1,G,q1]:=F;show hc Cr U σ H1 vs us Q I1 G q1) he L
abbrev TO:=St->Hp->(Option Int->Hp->Prop)->Prop
def PO(X:Cx)(e:Option YD)(t:TO):=
 ∀(Cr:Jr)(s:ti)(σ:St)(H:Hp)(Q:Option Int->Hp->Prop),!H s->t σ H Q ->
  ↑(evalPart e X.env) (λu s'=>∃o J,!J s'/\IsPart u o/\Q o J) X.xe s
def Bm:TO:=λ_ H Q=>Q none H
def Ll(t:TE):TO:=λσ H Q=>t σ H λx H1=>∃i,x=.int i/\Q (some i) H1
def intsAre_of{ns:N4}:∀{us:WX},Si ns.17 us->qD us ns:=by
 induction ns with
 |nil=>intro us r;rwa[map_nil]at r;show .nil
 |cons n ns G =>
  intro us r;rw[Y5]at r;cases r with
  |cons I F =>
   let#[t,e]:=I;subst e;show .cons n t (G F)
def cu:PO X none Bm:=by
 intros Q I h;rw[evalPart_none];show wpAny_pure #[none,H,I,.none,h]
def bJ(h:PE X e te):PO X (some e) (Ll te):=by
 intros Q I F;rw[evalPart_some];show b9 (h Cr s σ H _ I F) λu Z U=>?_;let#[x,H1,L,G,Y]:=U;let#[i,rfl,q]:=Y;let#[t,rfl]:=G;show#[some i,H1,L,.int i t,q]
variable{lo hi:Option YD}
def SY(X:Cx)(r:V->Option Int->Option Int->Hp->VK->Prop):=
 ∀(Cr:Jr)(s:ti)(σ:St)(H:Hp)(x:V)(v G F:xr)(lo hi:vZ)(sl:ZX)(Q:VK),!H s->zH x v->s.heap.IsSliceOf sl G F .none->IsPart G lo->IsPart F hi->r x lo hi H Q ->
  ∃T id,typeLookup (.type T) "__getitem__" = pure (some (.builtin id))/\s.TypeIs v T/\↑(Me v (.ref sl)) (EP X Cr σ Q) X.xe s
def Xx(r:V->Option Int->Option Int->Hp->VK->Prop)(te:TE)(tl th:TO):TE:=λσ H Q=>te σ H λx H1=>tl σ H1 λl H2=>th σ H2 λu F=>r x l u F Q
def bG{tl th:TO}{p2:Pos}{r:V->Option Int->Option Int->Hp->VK->Prop}(hr:SY X r)(he:PE X e te)(hl:PO X lo tl)(hu:PO X hi th):PE X (.Subscript e (.Slice lo hi none p2) Yb) (Xx r te tl th):=by
 intros Q I h;show BB (b9 (he Cr s σ H _ I h) λv s1 Y=>?_);let#[x,H1,I1,Z,q1]:=Y;show wpAny_Slice (b9 (hl Cr s1 σ H1 _ I1 q1) λL s2 ab=>?_);let#[l,H2,I2,pl,q2]:=ab;show b9 (hu Cr s2 σ H2 _ I2 q2) λG F ac=>?_;let#[u,U,I3,pu,q3]:=ac;rw[evalPart_none];show wpAny_pure ?_;let I4:!U { F with heap:=F.heap.push { cls:=.type "slice",data:=.fields ([L,G,.none].8) } }:=I3.kept (t':=F.toks) λb ob q=>aV _ q;let#[T,id,hT,ht,hg]:=hr Cr { F with heap:=F.heap.push { cls:=.type "slice",data:=.fields ([L,G,.none].8) } } σ U x v L G l u F.13 Q I4 Z (Heap.IsSliceOf.new ..) pl pu q3;change ↑(Kg e (.Slice lo hi none p2) v (.ref F.13)) (EP X Cr σ Q) X.xe { F with heap:=F.heap.push { cls:=.type "slice",data:=.fields ([L,G,.none].8) } };show tail_any (ops:=[.ref F.13,v]) ht hT hg (by with_unfolding_all rfl)
def dJ(xs:vl)(lo hi:vZ):List V:=(xs.drop (HT.uu xs.9 0 lo)).take (HT.uu xs.9 xs.9 hi-HT.uu xs.9 0 lo)
def aal(xs:vl)(lo hi:vZ):(dJ xs lo hi).9<=xs.9:=by
 unfold dJ;rw[Nx,YB];show Oi (Dc _ _) (iC _ _)
inductive aav(K:Yi)(x y:V)(H:Hp)(Q:VK):Prop
 |mk(a b xs ys:_)(_:x=.ref a)(_:y=.ref b)(_:eM K H a xs)(_:eM K H b ys)(_:xs≠[])(_:xs.9+ys.9<=yr)(_:(ys=[]->Q (.ref a) H))(_:(ys≠[]->∀p,H p=none->Q (.ref p) (QZ H p (.tup (xs++ys)))))
def Si.vH(r:Si xs us):us=[]↔xs=[]:=by
 cases r with
 |nil=>simp
 |cons _ _=>simp
def aaU:mf X (ou .Add) (aav X.K):=by
 intros x y v u Q I Y ry h;let#[a,b,xs,ys,rfl,rfl,ha,Z,hx,L,q1,q2]:=h;cases Y;cases ry;let#[XO,G,U,_]:=I.tuple ha;let#[ab,F,p2,_]:=I.tuple Z;show HT.JK U p2 (λz=>hx (G.vH.mp z)) (λz=>#[.ref a,H,I,rfl,q1 (F.vH.mp z)]) (λz=>?_) (by rw[<-G.9, <-F.9];show L);show#[138,I.laid (t':=s.toks) (o:=.tup (xs++ys)) (λb ob q=>aV _ q) (BY _) ?_,rfl,q2 (λw=>z (F.vH.mpr w)) _ (I.bK.fresh (BY _))];show#[L<*tp,_,G.append F,IsTup.new _ _]
def Cb(n:Nat)(i:Int):Option Nat:=if 0<=i then(if i<n then some i.5 else none)else if -(n:Int)<=i then some (i+n).5 else none
noncomputable def lJ{α:Type}(xs:List α)(i:Int):Option α:=(Cb xs.9 i).bind λj=>xs[j]?
def Ai(h:Cb n i^j):seqIndex? i n^j/\j<n /\ -(n:Int)<=i/\i<n:=by
 unfold Cb at h;cases F:0<=i
 .rw[C' F]at h;cases h1:i<n
  .rw[C' h1]at h;let e:i.5=j:=OR h;show#[by rw[N8 F h1,e],ak,ak,h1]
  .rw[vr h1]at h;cases h
 .rw[vr F]at h;by_cases h1 : -(n:Int)<=i
  .rw[C' h1]at h;let e:(i+n).5=j:=OR h;show#[by rw[seqIndex_neg ak h1,e],ak,h1,ak]
  .rw[vr h1]at h;cases h
def uy{α:Type}{xs:List α}{v:α}(h:lJ xs i^v):∃j,seqIndex? i xs.9^j/\xs[j]?^v/\j<xs.9 /\ -(xs.9:Int)<=i/\i<xs.9:=by
 unfold lJ at h;cases e:Cb xs.9 i with
 |none=>rwa[e]at h
 |some j =>
  rw[e]at h;let#[h1,h2,G,F]:=Ai e;show#[j,h1,h,h2,G,F]
def aJ{α:Type}{xs:List α}{v:α}(h:xs[j]?^v):lJ xs (j:Int)^v:=by
 let F:j<xs.9:=(wh.mp h).1;let e:Cb xs.9 (j:Int)^j:=by
  unfold Cb;rw[C' ak,C' ak];simp
 unfold lJ;rw[e];show h
theorem qH{α:Type}(xs:List α)(v:α):lJ (xs++[v]) (-1)^v:=by
 let F:(xs++[v]).9=xs.9+1:=J0;let e:Cb (xs++[v]).length (-1)^xs.9:=by
  unfold Cb;rw[F,vr az,C' ak];congr 1;lia
 unfold lJ;rw[e];change(xs++[v])[xs.9]?^v;simp
def vb(b:YD):=∀o i,U1 b false o i=operate [o,i] (Me o i)
def Bv(X:Cx)(r:R2):=
 ∀(value F:YD)(Cr:Jr)(s:ti)(σ:St)(H:Hp)(x y:V)(v u:xr)(Q:VK),!H s->zH x v->zH y u->r x y H Q ->
  U1 F false v u=operate [v,u] (Me v u)->↑(Kg value F v u) (EP X Cr σ Q) X.xe s
def Sw(X:Cx)(id:String)(r:V->List V->Hp->VK->Prop):=
 ∀(Cr:Jr)(s:ti)(σ:St)(H:Hp)(x:V)(xs:vl)(v:xr)(us:WX)(Q:VK),!H s->zH x v->Si xs us->r x xs H Q ->
  ↑(call (.builtin id) (v::us)) (EP X Cr σ Q) X.xe s
def aQ{r:R2}(F:Bv X r)(Z:PE X a ta)(G:PE X b tb)(hs:vb b):PE X (.Subscript a b Yb) (Li r ta tb):=by
 intros Q I h;show BB (OJ Z G I h λv u Y x y H2 I2 L U q=>F a b Cr Y σ H2 x y v u Q I2 L U q (hs _ _))
inductive ads(K:Yi)(x y:V)(H:Hp)(Q:VK):Prop
 |mk(p xs i v:_)(_:x=.ref p)(_:y=.int i)(_:bh K H p xs)(_:lJ xs i^v)(_:Q v H)
inductive pH(K:Yi)(x y:V)(H:Hp)(Q:VK):Prop
 |mk(p xs i v:_)(_:x=.ref p)(_:y=.int i)(_:eM K H p xs)(_:lJ xs i^v)(_:Q v H)
inductive afq(x y:V)(H:Hp)(Q:VK):Prop
 |mk(z i c:_)(_:x=.str z)(_:y=.int i)(_:z.9<=yr)(_:lJ z.cps.7 i^c)(_:Q (.str #[([c].8)]) H)
theorem aW:Bv X (ads X.K):=by
 intro value ab Cr s σ H x y v u Q I rx ry h hs;let#[p,xs,i,z,rfl,rfl,U,he,q]:=h;cases rx;let#[t,rfl]:=ry;let#[XO,r,pl,hz]:=I.list U;let#[j,h1,h2,h3,Z,h5]:=uy he;let#[w,L,Y]:=r.get h2;let hl:=r.9;let hn:=oh;let fin:EP X Cr σ Q w s:=#[z,H,I,Y,q];cases G:0<=i
 .let F:i.5=j:=by
   rw[N8 G h5]at h1;show OR h1
  show item_listR pl.isList G ak (by rw[F];simpa using L) fin hs
 .let F:(i+(XO.toArray.size:Int)).5=j:=by
   rw[seqIndex_neg ak Z]at h1;rw[Yg, <-hl];show OR h1
  show ac7 (x:=w) pl.isList.typeIs slot_list_getitem.lookup
   (wpAny_getItem_list_neg (Q:=λr s'=>r=w/\EP X Cr σ Q r s') pl.isList ak (by rw[Yg]<;>lia) ak (by rw[F];simpa using L) #[rfl,fin]) hs
def br:Bv X (pH X.K):=by
 intro value ab Cr s σ H x y v u Q I Y Z h hs;let#[p,xs,i,z,rfl,rfl,F,he,q]:=h;cases Y;let#[t,rfl]:=Z;let#[XO,r,pl,hz]:=I.tuple F;let#[j,h1,h2,h3,h4,h5]:=uy he;let#[w,L,G]:=r.get h2;let U:=r.9;let hn:=oh;let fin:EP X Cr σ Q w s:=#[z,H,I,G,q];show ac7 (x:=w) pl.typeIs slot_tuple_getitem.lookup
  (getItem_tuple (j:=j) (Q:=λr s'=>r=w/\EP X Cr σ Q r s') pl ak ak (by rw[Yg, <-U];show h1) ‹L› #[rfl,fin]) hs
def ze:Bv X afq:=by
 intro value ab Cr s σ H x y v u Q I G L h hs;let#[z,i,c,rfl,rfl,hz,Y,q]:=h;let#[t,rfl]:=G;let#[t',rfl]:=L;let#[j,h1,h2,h3,Z,h5]:=uy Y;let F:z.cps.toList.length=z.9:=(by simp[Str.length]);rw[F]at h1 Z h5;let hn:=oh;show tail_any (Q7 s z t) slot_str_getitem.lookup (getItem_str (c:=c) (by
  let U:decide (i < -(2^63:Int))=false:=ck ak;let e2:decide (i>=2^63)=false:=ck ak;rw[U,e2,Bool.or_false]) (by rw[h1];simpa using h2) #[.str #[([c].8)],120]) hs
def aaZ(XO:WX)(n j:Nat)(u:xr):Obj.mapSeq (·.setIfInBounds j u) { cls:=.type "list",data:=.seq XO.8 n }={ cls:=.type "list",data:=.seq (XO.set j u).toArray n }:=by
 simp[Obj.mapSeq]
def Inv.lst{X:Cx}{Cr:Jr}{σ:St}{H:Hp}{s:ti}{p:ZX}{xs:vl}(I:!H s)(h:H p%xs) :
  ∃(XO:WX)(n:Nat),Si xs XO/\s.heap.get? p=some { cls:=.type "list",data:=.seq XO.8 n }/\xs.9<=yr:=by
 let#[z,XO,n,r,e]:=I.bK p _ h;show#[XO,n,r,e,z]
variable{XO its':WX}
def Inv.OU{p:ZX}{F:Nat}{f:Obj->Obj}(I:!H s)(h:H p%xs)
  (L:s.heap.get? p=some { cls:=.type "list",data:=.seq XO.8 n }) (G:f { cls:=.type "list",data:=.seq XO.8 n }={ cls:=.type "list",data:=.seq its'.8 F }) (r:Si ys its') (Y:ys.9<=yr) (t:Nat) :
 !(QZ H p (.lst ys)) { s with heap:=s.heap.update p f,toks:=t }:=by
 let e:(s.heap.update p f).get? p=some { cls:=.type "list",data:=.seq its'.8 F }:=by
  rw[Heap.get?_update_self f L (by rw[G]<;>rfl),G]
 show I.write (x:=p) (e:=p) (by rw[h];trivial) (.inl rfl) (λb u U q=>(Heap.get?_update_other _ _ (oR U)).trans q) #[_,e] ?_;show#[Y,its',F,r,e]
inductive ab8(o i v:V)(H:Hp)(Q:(Hp->Prop)):Prop
 |mk(p xs k j:_)(_:o=.ref p)(_:i=.int k)(_:H p%xs)(_:Cb xs.9 k^j)(_:Q (QZ H p (.lst (xs.set j v))))
def set_list:RP X ab8:=by
 intros o i v ov iv u Q I qa8 kQ9 rv h;let#[p,xs,k,j,rfl,rfl,Z,hj,q]:=h;cases qa8;let#[t,rfl]:=kQ9;let#[XO,n,r,F,hz]:=I.lst Z;let#[h1,h2,h3,U]:=Ai hj;let G:=r.9;let hn:=oh;let Y:!(QZ H p (.lst (xs.set j v))) { s with heap:=s.heap.update p (Obj.mapSeq (·.setIfInBounds j u)) }:=
  I.OU Z F (aaZ XO n j u) (r.set rv j) (hz<*Cj) s.toks
 cases L:0<=k
 .let hk:k.5=j:=by
   rw[N8 L U]at h1;show OR h1
  show PySem.W.ki_setAt F L ak (by rw[Yg, <-G];show U) (#[_,Y,q]<*hk)
 .let hk:(k+(XO.toArray.size:Int)).5=j:=by
   rw[seqIndex_neg ak h3]at h1;rw[Yg, <-G];show OR h1
  show PySem.W.ki_setBack F ak (by rw[Yg, <-G];show h3) ak (#[_,Y,q]<*hk)
def zA8(lo hi:vZ)(n:Nat):(yv lo hi none n).1=((HT.uu n 0 lo:Nat):Int)/\(yv lo hi none n).2.1=((HT.uu n n hi:Nat):Int)/\(yv lo hi none n).2.2=1:=by
 have g (i:Int):max 0 (min (if i<0 then i+n else i) n)=((if i<0 then(i+(n:Int)).5 else min i.5 n:Nat):Int):=by
  split
  .rw[Int.min_eq_left ak,Int.max_comm];show(Int.toNat_eq_max _).6
  .omega
 show#[4,rfl]
 .cases lo with
  |none=>show Int.max_eq_left (Jz 0)
  |some i=>show g i
 .cases hi with
  |none=>simp[yv,HT.uu]
  |some i=>show g i
def fdN(XO:WX)(lo hi:vZ):slicePick XO.8 lo hi none=((XO.drop (HT.uu XO.9 0 lo)).take (HT.uu XO.9 XO.9 hi-HT.uu XO.9 0 lo)).8:=by
 let#[h1,h2,F]:=zA8 lo hi XO.toArray.size;unfold slicePick;rw[h1,h2,F];simp only[sliceRange_one,pick_run,Yg]<;>rfl
inductive Ji(K:Yi)(x:V)(lo hi:vZ)(H:Hp)(Q:VK):Prop
 |mk(a xs:_)(_:x=.ref a)(_:bh K H a xs)(_:∀p,H p=none->Q (.ref p) (QZ H p (.lst (dJ xs lo hi))))
theorem bU:SY X (Ji X.K):=by
 intros x v Z Y lo hi sl Q I L hs pl G h;let#[a,xs,rfl,hx,q]:=h;cases L;let#[XO,r,F,U]:=I.list hx;let hlen:=r.9;show#["list",_,slot_list_getitem.lookup,F.isList.typeIs,?_];show wpAny_getItem_list_slice F.isList hs pl G .none J0 ?_ (by rw[Yg]<;>lia);rw[fdN, <-hlen];show#[138,I.laid (t':=s.toks) (o:=.lst (dJ xs lo hi)) (λb ob q=>aV _ q) (BY _) ?_,66];show#[Oi (aal xs lo hi) U,_,(0),(r.drop (HT.uu xs.9 0 lo)).take (HT.uu xs.9 xs.9 hi-HT.uu xs.9 0 lo),42]
def gg:V->Bool
 |.bu=>true
 |.bl _=>true
 |.int _=>true
 |.str _=>true
 |_=>false
noncomputable def nZ:V->V->Bool
 |.bu,.bu=>true
 |.bl a,.bl b=>a==b
 |.bl a,.int b=>(if a then 1 else 0)==b
 |.int a,.bl b=>a==(if b then 1 else 0)
 |.int a,.int b=>a==b
 |.str a,.str b=>a==b
 |_,_=>false
variable{x:V}{v:xr}
def EV(I:zH y u)(F:zH x v)(L:gg y)(G:gg x):Lg A s u v (nZ y x):=by
 cases y with
 |bu =>
  cases I;cases x with
  |bu=>cases F;show afh _
  |bl b=>cases F;show SeqAt.EqAt.none_bool b
  |int b=>let#[t,rfl]:=F;show SeqAt.EqAt.none_int b t
  |str b=>let#[t,rfl]:=F;show SeqAt.EqAt.none_str b t
  |_=>show D9 (show false from G) Yf
 |bl a =>
  cases I;cases x with
  |bu=>cases F;show SeqAt.EqAt.bool_none a
  |bl b=>cases F;show adP a b
  |int b=>let#[t,rfl]:=F;show SeqAt.EqAt.bool_int a b t
  |str b=>let#[t,rfl]:=F;show SeqAt.EqAt.bool_str a b t
  |_=>show D9 (show false from G) Yf
 |int a =>
  let#[t',rfl]:=I;cases x with
  |bu=>cases F;show SeqAt.EqAt.int_none a t'
  |bl b=>cases F;show SeqAt.EqAt.int_bool a t' b
  |int b=>let#[t,rfl]:=F;show SeqAt.EqAt.int_int a t' b t
  |str b=>let#[t,rfl]:=F;show aeo a t' b t
  |_=>show D9 (show false from G) Yf
 |str a =>
  let#[t',rfl]:=I;cases x with
  |bu=>cases F;show SeqAt.EqAt.str_none a t'
  |bl b=>cases F;show SeqAt.EqAt.str_bool a t' b
  |int b=>let#[t,rfl]:=F;show aep a t' b t
  |str b=>let#[t,rfl]:=F;show SeqAt.EqAt.str_str a t' b t
  |_=>show D9 (show false from G) Yf
 |_=>show D9 (show false from L) Yf
noncomputable def Gg(x:V)(u:xr):Bool:=match u with
 |.none=>nZ .bu x
 |.bool b=>nZ (.bl b) x
 |.int i _=>nZ (.int i) x
 |.str z _=>nZ (.str z) x
 |_=>false
def yL(r:zH y u)(f:gg y):Gg x u=nZ y x:=by
 cases y with
 |bu=>cases r;rfl
 |bl b=>cases r;rfl
 |int i=>let#[t,rfl]:=r;rfl
 |str z=>let#[t,rfl]:=r;rfl
 |_=>show D9 (show false from f) Yf
def AA(h:Si xs us)(f:xs.all gg):us.any (Gg x)=xs.any λy=>nZ y x:=by
 induction h with
 |nil=>rfl
 |cons r _ F =>
  rw[RF,wx]at f;rw[Nc,Nc,yL r f.1,F f.2]
def qN(L:zH x v)(I:gg x)(h:Si xs us)(f:xs.all gg):∀u∈us,Lg A s u v (Gg x u):=by
 intro u F
 induction h with
 |nil=>cases F
 |cons r _ G =>
  rw[RF,wx]at f;obtain rfl|F:=Yu.mp F
  .rw[yL r f.1];show EV r L f.1 I
  .show G f.2 F
noncomputable def Lv(x:V)(xs:vl):Bool:=xs.any λy=>nZ y x
inductive aar(K:Yi)(neg:Bool)(x y:V)(H:Hp)(Q:VK):Prop
 |mk(p xs:_)(_:y=.ref p)(_:(bh K H p xs\/eM K H p xs))(_:gg x)(_:xs.all gg)(_:Q (.bl (if neg then !(Lv x xs) else Lv x xs)) H)
def tZ:mf X (Zp .In) (aar X.K false):=by
 intros x y v u Q I U Y h;let#[p,xs,rfl,F,L,fs,q]:=h;cases Y;obtain F|F:=F
 .let#[XO,r,pl,Z]:=I.list F;show afi (Gg x) pl.isList (λw G=>qN U L r fs w ‹G›) #[.bl _,H,I,3];rw[show XO.toArray.any (Gg x)=XO.any (Gg x)by simp,AA r fs];show q
 .let#[XO,r,pl,Z]:=I.tuple F;show SeqAt.in_tupleAt (Gg x) pl (λw G=>qN U L r fs w ‹G›) #[.bl _,H,I,3];rw[show XO.toArray.any (Gg x)=XO.any (Gg x)by simp,AA r fs];show q
theorem zA4:cM X (.builtin "len") (λxs H Q=>∃p ys,xs=[.ref p]/\(bh X.K H p ys\/eM X.K H p ys)/\Q (.int ys.9) H):=by
 intros xs us Q I r h;let#[p,ys,rfl,F,q]:=h;let#[u,rfl,L]:=vals1 r;cases L;let Y:=oh;obtain F|F:=F
 .let#[XO,G,pl,U]:=I.list F;let hlen:=G.9;show Calls.call_len_list pl.isList (by simp only[Yg]<;>lia) #[.int ys.9,69,#[s.toks+1,by rw[Yg,hlen]],q]
 .let#[XO,G,pl,U]:=I.tuple F;let hlen:=G.9;show len_tuple pl (by simp only[Yg]<;>lia) #[.int ys.9,69,#[s.toks+1,by rw[Yg,hlen]],q]
def abd:cM X (.builtin "len") (λxs H Q=>∃z,xs=[.str z]/\z.9<=yr/\Q (.int z.9) H):=by
 intros xs us Q I r h;let#[z,rfl,G,q]:=h;let#[u,rfl,t,rfl]:=vals1 r;let F:=oh;show len_str ak #[.int z.9,120]
theorem cG:cM X (.type "list") (λxs H Q=>∃p ys,xs=[.ref p]/\(bh X.K H p ys\/eM X.K H p ys)/\∀l,H l=none->Q (.ref l) (QZ H l (.lst ys))):=by
 intros xs us Q I r h;let#[p,ys,rfl,U,q]:=h;let#[u,rfl,rx]:=vals1 r;cases rx;let fin:∀(XO:WX),Si ys XO->ys.9<=yr->∀(h':Heap)(G:Nat),(∀b o',s.heap.get? b^o'->h'.get? b^o') ->
   h'.get? s.13=some { cls:=.type "list",dict:=none,data:=.seq XO.8 G,slots := ([].8) }->EP X Cr σ Q (.ref s.13) { s with heap:=h' }:=λXO F Y h' G L e =>
  #[138,I.laid (t':=s.toks) L (BY _) (show cz X.prog X.w _ h' _ (.lst ys)from#[Y,XO,G,F,e]),66]
 obtain U|U:=U
 .let#[XO,F,pl,Y]:=I.list U;let hlen:=F.9;let#[o,Z,hc,n,hd]:=pl.isList;show call_list_seq p (.inl rfl) Z hc hd (λh' G L e=>fin XO F Y h' G L e) (by simp only[Yg]<;>lia)
 .let#[XO,F,pl,Y]:=I.tuple U;let hlen:=F.9;let#[o,Z,hc,n,hd]:=pl;show call_list_seq p (.inr rfl) Z hc hd (λh' G L e=>fin XO F Y h' G L e) (by simp only[Yg]<;>lia)
def WM(K:Yi)(T:String)(x:V)(H:Hp):Prop:=match x with
 |.str _=>T = "str"
 |.int _=>T = "int"
 |.ref p=>(T = "list" /\ ∃xs,bh K H p xs)\/(T = "tuple" /\ ∃o,K.lookup p^o/\o.cls=.type "tuple" /\ o.dict=none) \/
   (T = "dict" /\ ((∃Ki,H p^^^Ki)\/∃Ki,H p^.dT Ki))\/(T = "set" /\ ∃S n,H p^.set S n)
 |_=>False
def Eu(I:!H s)(r:zH x v)(ty:WM X.K T x H) :
  s.TypeIs v T/\∀a,v=.ref a->∃G,s.heap.get? a^G/\G.dict=none:=by
 cases x with
 |str z =>
  let#[t,rfl]:=r;cases(show T = "str" from ty);show#[Q7 s z t,λ_ e=>nomatch e]
 |int i =>
  let#[t,rfl]:=r;cases(show T = "int" from ty);show#[typeIs_int s i t,λ_ e=>nomatch e]
 |ref p =>
  cases r;rcases ty with⟨rfl,xs,L⟩|⟨rfl,o,hk,U,hd⟩|⟨rfl,hk⟩|⟨rfl,S,n,hk⟩
  .let#[XO,_,pl,_]:=I.list L;show#[pl.isList.typeIs,λa e=>?_];cases e;let#[o,n,e,c,hd,_]:=pl;show#[o,e,hd]
  .show#[#[o,I.jY p o hk,U],λa e=>?_];cases e;show#[o,I.jY _ o hk,hd]
  .let z:∃o,s.heap.get? p^o/\o.ExactDict:=by
    rcases hk with⟨Ki,hk⟩|⟨Ki,hk⟩
    .let#[_,_,_,_,o,_,_,e,ex,_]:=I.bK p _ hk;show#[o,e,ex]
    .let#[_,_,_,_,o,_,_,e,ex,_]:=I.bK p _ hk;show#[o,e,ex]
   let#[o,e,ex]:=z;show#[#[o,e,ex.1],λa F=>?_];cases F;show#[o,e,ex.2.1]
  .let#[o,_,_,_,e,ex,_]:=I.bK p _ hk;show#[#[o,e,ex.1],λa F=>?_];cases F;show#[o,e,ex.2.1]
 |_=>show Zc ty
def abl(K:Yi)(T:String)(r:V->List V->Hp->VK->Prop)(to:TE):TE:=λσ H Q=>to σ H λx H1=>WM K T x H1/\r x [] H1 Q
def Xk(K:Yi)(T:String)(r:V->List V->Hp->VK->Prop)(to:TE)(t:TA):TE:=λσ H Q=>to σ H λx H1=>WM K T x H1/\t σ H1 λxs H2=>r x xs H2 Q
variable{cpos:Pos}{r:V->List V->Hp->VK->Prop}
def abV(pa:PlainAttrs T)(slot:Slot T name id)(Z:vf (.builtin id)=pure (.type "method_descriptor"))(hm:Sw X id r)(U:PE X o to)
  (ab:%[Rt o name X.env (eval o X.env)=eval o X.env|0]) (L:%[(apos.endLine==cpos.line)=true|0]):PE X (.Call (.Attribute o name apos) [] [] cpos) (abl X.K T r to):=by
 intros Q I h;show wpAny_Call_method0_late ab L (b9 (U Cr s σ H _ I h) λv Y ac=>?_);let#[x,H1,G,F,ty,q1]:=ac;let#[h1,h2]:=Eu G F ty;show#[T,id,pa,slot,Z,h1,h2,Calls.callWith_builtin rfl (PySem.evalArgs_none (hm Cr Y σ H1 x [] v [] Q G F .nil q1))]
def gh(pa:PlainAttrs T)(slot:Slot T name id)(ad:vf (.builtin id)=pure (.type "method_descriptor"))(hm:Sw X id r)(ho:PE X o to)(ha:PA X (e::es) t)
  (Y:%[Rt o name X.env (eval o X.env)=eval o X.env|0])
  (am:((backTo cpos (starEach (e::es) X.env)).all (λx => !x.1)&&(Xz cpos (KU [] X.env)).all (λx=>x.1.10)
   && decide ((e::es).9+([]:List Ce).9+(if ([]:List Ce).isEmpty then 0 else 1)<30))=true:=by rfl)
  (ab:%[(apos.endLine==cpos.line)=true|0]) (hs:%[iL X e es|0]) (ap:%[(backTo cpos es.15).any (·.1)=false|0]) :
  PE X (.Call (.Attribute o name apos) (e::es) [] cpos) (Xk X.K T r to t):=by
 intros Q I h;show wpAny_Call_method_late Y am ab rfl (b9 (ho Cr s σ H _ I h) λv s1 ac=>?_);let#[x,H1,G,F,ty,q1]:=ac;let#[h1,h2]:=Eu G F ty;show#[T,id,pa,slot,ad,h1,h2,?_];let L:=ha cpos Cr s1 σ H1 _ G q1;rw[hs]at L ⊢;show Calls.callWith_builtin (by change(false||(backTo cpos es.15).any (·.1))=false;rw[ap]<;>rfl) (Calls.evalArgs_plain ?_);show b9 L λus Z U=>by let#[vs,H2,I2,r2,q2]:=U;show hm Cr Z σ H2 x vs v us Q I2 F r2 q2
def KO(X:Cx)(id:String)(r:V->List V->Hp->VK->Prop):=
 ∀(Cr:Jr)(s:ti)(σ:St)(H:Hp)(x:V)(xs:vl)(v:xr)(us:WX)(Q:VK),!H s->zH x v->Si xs us->r x xs H Q ->
  ↑(call (.builtin id) (v::us)) (EP X Cr σ Q) X.xe s
def Si.one(h:Si [x] us):∃u,us=[u]/\zH x u:=by
 cases h with|cons r t=>cases t;show#[0,r]
theorem Si.zero:∀{us:WX},Si [] us->us=[]
 |_,.nil=>rfl
theorem Si.dropLast(h:Si xs us):Si xs.dropLast us.dropLast:=by
 induction h with
 |nil=>show .nil
 |cons r t F =>
  cases t with
  |nil=>show .nil
  |cons q t'=>show .cons r F
theorem Si.eraseIdx:∀{xs:vl}{us:WX}(i:Nat),Si xs us->Si (xs.eraseIdx i) (us.eraseIdx i)
 |_,_,_,.nil=>.nil
 |_,_,0,.cons _ t=>t
 |_,_,i+1,.cons r t=>.cons r (Si.eraseIdx i t)
theorem Si.rep{xs:vl}{us:WX}(h:Si xs us):∀k:Nat,Si (Yl k xs).flatten (Yl k us).11
 |0=>.nil
 |k+1=>by
  rw[ZM,ZM,ZV,ZV];show Si.append h (Si.rep h k)
def ab0{α:Type}(l:List α):l.eraseIdx (l.9-1)=l.dropLast:=by
 induction l with
 |nil=>rfl
 |cons a r F =>
  cases r with
  |nil=>rfl
  |cons b r =>
   let e:(a::b::r).9-1=((b::r).9-1)+1:=rfl;rw[e,List.eraseIdx_cons_succ,F]
   all_goals rfl
theorem foldl_rep(XO:WX):∀(k:Nat)(F:WX),
  foldl (λI L=>I++L) F.8 (Yl k XO.8)=(F++(Yl k XO).11).8
 |0,F=>by simp
 |k+1,F=>by
  let e:F.8++XO.8=(F++XO).8:=J0;let G:(F++XO)++(Yl k XO).11=F++(Yl (k+1) XO).11:=by
   rw[ZM,ZV,YA]
  rw[<-G, <-foldl_rep XO k (F++XO), <-e,ZM,List.foldl_cons]
variable{l:ZX}
def Inv.Jk{f:Array xr->Array xr}(I:!H s)(G:H l%xs)
  (e:s.heap.get? l=some { cls:=.type "list",data:=.seq XO.8 n }) (F:f XO.8=its'.8) (Y:Si ys its') (Z:ys.9<=yr) :
 !(QZ H l (.lst ys)) { s with heap:=s.heap.update l (Obj.mapSeq f),toks:=t' }:=by
 let q:=ae2 e f;rw[F]at q;show I.write (x:=l) (e:=l) (trivial<*G) (.inl rfl) (λb' u U L=>(Heap.get?_update_other s.heap (Obj.mapSeq f) (oR U)).trans L) #[_,q] ?_;show#[Z,its',_,Y,q]
def Inv.Rb(I:!H s)(F:Si ys XO)(G:ys.9<=yr) :
 !(QZ H s.13 (.lst ys)) { s with heap:=s.heap.push { cls:=.type "list",data:=.seq XO.8 },toks:=t' }:=
 I.laid (λ_ _ q=>aV _ q) (BY _) #[G,XO,(0),F,42]
theorem Inv.fresh(I:!H s):H s.13=none:=I.bK.fresh (BY _)
def Inv.pI(I:!H s)(F:H l%xs):xs.9<=yr/\∃(XO:WX)(n:Nat),Si xs XO/\xs.9=XO.9/\s.heap.get? l=some { cls:=.type "list",data:=.seq XO.8 n }:=by
 let#[z,XO,n,r,e]:=I.bK l _ F;show#[z,XO,n,r,r.9,e]
def xJ(h:n<=yr):Builtin.List.listTooLong n=false:=by
 unfold Builtin.List.listTooLong;show ck ak
inductive acB(x:V)(vs:vl)(H:Hp)(Q:VK):Prop
 |mk(l xs y:_)(_:x=.ref l)(_:vs=[y])(_:H l%xs)(_:xs.9<yr)(_:Q .bu (QZ H l (.lst (xs++[y]))))
theorem jo:KO X "list.append" acB:=by
 intros x vs v us Q I L U h;let#[l,xs,y,rfl,rfl,G,Z,q]:=h;cases L;let#[u,rfl,ru]:=U.one;let#[z,XO,n,r,Y,e]:=I.pI G;show ZR F.slot_list_append #[67] F.entry_list_append (F.args_list_append_2 _ _) (list_append l XO.8 n u (by rw[Yg];lia)) #[e,?_];show#[.bu,_,I.Jk (its':=XO++[u]) G e J0 (r.append (.cons ru .nil)) ?_,rfl,q];rw[tp,Yq];lia
variable{b:ZX}{zs:vl}
inductive ad8(x:V)(vs:vl)(H:Hp)(Q:VK):Prop
 |mk(l b xs zs:_)(_:x=.ref l)(_:vs=[.ref b])(_:H l%xs)(_:H b%zs)(_:xs.9+zs.9<=yr)(_:Q .bu (QZ H l (.lst (xs++zs))))
theorem ku:KO X "list.extend" ad8:=by
 intros x vs v us Q I rx Z h;let#[l,b,xs,zs,rfl,rfl,L,hB,hz,q]:=h;cases rx;let#[u,rfl,ru]:=Z.one;cases ru;let#[z,XO,n,r,hl,e]:=I.pI L;let#[z2,G,n2,r2,ab,Y]:=I.pI hB;let hsz:XO.toArray.size+G.toArray.size<=yr:=(by rw[Yg,Yg];lia);let U:¬ (!XO.toArray.isEmpty&&Builtin.List.listTooLong (XO.toArray.size+G.toArray.size))=true:=by
  rw[xJ hsz,afr];show Yf
 show ZR F.slot_list_extend #[67] F.entry_list_extend (F.args_list_extend_2 _ _)
  (AutoSeq1.list_extend_list_list_0 l XO.8 n b G.8 n2 U (by rw[Yg];lia) ak) #[e,Y,?_]
 show#[.bu,_,I.Jk (its':=XO++G) L e J0 (r.append r2) ?_,rfl,q];rw[tp];lia
inductive aeL(x:V)(vs:vl)(H:Hp)(Q:VK):Prop
 |mk(l xs y:_)(_:x=.ref l)(_:vs=[])(_:H l%xs)(_:xs[xs.9-1]?^y)(_:Q y (QZ H l (.lst xs.dropLast)))
theorem aeM:KO X "list.pop" aeL:=by
 intros x vs v us Q I Z rv h;let#[l,xs,y,rfl,rfl,G,U,q]:=h;cases Z;let ac:=rv.zero;subst ac;let#[z,XO,n,r,L,e]:=I.pI G;let#[u,Y,ru]:=r.get U;let ab:XO.8[XO.toArray.size-1]?^u:=by
  change XO.8[XO.9-1]?^u;rw[<-YO, <-L];show Y
 show ZR F.slot_list_pop #[67] F.entry_list_pop (F.args_list_pop_1 _) (MeetsSeq.list_pop_last l XO.8 n u ab (by rw[Yg];lia)) #[e,?_];show#[y,_,I.Jk (its':=XO.dropLast) G e ?_ r.dropLast ?_,ru,q]
 .change XO.toArray.eraseIdxIfInBounds (XO.toArray.size-1)=XO.dropLast.8;rw[Yg,abm,ab0]
 .rw[List.length_dropLast];lia
inductive aeT(x y:V)(H:Hp)(Q:VK):Prop
 |mk(l b xs zs:_)(_:x=.ref l)(_:y=.ref b)(_:H l%xs)(_:H b%zs)(_:xs.9+zs.9<=yr)(_:∀p,H p=none->Q (.ref p) (QZ H p (.lst (xs++zs))))
theorem zA0:mf X (ou .Add) aeT:=by
 intros x y v u Q I L U h;let#[l,b,xs,zs,rfl,rfl,G,hB,hz,q]:=h;cases L;cases U;let#[z,XO,n,r,hl,e]:=I.pI G;let#[z2,F,n2,Y,ab,e2]:=I.pI hB;show PySem.P.add_list e e2 ?_ (by rw[Yg,Yg];lia);let Z:XO.8++F.8=(XO++F).8:=J0;rw[Z];show#[.ref _,_,I.Rb (t':=s.toks) (r.append Y) (by rw[tp];lia),rfl,q _ I.fresh]
inductive aaB(x y:V)(H:Hp)(Q:VK):Prop
 |mk(l k xs:_)(_:x=.ref l)(_:y=.int k)(_:H l%xs)(_ : -(2^63)<=k)(_:k<2^63)(_:xs.9*k.5<=yr)(_:∀p,H p=none->Q (.ref p) (QZ H p (.lst (Yl k.5 xs).11)))
def len_rep{α:Type}(xs:List α)(k:Nat):(Yl k xs).flatten.9=k*xs.9:=by
 induction k with
 |zero=>simp
 |succ k F=>rw[ZM,ZV,tp,F,Nat.succ_mul,Qb]
theorem qa3:mf X (ou .Mult) aaB:=by
 intros x y v u Q I rx ry h;let#[l,k,xs,rfl,rfl,hH,h1,h2,Y,q]:=h;cases rx;let#[t,rfl]:=ry;let#[z,XO,n,r,hl,e]:=I.pI hH;let hlen:XO.toArray.size*k.5<=yr:=(by rw[Yg, <-hl];show Y);let ab:¬ XO.toArray.size*k.5>(2^63-1)/8:=by
  have:(yr:Nat)<=(2^63-1)/8:=az;lia
 let ad:¬ (!(Builtin.List.listFitsIndex k))=true:=by
  rw[fitsIndex_both h1 h2];show Yf
 let Z:¬ Builtin.List.listTooLong (XO.toArray.size*k.5):=by
  rw[xJ hlen];show Yf
 let ac:foldl (λL G=>L++G) ([].8) (Yl (if XO.toArray.isEmpty then 0 else k.5) XO.8)=(Yl k.5 XO).flatten.8:=by
  let f0:∀m:Nat,foldl (λL G=>L++G) ([].8) (Yl m XO.8)=(Yl m XO).flatten.8:=λm=>by
   have:=foldl_rep XO m [];rw[Kb]at this;show this
  rw[f0];cases XO with
  |nil=>simp
  |cons a r'=>rw[vr J0]
 show wpAny_binaryOp_repeat_ref (T := "list") (U := "int") az #[67] (λs'=>typeIs_int s' k t) noFill_list_mul F.fills_int_mul F.slot_int_rmul repeat_list F.slot_int_index.lookup
  (ZR F.slot_int_rmul (typeIs_int s k t) F.entry_int_rmul (F.args_int_rmul_2 _ _) (int___rmul___int_list k t l XO.8 n)
   #[e,rfl,#[67],ZR F.slot_list_mul #[67] F.entry_list_mul (F.args_list_mul_2 _ _) (AutoListH.list___mul___list_int_3 l XO.8 n k t ad ab Z) #[e,?_]])
 rw[ac];show#[.ref _,_,I.Rb (t':=s.toks) (r.rep k.5) (Y<*[len_rep,Nat.mul_comm]),rfl,q _ I.fresh]
end
end L2
namespace PySem.W
open PySem PySem.Spec PySem.Calls PyProof.Rows Builtin Builtin.ObjectAttr Builtin.Getset_descriptor
variable{K:Yi}{C:ZX}{M:Qz}
mutual
def aaN{h:Heap}{v a g:xr}{name:Str}(X:K.In h)(G:Y4 K (.ref C) name^some a)(U:XX K a "__get__" = some (some g))(L:RH K a^true) :
  Et M h (find v (.ref C) name) (.bind g a):=by
 let I:=Gs (M:=M) X G;let L2:Et M h (getOf (some a)) (some g):=looks_specialIn X U;let F:=looks_takesIn (M:=M) X L;show I.andThen (L2.andThen ((show Et M h (dataDescriptor? (some a) (some g)) (some (g,a))from F.andThen .now).andThen (Looks.tag .now)))
variable{prog:By}{w:L3}{A:Ys}{s:ti}{x:ZX}
def aaO{R:Result->ti->Prop}{G:xr}(X:K.In s.heap)(Y:Et w.16 s.heap (vf (.ref x)) (.ref C))(F:Cz K C (.type "object")^true)
  (h:R (.ok (.ret (.ref C))) s):Ez w.16 A (.call (.builtin "getset_descriptor.__get__") #[[.builtin "object.__class__",.ref x,G],[]]) R s:=by
 let#[I,g,U,t,os]:=s;let L:=looks_mroIn (M:=model prog w) X F;show adQ KF.slot_gs.plain KF.entry_gs (KF.slot_gs.check _ _ _ _ _ _ _ _ KF.type_class (KF.args_gs _ _ _) ?_);unfold Builtin.«getset_descriptor.__get__» descrGet;rw[dga_obj];show yl (wpAny_pure ?_);unfold descrGetter descrCheckInstance descrNameAndClass isInstance;simp only[KF.owner_class]
 repeat lk
 show#[Code.quiet_builtin _ ax,codeAny_builtin KF.entry_class ?_];unfold Builtin.«object.__class__» shownTypeOf
 repeat lk
 show h
variable{E:gJ}{tk:Tok}
def aa2{Q:Fin->ti->Prop}(X:K.In s.heap)(F:Et w.16 s.heap (vf (.ref x)) (.ref C))(G:Cz K C (.type "object")^true)
  (I:Y4 K (.ref C) "__class__" = some (some (.builtin "object.__class__"))) (Y:XX K (.builtin "object.__class__") "__get__" = some (some (.builtin "getset_descriptor.__get__"))) (U:RH K (.builtin "object.__class__")^true)
  (h:Q (.done (.ret (.ref C))) s):wpAny w.16 A (Builtin.«object.__getattribute__» #[[.ref x,.str "__class__" tk],[]]) Q E s:=by
 let#[Z,g,dr,t,os]:=s;let L:=aaN (M:=model prog w) (v:=.ref x) X I Y U;show yl (wpAny_pure (yl (wpAny_pure (yl (F.at (yl (L.at ?_)))))));change wpAny _ _ (y7 [.builtin "object.__class__"] (call (.builtin "getset_descriptor.__get__") [.builtin "object.__class__",.ref x,.ref C])>>=ret) _ _ _;show yl (ZW (E5 (aaO X F G (wpAny_pure h))))
theorem abc(self:xr):bindSpecial (.builtin "BaseException.__getattribute__") self=pure (.builtin "BaseException.__getattribute__",[self]):=F.excAttr_ValueError.ga.bind self
theorem abA{Q:Unit->ti->Prop}(X:K.In s.heap)(L0:Et M s.heap (vf (.ref x)) (.ref C))(I:Cz K C (.type "BaseException")^true)(b:xr)
  (L:Q () s):wpAny M A (checkBuiltinCall "BaseException.__getattribute__" #[[.ref x,b],[]]) Q E s:=by
 let#[Y,g,dr,t,os]:=s;let Z:=looks_mroIn (M:=M) X I;let hk:builtinKind "BaseException.__getattribute__" = some .slot:=ax;let G:splitId "BaseException.__getattribute__" = some ("BaseException","__getattribute__"):=ax;let U:=F.args_bexc_ga (.ref x) b;simp only[checkBuiltinCall,hk,G];unfold isInstance
 repeat lk
 show L
theorem abU{Q:gJ}(X:K.In s.heap)(G:Et w.16 s.heap (vf (.ref x)) (.ref C))(Z:Cz K C (.type "object")^true)(L:Cz K C (.type "BaseException")^true)
  (U:Y4 K (.ref C) "__getattribute__" = some (some (.builtin "BaseException.__getattribute__"))) (ab:Y4 K (.ref C) "__getattr__" = some none)
  (ha:Y4 K (.ref C) "__class__" = some (some (.builtin "object.__class__"))) (Y:XX K (.builtin "object.__class__") "__get__" = some (some (.builtin "getset_descriptor.__get__"))) (I:RH K (.builtin "object.__class__")^true)
  (h:Q (.ref C) s):wpAny w.16 A (getAttrBy (.ref x) (.str "__class__" tk) false) Q E s:=by
 let#[hh,g,dr,t,os]:=s;let abZ:=Gs (M:=model prog w) X U;let L2:=Gs (M:=model prog w) X ab;unfold getAttrBy;show ZW (yl (G.at (yl (abZ.at ?_))));change wpAny _ _ (getAttrByItsOwn _ _ _ _ _ _) _ _ _;unfold getAttrByItsOwn;show yl (show wpAny _ _ (typeLookup (.ref C) "__getattr__") _ _ _ from L2.at (yl (CA (ZW ?_))));change wpAny _ _ (boundAndCalled _ _ _) _ _ _;unfold boundAndCalled;rw[abc];show yl (wpAny_pure ?_);change wpAny _ _ (call (.builtin "BaseException.__getattribute__") [.ref x,.str "__class__" tk]) _ _ _;show E5 (adQ F.excAttr_ValueError.ga.plain F.entry_bexc_ga (abA X G L _ (aa2 X G Z ha Y I ?_)));show wpAny_pure h
def ac5{Q:Option xr->ti->Prop}(X:K.In s.heap)(U:Et w.16 s.heap (vf (.ref x)) (.ref C))(Y:Cz K C (.type "object")^true)(I:Cz K C (.type "BaseException")^true)
  (F:Y4 K (.ref C) "__getattribute__" = some (some (.builtin "BaseException.__getattribute__"))) (Z:Y4 K (.ref C) "__getattr__" = some none)
  (ha:Y4 K (.ref C) "__class__" = some (some (.builtin "object.__class__"))) (L:XX K (.builtin "object.__class__") "__get__" = some (some (.builtin "getset_descriptor.__get__"))) (G:RH K (.builtin "object.__class__")^true)
  (h:Q (some (.ref C)) { s with toks:=s.toks+1 }):wpAny w.16 A (getAttr? (.ref x) "__class__") Q E s:=by
 unfold getAttr? getAttrBy?;show yl (wpAny_mkText (yl (CA (abU (s:={ s with toks:=s.toks+1 }) X U Y I F Z ha L G (wpAny_pure h)))))
structure xU(K:Yi)(C:ZX):Prop where
 ob:Cz K C (.type "object")^true
 be:Cz K C (.type "BaseException")^true
 ga:Y4 K (.ref C) "__getattribute__" = some (some (.builtin "BaseException.__getattribute__"))
 gb:Y4 K (.ref C) "__getattr__" = some none
 cc:Y4 K (.ref C) "__class__" = some (some (.builtin "object.__class__"))
 cg:XX K (.builtin "object.__class__") "__get__" = some (some (.builtin "getset_descriptor.__get__"))
 ct:RH K (.builtin "object.__class__")^true
def xU.cl(c:xU K C):(clsIn K C).10=true:=by
 let#[cd,h,_]:=Option.bind_eq_some_iff.mp c.ob;rw[h];rfl
def aeI(c:xU K C):KitX K (.ref x) (.ref C) (λh=>∃o,h.get? x^o/\o.cls=.ref C) where
 ty:=λM h _ ⟨o,h1,h2⟩=>h2▸(qc h1).andThen .now
 it:=λ_ _ X _=>by
  let#[Y,F]:=uw.mp c.cl;unfold clsIn at F
  set_option tactic.hygienic true in split at F
  .rename_i L d' I ab G;intro A' aeJ E' s' k q;unfold isType loadHead;show yl (wpAny_loadPart (k _ _ (X _ _ G)) (wpAny_pure q))
  .cases F
 ne:=λh U dd XO n sl X Z=>by
  let#[Y,F]:=uw.mp c.cl;show Y0.mpr λq=>?_;let e:C=U:=Value.ref.inj (beq_iff_eq.mp q);subst e;unfold clsIn at F
  set_option tactic.hygienic true in split at F
  .rename_i L d' I ab G;let z:=(X _ _ G).symm.trans Z;cases z
  .cases F
 ca:=λX ⟨o,h1,h2⟩ k=>ac5 X (h2▸(qc h1).andThen .now) c.ob c.be c.ga c.gb c.cc c.cg c.ct k
end
end PySem.W
namespace PySem.W
open PySem PySem.Spec PySem.Calls PyProof.Rows Builtin
structure Gy(K:Yi)(C f:ZX):Prop where
 ty:Sz K (.ref C)^.type "type"
 rd:readsIn K C (.type "type")
 at_:findCls K (.ref C) (.type "type") "__init__" = some (.val (.ref f))
 kp:Zk K (.ref f)
def Jw{prog:By}{w:L3}{A:Ys}{E:gJ}{s:ti}{K:Yi}{C f:ZX}{pl:Sem Bool}{Q:xr×List xr->ti->Prop}(X:K.In s.heap)(c:Gy K C f)(h:Q (.ref f,[]) { s with toks:=s.toks+1 }):wpAny w.16 A (getMethod (.ref C) "__init__" pl) Q E s:=by
 let F:XX K (.ref C) "__getattribute__" = some (some (.builtin "type.__getattribute__")):=by
  unfold XX;rw[c.ty]
  with_unfolding_all rfl
 let G:=looks_specialIn (M:=model prog w) X F;unfold getMethod;show yl (G.at ?_);dsimp only;rw[C' ax];show yl (cls_value X c.rd c.at_ rfl (wpAny_pure h))
end PySem.W
namespace Att
open PySem PySem.W PySem.Calls PyProof.Rows
variable{P:Params}{h:Heap}
def afm:∀(ns:N4)(vs:WX),WellAll P h vs (ns.map WData.int)->qD vs ns:=by
 intro ns
 induction ns with
 |nil =>
  intro vs w;rwa[map_nil]at w;show .nil
 |cons n ns F =>
  intro vs w;rw[Y5]at w;cases w with
  |cons a b =>
   cases a;show .cons _ _ (F _ b)
variable{l:C0}{n:Nat}
theorem abW(hn:l.most^n){args:List WData}{I:WX}
  (L:l.row.toRowW.claim.pre args) (ab:WellAll P h I args) :
  ∃a vs ns,I=[Value.ref a]/\args=[WData.list (ns.map WData.int)]/\h.get? a=some { cls:=.type "list",data:=.seq vs.8 }/\qD vs ns/\ns.9<=n:=by
 let ad:WShape.hasAll [] args [.list .int]:=(pre_splitW L).1;let U:l.pre.holds [] { args:=args }:=(pre_splitW L).2;let#[d,r,rfl,h1,h2]:=hasAllW_cons ad;obtain rfl:=hasAllW_nil h2;let#[xs,rfl,h3]:=hasW_list h1;let#[ns,rfl]:=items_int h3;let hlen:ns.9<=n:=by
  unfold OpenLaw.pre at U;let F:(WTm.not (.lt (.lit (.int (n:Int))) (.len (.arg 0)))).holds [] { args:=[.list (ns.map .int)] }=true:=by
   let F:=(holds_andW U).1;rw[hn]at F;show F
  let G:=condW_of F (w_not (w_lt w_lit (w_len_list (w_arg rfl))));rw[si]at G;show OV λq=>?_;let q':(n:Int)<((ns.9:Nat):Int):=ak
  first
   |(rw[Ja q']at G;show D9 G az)
   |(simp at G;lia)
 cases ab with
 |cons Y w2 =>
  cases w2;cases Y with
  |list Z ac=>show#[2,ns,1,Z,afm ns _ ac,hlen]
def abY(l:C0)(args:List WData):l.row.toRowW.claim.post args (.bool true) args=true :=
 postW_of (r:=l.row.toRowW) (X:=(true==true))
  (show WShape.has [] (.bool true) .bool=true by first|rfl|decide|simp[WShape.has,WShape.arms,WShape.armsAll])
  (show(WTm.eq .res (.lit (.bool true))).value [] { args:=args,res:=some (.bool true),after:=args }=some (.bool (true==true))from w_eq_bool (w_res rfl) w_lit) rfl
def wZ{q:By}{loose:gq}{XP:(Str->Option xr)->Heap->Prop}{YP:L3->Heap->Prop}{d:DefRec}
  (hn:l.most^n) (am:d.params.defaults=[])
  (call:∀(w:L3)(s₀ F:ti)(mg L:j5)(I:ZX)(o:Obj)(pm cd U:xr)(a:ZX)(vs:WX)(ns:N4),
   Ground q loose [] XP w s₀ mg L F.heap->YP w F.heap ->
   F.heap.get? I^o->o.data=.func (docDef d.name d.params d.body d.scope pm cd U)->F.heap.CodeRec cd d.name->mg d.name=some (.ref I) ->
   F.heap.get? a=some { cls:=.type "list",data:=.seq vs.8 }->qD vs ns->ns.9<=n->F.gens = ([].8) ->
   Ez (model l.prog w) XJ (.call (.ref I) #[[.ref a],[]]) (λr s'=>r=.ok (.ret (.bool true))/\OldK F.heap s'.heap/\s'.os=F.os/\ig s'.gens) F) :
  Rq q loose XP YP l.row.toRowW d [] (λf vs=>Sq f vs):=by
 intro w s₀ F mg L G Y I o pm cd U dV kV ho hd ay Z ar hg args aB as ap aK aT ab aN;obtain rfl:dV=.none:=Dflts.none Z am;obtain rfl:kV=.none:=Dflts.noKw Z;let#[a,vs,ns,rfl,rfl,ad,ac,hlen]:=abW hn ap ab;show enter_call (wC (call w s₀ F mg L I o pm cd U a vs ns G Y ho (fd_plain hd) ay ar ad ac hlen hg) λr s' hq=>?_);let#[rfl,h2,h3,h4]:=hq;show#[.inl #[.bool true,.bool true,[],rfl,λ_=>rfl,.bool true,abY l _,λ_=>#[List.Pairwise.nil,λ_ hm=>(nomatch hm)]],h2,h3,h4]
end Att
namespace L2
open PySem PySem.Spec PyProof.Rows
variable{vs:WX}{ns:N4}
mutual
def sZ(h:qD vs ns):Si ns.17 vs:=by
 induction h with
 |nil=>show .nil
 |cons n t _ F=>show .cons #[t,rfl] F
def OA(H:Hp):=∀b,H b=none\/∃o xs,H b^.frz o (.lst xs)
variable{P:By}{w:L3}{mg:j5}{k:Nat}{fd:C6}{x:Str}
def aeD{K:Yi}{Z:j5}{CX:pJ}{fa a:ZX}{sp:Sp}{G:ti}
  (KX:K.In G.heap) (am:G.heap.Ns YF mg) (I:G.heap.Ns builtinsNs Z) (as:∀x:Str,x ≠ "__name__" -> Z x=YY x) (aX:G.heap.NoLimit) (hg:G.gens = ([].8))
  (U:G.heap.get? a=some { cls:=.type "list",data:=.seq vs.8 }) (hi:qD vs ns) (hl:ns.9<=yr) (hr:cZ k XJ)
  (F:∀base:Heap,K.In base->base.Ns YF mg->aO P w K mg base CX k fa fd [x] sp) (ap:∀(s:ti)(u:xr),Uz s fd #[[u],[]] [(x,u)])
  (aK:∀H:Hp,OA H->bh K H a ns.17->sp [.ref a] H (λv _=>v=.bl true) λ_ _ _=>False)
  (ar:∀H e s',CX [] H G (λ_ _ _=>False) e s'->False) :
  Ez (model P w) XJ (.call (.ref fa) #[[.ref a],[]]) (λr s'=>r=.ok (.ret (.bool true))/\OldK G.heap s'.heap/\s'.os=G.os/\ig s'.gens) G:=by
 let rv:=sZ hi;let ay:=hi.9;let ab:∀H:Hp,OA H->bh K H a ns.17->kY P w H G.heap->(∀b,H b≠none->b=a)->(H a≠none->K.lookup a=none) ->
   Ez (model P w) XJ (.call (.ref fa) #[[.ref a],[]]) (λr s'=>r=.ok (.ret (.bool true))/\OldK G.heap s'.heap/\s'.os=G.os/\ig s'.gens) G:=by
  intro H hO hS bK hA hK;let ad:∀{b:ZX}{o:Obj},G.heap.get? b^o->H b=none->(uS G.heap H).get? b^o:=λe n=>aa6 e n;let aB:∀{b:ZX}{o:Obj}{es:Array DictEntry}{ep:Nat},G.heap.get? b^o->o.data=.dict es ep->H b=none:=λ{b o es ep} e d=>by
   cases q:H b with
   |none=>rfl
   |some u =>
    let e':b=a:=hA b (by rw[q];simp);subst e';rwa[U]at e;let d':Data.seq vs.8 _=Data.dict es ep:=d;cases d'
  let Y:∀{b:ZX}{m:j5},G.heap.Ns b m->(uS G.heap H).Ns b m:=λ{b m} aN=>(by let#[o,es,ep,e,d,r]:=aN;show#[o,es,ep,ad e (aB e d),d,r]);let ac:K.In (uS G.heap H):=λb o e=>ad (KX b o e) (by
   cases q:H b with
   |none=>rfl
   |some u =>
    let e':b=a:=hA b (by rw[q];simp);subst e';rwa[hK (by rw[q];simp)]at e)
  let hM:Mod K mg (uS G.heap H):=#[ac,Y am,#[Z,Y I,as],let ⟨mc,h1,h2⟩:=aX;#[mc,Y h1,h2]];let e0:uJ P w K mg (uS G.heap H) XJ [] G H:=#[rfl,hM,λb o e=>aaE e,vS (aaH _ _),trivial,λb I=>D9 (show b∈([]:JS)from I) J0,bK,.of_eq hg];show wC ((F _ ac (Y am)).run XJ [] G H #[[.ref a],[]] [.ref a] [.ref a] _ _ hr e0 (ap G (.ref a)) (.cons rfl .nil) (aK H hO hS)) λr s' h=>?_;cases r with
  |error e=>show(ar H e s' h).elim
  |ok fl =>
   cases fl with
   |next=>show Zc h
   |brk=>show Zc h
   |cont=>show Zc h
   |ret u =>
    let#[v,J,os,bare,un,aT,r',q]:=h;let q':v=.bl true:=q;subst q';obtain rfl:u=Value.bool true:=r';show#[rfl,OldK.of_keep λb o e=>?_,os,bare];cases q:H b with
    |none=>show un.keep b o e q (by intro z;show D9 (show b∈([]:JS)from z) J0) J0
    |some u =>
     obtain z|⟨ob,xs,z⟩:=hO b
     .rw[q]at z;cases z
     .let z2:=un.pV b ob _ z;let#[e1,_]:=bK b _ z;let#[e2,_]:=aT b _ z2;rwa[e]at e1;show e2
 cases hk:K.lookup a with
 |some o =>
  let e:=KX a o hk;rwa[U]at e;show ab (λ_=>none) (λ_=>.inl rfl) (.inr #[_,vs.8,_,hk,1,rfl,hl<*[Yg,ay],by simpa using rv]) (λb u z=>by let L:(none:Option HO)^u:=z;cases L) (λb z=>D9 rfl z) λz=>D9 rfl z
 |none =>
  show ab (λb=>if b=a then some (.frz { cls:=.type "list",data:=.seq vs.8 } (.lst ns.17))else none) (λb=>?_) (.inl (.inr #[{ cls:=.type "list",data:=.seq vs.8 },C' rfl])) (λb u z=>?_) (λb z=>?_) λ_=>hk
  .cases I:b=a
   .show .inr #[2,C' I]
   .show .inl (vr I)
  .cases I:b=a
   .let L:=(C' I).symm.trans z;cases L;subst I;show#[U,hl<*si,vs,_,rv,U]
   .let L:=(vr I).symm.trans z;cases L
  .cases I:b=a
   .show I
   .show D9 (vr I) z
def Ku{l:C0}{n:Nat}{q:By}{loose:gq}{XP:(Str->Option xr)->Heap->Prop}{U:L3->Heap->Prop}{d:DefRec}{K:Params->Yi}{CX:L3->pJ}{sp:L3->Sp}
  (hn:l.most^n) (am:n<=yr) (ac:d.params.defaults=[]) (hr:cZ k XJ)
  (hY:∀(w:L3)(h:Heap),U w h->(K w.params).In h)
  (F:∀(w:L3)(mg:j5)(I:ZX)(h:Heap),(K w.params).In h->h.Ns YF mg->mg d.name=some (.ref I) ->
   ∃fd:C6,(∀(s:ti)(u:xr),Uz s fd #[[u],[]] [(x,u)]) /\
    ∀base:Heap,(K w.params).In base->base.Ns YF mg->aO l.prog w (K w.params) mg base (CX w) k I fd [x] (sp w))
  (ar:∀(w:L3)(H:Hp)(a:ZX)(ns:N4),ns.9<=n->OA H->bh (K w.params) H a ns.17->sp w [.ref a] H (λv _=>v=.bl true) λ_ _ _=>False)
  (ad:∀(w:L3)(H:Hp)(s:ti)(e:xr)(s':ti),CX w [] H s (λ_ _ _=>False) e s'->False) :
  Rq q loose XP U l.row.toRowW d [] (λf vs=>Sq f vs):=by
 show Att.wZ hn ac λw s₀ as mg mb I o pm cd aB a vs ns G Y ho hd aK ap ab ay hlen hg=>?_;let L:=hY w _ Y;let#[fd,Z,hF]:=F w mg I _ L G.T.g ap;show aeD L G.T.g G.T.b G.T.builtins G.T.nolimit hg ab ay (Oi hlen am) hr hF Z (λH hO hS=>ar w H a ns hlen hO hS) λH e s'=>ad w H as e s'
def zj(s:Yv)(j:Nat):Yv:=match s with
 |.ClassDef _ _ _ body _ _ _ _ _ _ _=>body.getD j (.Pass #[61,61])
 |_=>.Pass #[61,61]
def hU(s:Yv):Arguments:=match s with
 |.FunctionDef _ a _ _ _ _ _ _ _ _=>a
 |_=>{ posonlyargs:=[],args:=[],vararg:=none,kwonlyargs:=[],kw_defaults:=[],kwarg:=none,defaults:=[] }
def du(s:Yv):List Yv:=match s with
 |.FunctionDef _ _ b _ _ _ _ _ _ _=>b
 |_=>[]
def ao(s:Yv):iM:=match s with
 |.FunctionDef _ _ _ _ _ _ F _ _ _=>F
 |_=>{ kind:=.function,names:=[],isGenerator:=false,isCoroutine:=false }
abbrev bj:pJ:=λ_ _ _ _ _ _=>False
abbrev E0:XK:=λ_ _ _=>False
variable{X:Cx}
def aC:Passes bj X E0:=λ_ _ _ _ _ _ _ h=>h.elim
structure bV(K:Yi)(x qual:Str)(st:Yv)(f:ZX)(fd:C6):Prop where
 ex:∃(oc:xr)(od:ro)(kV doc pm:xr)(an:ro)(wL ct:xr)(osl:Array (Option xr)),
  fd=fnOf x qual (hU st) (du st) (ao st) .none kV doc pm an wL ct/\K.lookup f^#[oc,od,.func fd,osl]/\P5 K wL qual
 kp:Zk K (.ref f)
variable{K:Yi}{base:Heap}{qual:Str}{st:Yv}{f:ZX}{N ps:gq}{sp:Sp}
def bV.ok(F:bV K x qual st f fd)(S:aA N ps (ao st))(len:∀vs H Q E,sp vs H Q E->vs.9=ps.9)
  (Y:∀(G:xr)(A:Ys)(outer:List Env)(s:ti)(H:Hp)(vs:vl)(Q:VK)(E:XK),cZ k (A.deeper (rB qual (ao st) s.13 f G))->sp vs H Q E ->
   let X:=(sG bj P w K mg base N qual (ao st) f G A outer s H E).kR
   let D:Ends:={ nx:=λ_ J=>Q .bu J,rt:=Q }
   ∃t,t9 X (du st) t/\t D (start N vs) H):-aO (k+1) f fd ps sp:=by
 let#[oc,od,kV,Z,pm,an,G,ct,ab,rfl,lk,U]:=F.ex;show K7 lk U S len λA outer s H vs Q E I L=>?_;let#[t,h,q]:=Y G A outer s H vs Q E I L;show#[t,h.kR,q]
def bV.dZ(F:bV K x qual st f fd)(S:aA N ps (ao st))
  (hb:∀(wL:xr)(A:Ys)(outer:List Env)(s:ti)(H:Hp)(vs:vl)(Q:VK)(E:XK)(hr:cZ k (A.deeper (rB qual (ao st) s.13 f wL)))(h:sp vs H Q E),let X:=(sG bj P w K mg base N qual (ao st) f wL A outer s H E).kR
   let D:Ends:={ nx:=λ_ J=>Q .bu J,rt:=Q }
   ∃t,t9 X (du st) t/\t D (start N vs) H) (len:∀vs H Q E,sp vs H Q E->vs.9=ps.9:=by intro vs H Q E h;first|(cases h<;>subst_vars<;>rfl)|((repeat let#[_,h]:=h);all_goals(subst_vars;rfl))):-aO (k+1) f fd ps sp:=F.ok S len hb
def bV.binds(F:bV K x qual st f fd)
  (h:∀(kV I pm:xr)(an:ro)(G ct:xr)(us:WX),us.9=ps.9->EC (fnOf x qual (hU st) (du st) (ao st) .none kV I pm an G ct) #[us,[]]=pure (ps.zip us)):Nl K fd ps []:=by
 let#[oc,od,kV,I,pm,an,G,ct,U,rfl,lk,L]:=F.ex;show .all (h kV I pm an G ct)
def oE{oc:xr}{od an:ro}{I:Array (Option xr)}{kV G pm F ct:xr}(l:K.lookup f^#[oc,od,.func (fnOf x qual (hU st) (du st) (ao st) .none kV G pm an F ct),I])
  (c:P5 K F qual) (k:Zk K (.ref f)):bV K x qual st f (fnOf x qual (hU st) (du st) (ao st) .none kV G pm an F ct):=#[#[oc,od,kV,G,pm,an,F,ct,I,rfl,l,c],k]
def cy{A:Ys}(F:cZ k A):A.units+1<ff:=ZA (zI (by decide:1<=64) _) F.units
def pv(i:Nat){Yb:Pos}(F:%[X.N[i]?^x|0])(G:Qc X.env.scope x:=by first|show CH rfl|show Gf (CH rfl)|show Gf (Gf rfl))(hd:%[x.14|0])
  (I:%[(x==("__classdict__" : Str))=false|0]):PE X (.Name x Yb) (xV i):=aa3 F G hd I
variable{A B:Prop}
def cO(h:B):if false then A else B:=by
 rw[vr Yf];show h
def de(h:A):if true then A else B:=by
 rw[C' rfl];show h
def fH{c:Prop}[Decidable c](h1:c->A)(h2:¬ c->B):if c then A else B:=by
 cases h:c
 .rw[C' h];show h1 h
 .rw[vr h];show h2 h
def aG(H J:Hp):=∀b o,H b^o->J b^o
def aG.refl(H:Hp):aG H H:=λ_ _ h=>h
variable{H:Hp}
def aG.trans{H1 H2:Hp}(a:aG H H1)(b:aG H1 H2):aG H H2:=λc o h=>b c o (a c o h)
def aG.free{J:Hp}(e:aG H J){l:ZX}(h:J l=afG):H l=afG:=by
 cases q:H l with
 |none=>rfl
 |some o =>
  rwa[e l o q]at h
end
end L2
namespace C8
open PySem PyProof.Rows PySem.W
class SK where
 a₀:Array Yr
 r:Yr->Yr->Bool
 kd:E8
 tr:∀{x y z},r x y->r y z->r x z
 ah:∀{x y},¬ r x y->r y x
 Jj:∀{x y},x∈a₀.7->y∈a₀.7->r x y->r y x->x=y
 nd:a₀.toList.Nodup
section
variable[SK]
mutual
abbrev kr(x y:Yr):Prop:=SK.r x y=true
abbrev kt(xs:fM)(i j:Nat):Prop:=kr (xs.getD i (.none,.none)) (xs.getD j (.none,.none))
variable{x:Yr}
theorem oU:kr x x:=ZH λc=>c (SK.ah c)
class oN (prog:By) (w:L3) (A:Ys) (E:gJ) (s:ti):Prop where
 lt:∀{st:Yt}{x y:Yr}{Q:Option Bool->Yt->Prop},kindOf st=SK.kd->x∈SK.a₀.7->y∈SK.a₀.7->(¬ kr y x->Q (some true) st)->(kr y x->Q (some false) st)->wpS w.16 A E s (lt' x y) Q st
structure SI(st:Yt):Prop where
 perm:(arrOf st).Perm SK.a₀
 kind:kindOf st=SK.kd
 failed:rX st=none
variable{st:Yt}
theorem SI.size(h:SI st):(arrOf st).3=SK.a₀.3:=h.perm.size_eq
theorem SI.mem(h:SI st){p:Yr}:p∈(arrOf st).7↔p∈SK.a₀.7:=(ZC.mp h.perm).mem_iff
theorem SI.setArr(h:SI st){xs:fM}(F:xs.Perm (arrOf st)):SI (setArr st xs):=#[F.trans h.perm,h.kind,h.failed]
variable{i:Nat}
theorem SI.ne(h:SI st){j:Nat}(hi:i<j)(F:j<SK.a₀.3)(a:kt (arrOf st) i j)(b:kt (arrOf st) j i):False:=by
 let sz:=h.3;let m:∀{k},k<SK.a₀.3->(arrOf st).getD k (.none,.none)∈SK.a₀.7:=λhk=>h.mem.mp (by simp[tW,sz,hk]);let e:=SK.Jj (m (fE hi F)) (m F) a b;let nd:(arrOf st).toList.Nodup:=(ZC.mp h.perm).nodup_iff.mpr SK.nd;have:=YE.mp nd i j (by simpa[sz]using fE hi F) (by simpa[sz]using F) hi;simp[tW,sz,fE hi F,F]at e;show this ‹e›
variable{n m:Nat}
theorem pl(h:0<n)(k:n<=m):n-1<m:=Ym (Nat.sub_lt h one_pos) k
def SA(kt:Nat->Nat->Prop)(lo hi:Nat):=∀i j,lo<=i->i<=j->j<hi->kt i j
theorem SA.step{kt:Nat->Nat->Prop}{lo m:Nat}(I:∀{i},kt i i)(tr:∀{i j k},kt i j->kt j k->kt i k)(hs:SA kt lo (lo+m))(c:kt (lo+m-1) (lo+m)):SA kt lo (lo+(m+1)):=λi j hi F G=>by
 cases z:j<lo+m
 .show hs i j hi F z
 .obtain rfl:j=lo+m:=Zw (Qq G) (OV z);cases y:i=lo+m
  .rw[y];show I
  .let q:=Yy F y;show tr (hs i (lo+m-1) hi (ZZ q) (pl (Vm q) (BY _))) c
variable{lo:Nat}
theorem SA.one{kt:Nat->Nat->Prop}(G:∀{i},kt i i):SA kt lo (lo+1):=λi j hi I F=>by rw[Zw I (Oi (Qq F) hi)];show G
structure Cut(st IC:Yt)(lo:Nat):Prop where
 S:SI IC
 pre:∀i,i<lo->(arrOf IC)[i]?=(arrOf st)[i]?
 pend:YX IC=YX st
end
section
variable{prog:By}{w:L3}{A:Ys}{E:gJ}{s:ti}[oN prog w A E s]
theorem cw{xs:fM}{Q:Yr->Yt->Prop}(hi:i<xs.3)(h:Q (xs.getD i (.none,.none)) st):wpS w.16 A E s (elem' xs i) Q st:=by
 rw[elem'_eq,getElem?_pos xs i hi];rw[tW,dif_pos hi]at h;show TN h
theorem SI.qu(S:SI st){j:Nat}{Q:Option Bool->Yt->Prop}(hi:i<SK.a₀.3)(F:j<SK.a₀.3)(t:¬ kt (arrOf st) j i->Q (some true) st)(f:kt (arrOf st) j i->Q (some false) st) :
  wpS w.16 A E s (ltAt' i j) Q st:=by
 let sz:=S.3;let m:∀{k},k<SK.a₀.3->(arrOf st).getD k (.none,.none)∈SK.a₀.7:=λhk=>S.mem.mp (by simp[tW,sz,hk]);rw[ltAt'_eq];show G0 (z6 (G0 (cw (sz▸hi) (G0 (cw (sz▸F) (oN.lt S.kind (m hi) (m F) t f))))))
variable{x z:Nat}
theorem lx(h:lo+n<=z)(k:x<n):lo+x<z:=Ym (ZS k lo) h
theorem Vk(h:lo+n<=z)(k:x<n):lo+x-1<z:=ZA (iC ..) (lx h k)
variable{y l r:Nat}
theorem SV(h:r-l<=x-y)(a:l<=m)(b:m<r):m-l<=x-(y+1):=ZZ (Ym (Nat.sub_lt_sub_right a b) h)
theorem Xo(h:r-l<=x-y)(a:l<=m):r-(m+1)<=x-(y+1):=Nat.pred_le_pred (Oi (OB a r) h)
variable{nrem:Nat}
theorem asc{a:Nat}{Q:Option (Option Nat)×Nat->Yt->Prop}(S:SI st)(U:lo+nrem<=SK.a₀.3)(h1:1<=a)(L:a<=nrem)(hs:SA (kt (arrOf st)) lo (lo+a))
  (h:∀m,1<=m->m<=nrem->SA (kt (arrOf st)) lo (lo+m)->(m=nrem\/¬ kt (arrOf st) (lo+m-1) (lo+m))->Q (none,m) st) :
  wpS w.16 A E s (forIn [a:nrem] ((none,a):Option (Option Nat)×Nat) λ_ c=>do
   let x <-ltAt' (lo+c.snd) (lo+c.snd-1)
   match x with
   |some Y=>if Y then pure (x9 (none,c.snd))else pure (EF (none,c.snd+1))
   |_=>pure (x9 (some none,c.snd))) Q st:=by
 show Zd (I:=λx c G=>tD (G=st) (c=(none,x)) (SA (kt (arrOf st)) lo (lo+x))) ?_ ?_ #[1,hs]
 .rintro x c G Z F ⟨rfl,rfl,hs⟩;show G0 (S.qu (lx U F) (Vk U F) (λc=>TN (h x (Oi h1 Z) (Zm F) hs (.inr c))) λc=>TN #[1,hs.step oU SK.tr c])
 .rintro c G ⟨rfl,rfl,hs⟩;rw[FT L]at hs ⊢;show h nrem (Oi h1 L) (BY _) hs (.inl rfl)
theorem aeP{Q:Option Nat->Yt->Prop}(S:SI st)(U:lo+nrem<=SK.a₀.3)(h1:1<=nrem)
  (h:∀m ad,Cut st ad lo->1<=m->m<=nrem->SA (kt (arrOf ad)) lo (lo+m)->Q (some m) ad):wpS w.16 A E s (countRun' lo nrem) Q st:=by
 rw[countRun'_eq];show G0 (asc S U (BY _) h1 (.one oU) λm m1 Z hs ar=>?_);dsimp only;cases e:m=nrem
 .rw[C' ‹e›];show TN (h m st #[S,λ_ _=>rfl,rfl] m1 Z hs)
 rw[vr ‹e›];let ap:=ar.resolve_left e;cases g:m>1
 .rw[C' g];let G:=Vk U (Yy Z e);let L:lo<lo+m-1:=Nat.lt_sub_of_add_lt (ZS g lo);show G0 (S.qu (fE L G) G (λ_=>TN (h m st #[S,λ_ _=>rfl,rfl] m1 Z hs)) λd=>(S.ne (i:=lo) (j:=lo+m-1) L G (hs _ _ (BY _) (Zm L) (pl (Vm (ZS g lo)) (BY _))) d).elim)
 rw[vr g];obtain rfl:m=1:=Zw (OV g) m1;show G0 (Mv (Nb #[3]));show G0 (Z4 (Zd (I:=λx c F=>tD (F=st) (c=(none,x,0)) (SA (λi j=>kt (arrOf st) j i) lo (lo+x))) (Q:=λc F=>F=st/\∃n,c=(none,n,0)/\2<=n/\n<=nrem/\SA (λi j=>kt (arrOf st) j i) lo (lo+n)) ?_ ?_ #[1,SA.step (m:=1) oU (λa b=>SK.tr b a) (.one oU) (SK.ah ap)]) ?_)
 .rintro x c F am ab ⟨rfl,rfl,hd⟩;dsimp only;let G:=lx U ab;let L:=Vk U ab;show G0 (S.qu G L (λc=>?_) λc=>G0 (S.qu L G (λ_=>TN #[rfl,x,rfl,am,Zm ab,hd]) λd=>(S.ne (i:=lo+x-1) (j:=lo+x) (pl (Ym (XW am) (Nat.le_add_left ..)) (BY _)) G c d).elim));dsimp only;rw[C' rfl,vr (Z8 0)];show TN #[1,hd.step oU (λa b=>SK.tr b a) (SK.ah c)]
 .rintro c F ⟨rfl,rfl,hd⟩;let q:=Yy h1 e;rw[FT q]at hd ⊢;show#[rfl,nrem,rfl,q,BY _,hd]
 .rintro c F ⟨rfl,n,rfl,n1,n2,hd⟩;dsimp only;rw[vr (Z8 0)];let gm:=getElem?_mirror_all (xs:=arrOf F) (i:=lo) (j:=lo+n) (by rw[S.3];lia);let e:∀k,lo<=k->k<lo+n->(mirror (arrOf F) lo (lo+n) ((lo+n-lo)/2)).getD k (.none,.none)=(arrOf F).getD (lo+(lo+n)-1-k) (.none,.none):=λk h1 h2=>by
   have:=gm k;rw[C' #[h1,h2]]at this;rw[Zi,Zi,this]
  show G0 (wpS_reverse (G0 (asc (lo:=lo) (S.setArr (mirror_perm ..)) U (XW n1) n2 (λi j hi ac Y=>?_) λm a b hs _=>TN (h m _ #[S.setArr (mirror_perm ..),λi hi=>?_,rfl] a b hs))))
  .change kr (tW (mirror _ _ _ _) _ _) (tW (mirror _ _ _ _) _ _);rw[e i hi (ZA ac Y),e j (Oi hi ac) Y];show hd _ _ (Nat.le_sub_of_add_le (ZZ (ZS Y lo))) (OB ac _) (ZA (OB hi _) (pl (Vm Y) (BY _)<*[Nat.sub_right_comm,YW]))
  .show(gm i).trans (vr λz=>NA.mpr z.1 hi)
theorem ada{ok:Nat}{Q:Bool->Yt->Prop}(S:SI st)(hn:lo+n<=SK.a₀.3)(h1:1<=ok)(bK:ok<=n)(hs:SA (kt (arrOf st)) lo (lo+ok))
  (h:∀F,Cut st F lo->SA (kt (arrOf F)) lo (lo+n)->Q true F):wpS w.16 A E s (binarySort' lo n ok) Q st:=by
 rw[binarySort'_eq];show G0 (Z4 (Zd (I:=λx c F=>tD (c=(none,())) (Cut st F lo) (SA (kt (arrOf F)) lo (lo+x))) (Q:=λc F=>tD (c=(none,())) (Cut st F lo) (SA (kt (arrOf F)) lo (lo+n))) ?_ ?_ ?_) ?_)
 .rintro x c F as ac ⟨rfl,C,G⟩;let am:lo+x<(arrOf F).3:=(lx hn ac<*C.S.3);show G0 (Z4 (Zd (I:=λy c L=>L=F/\∃l r,c=(none,l,r)/\l<=r/\r<=x/\r-l<=x-y/\(∀i,lo<=i->i<lo+l->kt (arrOf F) i (lo+x))/\∀i,lo+r<=i->i<lo+x->kt (arrOf F) (lo+x) i)
   (Q:=λc L=>L=F/\∃l r,c=(none,l,r)/\l<=x/\(∀i,lo<=i->i<lo+l->kt (arrOf F) i (lo+x))/\∀i,lo+l<=i->i<lo+x->kt (arrOf F) (lo+x) i) ?_ ?_ ?_) ?_)
  .rintro y c L ap ar ⟨rfl,l,r,rfl,lr,rx,hm,a1,a2⟩;dsimp only;cases g:l>=r
   .rw[C' g];obtain rfl:=Zw lr g;show TN #[rfl,l,l,rfl,rx,a1,a2]
   .rw[vr g];let ha:l<=(l+r)/2:=ak;let hb:(l+r)/2<r:=ak;let hc:=Ym hb rx;show G0 (C.S.qu (lx hn ac) (lx hn (fE hc ac)) (λc=>TN #[rfl,l,(l+r)/2,rfl,ha,Zm hc,SV hm ha hb,a1,λi hi ab=>SK.tr (SK.ah c) (G _ _ (Y7 ..) hi ab)])
     λc=>TN #[rfl,(l+r)/2+1,r,rfl,hb,rx,Xo hm ha,λi hi ab=>SK.tr (G i _ hi (Qq ab) (ZS hc lo)) c,a2])
  .rintro c L ⟨rfl,l,r,rfl,lr,rx,hm,a1,a2⟩;rw[Nat.zero_max,ZU]at hm;obtain rfl:=Zw lr (OS.mp (Q6.mp hm));show#[rfl,l,l,rfl,rx,a1,a2]
  .show#[rfl,(0),x,rfl,Zy _,BY _,BY _,λi hi ad=>(NA.mpr hi ad).elim,λi hi ad=>(NA.mpr hi ad).elim]
  .rintro c L ⟨rfl,l,r,rfl,lx,a1,a2⟩;dsimp only;rw[moveDown'_eq];let gb:=getElem?_bubble am (lo+x-(lo+l)) (iC _ _);rw[Nat.sub_sub_self (zI lx lo)]at gb;let e:∀k,(bubble (arrOf L) (lo+x) (lo+x-(lo+l))).getD k (.none,.none)=if k=lo+l then(arrOf L).getD (lo+x) (.none,.none)else if lo+l<k/\k<=lo+x then(arrOf L).getD (k-1) (.none,.none)else(arrOf L).getD k (.none,.none):=λk=>by
    simp only[Zi];rw[gb k];split
    .rfl
    .split<;>rfl
   show G0 (E6 (TN #[rfl,#[C.S.setArr (bubble_perm _ _ _),λi hi=>((gb i).trans ((vr (Za (Ym hi (Y7 ..)))).trans (vr λz=>Z8 _ (fE z.1 (Ym hi (Y7 ..)))))).trans (C.pre i hi),C.pend],λi j hi Y hj=>?_]));change kr (tW (bubble _ _ _) _ _) (tW (bubble _ _ _) _ _);rw[e i,e j];let Z:=Qq hj;cases c1:i=lo+l
   .rw[C' c1];cases U:j=lo+l
    .rw[C' U];show oU
    .let z:=Yy (c1▸Y) (oR U);rw[vr U,C' #[z,Z]];show a2 _ (ZZ z) (pl (Vm z) Z)
   .rw[vr c1];cases U:j=lo+l
    .let z:=Yy (U▸Y) c1;rw[C' U,vr λy=>Nat.lt_asymm z y.1];show a1 i hi z
    .rw[vr U];cases c3:lo+l<i/\i<=lo+x
     .let z:=Ym c3.1 Y;rw[C' c3,C' #[z,Z]];show G _ _ (ZZ (ZA (Y7 lo l) c3.1)) (adR Y 1) (pl (Vm z) Z)
     .rw[vr c3];cases c4:lo+l<j/\j<=lo+x
      .rw[C' c4];show G _ _ hi (ZZ (Yy Y λe=>c3 (e▸c4))) (pl (Vm c4.1) Z)
      .rw[vr c4];show G _ _ hi Y (Ym (Yy (OV λy=>c4 #[y,Z]) U) (zI lx lo))
 .rintro c F ⟨rfl,C,G⟩;rw[FT (Nat.max_le.mpr #[bK,Oi h1 bK])]at G;show#[rfl,C,G]
 .rw[show max ok 1=ok by show Nat.max_eq_left h1];show#[rfl,#[S,λ_ _=>rfl,rfl],hs]
 .rintro c F ⟨rfl,C,G⟩;show TN (h F C G)
end
def acv:Bool->Yr->Array Yr->Nat->Nat->Nat->StateT Yt Sem (Option Nat):=sortPriv% PySem.Builtin.gallop
def vY(left:Bool)(F x:Yr):Bool:=if left then !(SK.r F x) else SK.r x F
theorem aa1{left:Bool}{F y:Yr}(h:kr x y)(b:vY left F y):vY left F x:=by
 unfold vY at b ⊢;cases left with
 |true =>
  change(!(SK.r F x))=true;cases e:SK.r F x with
  |false=>rfl
  |true=>rwa[show SK.r F y from SK.tr e h]at b
 |false=>show SK.tr h b
variable{X:iE}
theorem gD(h:i<X.9):X.getD i (.none,.none)=X[i]:=by simp[List.getD,h]
noncomputable def qy(left:Bool)(F:Yr)(xs:fM)(base i:Nat):StateT Yt Sem (Option Bool):=
 bind (elem' xs (base+i)) λx=>ite (left=true) (lt' x F) (bind (lt' F x) λr=>pure (Option.map (λb => !b) r))
section
variable{prog:By}{w:L3}{A:Ys}{E:gJ}{s:ti}[oN prog w A E s]{left:Bool}{xs:fM}{base:Nat}
theorem Xr{ab:Yr}{l r:Nat}{b:Nat->Bool}{Q:Option (Option Nat)×Nat×Nat->Yt->Prop}
  (B:∀{i:Nat}{Q:Option Bool->Yt->Prop},i<n->Q (some (b i)) st->wpS w.16 A E s (qy left ab xs base i) Q st) (mn:∀{i j},i<=j->j<n->b j->b i)
  (L:l<=r) (F:r<=n) (a1:∀i,i<l->b i) (a2:∀i,r<=i->i<n->b i=false) (h:∀r,r<=n->(∀i,i<r->b i)->(∀i,r<=i->i<n->b i=false)->Q (none,r,r) st) :
  wpS w.16 A E s (forIn [0:n] ((none,l,r):Option (Option Nat)×Nat×Nat) λ_ c =>
   if c.snd.fst>=c.snd.snd then pure (x9 (none,c.snd.fst,c.snd.snd))else do
    let x <-qy left ab xs base (c.snd.fst+(c.snd.snd-c.snd.fst)/2)
    match x with
    |some ac=>if ac then pure (EF (none,c.snd.fst+(c.snd.snd-c.snd.fst)/2+1,c.snd.snd))else pure (EF (none,c.snd.fst,c.snd.fst+(c.snd.snd-c.snd.fst)/2))
    |_=>pure (x9 (some none,c.snd.fst,c.snd.snd))) Q st:=by
 show Zd (I:=λx c Y=>Y=st/\∃l r,c=(none,l,r)/\l<=r/\r<=n/\r-l<=n-x/\(∀i,i<l->b i)/\∀i,r<=i->i<n->b i=false) ?_ ?_ #[rfl,l,r,rfl,L,F,Oi (iC ..) F,a1,a2]
 .rintro x c Y ap am ⟨rfl,l,r,rfl,L,F,G,a1,a2⟩;dsimp only;cases g:l>=r
  .rw[C' g];obtain rfl:=Zw L g;show TN (h l F a1 a2)
  .rw[vr g];let ha:l<=l+(r-l)/2:=Y7 ..;let U:l+(r-l)/2<r:=ak;let hc:=Ym U F;show G0 (B (i:=l+(r-l)/2) hc ?_);cases Z:b (l+(r-l)/2)with
   |true=>show TN #[5,r,rfl,U,F,Xo G ha,λi hi=>mn (Qq hi) hc Z,a2]
   |false=>show TN #[75,ha,Zm hc,SV G ha U,a1,λi hi ad=>Y0.mpr λz=>by rwa[mn hi ad z]at Z]
 .rintro c Y ⟨rfl,l,r,rfl,L,F,G,a1,a2⟩;rw[Nat.zero_max,ZU]at G;obtain rfl:=Zw L (OS.mp (Q6.mp G));show h l F a1 a2
theorem tw{o:Nat}:o<=2*o:=Nat.le_mul_of_pos_left o az
theorem iI{L:Yr}{F:Nat}{Q:Option Nat->Yt->Prop}(hk:kindOf st=SK.kd)(am:L∈SK.a₀.7)(G:X.9=n)(hx:∀i,i<n->xs[base+i]?=X[i]?)(ha:∀p∈X,p∈SK.a₀.7)
  (hs:X.Pairwise kr) (Y:F<n) (h:∀X1 X2,X=X1++X2->(∀p∈X1,vY left L p)->(∀p∈X2,vY left L p=false)->Q (some X1.9) st) :
  wpS w.16 A E s (acv left L xs base n F) Q st:=by
 let B:∀{i:Nat}{Q:Option Bool->Yt->Prop},i<n->Q (some (vY left L (X.getD i (.none,.none)))) st->wpS w.16 A E s (qy left L xs base i) Q st:=λ{i Q} hi q=>by
  let e:=hx i hi;let hi:=Zu hi G.6;rw[vu hi]at e;rw[gD hi]at q;let hm:=ha _ (Zr hi);unfold qy;rw[elem'_eq,e];show G0 (TN ?_);unfold vY at q;cases left with
  |true=>show oN.lt hk hm am (λc=>by rw[C' rfl,Y0.mpr c]at q;show q) λc=>by rw[C' rfl,show SK.r L _ from c]at q;show q
  |false=>show G0 (oN.lt hk am hm (λc=>TN (by rw[vr az,Y0.mpr c]at q;show q)) λc=>TN (by rw[vr az,show SK.r _ L from c]at q;show q))
 let mn:∀{i j},i<=j->j<n->vY left L (X.getD j (.none,.none))->vY left L (X.getD i (.none,.none)):=λ{i j} ad hj z=>by
  cases e:i=j
  .rw[e];show z
  .let hj:=Zu hj G.6;let hi:=ZA ad hj;rw[gD hj]at z;rw[gD hi];show aa1 (YE.mp hs i j hi hj (Yy ad e)) z
 let fin:∀r,r<=n->(∀i,i<r->vY left L (X.getD i (.none,.none)))->(∀i,r<=i->i<n->vY left L (X.getD i (.none,.none))=false)->Q (some r) st:=λr hr a1 a2=>by
  have:=h (X.take r) (X.drop r) (YM ..).symm (λp hp=>?_) λp hp=>?_
  .rwa [Nx,YV (Oi hr (vS G.6))]at this
  .let#[i,hi,rfl]:=Y8.mp hp;rw[Nx]at hi;rw[HY, <-gD];show a1 i (Ym hi (Rm ..))
  .let#[i,hi,rfl]:=Y8.mp hp;rw[YB]at hi;rw[List.getElem_drop, <-gD];show a2 _ (Y7 ..) (G▸adv hi)
 obtain⟨b,hb⟩:∃b:Nat->Bool,∀i,vY left L (X.getD i (.none,.none))=b i:=#[_,λ_=>rfl];simp only[hb]at B mn fin;show G0 (B Y ?_);cases c:b F with
 |true =>
  dsimp only;rw[C' rfl];show G0 (Z4 (Zd (I:=λx c U=>U=st/\∃l o,c=(none,l,o)/\l<o/\x+1<=o/\F+l<n/\b (F+l)) (Q:=λc U=>U=st/\∃l o,c=(none,l,o)/\l<o/\F+l<n/\b (F+l)/\(n-F<=o\/(F+o<n/\b (F+o)=false))) ?_ ?_ ?_) ?_)
  .rintro x c U ar ap ⟨rfl,l,o,rfl,lo,xo,G,bl⟩;dsimp only;cases g:o>=n-F
   .rw[C' g];show TN #[38,.inl g]
   .rw[vr g];let q:=adv (Cm g);show G0 (B (i:=F+o) q ?_);cases Z:b (F+o)with
    |true=>show TN #[rfl,o,2*o+1,rfl,aeN tw,Gp (Oi xo tw),q,Z]
    |false=>show TN #[38,.inr #[q,Z]]
  .rintro c U ⟨rfl,l,o,rfl,lo,xo,G,bl⟩;show#[38,.inl (Oi (iC ..) (XW (Oi (Gp (EB 0 n)) xo)))]
  .show#[rfl,(0),26,one_pos,BY _,Y,c]
  .rintro c U ⟨rfl,l,o,rfl,lo,G,bl,ac⟩;dsimp only;show G0 (Xr B mn (ZS (Nat.lt_min.mpr #[lo,Nat.lt_sub_iff_add_lt'.mpr G]) F) (Mx (Zm Y) (Dc ..)) (λi hi=>mn (Qq hi) G bl) (λi hi ab=>?_) λr hr a1 a2=>TN (fin r hr a1 a2));obtain g|⟨g1,g2⟩:=ac
   .rw[MG g,ZF (Zm Y)]at hi;show D9 ab (NA.mpr hi)
   .rw[YV (Nat.le_sub_of_add_le' (Zm g1))]at hi;show Y0.mpr λz=>by rwa[mn hi ab z]at g2
 |false =>
  dsimp only;rw[vr az];show G0 (Z4 (Zd (I:=λx c U=>U=st/\∃l o,c=(none,l,o)/\l<o/\x+1<=o/\l<=F/\b (F-l)=false) (Q:=λc U=>U=st/\∃l o,c=(none,l,o)/\l<o/\l<=F/\b (F-l)=false/\(F+1<=o\/(o<=F/\b (F-o)))) ?_ ?_ ?_) ?_)
  .rintro x c U ar ap ⟨rfl,l,o,rfl,lo,xo,G,bl⟩;dsimp only;cases g:o>=F+1
   .rw[C' g];show TN #[38,.inl g]
   .rw[vr g];let q:=Qq (Cm g);show G0 (B (i:=F-o) (ZA (iC ..) Y) ?_);cases Z:b (F-o)with
    |true=>show TN #[38,.inr #[q,Z]]
    |false=>show TN #[rfl,o,2*o+1,rfl,aeN tw,Gp (Oi xo tw),q,Z]
  .rintro c U ⟨rfl,l,o,rfl,lo,xo,G,bl⟩;show#[38,.inl (Oi (Gp (Oi (Zm Y) (EB 0 n))) xo)]
  .show#[rfl,(0),26,one_pos,BY _,Zy _,c]
  .rintro c U ⟨rfl,l,o,rfl,lo,G,bl,ac⟩;dsimp only;show G0 (Xr B mn (Oi (OB (Nat.le_min.mpr #[lo,Gp G]) _) (vS (adw ..))) (Oi (iC ..) (Zm Y)) (λi hi=>?_) (λi hi ab=>Y0.mpr λz=>by rwa[mn hi ab z]at bl) λr hr a1 a2=>TN (fin r hr a1 a2));obtain g|⟨g1,g2⟩:=ac
   .rw[MG g,ZU]at hi;show D9 hi (B6 _)
   .rw[YV (RM g1),Nat.succ_sub g1]at hi;show mn (Qq hi) (ZA (iC ..) Y) g2
end
mutual
abbrev mg(X Y:iE):List Yr:=X.merge Y SK.r
theorem Sy{X' Y:iE}{y:Yr}:∀{X:iE},(∀x∈X,kr x y)->mg (X++X') (y::Y)=X++mg X' (y::Y)
 | [],_=>rfl
 |x::X,h=>by
  rw[Bw,mg,List.cons_merge_cons_pos (h:=h x Yn),Bw];show Ur _ (Sy λz F=>h z (Yp _ F))
theorem RT{X Y':iE}{x:Yr}:∀{Y:iE},(∀y∈Y,¬ kr x y)->mg (x::X) (Y++Y')=Y++mg (x::X) Y'
 | [],_=>rfl
 |y::Y,h=>by
  rw[Bw,mg,List.cons_merge_cons_neg (h:=h y Yn),Bw];show Ur _ (RT λz F=>h z (Yp _ F))
theorem MX{X':iE}:∀{X Y:iE},(∀x∈X',∀y∈Y,¬ kr x y)->mg (X++X') Y=mg X Y++X'
 | [],Y,h=>by
  cases X' with
  |nil=>simp[mg]
  |cons x X' =>
   have:=RT (X:=X') (Y:=Y) (Y':=[]) (h x Yn);simpa[mg]using this
 |a::X,[],_=>by simp[mg]
 |a::X,y::Y,h=>by
  rw[Bw,mg,Hk,mg,Hk];split
  .show Ur _ (MX h)
  .show Ur _ (MX (X:=a::X) λx hx z F=>h x hx z (Yp _ F))
theorem Ir{Y':iE}:∀{X Y:iE},(∀y∈Y',∀x∈X,kr x y)->mg X (Y++Y')=mg X Y++Y'
 | [],Y,h=>by simp[mg]
 |a::X,[],h=>by
  cases Y' with
  |nil=>simp[mg]
  |cons y Y' =>
   have:=Sy (X:=a::X) (Y:=Y') (X':=[]) (h y Yn);simpa[mg]using this
 |a::X,y::Y,h=>by
  rw[Bw,mg,Hk,mg,Hk];split
  .show Ur _ (Ir (Y:=y::Y) λz F x hx=>h z F x (Yp _ hx))
  .show Ur _ (Ir h)
abbrev gG(a:fM)(i:Nat):Yr:=a.getD i (.none,.none)
variable{a:fM}
theorem mV(h:i<a.3):a.toList.drop i=gG a i::a.toList.drop (i+1):=by
 rw[ZN ‹h›];simp[gG,tW,h]
theorem LF(h:i<a.3):a.toList.take (i+1)=a.toList.take i++[gG a i]:=by
 rw[List.take_succ_eq_append_getElem ‹h›];simp[gG,tW,h]
variable{k:Nat}
theorem iq:(a.extract i k).7=(a.toList.drop i).take (k-i):=by
 rw[Array.toList_extract,List.extract_eq_take_drop]
structure MI(a b out:fM)(ia ib:Nat):Prop where
 la:ia<=a.3
 lb:ib<=b.3
 eq:out.7++mg (a.toList.drop ia) (b.toList.drop ib)=mg a.7 b.7
variable{b out:fM}{F G:Nat}
theorem MI.sz(m:MI a b out F G):out.3+(a.3-F)+(b.3-G)=a.3+b.3:=by
 have:=Ur YL m.eq;simp only[tp,mg,WR,YB,Yx]at this;rw[Ea];show this
variable{out':fM}
theorem MI.RD(m:MI a b out F G)(hk:F+k<=a.3)(L:G<b.3)(I:out'.7=out.7++(a.toList.drop F).take k)(h:∀x∈(a.toList.drop F).take k,kr x (gG b G)):MI a b out' (F+k) G:=by
 show#[hk,m.lb,?_];rw[<-m.eq,I,YA, <-Rf]
 conv=>rhs;rw[<-YM k (a.toList.drop F)]
 rw[mV L,Sy h]
theorem MI.Ql(m:MI a b out G F)(hk:F+k<=b.3)(L:G<a.3)(I:out'.7=out.7++(b.toList.drop F).take k)(h:∀y∈(b.toList.drop F).take k,¬ kr (gG a G) y):MI a b out' G (F+k):=by
 show#[m.la,hk,?_];rw[<-m.eq,I,YA, <-Rf]
 conv=>rhs;rw[<-YM k (b.toList.drop F)]
 rw[mV L,RT h]
theorem MI.Pe(m:MI a b out F G)(I:F<a.3)(L:G<b.3)(h:kr (gG a F) (gG b G)):MI a b (out.push (gG a F)) (F+1) G :=
 m.RD I L (by rw[mV I];simp) λx hx=>by rw[mV I]at hx;obtain rfl:=z4.mp hx;show h
theorem MI.PF(m:MI a b out G F)(L:G<a.3)(I:F<b.3)(h:¬ kr (gG a G) (gG b F)):MI a b (out.push (gG b F)) G (F+1):=
 m.Ql I L (by rw[mV I];simp) λx hx=>by rw[mV I]at hx;obtain rfl:=z4.mp hx;show h
def Good(a b R:fM):Prop:=R.7=mg a.7 b.7
theorem qj:(a.extract i a.3).7=a.toList.drop i:=by
 rw[iq];show Ye J0
theorem MI.done(m:MI a b out F G)(h:F=a.3\/G=b.3):Good a b (out++a.extract F a.3++b.extract G b.3):=by
 unfold Good;rw[Zh,Zh,qj,qj, <-m.eq,YA];show Ur _ ?_;obtain rfl|rfl:=h
 .rw[Y3 (l:=a.7) J0];simp[mg]
 .rw[Y3 (l:=b.7) J0];simp[mg]
theorem MI.last(m:MI a b out F G)(hi:F+1=a.3)(h:∀y∈b.7,¬ kr (gG a (a.3-1)) y):Good a b (out++b.extract G b.3++a.extract F a.3):=by
 let I:F<a.3:=Nat.lt_of_succ_le (vS hi);unfold Good;rw[Zh,Zh,qj,qj, <-m.eq,YA,mV I,Y3 (l:=a.7) (i:=F+1) (vS hi.6)];have:=RT (X:=[]) (Y':=[]) (Y:=b.toList.drop G) (x:=gG a F) λy L=>by
  rw[Nat.eq_sub_of_add_eq hi];show h y (ZG L)
 show Ur _ (EL ?_);simpa[mg]using this
def afB:Array Yr->Array Yr->StateT Yt Sem (Array Yr):=sortPriv% PySem.Builtin.mergeLo
structure wY(st IC:Yt):Prop where
 arr:arrOf IC=arrOf st
 kind:kindOf IC=kindOf st
 failed:rX IC=rX st
 pend:YX IC=YX st
structure Pr(a b:fM):Prop where
 ma:∀p∈a.7,p∈SK.a₀.7
 mb:∀p∈b.7,p∈SK.a₀.7
 sa:a.toList.Pairwise kr
 sb:b.toList.Pairwise kr
 na:1<=a.3
 nb:1<=b.3
 h0:¬ kr (gG a 0) (gG b 0)
 hl:∀y∈b.7,¬ kr (gG a (a.3-1)) y
variable{k:Yr}
theorem AG(h:vY true k x):¬ kr k x:=λz=>by rwa[vY,C' rfl,show SK.r k x from z]at h
theorem Aw(h:vY true k x=false):kr k x:=by rw[vY,C' rfl]at h;simpa using h
theorem AN(h:vY false k x=false):¬ kr x k:=λz=>Yf (h.symm.trans z)
theorem S9(h:i<a.3):gG a i∈a.toList.drop i:=by rw[mV h];show Yn
theorem iU(h:i<a.3):gG a i∈a.7:=by simp[gG,tW,h]
end
section
variable{prog:By}{w:L3}{A:Ys}{E:gJ}{s:ti}[oN prog w A E s]{c:Prop}
mutual
theorem gz{α:Type}[Decidable c]{m n:StateT Yt Sem α}{Q:α->Yt->Prop}(h1:c->wpS w.16 A E s m Q st)(h2:¬ c->wpS w.16 A E s n Q st):wpS w.16 A E s (if c then m else n) Q st:=by
 cases z:c
 .rw[C' z];show h1 z
 .rw[vr z];show h2 z
theorem dG{α:Type}{a b:Nat}{m n:StateT Yt Sem α}{Q:α->Yt->Prop}(h1:a=b->wpS w.16 A E s m Q st)(h2:¬ a=b->wpS w.16 A E s n Q st):wpS w.16 A E s (if (a==b)=true then m else n) Q st:=gz (λz=>h1 (yE z)) λz=>h2 λe=>z (MC e)
theorem FP{α β:Type}[Decidable c]{f:β->StateT Yt Sem α}{x y:β}{Q:α->Yt->Prop}(h:∀m,wpS w.16 A E s (f m) Q st):wpS w.16 A E s (if c then f x else f y) Q st:=gz (λ_=>h x) λ_=>h y
theorem qr{α β F:Type}[Decidable c]{f:β->F->StateT Yt Sem α}{x:β}{y:F}{m:StateT Yt Sem α}{R:β->F->Prop}{Q:α->Yt->Prop}(H':∀o i,R o i->wpS w.16 A E s (f o i) Q st)(h:c->(∀o i,R o i->wpS w.16 A E s (f o i) Q st)->wpS w.16 A E s m Q st)(h2:¬ c->R x y):wpS w.16 A E s (if c then m else f x y) Q st:=gz (λz=>h z H') λz=>H' _ _ (h2 z)
variable{y:Nat}
theorem sb{x:Nat}(h:n-i=x+y)(k:i<n):i+x<=n:=ak
variable{o:fM}
theorem Rw(h:n+y<=o.3):n+(y+1)<=(o.push x).3:=by rw[afj];show Gp h
theorem Lw(h:n<=o.3):n<=(o.push x).3:=by rw[afj];show RM h
theorem SE{t:fM}(h:n<=o.3):n<=(o++t).3:=by rw[aeO];show NM h
theorem SJ(h:n+y<=o.3):n+1<=(o.push x).3:=Rw (y:=0) (Z5 h)
def qa7:Nat->StateT Yt Sem Unit:=sortPriv% PySem.Builtin.setMinGallop
theorem zN{F:Yt}{g:Nat}{Q:Unit->Yt->Prop}(k:wY F st)(h:∀G,wY F G->Q () G):wpS w.16 A E s (qa7 g) Q st :=
 E6 (h _ #[k.arr,k.kind,k.failed,k.pend])
theorem zC5{Q:Array Yr->Yt->Prop}(hk:kindOf st=SK.kd)(P:Pr a b)(h:∀R U,Good a b R->wY st U->Q R U):wpS w.16 A E s (afB a b) Q st:=by
 let na:=P.na;let nb:=P.nb;show G0 (Mv (Nb #[3]));show G0 (cw nb ?_);let M0:MI a b ([gG b 0].8) 0 1:=(show MI a b ([].8) 0 0 from#[Zy _,Zy _,rfl]).PF na nb P.h0;show dG (λg=>TN (h _ _ (M0.done (.inr g)) #[1,1])) (λg1=>?_);show dG (λg=>TN (h _ _ (M0.last g P.hl) #[1,1])) (λg2=>?_);show G0 (z6 ?_);show G0 (Z4 (Zd (I:=λx c U=>SO λout G F mg=>HG (c=(none,out,G,F,mg)) (MI a b out G F) (G+1<a.3) (F<b.3) (x+1<=out.3) (wY st U)) (Q:=λc U=>∃R,tD (Good a b R) (c.1^R) (wY st U)) ?_ ?_ ?_) ?_)
 .rintro x c ar a6 a5 ⟨out,G,F,mg,rfl,M,L,lb,lo,K1⟩;show G0 (Z4 (Zd (I:=λy c U=>Pz λout' G F Z Y=>HG (c=(none,out',G,F,Z,Y)) (MI a b out' G F) (G+1<a.3) (F<b.3) (out.3+y<=out'.3) (wY st U))
   (Q:=λc U=>wY st U/\((∃R,Good a b R/\c.1^R)\/(Pz λout' G F Z Y=>OZ (c=(none,out',G,F,Z,Y)) (MI a b out' G F) (G+1<a.3) (F<b.3) (out.3+1<=out'.3)))) ?_ ?_ ?_) ?_)
  .rintro y c ay aX a0 ⟨out',G,F,Z,Y,rfl,M,L,lb,ad,K2⟩;show G0 (cw lb (G0 (cw (YR L) (G0 (oN.lt (K2.kind.trans hk) (P.mb _ (iU lb)) (P.ma _ (iU (YR L))) (λc=>?_) λc=>?_)))))
   .show G0 (cw lb ?_);let M2:=M.PF (YR L) lb c;show dG (λg=>TN #[K2,.inl #[_,M2.done (.inr g),rfl]]) (λg'=>?_);show gz (λg=>TN #[K2,.inr #[_,G,F+1,_,0,M2,L,Yy lb g',SJ ad]]) λg=>TN #[_,G,F+1,_,0,M2,L,Yy lb g',Rw ad,K2]
   .show G0 (cw (YR L) ?_);let M2:=M.Pe (YR L) lb c;show dG (λg=>TN #[K2,.inl #[_,M2.last g P.hl,rfl]]) (λg'=>?_);show gz (λg=>TN #[K2,.inr #[_,G+1,F,_,0,M2,Yy L g',lb,SJ ad]]) λg=>TN #[_,G+1,F,_,0,M2,Yy L g',lb,Rw ad,K2]
  .rintro c ay ⟨out',G,F,Z,Y,rfl,M,L,lb,ad,K2⟩;show#[K2,.inr #[2,2,0,M,L,lb,ak]]
  .show#[out,G,F,_,0,M,L,lb,ak,K1]
  .rintro c ay ⟨K2,⟨R,hR,e⟩|⟨out',G,F,Z,Y,rfl,M,L,lb,ad⟩⟩
   .let#[c1,c2]:=c;cases e;show TN #[R,hR,rfl,K2]
   .show G0 (Mv (Nb #[3]));show G0 (Z4 (Zd (I:=λy c U=>RU λab G F mg Z Y=>HG (c=(none,ab,G,F,mg,Z,Y)) (MI a b ab G F) (G+1<a.3) (F<b.3) (out'.3<=ab.3) (wY st U))
     (Q:=λc U=>wY st U/\((∃R,Good a b R/\c.1^R)\/(RU λab G F mg Z Y=>OZ (c=(none,ab,G,F,mg,Z,Y)) (MI a b ab G F) (G+1<a.3) (F<b.3) (out'.3<=ab.3)))) ?_ ?_ ?_) ?_)
    .rintro y c aN aX a0 ⟨ab,G,F,aB,Z,Y,rfl,M,L,lb,am,K3⟩
     extract_lets
     show FP λm=>?_;show G0 (zN K3 λas K4=>?_);let aT:kindOf as=SK.kd:=K4.kind.trans hk;show G0 (cw lb (G0 (iI (X:=a.toList.drop G) aT (P.mb _ (iU lb)) YB (λi _=>YO.6<*Zz) (λp hp=>P.ma p (ZG hp)) (P.sa.sublist (Km ..)) (Mg (YR L)) λX1 X2 e x1 x2=>?_)));dsimp -zeta only
     extract_lets
     let dX:a.toList.drop (G+X1.9)=X2:=(by rw[<-Rf,e,MW]);let lX:=Ur YL e;rw[tp,YB,Yx]at lX;show qr (R:=λo i=>Hg (MI a b o i F) (i+1<a.3) (out'.3<=o.3) (¬ kr (gG a i) (gG b F))) (λo i ⟨M1,il,ii,hX⟩=>?_) (λg H'=>?_) λg=>?_
     .let M2:=M1.PF (YR il) lb hX;show G0 (cw lb ?_)
      extract_lets
      show dG (λg5=>TN #[K4,.inl #[_,M2.done (.inr g5),rfl]]) (λap=>?_);show G0 (cw (YR il) (G0 (iI (X:=b.toList.drop (F+1)) aT (P.ma _ (iU (YR il))) YB (λi _=>YO.6<*Zz) (λp hp=>P.mb p (ZG hp)) (P.sb.sublist (Km ..)) (Mg (Yy lb ap)) λY1 Y2 f y1 y2=>?_)));dsimp -zeta only
      extract_lets
      let dY:b.toList.drop (F+1+Y1.9)=Y2:=(by rw[<-Rf,f,MW]);let lY:=Ur YL f;rw[tp,YB,Yx]at lY;show qr (R:=λo j=>Hg (MI a b o i j) (j<b.3) (out'.3<=o.3) (kr (gG a i) (gG b j))) (λo j ⟨M3,jl,jj,hY⟩=>?_) (λg H'=>?_) λg=>#[M2,Yy lb ap,Lw ii,?_]
      .show G0 (cw (YR il) ?_);let M4:=M3.Pe (YR il) jl hY;show dG (λg8=>TN #[K4,.inl #[_,M4.last g8 P.hl,rfl]]) (λaK=>?_);show gz (λg9=>TN #[K4,.inr #[_,i+1,j,2,0,M4,Yy il aK,jl,Lw jj]]) λg9=>TN #[_,i+1,j,2,0,M4,Yy il aK,jl,Lw jj,K4]
      .let M3:=M2.Ql (k:=Y1.9) (out':=o.push (gG b F)++b.extract (F+1) (F+1+Y1.9)) (sb lY (Yy lb ap)) (YR il) (by rw[Zh,iq,YW]) ((λy hy=>AG (y1 y hy))<*[f,Ky]);show dG (λg7=>TN #[K4,.inl #[_,M3.done (.inr g7),rfl]]) λa3=>?_;let q:=Yy (sb lY (Yy lb ap)) a3;show H' _ _ #[M3,q,SE (Lw ii),Aw (y2 _ (dY▸S9 q))]
      .rw[ZJ g]at dY;show Aw (y2 _ (dY▸S9 (Yy lb ap)))
     .let M1:=M.RD (k:=X1.9) (out':=ab++a.extract G (G+X1.9)) (sb lX (YR L)) lb (by rw[Zh,iq,YW]) (x1<*[e,Ky]);show dG (λg3=>TN #[K4,.inl #[_,M1.last g3 P.hl,rfl]]) λa4=>dG (λg4=>TN #[K4,.inl #[_,M1.done (.inl g4),rfl]]) λaY=>?_;let q:=Yy (sb lX (YR L)) aY;show H' _ _ #[M1,Yy q a4,SE am,AN (x2 _ (dX▸S9 q))]
     .rw[ZJ g]at dX;show#[M,L,am,AN (x2 _ (dX▸S9 (YR L)))]
    .rintro c aN ⟨ab,G,F,aB,Z,Y,rfl,M,L,lb,am,K3⟩;show#[K3,.inr #[2,2,_,0,M,L,lb,am]]
    .show#[out',G,F,2,0,M,L,lb,BY _,K2]
    .rintro c aN ⟨K3,⟨R,hR,e⟩|⟨ab,G,F,aB,Z,Y,rfl,M,L,lb,am⟩⟩
     .let#[c1,c2]:=c;cases e;show TN #[R,hR,rfl,K3]
     .show G0 (zN K3 λas K4=>TN #[ab,G,F,0,M,L,lb,ak,K4])
 .rintro c ar ⟨out,G,F,mg,rfl,M,L,lb,lo,K1⟩;exfalso;have:=M.sz;lia
 .show#[2,_,0,M0,ak,ak,BY _,#[1,1]]
 .rintro c ar ⟨R,hR,e,K1⟩;let#[c1,c2]:=c;cases e;show TN (h R ar hR K1)
end
end
mutual
def bk':Array Yr->Array Yr->StateT Yt Sem (Array Yr):=sortPriv% PySem.Builtin.mergeHi
theorem p2(h:2<=n)(g:¬ n-1=1):2<=n-1:=ak
theorem t2(g:¬ n=1)(h:¬ n=0):2<=n:=ak
variable{x y:Nat}
theorem mn(h:min n m=x+y):x<=n:=Oi (Y7 x y) (h▸Rm n m)
theorem aaj(h:min n m=x+y)(g:¬ n-x>0):x=n:=Zw (mn h) (OS.mp (ZJ g))
theorem Vv{l:fM}(h:n<=l.3):(l.toList.take n).9=n:=by rw[Nx,Yx,YV h]
theorem LL(h1:1<=n)(h:n<=a.3):a.toList.take n=a.toList.take (n-1)++[gG a (n-1)]:=by
 have:=LF (a:=a) (i:=n-1) (pl h1 h)
 (rw[Nat.sub_add_cancel h1]at this;assumption)
theorem lst{a:fM}{n:Nat}(sa:a.toList.Pairwise kr)(h1:1<=n)(h:n<=a.3):∀x∈a.toList.take n,kr x (gG a (n-1)):=λx hx=>by
 let p:=sa.sublist (MO n _);rw[LL h1 h]at hx p;obtain z|z:=Yh.mp hx
 .show(Nv.mp p).2.2 x z _ Yn
 .obtain rfl:=z4.mp z;show oU
structure MH(a b out:fM)(na nb:Nat):Prop where
 la:na<=a.3
 lb:nb<=b.3
 eq:mg (a.toList.take na) (b.toList.take nb)++out.toList.reverse=mg a.7 b.7
variable{na nb:Nat}
theorem MH.sz(m:MH a b out na nb):out.3+na+nb=a.3+b.3:=by
 have:=Ur YL m.eq;have:=m.la;have:=m.lb;simp only[tp,mg,WR,Nx,List.length_reverse,Yx]at *;lia
variable{k:Nat}
theorem MH.RD(m:MH a b out na nb)(hk:k<=na)(F:out'.toList.reverse=(a.toList.take na).drop k++out.toList.reverse)(h:∀x∈(a.toList.take na).drop k,∀y∈b.toList.take nb,¬ kr x y):MH a b out' k nb:=by
 show#[Oi hk m.la,m.lb,?_];rw[<-m.eq,F, <-YA]
 conv=>rhs;rw[<-YM k (a.toList.take na)]
 rw[MX h,Bu,YV hk]
theorem MH.Ql(m:MH a b out na nb)(hk:k<=nb)(F:out'.toList.reverse=(b.toList.take nb).drop k++out.toList.reverse)(h:∀y∈(b.toList.take nb).drop k,∀x∈a.toList.take na,kr x y):MH a b out' na k:=by
 show#[m.la,Oi hk m.lb,?_];rw[<-m.eq,F, <-YA]
 conv=>rhs;rw[<-YM k (b.toList.take nb)]
 rw[Ir h,Bu,YV hk]
theorem Bn(h1:1<=n)(h:n<=a.3):(a.toList.take n).drop (n-1)=[gG a (n-1)]:=by
 rw[LL h1 h,drop_left' (Vv (Oi (iC ..) h))]
theorem MH.Pe(m:MH a b out na nb)(F:1<=na)(h:∀y∈b.toList.take nb,¬ kr (gG a (na-1)) y):MH a b (out.push (gG a (na-1))) (na-1) nb :=
 m.RD (iC ..) (by rw[Bn F m.la];simp) λx hx=>by rw[Bn F m.la]at hx;obtain rfl:=z4.mp hx;show h
theorem MH.PF(m:MH a b out na nb)(F:1<=nb)(h:∀x∈a.toList.take na,kr x (gG b (nb-1))):MH a b (out.push (gG b (nb-1))) na (nb-1):=
 m.Ql (iC ..) (by rw[Bn F m.lb];simp) λx hx=>by rw[Bn F m.lb]at hx;obtain rfl:=z4.mp hx;show h
theorem JV:(a.extract 0 n).7=a.toList.take n:=by rw[iq];rfl
theorem MH.done(m:MH a b out na nb)(h:na=0\/nb=0):Good a b (a.extract 0 na++b.extract 0 nb++out.reverse):=by
 unfold Good;rw[Zh,Zh,JV,JV,rC, <-m.eq];show Ur (· ++ _) ?_;obtain rfl|rfl:=h<;>simp[mg]
theorem MH.first(m:MH a b out na nb)(P:Pr a b)(I:nb=1)(h:1<=na):Good a b (b.extract 0 nb++a.extract 0 na++out.reverse):=by
 subst I;let F:b.toList.take 1=[gG b 0]:=LF (i:=0) P.nb;have:=mV (i:=0) P.na;rw[vz]at this;unfold Good;rw[Zh,Zh,JV,JV,rC, <-m.eq,F];show Ur (· ++ _) ?_;let#[n,rfl]:=Nat.exists_eq_add_of_le' h;rw[this,List.take_succ_cons];let z:=RT (X:=(a.toList.drop 1).take n) (Y':=[]) (Y:=[gG b 0]) (x:=gG a 0) λy G=>(by obtain rfl:=z4.mp G;show P.h0);show EL ?_;simpa[mg]using z
end
section
variable{prog:By}{w:L3}{A:Ys}{E:gJ}{s:ti}[oN prog w A E s]
theorem aau{Q:Array Yr->Yt->Prop}(hk:kindOf st=SK.kd)(P:Pr a b)(h:∀R G,Good a b R->wY st G->Q R G):wpS w.16 A E s (bk' a b) Q st:=by
 let na:=P.na;let nb:=P.nb;show G0 (Mv (Nb #[3]));show G0 (cw (pl na (BY _)) ?_);let M0:MH a b ([gG a (a.3-1)].8) (a.3-1) b.3:=(show MH a b ([].8) a.3 b.3 from#[BY _,BY _,by simp[Ye]]).Pe na λy hy=>P.hl y (Zf hy);show dG (λg=>TN (h _ _ (M0.done (.inl g)) #[1,1])) (λg1=>?_);let g1:=zD g1;show dG (λg=>TN (h _ _ (M0.first P g g1) #[1,1])) (λg2=>?_);show G0 (z6 ?_);show G0 (Z4 (Zd (I:=λx c G=>SO λna nb out mg=>HG (c=(none,na,nb,out,mg)) (MH a b out na nb) (1<=na) (2<=nb) (x+1<=out.3) (wY st G)) (Q:=λc G=>∃R,tD (Good a b R) (c.1^R) (wY st G)) ?_ ?_ ?_) ?_)
 .rintro x c ap a3 a0 ⟨na,nb,out,mg,rfl,M,F,lb,lo,K1⟩;show G0 (Z4 (Zd (I:=λy c G=>Pz λna nb out' U L=>HG (c=(none,na,nb,out',U,L)) (MH a b out' na nb) (1<=na) (2<=nb) (out.3+y<=out'.3) (wY st G))
   (Q:=λc G=>wY st G/\((∃R,Good a b R/\c.1^R)\/(Pz λna nb out' U L=>OZ (c=(none,na,nb,out',U,L)) (MH a b out' na nb) (1<=na) (2<=nb) (out.3+1<=out'.3)))) ?_ ?_ ?_) ?_)
  .rintro y c as aN aX ⟨na,nb,out',U,L,rfl,M,F,lb,ad,Y⟩;let lA:=M.la;let lB:=M.lb;let oA:=lst P.sa F lA;let ab:=XW lb;let oB:=lst P.sb ab lB;let pa:=pl F lA;let pb:=pl ab lB;show G0 (cw pb (G0 (cw pa (G0 (oN.lt (Y.kind.trans hk) (P.mb _ (iU pb)) (P.ma _ (iU pa)) (λc=>?_) λc=>?_)))))
   .show G0 (cw pa ?_);let M2:=M.Pe F λy hy z=>c (SK.tr z (oB y hy));show dG (λg=>TN #[Y,.inl #[_,M2.done (.inl g),rfl]]) (λg'=>?_);let g':=zD g';show gz (λg=>TN #[Y,.inr #[na-1,nb,2,0,M2,g',lb,SJ ad]]) λg=>TN #[na-1,nb,2,0,M2,g',lb,Rw ad,Y]
   .show G0 (cw pb ?_);let M2:=M.PF ab λx hx=>SK.tr (oA x hx) c;show dG (λg=>TN #[Y,.inl #[_,M2.first P g F,rfl]]) (λg'=>?_);show gz (λg=>TN #[Y,.inr #[na,nb-1,2,0,M2,F,p2 lb g',SJ ad]]) λg=>TN #[na,nb-1,2,0,M2,F,p2 lb g',Rw ad,Y]
  .rintro c as ⟨na,nb,out',U,L,rfl,M,F,lb,ad,Y⟩;show#[Y,.inr #[2,2,0,M,F,lb,ak]]
  .show#[na,nb,out,_,0,M,F,lb,ak,K1]
  .rintro c as ⟨Y,⟨R,hR,e⟩|⟨na,nb,out',U,L,rfl,M,F,lb,ad⟩⟩
   .let#[c1,c2]:=c;cases e;show TN #[R,hR,rfl,Y]
   .show G0 (Mv (Nb #[3]));show G0 (Z4 (Zd (I:=λy c G=>RU λna nb Z mg U L=>HG (c=(none,na,nb,Z,mg,U,L)) (MH a b Z na nb) (1<=na) (2<=nb) (out'.3<=Z.3) (wY st G))
     (Q:=λc G=>wY st G/\((∃R,Good a b R/\c.1^R)\/(RU λna nb Z mg U L=>OZ (c=(none,na,nb,Z,mg,U,L)) (MH a b Z na nb) (1<=na) (2<=nb) (out'.3<=Z.3)))) ?_ ?_ ?_) ?_)
    .rintro y c aB aN aX ⟨na,nb,Z,ay,U,L,rfl,M,F,lb,am,K3⟩;let lA:=M.la;let lB:=M.lb;let ab:=XW lb;let pb:=pl ab lB;let oB:=lst P.sb ab lB
     extract_lets
     show FP λm=>?_;show G0 (zN K3 λar K4=>?_);let aK:kindOf ar=SK.kd:=K4.kind.trans hk;show G0 (cw pb (G0 (iI (X:=a.toList.take na) aK (P.mb _ (iU pb)) (Vv lA) (λi hi=>YO.6<*[Zb,C' hi,Ec]) (λp hp=>P.ma p (Zf hp)) (P.sa.sublist (MO ..)) (pl F (BY _)) λX1 X2 e x1 x2=>?_)));dsimp -zeta only
     extract_lets
     let tX:(a.toList.take na).take X1.9=X1:=(by rw[e,Ky]);let dX:(a.toList.take na).drop X1.9=X2:=(by rw[e,MW]);let lX:=Ur YL e;rw[tp,Nx,Yx]at lX;let lX:=mn lX;rw[Bu,YV lX]at tX;show qr (R:=λn o=>Hg (MH a b o n nb) (1<=n) (out'.3<=o.3) (∀x∈a.toList.take n,kr x (gG b (nb-1)))) (λn o ⟨M1,n1,n2,hX⟩=>?_) (λg H'=>?_) λg=>?_
     .let M2:=M1.PF ab hX;let pn:=pl n1 M1.la;let aT:1<=nb-1:=adR lb 1;let oA:=lst P.sa n1 M1.la;show G0 (cw pb ?_)
      extract_lets
      show dG (λg5=>TN #[K4,.inl #[_,M2.first P g5 n1,rfl]]) (λaY=>?_);show G0 (cw pn (G0 (iI (X:=b.toList.take (nb-1)) aK (P.ma _ (iU pn)) (Vv (Oi (iC ..) lB)) (λi hi=>YO.6<*[Zb,C' hi,Ec]) (λp hp=>P.mb p (Zf hp)) (P.sb.sublist (MO ..)) (pl aT (BY _)) λY1 Y2 f y1 y2=>?_)));dsimp -zeta only
      extract_lets
      let tY:(b.toList.take (nb-1)).take Y1.9=Y1:=(by rw[f,Ky]);let dY:(b.toList.take (nb-1)).drop Y1.9=Y2:=(by rw[f,MW]);let lY:=Ur YL f;rw[tp,Nx,Yx]at lY;rw[Bu,YV (mn lY)]at tY;show qr (R:=λj o=>Hg (MH a b o n j) (2<=j) (out'.3<=o.3) (∀y∈b.toList.take j,¬ kr (gG a (n-1)) y)) (λj o ⟨M3,j1,j2,hY⟩=>?_) (λg H'=>?_) λg=>#[M2,p2 lb aY,Lw n2,?_]
      .show G0 (cw pn ?_);let M4:=M3.Pe n1 hY;show dG (λg8=>TN #[K4,.inl #[_,M4.done (.inl g8),rfl]]) (λg8=>?_);let g8:=zD g8;show gz (λg9=>TN #[K4,.inr #[n-1,j,2,_,0,M4,g8,j1,Lw j2]]) λg9=>TN #[n-1,j,2,_,0,M4,g8,j1,Lw j2,K4]
      .let M3:=M2.Ql (k:=Y1.9) (out':=o.push (gG b (nb-1))++(b.extract Y1.9 (nb-1)).reverse) (mn lY) (by rw[Zh,aeb,rC,Ek,iq,afu]) ((λy hy x hx=>SK.tr (oA x hx) (Aw (y2 y hy)))<*dY);show dG (λg7=>TN #[K4,.inl #[_,M3.first P g7 n1,rfl]]) λg7=>dG (λg6=>TN #[K4,.inl #[_,M3.done (.inr g6),rfl]]) λg6=>?_;show H' _ _ #[M3,t2 g7 g6,SE (Lw n2),(λy hy=>AG (y1 y hy))<*tY]
      .let e0:Y1.9=nb-1:=aaj lY g;change ∀y∈List.take (nb-1) b.7,_;rw[<-e0,tY];show λy hy=>AG (y1 y hy)
     .let M1:=M.RD (k:=X1.9) (out':=Z++(a.extract X1.9 na).reverse) lX (by rw[Zh,aeb,rC,Ek,iq,afu]) ((λx hx y hy z=>AN (x2 x hx) (SK.tr z (oB y hy)))<*dX);show dG (λg3=>TN #[K4,.inl #[_,M1.done (.inl g3),rfl]]) λg3=>?_;show H' _ _ #[M1,zD g3,SE am,x1<*tX]
     .let e0:X1.9=na:=Zw lX (OS.mp (ZJ g));show#[M,F,am,by change ∀x∈List.take na a.7,_;rw[<-e0,tX];show x1]
    .rintro c aB ⟨na,nb,Z,ay,U,L,rfl,M,F,lb,am,K3⟩;show#[K3,.inr #[2,2,_,0,M,F,lb,am]]
    .show#[na,nb,out',2,0,M,F,lb,BY _,Y]
    .rintro c aB ⟨K3,⟨R,hR,e⟩|⟨na,nb,Z,ay,U,L,rfl,M,F,lb,am⟩⟩
     .let#[c1,c2]:=c;cases e;show TN #[R,hR,rfl,K3]
     .show G0 (zN K3 λar K4=>TN #[na,nb,Z,0,M,F,lb,ak,K4])
 .rintro c ap ⟨na,nb,out,mg,rfl,M,F,lb,lo,K1⟩;exfalso;have:=M.sz;lia
 .show#[2,_,0,M0,ak,ak,BY _,#[1,1]]
 .rintro c ap ⟨R,hR,e,K1⟩;let#[c1,c2]:=c;cases e;show TN (h R ap hR K1)
end
def putAll(a:fM)(o n:Nat)(l:iE):Array Yr:=(l.zipIdx n).foldl (λa (p,j)=>a.setIfInBounds (o+j) p) a
theorem oS(o:Nat){T:iE}:∀{l X L:iE}{n:Nat}{a:fM},X.9=l.9->L.9=o+n->a.7=L++(X++T)->(putAll a o n l).7=L++(l++T)
 | [],X,L,n,a,hx,_,e=>by
  obtain rfl:=Yz.mp hx;show e
 |p::l,[],L,n,a,hx,_,e=>by cases hx
 |p::l,x::X,L,n,a,hx,F,e=>by
  have:=oS o (T:=T) (l:=l) (X:=X) (L:=L++[p]) (n:=n+1) (a:=a.setIfInBounds (o+n) p) (afC hx) (by rw[tp,F];rfl) (by
   rw[ace,e, <-F,adx _ _ (BY _),ZU];simp)
  rw[YA]at this;show this
variable{Y:iE}
theorem Bd:(mg X Y).9=X.9+Y.9:=by rw[mg,WR]
theorem aa7(F:X.Pairwise kr)(G:Y.Pairwise kr):(mg X Y).Pairwise kr :=
 List.pairwise_merge (le:=SK.r) (λ_ _ _=>SK.tr) (λx y=>by cases e:SK.r x y with|true=>rfl|false=>show SK.ah (Y0.mp e)) _ _ F G
variable{T:iE}
theorem SI.VX{F:Yt}{L:iE}(S:SI st)(e:(arrOf st).7=L++(X++(Y++T)))(I:(arrOf F).7=L++(mg X Y++T))(hk:kindOf F=kindOf st)(G:rX F=rX st):SI F:=by
 show#[ZC.mpr ?_,hk.trans S.kind,G.trans S.failed];have:=ZC.mp S.perm;rw[I] ;rw[e, <-YA X]at this;show(ady L (ade T (List.merge_perm_append ..))).trans this
section
variable{prog:By}{w:L3}{A:Ys}{E:gJ}{s:ti}[oN prog w A E s]
theorem abk{x:Yt}{Q:PUnit->Yt->Prop}(h:Q #[] x):wpS w.16 A E s (set x:StateT Yt Sem PUnit) Q st:=by
 unfold wpS;rw[StateT.run_set];show wpAny_pure #[rfl,h]
theorem abM{α β:Type}{c:Prop}[Decidable c]{L F:StateT Yt Sem α}{f:α->StateT Yt Sem β}{G:α->Yt->Prop}{Q:β->Yt->Prop}(h1:wpS w.16 A E s L G st)(h2:wpS w.16 A E s F G st)(H':∀x I,G x I->wpS w.16 A E s (f x) Q I):wpS w.16 A E s (if c then L>>=f else F>>=f) Q st :=
 gz (λ_=>G0 (Z4 h1 H')) λ_=>G0 (Z4 h2 H')
theorem gl(h:Y≠[]):Y.getLast?=(X++Y).getLast?:=by rw[Ej,List.getLast?_eq_some_getLast h];rfl
theorem abN{sa pw pw2:Nat}{L:iE}{Q:Bool->Yt->Prop}(S:SI st)(h1:(YX st)[i]?^(sa,X.9,pw))(h2:(YX st)[i+1]?^(sa+X.9,Y.9,pw2))(e:(arrOf st).7=L++(X++(Y++T)))(hL:L.9=sa)(n1:1<=X.9)(n2:1<=Y.9)(sX:X.Pairwise kr)(sY:Y.Pairwise kr)
  (h:∀ab,SI ab->(arrOf ab).7=L++(mg X Y++T)->YX ab=((YX st).setIfInBounds i (sa,X.9+Y.9,pw)).eraseIdxIfInBounds (i+1)->Q true ab):wpS w.16 A E s (mergeAt' i) Q st:=by
 subst hL;show G0 (z6 ?_);let sz:=Ur YL e;simp only[tp,Yx]at sz;let mem:∀{p},p∈X\/p∈Y->p∈SK.a₀.7:=λhp=>S.mem.mp (by rw[e];obtain z|z:=hp<;>simp[z]);let gX:∀j,j<X.9->(arrOf st)[L.9+j]?=X[j]?:=λj I=>by
  rw[<-YO,e,Ya (Y7 ..),YW,Yo I]
 let gY:∀j,j<Y.9->(arrOf st)[L.9+X.9+j]?=Y[j]?:=λj I=>by
  rw[<-YO,e,Ea,Ya (Y7 ..),YW,Ya (Y7 ..),YW,Yo I]
 let q0:L.9+X.9<(arrOf st).3:=sz▸ZS (Nat.lt_add_of_pos_right (Ym n2 (Y7 ..))) _;let q1:L.9+(X.9-1)<(arrOf st).3:=ZA (zI (iC ..) _) q0;let aX:∀j (h:j<X.9),gG (arrOf st) (L.9+j)=X[j]:=λj I=>(by rw[gG,Zi,gX j I,vu I];rfl);let aY:∀j (h:j<Y.9),gG (arrOf st) (L.9+X.9+j)=Y[j]:=λj I=>(by rw[gG,Zi,gY j I,vu I];rfl);rw[h1,h2];show G0 (abk ?_);show G0 (cw q0 (G0 (iI (X:=X) S.kind (S.mem.mp (iU q0)) rfl gX (λp hp=>mem (.inl hp)) sX n1 λF X2 U x1 x2=>?_)));dsimp -zeta only
 extract_lets
 let lX:=Ur YL U;rw[tp]at lX;let y0:gG (arrOf st) (L.9+X.9)=Y[0]:=aY 0 n2;let eY:Y=Y[0]::Y.drop 1:=(by rw[<-ZN];rfl);show dG (λg=>?_) λg=>?_
 .rw[lX,YW]at g;obtain rfl:=Yz.mp g;have:=Sy (X':=[]) (X:=X) (Y:=Y.drop 1) (y:=Y[0]) λx hx=>(by rw[U,Yw]at hx;show y0▸x1 x hx);rw[<-eY,Yw,show mg [] Y=Y by simp[mg]]at this;let e':(arrOf st).7=L++(mg X Y++T):=(e<*[this,YA]);show TN (h _ (S.VX e e' rfl rfl) e' rfl)
 let g':0<X2.9:=(by rw[lX,YW]at g;show zD g);let lx:F.9<=X.9:=lX▸Y7 ..;let p1:=pl n1 (BY _);let abQ:=aX (X.9-1) p1;let oX:∀x∈X,kr x X[X.9-1]:=λx hx=>by
  let#[j,I,rfl]:=Y8.mp hx;cases z:j=X.9-1
  .subst z;show oU
  .show YE.mp sX j _ I p1 (Yy (ZZ I) z)
 rw[show L.9+F.9+(X.9-F.9)-1=L.9+(X.9-1)by rw[Ea,ZF lx,Nat.add_sub_assoc n1]];show G0 (cw q1 (G0 (iI (X:=Y) S.kind (S.mem.mp (iU q1)) rfl gY (λp hp=>mem (.inr hp)) sY (pl n2 (BY _)) λZ Y2 f y1 y2=>?_)));dsimp -zeta only;rw[show(arrOf st).getD (L.9+(X.9-1)) (.none,.none)=X[X.9-1]from abQ]at y1 y2;rw[show(arrOf st).getD (L.9+X.9) (.none,.none)=Y[0]from y0]at x1 x2;let lY:=Ur YL f;rw[tp]at lY;let m1:mg X Y=F++(mg X2 Z++Y2):=by
  have:=Sy (X':=X2) (X:=F) (Y:=Y.drop 1) (y:=Y[0]) x1;rw[<-eY, <-U]at this;rw[this]
  conv=>lhs;rw[f]
  rw[Ir λy hy x hx=>SK.tr (oX x (DO _ hx<*U)) (Aw (y2 y hy))]
 show dG (λg2=>?_) λg2=>?_
 .obtain rfl:Z=[]:=Yz.mp g2;let e':(arrOf st).7=L++(mg X Y++T):=by
   rw[m1,show mg X2 []=X2 by simp[mg], <-YA F, <-U,e,show Y=Y2 from f,YA]
  show TN (h _ (S.VX e e' rfl rfl) e' rfl)
 let g2:=zD g2;let ex:((arrOf st).extract (L.9+F.9) (L.9+X.9)).7=X2:=by
  rw[iq,e,U,show L++(F++X2++(Y++T))=(L++F)++(X2++(Y++T))by simp,drop_left' tp,take_left' (by rw[Nat.add_sub_add_left, <-U,lX,YW])]
 let ey:((arrOf st).extract (L.9+X.9) (L.9+X.9+Z.9)).7=Z:=by
  rw[iq,e,f,show L++(X++(Z++Y2++T))=(L++X)++(Z++(Y2++T))by simp,drop_left' tp,take_left' (YW ..).6]
 let sx:=Ur YL ex;let sy:=Ur YL ey;rw[Yx]at sx sy;let P:Pr ((arrOf st).extract (L.9+F.9) (L.9+X.9)) ((arrOf st).extract (L.9+X.9) (L.9+X.9+Z.9)):=by
  let z0:gG ((arrOf st).extract (L.9+X.9) (L.9+X.9+Z.9)) 0=Y[0]:=by
   rw[gG,Zi, <-YO,ey, <-Yo (l₂:=Y2) g2, <-f,vu n2];rfl
  let z1:gG ((arrOf st).extract (L.9+F.9) (L.9+X.9)) (X2.9-1)=X[X.9-1]:=by
   rw[gG,Zi, <-YO,ex, <-aco,gl (List.ne_nil_of_length_pos g'), <-U,aco,vu p1];rfl
  show#[4,4,Zu g' sx.6,Zu g2 sy.6,4]
  .rw[ex];show λp hp=>mem (.inl (DO _ hp<*U))
  .rw[ey];show λp hp=>mem (.inr (YC _ hp<*f))
  .rw[ex];rw[U]at sX;show(Nv.mp sX).2.1
  .rw[ey];rw[f]at sY;show(Nv.mp sY).1
  .rw[z0];show AN (x2 _ (ex▸iU (Zu g' sx.6)))
  .rw[ey,sx,z1];show λy hy=>AG (y1 y hy)
 extract_lets
 show abM (G:=λR ab=>Good ((arrOf st).extract (L.9+F.9) (L.9+X.9)) ((arrOf st).extract (L.9+X.9) (L.9+X.9+Z.9)) R/\wY (R8 (kindOf st) (arrOf st) (((YX st).setIfInBounds i (L.9,X.9+Y.9,pw)).eraseIdxIfInBounds (i+1)) (gallopOf st) (rX st)) ab) (zC5 S.kind P λR ab a b=>#[a,b]) (aau S.kind P λR ab a b=>#[a,b]) λR stC ⟨G,KC⟩=>?_;show G0 (E6 (G0 (z6 (TN ?_))));change Q (rX stC).isNone (R8 (kindOf stC) (putAll (arrOf stC) (L.9+F.9) 0 R.7) (YX stC) (gallopOf stC) (rX stC));rw[show rX stC=none from KC.failed.trans S.failed];let eC:(arrOf stC).7=L++F++(X2++Z++(Y2++T)):=by
  rw[show arrOf stC=arrOf st from KC.arr,e]
  conv=>lhs;rw[U,f]
  simp
 unfold Good at G;rw[ex,ey]at G;let e':=oS (L.9+F.9) (l:=R.7) (n:=0) (by rw[G,Bd,tp]) tp eC;let e2:L++F++(R.7++(Y2++T))=L++(mg X Y++T):=(by rw[m1,G];simp);rw[e2]at e';show h _ (S.VX e e' KC.kind S.failed.6) e' KC.pend
end
mutual
def sR:Nat->List (List Yr)->List (Nat×Nat)
 |_,[]=>[]
 |s,X::F=>(s,X.9)::sR (s+X.9) F
theorem nA:∀{s:Nat}{A B:List (List Yr)},sR s (A++B)=sR s A++sR (s+A.flatten.9) B
 |s,[],B=>rfl
 |s,X::A,B=>by
  rw[Bw,sR,nA,sR,Bw,ZV,tp,Ea]
theorem ka:∀{s:Nat}{A:List (List Yr)},(sR s A).9=A.9
 |_,[]=>rfl
 |s,X::A=>Ur (· + 1) ka
abbrev two(x:Nat×Nat×Nat):Nat×Nat:=(x.1,x.2.1)
structure RI(st:Yt)(lo:Nat)(Ls:List (List Yr))(T:iE):Prop where
 S:SI st
 arr:(arrOf st).7=Ls.11++T
 pend:(YX st).toList.map two=sR 0 Ls
 len:Ls.flatten.9=lo
 ok:∀X∈Ls,1<=X.9/\X.Pairwise kr
theorem Fh{α:Type}{l:List α}(h:i+1<l.9):∃l1 x y l2,l=l1++x::y::l2/\l1.9=i:=by
 show#[l.take i,l[i]'(YR h),l[i+1]'h,l.drop (i+2),?_,adf (Zm (YR h))];rw[<-ZN h, <-ZN (YR h),YM]
theorem pk(h:1<n):n-2+1<n:=ak
theorem ab3{c:Bool}(h:¬ n<=1):(if c then n-2-1 else n-2)+1<n:=by
 cases c
 .rw[vr az];show pk (Cm h)
 .rw[C' rfl];show ZA (Ca (iC ..) 1) (pk (Cm h))
variable{F:List (List Yr)}
theorem RI.push{p:Nat}(R:RI st lo F T)(L:1<=n)(G:lo+n<=SK.a₀.3)(u:(T.take n).Pairwise kr):RI (setPending st ((YX st).push (lo,n,p))) (lo+n) (F++[T.take n]) (T.drop n):=by
 let z:=Ur YL R.arr;rw[tp,R.len,Yx,R.S.3]at z;let l:(T.take n).9=n:=adf (Nat.le_of_add_le_add_left (z▸G));show#[#[R.S.perm,R.S.kind,R.S.failed],4,by rw[MQ,tp,R.len,List.flatten_singleton,l],λX I=>?_]
 .change(arrOf st).7=_;rw[R.arr];simp
 .change ua two ((YX st).push (lo,n,p)).7=_;rw[Array.toList_push,DD,R.pend,nA,R.len,Ec];simp[sR,two,l]
 .rcases Yh.mp I with h|h
  .show R.ok X h
  .obtain rfl:=z4.mp h;show#[Oi L (vS l.6),u]
theorem RI.last(R:RI st lo F T){f:Nat×Nat×Nat->Nat×Nat×Nat}(G:∀x,two (f x)=two x)(i:Nat):RI (setPending st ((YX st).modify i f)) lo F T:=by
 show#[#[R.S.perm,R.S.kind,R.S.failed],R.arr,?_,R.len,R.ok];change ua two ((YX st).modify i f).7=_;rw[<-R.pend,Array.toList_modify];apply TY;intro j;rw[IF,IF,List.getElem?_modify];cases(YX st).7[j]? with
 |none=>rfl
 |some x=>cases c:i=j<;>simp[c,G]
theorem RI.cut{G:Yt}(R:RI st lo F T)(C:Cut st G lo):∃I,RI G lo F I:=by
 show#[(arrOf G).toList.drop lo,C.S,?_,R.pend<*C.pend,R.len,R.ok];have:(arrOf G).toList.take lo=F.11:=by
  rw[<-take_left' (l₁:=F.11) (l₂:=T) R.len, <-R.arr];apply TY;intro j;rw[Zb,Zb];split
  .rw[YO,YO];show C.pre j ak
  .rfl
 rw[<-this,YM]
theorem RI.run{I:List (List Yr)}(R:RI st lo I T)(L:lo+n<=SK.a₀.3)(hs:SA (kt (arrOf st)) lo (lo+n)):(T.take n).Pairwise kr:=by
 let z:=Ur YL R.arr;rw[tp,R.len,Yx,R.S.3]at z;let g:∀j (h:j<T.9),(arrOf st).getD (lo+j) (.none,.none)=T[j]:=λj F=>by
  rw[Zi, <-YO,R.arr,Ya (R.len▸Y7 ..),R.len,YW,vu F];rfl
 rw[YE];intro i j hi F G;rw[Nx]at hi F;let q:=Ym F (Dc ..);rw[HY,HY, <-g i (fE G q), <-g j q];show hs _ _ (Y7 ..) (zI (Zm G) _) (ZS (Ym F (Rm ..)) _)
end
section
variable{prog:By}{w:L3}{A:Ys}{E:gJ}{s:ti}[oN prog w A E s]
theorem adb{α β:Type}{c:Prop}[Decidable c]{f:β->StateT Yt Sem α}{x:β}{m:StateT Yt Sem α}{R:β->Yt->Prop}{Q:α->Yt->Prop}(H':∀n F,R n F->wpS w.16 A E s (f n) Q F)(h:c->(∀n F,R n F->wpS w.16 A E s (f n) Q F)->wpS w.16 A E s m Q st)(h2:¬ c->R x st):wpS w.16 A E s (if c then m else f x) Q st:=gz (λz=>h z H') λz=>H' _ _ (h2 z)
theorem adS{α:Type}{f:Unit->StateT Yt Sem α}{m:StateT Yt Sem α}{P:Yt->Prop}{Q:α->Yt->Prop}(H':∀F,P F->wpS w.16 A E s (f ()) Q F)(h:(∀F,P F->wpS w.16 A E s (f ()) Q F)->wpS w.16 A E s m Q st):wpS w.16 A E s m Q st:=h H'
theorem se{Ls:List (List Yr)}{Q:Bool->Yt->Prop}(R:RI st lo Ls T)(hi:i+1<(YX st).3)
  (h:∀G ab,RI G lo ab T->(YX G).3+1=(YX st).3->Q true G):wpS w.16 A E s (mergeAt' i) Q st:=by
 let hl:=Ur YL R.pend;rw[si,ka,Yx]at hl;let#[I,X,Y,L2,F,l1]:=Fh (l:=Ls) (i:=i) (Zu hi hl);let#[p1,#[x1,x2,x3],#[y1,y2,ad0],p2,L,l2]:=Fh (l:=(YX st).7) (i:=i) ‹hi›;let e:=R.pend;rw[F,L,nA,DD]at e;let#[e1,e2]:=List.append_inj e (by rw[si,ka,l1,l2]);let#[e3,e4]:=afx e2;let#[e5,e6]:=afx e4;let#[rfl,rfl]:=afH e3;let#[rfl,rfl]:=afH e5;let gp:∀j,(YX st)[j]?=(p1++_::_::p2)[j]?:=λj=>(by rw[<-YO,L]);let ea:=R.arr;rw[F]at ea;let eF:(I++X::Y::L2).11++T=I.11++(X++(Y++(L2.flatten++T))):=J0;rw[eF]at ea;let U:=R.ok X (by rw[F];simp);let oY:=R.ok Y (by rw[F];simp);show abN (sa:=0+I.flatten.9) (pw:=x3) (pw2:=ad0) R.S (by rw[gp, <-l2];simp) (by rw[gp, <-l2];simp) ea (Ec _).symm U.1 oY.1 U.2 oY.2 λG S' aes pd=>?_;let ep:(YX G).7=p1++(0+I.flatten.9,X.9+Y.9,x3)::p2:=by
  rw[pd,Array.toList_eraseIdxIfInBounds,ace,L, <-l2,adx _ _ (BY _),List.eraseIdx_append_of_length_le (uO _)];simp
 show h G (I++mg X Y::L2) #[S',by rw[aes];simp,4,λZ hZ=>?_] ?_
 .rw[ep,DD,e1,nA];simp only[Y5,sR,Bd,two];rw[e6,Ea]
 .rw[<-R.len,F];simp[Bd,Ea]
 .rcases Yh.mp hZ with z|z
  .show R.ok Z (YC _ z<*F)
  .rcases Yu.mp z with rfl|z
   .show#[Bd▸NM U.1,aa7 U.2 oY.2]
   .show R.ok Z (by rw[F];simp[z])
 .rw[<-Yx, <-Yx,ep,L];simp;lia
theorem runs{Q:Unit->Yt->Prop}(S:SI st)(hp:YX st = ([].8))(h2:2<=SK.a₀.3)(h:∀U,SI U->(arrOf U).toList.Pairwise kr->Q () U):wpS w.16 A E s sortRuns' Q st:=by
 rw[sortRuns'_eq];show G0 (z6 ?_);let hsz:(arrOf st).3=SK.a₀.3:=S.3
 extract_lets size mr lo0
 let hs:size=SK.a₀.3:=hsz
 clear_value size
 subst hs;show G0 (Z4 (Zd (I:=λx c U=>∃lo F T,c=(none,lo)/\RI U lo F T/\x<=lo) (Q:=λc U=>c=(none,SK.a₀.3)/\∃F T,RI U SK.a₀.3 F T) ?_ ?_ ?_) ?_)
 .rintro x c aN ar ap ⟨lo,F,T,rfl,R,hx⟩;let ab:lo<=SK.a₀.3:=by rw[<-R.len, <-R.S.3, <-Yx,R.arr,tp];show Y7 ..
  extract_lets
  show gz (λg=>?_) (λg=>?_)
  .obtain rfl:lo=SK.a₀.3:=Zw ab g;show TN #[rfl,F,T,R]
  let g':¬ SK.a₀.3<=lo:=g;show G0 (aeP R.S (lo:=lo) (nrem:=SK.a₀.3-lo) (vS (ZF ab)) (Mg (Cm g')) λm L C m1 m2 us=>?_);dsimp -zeta only
  extract_lets
  let#[T2,R2]:=R.cut C;let q:=Mx ab m2;show adb (R:=λn ac=>∃T,RI ac lo F T/\1<=n/\lo+n<=SK.a₀.3/\(T.take n).Pairwise kr) (λn ac ⟨T3,Z,n1,n2,u3⟩=>?_) (λgm H'=>?_) λgm=>#[T2,R2,m1,q,R2.run q us]
  .show G0 (z6 ?_)
   extract_lets l1 jp
   show adS (f:=jp) (P:=λG=>∃ad,RI G lo ad T3) (λG ⟨ad,R4⟩=>G0 (E6 (TN #[lo+n,_,0,R4.push n1 n2 u3,IP hx n1]))) λH'=>?_;cases e:(YX ac).back? with
   |none=>show H' _ #[F,Z]
   |some t =>
    show G0 (Z4 (Zd (I:=λy c G=>c=(none,())/\∃F,RI G lo F T3) (Q:=λc G=>c=(none,())/\∃F,RI G lo F T3) ?_ (λc G q=>q) #[rfl,F,Z]) ?_)
    .rintro y c G aK aT ⟨rfl,ad,R4⟩;show G0 (z6 ?_);cases g:(YX G).3>1
     .dsimp only;rw[C' g,getElem?_pos (YX G) ((YX G).3-2) (Nat.sub_lt (YR g) az)];show gz (λ_=>TN #[5,R4]) (λ_=>?_);show G0 (se R4 (pk g) λay aX aex _=>TN #[5,aex])
     .dsimp only;rw[vr g];show TN #[5,R4]
    .rintro c G ⟨rfl,ad,R4⟩;show G0 (E6 (H' _ #[ad,?_]));show R4.last ?_ _;show λx=>rfl
  .show G0 (Mv (Nb #[3]))
   extract_lets
   let q3:m<=min (SK.a₀.3-lo) (minRun' SK.a₀.3 SK.a₀.3 0):=Nat.le_min.mpr #[m2,Zm gm];let q4:=Mx ab (Rm (SK.a₀.3-lo) (minRun' SK.a₀.3 SK.a₀.3 0));show G0 (ada C.S (lo:=lo) (ok:=m) q4 m1 q3 us λac aeA as=>?_);let#[T3,Z]:=R2.cut aeA;show H' _ _ #[T3,Z,Oi m1 q3,q4,Z.run q4 as]
 .rintro c U ⟨lo,F,T,rfl,R,hx⟩;have:lo<=SK.a₀.3:=(by rw[<-R.len, <-R.S.3, <-Yx,R.arr,tp];show Y7 ..);obtain rfl:lo=SK.a₀.3:=Zw this (Oi (EB 0 _) hx);show#[rfl,F,T,R]
 .show#[(0),[],(arrOf st).7,rfl,#[S,rfl,by rw[hp];rfl,rfl,nofun],BY _]
 .rintro c U ⟨rfl,F,T,R⟩;dsimp only;show G0 (Z4 (Zd (I:=λx c L=>c=(none,())/\∃F,RI L SK.a₀.3 F T/\(YX L).3+x<=SK.a₀.3) (Q:=λc L=>c=(none,())/\∃F,RI L SK.a₀.3 F T/\(YX L).3<=1) ?_ ?_ ?_) ?_)
  .rintro x c L ar ap ⟨rfl,am,R2,ab⟩;show G0 (z6 ?_);show gz (λg=>TN #[5,R2,g]) (λg=>?_);show G0 (se R2 (ab3 g) λac aY Z aB=>TN #[5,Z,ak])
  .rintro c L ⟨rfl,am,R2,ab⟩;show#[5,R2,ak]
  .show#[5,R,?_];have:=Ur YL R.pend;rw[si,ka,Yx]at this;let z:=R.len;rw[List.length_flatten]at z;have:F.9<=(F.map YL).sum:=by
    let o:=R.ok;clear R this z
    induction F with
    |nil=>show BY _
    |cons X F ih =>
     have:=(o X Yn).1;have:=ih λY hY=>o Y (Yp _ hY);simp only[Y5,sum_cons,YU];lia
   lia
  .rintro c L ⟨rfl,am,R2,ab⟩;show TN (h L R2.S ?_);let z1:=Ur YL R2.pend;rw[si,ka,Yx]at z1;let z2:=Ur YL R2.arr;rw[tp,R2.len,Yx,R2.S.3]at z2;obtain rfl:T=[]:=Yz.mp ak;rw[R2.arr,Yw]
   match am,z1,R2.len,R2.ok with
   | [],_,l,_=>show D9 l (by simp;lia)
   | [X],_,_,o=>simpa using(o X Yn).2
   |_::_::_,z,_,_=>show D9 z (by simp;lia)
end
end
section
variable{prog:By}{w:L3}{A:Ys}{E:gJ}{κ:E8}{s:ti}{vs:WX}{α:Type}{num:xr->α}{le:α->α->Bool}
mutual
structure Ln(le:α->α->Bool):Prop where
 tr:∀a b c,le a b->le b c->le a c
 ah:∀a b,(le a b||le b a)=true
 Jj:∀{a b},le a b->le b a->a=b
def Pg(prog:By)(w:L3)(A:Ys)(κ:E8)(num:xr->α)(le:α->α->Bool)(vs:WX)(s:ti):=∀x∈vs,∀y∈vs,∀Q:Bool->ti->Prop,Q (!(le (num y) (num x))) s->wpAny w.16 A (keyLt' κ x y) Q (λ_ _=>False) s
def jZ{p:Yr}(h:p∈(OD vs).7):p.1=p.2/\p.1∈vs:=by
 rw[MS]at h;let#[i,hi,rfl]:=Y8.mp h;rw[List.getElem_zip];show#[rfl,Zr _]
def ae3{β:Type}{f:xr->β}:((OD vs).toList.map λp=>f p.1)=vs.map f:=by
 have:=Ur (ua f) (List.map_fst_zip (l₁:=vs) (l₂:=vs) (BY _));rw[vv]at this;rw[MS];show this
def ae4(nd:(vs.map num).4){x y:xr}(hx:x∈vs)(G:y∈vs)(e:num x=num y):x=y:=by
 let#[i,hi,rfl]:=Y8.mp hx;let#[j,F,rfl]:=Y8.mp G;have:i=j:=(Sf (h₀:=by simpa using hi) (h₁:=by simpa using F) nd).mp (e<*[LQ,LQ]);subst this;rfl
@[reducible] def aa4 (κ:E8) (N:Ln le) (nd:(vs.map num).4):SK where
 a₀:=OD vs
 r:=λx y=>le (num x.1) (num y.1)
 kd:=κ
 tr:=N.tr _ _ _
 ah:=λ{x y} h=>by have:=N.ah (num x.1) (num y.1);(rw[Y0.mpr h]at this;assumption)
 Jj:=λhx F a b=>by
  let z:=ae4 nd (jZ hx).2 (jZ F).2 (N.Jj a b);show LP z ((jZ hx).1.symm.trans (z.trans (jZ F).1))
 nd:=by
  rw[<-ae3]at nd;show List.Pairwise.of_map _ (λ_ _ h e=>h (Ur (λp:Yr=>num p.1) e)) nd
def abq(N:Ln le)(nd:(vs.map num).4)(L:Pg prog w A κ num le vs s)(h2:2<=vs.9):wpAny w.16 A (sortRuns'.run (R8 κ (OD vs) ([].8) 7 none)) (λr s'=>tD (s'=s) (rX r.2=none) (((arrOf r.2).map (·.2)).toList.Perm vs/\((arrOf r.2).map (·.2)).toList.Pairwise λx y=>le (num x) (num y)=true)) E s:=by
 letI:SK:=aa4 κ N nd
 let lt:oN prog w A E s:=oN.mk λ{st x y Q} hk hx F t f=>by
  rw[lt'_eq];show G0 (z6 ?_);rw[hk];show G0 (Mv (CA (YK (L _ (jZ hx).2 _ (jZ F).2 _ #[rfl,TN ?_]) (λ_ _ h=>h) λ_ _ G=>G.elim)));cases c:le (num y.1) (num x.1)with
  |true=>show f c
  |false=>show t (Y0.mp c)
 show YK (runs (st:=R8 κ (OD vs) ([].8) 7 none) (Q:=λ_ st=>tD True (rX st=none) (((arrOf st).map (·.2)).toList.Perm vs/\((arrOf st).map (·.2)).toList.Pairwise λx y=>le (num x) (num y)=true)) (SI.mk (Array.Perm.refl _) rfl rfl) rfl (show 2<=(OD vs).3 by rw[pairsOf_size];show h2) λI S' u=>#[trivial,S'.failed,4]) (λr s' ⟨e,_,a,b⟩=>#[e,a,b]) λ_ _ e=>e
 .have:=(ZC.mp S'.perm).map λp:Yr=>p.2;rw[toList_map];show this.trans (List.Perm.of_eq ?_);change ua _ (OD vs).7=vs;rw[MS];show ae5 (BY _)
 .rw[toList_map,OO];show u.imp_of_mem λ{x y} hx F h=>?_;rw[<-(jZ (S'.mem.mp hx)).1, <-(jZ (S'.mem.mp F)).1];show h
noncomputable def pU(s:ti)(a:ZX)(vs:WX):ti:={ s with heap:=((s.heap.update a (Obj.mapSeq λ_ => ([].8))).push (seqObj "tuple" vs.toArray 0)).push (seqObj "list" ([].8) 0) }
theorem rA{a:ZX}{n:Nat}{P:Fin->ti->Prop}(gG:s.heap.get? a^seqObj "list" vs.toArray n)(hz:vs.9<=1000)(N:Ln le)(k1:(vs.map num).4)(hL:Pg prog w A κ num le vs (pU s a vs))(Y:2<=vs.9->∀Q:E8->ti->Prop,Q κ (pU s a vs)->wpAny w.16 A (keyKind' vs.8) Q E (pU s a vs))
  (k:∀out:Array xr,out.toList.Perm vs->(out.toList.Pairwise λx y=>le (num x) (num y)=true)->P (.done (.ret .none)) { s with heap:=sortedHeap s.heap a vs out }):wpAny w.16 A (Builtin.«list.sort» #[[.ref a],[]]) P E s:=by
 let lz:yr=16777216:=HC;rw[list_sort_plain];let lt:=gu gG;show yl (listItems_at gG rfl (yl (Q9 gG rfl ?_ (by simp only[Yg];lia))));obtain⟨ep,I⟩:∃ep,(s.heap.update a (Obj.mapSeq λ_ => ([].8))).get? a^seqObj "list" ([].8) ep:=#[_,get?_update_seq gG λ_ => ([].8)];show yl (HX I rfl (yl (wpAny_newTuple (yl (IH (ZW ?_))))));let F:(pU s a vs).heap.get? a^seqObj "list" ([].8) ep:=by
  let l1:a<((s.heap.update a (Obj.mapSeq λ_ => ([].8))).push (seqObj "tuple" vs.toArray 0)).objs.3:=(Ou lt<*[BV,vh]);unfold pU;rw[JJ _ _ _ (Za l1),JJ _ _ _ (Za lt<*vh)];show I
 change wpAny w.16 A _ P E (pU s a vs);dsimp only;cases two:vs.toArray.size<2
 .rw[C' two,C' two];show yl (wpAny_pure ?_);rw[StateT.run_pure];show yl (wpAny_pure (yl (HX F rfl (yl (Q9 F rfl ?_ (Zy _) ?_)))))
  .simp only[bne_self_eq_false,aew,if_false];let L:((vs.toArray.zip vs.8).map (·.2)).7=vs:=by
    rw[toList_map];show(Ur (ua (·.2)) (MS vs)).trans (ae5 (BY _))
   show wpAny_pure (k _ (by rw[L]) ?_);rw[L,YE];intro i j hi hj U;rw[Yg]at two;show D9 U ak
  .change(Array.map (λx:Yr=>x.2) (vs.toArray.zip vs.8)).3<=yr+1;rw[Array.size_map];change(OD vs).3<=yr+1;rw[pairsOf_size];lia
 .rw[vr two,vr two];rw[Yg]at two;show yl (Y ak _ (yl (YK (abq N k1 hL ak) ?_ λ_ _ e=>e)));rintro⟨⟨⟩,ab⟩ s' ⟨rfl,q2,G,Z⟩;dsimp only;show yl (HX F rfl (yl (Q9 F rfl ?_ (Zy _) ?_)))
  .rw[q2];simp only[bne_self_eq_false,aew,if_false];show wpAny_pure (k _ G Z)
  .change(Array.map (λx:Yr=>x.2) (arrOf ab)).3<=yr+1;have:=G.length_eq;rw[Yx]at this;rw[this];lia
noncomputable def K5(s:ti)(vs:WX):ti:={ s with heap:=((s.heap.push (seqObj "list" ([].8) 0)).update s.13 (Obj.mapSeq (· ++ vs.8))).push (seqObj "list" vs.toArray 0) }
def oQ{l:ZX}{Q:gJ}(gG:s.heap.IsList l vs.8)(Y:vs.9<=1000)(N:Ln le)(k1:(vs.map num).4)(U:∀A,Pg prog w A κ num le vs (pU (K5 s vs) (s.13+1) vs))(L:2<=vs.9->∀(A:Ys)(Q:E8->ti->Prop),Q κ (pU (K5 s vs) (s.13+1) vs)->wpAny w.16 A (keyKind' vs.8) Q E (pU (K5 s vs) (s.13+1) vs))
  (k:∀out:Array xr,out.toList.Perm vs->(out.toList.Pairwise λx y=>le (num x) (num y)=true)->Q (.ref (s.13+1)) { s with heap:=sortedAll s.heap vs out }):wpAny w.16 A (call (.builtin "sorted") [.ref l]) Q E s:=by
 let lz:yr=16777216:=HC;show Calls.call_function_entry kind_sorted plain_sorted entry_sorted (args_sorted1 _) ?_;show yl (m:=checkCount "sorted" 1 1 _) (wpAny_pure (yl (collect_list gG (yl (IH ?_)) ak)));let G:((s.heap.push (seqObj "list" ([].8) 0)).update s.13 (Obj.mapSeq (· ++ vs.8))).objs.3=s.13+1:=(by rw[vh,BV]);let F:=qZ ((s.heap.push (seqObj "list" ([].8) 0)).update s.13 (Obj.mapSeq (· ++ vs.8))) (o:=seqObj "list" vs.toArray 0) rfl;rw[G]at F;change wpAny _ _ _ _ _ (K5 s vs);rw[G];show yl (ZW (IE slot_list_sort #[_,F,rfl] entry_list_sort (rA (s:=K5 s vs) F Y N k1 (U _) (λh Q=>L h _ Q) λout I w2=>#[0,wpAny_pure #[0,k out I w2]]) (args_list_sort _)))
end
end
def Pn(a b:Int):Bool:=decide (a<=b)
def abL:Ln Pn:=#[λa b c h1 h2=>Ja (Int.le_trans (cL h1) (cL h2)),λa b=>by unfold Pn;obtain h|h:=Int.le_total a b<;>simp[h],λh1 h2=>Int.le_antisymm (cL h1) (cL h2)]
variable{prog:By}{w:L3}{A:Ys}{s:ti}{vs:WX}
def ltI(h:∀v∈vs,∃n t,v=Value.int n t):Pg prog w A oneType' numOf Pn vs s:=λx hx y F Q q=>by
 let#[a,t,rfl]:=h x hx;let#[b,u,rfl]:=h y F;show kat_lt_int ?_;rw[show decide (a<b) = !(Pn b a) by unfold Pn;rw[<-decide_not];show decide_eq_decide.mpr Int.not_le.symm];show q
theorem ints_map:∀{vs:WX},(∀v∈vs,∃n t,v=Value.int n t)->qD vs (vs.map numOf)
 | [],_=>.nil
 |v::vs,h=>by
  let#[n,t,rfl]:=h v Yn;show .cons n t (ints_map λu F=>h u (Yp _ F))
variable{ns:N4}
def w9(i:qD vs ns):∀v∈vs,∃n t,v=Value.int n t:=by
 intro v h
 induction i with
 |nil=>cases h
 |cons n t _ F =>
  obtain rfl|h:=Yu.mp h
  .show#[n,t,rfl]
  .show F h
variable{E:gJ}
def acF(F:qD vs ns)(h2:2<=vs.9){Q:E8->ti->Prop}(q:Q oneType' s):wpAny w.16 A (keyKind' vs.8) Q E s:=by
 match vs,h2,F with
 | [],h2,_=>show D9 h2 az
 | [_],h2,_=>show D9 h2 (by rw[Yq];decide)
 |I::v2::G,_,F=>rw[keyKind_ints F];show wpAny_pure q
def acH(I:qD vs ns){out:WX}(G:out.Perm vs)(hs:out.Pairwise λx y=>Pn (numOf x) (numOf y)=true):∃F,qD out F/\F.Perm ns/\F.Pairwise (· <= ·):=
 #[_,ints_map λv h=>w9 I v (G.mem_iff.mp h),by rw[<-I.nums];show G.map _,OO.mpr (hs.imp λh=>cL h)]
def adK{a:ZX}{n:Nat}{P:Fin->ti->Prop}(gG:s.heap.get? a^seqObj "list" vs.toArray n)(G:qD vs ns)(U:ns.4)(hz:vs.9<=1000)
  (k:∀(out:p9)(F:N4),qD out.7 F->F.Perm ns->F.Pairwise (· <= ·)->P (.done (.ret .none)) { s with heap:=sortedHeap s.heap a vs out }):wpAny w.16 A (Builtin.«list.sort» #[[.ref a],[]]) P E s :=
 rA gG hz abL (U<*G.nums) (ltI (w9 G)) (λh2 Q q=>acF G h2 q) λout I w2=>by
  let#[F,Z,Y,L]:=acH G I w2;show k out F Z Y L
end C8
namespace L2
open PySem PySem.Spec PyProof.Rows
mutual
noncomputable def rV(X:Cx)(F:gq)(scope:iM)(cl:List (Str×ZX))(C:ZX)(s₀:ti)(H₀:Hp)(ex:JS):Cx where
 prog:=X.prog
 w:=X.w
 K:=X.K
 mg:=X.mg
 base:=X.base
 A:=X.A
 N:=F
 s₀:=s₀
 H₀:=H₀
 env:=QC scope cl C X.env
 outer:=X.stack
 stack:=X.stack
 ex:=ex
 fn:=λ_=>false
 calm:=X.calm
 pn:=[]
 xe:=λ_ _=>False
def CS(t:Str)(sI:List (Str×Nat)):List Str:=t::sI.map (·.1)
def pN(sI:List (Str×Nat))(σ:St)(v:Option V):St:=v::sI.map λp=>(σ[p.2]?).join
def ix(ts:gq)(sI:List (Str×Nat)):List Str:=ts++sI.map (·.1)
def qW(sI:List (Str×Nat))(σ vs:St):St:=vs++sI.map λp=>(σ[p.2]?).join
structure ur(X:Cx)(scope:iM)(cl:List (Str×ZX))(ts:gq)(sI:List (Str×Nat)):Prop where
 kind:scope.kind=.function
 yN:∀y∈scope.names,y.2≠.cell
 names:∀y∈scope.names,y.2=.local->scope.names.lookup y.1^.local
 EK:closureFor scope X.env=pure cl
 sub:∀p∈cl,X.env.cells.lookup p.1^p.2
 has:((relabel scope X.env).names.all λy => !(y.2 == .cell||y.2 == .free)||(cl.lookup y.1).10)=true
 T6:∀p∈sI,X.N[p.2]?^p.1/\(X.env.kindOf p.1^.cell\/X.env.kindOf p.1=some .free)/\((relabel scope X.env).names.lookup p.1^.cell\/(relabel scope X.env).names.lookup p.1=some .free)
 nd:(ix ts sI).4
structure tS(X:Cx)(scope:iM)(cl:List (Str×ZX))(t:Str)(sI:List (Str×Nat)):Prop where
 kind:scope.kind=.function
 yN:∀y∈scope.names,y.2≠.cell
 names:∀y∈scope.names,y.2=.local->scope.names.lookup y.1^.local
 Xi:scope.names.lookup t^.local
 EK:closureFor scope X.env=pure cl
 sub:∀p∈cl,X.env.cells.lookup p.1^p.2
 has:((relabel scope X.env).names.all λy => !(y.2 == .cell||y.2 == .free)||(cl.lookup y.1).10)=true
 T6:∀p∈sI,X.N[p.2]?^p.1/\(X.env.kindOf p.1^.cell\/X.env.kindOf p.1=some .free)/\((relabel scope X.env).names.lookup p.1^.cell\/(relabel scope X.env).names.lookup p.1=some .free)
 nd:(CS t sI).4
variable{X:Cx}{scope:iM}{cl:List (Str×ZX)}{ts:gq}{sI:List (Str×Nat)}{x:Str}
def ur.look(K:ur X scope cl ts sI){c:ZX}(h:cl.lookup x^c):X.env.cells.lookup x^c:=K.sub (x,c) (ZD h)
def ur.hs(K:ur X scope cl ts sI)(h:(relabel scope X.env).names.lookup x^.cell\/(relabel scope X.env).names.lookup x=some .free):∃c,cl.lookup x^c:=by
 let go:∀k,(relabel scope X.env).names.lookup x^k->(k==NameKind.cell||k==NameKind.free)=true->∃c,cl.lookup x^c:=λk e hk=>by
  have:=Z0.mp K.has (x,k) (ZD e);dsimp only at this;rw[hk]at this;show uw.mp ‹this›
 obtain h|h:=h
 .show go _ h rfl
 .show go _ h rfl
variable{Cr:Jr}{σ:St}{H:Hp}{s:ti}{C:ZX}{fp:JS}
def Xf(I:!H s)(K:ur X scope cl ts sI)(G:∀b∈fp,jR X Cr H b)(U:∀b∈fp,b<s.13)(L:s.13<=C):(rV X (ix ts sI) scope cl C s H fp).Ok where
 mod:=I.ok.mod
 kind:=K.kind
 glob:=I.ok.glob
 blt:=I.ok.blt
 above:=L
 inj:=λx y c h1 h2=>I.ok.inj x y c (K.look h1) (K.look h2)
 has:=λx hx=>K.hs hx
 LS:=λx c h=>nomatch (show false from h)
 hd:=I.ok.hd
 frames:=I.ok.frames
 PB:=.inl rfl
 SH:=λb F=>#[Za (Ym (U b F) L),λx c e=>(G b F).2.2.2.2.1 x c (K.look e)]
 bs:=I.bs
 Dl:=Oi I.ok.Dl I.sz
 zb:=λb o e F=>by
  rcases(G b F).2.2.2.1 with z|z
  .show I.ok.zb b o e z
  .show D9 (Ym (gu e) (Oi I.ok.Dl z)) (Z8 _)
 zi:=λb F Y=>by
  rcases Yu.mp (I.vD b Y)with e|e
  .show(G b F).2.1 e
  .show(G b F).2.2.1 e
 kP:=I.stack
 HM:=I.uj
variable{m:j5}{tk:Nat}
def adN{h₁:Heap}(I:!H s)(K:ur X scope cl ts sI)(hf:∀b∈fp,jR X Cr H b)(ho:∀b∈fp,b<s.13)(Y:s.13<=C)
  (old:∀b o,s.heap.get? b^o->h₁.get? b^o) (ns:h₁.Ns C m):Inv (rV X (ix ts sI) scope cl C s H fp) [] (qW sI σ (ts.map λ_=>none)) H { s with heap:=h₁,toks:=tk }:=by
 let ac:∀c v,s.heap.IsCell c v->h₁.IsCell c v:=λc v ar=>(by let#[o,e,d]:=ar;show#[o,old c o e,d]);show#[Xf I K hf ho Y,rfl,I.bare,Un.kept old,#[m,ns,λi x v e1 e2 e3=>?_],λx c e=>?_,I.bK.fresh Y,λx c e=>I.iy x c (K.look e),λp L=>D9 (show p∈([]:Jr)from L) J0,I.bK.kept old,by simp[qW,ix,rV]]
 .let ln:(ts.map λ_=>(none:Option V)).9=ts.9:=si ..;let F:(ts.map (λ_=>(none:Option V))++sI.map λp=>(σ[p.2]?).join)[i]?^some v:=e2;obtain hi|hi:=Nat.lt_or_ge i ts.9
  .rw[Yo (hi<*ln),IF]at F;let#[_,_,z]:=NC.mp F;cases z
  .let G:(ts++sI.map (·.1))[i]?^x:=e1;rw[Ya hi,IF]at G;rw[Ya (hi<*ln),IF,ln]at F;generalize i-ts.9=j at G F;cases L:sI[j]? with
   |none=>rwa[L]at G
   |some p =>
    rw[L]at G F;let ex:p.1=x:=OR G;let U:(σ[p.2]?).join^v:=OR F;let am:σ[p.2]?^some v:=by
     cases q:σ[p.2]? with
     |none=>rwa[q]at U
     |some z=>rw[q]at U;show Ur some U
    let#[hN,hk,Z]:=K.T6 p (Yk L);subst ex;let#[m',_,hl]:=I.loc;let ap:Qc X.env.scope p.1:=by
     obtain z|z:=hk
     .show .inr (.inl z)
     .show .inr (.inr z)
    let#[u,r,l]:=hl p.2 p.1 v hN am ap;let#[c,hc]:=K.hs Z;rcases l with⟨z,_⟩|⟨_,c',ab,ad⟩
    .rcases hk with y|y<;>(rwa[y]at z)
    .rw[K.look hc]at ab;cases ab;show#[u,r,.inr #[Z,c,hc,ac c _ ad]]
 .let#[v,z]:=I.cell x c (K.look e);show#[v,ac c v z]
def tS.g{t:Str}(K:tS X scope cl t sI):ur X scope cl [t] sI:=#[K.kind,K.yN,K.names,K.EK,K.sub,K.has,K.T6,K.nd]
variable{ys:vl}{XO:WX}{n:Nat}
def Inv.Rg{D:ZX}(I:!H s)(f:jR X Cr H D)(e:s.heap.get? D=some { cls:=.type "list",data:=.seq XO.8 n })(r:Si ys XO)(hz:ys.9<=yr) :
 !(QZ H D (.lst ys)) s:=by
 let#[G,f1,f2,f3,Z,U]:=f;let#[L,g,d,tk,os]:=s;show I.step (g':=g) (d':=d) (t':=tk) (h':=L) (ch:=[D]) (λb F=>?_) (λb o _ _ _ e _=>e) (λb o _ _ _ e _=>#[o.slots,e]) (λb o F _ n=>?_) (λb o _ e=>#[o,e]) (λb xs q=>?_) (λb o u q=>?_) (λb ps q=>#[([].8),?_]) (λm Y=>Y) (λb u q=>?_) I.bare
 .let z:b=D:=‹F›;subst z;show#[f3,f1,Z,U]
 .rw[au (λz=>F (by simp[z]))];show n
 .rw[au (ba q G)];show q
 .rw[au (ba q G)];show q
 .rw[au (ba q G),q];simp
 .cases F:b=D
  .subst F;rwa[ag]at q;show#[hz,XO,n,r,e]
  .rw[au F]at q;show(I.bK b u q).iW (λ_ _ _ z=>z) (λc z=>z<*au (ba z G)) λc xs z=>by rw[au (ba z G)];show z
def Px(X:Cx)(ifs:fK)(t:TT):=
 ∀(Cr:Jr)(s:ti)(σ:St)(H:Hp)(Q:Bool->Hp->Prop),!H s->t σ H Q ->
  ↑(forIn ifs true λc r=>if r then do let ok <-isTrue c X.env (eval c X.env);pure (EF ok)else pure (EF r)) (TP X Cr σ Q) X.xe s
def wD:TT:=λ_ H Q=>Q true H
def zA6:Px X [] wD:=λ_ _ _ H _ I h=>wpAny_tests_nil #[H,I,h]
variable{c:YD}
def cs'{t:TT}(h:PT X c t):Px X [c] t:=λCr s σ H Q I q=>wpAny_tests_one (h Cr s σ H Q I q)
def FZ(n:Nat)(sI:List (Str×Nat))(g:TG)(tt:TT)(te:TE)(σ:St)(H':It)(Q:List V->Hp->Prop)(W:Nat->Nat->List V->Hp->Prop):=
 ∀i m ys H,W i m ys H->(H'.stop i H/\Q ys H)\/(H'.go i H/\∃N:List V->Hp->Prop,(∀G J,N G J->∃m',m'<m/\W (i+1) m' G J)/\∀x J,H'.Lu i H x J->∀vs:St,vs.9=n->g x (qW sI σ vs) J λF H1=>∃us:St,us.9=n/\F=qW sI σ us/\tt F H1 λc H2 =>
  if c then te F H2 (λy I=>ys.9<yr/\N (ys++[y]) I)else N ys H2)
def jU(sI:List (Str×Nat))(tt:TT)(te:TE)(σ:St)(H':It)(Q:List V->Hp->Prop)(W:Nat->Nat->List V->Hp->Prop):=
 ∀i m ys H,W i m ys H->(H'.stop i H/\Q ys H)\/(H'.go i H/\∃N:List V->Hp->Prop,(∀F J,N F J->∃m',m'<m/\W (i+1) m' F J)/\∀x J,H'.Lu i H x J->tt (pN sI σ (some x)) J λb H2 =>
  if b then te (pN sI σ (some x)) H2 (λy G=>ys.9<yr/\N (ys++[y]) G)else N ys H2)
def LN(sI:List (Str×Nat))(wi:TI)(tt:TT)(te:TE):TE:=λσ H Q=>wi σ H λH' H1 =>
 ∃W:Nat->Nat->List V->Hp->Prop,(∃m,W 0 m [] H1)/\jU sI tt te σ H' (λys H2=>∀p,H2 p=none->Q (.ref p) (QZ H2 p (.lst ys))) W
end
section
variable{ts:gq}{tg:YD}{g:TG}
theorem km{elt iter:YD}{ifs:fK}{Yb:Pos}{tt:TT}{te:TE}{H':It}{it:ZX}{tn:Nat->Heap->Prop}{W:Nat->Nat->List V->Hp->Prop}{QE:List V->Hp->Prop}{E:gJ}{RR:xr->ZX->Result->ti->Prop}{m0:Nat}
  (K:ur X scope cl ts sI) (hc:X.calm)
  (bF:∀C s₀ H₀ ex,PG (rV X (ix ts sI) scope cl C s₀ H₀ ex) tg g)
  (ht:∀C s₀ H₀ ex,Px (rV X (ix ts sI) scope cl C s₀ H₀ ex) ifs tt) (he:∀C s₀ H₀ ex,PE (rV X (ix ts sI) scope cl C s₀ H₀ ex) elt te)
  (I:!H s) (T:Turn X.prog X.w X.K tg H' fp it tn) (st:tn 0 s.heap) (Z:∀b∈fp,jR X Cr H b) (w0:W 0 m0 [] H) (hW:FZ ts.9 sI g tt te σ H' QE W)
  (fin:∀D C ys J s' m,J D=none->!(QZ J D (.lst ys)) s'->s'.heap.Ns C m->jR X Cr (QZ J D (.lst ys)) C->QE ys J->RR (.ref D) C (.ok .next) s') :
  ↑(newList []) (λa7 ab=>↑(newFunctionEnv scope X.env.globals cl [] X.env.qual none .none (some X.env)) (λa6 be =>
   Ez X.16 X.A (.compStart (.ListComp elt [#[tg,47]] scope Yb) 0 (.ref it) a7 { a6 with scope:=relabel scope X.env }) (RR a7 a6.locals) be) E ab) E s:=by
 show Fw (wpAny_newFunctionEnv K.yN (by intro y hy;simp at hy) (λh₁ aK ad=>?_) K.kind);dsimp only at aK ad ⊢;generalize ay:s.heap.push { cls:=.type "list",dict:=none,data:=.seq ([]:WX).8 }=H2 at aK ad ⊢;let hC:H2.objs.3=s.13+1:=(by rw[<-ay,G1]);let am:s.13≠H2.objs.3:=(Za (Oy _)<*hC);let ar:s.13<=H2.objs.3:=(uO _<*hC);let below:∀b,b<s.13->b≠H2.objs.3:=λb G=>(Za (Ou G)<*hC);let old:∀b o,s.heap.get? b^o->h₁.get? b^o:=λb o e=>ad.extBut b o (below b (gu e)) (aV _ (ay▸aV _ e));let bi:h₁.get? s.13=some { cls:=.type "list",data:=.seq ([]:WX).8 }:=ad.extBut _ _ am (aV _ (ay▸qZ _ rfl));let ho:∀b∈fp,b<s.13:=λb G=>let ⟨_,e,_⟩:=T.obj 0 _ st b G;gu e;let aY:s.13∉fp:=λhm=>Z8 _ (ho _ hm);let bc:tn 0 h₁:=T.keep 0 _ _ st λb _ o e=>old b o e;let bm:s.13∉sC X.stack:=λz=>by
  rcases Yu.mp (I.vD _ z)with e|e
  .show D9 (e▸I.lt) (Z8 _)
  .show I.Sn (BY _) e
 let b0:∀x c,cl.lookup x^c->c≠s.13:=λx c e z=>by
  let#[v,q]:=I.cell x c (K.look e);show D9 (z▸q.lt) (Z8 _)
 let as:∀{pl:Jr}{L:Hp},(∀b∈fp,L b=none)->(∀p∈pl,p.1∉fp)->∀b∈fp,jR (rV X (ix ts sI) scope cl H2.objs.3 s H fp) pl L b:=λ{pl L} hn Y b G =>
  #[hn b G,below b (ho b G),(Xf I K Z ho ar).zi b G,.inl G,λx c e=>(Z b G).2.2.2.2.1 x c (K.look e),λp bR z=>by
   let bN:p∈pl:=bR;show Y p bN (z▸G)]
 let bb:∀ab:ti,ab={ s with heap:=h₁,toks:=s.toks+([]:List (Str×xr)).9 } ->
   Ez X.16 X.A (.compLoop (.ListComp elt [#[tg,47]] scope Yb) 0 (.ref it) (.ref s.13) (QC scope cl H2.objs.3 X.env)) (RR (.ref s.13) H2.objs.3) ab:=by
  rintro ab rfl;show codeAny_loop rfl (λn s'=>∃i ys XO nn L vs,vs.9=ts.9/\Inv (rV X (ix ts sI) scope cl H2.objs.3 s H fp) [] (qW sI σ vs) L s'/\tn i s'.heap/\(∀b∈fp,L b=none)/\L s.13=none /\
   s'.heap.get? s.13=some { cls:=.type "list",data:=.seq XO.8 nn }/\Si ys XO/\ys.9<=yr/\W i n ys L) (λn s' hI=>?_) m0
   #[(0),[],[],(0),H,_,si ..,adN I K Z ho ar old aK,bc,λb G=>(Z b G).1,I.bK.fresh (BY _),bi,.nil,Zy _,w0]
  let#[i,ys,XO,nn,L,vs,lv,I3,aX,a5,aN,e3,r3,z3,w3]:=hI;change wpAny _ X.A ((compTurn (.ListComp elt [#[tg,47]] scope Yb) 0 (.ref it) (.ref s.13) (QC scope cl H2.objs.3 X.env)).onRaise (λx=>do noteFrame x (QC scope cl H2.objs.3 X.env);theTreesLotGoes x)) _ _ s';show wpAny_noted ?_;rw[compTurn_list];let a0:Inv (rV X (ix ts sI) scope cl H2.objs.3 s H fp) [(s.13, { cls:=.type "list",data:=.seq XO.8 nn })] (qW sI σ vs) L s':=I3.p7 λp Y=>by
   let ep:p=(s.13, { cls:=.type "list",data:=.seq XO.8 nn }):=‹Y›;subst ep;show#[e3,aN,am,bm,λv z=>by cases(show Data.seq XO.8 nn=Data.cell v from z)]
  let pD:∀p∈[((s.13:ZX),({ cls:=.type "list",data:=.seq XO.8 nn }:Obj))],p.1∉fp:=λp Y=>by
   let ep:p=(s.13, { cls:=.type "list",data:=.seq XO.8 nn }):=‹Y›;subst ep;show aY
  rcases hW i n ys L w3 with⟨bB,q⟩|⟨go,N,hN,step⟩
  .show yl (Dy (yl (b9 (T.done (rV X (ix ts sI) scope cl H2.objs.3 s H fp) rfl rfl rfl hc i _ s' _ L _ a0 (as a5 pD) aX bB) λr s4 bW=>?_)));let#[hr,I4]:=bW;subst hr;show wpAny_pure ?_;let I5:!L s4:=I.EG (ch:=fp) I4.os I4.base I4.bK I4.bare λb G=>#[(Z b G).2.2.2.1,(Z b G).2.1,(Z b G).2.2.2.2.1,(Z b G).2.2.2.2.2];let e4:=(I4.pin _ (DO _ Yn)).1;let fD:jR X Cr L s.13:=I.rl (BY _) aN;let I6:=I5.Rg fD e4 r3 z3;let#[m,hn,_]:=I4.loc;show fin _ _ ys L s4 m aN I6 hn (I.rl ar ?_) q;rw[au (oR am)];show I4.free
  .show yl (Dy (yl (b9 (T.item (rV X (ix ts sI) scope cl H2.objs.3 s H fp) rfl rfl rfl hc i _ s' _ L _ a0 (as a5 pD) aX go) λr s4 b1=>?_)));let#[u,hr,h4]:=b1;subst hr;show yl (b9 h4 λ_ s5 bY=>?_);let#[x,H5,I5,r5,y5,ap,bx]:=bY;let b4:=(I5.pin _ (DO _ Yn)).2.1;let b2:=I5.pinned (as bx pD) (T.obj _ _ ap);let kR:∀{α:Type}{tr:Sem α}{Q:α->ti->Prop}{E':gJ}{U:ti},↑tr Q (λ_ _=>False) U->↑tr Q E' U:=λh=>YK h (λ_ _ z=>z) λ_ _ z=>z.elim;show yl (kR (b9 (bF _ _ _ _ _ s5 _ H5 x u _ b2 r5 (step x H5 y5 vs lv)) λ_ s6 bz=>?_));let#[τ,H6,I6,us,lu,bv,q6]:=bz;subst bv;show yl (kR (b9 (ht _ _ _ _ _ s6 _ H6 _ I6 q6) λok s7 bd=>?_));let#[H7,I7,q7]:=bd;let aT:∀{ac:St}{J:Hp}{U:ti},Inv (rV X (ix ts sI) scope cl H2.objs.3 s H fp) ([(s.13, { cls:=.type "list",data:=.seq XO.8 nn })]++oF fp s5.heap) ac J U ->
     U.heap.get? s.13=some { cls:=.type "list",data:=.seq XO.8 nn }/\J s.13=none/\tn (i+1) U.heap/\(∀b∈fp,J b=none):=λ{ac J U} Ix=>by
    let a:=Ix.pin _ (DO _ (YC _ Yn));show#[a.1,a.2.1,T.keep _ _ _ ap λb G o e=>(Ix.pin (b,o) (DO _ (DO _ (gU G e)))).1,λb G=>?_];let#[o,e,d]:=T.obj _ _ ap b G;show(Ix.pin (b,o) (DO _ (DO _ (gU G e)))).2.1
   let bare:∀{pl:Jr}{ac:St}{J:Hp}{U:ti},Inv (rV X (ix ts sI) scope cl H2.objs.3 s H fp) pl ac J U->Inv (rV X (ix ts sI) scope cl H2.objs.3 s H fp) [] ac J U:=λIx=>Ix.p7 λp Y=>D9 Y J0;cases ok with
   |false =>
    rw[vr Yf]at q7;let#[m',hm,w7]:=hN _ _ q7;let#[a1,a2,a3,a4]:=aT I7;show wpAny_pure #[rfl,m',hm,i+1,ys,XO,nn,H7,us,lu,bare I7,a3,a4,a2,a1,r3,z3,w7]
   |true =>
    rw[C' rfl]at q7;show yl (yl (kR (b9 (he _ _ _ _ _ s7 _ H7 _ I7 q7) λy s8 bn=>?_)));let#[adO,H8,I8,r8,b3,n8]:=bn;let#[m',hm,w8]:=hN _ _ n8;let#[a1,a2,a3,a4]:=aT I8;let hlen:=r3.9;show yl (ZR F.slot_list_append #[_,a1,rfl] F.entry_list_append (F.args_list_append_2 _ _) (list_append s.13 XO.8 nn y (by rw[Yg];lia)) #[a1,?_]);obtain⟨aB,q⟩:∃aB:Nat,(s8.heap.update s.13 (Obj.mapSeq (·.push y))).get? s.13=some { cls:=.type "list",data:=.seq (XO++[y]).toArray aB }:=by
     let q:=ae2 a1 (·.push y);let ea:XO.toArray.push y=(XO++[y]).8:=J0;rw[ea]at q;show#[_,q]
    let aeZ:Inv (rV X (ix ts sI) scope cl H2.objs.3 s H fp) [] (qW sI σ us) H8 { s8 with heap:=s8.heap.update s.13 (Obj.mapSeq (·.push y)) }:=
     (bare I8).turned (t':=s8.toks) (λb o G e=>(Heap.get?_update_other _ _ (oR G)).trans e) a2 am (.inr (BY _)) b0 (λp Y=>D9 (show p∈([]:Jr)from Y) J0)
    show wpAny_pure (wpAny_pure #[rfl,m',hm,i+1,ys++[adO],XO++[y],aB,H8,us,lu,aeZ,T.keep _ _ _ a3 λb G o e=>(Heap.get?_update_other _ _ (show s.13≠b from λz=>aY (G<*z))).trans e,a4,a2,q,r3.append (.cons r8 .nil),?_,w8])
    .rw[tp,Yq];lia
 show codeAny_compStart_list (bb _ rfl) (T.self _ 0 _ _ _ bc (bb _ rfl))
end
variable{tt:TT}{te:TE}
mutual
def jU.g{H':It}{F:List V->Hp->Prop}{W:Nat->Nat->List V->Hp->Prop}(G:jU sI tt te σ H' F W):FZ 1 sI (iZ 0) tt te σ H' F W:=λi m ys H h=>(G i m ys H h).imp id λh=>by
 let#[go,N,I,step]:=h;show#[go,N,I,λx J y vs l=>?_];let#[v,rfl]:=List.length_eq_one_iff.mp l;show#[[some x],1,step x J y]
variable{t:Str}{px:Pos}
def tS.pg(K:tS X scope cl t sI)(C:ZX)(s₀:ti)(H₀:Hp)(ex:JS):PG (rV X (CS t sI) scope cl C s₀ H₀ ex) (.Name t px) (iZ 0):=qz (i:=0) K.nd rfl (.inl (ZO K.Xi)) (.inr (ZO K.Xi))
variable{elt iter:YD}{ifs:fK}{Yb:Pos}{wi:TI}
def eR(K:tS X scope cl t sI)(hc:X.calm)(hi:PI X (.Name t px) iter wi)
  (L:∀C s₀ H₀ ex,Px (rV X (CS t sI) scope cl C s₀ H₀ ex) ifs tt) (he:∀C s₀ H₀ ex,PE (rV X (CS t sI) scope cl C s₀ H₀ ex) elt te)
  (hs:%[∀x,QH iter X.env x=pure x|0]):PE X (.ListComp elt [#[96]] scope Yb) (LN sI wi tt te):=by
 intros Q I h;rw[eval_ListComp];show w5 (use:=none) rfl hs K.EK K.kind K.names (b9 (hi Cr s σ H _ I h) λv s1 h1=>b9 h1 λac s2 h2=>?_);let#[it,fp,tn,H',H2,e,I2,T,Z,f2,W,#[m0,w0],hW]:=h2;subst e;show km (RR:=λab C=>compPost X.16 X.A X.xe none (EP X Cr σ Q) ab C) K.g hc K.pg L he I2 T Z f2 w0 (jU.g hW) ?_;intro D C ys J s' m Y I' hn F q;show#[m,hn,λh' G=>?_];let#[c0,c1,c2,c3,c4,c5]:=F;show#[.ref D,_,I'.turned (t':=s'.toks) (λb o U e=>(G.2 b U).trans e) c0 c1 c3 c4 c5,rfl,q D Y]
variable{i:Nat}
def uz{y:Str}{F L:Pos}(hN:X.N.4)(ad:X.N[i]?^y)(hy:Loc X.env.scope y)(K:tS X scope cl t sI)(hc:X.calm)(hi:PI X (.Name t px) iter wi)
  (ht:∀C s₀ H₀ ex,Px (rV X (CS t sI) scope cl C s₀ H₀ ex) ifs tt) (he:∀C s₀ H₀ ex,PE (rV X (CS t sI) scope cl C s₀ H₀ ex) elt te)
  (ar:%[CC (.ListComp elt [#[96]] scope Yb) (some (.Name y F)) L.line X.env=pure true|0])
  (hs:%[∀x,QH iter X.env x=pure x|0]) (hf:%[X.fn y\/X.env.scope.names.lookup y=some .local|0]) :
  PS X (.Assign [.Name y F] (.ListComp elt [#[96]] scope Yb) L) (BX (LN sI wi tt te) (iZ i)):=by
 intros D I h;rw[exec_Assign_Name_used _ _ _ _ ar];show yl (Dy (yl ?_));change wpAny _ X.A (do let _ <-comprehension (.ListComp elt [#[96]] scope Yb) scope X.env _ (newList []) false (eval iter X.env) (some (He (.Name y F) X.env))) _ _ s;show yl (b9 (w5 (use:=some (He (.Name y F) X.env)) (Q:=λ_ s'=>SP X Cr D .next s') rfl hs K.EK K.kind K.names
  (b9 (hi Cr s σ H _ I h) λv s1 h1=>b9 h1 λay s2 h2=>?_)) λ_ s' hq=>wpAny_pure (wpAny_pure hq))
 let#[it,fp,tn,H',H2,e,I2,T,ac,f2,W,#[m0,w0],hW]:=h2;subst e;show km (RR:=λam C=>compPost X.16 X.A X.xe (some (He (.Name y F) X.env)) (λ_ s'=>SP X Cr D .next s') am C) K.g hc K.pg ht he I2 T ac f2 w0 (jU.g hW) ?_;intro G C ys J s' m hD I' hn hC q;let#[c0,Y,c2,c3,U,c5]:=hC;change wpAny _ X.A (He (.Name y F) X.env (.ref G)) _ _ s';show wpAny_assign_Name (tR (v:=.ref G) I' hN ad hy rfl (λs3 I3 as=>?_) hf);let#[a,Z,ha]:=as;let ap:C≠a:=by
  obtain z|z:=ha
  .rw[z];show Y
  .show λw=>U y a z w.6
 show#[m,hn.sameBut Z ap,λh' ab=>?_];show#[2,I3.turned (t':=s3.toks) (λb o hb e=>(ab.2 b hb).trans e) c0 Y c3 U c5,q G hD]
variable{lo:Int}
def jQ{G:List V->Hp->Prop}(Pv:Nat->List V->Hp->Prop)(I:Pv 0 [] H)
  (hs:∀i ys H,i<n->Pv i ys H->tt (pN sI σ (some (.int (lo+i)))) H λb H2=>if b then te (pN sI σ (some (.int (lo+i)))) H2 (λy L=>ys.9<yr/\Pv (i+1) (ys++[y]) L)else Pv (i+1) ys H2)
  (hd:∀ys H,Pv n ys H->G ys H):∃W:Nat->Nat->List V->Hp->Prop,(∃m,W 0 m [] H)/\jU sI tt te σ (HJ lo n) G W:=by
 show Jp Pv I hd (λys H p=>BY _) λi ys H F p=>?_;show#[F,λx J y=>?_];let#[e,y]:=y;subst e y;show hs i ys _ F p
variable{K:Yi}{a:ZX}{xs:vl}
def jv{I:List V->Hp->Prop}(Pv:Nat->List V->Hp->Prop)(L:Pv 0 [] H)(G:∀i ys H,i<=xs.9->Pv i ys H->bh K H a xs)
  (hs:∀i x ys H,xs[i]?^x->Pv i ys H->tt (pN sI σ (some x)) H λb H2=>if b then te (pN sI σ (some x)) H2 (λy U=>ys.9<yr/\Pv (i+1) (ys++[y]) U)else Pv (i+1) ys H2)
  (hd:∀ys H,Pv xs.9 ys H->I ys H):∃W:Nat->Nat->List V->Hp->Prop,(∃m,W 0 m [] H)/\jU sI tt te σ (Lj K a) I W:=by
 show Jp Pv L hd (λys H p=>#[xs,G _ ys H (BY _) p,BY _]) λi ys H F p=>?_;let q:=G i ys H (Zm F) p;show#[#[xs,xs[i],q,by simp[F]],λx J y=>?_];let#[e,y]:=y;subst e;show hs i x ys _ (y xs q) p
variable{F:List V->Hp->Prop}
def oW(Pv:Nat->List V->Hp->Prop)(G:Pv 0 [] H)
  (hs:∀i ys H,i<n->Pv i ys H->te (pN sI σ (some (.int (lo+i)))) H (λy I=>ys.9<yr/\Pv (i+1) (ys++[y]) I))
  (hd:∀ys H,Pv n ys H->F ys H):∃W:Nat->Nat->List V->Hp->Prop,(∃m,W 0 m [] H)/\jU sI wD te σ (HJ lo n) F W :=
 jQ Pv G (λi ys H hi p=>by
  change if true then _ else Pv (i+1) ys H
  rw[C' rfl];show hs i ys H hi p) hd
def iS(Pv:Nat->List V->Hp->Prop)(I:Pv 0 [] H)(G:∀i ys H,i<=xs.9->Pv i ys H->bh K H a xs)
  (hs:∀i x ys H,xs[i]?^x->Pv i ys H->te (pN sI σ (some x)) H (λy L=>ys.9<yr/\Pv (i+1) (ys++[y]) L))
  (hd:∀ys H,Pv xs.9 ys H->F ys H):∃W:Nat->Nat->List V->Hp->Prop,(∃m,W 0 m [] H)/\jU sI wD te σ (Lj K a) F W :=
 jv Pv I G (λi x ys H hi p=>by
  change if true then _ else Pv (i+1) ys H
  rw[C' rfl];show hs i x ys H hi p) hd
def fG:YY "list" = some (.type "list"):=ax
def rh:YY "tuple" = some (.type "tuple"):=ax
def ae1:YY "int" = some (.type "int"):=ax
def ae8:YY "bool" = some (.type "bool"):=ax
def aaq:YY "isinstance" = some (.builtin "isinstance"):=ax
def oj:YY "sorted" = some (.builtin "sorted"):=ax
noncomputable def kM:List V->List V->Bool
 | [],[]=>true
 |x::xs,y::ys=>nZ x y&&kM xs ys
 |_,_=>false
theorem rj:∀{xs ys:vl},xs.9≠ys.9->kM xs ys=false
 | [],[],h=>D9 rfl h
 | [],_::_,_=>rfl
 |_::_,[],_=>rfl
 |x::xs,y::ys,h=>by
  let F:=rj (xs:=xs) (ys:=ys) λe=>h (by simp[e]);change(nZ x y&&kM xs ys)=false;rw[F,afr]
theorem lH:∀{xs ys:vl},xs.9=ys.9->(YQ xs.9).all (λj=>nZ (xs.getD j .bu) (ys.getD j .bu))=kM xs ys
 | [],[],_=>rfl
 |x::xs,y::ys,h=>by
  let F:=lH (xs:=xs) (ys:=ys) ‹h›;rw[YU,adh,RF,all_map];change(nZ x y&&_)=(nZ x y&&kM xs ys);rw[<-F];rfl
 | [],_::_,h=>by simp at h
 |_::_,[],h=>by simp at h
def afo(a b:Int):nZ (.int a) (.int b)=decide (a=b):=by
 change(a==b)=_;rw[Bool.beq_eq_decide_eq]
theorem uh:∀(xs ys:N4),kM xs.17 ys.17=decide (xs=ys)
 | [],[]=>rfl
 | [],_::_=>rfl
 |_::_,[]=>rfl
 |x::xs,y::ys=>by
  let F:=uh xs ys;change(nZ (.int x) (.int y)&&kM xs.17 ys.17)=_;rw[F,afo];cases h1:x=y
  .cases h2:xs=ys
   .simp[h1,h2]
   .simp[h1,h2]
  .simp[h1]
def tV(xs:N4):(xs.map V.int).all gg=true:=by
 rw[all_map];show Z0.mpr λ_ _=>rfl
inductive afv(K:Yi)(x y:V)(H:Hp)(Q:VK):Prop
 |mk(p q xs ys:_)(_:x=.ref p)(_:y=.ref q)(_:bh K H p xs)(_:bh K H q ys)(_:xs.all gg)(_:ys.all gg)(_:Q (.bl (kM xs ys)) H)
variable{A:Ys}
def K8{F:WX}(r:Si xs XO)(L:Si ys F)(Y:xs.all gg)(fy:ys.all gg)(j:Nat)(h1:j<XO.toArray.size)(h2:j<F.toArray.size):Lg A s XO.8[j] F.8[j] (nZ (xs.getD j .bu) (ys.getD j .bu)):=by
 let G:j<xs.9:=(by rw[r.9];simpa using h1);let I:j<ys.9:=(by rw[L.9];simpa using h2);let#[a,ea,U]:=r.get (i:=j) (x:=xs[j]) (by simp[G]);let#[b,eb,rb]:=L.get (i:=j) (x:=ys[j]) (by simp[I]);let#[_,ab]:=wh.mp ea;let#[_,Z]:=wh.mp eb;rw[show xs.getD j .bu=xs[j]by simp[G],show ys.getD j .bu=ys[j]by simp[I],show XO.8[j]=a by simpa using ab,show F.8[j]=b by simpa using Z];show EV U rb (Z0.mp Y _ (Zr G)) (Z0.mp fy _ (Zr I))
theorem aas(L:X.A.units<ff):mf X (Zp .Eq) (afv X.K):=by
 intros x y v u Q I rx ry h;let#[p,q,xs,ys,rfl,rfl,hx,Z,fx,fy,Y]:=h;cases rx;cases ry;let#[XO,r,pl,hz]:=I.list hx;let#[ad,U,F,ac]:=I.list Z;let G:=r.9;let ab:=U.9;cases e:xs.9=ys.9
 .show SeqAt.eq_listAt (e:=λj=>nZ (xs.getD j .bu) (ys.getD j .bu)) pl.isList F.isList (by rw[Yg,Yg];lia) L (K8 r U fx fy) #[.bl (kM xs ys),H,I,?_,Y];change Value.bool _=Value.bool _;rw[Yg, <-G,lH e]
 .show SeqAt.eq_list_lengthsAt pl.isList F.isList ?_ L #[.bl (kM xs ys),H,I,?_,Y]
  .rw[Yg,Yg, <-G, <-ab];show bne_iff_ne.mpr e
  .change Value.bool _=Value.bool _;rw[rj e]
def qa4:cM X (.builtin "isinstance") (λxs H Q=>∃x n t b,xs=[x,.ty n]/\ny X.K H x t/\YT X.K t (.type n)^b/\Q (.bl b) H):=by
 intros xs us Q I r h;let#[x,n,t,b,rfl,ty,e,q]:=h;let#[u,c,rfl,ru,F]:=vals2 r;obtain rfl:c=Value.type n:=F;show aam I ru ty e λtk=>#[.bl b,69,rfl,q]
def aaR(K:Yi):YT K (.type "int") (.type "int")^true:=rfl
def aeu(K:Yi):YT K (.type "int") (.type "bool")^false:=by with_unfolding_all rfl
open PySem.W
def xo(e:ZX)(cls:xr):HO:=.ext λh=>∃o,h.get? e^o/\o.cls=cls
variable{P:By}{w:L3}{h:Heap}{e:ZX}{cls:xr}
def afs(x:∃o,h.get? e^o/\o.cls=cls):cz P w H h e (xo e cls):=
 #[x,let ⟨o,F,_⟩:=x;#[o,F],λh1 h2 ⟨o,F,G⟩ k=>#[o,k o F,G]]
def cU:cM X (.builtin "isinstance") (λxs H Q=>∃(e C:ZX)(c:V)(F:xr)(b:Bool),xs=[.ref e,c]/\((∃D,c=.ref D/\F=.ref D)\/∃n,c=.ty n/\F=.type n)/\xU X.K C/\H e^xo e (.ref C)/\YT X.K (.ref C) F^b/\Q (.bl b) H):=by
 intros xs us Q I r h;let#[e,C,c,F,b,rfl,Z,xc,U,hk,q]:=h;let#[u,Y,rfl,ru,G]:=vals2 r;obtain rfl:u=Value.ref e:=ru;let L:Y=F:=by
  rcases Z with⟨D,rfl,rfl⟩|⟨n,rfl,rfl⟩
  .show G
  .show G
 subst L;let#[p,_]:=(show cz X.prog X.w H s.heap e (xo e (.ref C))from I.bK e _ U);show Zl (aeI xc) I.jY p hk (λz=>nomatch z) λtk=>#[.bl b,69,rfl,q]
def C2(e:ZX)(h:Heap):=∃o vs,h.get? e^o/\o.data=.fields vs/\vs[2]?^.none
def Tw(f:Obj->Obj):=∀o vs,o.data=.fields vs->vs[2]?^.none->∃F,(f o).data=.fields F/\F[2]?^.none
inductive Pl{α:Type}:Sem α->Prop
 |pure(a:α):Pl (.pure a)
 |raise(e:xr):Pl (.raise e)
 |unsupported(x:String):Pl (.unsupported x)
 |finish(x:Ending):Pl (.finish x)
 |rule(tag:String)(k:Unit->Sem α)(h:∀u,Pl (k u)):Pl (.rule tag k)
 |at_(p:Pos)(k:Unit->Sem α)(h:∀u,Pl (k u)):Pl (.at p k)
 |load(a:ZX)(part:O0)(k:Obj->Sem α)(h:∀o,Pl (k o)):Pl (.load a part k)
 |update(a:ZX)(part:O0)(f:Obj->Obj)(k:Unit->Sem α)(hf:Tw f)(h:∀u,Pl (k u)):Pl (.update a part f k)
 |alloc(o:Obj)(k:ZX->Sem α)(h:∀a,Pl (k a)):Pl (.alloc o k)
 |loadIfAlive(a:ZX)(k:Option Obj->Sem α)(h:∀o,Pl (k o)):Pl (.loadIfAlive a k)
 |point(l:WX)(k:Unit->Sem α)(h:∀u,Pl (k u)):Pl (.point l k)
 |register(a:ZX)(k:Unit->Sem α):Pl (.register a k)
 |fresh(k:Tok->Sem α)(h:∀t,Pl (k t)):Pl (.fresh k)
 |ask(k:Setting->Sem α)(h:∀t,Pl (k t)):Pl (.ask k)
 |handled(own:Bool)(k:Option xr->Sem α)(h:∀t,Pl (k t)):Pl (.handled own k)
 |stack(k:List (Code×Pos)->Sem α)(h:∀t,Pl (k t)):Pl (.stack k)
theorem Pl.bind{α β:Type}{t:Sem α}{k:α->Sem β}(h:Pl t)(hk:∀a,Pl (k a)):Pl (t>>=k):=by
 change Pl (Sem.bind t k)
 induction h with
 |pure a=>show hk a
 |raise e=>show .raise e
 |unsupported x=>show .unsupported x
 |finish x=>show .finish x
 |rule I k' _ F=>show .rule _ _ F
 |at_ p k' _ F=>show .at_ _ _ F
 |load a part k' _ F=>show .load _ _ _ F
 |update a part f k' G _ F=>show .update _ _ _ _ G F
 |alloc o k' _ F=>show .alloc _ _ F
 |loadIfAlive a k' _ F=>show .loadIfAlive _ _ F
 |point l k' _ F=>show .point _ _ F
 |register a k'=>show .register _ _
 |fresh k' _ F=>show .fresh _ F
 |ask k' _ F=>show .ask _ F
 |handled L k' _ F=>show .handled _ _ F
 |stack k' _ F=>show .stack _ F
theorem C2.push{o:Obj}(c:C2 e h):C2 e (h.push o):=let ⟨x,vs,h1,h2⟩:=c;#[x,vs,aV _ h1,h2]
theorem C2.update{f:Obj->Obj}(c:C2 e h)(I:Tw f):C2 e (h.update a f):=by
 let#[x,vs,h1,h2,G]:=c;cases q:a=e
 .subst q;let#[L,F,g2]:=I x vs h2 G;show#[f x,L,Heap.get?_update_self _ h1 (Obj.isFreed_of_fields F),F,g2]
 .show#[x,vs,(Heap.get?_update_other _ _ q).trans h1,h2,G]
variable{M:Qz}
def Pl.wp{α:Type}{G:PySem.Ctx}{t:Sem α}{Q:α->Pos->ti->Prop}{E:xr->Pos->ti->Prop}(h:Pl t):∀(p:Pos)(s:ti),jN M G t Q E p s->C2 e s.heap ->
  jN M G t (λa p s=>Q a p s/\C2 e s.heap) (λx p s=>E x p s/\C2 e s.heap) p s:=by
 induction h with
 |pure a=>intro p s q c;rw[jN]at q ⊢;show#[q,c]
 |raise e=>intro p s q c;rw[jN]at q ⊢;show#[q,c]
 |unsupported x=>intro p s q c;rw[jN]at q;show q.elim
 |finish x=>intro p s q c;rw[jN]at q;show q.elim
 |rule Y k _ F=>intro p s q c;rw[jN]at q ⊢;show F () p s q c
 |at_ U k _ F=>intro p s q c;rw[jN]at q ⊢;show F () U s q c
 |load a part k _ F=>intro p s q c;rw[jN]at q ⊢;let#[o,L,q]:=q;show#[o,L,F o p s q c]
 |update a part f k I _ F=>intro p s q c;rw[jN]at q ⊢;show#[q.1,F () p _ q.2 (c.update I)]
 |alloc o k _ F=>intro p s q c;rw[jN]at q ⊢;show F _ p _ q c.push
 |loadIfAlive a k _ F=>intro p s q c;rw[jN]at q ⊢;show F _ p s q c
 |point l k _ F=>intro p s q c;rw[jN]at q ⊢;show F () p s q c
 |register a k=>intro p s q c;rw[jN]at q;show q.elim
 |fresh k _ F=>intro p s q c;rw[jN]at q ⊢;show F _ p _ q c
 |ask k _ F=>intro p s q c;rw[jN]at q ⊢;show F _ p s q c
 |handled Z k _ F=>intro p s q c;rw[jN]at q ⊢;show F _ p s q c
 |stack k _ F=>intro p s q c;rw[jN]at q ⊢;show F _ p s q c
def Pl.any{α:Type}{t:Sem α}{Q:α->ti->Prop}{E:gJ}(h:Pl t)(q:wpAny M A t Q E s)(c:C2 e s.heap):wpAny M A t (λa s=>Q a s/\C2 e s.heap) (λx s=>E x s/\C2 e s.heap) s :=
 λG p F=>h.wp p s (q G p F) c
def acg{v:xr}(h:i≠2):Tw (Obj.mapFields (·.setIfInBounds i v)):=λo vs hd h2=>#[_,Obj.data_mapFields hd _,h2<*Array.getElem?_setIfInBounds_ne h]
def uE(a:ZX):Pl (load a):=.load _ _ _ λo=>.pure o
def aet(v:xr):Pl (fieldsOf v):=by
 unfold fieldsOf;split
 .show Pl.bind (uE _) λo=>?_;split
  .show .pure _
  .show .unsupported _
 .show .unsupported _
def mD(v:xr)(i:Nat):Pl (field v i):=by
 unfold field;show Pl.bind (aet v) λvs=>?_;split
 .show .pure _
 .show .unsupported _
def j9(v:xr)(i:Nat)(x:xr)(h:i≠2):Pl (setField v i x):=by
 unfold setField;split
 .unfold updateField;show Pl.bind (uE _) λo=>?_;split
  .split
   .show .update _ _ _ _ (acg h) λu=>.pure u
   .show .unsupported _
  .show .unsupported _
 .show .unsupported _
def qP:Pl stack:=.stack _ λl=>.pure l
def aag(ty:String)(vs:WX):Pl (newFields ty vs):=by
 let F:Pl (newObjAsIs (Value.type ty) (Data.fields vs.8)):=Pl.bind (.alloc _ _ λa=>.pure a) λa=>.pure _;unfold newFields newObj;dsimp only;split
 .show Pl.bind (.unsupported _) λ_=>F
 .show F
def aey:Pl frameEnvs:=by
 unfold frameEnvs;show Pl.bind qP λl=>.pure _
def abE(env:Env)(outer:List Env):Pl (behindIsImport env outer):=by
 unfold behindIsImport;split
 .show .pure _
 .split
  .show .pure _
  .show Pl.bind (mD _ _) λ_=>.pure _
def ab5:Pl adT:=by
 unfold adT;show Pl.bind qP λ_=>.pure _
def afp(env:Env)(i:Bool)(l:List Env):Pl (keptBack env i l):=by
 unfold keptBack;split
 .split
  .show .pure _
  .show Pl.bind ab5 λ_=>.pure _
 .show .pure _
theorem wq:∀l:List Env,Pl (readyFrames l)
 | []=>.pure _
 |env::outer=>by
  unfold readyFrames;split
  .show Pl.bind (uE _) λo=>?_;split
   .show .pure _
   .show Pl.bind (abE _ _) λi=>Pl.bind (afp _ _ _) λb=>Pl.bind (.update _ _ _ _ (λo vs h1 h2=>#[vs,h1,h2]) λu=>.pure u) λ_=>wq outer
  .show .unsupported _
def acd(l:List Env):Pl (frameObject l):=by
 cases l with
 |nil=>show .pure _
 |cons env outer =>
  unfold frameObject;show Pl.bind (wq _) λ_=>.pure _
def aaK(env:Env):Pl (Qv env):=by
 unfold Qv;show Pl.bind aey λl=>Pl.bind (acd _) λo=>?_;split
 .show .pure _
 .show .unsupported _
def aaM(f:ZX)(b:Bool):Pl (Nr f b):=by
 unfold Nr;show Pl.bind qP λl=>?_;split
 .show .pure _
 .show .pure _
def nM(v:xr)(f:ro):Pl (setFlight v f):=by
 unfold setFlight;show Pl.bind (mD _ _) λtb=>?_;split
 .show j9 _ _ _ az
 .show .pure _
def Bi(v:xr)(env:Env):Pl (noteFrame v env):=by
 unfold noteFrame;split
 .show Pl.bind (mD _ _) λhd=>?_;let rest:∀f:ZX,Pl (do
    let a <-Qv env
    let pl <-Nr f (hd != .none)
    let b <-EntryCells.newEntry hd a .none (WD f) .none pl
    setField v 1 b):=λf=>Pl.bind (aaK _) λa=>Pl.bind (aaM _ _) λq=>Pl.bind (aag _ _) λb=>j9 _ _ _ az
  split
  .show Pl.bind (mD _ _) λx=>?_;split
   .show .pure _
   .show Pl.bind (j9 _ _ _ az) λ_=>rest _
  .show rest _
 .show .unsupported _
def aby(env:Env)(v:xr):Pl (leaving env v):=by
 unfold leaving;show Pl.bind (Bi _ _) λ_=>nM _ _
def vU(B:Heap)(l:List Env)(e:ZX)(cls G:xr)(h:Heap):Prop :=
 B.StaysIn h/\B.get? e=none/\h.FunFrames B l/\∃F vs,h.get? e^F/\F.cls=cls/\F.data=.fields vs/\vs[0]?^G/\vs[1]?^.none
def ER(X:Cx)(Cr:Jr)(σ:St)(H:Hp)(B:Heap)(s:ti):=
 ∀(h':Heap)(tk:Nat),B.StaysIn h'->s.heap.UpToSlots h'->!H { s with heap:=h',toks:=tk }
structure FG(X:Cx)(Cr:Jr)(H:Hp)(e:ZX):Prop where
 old:X.s₀.heap.get? e=none
 loc:e≠X.env.locals
 fs:e∉X.fs
 cell:∀x c,X.env.cells.lookup x^c->c≠e
 pin:∀p∈X.pn++Cr,p.1≠e
 free:H e=none
abbrev XR:=St->xr->Hp->Prop
def XP(X:Cx)(Cr:Jr)(R:XR)(x:xr)(s':ti):=
 ∃(e:ZX)(cls F:xr)(B:Heap)(σ:St)(H:Hp),x=.ref e/\(vU B X.stack e cls F s'.heap\/Heap.FlyingW B X.stack e cls F s'.heap\/∃L,X.env.frame^L/\Heap.HeldW B X.stack e cls F L s'.heap)/\C2 e s'.heap/\ER X Cr σ H B s'/\FG X Cr H e/\R σ cls H
def bO(P:By)(w:L3):pJ:=λouter H s E x s' =>
 ∃(e:ZX)(cls F:xr)(B:Heap)(J:Hp),x=.ref e/\s'.os=s.os/\ig s'.gens/\s.heap.get? e=none/\J e=none/\Heap.FlyingW B outer e cls F s'.heap/\C2 e s'.heap /\
  (∀h',B.StaysIn h'->s'.heap.UpToSlots h'->Un (sC outer) [] H J s.heap h'/\kY P w J h')/\E cls none J
def jw:Passes (bO P w) X E0:=λ_ _ _ _ _ _ _ q=>by let#[_,_,_,_,_,_,_,_,_,_,_,_,_,h]:=q;show h.elim
variable{J:Hp}
def Inv.Lp(I:!H s)(hex:X.ex=[])(h:s.heap.get? e=none)(L:J e=none):FG X Cr J e:=by
 let old:X.s₀.heap.get? e=none:=by
  cases q:X.s₀.heap.get? e with
  |none=>rfl
  |some o =>
   let#[o',z]:=I.base.there e o q (by rw[hex];simp);rwa[h]at z
 show#[old,λz=>?_,λz=>?_,λx c q z=>?_,λp G z=>?_,L]
 .let#[m,#[o,_,_,F,_],_]:=I.loc;rwa[<-z,h]at F
 .let#[_,o,F,_]:=I.ok.kP.mem z;rwa[old]at F
 .let#[v,o,F,_]:=I.cell x c q;rwa[z,h]at F
 .have:=(I.pin p G).1;rwa[z,h]at this
variable{s':ti}{x:xr}
def Inv.comes{E:XK}(I:!H s)(hex:X.ex=[])(h:bO X.prog X.w X.stack H s E x s'):XP X Cr (λG cls J=>G=σ/\E cls none J) x s':=by
 let#[e,cls,L,B,J,rfl,os,bare,U,free,fl,F,keep,q]:=h;show#[e,cls,L,B,σ,J,rfl,.inr (.inl fl),F,λh' tk k u=>?_,I.Lp hex U free,rfl,q];let#[un,Y]:=keep h' k u;show I.EG (s':={ s' with heap:=h',toks:=tk }) (ch:=[]) os un Y bare (λb z=>D9 z J0)
variable{R:XR}
def XP.imp{F:XR}(h:XP X Cr R x s')(U:∀σ cls H,R σ cls H->F σ cls H):XP X Cr F x s':=by
 let#[e,cls,I,B,σ,H,L,Z,G,e3,Y,q]:=h;show#[e,cls,I,B,σ,H,L,Z,G,e3,Y,U _ _ _ q]
variable{B:Heap}
def ER.now(b:ER X Cr σ H B s)(k:B.StaysIn s.heap):!H s:=b s.heap s.toks k (Heap.UpToSlots.refl _)
abbrev Dn:=St->Hp->VK->(xr->Hp->Prop)->Prop
abbrev pB:=Ends->XR->St->Hp->Prop
def zX(X:Cx)(e:YD)(t:Dn):=
 ∀(Cr:Jr)(s:ti)(σ:St)(H:Hp)(Q:VK)(R:xr->Hp->Prop),!H s->t σ H Q R ->
  ↑(eval e X.env) (EP X Cr σ Q) (XP X Cr λF cls J=>F=σ/\R cls J) s
def HD(X:Cx)(st:Yv)(t:pB):=
 ∀(Cr:Jr)(s:ti)(σ:St)(H:Hp)(D:Ends)(R:XR),!H s->t D R σ H->↑(exec st X.env) (SP X Cr D) (XP X Cr R) s
def pK(X:Cx)(st:List Yv)(t:pB):=
 ∀(Cr:Jr)(s:ti)(σ:St)(H:Hp)(D:Ends)(R:XR),!H s->t D R σ H->↑(execs st X.env) (SP X Cr D) (XP X Cr R) s
end
section
variable{E:gJ}{Q:VK}
mutual
theorem EP.bZ{u:xr}(h:EP (X.iw E) Cr σ Q u s'):EP X Cr σ Q u s':=by
 let#[v,J,I,r]:=h;show#[v,J,I.bZ,r]
variable{t:TS}{st:Yv}
def bE(h:PS X.kR st t):HD X st (λD _ σ H=>t D σ H):=λCr s σ H D R I q =>
 YK (h Cr s σ H D (I.iw _) q) (λ_ _ z=>z.bZ) λ_ _ z=>z.elim
def cW{sts:List Yv}(h:t9 X.kR sts t):pK X sts (λD _ σ H=>t D σ H):=λCr s σ H D R I q =>
 YK (h Cr s σ H D (I.iw _) q) (λ_ _ z=>z.bZ) λ_ _ z=>z.elim
def pA(t u:pB):pB:=λD R σ H=>t { D with nx:=u D R } R σ H
variable{ts us:pB}
def aq{rest:List Yv}(h1:HD X st ts)(h2:pK X rest us):pK X (st::rest) (pA ts us):=by
 intros D R I h;show CT (b9 (h1 Cr s σ H _ R I h) λf G F=>?_);cases f with
 |next =>
  let#[L,J,U,q]:=F;show h2 Cr G L J D R U q
 |brk=>show F
 |cont=>show F
 |ret u=>show F
def aI(h1:HD X st ts):pK X [st] ts:=by
 intros D R I h;show CT (b9 (h1 Cr s σ H D R I h) λf F q=>?_);cases f with
 |next=>show ZE q
 |ret v=>show q
 |brk=>show q
 |cont=>show q
def uI:pB:=λD _ σ H=>D.nx σ H
def bA:pK X [] uI:=λ_ _ σ H _ _ I h=>ZE #[σ,H,I,h]
def nx{α:Type}{tr:Sem α}{Q F:α->ti->Prop}(h:wpAny M A tr Q (λ_ _=>False) s)(G:∀a s,Q a s->F a s):wpAny M A tr F E s :=
 YK h G λ_ _ z=>z.elim
def abz(te:Dn):pB:=λD R σ H=>te σ H (λ_ H1=>D.nx σ H1) (R σ)
def XP.at(h:XP X Cr (λF cls J=>F=σ/\R σ cls J) x s'):XP X Cr R x s':=h.imp λ_ _ _ ⟨e,q⟩=>e▸q
variable{e:YD}{tx:Dn}
def aU(G:zX X e tx)(hs:%[CC e none Yb.line X.env=pure false|0]):HD X (.Expr e Yb) (abz tx):=by
 intros D R I h;show wpAny_Expr_any (YK (G Cr s σ H _ _ I h) (λv Y ⟨x,H1,F,U,L⟩=>#[σ,H1,F,L]) λ_ _ z=>z.at) I.quiet hs
def abO(te:Dn):pB:=λD R σ H=>te σ H D.rt (R σ)
def abg(F:zX X e tx):HD X (.Return (some e) Yb) (abO tx):=by
 intros D R I h;show wpAny_Return_some (YK (F Cr s σ H _ _ I h) (λv Y ⟨x,H1,U,G,L⟩=>#[x,σ,H1,U,G,L]) λ_ _ z=>z.at)
def La(te:Dn)(i:Nat):pB:=λD R σ H=>te σ H (λv H1=>D.nx (σ.set i (some v)) H1) (R σ)
variable{x:Str}{pos':Pos}
def acj(hN:X.N.4)(hi:X.N[i]?^x)(hx:Loc X.env.scope x)(Y:zX X e tx)(hs:%[CC e (some (.Name x pos')) Yb.line X.env=pure false|0])(F:%[X.fn x\/X.env.scope.names.lookup x=some .local|0]) :
  HD X (.Assign [.Name x pos'] e Yb) (La tx i):=by
 intros D R I h;show wpAny_Assign_Name (YK (Y Cr s σ H _ _ I h) (λv s1 ⟨y,H1,U,L,Z⟩=>?_) λ_ _ z=>z.at) hs;show mP U hN hi hx L (λs2 G=>#[_,H1,G,Z]) F
def abe(i:Nat)(I:X.N.4)(G:zX X e tx)(hi:%[X.N[i]?^x|0])(hx:%[Loc X.env.scope x|0])(hs:%[CC e (some (.Name x pos')) Yb.line X.env=pure false|0])(F:%[X.fn x=true\/X.env.scope.names.lookup x=some .local|0]):HD X (.Assign [.Name x pos'] e Yb) (La tx i):=acj I hi hx G hs F
def Iu(c:TT)(t u:pB):pB:=λD R σ H=>c σ H λb H1=>if b then t D R σ H1 else u D R σ H1
def b8{a b:List Yv}{tc:TT}(Z:PT X.kR c tc)(Y:pK X a ts)(U:pK X b us):HD X (.If c a b Yb) (Iu tc ts us):=by
 intros D R I h;show wpAny_If (nx (Z Cr s σ H _ (I.iw _) h) λd F ⟨H1,G,L⟩=>?_);cases d with
 |true=>show Y Cr F σ H1 D R G.bZ L
 |false=>show U Cr F σ H1 D R G.bZ L
variable{k:Nat}{f C:ZX}{fd:C6}{ps:gq}{sp:Sp}{dvs:vl}{ds:WX}{x m:Str}{p apos:Pos}{o:YD}{es:fK}{ta:TE}{t:TA}
def qx{R:xr->Hp->Prop}{us:WX}{vs:vl}(F:aO X.prog X.w X.K X.mg X.base (bO X.prog X.w) k f fd ps sp)(G:cZ k X.A)(L:Nl X.K fd ps ds)(hd:Si dvs ds)(hex:X.ex=[])
  (I:!H s) (r:Si vs us) (h:sp (vs++dvs) H Q λcls _ J=>R cls J):↑(call (.ref f) us) (EP X Cr σ Q) (XP X Cr λU cls J=>U=σ/\R cls J) s :=
 Ax F G L hd (λe s' q=>I.comes (E:=λcls _ J=>R cls J) hex q) I r h
def G3(sp:Sp)(dvs:vl)(t:TA):Dn:=λσ H Q R=>t σ H λvs H1=>sp (vs++dvs) H1 Q λcls _ J=>R cls J
def vI(C:ZX)(m:Str)(sp:Sp)(dvs:vl)(ta:TE)(t:TA):Dn:=λσ H Q R=>ta σ H λx H1=>∃a dx fs,x=.ref a/\H1 a^.ins C dx fs/\fs.lookup m=none /\
 t σ H1 λvs H2=>sp (x::(vs++dvs)) H2 Q λcls _ J=>R cls J
def rR(F:aO X.prog X.w X.K X.mg X.base (bO X.prog X.w) k f fd ps sp)(L:cZ k X.A)(hex:X.ex=[])(Z:Gl X x)(hm:X.mg x^.ref f)(hk:Zk X.K (.ref f))(Y:Nl X.K fd ps ds)(hd:Si dvs ds)
  (ha:PA X.kR (e::es) t) (ab:%[x.14|0]) (he:%[iL X e es|0]) (U:%[(backTo Yb es.15).any (·.1)=false|0]) :
  zX X (.Call (.Name x p) (e::es) [] Yb) (G3 sp dvs t):=by
 intros Q R I h;show Z3 (i9 I Z hm ?_ ab);show Ex (h₀:=X.base) I.ok.mod.FK hk (nx (ha Yb Cr s σ H _ (I.iw _) h) λus s1 ⟨vs,H1,G,r,q⟩=>#[G.bZ.jY,?_]) he U;show qx F L Y hd hex G.bZ r q
variable{pl:Sem Bool}
def ie(he:PE X.kR o ta)(c:ph X.K C)(U:Meth X.K C m f)(F:aO X.prog X.w X.K X.mg X.base (bO X.prog X.w) k f fd ps sp)(hr:cZ k X.A)(hex:X.ex=[])(hb:Nl X.K fd ps ds)(hd:Si dvs ds)(ha:PA X.kR (e::es) t)
  (ab:%[iL X e es|0]) (Y:%[(backTo Yb es.15).any (·.1)=false|0])
  (Z:%[Ph X o m apos Yb pl (e::es)|0]) :
  zX X (.Call (.Attribute o m apos) (e::es) [] Yb) (vI C m sp dvs ta t):=by
 intros Q R I h;show Jc (pl:=pl) (nx (he Cr s σ H _ (I.iw _) h) λu s1 q=>?_) Z;let#[x,H1,G,rx,a,dx,fs,ex,ea,l,q]:=q;subst ex;obtain rfl:u=Value.ref a:=rx;show iK G.bZ ea c U l ?_;show Ex (first:=[.ref a]) (h₀:=X.base) I.ok.mod.FK U.kp (nx (ha Yb Cr s1 σ H1 _ G q) λus s2 ⟨vs,H2,L,r,q2⟩=>#[L.bZ.jY,?_]) ab Y;show qx (us:=.ref a::us) (vs:=.ref a::vs) F hr hb hd hex L.bZ (.cons rfl r) q2
def om(he:PE X.kR o ta)(c:ph X.K C)(L:Meth X.K C m f)(F:aO X.prog X.w X.K X.mg X.base (bO X.prog X.w) k f fd ps sp)(U:cZ k X.A)(hex:X.ex=[])(Z:Nl X.K fd ps ds)(hd:Si dvs ds)
  (Y:%[Ph X o m apos Yb pl []|0]) :
  zX X (.Call (.Attribute o m apos) [] [] Yb) (vI C m sp dvs ta wV):=by
 intros Q R I h;show Jc (pl:=pl) (nx (he Cr s σ H _ (I.iw _) h) λu s1 q=>?_) Y;let#[x,H1,G,rx,a,dx,fs,ex,ea,l,q]:=q;subst ex;obtain rfl:u=Value.ref a:=rx;show iK G.bZ ea c L l ?_;show wg (first:=[.ref a]) G.bZ.jY L.kp (qx (us:=[.ref a]) (vs:=[.ref a]) F U Z hd hex G.bZ (.cons rfl .nil) q)
end
end
mutual
def tQ:List xr:=[.type "ValueError",.type "Exception",.type "BaseException",.type "object"]
def adZ{Y:WX}{I:String}(X:K.In h)(q:excIn K C Y I) :
  ∃bm N nm q bs hdct sn sub ab col dd k0 k1 k2 k3 k5 mN,h.get? C^excClassObj nm q C N bs bm hdct sn sub ab col dd k0 k1 k2 k3 k5 I/\h.Ns N mN/\mN "__init__" = none/\OwnTail h Y bm:=by
 unfold excIn at q
 set_option tactic.hygienic true in split at q
 .rename_i dd cd sl ho
  set_option tactic.hygienic true in split at q
  .rename_i afK bm k0 k1 k2 k3 n k5 U hs;simp only[wx,beq_iff_eq,Bool.not_eq_true']at q;let#[#[#[#[#[rfl,rfl],G],ht],F],L]:=q;let#[nm,bs,ad,ns,Z,hd,sn,sub,ab,col,am]:=cd;dsimp only at U G F L;subst U G;let ac:sl = ([k0,k1,k2,k3,some (.builtin n),k5].8):=by
    let#[l]:=sl;simp only at hs;rw[hs]
   subst ac;show#[bm,ns,nm,Z,bs,hd,sn,sub,ab,col,dd,k0,k1,k2,k3,k5,_,X _ _ ho,.of_isNs (PySem.W.isNs_of_in X F),PySem.W.nsMap_none_of_in X F L,PySem.W.tail_of_in X ht]
  .cases q
 .cases q
def acb{o:HO}(x:cz P w H h a o):∃F,h.get? a^F:=by
 cases o with
 |lst xs=>let#[_,_,_,_,e]:=x;show#[_,e]
 |tup xs=>let#[_,_,_,p]:=x;let#[o,e,_]:=p;show#[_,e]
 |dK Ki=>let#[_,_,_,_,o,_,_,e,_]:=x;show#[_,e]
 |dT Ki=>let#[_,_,_,_,o,_,_,e,_]:=x;show#[_,e]
 |set S n=>let#[o,_,_,_,e,_]:=x;show#[_,e]
 |ins C dx fs=>let#[_,_,_,e,_]:=x;show#[_,e]
 |own y=>let#[_,e]:=x;show#[_,e]
 |xd fs=>let#[_,#[_,_,_,e,_],_]:=x;show#[_,e]
 |so lo hi=>let#[_,_,_,e]:=x;show#[_,e]
 |frz F u=>let#[e,_]:=x;show#[_,e]
 |tbl ps=>show#[_,(show h.get? a^_ from x)]
 |met f y=>show#[_,(show h.get? a^_ from x)]
 |ext G=>let#[_,e,_]:=x;show e
variable{h':Heap}
def Inv.raised{vs:WX}(I:!H s)(hex:X.ex=[])(hx:Heap.MadeExcOf s.heap h' e cls vs):XP X Cr (λac c J=>ac=σ/\c=cls/\J=H) (.ref e) { s with heap:=h' }:=by
 let#[t,G,ad,ht]:=hx.there;let ab:∀env∈X.stack,∀a,env.frame^a->a∈sC X.stack:=λenv G a hf=>Z2.mpr #[env,G,hf];let nf:∀b u,H b^u->b∉sC X.stack:=λb u q z=>(q*>I.uj b z);let hB:∀b,s.heap.get? b=none->(hideAll s.heap (sC X.stack)).get? b=none:=λb q=>by
  cases z:(hideAll s.heap (sC X.stack)).get? b with
  |none=>rfl
  |some o=>rwa[of_hideAll _ z]at q
 show#[e,cls,.ref t,hideAll s.heap (sC X.stack),σ,H,rfl,.inl #[λb o q=>hx.keeps b o (of_hideAll _ q),hB e hx.new,?_,2,G,1,1],#[2,G,1],λU tk k u=>?_,I.Lp hex hx.new ?_,1,rfl]
 .show(PySem.W.funFrames_hide I.stack ab).of_keeps λb o q _=>#[o,hx.keeps b o q,rfl]
 .let L:∀b o,s.heap.get? b^o->b∉sC X.stack->U.get? b^o:=λb o q nb=>k b o (hideAll_get _ q nb);let sl:∀b o,s.heap.get? b^o->b∈sC X.stack->∃sl,U.get? b=some { o with slots:=sl }:=λb o q F=>by
   let#[_,o',Z,hd]:=I.stack.mem F;rwa[q]at Z;show u b o (hx.keeps b o q) hd
  show I.EG (s':={ s with heap:=U,toks:=tk }) (ch:=[]) rfl #[λb o q n F _=>L b o q F,λb o q n F _=>sl b o q F,λb o q n _=>n,λb o q _=>?_,λb xs q=>q,λb o u q=>q,λb ps q=>#[([].8),by rw[q];simp]] (λa o q=>?_) I.bare (λb z=>D9 z J0)
  .cases F:b∈sC X.stack
   .let#[am,q']:=sl b o q F;show#[_,q']
   .show#[o,L b o q F]
  .show(I.bK a o q).iW (λc v hc ac8=>L c v ac8 ?_) (λ_ z=>z) λ_ _ z=>z;obtain z|z:=hc
   .rw[z];show nf a o q
   .show nf c _ z
 .cases z:H e with
  |none=>rfl
  |some o =>
   let#[ob,Y]:=acb (I.bK e o z);rwa[hx.new]at Y
abbrev TJ:=Str->St->Hp->(Str->Hp->Prop)->Prop
def PJ(X:Cx)(vs:fK)(t:TJ):=
 ∀(Cr:Jr)(s:ti)(σ:St)(H:Hp)(F:Str)(Q:Str->Hp->Prop),!H s->t F σ H Q->Joins X.16 X.A X.xe (evalEach vs X.env) F (λout G=>∃J,!J G/\Q out J) s
def aev:TJ:=λacc _ H Q=>Q acc H
def zC4(te:TE)(t:TJ):TJ:=λF σ H Q=>te σ H λx H1=>∃y,x=.str y/\(F++y).9<=yr/\t (F++y) σ H1 Q
def jH:PJ X [] aev:=λ_ s _ H _ _ I h=>show ∃J,_ from#[H,I,h]
variable{v:YD}{vs:fK}{t:TJ}
def cQ(Z:PE X v te)(L:PJ X vs t):PJ X (v::vs) (zC4 te t):=by
 intros ab Q I h;change wpAny _ _ (eval v X.env) _ _ s;show b9 (Z Cr s σ H _ I h) λu U q=>?_;let#[x,H1,Y,G,y,ex,F,q]:=q;subst ex;let#[tk,rfl]:=G;show#[y,tk,rfl,F,L Cr U σ H1 _ Q Y q]
def aaF{v2:YD}(h:PJ X (v::v2::vs) t):PE X (.JoinedStr (v::v2::vs) Yb) (λσ H Q=>t Str.empty σ H λout J=>out.9<=yr/\Q (.str out) J):=by
 intros Q I q;show wpAny_JoinedStr ?_;let z:=h Cr s σ H Str.empty _ I q;let go:∀(l:List (Sem xr))(G:Str)(s:ti),Joins X.16 X.A X.xe l G (λout F=>∃J,!J F/\out.9<=yr/\Q (.str out) J) s ->
   Joins X.16 X.A X.xe l G (λout F=>out.9<=yr/\EP X Cr σ Q (.str out F.toks) { F with toks:=F.toks+1 }) s:=by
  intro l
  induction l with
  |nil =>
   intro G s ⟨J,I',L,U⟩;show#[L,.str G,J,I'.tok _,#[0],U]
  |cons a r Z =>
   intro G s Y;show b9 Y λu F q=>by let#[y,tk,e,L,U]:=q;show#[y,tk,e,L,Z _ _ U]
 show go _ _ _ z
def aak(U:PE X v te):PE X (.FormattedValue v (-1) none Yb) (λσ H Q=>te σ H λx H1=>∃i:Int,x=.int i/\i.natAbs.log2<1920/\Q (.str (toString i)) H1):=by
 intros Q I h;show ach (b9 (U Cr s σ H _ I h) λu Y q=>?_);let#[x,H1,L,G,i,ex,F,q]:=q;subst ex;let#[tk,rfl]:=G;show wpAny_formatField_int F #[.str (toString i),H1,L.tok _,#[0],q]
def Kk(a b:Str):(a++b).9=a.9+b.9:=strLen_append a b
def jO{i:Int}(h:i.natAbs.log2<1920):(toString i:Str).9<=1921:=by
 let e:=int_text_length_le (k:=1920) az h;change(Str.ofString (toString i)).9<=1921;rw[PySem.ofString_length];show e
variable{x:Str}{np:Pos}{es:fK}{t:TA}
theorem bP{cpos:Pos}{e₀:YD}(Z:Gl X x)(hm:X.mg x^.ref C)(hq:excIn X.K C tQ "ValueError.__new__" = true)(hc:X.calm)(hex:X.ex=[])(ha:PA X.kR (e₀::es) t)
  (L:%[starEach (e₀::es) X.env=(false,eval e₀ X.env)::starEach es X.env|0]) (Y:%[(backTo cpos es.15).any (·.1)=false|0]) (hd:%[x.14|0]) :
  HD X (.Raise (some (.Call (.Name x np) (e₀::es) [] cpos)) none Yb) (λD R σ H=>t σ H λvs H1=>vs.9<=yr/\R σ (.ref C) H1):=by
 intros D R I h;let#[tl,N,nm,q,bs,hdct,sn,sub,ab,col,dd,k0,k1,k2,k3,k5,mN,U,hN,ac,T]:=adZ I.ok.mod.FK hq;show wpAny_Raise_call_subT (C:=C) (nm:=nm) (q:=q) (N:=N) (bs:=bs) (bm:=tl) (hdct:=hdct) (sn:=sn) (sub:=sub) (ab:=ab) (col:=col) (dd:=dd) (k0:=k0) (k1:=k1) (k2:=k2) (k3:=k3) (k5:=k5)
  F.excBase_ValueError (mN:=mN) (T.hasType F.excBase_ValueError.hasBase) (I.ok.hd hc) (by rw[L];change(false||(backTo cpos es.15).any (·.1))=false;rw[Y];rfl) ac (i9 I Z hm #[3] hd)
 let h2:=ha cpos Cr s σ H _ (I.iw _) h;rw[L]at h2 ⊢;show Calls.evalArgs_plain (nx h2 λus s2 ⟨vs,H1,G,r,hl,q1⟩=>#[3,G.bZ.bk _ _ U,hN.keeps G.bZ.bk,T.keeps G.bZ.bk,λh' e hx=>?_])
 .change us.9<=yr;rw[<-r.9];show hl
 .show(G.bZ.raised hex hx).imp λ_ _ _ ⟨a,b,c⟩=>by subst a b c;show q1
variable{E:gJ}{env:Env}{outer:List Env}{L:ZX}{G:xr}{Q:Unit->ti->Prop}
def tB'(U:A.frames^(env::outer)) (F:env.frame^L) (h:vU B (env::outer) e cls G s.heap\/Heap.FlyingW B (env::outer) e cls G s.heap\/∃L,env.frame^L/\Heap.HeldW B (env::outer) e cls G L s.heap)
  (I:∀h',Heap.FlyingW B outer e cls G h'->s.heap.UpToSlots h'->Q () { s with heap:=h' }):wpAny M A (leaving env (.ref e)) Q E s:=by
 rcases h with⟨h1,h2,h3,oe,vs,he,hc,hd,h0,ab⟩|h|⟨L',Y,Z⟩
 .subst hc;show wpAny_leaving_firstW U h3 F he h1 h2 hd ab h0 λh' ⟨k1,⟨_,_,k2⟩,k3,k4⟩=>I h' #[k1,h2,k2,k3] k4
 .show wpAny_leaves_onW U F h I
 .rw[F]at Y;cases Y;let#[g1,g2,g3,g4]:=id Z;show yl (adi F g4 (Ia Z λh' fl up=>I h' #[fl.1,fl.2.1,?_,fl.2.2.2] up));show(show h'.FunFrames B (env::outer)from fl.2.2.1).2.2
variable{F:xr}
def fdB(I:A.frames^(env::outer)) (G:env.frame^L) (h:vU B (env::outer) e cls F s.heap\/Heap.FlyingW B (env::outer) e cls F s.heap\/∃L,env.frame^L/\Heap.HeldW B (env::outer) e cls F L s.heap) (c:C2 e s.heap)
  (Y:∀h',Heap.FlyingW B outer e cls F h'->s.heap.UpToSlots h'->C2 e h'->Q () { s with heap:=h' }):wpAny M A (leaving env (.ref e)) Q E s :=
 YK ((aby env (.ref e)).any (E:=λ_ _=>False) (tB' (Q:=λ_ s'=>∃h',s'={ s with heap:=h' }/\Heap.FlyingW B outer e cls F h'/\s.heap.UpToSlots h') I G h λh' f u=>#[h',rfl,f,u]) c)
  (λ_ s' ⟨⟨h',Z,f,u⟩,U⟩=>by subst Z;show Y h' f u U) λ_ _ z=>z.1.elim
variable{mg:j5}{base:Heap}{qual:Str}{st:Yv}{f:ZX}{fd:C6}{N ps:gq}{sp:Sp}
def bV.Yd{k:Nat}(F:bV K x qual st f fd)(S:aA N ps (ao st))(len:∀vs H Q E,sp vs H Q E->vs.9=ps.9)
  (ar:∀(G:xr)(A:Ys)(outer:List Env)(s:ti)(H:Hp)(vs:vl)(Q:VK)(E:XK),cZ k (A.deeper (rB qual (ao st) s.13 f G))->sp vs H Q E ->
   let X:=sG (bO P w) P w K mg base N qual (ao st) f G A outer s H E
   let D:Ends:={ nx:=λ_ J=>Q .bu J,rt:=Q }
   let R:XR:=λ_ cls J=>E cls none J
   ∃t,pK X (du st) t/\t D R (start N vs) H):!aO (k+1) f fd ps sp:=by
 let#[oc,od,kV,as,pm,an,G,ct,aB,rfl,lk,ap]:=F.ex;show K7 lk ap S len λA outer s H vs Q E hr ad=>?_;let#[t,h,q]:=ar G A outer s H vs Q E hr ad;show#[λD σ J=>t D (λ_ cls J=>E cls none J) σ J,λCr s1 σ H1 D I q1=>?_,q];show YK (h Cr s1 σ H1 D _ I q1) (λ_ _ z=>z) λv Y hx=>?_;let#[e,cls,a0,B,ay,H2,rfl,fl,c2,Z,ab,hE]:=hx;let iW:B.StaysIn Y.heap:=by
  obtain z|z|⟨_,_,z⟩:=fl
  .show z.1
  .show z.1
  .show z.1
 let U:=Z.now iW;show fdB (L:=s.13) U.ok.frames rfl fl c2 λh' am up c3=>?_;show#[e,cls,a0,B,H2,rfl,U.os,U.bare,ab.old,ab.free,am,c3,λac k u=>(λH'=>#[H'.base,H'.bK]) (Z ac Y.toks k (up.trans u)),hE]
def bV.dQ{k:Nat}(F:bV K x qual st f fd)(S:aA N ps (ao st))
  (hb:∀(wL:xr)(A:Ys)(outer:List Env)(s:ti)(H:Hp)(vs:vl)(Q:VK)(E:XK)(hr:cZ k (A.deeper (rB qual (ao st) s.13 f wL)))(h:sp vs H Q E),let X:=sG (bO P w) P w K mg base N qual (ao st) f wL A outer s H E
   let D:Ends:={ nx:=λ_ J=>Q .bu J,rt:=Q }
   let R:XR:=λ_ cls J=>E cls none J
   ∃t,pK X (du st) t/\t D R (start N vs) H) (len:∀vs H Q E,sp vs H Q E->vs.9=ps.9:=by intro vs H Q E h;first|(cases h<;>subst_vars<;>rfl)|((repeat let#[_,h]:=h);all_goals(subst_vars;rfl))):!aO (k+1) f fd ps sp:=F.Yd S len hb
noncomputable abbrev Cx.hand(X:Cx)(e:ZX):Cx:={ X with A:=X.A.mark (some (.ref e)),calm:=false }
theorem Cx.Ok.hand(ok:X.Ok)(e:ZX):(X.hand e).Ok :=
 #[29,(λz=>Bool.noConfusion z),30]
theorem Inv.hand(I:!H s)(e:ZX):Inv (X.hand e) Cr σ H s:=#[I.ok.hand e,16]
def Inv.Hy(I:Inv (X.hand e) Cr σ H s)(ok:X.Ok):!H s:=#[ok,16]
def Inv.OX(I:!H s)(n:FG X Cr H e)(x:∃o,s.heap.get? e^o/\o.cls=cls):!(QZ H e (xo e cls)) s:=by
 let ne:∀b o,H b^o->b≠e:=λb o q=>ba q n.free;show#[46,#[I.base.keep,I.base.slot,λb o q nn hx=>?_,I.base.there,λb xs q=>?_,λb o u q=>?_,λb ps q=>?_],I.loc,I.cell,?_,λy c q=>?_,λp F=>?_,λb u q=>?_,I.len]
 .rw[au (λz=>by rwa[z,n.old]at q)];show I.base.free b o q nn hx
 .let z:=I.base.qF b xs q;rw[au (ne _ _ z)];show z
 .let z:=I.base.pV b o u q;rw[au (ne _ _ z)];show z
 .let#[L,z]:=I.base.qJ b ps q;show#[L,z<*au (ne _ _ z)]
 .rw[au (oR n.loc)];show I.free
 .rw[au (n.cell y c q)];show I.iy y c q
 .let#[a1,a2,U]:=I.pin p F;show#[a1,a2<*au (n.pin p F),U]
 .cases G:b=e
  .subst G;rwa[ag]at q;show afs x
  .rw[au G]at q;show(I.bK b u q).iW (λ_ _ _ z=>z) (λc z=>z<*au (ne _ _ z)) λc xs z=>by rw[au (ne _ _ z)];show z
def Inv.unset{n:Str}{v:O0}(I:!H s)(hN:X.N.4)(hi:X.N[i]?^n)(hl:X.env.kindOf n^.local)
  (hm:s.heap.Ns X.env.locals m) (ac:∀(i:Nat)(x:Str)(v:V),X.N[i]?^x->σ[i]?^some v->Qc X.env.scope x->∃u,zH v u/\Look X.env s.heap m x u)
  (hn:h'.Ns X.env.locals (λx=>if x=n then v else m x)) (hs:Heap.SameBut X.env.locals s.heap h'):Inv X Cr (σ.set i none) H { s with heap:=h',toks:=tk }:=by
 let ab:i<σ.9:=((wh.mp hi).1<*I.len);let Ep:=I.Ep;let U:∀b o,X.s₀.heap.get? b^o->b≠X.env.locals:=λb o e=>Za (Ym (gu e) I.ok.above);show#[46,#[λb o e n Y hx=>?_,λb o e n Y hx=>?_,128],#[_,hn,λj y v' F L e3=>?_],λy c e=>?_,I.free,I.iy,λp hp=>?_,λb ob e=>?_,by simpa using I.len]
 .show(hs.2 b (U b o e)).trans (I.base.keep b o e n Y hx)
 .let#[sl,F]:=I.base.slot b o e n Y hx;show#[sl,(hs.2 b (U b o e)).trans F]
 .let#[o',F]:=I.base.there b o e hx;show#[o',(hs.2 b (U b o e)).trans F]
 .cases Z:j=i
  .subst Z;rwa[Zq ab]at L
  .rw[YS (oR Z)]at L;let#[u',r',q]:=ac j y v' F L e3;show#[u',r',?_];rcases q with⟨k,e⟩|⟨k,c,e,z⟩
   .show .inl #[k,?_];have:y≠n:=λe=>Z (qL hN F (e▸hi));simp[this,e]
   .show .inr #[k,c,e,55]
 .let#[w',z]:=I.cell y c e;show#[w',55]
 .let#[e,n,ne,nf,d]:=I.pin p hp;show#[(hs.2 p.1 ne).trans e,n,ne,nf,d]
 .show(I.bK b ob e).iW (λc w' G q=>(hs.2 c ?_).trans q) (λ_ q=>q) λ_ _ q=>q;rintro rfl;obtain G|G:=G
  .rw[<-G,I.free]at e;cases e
  .rw[I.free]at G;cases G
def A''(U:A.frames^(env::outer)) (F:env.frame^L) (h:vU B (env::outer) e cls G s.heap\/Heap.FlyingW B (env::outer) e cls G s.heap\/∃L,env.frame^L/\Heap.HeldW B (env::outer) e cls G L s.heap)
  (I:∀h',Heap.HeldW B (env::outer) e cls G L h'->s.heap.UpToSlots h'->Q () { s with heap:=h' }):wpAny M A (noteFrame (.ref e) env) Q E s:=by
 rcases h with⟨h1,h2,h3,oe,vs,he,hc,hd,h0,ab⟩|h|⟨L',Y,Z⟩
 .subst hc;unfold noteFrame;simp only[F];show yl (BR he hd ab ?_);rw[vr az];show wpAny_entryW U h3 F he h1 h2 hd (aci.mp ab).1 h0 λh' ⟨k1,k2,k3,k4⟩=>I h' #[k1,h2,k2,k3] k4
 .show wpAny_looks_onW U F h I
 .rw[F]at Y;cases Y;show adi F Z.2.2.2 (I s.heap Z (Heap.UpToSlots.refl _))
def lN(I:A.frames^(env::outer)) (G:env.frame^L) (h:vU B (env::outer) e cls F s.heap\/Heap.FlyingW B (env::outer) e cls F s.heap\/∃L,env.frame^L/\Heap.HeldW B (env::outer) e cls F L s.heap) (c:C2 e s.heap)
  (Y:∀h',Heap.HeldW B (env::outer) e cls F L h'->s.heap.UpToSlots h'->C2 e h'->Q () { s with heap:=h' }):wpAny M A (noteFrame (.ref e) env) Q E s :=
 YK ((Bi (.ref e) env).any (E:=λ_ _=>False) (A'' (Q:=λ_ s'=>∃h',s'={ s with heap:=h' }/\Heap.HeldW B (env::outer) e cls F L h'/\s.heap.UpToSlots h') I G h λh' f u=>#[h',rfl,f,u]) c)
  (λ_ s' ⟨⟨h',Z,f,u⟩,U⟩=>by subst Z;show Y h' f u U) λ_ _ z=>z.1.elim
variable{l:List Env}
def ts'(G:Heap.HeldW B l e cls F L s.heap)(c:C2 e s.heap)
  (U:∀h',Heap.FlyingW B l e cls F h'->s.heap.UpToSlots h'->C2 e h'->Q () { s with heap:=h' }):wpAny M A (setFlight (.ref e) none) Q E s :=
 YK ((nM (.ref e) none).any (E:=λ_ _=>False) (Ia (Q:=λ_ s'=>∃h',s'={ s with heap:=h' }/\Heap.FlyingW B l e cls F h'/\s.heap.UpToSlots h') G λh' f u=>#[h',rfl,f,u]) c)
  (λ_ s' ⟨⟨h',Y,f,u⟩,I⟩=>by subst Y;show U h' f u I) λ_ _ z=>z.1.elim
def aap(G:Heap.FlyingW B l e cls F s.heap)(c:C2 e s.heap)
  (L:∀h',Heap.FlyingW B l e cls F h'->s.heap.UpToSlots h'->C2 e h'->Q () { s with heap:=h' }):wpAny M A (setFlight (.ref e) none) Q E s :=
 YK ((nM (.ref e) none).any (E:=λ_ _=>False) (lands_againW (Q:=λ_ s'=>∃h',s'={ s with heap:=h' }/\Heap.FlyingW B l e cls F h'/\s.heap.UpToSlots h') G λh' f u=>#[h',rfl,f,u]) c)
  (λ_ s' ⟨⟨h',U,f,u⟩,I⟩=>by subst U;show L h' f u I) λ_ _ z=>z.1.elim
def aaQ(i:Nat)(D:Ends):Ends:={ nx:=λσ H=>D.nx (σ.set i none) H,rt:=D.rt,bk:=λσ H=>D.bk (σ.set i none) H,ct:=λσ H=>D.ct (σ.set i none) H }
def abo(K:Yi)(C:ZX)(i:Nat)(tb:pB)(ts:TS):TS:=λD σ H=>tb D (λF cls J=>BK K cls (.ref C)^true/\∀e,J e=none->ts (aaQ i D) (F.set i (some (.ref e))) (QZ J e (xo e cls))) σ H
end
section
mutual
def abF{n:Str}{hpos:Pos}{body suite:List Yv}{b₀:Yv}{tb:pB}{ts:TS}(hex:X.ex=[])(aT:X.stack=X.env::X.outer)(hf:X.env.frame^X.env.locals)(hg:Gl X x)(hm:X.mg x^.ref C)(hN:X.N.4)(hi:X.N[i]?^n)(hl:X.env.scope.names.lookup n^.local)
  (hb:pK X body tb) (hs:∀e,t9 (X.hand e).kR (b₀::suite) ts) (hd:%[x.14|0]) :
  PS X (.Try body [.ExceptHandler (some (.Name x np)) (some n) (b₀::suite) hpos] [] [] Yb) (abo X.K C i tb ts):=by
 intros D I h;show wpAny_Try_except (YK (hb Cr s σ H D _ I h) (λf Z q=>?_) λv Z hx=>?_)
 .cases f with
  |next=>show ZE q
  |ret v=>show q
  |brk=>show q
  |cont=>show q
 let#[e,cls,a0,B,a7,H1,rfl,fl,c2,be,ar,aB,hk]:=hx;let iW:B.StaysIn Z.heap:=by
  obtain z|z|⟨_,_,z⟩:=fl
  .show z.1
  .show z.1
  .show z.1
 let I1:=be.now iW;let ad:=I1.ok.frames;rw[aT]at fl ad;let aY:=I1.ok;show lN ad hf fl c2 λh4 held ay c4=>?_;show ts' held c4 λh5 ab aN c5=>?_;let am:=ay.trans aN;let I5:=(be h5 Z.toks ab.1 am).hand e;let#[ob,aX,aK]:=ab.there;show aec (adz (i9 (X:=X.hand e) I5 hg hm ?_ hd)) (by intro q;cases q);let LT:Et X.16 h5 (vf (.ref e)) cls:=aK▸(qc aX).andThen .now;show(exm_one I5.jY LT aB).here (s:={ Z with heap:=h5 }) ?_;show codeAny_handlers_suite_as ?_;show aap ab c5 λh6 ap a4 c6=>?_;let I6:=be h6 Z.toks ap.1 (am.trans a4);let a5:=(I6.OX (cls:=cls) ar ap.there).hand e;show mP (X:=X.hand e) (v:=.ref e) a5 hN hi (.inl hl) rfl (λs7 I7=>?_) (.inr hl);show nx (hs e Cr s7 _ _ _ (I7.iw _) (hk e ar.free)) λf s8 hq=>?_;let fin:∀{L:St}{U:Hp}{Q:ti->Prop},Inv (X.hand e).kR Cr L U s8->(∀G,Inv X Cr (L.set i none) U G->Q G) ->
   ↑(do bindName X.env n .none;unbindBehindTheSuite X.env n hpos) (λ_ G=>Q G) X.xe s8:=λ{L U Q} F k=>by
  let ac:Inv X Cr L U s8:=(F.bZ).Hy aY;let#[m,hn,a6]:=ac.loc;show wpAny_nameGoes_keeps hl hn (by rw[ac.ok.kind];rfl) λh' v a3 as=>k _ (ac.unset hN hi hl hn a6 a3 as)
 cases f with
 |next =>
  let#[L,U,F,q]:=hq;show fin F λG Y=>#[2,Y,q]
 |brk =>
  let#[L,U,F,q]:=hq;show fin F λG Y=>#[2,Y,q]
 |cont =>
  let#[L,U,F,q]:=hq;show fin F λG Y=>#[2,Y,q]
 |ret u =>
  let#[v,L,U,F,rv,q]:=hq;show fin F λG Y=>#[v,2,Y,rv,q]
variable{κ:Type}[DecidableEq κ]
noncomputable def jc(Ki:List (κ×V))(k:κ):Option V:=(Ki.find? λF=>decide (F.1=k)).map (·.2)
noncomputable def putK(Ki:List (κ×V))(k:κ)(v:V):List (κ×V):=
 if (Ki.any λF=>decide (F.1=k))=true then Ki.map (λF=>if F.1=k then(F.1,v)else F)else Ki++[(k,v)]
def qB(Ki:List (κ×V))(k:κ):List (κ×V):=Ki.filter λF=>decide (F.1≠k)
def mQ{p:κ×V}{r:List (κ×V)}{k:κ}(e:p.1=k):jc (p::r) k^p.2:=by simp[jc,yZ,e]
def mG{p:κ×V}{r:List (κ×V)}{k:κ}(e:¬ p.1=k):jc (p::r) k=jc r k:=by simp[jc,yZ,e]
theorem mx(k:κ):∀Ki:List (κ×V),(Ki.any λF=>decide (F.1=k))=(jc Ki k).10
 | []=>rfl
 |p::r=>by
  rw[Nc];cases e:p.1=k
  .simp only[mQ e,Ja e,Bool.true_or,Option.isSome_some]
  .rw[mG e,ck e,afy];show mx k r
theorem kl(Ki:List (κ×V))(k:κ)(v:V):(putK Ki k v).9<=Ki.9+1:=by
 unfold putK;split
 .rw[si];lia
 .rw[tp,YU,R5];lia
def abG{Ki:List (κ×V)}{k:κ}(v:V)(h:jc Ki k=none):putK Ki k v=Ki++[(k,v)]:=by
 unfold putK;rw[mx,h];show vr az
variable{o:Option V}{u:O0}
def jS.jg(r:jS o u):o.10=u.10:=by
 cases o with
 |none=>cases u with
  |none=>rfl
  |some _=>show(show False from r).elim
 |some _=>cases u with
  |none=>show(show False from r).elim
  |some _=>rfl
theorem jS.getD{d:V}{d':xr}(r:jS o u)(rd:zH d d'):zH (o.getD d) (u.getD d'):=by
 cases o with
 |none=>cases u with
  |none=>show rd
  |some _=>show(show False from r).elim
 |some _=>cases u with
  |none=>show(show False from r).elim
  |some _=>show r
def KV.val{Ki:List (κ×V)}{vs:List (κ×xr)}(r:KV Ki vs)(k:κ):jS (jc Ki k) (XM vs k):=by
 unfold KV at r
 induction r with
 |nil=>show ZI
 | @cons p q ps qs h t G =>
  let#[h1,h2]:=h;cases e:p.1=k
  .let F:q.1=k:=h1.symm.trans e;let b:XM (q::qs) k^q.2:=(by simp[XM,yZ,F]);rw[mQ e,b];show h2
  .let F:¬ q.1=k:=λz=>e (h1.trans z);let b:XM (q::qs) k=XM qs k:=(by simp[XM,yZ,F]);rw[mG e,b];show G
theorem KV.any{Ki:List (κ×V)}{vs:List (κ×xr)}(r:KV Ki vs)(k:κ):(Ki.any λF=>decide (F.1=k))=vs.any λF=>decide (F.1=k):=by
 unfold KV at r
 induction r with
 |nil=>rfl
 |cons h t G=>rw[Nc,Nc,G,h.1]
variable{y:V}{u:xr}
def KV.Of{Ki:List (κ×V)}{vs:List (κ×xr)}(r:KV Ki vs)(k:κ)(G:zH y u) :
  KV (Ki.map λF=>if F.1=k then(F.1,y)else F) (vs.map λF=>if F.1=k then(F.1,u)else F):=by
 unfold KV at r ⊢
 induction r with
 |nil=>show .nil
 | @cons p q ps qs h t I =>
  rw[Y5,Y5];show .cons ?_ I;let#[h1,h2]:=h;cases e:p.1=k
  .rw[C' e,C' (h1.symm.trans e)];show#[h1,G]
  .rw[vr e,vr (λz=>e (h1.trans z))];show#[h1,h2]
def KV.put{Ki:List (κ×V)}{vs:List (κ×xr)}(r:KV Ki vs)(k:κ)(F:zH y u):KV (putK Ki k y) (stored vs k u):=by
 unfold putK stored;rw[r.any k];cases e:(vs.any λG=>decide (G.1=k))=true
 .rw[C' e,C' e];show r.Of k F
 .rw[vr e,vr e];show Paired.snoc r #[rfl,F]
def KV.drop{Ki:List (κ×V)}{vs:List (κ×xr)}(r:KV Ki vs)(k:κ):KV (qB Ki k) (without vs k):=by
 unfold KV at r ⊢;unfold qB without
 induction r with
 |nil=>show .nil
 | @cons p q ps qs h t F =>
  let#[h1,h2]:=h;rw[Up,Up];cases e:p.1=k
  .let a:¬ decide (p.1≠k):=(by simp[e]);let b:¬ decide (q.1≠k):=(by simp[h1.symm.trans e]);rw[vr a,vr b];show F
  .let G:¬ q.1=k:=λz=>e (h1.trans z);let a:decide (p.1≠k):=(by simp[e]);let b:decide (q.1≠k):=(by simp[G]);rw[C' a,C' b];show .cons #[h1,h2] F
def KV.keys{Ki:List (κ×V)}{vs:List (κ×xr)}(r:KV Ki vs):Ki.map (·.1)=vs.map (·.1):=by
 unfold KV at r
 induction r with
 |nil=>rfl
 |cons h t F=>rw[Y5,Y5,F,h.1]
theorem KV.length{Ki:List (κ×V)}{vs:List (κ×xr)}(r:KV Ki vs):Ki.9=vs.9:=Paired.length r
def abJ(Ki:List (κ×V))(k:κ):(qB Ki k).9<=Ki.9:=Zx _ _
end
end
variable{u:xr}
mutual
def nc{k:Key}(r:zH (kV k) u):(cj P w).is k u=true:=by
 cases k with
 |inl i=>let#[t,e]:=(show ∃t,u=Value.int i t from r);subst e;show qAd P w i t
 |inr x=>let#[t,e]:=(show ∃t,u=Value.str x t from r);subst e;show cdv P w x t
theorem tE{P:By}{w:L3}:∀{ks:List Key}{us:WX},Si (ks.map kV) us->ItemsAre (cj P w) ks us
 | [],_,r=>by rwa[map_nil]at r;show .nil
 |k::ks,_,r=>by
  rw[Y5]at r;cases r with
  |cons h t=>show .cons (nc h) (tE t)
abbrev KT(H:Hp):List (List Key×V)->List (List Key×ZX×xr)->Prop:=Paired λp q=>p.1=q.1/\H q.2.1|||(p.1.map kV)/\zH p.2 q.2.2
variable{Ki:List (List Key×V)}{xs:List (List Key×ZX×xr)}
def KT.val(r:KT H Ki xs)(k:List Key):jS (jc Ki k) ((OM xs k).map (·.2)):=by
 induction r with
 |nil=>show ZI
 | @cons p q ps qs h t G =>
  let#[h1,_,h2]:=h;cases e:p.1=k
  .let F:q.1=k:=h1.symm.trans e;let b:OM (q::qs) k^q.2:=(by simp[OM,yZ,F]);rw[mQ e,b];show h2
  .let F:¬ q.1=k:=λz=>e (h1.trans z);let b:OM (q::qs) k=OM qs k:=(by simp[OM,yZ,F]);rw[mG e,b];show G
variable{y:V}
def KT.Of(r:KT H Ki xs)(k:List Key)(I:zH y u) :
  KT H (Ki.map λF=>if F.1=k then(F.1,y)else F) (xs.map (putAt k u)):=by
 induction r with
 |nil=>show .nil
 | @cons p q ps qs h t L =>
  rw[Y5,Y5];show .cons ?_ L;let#[h1,h2,G]:=h;unfold putAt;cases e:p.1=k
  .rw[C' e,C' (h1.symm.trans e)];show#[h1,h2,I]
  .rw[vr e,vr (λz=>e (h1.trans z))];show#[h1,h2,G]
def KT.put(r:KT H Ki xs)(k:List Key){b:ZX}(I:H b|||(k.map kV))(F:zH y u) :
  KT H (putK Ki k y) (storedH xs k b u):=by
 let e:(Ki.any λG=>decide (G.1=k))=(OM xs k).10:=by
  rw[mx,(r.val k).jg,Kx]
 unfold putK storedH;rw[e];cases q:(OM xs k).10=true
 .rw[C' q,C' q];show r.Of k F
 .rw[vr q,vr q];show Paired.snoc r #[rfl,I,F]
def KT.keeps(r:KT H Ki xs)(F:∀b ys,H b|||ys->J b|||ys):KT J Ki xs :=
 Paired.sv r λ_ _ z=>#[z.1,F _ _ z.2.1,z.2.2]
def LG{u:HO}(ok:kY P w H h)(e:Rd H a u):cz P w H h a u:=e.ok ok
variable{Ki:nI}
def nv(ok:kY P w H h)(e:Rd H a (.dK Ki)):Ki.9<=yr/\(a==yh)=false/\∃vs,KV Ki vs/\h.DictOf (cj P w) a vs :=
 show cz P w H h a (.dK Ki)from LG ok e
def xw(ok:kY P w H h)(e:H a^^^Ki):Ki.9<=yr/\(a==yh)=false/\∃vs,KV Ki vs/\h.DictOf (cj P w) a vs:=nv ok (.inl e)
def lT{ks:List Key}(ok:kY P w H h)(e:H a|||(ks.map kV)):(B8 (cj P w)).is h ks a:=by
 let#[_,XO,r,o,h1,h2,n,F]:=(show cz P w H h a (.tup (ks.map kV))from ok a _ e);show#[o,XO.8,n,h1,h2,F,by simpa using tE r]
variable{Ki:List (List Key×V)}
def pC(ok:kY P w H h)(e:Rd H a (.dT Ki)):Ki.9<=yr/\(a==yh)=false /\
  ∃xs,KT H Ki xs/\h.DictOfH (B8 (cj P w)) a xs:=by
 let#[z,y,xs,r,o,es,ep,h1,h2,G,L,U]:=(show cz P w H h a (.dT Ki)from LG ok e);show#[z,y,xs,r,o,es,ep,h1,h2,G,L,123,U];let all:∀{l:List (List Key×V)}{m:List (List Key×ZX×xr)},KT H l m->∀x∈m,(B8 (cj P w)).is h x.1 x.2.1:=by
  intro l m q
  induction q with
  |nil=>intro x hx;show nomatch hx
  | @cons p q ps qs F t I =>
   intro x hx;obtain e|hx:=Yu.mp hx
   .subst e;show lT ok (by rw[<-F.1];show F.2.1)
   .show I x hx
 show all r x hx
def abR(ok:kY P w H h)(e:H a^.dT Ki):Ki.9<=yr/\(a==yh)=false /\
  ∃xs,KT H Ki xs/\h.DictOfH (B8 (cj P w)) a xs:=pC ok (.inl e)
def gj(H:Hp)(a:ZX)(y:V)(r:Option V):Prop :=
 (∃Ki k,Rd H a (.dK Ki)/\y=kV k/\r=jc Ki k)\/∃Ki k b,Rd H a (.dT Ki)/\y=.ref b/\H b|||(k.map kV)/\r=jc Ki k
def jX(H:Hp)(a:ZX)(y v:V)(J:Hp):Prop :=
 (∃Ki k,H a^^^Ki/\y=kV k/\Ki.9<yr/\J=QZ H a (.dK (putK Ki k v))) \/
 ∃Ki k b,H a^.dT Ki/\y=.ref b/\H b|||(k.map kV)/\Ki.9<yr/\J=QZ H a (.dT (putK Ki k v))
variable{Ki:nI}
theorem gj.k{k:Key}(e:H a^^^Ki):gj H a (kV k) (jc Ki k):=.inl #[Ki,k,.inl e,1]
theorem jX.k{k:Key}{v:V}(e:H a^^^Ki)(F:Ki.9<yr):jX H a (kV k) v (QZ H a (.dK (putK Ki k v))):=.inl #[Ki,k,e,rfl,F,rfl]
end
section
def Inv.big(I:!H s):yh<s.13:=by
 let h:YF<s.13:=(I.mod.glob.keeps I.bk).lt;show fE az h
variable{v:V}{Q:gJ}
def tJ(hu:A.units+1<ff)(I:!H s)(g:gj H a y (some v))(Z:zH y u)(h:∀F s',!H s'->zH v F->Q F s') :
  wpAny X.16 A (Me (.ref a) u) Q E s:=by
 rcases g with⟨Ki,k,e,Y,l⟩|⟨Ki,k,b,e,Y,eb,l⟩
 .subst Y;let#[z,hd,vs,L,dd]:=nv I.bK e;let#[F,G,U]:=jS.some_of (v:=v) (o:=XM vs k) (L.val k<*l);show wpAny_getItem_of (nc Z) dd.mapOf G (h F _ (I.tok _) U)
 .subst Y;cases(show u=Value.ref b from Z);let#[z,hd,xs,L,dd]:=pC I.bK e;let#[F,G,U]:=jS.some_of (v:=v) (o:=(OM xs k).map (·.2)) (L.val k<*l);let#[p,hp,ab]:=NC.mp G;show wpAny_getItem_heap (Z6 hu) (lT I.bK eb) dd hp ?_;rw[ab];show h F _ (I.tok _) U
variable{o:Option V}
def acw(U:A.units+1<ff)(I:!H s)(g:gj H a y o)(L:zH y u)(h:∀s',!H s'->Q (.bool o.10) s') :
  wpAny X.16 A (Zp .In u (.ref a)) Q E s:=by
 rcases g with⟨Ki,k,e,G,l⟩|⟨Ki,k,b,e,G,Y,l⟩
 .subst G;let#[z,hd,vs,F,dd]:=nv I.bK e;show wpAny_in_of (nc L) hd dd.mapOf ?_;rw[<-(F.val k).jg, <-l];show h _ (I.tok _)
 .subst G;cases(show u=Value.ref b from L);let#[z,hd,xs,F,dd]:=pC I.bK e;show wpAny_in_heap (Z6 U) (lT I.bK Y) hd dd ?_;let q:=(F.val k).jg;rw[Kx]at q;rw[<-q, <-l];show h _ (I.tok _)
def acx(U:A.units+1<ff)(I:!H s)(g:gj H a y o)(L:zH y u)(h:∀s',!H s'->Q (.bool (!o.10)) s') :
  wpAny X.16 A (Zp .NotIn u (.ref a)) Q E s:=by
 rcases g with⟨Ki,k,e,G,l⟩|⟨Ki,k,b,e,G,Y,l⟩
 .subst G;let#[z,hd,vs,F,dd]:=nv I.bK e;show wpAny_notIn_of (nc L) hd dd.mapOf ?_;rw[<-(F.val k).jg, <-l];show h _ (I.tok _)
 .subst G;cases(show u=Value.ref b from L);let#[z,hd,xs,F,dd]:=pC I.bK e;show wpAny_notIn_heap (Z6 U) (lT I.bK Y) hd dd ?_;let q:=(F.val k).jg;rw[Kx]at q;rw[<-q, <-l];show h _ (I.tok _)
def pY{t':Nat}{F:HO}(I:!H s)(Y:Q0 (H a))(hs:Heap.SameBut a s.heap h')(L:∃q,h'.get? a^q)(G:cz X.prog X.w (QZ H a F) h' a F) :
 !(QZ H a F) { s with heap:=h',toks:=t' }:=
 I.write (x:=a) (e:=a) Y (.inl rfl) (λb q U z=>(hs.2 b U).trans z) L G
def yx{vs:List (Key×xr)}(z:Ki.9<=yr)(hd:(a==yh)=false)(F:KV Ki vs)(dd:h'.DictOf (cj P w) a vs) :
  cz P w J h' a (.dK Ki):=#[z,hd,vs,F,dd]
theorem tH{r:xr}{Q:Unit->ti->Prop}(hu:A.units+1<ff)(I:!H s)(g:jX H a y v J)(ry:zH y u)(rv:zH v r)(h:∀s',!J s'->Q () s') :
  wpAny X.16 A (setItem (.ref a) u r) Q E s:=by
 rcases g with⟨Ki,k,e,ey,l,U⟩|⟨Ki,k,b,e,ey,eb,l,U⟩
 .subst ey U;let#[z,hd,vs,F,dd]:=xw I.bK e;let Y:vs.9<=yr:=(by rw[<-F.9];show z);let Z:(putK Ki k v).9<=yr:=(by have:=kl Ki k v;lia);show wpAny_setItem_pairs (hsz:=Y) (nc ry) dd λh' L hs=>h _ ?_;let he:∃q,h'.get? a^q:=let ⟨q,_,_,G,_⟩:=L;#[q,G];show pY I (ZI<*e) hs he (yx Z hd (F.put k rv) L)
 .subst ey U;cases(show u=Value.ref b from ry);let#[z,hd,xs,F,dd]:=abR I.bK e;let Y:xs.9<=yr:=(by rw[<-Paired.length F];show z);let Z:(putK Ki k v).9<=yr:=(by have:=kl Ki k v;lia);show wpAny_setItem_heap (hsz:=Y) (Z6 hu) (lT I.bK eb) dd λh' L hs=>h _ ?_;let#[q,es,ep,G,h2,h3,h4,_,h5]:=L;show pY I (ZI<*e) hs #[q,G] #[Z,hd,_,(F.put k eb rv).keeps λc ys ec=>?_,q,es,ep,G,h2,h3,h4,h5];rw[au (tj ec e (λz=>nomatch z))];show ec
variable{Ki:nI}{k:Key}
def acE{G:WX}(I:!H s)(e:H a^^^Ki)(Y:zH (kV k) u)(l:jc Ki k^v)(Z:G=[]\/∃x,G=[x])
  (h:∀L s',!(QZ H a (.dK (qB Ki k))) s'->zH v L->Q L s'):wpAny X.16 A (call (.builtin "dict.pop") (.ref a::u::G)) Q E s:=by
 let#[z,hd,vs,U,dd]:=xw I.bK e;let#[L,hw,ac]:=jS.some_of (v:=v) (o:=XM vs k) (by rw[<-l];show U.val k);let hp:(keyPart u).10=true:=by
  cases k with
  |inl i=>let#[t,q]:=(show ∃t,u=Value.int i t from Y);subst q;rfl
  |inr x=>let#[t,q]:=(show ∃t,u=Value.str x t from Y);subst q;rfl
 let ha:argsOk "dict.pop" #[.ref a::u::G,[]]:=by
  obtain q|⟨x,q⟩:=Z
  .subst q;show PySem.F.args_dict_pop_2 _ _
  .subst q;show PySem.F.args_dict_pop_3 _ _ _
 show L1 adA dd.typeIs PySem.F.entry_dict_pop ha (meets_dict_pop_there (cj X.prog X.w) a (nc Y) G Z hp)
  #[vs,L,dd,by rw[<-U.9];show z,hw,λh' ab hs=>h L _ ?_ ac]
 let he:∃q,h'.get? a^q:=let ⟨q,_,_,hq,_⟩:=ab;#[q,hq];show pY I (ZI<*e) hs he (yx (Oi (abJ Ki k) z) hd (U.drop k) ab)
theorem acP(I:!H s)(e:Rd H a (.dK Ki))(h:∀t s',!H s'->Q (.int Ki.9 t) s'):wpAny X.16 A (call (.builtin "len") [.ref a]) Q E s:=by
 let#[z,hd,vs,F,dd]:=nv I.bK e;show call_len_dict hd dd (by rw[<-F.9];rw[HC]at z;lia) ?_;rw[<-F.9];show h _ _ (I.tok _)
end
mutual
def Rr(i:YD):=∀ov F,U1 i false ov F=operate [ov,F] (Me ov F)
variable{value:YD}{Q:gJ}
def ac1{prog:By}{G:YD}{T id:String}
  (Z:typeLookup (.type T) "__getitem__" = pure (some (.builtin id))) (hs:Rr G)
  (h:wpAny w.16 A (eval value env) (λo U=>wpAny w.16 A (eval G env) (λi F=>F.TypeIs o T/\wpAny w.16 A (Me o i) Q E F) E U) E s) :
  wpAny w.16 A (eval (.Subscript value G Yb) env) Q E s:=by
 show BB (YK h (λo U h₁=>YK h₁ (λi F I=>?_) λ_ _ x=>x) λ_ _ x=>x);let#[Y,I]:=I;unfold Kg;show yl ?_;rw[getitemInPython_of_ne Y.not_modules];show yl (wpAny_specialOf Y Z ?_);let fin:wpAny w.16 A (U1 G false o i) (λr L=>wpAny w.16 A (letTemporaryGo value o r>>=λ_=>pure r) Q E L) E F:=by
  rw[hs o i];show wpAny_operating (YK I (λr L ab=>yl (wpAny_letTemporaryGo (wpAny_pure ab))) λ_ _ x=>x)
 first
  |show wpAny_pure (yl fin)
  |show yl (wpAny_pure (yl fin))
  |show yl fin
def aaY{o:Option V}(I:!H s)(g:gj H a y o):s.TypeIs (.ref a) "dict" := by
 rcases g with⟨Ki,k,e,_,_⟩|⟨Ki,k,b,e,_,_,_⟩
 .let#[_,_,vs,_,dd]:=nv I.bK e;show dd.typeIs
 .let#[_,_,xs,_,dd]:=pC I.bK e;show dd.typeIs
inductive acs(td ty:TE)(Q:VK)(x y:V)(H2:Hp):Prop
 |mk(a v:_)(_:x=.ref a)(_:gj H2 a y (some v))(_:Q v H2)
def acu(td ty:TE):TE:=λσ H Q=>td σ H λx H1=>ty σ H1 λy H2=>acs td ty Q x y H2
inductive acA(ty td:TE)(Q:VK)(y x:V)(H2:Hp):Prop
 |mk(a o:_)(_:x=.ref a)(_:gj H2 a y o)(_:Q (.bl o.10) H2)
def adI(ty td:TE):TE:=λσ H Q=>ty σ H λy H1=>td σ H1 λx H2=>acA ty td Q y x H2
inductive adL(ty td:TE)(Q:VK)(y x:V)(H2:Hp):Prop
 |mk(a o:_)(_:x=.ref a)(_:gj H2 a y o)(_:Q (.bl (!o.10)) H2)
def aek(ty td:TE):TE:=λσ H Q=>ty σ H λy H1=>td σ H1 λx H2=>adL ty td Q y x H2
def ael(td ty tv:TE):TS:=λD σ H=>tv σ H λv H1=>td σ H1 λx H2=>ty σ H2 λy G=>Dh λa F=>tD (x=.ref a) (jX G a y v F) (D.nx σ F)
def aeE(td ty tv:TE)(rd:V->V->Hp->VK->Prop):TS:=λD σ H=>td σ H λx H1=>ty σ H1 λy H2=>Dh λa v=>tD (x=.ref a) (gj H2 a y (some v)) (tv σ H2 λL I=>rd v L I λz G=>∃F,jX G a y z F/\D.nx σ F)
variable{o i:YD}{td ty:TE}
def dm(hu:X.A.units+1<ff)(ho:PE X o td)(hi:PE X i ty)(hs:Rr i):PE X (.Subscript o i Yb) (acu td ty):=by
 intros Q I h;show ac1 PySem.F.slot_dict_getitem.lookup hs (b9 (ho Cr s σ H _ I h) λu s1 ac=>?_);let#[x,H1,L,rx,Z]:=ac;show b9 (hi Cr s1 σ H1 _ L Z) λiv s2 ab=>?_;let#[y,H2,G,ry,a,v,ex,g,q2]:=ab;subst ex;obtain rfl:u=Value.ref a:=rx;show#[aaY G g,tJ hu G g ry λw' s3 U Y=>#[v,H2,U,Y,q2]]
def aeQ(G:X.A.units+1<ff)(hi:PE X i ty)(F:PE X o td):PC X .In i o (adI ty td):=by
 intros Q I h;show b9 (hi Cr s σ H _ I h) λiv L ac=>?_;let#[y,H1,Z,Y,q1]:=ac;show b9 (F Cr L σ H1 _ Z q1) λu s2 ab=>?_;let#[x,H2,I2,U,a,ov,ex,g,q2]:=ab;subst ex;obtain rfl:u=Value.ref a:=U;show acw G I2 g Y λs3 I3=>#[.bl ov.10,H2,I3,rfl,q2]
def aaS(L:X.A.units+1<ff)(hi:PE X i ty)(G:PE X o td):PC X .NotIn i o (aek ty td):=by
 intros Q I h;show b9 (hi Cr s σ H _ I h) λiv U ab=>?_;let#[y,H1,I1,Z,q1]:=ab;show b9 (G Cr U σ H1 _ I1 q1) λu s2 F=>?_;let#[x,H2,I2,Y,a,ov,ex,g,q2]:=F;subst ex;obtain rfl:u=Value.ref a:=Y;show acx L I2 g Z λs3 I3=>#[.bl (!ov.10),H2,I3,rfl,q2]
variable{tv:TE}
def qAe{pos':Pos}(hu:X.A.units+1<ff)(ho:PE X o td)(hi:PE X i ty)(hv:PE X value tv)(hs:CC value (some (.Subscript o i pos')) Yb.line X.env=pure false) :
  PS X (.Assign [.Subscript o i pos'] value Yb) (ael td ty tv):=by
 intros D I h;show wpAny_Assign_Subscript (b9 (hv Cr s σ H _ I h) λr s1 ac=>?_) hs;let#[v,H1,L,rv,q1]:=ac;show b9 (ho Cr s1 σ H1 _ L q1) λu Z G=>?_;let#[x,H2,I2,rx,q2]:=G;show b9 (hi Cr Z σ H2 _ I2 q2) λiv s3 ab=>?_;let#[y,H3,U,ry,a,Y,ex,g,q3]:=ab;subst ex;obtain rfl:u=Value.ref a:=rx;show tH hu U g ry rv λs4 F=>#[σ,Y,F,q3]
def aeR{tpos:Pos}{Y:IG}{rd:V->V->Hp->VK->Prop}(L:X.A.units+1<ff)(ho:PE X o td)(hi:PE X i ty)(hv:PE X value tv)(ab:IQ X Y rd)
  (ha:∀ov F G,augStore i ov F G=(do y7 [G,ov,F] (setItem ov F G);release [G,ov,F] [];pure .next)):PS X (.AugAssign (.Subscript o i tpos) Y value Yb) (aeE td ty tv rd):=by
 intros D I h;show wpAny_AugAssign_SubscriptAny (b9 (ho Cr s σ H _ I h) λu s1 ap=>?_) ha;let#[x,H1,I1,rx,q1]:=ap;show b9 (hi Cr s1 σ H1 _ I1 q1) λF s2 as=>?_;let#[y,H2,I2,U,a,v,ex,g,q2]:=as;subst ex;obtain rfl:u=Value.ref a:=rx;show tJ L I2 g U λw' s3 I3 ac=>b9 (hv Cr s3 σ H2 _ I3 q2) λw2 Z ad=>?_;let#[y2,H3,I4,ar,q3]:=ad;show b9 (ab Cr Z σ H3 v y2 w' w2 _ I4 ac ar q3) λw3 s5 am=>?_;let#[z,H4,I5,rz,H5,g5,q4]:=am;show tH L I5 g5 U rz λs6 I6=>#[σ,H5,I6,q4]
def wU(h:Heap)(F:yh<h.objs.3):cz P w H (h.push { cls:=.type "dict",data:=.dict ([].8) }) h.objs.3 (.dK []):=
 #[Zy _,beq_eq_false_iff_ne.mpr (oR (Za F)),[],.nil,Heap.DictOf.new h]
def afd:TE:=λ_ H Q=>∀p,H p=none->Q (.ref p) (QZ H p (.dK []))
def j6:PE X (.Dict [] [] Yb) afd:=λCr s σ H Q I h =>
 wpAny_Dict_empty #[138,I.laid (a:=s.13) (o:=.dK []) (t':=s.toks) (λ_ _ q=>aV _ q) (BY _) (wU s.heap I.big),rfl,h _ (I.bK.fresh (BY _))]
def zd:List (TE×TE)->St->Hp->(List (V×V)->Hp->Prop)->Prop
 | [],_,H,Q=>Q [] H
 |(tk,tv)::r,σ,H,Q=>tk σ H λx H1=>tv σ H1 λy H2=>zd r σ H2 λps F=>Q ((x,y)::ps) F
abbrev VV:List (V×V)->List (xr×xr)->Prop:=Paired λp q=>zH p.1 q.1/\zH p.2 q.2
def Th(X:Cx)(Yb:Pos)(keys:List (Option YD))(values:fK)(F:List (TE×TE)):=
 ∀(Cr:Jr)(s:ti)(σ:St)(H:Hp)(Q:List (V×V)->Hp->Prop),!H s->zd F σ H Q ->
  ↑(evalPairs (pairTrees keys values X.env Yb)) (λvs s'=>∃ps J,!J s'/\VV ps vs/\Q ps J) X.xe s
def qv:Th X Yb [] [] []:=λCr s σ H Q I h=>pairTrees_nil_walk #[[],H,I,.nil,h]
variable{F:List (TE×TE)}
def abD{k:YD}{ks:List (Option YD)}{tk:TE}(hk:PE X k tk)(hv:PE X v tv)(hr:Th X Yb ks vs F) :
  Th X Yb (some k::ks) (v::vs) ((tk,tv)::F):=λCr s σ H Q I h =>
 pairTrees_cons_walk (b9 (hk Cr s σ H _ I h) λu s1 ⟨x,H1,L,rx,q1⟩=>b9 (hv Cr s1 σ H1 _ L q1) λw2 Z ⟨y,H2,I2,ry,q2⟩ =>
  b9 (hr Cr Z σ H2 _ I2 q2) λws s3 G=>by let#[ps,U,Y,ab,q3]:=G;show#[(x,y)::ps,U,Y,.cons #[rx,ry] ab,q3])
noncomputable def eI(Ki G:nI):List (Key×V):=G.foldl (λI F=>putK I F.1 F.2) Ki
def KV.merge:∀{F:nI}{rs:List (Key×xr)}{Ki:nI}{vs:List (Key×xr)},KV F rs->KV Ki vs->KV (eI Ki F) (merged vs rs):=by
 intro F rs Ki vs r;unfold KV at r
 induction r generalizing Ki vs with
 |nil=>intro q;show q
 | @cons p q ps qs h t G =>
  intro I;let e:KV (putK Ki p.1 p.2) (stored vs q.1 q.2):=by
   have:=I.put p.1 h.2;rw[<-h.1];show this
  show G e
theorem lE:∀(F Ki:nI),(eI Ki F).9<=Ki.9+F.9
 | [],Ki=>by change Ki.9<=Ki.9+0;lia
 |p::r,Ki=>by
  let h1:=lE r (putK Ki p.1 p.2);let h2:=kl Ki p.1 p.2;change(eI (putK Ki p.1 p.2) r).9<=_;rw[YU];lia
theorem qK{P:By}{w:L3}:∀{Ki:nI}{ws:List (xr×xr)},VV (Ki.map λF=>(kV F.1,F.2)) ws->∃rs,Carries (cj P w) ws rs/\KV Ki rs
 | [],_,r=>by rwa[map_nil]at r;show#[[],ZI,.nil]
 |p::Ki,_,r=>by
  rw[Y5]at r;cases r with
  | @cons a b L bs h t =>
   let#[rs,c,q]:=qK (P:=P) (w:=w) t;let#[I,G]:=b;show#[(p.1,G)::rs,#[nc h.1,rfl,c],.cons #[rfl,h.2] q]
def aft(G:List (TE×TE)):TE:=λσ H Q=>∀p,H p=none->zd G σ (QZ H p (.dK [])) λps H2=>H2 p^^^[]/\∃Ki:List (Key×V),ps=Ki.map (λF=>(kV F.1,F.2))/\Ki.9<=15/\Q (.ref p) (QZ H2 p (.dK (eI [] Ki)))
theorem pZ{keys:List (Option YD)}{values:fK}(h:Th X Yb keys values F)(am:keys.all (·.isSome))(hl:keys.9=values.9)(U:keys≠[])
  (ab:keys.9<=15):PE X (.Dict keys values Yb) (aft F):=by
 intros Q I q;let hn:=I.bK.fresh (BY s.13);let Y:=I.laid (a:=s.13) (o:=.dK []) (h':=s.heap.push { cls:=.type "dict",data:=.dict ([].8) }) (t':=s.toks) (λ_ _ q=>aV _ q) (BY _) (wU s.heap I.big);show wpAny_Dict_walk (knd:=cj X.prog X.w) am hl U ab (b9 (h Cr _ σ _ _ Y (q _ hn)) λws s2 ac=>?_);let#[ps,H2,G,ad,e,Ki,ep,lk,q2]:=ac;subst ep;let#[rs,c,rk]:=qK (P:=X.prog) (w:=X.w) ad;let#[z,hd,ap,r0,dd]:=xw G.bK e;cases r0;show#[rs,c,dd,λh' L hs=>#[138,97,q2]];let hz:(eI [] Ki).9<=yr:=by
  let h1:=lE Ki [];rw[R5]at h1;rw[HC];lia
 let he:∃q,h'.get? s.13^q:=let ⟨q,_,_,Z,_⟩:=L;#[q,Z];show pY G (ZI<*e) hs he (yx hz hd (rk.merge .nil) L)
structure M1(X:Cx)(o:YD)(m:Str)(apos:Pos)(e:YD)(cpos:Pos):Prop where
 base:Rt o m X.env (eval o X.env)=eval o X.env
 SF:((backTo cpos (starEach [e] X.env)).all (λx => !x.1)&&(Xz cpos (KU [] X.env)).all (λx=>x.1.10)
  && decide (([e]:fK).9+([]:List Ce).9+(if ([]:List Ce).isEmpty then 0 else 1)<30))=true
 line:(apos.endLine==cpos.line)=true
 trees:backTo cpos (starEach [e] X.env)=[(false,eval e X.env)]
structure M2(X:Cx)(o:YD)(m:Str)(apos:Pos)(e f:YD)(cpos:Pos):Prop where
 base:Rt o m X.env (eval o X.env)=eval o X.env
 SF:((backTo cpos (starEach [e,f] X.env)).all (λx => !x.1)&&(Xz cpos (KU [] X.env)).all (λx=>x.1.10)
  && decide (([e,f]:fK).9+([]:List Ce).9+(if ([]:List Ce).isEmpty then 0 else 1)<30))=true
 line:(apos.endLine==cpos.line)=true
 trees:backTo cpos (starEach [e,f] X.env)=[(false,eval e X.env),(false,eval f X.env)]
def SR(H:Hp)(a:ZX):Prop:=(∃Ki,Rd H a (.dK Ki))\/∃Ki,Rd H a (.dT Ki)
def zl(I:!H s)(d:SR H a) :
  s.TypeIs (.ref a) "dict" /\ (∀b,Value.ref a=.ref b->∃F,s.heap.get? b^F/\F.dict=none)/\(a==yh)=false:=by
 rcases d with⟨Ki,e⟩|⟨Ki,e⟩
 .let#[_,hd,vs,_,dd]:=nv I.bK e;show#[dd.typeIs,λb q=>?_,hd];cases q;let#[F,_,_,h1,h2,_]:=dd;show#[F,h1,h2.2.1]
 .let#[_,hd,xs,_,dd]:=pC I.bK e;show#[dd.typeIs,λb q=>?_,hd];cases q;let#[F,_,_,h1,h2,_]:=dd;show#[F,h1,h2.2.1]
variable{o:Option V}
def abh(Z:A.units+1<ff)(I:!H s)(g:gj H a y o)(Y:zH y u)(h:∀U s',!H s'->zH (o.getD .bu) U->Q U s') :
  wpAny X.16 A (call (.builtin "dict.get") [.ref a,u]) Q E s:=by
 rcases g with⟨Ki,k,e,L,l⟩|⟨Ki,k,b,e,L,eb,l⟩
 .subst L;let#[z,hd,vs,G,dd]:=nv I.bK e;show L1 yI dd.typeIs Kl (acV _ _) (meets_dict_get (cj X.prog X.w) a (nc Y) hd) #[_,dd.mapOf,70];rw[l];show(G.val k).getD rfl
 .subst L;cases(show u=Value.ref b from Y);let#[z,hd,xs,G,dd]:=pC I.bK e;show L1 yI dd.typeIs Kl (acV _ _) (meetsH_dict_get (B8 (cj X.prog X.w)) a b hd) #[Z6 Z,k,xs,lT I.bK eb,dd,70];rw[l];show(G.val k).getD rfl
def abn{d:V}{r:xr}(Z:A.units+1<ff)(I:!H s)(g:gj H a y o)(Y:zH y u)(rd:zH d r)(h:∀U s',!H s'->zH (o.getD d) U->Q U s') :
  wpAny X.16 A (call (.builtin "dict.get") [.ref a,u,r]) Q E s:=by
 rcases g with⟨Ki,k,e,L,l⟩|⟨Ki,k,b,e,L,eb,l⟩
 .subst L;let#[z,hd,vs,G,dd]:=nv I.bK e;show L1 yI dd.typeIs Kl (acW _ _ _) (meets_dict_get_default (cj X.prog X.w) a (nc Y) hd r) #[_,dd.mapOf,70];rw[l];show(G.val k).getD rd
 .subst L;cases(show u=Value.ref b from Y);let#[z,hd,xs,G,dd]:=pC I.bK e;show L1 yI dd.typeIs Kl (acW _ _ _) (meetsH_dict_get_default (B8 (cj X.prog X.w)) a b hd r) #[Z6 Z,k,xs,lT I.bK eb,dd,70];rw[l];show(G.val k).getD rd
inductive zL(td ty:TE)(σ:St)(Q:VK)(x:V)(H1:Hp):Prop
 |mk (a:_) (_:x=.ref a) (_:SR H1 a) (_:ty σ H1 λy H2=>∃o,gj H2 a y o/\Q (o.getD .bu) H2):zL td ty σ Q x H1
def acy(td ty:TE):TE:=λσ H Q=>td σ H λx H1=>zL td ty σ Q x H1
inductive AU(td ty tx:TE)(σ:St)(Q:VK)(x:V)(H1:Hp):Prop
 |mk (a:_) (_:x=.ref a) (_:SR H1 a) (_:ty σ H1 λy H2=>tx σ H2 λz H3=>∃o,gj H3 a y o/\Q (o.getD z) H3):AU td ty tx σ Q x H1
def acz(td ty tx:TE):TE:=λσ H Q=>td σ H λx H1=>AU td ty tx σ Q x H1
inductive zM(td ty:TE)(σ:St)(Q:VK)(x:V)(H1:Hp):Prop
 |mk (a:_) (_:x=.ref a) (_:SR H1 a) (_:ty σ H1 λy H2=>∃Ki k v,H2 a^^^Ki/\y=kV k/\jc Ki k^v/\Q v (QZ H2 a (.dK (qB Ki k)))):zM td ty σ Q x H1
def acQ(td ty:TE):TE:=λσ H Q=>td σ H λx H1=>zM td ty σ Q x H1
end
section
variable{o e:YD}{apos cpos:Pos}
def acR(hu:X.A.units+1<ff)(ho:PE X o td)(he:PE X e ty)(m:M1 X o "get" apos e cpos):PE X (.Call (.Attribute o "get" apos) [e] [] cpos) (acy td ty):=by
 intros Q I h;show LI m.base m.SF m.line PX yI adB (b9 (ho Cr s σ H _ I h) λu s1 L=>?_);let#[x,H1,G,rx,a,ex,d,Z]:=L;subst ex;obtain rfl:u=Value.ref a:=rx;let#[t1,t2,_]:=zl G d;show#[t1,t2,?_];rw[m.trees];show Calls.callWith_builtin rfl (Calls.evalArgs_plain (Calls.spliced_cons (b9 (he Cr s1 σ H1 _ G Z) λiv s2 ab=>?_)));let#[y,H2,I2,ry,ov,g,q2]:=ab;show Calls.spliced_nil ?_;show abh hu I2 g ry λw' s3 U Y=>#[_,H2,U,Y,q2]
def acT{f:YD}{tx:TE}(hu:X.A.units+1<ff)(ho:PE X o td)(he:PE X e ty)(hf:PE X f tx)(m:M2 X o "get" apos e f cpos):PE X (.Call (.Attribute o "get" apos) [e,f] [] cpos) (acz td ty tx):=by
 intros Q I h;show LI m.base m.SF m.line PX yI adB (b9 (ho Cr s σ H _ I h) λu s1 L=>?_);let#[x,H1,G,rx,a,ex,d,q1]:=L;subst ex;obtain rfl:u=Value.ref a:=rx;let#[t1,t2,_]:=zl G d;show#[t1,t2,?_];rw[m.trees];show Calls.callWith_builtin rfl (Calls.evalArgs_plain (Calls.spliced_cons (b9 (he Cr s1 σ H1 _ G q1) λiv s2 ⟨y,H2,I2,ry,q2⟩ =>
  Calls.spliced_cons (b9 (hf Cr s2 σ H2 _ I2 q2) λfv s3 ⟨z,Y,Z,rz,ov,g,q3⟩=>Calls.spliced_nil ?_))))
 show abn hu Z g ry rz λw' s4 U ab=>#[_,Y,U,ab,q3]
def aaA(ho:PE X o td)(he:PE X e ty)(m:M1 X o "pop" apos e cpos):PE X (.Call (.Attribute o "pop" apos) [e] [] cpos) (acQ td ty):=by
 intros Q I h;show LI m.base m.SF m.line PX adA PySem.F.type_dict_pop (b9 (ho Cr s σ H _ I h) λu s1 ac=>?_);let#[x,H1,G,rx,a,ex,d,Y]:=ac;subst ex;obtain rfl:u=Value.ref a:=rx;let#[t1,t2,_]:=zl G d;show#[t1,t2,?_];rw[m.trees];show Calls.callWith_builtin rfl (Calls.evalArgs_plain (Calls.spliced_cons (b9 (he Cr s1 σ H1 _ G Y) λiv s2 ab=>?_)));let#[y,H2,Z,ry,Ki,k,v,ea,ey,l,q2]:=ab;show Calls.spliced_nil ?_;subst ey;show acE Z ea ry l (.inl rfl) λw' s3 L U=>#[v,_,L,U,q2]
def adn:cM X (.builtin "len") (λxs H Q=>∃a Ki,xs=[V.ref a]/\H a^^^Ki/\Q (.int Ki.9) H):=by
 intros xs us Q I r h;let#[a,Ki,rfl,F,q]:=h;let#[u,rfl,ru]:=vals1 r;cases ru;show acP I (.inl F) λt s' G=>#[.int Ki.9,H,G,#[t,rfl],q]
variable{κ:Type}[DecidableEq κ]{k:Key}{r:xr}{d:V}
variable{o:Obj}
def Inv.swap{u w:HO}(I:!H s)(h:H a^u)(h1:∀o F,X.H₀ a≠some (.frz o F))(h2:∀xs,u≠.tup xs)(Y:∀ps,u≠.tbl ps)(h4:∀x,u≠.own x)(Z:cz X.prog X.w (QZ H a w) s.heap a w):!(QZ H a w) s:=by
 let ne:∀b,H b=none->b≠a:=λb q z=>(q*>[z,h]);show#[46,#[I.base.keep,I.base.slot,λb o q nn hx=>?_,I.base.there,λb xs q=>?_,λb o F q=>?_,λb ps q=>?_],I.loc,I.cell,?_,λy c q=>?_,λp U=>?_,λb v q=>?_,I.len]
 .let z:=I.base.free b o q nn hx;rw[au (ne b z)];show z
 .let z:=I.base.qF b xs q;rw[au (λe=>h2 xs (by rw[e,h]at z;show OR z))];show z
 .let z:=I.base.pV b o F q;rw[au (λe=>h1 o F (by rw[<-e];show q))];show z
 .let#[L,z]:=I.base.qJ b ps q;show#[L,z<*au (λe=>Y _ (by rw[e,h]at z;show OR z))]
 .rw[au (ne _ I.free)];show I.free
 .rw[au (ne _ (I.iy y c q))];show I.iy y c q
 .let#[a1,a2,a3]:=I.pin p U;show#[a1,a2<*au (ne _ a2),a3]
 .cases G:b=a
  .subst G;rwa[ag]at q;show Z
  .rw[au G]at q;show(I.bK b v q).iW (λ_ _ _ z=>z) (λc z=>z<*au (λe=>h4 b (by rw[e,h]at z;show OR z))) λc xs z=>by rw[au (λe=>h2 xs (by rw[e,h]at z;show OR z))];show z
def Inv.freeze(I:!H s)(h:H a^^^Ki)(F:s.heap.get? a^o)(h1:∀o G,X.H₀ a≠some (.frz o G)):!(QZ H a (.frz o (.dK Ki))) s :=
 I.swap h h1 (λ_ z=>nomatch z) (λ_ z=>nomatch z) (λ_ z=>nomatch z) #[F,(show cz X.prog X.w H s.heap a (.dK Ki)from I.bK a _ h)]
def Inv.Qr(I:!H s)(h:H a^.frz o (.dK Ki))(h1:∀o F,X.H₀ a≠some (.frz o F)):!(QZ H a (.dK Ki)) s :=
 I.swap h h1 (λ_ z=>nomatch z) (λ_ z=>nomatch z) (λ_ z=>nomatch z) (show cz X.prog X.w H s.heap a (.frz o (.dK Ki))from I.bK a _ h).2
end
mutual
def Pu(o:Obj):Nat:=match o.data with
 |.dict _ ep=>ep
 |_=>0
noncomputable def SM(a:ZX)(o:Obj)(Ki:nI):It :=
 #[λi H=>H a^.frz o (.dK Ki)/\i<Ki.9,λi H x J=>J=H/\∃k v,Ki[i]?^(k,v)/\x=kV k,λi H=>H a^.frz o (.dK Ki)/\Ki.9<=i]
def DH{k:Key}(h:(cj P w).is k u=true):zH (kV k) u:=by
 rcases cT (show rJ k u from h)with⟨i,t,rfl,rfl⟩|⟨x,t,rfl,rfl⟩
 .show#[t,rfl]
 .show#[t,rfl]
variable{o:Obj}
def G5(ok:kY P w H h)(e:H a^.frz o (.dK Ki)):(a==yh)=false/\∃vs,KV Ki vs/\h.DictAt (cj P w) a vs (Pu o):=by
 let#[F,_,hd,vs,r,o',es,ep,h1,h2,G,I]:=(show cz P w H h a (.frz o (.dK Ki))from ok a _ e);rwa[F]at h1;let L:Pu o=ep:=(by unfold Pu;rw[G]);show#[hd,vs,r,o,es,F,h2,G<*L,I]
variable{tg:YD}
def aeU(a it:ZX)(ar:a≠it)(o:Obj)(Ki:nI):Turn P w K tg (SM a o Ki) [it] it (λi h=>h.IsKeyIter it a i Ki.9 (Pu o)) where
 mem:=by simp
 obj:=λi h st b F=>by
  let e:b=it:=‹F›;subst e;let#[ob,h1,_,h3]:=st;show#[ob,h1,λv z=>by rwa[h3]at z]
 keep:=λi h h' st k=>st.at λo e=>k it J0 o e
 item:=by
  intro X hP hw hK hc i Cr s σ H E I L st U;subst hP hw hK;let#[ab,G]:=U;let#[Y,f1,f2,f3,f4,f5]:=L it J0;let#[hd,vs,r,Z]:=G5 I.bK ab;let hlen:=r.9;obtain⟨⟨k,x⟩,hx⟩:∃p,vs[i]?^p:=#[vs[i]'(Zu G hlen),by simp];let ad:∃v,Ki[i]?^(k,v):=by
   let hi:i<Ki.9:=G;show#[(Ki[i]).2,?_];let e:=r.keys;let e1:(Ki.map (·.1))[i]?=(vs.map (·.1))[i]?:=(by rw[e]);rw[IF,IF,hx,vu hi]at e1;let e2:Ki[i].1=k:=OR e1;rw[vu hi, <-e2]
  let#[v,hv]:=ad;rw[hlen]at st ⊢;show wpAny_pyNext_dict_item st Z hx λas h' ap ac am=>?_;let I1:!H { s with heap:=h',toks:=s.toks }:=I.turned (λb o F e=>(am.2 b F).trans e) Y f1 f3 f4 f5;let#[ob,h1,h2,h3]:=id ac;show#[0,wk (s:={ s with heap:=h' }) (n := "dict_keyiterator") h1 h2 h3 az #[kV k,H,I1,DH ap,#[rfl,k,v,hv,rfl],ac,λb F=>(L b F).1]]
 done:=by
  intro X hP hw hK hc i Cr s σ H E I L st U;subst hP hw hK;let#[ab,G]:=U;let#[Y,f1,f2,f3,f4,f5]:=L it J0;let#[hd,vs,r,Z]:=G5 I.bK ab;let hlen:=r.9;rw[hlen]at st;show wpAny_pyNext_dict_end (I.ok.hd hc) st Z (by simp;show le_of_eq_of_le (id (EL hlen)) G) λh' eb=>#[rfl,I.turned (t':=s.toks) eb Y f1 f3 f4 f5]
 self:=λ_ _ _ _ _ st h=>wpAny_pyIter_keyiter st h
def afe(H₀:Hp)(td:TE):TI:=λσ H R=>td σ H λx H1=>Dh λa Ki=>Hg (x=.ref a) (H1 a^^^Ki) ((∀o F,H₀ a≠some (.frz o F))) (∀o,R (SM a o Ki) (QZ H1 a (.frz o (.dK Ki))))
def aei{l:YD}(hl:PE X l td):PI X tg l (afe X.H₀ td):=by
 intros R I h;show b9 (hl Cr s σ H _ I h) λv F ac=>?_;let#[x,H1,U,Z,a,Ki,e,Y,hn,q]:=ac;subst e;cases Z;let#[_,hd,vs,ab,dd]:=xw U.bK Y;let#[G,es,ep,h1,h2,h3,h4]:=id dd;let L:=U.freeze Y h1 hn;let lt:a<F.13:=gu h1;let da:F.heap.DictAt (cj X.prog X.w) a vs (Pu G):=#[G,es,h1,h2,by unfold Pu;rw[h3],h4];show wpAny_pyIter_dict hd da ?_;show#[F.13,[F.13],_,SM a G Ki,0,L.kept (t':=F.toks) λb o e=>aV _ e,aeU a _ (Za lt) G Ki,#[_,42,3],λb hb=>?_,q G]
 .rw[ab.9];rfl
 .let e:b=F.13:=‹hb›;subst e;show L.rl (BY _) (L.bK.fresh (BY _))
def aej(H₀:Hp)(t:TS):TS:=λD σ H=>t { D with
 nx:=λG J=>∃a o Ki,J a^.frz o (.dK Ki)/\(∀o F,H₀ a≠some (.frz o F))/\D.nx G (QZ J a (.dK Ki))
 rt:=λv J=>∃a o Ki,J a^.frz o (.dK Ki)/\(∀o F,H₀ a≠some (.frz o F))/\D.rt v (QZ J a (.dK Ki)) } σ H
def aff{t:TS}(h:PS X st t):PS X st (aej X.H₀ t):=by
 intros D I q;show b9 (h Cr s σ H _ I q) λf s1 F=>?_;cases f with
 |next =>
  let#[G,J,Y,a,o,Ki,U,L,Z]:=F;show#[G,_,Y.Qr U L,Z]
 |ret u =>
  let#[v,G,J,Y,r,a,o,Ki,U,L,Z]:=F;show#[v,G,_,Y.Qr U L,r,Z]
 |brk=>show F
 |cont=>show F
variable{tb:TS}
def adM{g:TG}{D:Ends}(Pv:Nat->St->Hp->Prop)(I:Pv 0 σ H)(G:∀i σ H,i<=Ki.9->Pv i σ H->H a^.frz o (.dK Ki))
  (hs:∀i k v σ H,Ki[i]?^(k,v)->Pv i σ H->g (kV k) σ H λL H2=>tb { D with nx:=Pv (i+1),ct:=Pv (i+1),bk:=D.nx } L H2) (hd:∀σ H,Pv Ki.9 σ H->D.nx σ H) :
  FW (SM a o Ki) g tb D σ H:=by
 show Jp Pv I hd (λσ H p=>#[G _ σ H (BY _) p,BY _]) λi σ H F p=>?_;let q:=G i σ H (Zm F) p;show#[#[q,F],λx J y=>?_];let#[e,k,v,hk,ex]:=y;subst e ex;show hs i k v σ _ hk p
inductive ae0(K:Yi)(x y:V)(H:Hp)(Q:VK):Prop
 |mk(p q xs ys:_)(_:x=.ref p)(_:y=.ref q)(_:bh K H p xs)(_:bh K H q ys)(_:xs.all gg)(_:ys.all gg)(_:Q (.bl (!(kM xs ys))) H)
theorem afb(L:X.A.units<ff):mf X (Zp .NotEq) (ae0 X.K):=by
 intros x y v u Q I rx ry h;let#[p,q,xs,ys,rfl,rfl,hx,Z,fx,fy,Y]:=h;cases rx;cases ry;let#[XO,r,pl,hz]:=I.list hx;let#[ad,U,F,ac]:=I.list Z;let G:=r.9;let ab:=U.9;cases e:xs.9=ys.9
 .show afz (e:=λj=>nZ (xs.getD j .bu) (ys.getD j .bu)) pl.isList F.isList (by rw[Yg,Yg];lia) L (K8 r U fx fy) _ _ _ _ #[.bl (!(kM xs ys)),H,I,?_,Y];change Value.bool _=Value.bool _;rw[Yg, <-G,lH e]
 .show aeS pl.isList F.isList ?_ L _ _ _ _ #[.bl (!(kM xs ys)),H,I,?_,Y]
  .rw[Yg,Yg, <-G, <-ab];show bne_iff_ne.mpr e
  .change Value.bool _=Value.bool _;rw[rj e];rfl
def Js(lo st:Int)(n:Nat):It:=#[λi _=>i<n,λi H x J=>J=H/\x=.int (lo+i*st),λi _=>n<=i]
theorem afc(it:ZX)(lo st:Int)(n:Nat):Turn P w K tg (Js lo st n) [it] it (λi h=>B0 h it (lo+(i:Nat)*st) ((n:Int)-(i:Nat)) st) where
 mem:=by simp
 obj:=λi h st b F=>by
  let e:b=it:=‹F›;subst e;show#[_,st,λv z=>by
   let z':Data.fields _=Data.cell v:=z;cases z']
 keep:=λi h h' st k=>k it J0 _ st
 item:=by
  intro X hP hw Z hc i Cr s σ H E I G ab L;subst hP hw Z;let#[U,Y,f2,f3,f4,f5]:=G it J0;let W:=Walks.range (prog:=X.prog) (w:=X.w) (I.ok.hd hc) it lo st n;show W.item i s _ _ L ab λv h' tk hv ac kk=>?_;let#[t,rfl]:=hv;let I1:!H { s with heap:=h',toks:=tk }:=I.turned (λb o F e=>kk b o ‹F› e) U Y f3 f4 f5;show#[0,wk (s:={ s with heap:=h',toks:=tk }) (n := "range_iterator") ac rfl rfl az #[.int (lo+i*st),H,I1,#[t,rfl],#[1],ac,λb F=>(G b F).1]]
 done:=by
  intro X hP hw Z hc i Cr s σ H E I G ab L;subst hP hw Z;let#[U,Y,f2,f3,f4,f5]:=G it J0;show ac3 (I.ok.hd hc) ab (by have:n<=i:=L;lia) λh' eb=>#[rfl,I.turned (t':=s.toks) eb U Y f3 f4 f5]
 self:=λ_ _ _ _ _ st h=>ac4 st h
def afn(ta:TA):TI:=λσ H R=>ta σ H λvs H1=>∃(i j st:Int)(n:Nat),vs=[.int i,.int j,.int st]/\Builtin.Range.small i j st/\Builtin.Range.rangeSize i j st=(n:Int)/\st≠0/\Builtin.divisionGoesByPylong (j-i) st=false/\R (Js i st n) H1
variable{a:YD}{ta:TA}{p:Pos}
theorem acY{b:YD}(hg:Gl X "range")(hm:X.mg "range" = none)(ha:PA X [a,b,c] ta)(hs:%[starEach [a,b,c] X.env=[(false,eval a X.env),(false,eval b X.env),(false,eval c X.env)]|0])(Y:%[starEach [b,c] X.env=[(false,eval b X.env),(false,eval c X.env)]|0]) :
  PI X tg (.Call (.Name "range" p) [a,b,c] [] Yb) (afn ta):=by
 intros R I h;show Call_ (kh I hg hm boot_range (Zj (b9 (ha Yb Cr s σ H _ I h) λus G ⟨vs,H1,I1,r1,L⟩=>?_) (by rw[hs,Y]) (by rw[Y];rfl)));let#[i,j,st,n,e,L,q2,q3,q4,q]:=L;subst e;cases r1 with
 |cons r F =>
  cases F with
  |cons Z F =>
   cases F with
   |cons ac F =>
    cases F;let#[t,rfl]:=r;let#[t',rfl]:=Z;let#[ab,rfl]:=ac;show call_range_3 q3 ?_ (.inl q4);show aer (afF ..) L ?_;let U:!H1 { G with heap:=G.heap.push { cls:=.type "range",data:=.fields ([.int i t,.int j t',.int st ab].8) },toks:=G.toks }:=I1.kept λb o e=>aV _ e;show#[_,[_],2,H1,rfl,U.kept (t':=G.toks) λb o e=>aV _ e,afc _ i st n,?_,λb hb=>?_,q]
    .let e1:i+((0:Nat):Int)*st=i:=J0;let e2:(n:Int)-((0:Nat):Int)=Builtin.Range.rangeSize i j st:=(by rw[q2];lia);change B0 _ _ (i+((0:Nat):Int)*st) ((n:Int)-((0:Nat):Int)) st;rw[e1,e2];show qZ _ rfl
    .let e:=z4.mp hb;subst e;show U.rl (BY _) (U.bK.fresh (BY _))
def xB(t:Str×Str)(sI:List (Str×Nat)):List Str:=t.1::t.2::sI.map (·.1)
def ado(sI:List (Str×Nat))(σ:St)(v F:Option V):St:=v::F::sI.map λp=>(σ[p.2]?).join
abbrev adp(X:Cx)(scope:iM)(cl:List (Str×ZX))(t:Str×Str)(sI:List (Str×Nat)):Prop:=ur X scope cl [t.1,t.2] sI
theorem acm{α:Type}:∀{l:List α},l.9=2->∃a b,l=[a,b]
 | [a,b],_=>#[a,b,rfl]
abbrev GG:=FZ 2
def acC(sI:List (Str×Nat))(g:TG)(wi:TI)(tt:TT)(te:TE):TE:=λσ H Q=>wi σ H λH' H1 =>
 ∃W:Nat->Nat->List V->Hp->Prop,(∃m,W 0 m [] H1)/\GG sI g tt te σ H' (λys H2=>∀p,H2 p=none->Q (.ref p) (QZ H2 p (.lst ys))) W
end
section
variable{X:Cx}{scope:iM}{cl:List (Str×ZX)}{t:Str×Str}{sI:List (Str×Nat)}{elt iter:YD}{ifs:fK}{px Yb:Pos}{es:fK}{kx:Nat}{g:TG}{wi:TI}{tt:TT}{te:TE}
def acD(K:adp X scope cl t sI)(hc:X.calm)(hi:PI X (.Tuple es kx px) iter wi)
  (ab:∀C s₀ H₀ ex,PG (rV X (xB t sI) scope cl C s₀ H₀ ex) (.Tuple es kx px) g)
  (L:∀C s₀ H₀ ex,Px (rV X (xB t sI) scope cl C s₀ H₀ ex) ifs tt) (he:∀C s₀ H₀ ex,PE (rV X (xB t sI) scope cl C s₀ H₀ ex) elt te)
  (hs:%[∀x,QH iter X.env x=pure x|0]):PE X (.ListComp elt [#[.Tuple es kx px,47]] scope Yb) (acC sI g wi tt te):=by
 intros Q I h;rw[eval_ListComp];show w5 (use:=none) rfl hs K.EK K.kind K.names (b9 (hi Cr s σ H _ I h) λv s1 h1=>b9 h1 λad s2 h2=>?_);let#[it,fp,tn,H',H2,e,I2,T,Z,f2,W,#[m0,w0],hW]:=h2;subst e;show km (RR:=λac C=>compPost X.16 X.A X.xe none (EP X Cr σ Q) ac C) K hc ab L he I2 T Z f2 w0 hW ?_;intro D C ys J s' m Y I' hn F q;show#[m,hn,λh' G=>?_];let#[c0,c1,c2,c3,c4,c5]:=F;show#[.ref D,_,I'.turned (t':=s'.toks) (λb o U e=>(G.2 b U).trans e) c0 c1 c3 c4 c5,rfl,q D Y]
end
mutual
def aeG:YY "zip" = some (.type "zip"):=ax
def aeH:YY "enumerate" = some (.type "enumerate"):=ax
def Hn:YY "all" = some (.builtin "all"):=ax
def afa:YY "abs" = some (.builtin "abs"):=ax
def afI:YY "min" = some (.builtin "min"):=ax
def Inv.mE{t':Nat}{ch:JS}(I:!H s)(k:∀b o,b∉ch->s.heap.get? b^o->h'.get? b^o)(F:∀b∈ch,jR X Cr H b):!H { s with heap:=h',toks:=t' }:=
 I.zQ k λb G=>let ⟨a,b,_,c⟩:=F b G;#[a,b,c]
def Inv.EH{D:ZX}(I:!H s)(f:jR X Cr H D)(e:IsTup s.heap D XO.8)(r:Si ys XO)(hz:ys.9<=yr) :
 !(QZ H D (.tup ys)) s:=by
 let#[G,f1,f2,f3,Z,U]:=f;let#[L,g,d,tk,os]:=s;show I.step (g':=g) (d':=d) (t':=tk) (h':=L) (ch:=[D]) (λb F=>?_) (λb o _ _ _ e _=>e) (λb o _ _ _ e _=>#[o.slots,e]) (λb o F _ n=>?_) (λb o _ e=>#[o,e]) (λb xs q=>?_) (λb o u q=>?_) (λb ps q=>#[([].8),?_]) (λm Y=>Y) (λb u q=>?_) I.bare
 .let z:b=D:=‹F›;subst z;show#[f3,f1,Z,U]
 .rw[au (λz=>F (by simp[z]))];show n
 .rw[au (ba q G)];show q
 .rw[au (ba q G)];show q
 .rw[au (ba q G),q];simp
 .cases F:b=D
  .subst F;rwa[ag]at q;show#[hz,XO,r,e]
  .rw[au F]at q;show(I.bK b u q).iW (λ_ _ _ z=>z) (λc z=>z<*au (ba z G)) λc xs z=>by rw[au (ba z G)];show z
def DE:2<=yr:=by rw[HC];decide
def Po(K:Yi)(l:ZX):It :=
 #[λi H=>∃xs x,bh K H l xs/\xs[i]?^x,
  λi H v J=>∃T x,v=.ref T/\H T=none/\J=QZ H T (.tup [.int i,x])/\∀xs,bh K H l xs->xs[i]?^x,
  λi H=>∃xs,bh K H l xs/\xs.9<=i]
def H5x(e it l:ZX)(i:Nat)(h:Heap):=(∃old,IsEnum h e it i old)/\h.IsListIter it l i
variable{kx:Nat}
def pins{it l:ZX}(D:e≠it):Turn P w K (.Tuple es kx px) (Po K l) [e,it] e (H5x e it l) where
 mem:=by simp
 obj:=by
  rintro i h ⟨⟨old,G⟩,h1⟩ b F;simp only[Yu,xy,or_false]at F;obtain rfl|rfl:=F
  .show#[_,G,λv q=>by cases(show Data.fields _=Data.cell v from q)]
  .let#[o,e,c,d]:=h1;show#[o,e,λv q=>by rwa[d]at q]
 keep:=λi h h' ⟨⟨old,G⟩,h1⟩ k=>#[#[old,k e J0 _ G],h1.at λo q=>k it J0 o q]
 item:=by
  intro X hP hw hK hc i Cr s σ H E I L st hg;subst hP hw hK;let#[#[old,G],h1]:=st;let#[xs,x,Z,Y]:=hg;let#[ac,ab,p1,_]:=I.list Z;let#[u1,ap,as]:=ab.get Y;show wpAny_pyNext_enum_item G h1 p1.isList (x:=u1) ‹ap› D λh' eo a1 pT sz kk=>?_;let I1:!H { s with heap:=h',toks:=s.toks+1 }:=I.mE (t':=s.toks+1) (ch:=[e,it]) (λb o F q=>kk b o (λz=>F (by simp[z])) (λz=>F (by simp[z])) q) L;show#[0,wpAny_letOwnedTupleGo_enum eo λU e2 sb=>?_];replace sb:Heap.SameBut e h' U:=sb;let I2:!H { s with heap:=U,toks:=s.toks+1 }:=I1.mE (s:={ s with heap:=h',toks:=s.toks+1 }) (h':=U) (t':=s.toks+1) (ch:=[e]) (λb o F q=>(sb.2 b (λz=>F (by simp[z]))).trans q) λb F=>L b (by simp only[z4]at F;simp[F]);let fT:jR X Cr H s.13:=I.rl (BY _) (I.bK.fresh (BY _));let ne:s.13≠e:=FD (gu G);let ar:=sb.extBut _ _ ne pT;let I3:!(QZ H s.13 (.tup [.int i,x])) { s with heap:=U,toks:=s.toks+1 }:=I2.EH (XO:=[.int i s.toks,u1]) fT #[_,ar,rfl,0] (.cons #[0] (.cons as .nil)) DE;show#[138,I3,rfl,#[_,x,rfl,fT.1,rfl,λzs ad=>Y<*I.sg ad Z],#[#[u1,?_],a1.extBut sb.extBut (oR D)],λb F=>?_]
  .let ec:((i+1:Nat):Int)=(i:Int)+1:=(by push_cast;rfl);rw[ec];show e2
  .let nb:b≠s.13:=by
    intro q;simp only[Yu,xy,or_false]at F;let#[o1,g1,_]:=h1;obtain z|z:=F<;>rw[z]at q
    .show ne q.6
    .show Za (gu g1) q
   rw[au nb];show(L b F).1
 done:=by
  intro X hP hw hK hc i Cr s σ H E I L st hg;subst hP hw hK;let#[#[old,G],h1]:=st;let#[xs,Z,Y]:=hg;let#[ac,ab,p1,_]:=I.list Z;let am:=ab.9;let#[f0,f1,f2,f3,f4,f5]:=L it J0;show wpAny_pyNext_enum_end (I.ok.hd hc) G h1 p1.isList (by simp;show le_of_eq_of_le (id (EL am)) Y) λh' eb=>#[rfl,I.turned (t':=s.toks) eb f0 f1 f3 f4 f5]
 self:=λ_ _ _ _ _ st h=>let ⟨⟨_,G⟩,_⟩:=st;wpAny_pyIter_enum G h
def upd(K:Yi)(ta:TA):TI:=λσ H R=>ta σ H λvs H1=>∃l,vs=[.ref l]/\(∃xs,bh K H1 l xs)/\R (Po K l) H1
def qAk(Z:Gl X "enumerate")(hm:X.mg "enumerate" = none)(ha:PA X [a] ta)(hs:%[starEach [a] X.env=[(false,eval a X.env)]|0]) :
  PI X (.Tuple es kx px) (.Call (.Name "enumerate" p) [a] [] Yb) (upd X.K ta):=by
 intros R I h;show Call_ (kh I Z hm aeH (Zj (b9 (ha Yb Cr s σ H _ I h) λus F ab=>?_) hs rfl));let#[vs,H1,G,Y,q1]:=ab;let#[l,rfl,#[xs,g1],q]:=q1;let#[u1,rfl,e1]:=vals1 Y;obtain rfl:u1=Value.ref l:=e1;let#[ad,ac,p1,_]:=G.list g1;show call_enumerate_list p1.isList λh' U hi hsz hk=>?_;show wpAny_pyIter_enum U ?_;show#[F.13+1,[F.13+1,F.13],2,H1,rfl,G.kept (t':=F.toks) hk,pins (l:=l) (Nat.succ_ne_self _),#[#[_,U],hi],λb L=>?_,q];let le:F.13<=b:=by
  simp only[Yu,xy,or_false]at L;obtain e|e:=L<;>rw[e]<;>first|show BY _|show Y7 _ _
 show G.rl le (G.bK.fresh le)
theorem zW:∀{bs:List Bool}{XO:WX},Si (bs.map V.bl) XO->XO=bs.map Value.bool
 | [],_,.nil=>rfl
 |b::bs,_,.cons r t=>by rw[zW t,show _=Value.bool b from r];rfl
def abi(hc:X.calm):cM X (.builtin "all") (λxs H Q=>∃(l:ZX)(bs:List Bool),xs=[.ref l]/\bh X.K H l (bs.map V.bl)/\Q (.bl (bs.all id)) H):=by
 intros xs us Q I r h;let#[l,bs,rfl,hl,q]:=h;let#[u,rfl,ru]:=vals1 r;obtain rfl:u=Value.ref l:=ru;let#[XO,rv,p,_]:=I.list hl;let Y:=zW rv;subst Y;let G:=p.isList;let ab:l<s.13:=let ⟨_,e,_⟩:=G;gu e;show call_all_walk (wpAny_pyIter_list G ?_);show#[s.13,[s.13,l],[s.13],(bs.map Value.bool).toArray.size,2,λi=>(bs[i]?).getD true,rfl,Walks.list (A:=X.A.in1) (I.ok.hd hc) _ l (Za ab) (bs.map Value.bool).8,
  #[#[_,42,1],G.push _],λi v s' aeJ E' hP U=>?_,λh' tk hk=>?_]
 .let ac:(bs.map Value.bool).8[i]?^v:=hP;let F:(bs.map Value.bool)[i]?^v:=‹ac›;rw[IF]at F;cases L:bs[i]? with
  |none=>rwa[L]at F
  |some b =>
   rw[L]at F;let Z:Value.bool b=v:=OR F;subst Z;simp only[L,Option.getD_some]at U;show ZQ U
 .let e:((YQ (bs.map Value.bool).toArray.size).all λi=>(bs[i]?).getD true)=bs.all id:=by
   rw[Yg,si];show LSm.range_all bs
  rw[e];show#[.bl _,H,I.kept (LSm.kept_iter hk),rfl,q]
abbrev g2(K:Yi):TG:=Om K 2 (AD (iZ 0) (AD (iZ 1) QS))
def wG{a:ZX}{xs:vl}{g:TG}{D:Ends}(Pv:Nat->St->Hp->Prop)(L:Pv 0 σ H)(G:∀i σ H,i<=xs.9->Pv i σ H->bh K H a xs)
  (hs:∀i x σ H T,xs[i]?^x->H T=none->Pv i σ H->g (.ref T) σ (QZ H T (.tup [.int i,x])) λU H2=>tb { D with nx:=Pv (i+1),ct:=Pv (i+1),bk:=D.nx } U H2) (hd:∀σ H,Pv xs.9 σ H->D.nx σ H) :
  FW (Po K a) g tb D σ H:=by
 show Jp Pv L hd (λσ H p=>#[xs,G _ σ H (BY _) p,BY _]) λi σ H F p=>?_;let I:=G i σ H (Zm F) p;show#[#[xs,xs[i],I,by simp[F]],?_];rintro v J ⟨T,x,rfl,Z,rfl,Y⟩;show hs i x σ H T (Y xs I) Z p
def AW(K:Yi):List V->Hp->VK->Prop:=λxs H Q=>∃p ys,xs=[.ref p]/\(bh K H p ys\/eM K H p ys)/\∀l,H l=none->Q (.ref l) (QZ H l (.lst ys))
def RelV:cM X (.type "list") (AW X.K):=cG
def XP.passes(L:X.stack=X.env::X.outer)(F:X.env.frame^X.env.locals):I9 X.16 X.A X.env (XP X Cr R):=by
 intro x s1 hx;let#[e,cls,a0,B,ac,H1,rfl,fl,c2,be,ad,q]:=hx;let iW:B.StaysIn s1.heap:=by
  obtain z|z|⟨_,_,z⟩:=fl
  .show z.1
  .show z.1
  .show z.1
 let I1:=be.now iW;let G:=I1.ok.frames;rw[L]at fl G;show lN G F fl c2 λY held ab c4=>?_;let#[g1,g2,g3,oe,vs,T,oT,ts,k1,#[k2,k3],k4,k5,k6,k7,I,U,Z]:=id held;change wpAny _ _ _ _ _ _;rw[F];show yl (BR k1 k4 k5 ?_);rw[vr J0];unfold setFlight;show yl (BR k1 k4 k5 ?_);rw[C' J0];show WG I U (aci.mp Z).1 ?_;let eu:=Heap.update_setField_same Y T oT ts 3 (WD X.env.locals) I U Z;change XP X Cr R (.ref e) { s1 with heap:=Y.update T (Obj.mapFields λx=>x.setIfInBounds 3 (WD X.env.locals)) };rw[eu];show#[e,cls,a0,B,ac,H1,rfl,.inr (.inr #[X.env.locals,F,held<*L]),c4,λh' tk k u=>be h' tk k (ab.trans u),ad,q]
theorem XP.gx{pl:Jr}{x:xr}(h:XP X (Cr++pl) R x s'):XP X Cr R x s':=by
 let#[e,cls,U,B,L,H1,rfl,fl,I,Y,F,q]:=h;show#[e,cls,U,B,L,H1,rfl,fl,I,λh' tk k u=>(Y h' tk k u).gx,#[F.old,F.loc,F.fs,F.cell,λp G=>F.pin p ?_,F.free],q];obtain m|m:=Yh.mp G
 .show YC _ m
 .show DO _ (YC _ m)
def Vals(wi:TI)(g:TG)(tb:pB):pB:=λD R σ H=>R9 wi g (λD' F J=>tb D' R F J) D σ H
variable{body:List Yv}{tb:pB}
def qa5{g:TG}(aB:X.stack=X.env::X.outer)(hf:X.env.frame^X.env.locals)(hc:X.calm)(hi:PI X.kR tg iter wi)(hg:PG X.kR tg g)(F:pK X body tb)
  (hs:%[∀x,QH iter X.env x=pure x|0]):HD X (.For tg iter body [] Yb) (Vals wi g tb):=by
 intros D R I h;let hp:I9 X.16 X.A X.env (XP X Cr R):=XP.passes aB hf;show wpAny_For (nx (hi Cr s σ H _ (I.iw _) h) λv s1 h1=>nx h1 λa0 s2 h2=>?_) hs;let#[it,fp,tn,H',H2,e,ay,T,as,aN,W,#[m0,w0],aT]:=h2;let I2:=ay.bZ;let f2:∀b∈fp,jR X Cr H2 b:=λb F=>aN b F;subst e;let ad:∀{J:Hp},(∀b∈fp,J b=none)->∀b∈fp,jR X Cr J b:=λhn b F=>#[hn b F,(f2 b F).2];show ad9 (λn s'=>∃i ab J,Inv X Cr ab J s'/\tn i s'.heap/\(∀b∈fp,J b=none)/\W i n ab J) ?_ m0 #[(0),σ,H2,I2,as,λb F=>(f2 b F).1,w0];rintro n s3 ⟨i,Z,H3,I3,ap,am,w3⟩;rcases aT i n Z H3 w3 with⟨ar,qn⟩|⟨go,N,hN,step⟩
 .show Ze hp (b9 (T.done X rfl rfl rfl hc i Cr s3 Z H3 _ I3 (ad am) ap ar) λr s4 ⟨hr,I4⟩=>?_);subst hr;show ZE #[Z,H3,I4,qn]
 .show Ze hp (b9 (T.item X rfl rfl rfl hc i Cr s3 Z H3 _ I3 (ad am) ap go) λr s4 ⟨u,hr,h4⟩=>?_);subst hr;show Ze hp (b9 h4 λ_ s5 ⟨x,H5,I5,r5,y5,ac,aK⟩=>?_);let aX:=I5.pinned (ad aK) (T.obj _ _ ac);show Ze hp (nx (hg _ s5 Z H5 x u _ (aX.iw _) r5 (step x H5 y5)) λ_ s6 ⟨aY,H6,I6,q6⟩=>?_);show Ze hp (YK (F _ s6 aY H6 _ R I6.bZ q6) (λf s7 Y=>?_) λ_ _ z=>z.gx);let again:∀{G:St}{U:Hp},Inv X (Cr++oF fp s5.heap) G U s7->N G U->∃m,m<n/\∃i ab J,Inv X Cr ab J s7/\tn i s7.heap/\(∀b∈fp,J b=none)/\W i m ab J:=λ{G U} L n7=>by
   let#[m',hm,w7]:=hN G U n7;show#[m',hm,i+1,G,U,L.gx,T.keep _ _ _ ac λb F o e=>(L.pin (b,o) (DO _ (DO _ (gU F e)))).1,λb F=>?_,w7];let#[o,e,d]:=T.obj _ _ ac b F;show(L.pin (b,o) (DO _ (DO _ (gU F e)))).2.1
  cases f with
  |next=>let#[G,U,L,n7]:=Y;show again L n7
  |cont=>let#[G,U,L,n7]:=Y;show again L n7
  |brk=>let#[G,U,L,Y]:=Y;show#[G,U,L.gx,Y]
  |ret v=>let#[x7,G,U,L,r7,Y]:=Y;show#[x7,G,U,L.gx,r7,Y]
def Off(K:Yi)(C:ZX)(tb:pB)(ts:TS):TS:=λD σ H=>tb D (λF cls J=>BK K cls (.ref C)^true/\ts D F J) σ H
def fill{hpos:Pos}{suite:List Yv}{b₀:Yv}{ts:TS}(ad:X.stack=X.env::X.outer)(hf:X.env.frame^X.env.locals)(hg:Gl X x)(hm:X.mg x^.ref C)
  (hb:pK X body tb) (hs:∀e,t9 (X.hand e).kR (b₀::suite) ts) (hd:%[x.14|0]) :
  PS X (.Try body [.ExceptHandler (some (.Name x np)) none (b₀::suite) hpos] [] [] Yb) (Off X.K C tb ts):=by
 intros D I h;show wpAny_Try_except (YK (hb Cr s σ H D _ I h) (λf U q=>?_) λv U hx=>?_)
 .cases f with
  |next=>show ZE q
  |ret v=>show q
  |brk=>show q
  |cont=>show q
 let#[e,cls,a0,B,aT,H1,rfl,fl,c2,be,aX,as,hk]:=hx;let iW:B.StaysIn U.heap:=by
  obtain z|z|⟨_,_,z⟩:=fl
  .show z.1
  .show z.1
  .show z.1
 let I1:=be.now iW;let ab:=I1.ok.frames;rw[ad]at fl ab;let ar:=I1.ok;show lN ab hf fl c2 λh4 held am c4=>?_;show Ia held λh5 Z aK=>?_;let ac:=am.trans aK;let I5:=(be h5 U.toks Z.1 ac).hand e;let#[ob,ap,ay]:=Z.there;show aec (adz (i9 (X:=X.hand e) I5 hg hm ?_ hd)) (by intro q;cases q);let LT:Et X.16 h5 (vf (.ref e)) cls:=ay▸(qc ap).andThen .now;show(exm_one I5.jY LT as).here (s:={ U with heap:=h5 }) ?_;show codeAny_handlers_suite ?_;show lands_againW Z λh6 aB aN=>?_;let I6:=(be h6 U.toks aB.1 (ac.trans aN)).hand e;show nx (hs e Cr _ _ _ _ (I6.iw _) hk) λf s8 Y=>?_;let fin:∀{G:St}{L:Hp},Inv (X.hand e).kR Cr G L s8->Inv X Cr G L s8:=λF=>(F.bZ).Hy ar;cases f with
 |next =>
  let#[G,L,F,q]:=Y;show#[2,fin F,q]
 |brk =>
  let#[G,L,F,q]:=Y;show#[2,fin F,q]
 |cont =>
  let#[G,L,F,q]:=Y;show#[2,fin F,q]
 |ret u =>
  let#[v,G,L,F,rv,q]:=Y;show#[v,2,fin F,rv,q]
end
end L2
namespace C8
open PySem PyProof.Rows
mutual
theorem zY:∀{vs:WX}{ns:N4},vs.9=ns.9->(∀(j:Nat)(v:xr),vs[j]?^v->∃(m:Int)(t:Tok),ns[j]?^m/\v=.int m t)->qD vs ns
 | [],[],_,_=>.nil
 |v::vs,n::ns,F,h=>by
  let#[m,t,e,rfl]:=h 0 v rfl;cases e;show .cons n t (zY ‹F› λj u G=>by simpa using h (j+1) u ‹G›)
 | [],_::_,F,_=>by simp at F
 |_::_,[],F,_=>by simp at F
variable{prog:By}{w:L3}{A:Ys}{E:gJ}{s:ti}{T:String}{r d:ZX}{n:Nat}{P:Nat->xr->Prop}{OK:Heap->Prop}{ns:N4}{Q:gJ}
def inClass(S:KdlSrc prog w T r d n P OK)(hh:A.handled=none)(Z:OK s.heap)(hP:∀(i:Nat)(v:xr),P i v->∃(m:Int)(t:Tok),ns[i]?^m/\v=.int m t)(hl:ns.9=n)(hn:ns.4)(hz:n<=1000)
  (k:∀(h1 h':Heap)(tk:Nat)(out:p9)(G:N4)(e:Nat),(∀b o,s.heap.get? b^o->h1.get? b^o)->(∀b o,h1.get? b^o->h'.get? b^o)->h'.get? h1.objs.3^seqObj "list" out e->qD out.7 G->G.Perm ns->G.Pairwise (· <= ·)->Q (.ref h1.objs.3) { s with heap:=h',toks:=tk }) :
  wpAny w.16 A (call (.builtin "sorted") [.ref r]) Q E s:=by
 let lz:yr=16777216:=HC;show Calls.call_function_entry kind_sorted plain_sorted entry_sorted (args_sorted1 _) ?_;show yl (m:=checkCount "sorted" 1 1 _) (wpAny_pure (yl (PySem.W.kdu_collect (A:=A.in1) S hh Z ak λh1 tk F k1 U=>?_)));let ln:F.toList.length=n:=(U.1<*Yx);show yl (IH ?_ ak);let hI:qD F.7 ns:=zY ak λj v e=>hP j v (U.2 j v (by rw[<-YO];show e));let I:=qZ h1 (o:=seqObj "list" F.toList.toArray 0) rfl;change wpAny _ _ _ _ _ { s with heap:=h1.push (seqObj "list" F.toList.toArray 0),toks:=tk };show yl (ZW (IE slot_list_sort #[_,I,rfl] entry_list_sort (adK I hI hn ak λout G Y w2 w3=>#[0,wpAny_pure #[0,?_]]) (args_list_sort _)));let#[e,he]:=sortedHeap_at (vs:=F.7) (out:=out) I;show k h1 _ tk out G e k1 (λb o L=>?_) he Y w2 w3;let lt:=gu L;rw[sortedHeap_old (Za lt) (Ou lt<*BV),JJ _ _ _ (Za lt)];show L
def og(S:KdlSrc prog w T r d n P OK)(I:A.handled=none)(Y:OK s.heap)(U:∀(i:Nat)(v:xr),P i v->∃(m:Int)(t:Tok),ns[i]?^m/\v=.int m t)(G:ns.9=n)(L:ns.4)(Z:n<=60)
  (k:∀(h1 h':Heap)(tk:Nat)(out:p9)(F:N4)(e:Nat),(∀b o,s.heap.get? b^o->h1.get? b^o)->(∀b o,h1.get? b^o->h'.get? b^o)->h'.get? h1.objs.3^seqObj "list" out e->qD out.7 F->F.Perm ns->F.Pairwise (· <= ·)->Q (.ref h1.objs.3) { s with heap:=h',toks:=tk }) :
  wpAny w.16 A (call (.builtin "sorted") [.ref r]) Q E s:=inClass S I Y U G L (Oi Z az) k
def Binds{x y:Str}(h1:¬ x.cps.7<y.cps.7)(h2:¬ y.cps.7<x.cps.7):x=y:=by
 let e:=List.le_antisymm (AQ.mp h2) (AQ.mp h1);cases x;cases y;show Ur Str.mk (ae7.mp e)
def sle(a b:Str):Bool := !(decide (b.cps.7<a.cps.7))
def oC(a b c:Str)(h1:sle a b)(h2:sle b c):sle a c:=by
 unfold sle at *;let G:¬ b.cps.7<a.cps.7:=λz=>(h1*>Ja z);let F:¬ c.cps.7<b.cps.7:=λz=>(h2*>Ja z);rw[ck];rfl;show AQ.mpr (List.le_trans (AQ.mp G) (AQ.mp F))
def nJ(a b:Str):(sle a b||sle b a)=true:=by
 unfold sle;cases c:b.cps.7<a.cps.7
 .rw[ck (List.lt_asymm c)];simp
 .rw[ck c];rfl
def rp{a b:Str}(h1:sle a b)(h2:sle b a):a=b:=by
 unfold sle at *;show Binds (λz=>by rwa[Ja z]at h2) (λz=>by rwa[Ja z]at h1)
def uZ(ns:gq):List Str:=ns.mergeSort sle
def len_app{ns F:gq}(G:F.Perm ns)(h:F.Pairwise λa b=>sle a b=true):F=uZ ns :=
 acJ (λ_ _ _ _ h1 h2=>rp h1 h2) h (acX oC nJ ns) (G.trans (ZP ns sle).6)
def Hq(v:xr):Str:=match v with
 |.str x _=>x
 |_=>#[([].8)]
def Eh:Ln sle:=#[oC,nJ,rp]
variable{vs:WX}
def pos(al:∀v∈vs,∃x t,v=Value.str x t):Pg prog w A oneType' Hq sle vs s:=λx hx y F Q q=>by
 let#[a,t,rfl]:=al x hx;let#[b,u,rfl]:=al y F;show PySem.W.kas_lt_str (by rw[<-Bool.not_not (decide _)];show q)
theorem xR:∀{ns:gq}{us:WX},L2.Si (ns.map L2.V.str) us->us.map Hq=ns/\∀v∈us,∃x t,v=.str x t
 | [],us,h=>by cases h;show#[rfl,143]
 |n::ns,us,h=>by
  cases h with
  |cons r rs =>
   let#[t,rfl]:=r;let#[e,q]:=xR rs;show#[by rw[Y5,e];rfl,λv F=>?_];obtain rfl|F:=Yu.mp F
   .show#[n,t,rfl]
   .show q v F
theorem wu:∀{us:WX},(∀v∈us,∃x t,v=Value.str x t)->L2.Si ((us.map Hq).map L2.V.str) us
 | [],_=>.nil
 |u::us,h=>by
  let#[x,t,rfl]:=h u Yn;show .cons #[t,rfl] (wu λv F=>h v (Yp _ F))
def IsT(h:Heap)(v:xr)(p:Str×Int):=∃a t u,v=.ref a/\IsTup h a ([.str p.1 t,.int p.2 u].8)
noncomputable def ki(h:Heap)(v:xr):Str×Int:=match v with
 |.ref a=>match (h.get? a).map λo:Obj=>o.data with
  |some (Data.seq xs _)=>(Hq (xs.getD 0 .none),numOf (xs.getD 1 .none))
  |_=>(#[([].8)],0)
 |_=>(#[([].8)],0)
variable{h:Heap}{p:Str×Int}
def mJ{v:xr}(i:IsT h v p):ki h v=p:=by
 let#[a,t,u,rfl,o,F,G,n,e3]:=i;unfold ki;dsimp only;rw[F,DK,e3];rfl
variable{ps:List (Str×Int)}
def Bh(nd:(ps.map (·.1)).4){q:Str×Int}(F:p∈ps)(G:q∈ps)(e:p.1=q.1):p=q:=by
 let#[i,hi,rfl]:=Y8.mp F;let#[j,I,rfl]:=Y8.mp G;have:i=j:=(Sf (h₀:=by simpa using hi) (h₁:=by simpa using I) nd).mp (e<*[LQ,LQ]);subst this;rfl
def its(nd:(ps.map (·.1)).4)(hx:∀b o,h.get? b^o->s.heap.get? b^o)(G:∀v∈vs,∃p∈ps,IsT h v p):Pg prog w A (tuples' true) (λv=>(ki h v).1) sle vs s:=λx h1 y h2 Q q=>by
 let#[p,Z,L]:=G x h1;let#[r,hr,I]:=G y h2;let F:Q (!(sle (ki h y).1 (ki h x).1)) s:=q;clear q;rw[mJ L,mJ I,show(!(sle r.1 p.1))=decide (p.1.cps.7<r.1.cps.7)from Bool.not_not _]at F;let#[a,t1,u1,rfl,o1,g1,_,n1,Y]:=L;let#[b,t2,u2,rfl,o2,g2,_,n2,U]:=I;show PySem.W.kat_lt (hx _ _ g1) Y (hx _ _ g2) U (kat_cons (wpAny_eqBool_str ?_));cases c:p.1=r.1
 .obtain rfl:=Bh nd Z hr c;rw[Ja rfl];show kat_yes (kat_cons (wpAny_eqBool_int ?_));rw[beq_self_eq_true];show kat_yes (PySem.W.kat_nil ?_);rw[ck (List.lt_irrefl _)]at F;show F
 .rw[ck c];show PySem.W.kat_no (oneLt_str F)
def Ie(p q:Str×Int):Bool:=sle p.1 q.1
def iD(ps:List (Str×Int)):List (Str×Int):=ps.mergeSort Ie
theorem kvs{qs:List (Str×Int)}(nd:(ps.map (·.1)).4)(F:qs.Perm ps)(h:qs.Pairwise λa b=>Ie a b=true):qs=iD ps :=
 acJ (λa b G I h1 h2=>Bh nd (F.mem_iff.mp G) ((ZP ps Ie).mem_iff.mp I) (rp h1 h2)) h (acX (le:=Ie) (λa b c=>oC a.1 b.1 c.1) (λa b=>nJ a.1 b.1) ps) (F.trans (ZP ps Ie).6)
theorem x8{h:Heap}:∀{vs:WX},(∀v∈vs,∃p,IsT h v p)->∃fs,PySem.W.KatTups h vs fs/\fs.9=vs.9/\∀f∈fs,∃x t,f=Value.str x t
 | [],_=>#[[],.nil,rfl,143]
 |v::vs,a=>by
  let#[fs,k,l,q]:=x8 (vs:=vs) λu G=>a u (Yp _ G);let#[p,b,t,u,rfl,o,g,c,n,d]:=a v Yn;show#[.str p.1 t::fs,.cons g c d rfl k,by rw[YU,YU,l],λf F=>?_];obtain rfl|F:=Yu.mp F
  .show#[_,0]
  .show q f F
theorem Ef{b:ZX}{o:Obj}(h:s.heap.get? b^o):(pU (K5 s vs) (s.13+1) vs).heap.get? b^o:=by
 let lt:=gu h;let F:((s.heap.push (seqObj "list" ([].8) 0)).update s.13 (Obj.mapSeq (· ++ vs.8))).objs.3=s.13+1:=(by rw[vh,BV]);unfold pU K5;dsimp only;rw[JJ _ _ _ (by rw[BV,vh,BV,F];lia),JJ _ _ _ (by rw[vh,BV,F];lia),Heap.get?_update_ne _ b (s.13+1) _ ak,JJ _ _ _ (by rw[F];lia),Heap.get?_update_ne _ b s.13 _ ak,JJ _ _ _ ak];show h
end
end C8
variable{P:By}{w:L3}{K:Yi}{mg:j5}{base:Heap}{f:ZX}{fd:C6}
namespace L2
open PySem PySem.Spec PyProof.Rows
variable{X:Cx}
mutual
theorem caps(hc:X.calm):cM X (.builtin "sorted") (λxs H Q=>∃(a:ZX)(Ki:nI)(ns:N4),xs=[.ref a]/\H a^^^Ki/\Ki.map (·.1)=ns.map Xt/\ns.4/\ns.9<=60 /\
  ∀(l:ZX)(F:N4),H l=none->F.Perm ns->F.Pairwise (· <= ·)->Q (.ref l) (QZ H l (.lst F.17))):=by
 intros xs us Q I r h;let#[a,Ki,ns,rfl,ha,hk,ac,hn,q]:=h;let#[u,rfl,ru]:=vals1 r;cases ru;let#[_,hd,vs,ab,dd]:=xw I.bK ha;let#[ep,Z]:=dd.dictAt;let L:vs.map (·.1)=ns.map Xt:=(by rw[<-ab.keys];show hk);let U:ns.9=vs.9:=by
  have:=Ur YL L;simpa using this.6
 let hs:=HC;show C8.og (PySem.W.kdl_dict (knd:=cj X.prog X.w) (kvs:=vs) (ep:=ep) (d:=a) hd) (I.ok.hd hc) Z (ns:=ns) (λi w' hw=>?_) U ac (le_of_eq_of_le (id (EL U)) hn) λh1 h' tk out F e k1 k2 he a1 a2 a3=>?_
 .let#[k,x,e1,e2]:=hw;let e3:(vs.map (·.1))[i]?^k:=(by rw[IF,e1];rfl);rw[L,IF]at e3;cases Y:ns[i]? with
  |none=>rwa[Y]at e3
  |some m =>
   rw[Y]at e3;obtain rfl:Xt m=k:=OR e3;let#[t,rfl]:=DH e2;show#[m,t,1]
 .let G:!H { s with heap:=h1,toks:=tk }:=I.kept k1;show#[.ref h1.objs.3,_,G.laid (t':=tk) k2 (BY _) (show cz X.prog X.w _ _ _ (.lst F.17)from#[by rw[si,a2.length_eq];lia,out.7,e,sZ a1,by simpa using he]),rfl,q _ F (G.bK.fresh (BY _)) a2 a3]
variable{n:Nat}{g:TG}{tb:pB}{R:XR}{D:Ends}{σ:St}{H:Hp}
def zq{lo:Int}(Pv:Nat->St->Hp->Prop)(I:Pv 0 σ H)
  (hs:∀i σ H,i<n->Pv i σ H->g (.int (lo+i)) σ H λF H2=>tb { D with nx:=Pv (i+1),ct:=Pv (i+1),bk:=D.nx } R F H2) (hd:∀σ H,Pv n σ H->D.nx σ H) :
  ∃W:Nat->Nat->St->Hp->Prop,(∃m,W 0 m σ H)/\∀i m σ H,W i m σ H ->
   ((HJ lo n).stop i H/\D.nx σ H)\/((HJ lo n).go i H/\∃N:St->Hp->Prop,(∀G J,N G J->∃m',m'<m/\W (i+1) m' G J)/\∀x J,(HJ lo n).Lu i H x J->g x σ J λF H2=>tb { D with nx:=N,ct:=N,bk:=D.nx } R F H2):=
 gc (tb:=λD σ H=>tb D R σ H) Pv I hs hd
variable{a:ZX}{xs:vl}
def sS(Pv:Nat->St->Hp->Prop)(L:Pv 0 σ H)(I:∀i σ H,i<=xs.9->Pv i σ H->bh K H a xs)
  (hs:∀i x σ H,xs[i]?^x->Pv i σ H->g x σ H λF H2=>tb { D with nx:=Pv (i+1),ct:=Pv (i+1),bk:=D.nx } R F H2) (hd:∀σ H,Pv xs.9 σ H->D.nx σ H) :
  ∃W:Nat->Nat->St->Hp->Prop,(∃m,W 0 m σ H)/\∀i m σ H,W i m σ H ->
   ((Lj K a).stop i H/\D.nx σ H)\/((Lj K a).go i H/\∃N:St->Hp->Prop,(∀G J,N G J->∃m',m'<m/\W (i+1) m' G J)/\∀x J,(Lj K a).Lu i H x J->g x σ J λF H2=>tb { D with nx:=N,ct:=N,bk:=D.nx } R F H2):=
 fL (tb:=λD σ H=>tb D R σ H) Pv L I hs hd
def CV(Pv:Nat->St->Hp->Prop)(I:Pv 0 σ H)(L:∀i σ H,i<=xs.9->Pv i σ H->bh K H a xs)
  (hs:∀i x σ H T,xs[i]?^x->H T=none->Pv i σ H->g (.ref T) σ (QZ H T (.tup [.int i,x])) λF H2=>tb { D with nx:=Pv (i+1),ct:=Pv (i+1),bk:=D.nx } R F H2) (hd:∀σ H,Pv xs.9 σ H->D.nx σ H) :
  ∃W:Nat->Nat->St->Hp->Prop,(∃m,W 0 m σ H)/\∀i m σ H,W i m σ H ->
   ((Po K a).stop i H/\D.nx σ H)\/((Po K a).go i H/\∃N:St->Hp->Prop,(∀G J,N G J->∃m',m'<m/\W (i+1) m' G J)/\∀x J,(Po K a).Lu i H x J->g x σ J λF H2=>tb { D with nx:=N,ct:=N,bk:=D.nx } R F H2):=
 wG (tb:=λD σ H=>tb D R σ H) Pv I L hs hd
open PySem.Builtin PySem.Builtin.Str
inductive zZ(x:V)(vs:vl)(H:Hp)(Q:VK):Prop
 |mk(a b:_)(_:x=.str a)(_:vs=[.str b])(_:Q (.bl (Txt.startswith a b)) H)
def BE:Sw X "str.startswith" zZ:=by
 intros x vs v us Q I F G h;let#[a,b,rfl,rfl,q]:=h;let#[t,rfl]:=F;let#[u,rfl,ru]:=G.one;let#[t',rfl]:=ru;show SC.startswith #[.bl _,H,I,rfl,q]
theorem sV:∀{l:List (Str×Tok)},Si ((l.map (·.1)).map V.str) (JO l)
 | []=>.nil
 |(x,t)::l=>.cons #[t,rfl] sV
inductive Gm(x:V)(vs:vl)(H:Hp)(Q:VK):Prop
 |mk(a b:_)(_:x=.str a)(_:vs=[.str b])(_:(b.9==0)=false)(_:a.9+2<=yr)(_:∀p,H p=none->Q (.ref p) (QZ H p (.lst ((Txt.split a b).map V.str))))
def tU(x y:Str):(partsBetween x (occurrences x y 0 x.9 (x.9+1)) y.9).9<=x.9+2:=by
 rw[length_partsBetween];have:=StrLaws.occ_length_le x y 0 x.9 (x.9+1);show Ca this 1
theorem aaV:Sw X "str.split" Gm:=by
 intros x vs v us Q I rx Z h;let#[a,b,rfl,rfl,L,G,q]:=h;let#[t,rfl]:=rx;let#[u,rfl,ru]:=Z.one;let#[t',rfl]:=ru;let fin:∀(l:List (Str×Tok))(k:Nat),l.map (·.1)=Txt.split a b->l.9<=yr->EP X Cr σ Q (.ref s.13) { s with heap:=s.heap.push { cls:=.type "list",data:=.seq (JO l).8 },toks:=k }:=λl k e hl=>by
  let Y:=I.laid (t':=k) (o:=.lst ((Txt.split a b).map V.str)) (λb ob q=>aV { cls:=.type "list",data:=.seq (JO l).8 } q) (BY _) (by
   rw[<-e];show#[hl<*[si,si],_,(0),sV,42])
  show#[138,Y,66]
 rcases(Bool.eq_false_or_eq_true (decide (a.9<b.9)||decide (Builtin.Str.strKind a<Builtin.Str.strKind b))).6 with h1|h1
 .rcases F:(occurrences a b 0 a.9 (a.9+1)).isEmpty with _|_
  .let U:=tU a b;show ZR zE (Q7 _ _ _) LR (Cy _ _) (meets_str_split_sep a b t t' h1 L F (Z5 G) (Oi U G)) ?_;change wants _ _ _ { s with toks:=_,heap:=s.heap.push { cls:=.type "list",data:=.seq (strsFrom s.toks (partsBetween a (occurrences a b 0 a.9 (a.9+1)) b.9)).8 } };rw[strsFrom_eq];show fin (numbered s.toks _) _ ((numbered_texts _ _).trans ((vr (ne_true_of_eq_false h1)).trans (vr (ne_true_of_eq_false F))).6) ?_;have:=Ur YL (numbered_texts s.toks (partsBetween a (occurrences a b 0 a.9 (a.9+1)) b.9));rw[si]at this;lia
  .show ZR zE (Q7 _ _ _) LR (Cy _ _) (meets_str_split_not_found a b t t' h1 L F)
    (fin [(a,t)] s.toks ((vr (ne_true_of_eq_false h1)).trans (C' F)).symm eW)
 .show ZR zE (Q7 _ _ _) LR (Cy _ _) (meets_str_split_cannot_occur a b t t' h1)
   (fin [(a,t)] s.toks (C' h1).symm eW)
inductive rJoin(K:Yi)(x:V)(vs:vl)(H:Hp)(Q:VK):Prop
 |mk(a p ss:_)(_:x=.str a)(_:vs=[.ref p])(_:bh K H p (ss.map V.str))(_:JoinOk a ss)(_:Q (.str (Txt.join a ss)) H)
theorem Am:∀{ss:gq}{vs:WX},Si (ss.map V.str) vs->∃l:List (Str×Tok),JO l=vs/\l.map (·.1)=ss
 | [],_,h=>by
  cases h;show#[[],1]
 |x::ss,_,h=>by
  cases h with
  |cons q t =>
   let#[k,rfl]:=q;let#[l,F,G]:=Am t;show#[(x,k)::l,by rw[<-F];rfl,by rw[<-G];rfl]
def ID:Sw X "str.join" (rJoin X.K):=by
 intros x vs v us Q I G Z h;let#[a,p,ss,rfl,rfl,L,U,q]:=h;let#[t,rfl]:=G;let#[u,rfl,ru]:=Z.one;cases ru;let#[XO,r,pl,hz]:=I.list L;let#[l,Y,F]:=Am r;show SC.join (l:=l) (pl.isList<*Y) F U λt' k=>#[.str (Txt.join a ss),120]
inductive Rh(x:V)(lo hi:vZ)(H:Hp)(Q:VK):Prop
 |mk(a:_)(_:x=.str a)(_:a.9<=yr)(_:Q (.str (Txt.slice a lo hi)) H)
def part_of{v:xr}{lo:vZ}(h:IsPart v lo):∃l:Option (Int×Tok),v=partValue l/\lo=l.map (·.1):=by
 cases h with
 |none=>show#[none,1]
 |int i t=>show#[some (i,t),1]
def LV:SY X Rh:=by
 intros x v qAh Z lo hi sl Q I U hs pl L h;let#[a,rfl,Y,q]:=h;let#[t,rfl]:=U;let#[l,rfl,rfl]:=part_of pl;let#[u,rfl,rfl]:=part_of L;show#["str",_,PySem.F.slot_str_getitem.lookup,Q7 _ _ _,?_];show wpAny_getItem_str_slice (st:=none) hs az ?_;let G:=Txt.slice_le a (l.map (·.1)) (u.map (·.1));unfold sliceMade;unfold Txt.slice at q G;split
 .rename_i h;rw[C' (show((1:Int)==1&&(strSliceIndices (l.map (·.1)) (u.map (·.1)) 1 a.9).9==a.9)=true from h)]at q;show#[.str a,H,I,#[0],q]
 .rename_i h;rw[vr (show ¬ ((1:Int)==1&&(strSliceIndices (l.map (·.1)) (u.map (·.1)) 1 a.9).9==a.9)=true from h)]at q G;show#[Oi G Y,#[.str _,120]]
def aac(Y:X.calm):cM X (.builtin "sum") (λxs H Q=>∃(p:ZX)(ns:N4),xs=[.ref p]/\bh X.K H p ns.17/\Q (.int ns.sum) H):=by
 intros xs us Q I r h;let#[p,ns,rfl,L,q]:=h;let#[u,rfl,ru]:=vals1 r;cases ru;let#[XO,Z,pl,hz]:=I.list L;let F:=intsAre_of Z;let U:=F.numsOf;let#[ys,e]:=F.allInts.items;let G:=pl.isList;rw[e]at G;show sum_intListG (I.ok.hd Y) G λh' tk t' hk=>?_;let hs:preSum (numAt ys) ys.3=ns.sum:=by
  rw[preSum_eq,Ye J0, <-nums_intItems, <-e];rw[show XO.toArray.toList=XO from rfl,U]
 show#[.int ns.sum,H,I.kept hk,#[_,by rw[hs]],q]
def To(x:Str):It:=#[λi _=>i<x.cps.3,λi H v J=>J=H/\∃c,x.cps[i]?^c/\v=.str #[([c].8)],λi _=>x.cps.3<=i]
variable{tg:YD}
def DN(x:Str)(t:Tok)(it:ZX):Turn P w K tg (To x) [it] it (λi h=>h.IsStrIter it (P9 x) x t i) where
 mem:=by simp
 obj:=λi h st b G=>by
  let e:b=it:=‹G›;subst e;let#[o,e,c,d]:=st;show#[o,e,λv z=>by rwa[d]at z]
 keep:=λi h h' st k=>let ⟨o,ho,r⟩:=st;#[o,k it J0 o ho,r]
 item:=by
  intro X hP hw hK hc i Cr s σ H E I Z st hg;subst hP hw hK;let Y:i<x.cps.3:=hg;let hx:x.cps[i]?^(x.cps[i]'(Y)):=Array.getElem?_eq_getElem Y;let#[L,U,f2,f3,f4,f5]:=Z it J0;let go:∀h',h'.IsStrIter it (P9 x) x t (i+1)->Heap.SameBut it s.heap h'->∃u,some (Value.str #[([x.cps[i]'(Y)].8)] s.toks)=some u /\
    ↑(Na tg (.ref it) u) (λ_ s2=>∃x' J,!J s2/\zH x' u/\(To x).Lu i H x' J/\s2.heap.IsStrIter it (P9 x) x t (i+1)/\∀b∈[it],J b=none) E { s with heap:=h',toks:=s.toks+1 }:=λh' F sb=>by
   let I1:!H { s with heap:=h',toks:=s.toks+1 }:=I.turned (t':=s.toks+1) (λb o G e=>(sb.2 b G).trans e) L U f3 f4 f5;let#[o,e,c,d]:=id F;show#[0,wk (s:={ s with heap:=h',toks:=s.toks+1 }) e c d ?_ #[.str #[([x.cps[i]'(Y)].8)],H,I1,#[0],#[5,hx,rfl],F,λb G=>(Z b G).1]];unfold P9;split<;>decide
  revert st go;unfold P9;split
  .intro st go;show wpAny_pyNext_ascii_item st hx λh' F sb=>go h' F sb
  .intro st go;show wpAny_pyNext_wide_item st hx λh' F sb=>go h' F sb
 done:=by
  intro X hP hw hK hc i Cr s σ H E I Z st hg;subst hP hw hK;let#[L,U,f2,f3,f4,f5]:=Z it J0;let hx:x.cps[i]?=none:=(by simp;show hg);revert st;unfold P9;split
  .intro st;show wpAny_pyNext_ascii_end (I.ok.hd hc) st hx λh' eb=>#[rfl,I.turned (t':=s.toks) eb L U f3 f4 f5]
  .intro st;show wpAny_pyNext_wide_end (I.ok.hd hc) st hx λh' eb=>#[rfl,I.turned (t':=s.toks) eb L U f3 f4 f5]
 self:=λA i s Q E st h=>by
  revert st;unfold P9;split
  .intro st;show wpAny_pyIter_striter_ascii st h
  .intro st;show wpAny_pyIter_striter_wide st h
def V4(td:TE):TI:=λσ H R=>td σ H λv H1=>∃x,v=.str x/\R (To x) H1
variable{e:YD}
def aad{td:TE}(Y:PE X e td):PI X tg e (V4 td):=by
 intros R I h;show b9 (Y Cr s σ H _ I h) λv F Z=>?_;let#[x,H1,G,L,y,ex,q]:=Z;subst ex;let#[t,rfl]:=L;show wpAny_pyIter_strU ?_;show#[F.13,[F.13],2,H1,rfl,G.kept (t':=F.toks) λb o e=>aV _ e,DN y t _,#[_,42,1],λb U=>?_,q];let e:b=F.13:=‹U›;subst e;show G.rl (BY _) (G.bK.fresh (BY _))
variable{x:Str}{te:TE}
def sU{sI:List (Str×Nat)}{F:List V->Hp->Prop}(Pv:Nat->List V->Hp->Prop)(I:Pv 0 [] H)
  (hs:∀i c ys H,x.cps[i]?^c->Pv i ys H->te (pN sI σ (some (.str #[([c].8)]))) H (λy L=>ys.9<yr/\Pv (i+1) (ys++[y]) L))
  (hd:∀ys H,Pv x.cps.3 ys H->F ys H):∃W:Nat->Nat->List V->Hp->Prop,(∃m,W 0 m [] H)/\jU sI wD te σ (To x) F W:=by
 show Jp Pv I hd (λys H p=>BY _) λi ys H G p=>?_;show#[G,?_];rintro v J ⟨rfl,c,U,rfl⟩;unfold wD;dsimp only;rw[C' rfl];show hs i c ys _ U p
variable{Yb:Pos}
def abT{v:YD}(Y:PE X v te):PE X (.FormattedValue v 114 none Yb) (λσ H Q=>te σ H λx H1=>∃a:Str,x=.str a/\(Tu a).9<=yr/\Q (.str (Tu a)) H1):=by
 intros Q I h;show wpAny_FormattedValue_repr (b9 (Y Cr s σ H _ I h) λu Z L=>?_);let#[x,H1,G,U,a,ex,F,q]:=L;subst ex;let#[tk,rfl]:=U;show wpAny_pyReprObj_str (adC ?_ ?_ F) F
 .show#[.str (Tu a),H1,G.tok _,#[0],q]
 .show#[.str (Tu a),H1,(G.tok _).tok _,#[0],q]
variable{u:TS}
def jJ{i:Nat}(k:∀Q:V->Hp->Prop,(∀x H1,u D (σ.set i (some x)) H1->Q x H1)->te σ H Q):kJ (BX te (iZ i)) u D σ H:=k _ λ_ _ h=>h
def wt(k:∀Q:V->Hp->Prop,(∀x H1,D.nx σ H1->Q x H1)->te σ H Q):Lz te D σ H:=k _ λ_ _ h=>h
variable{Q:Bool->Hp->Prop}
def bQ{A B:Hp->Prop}(e:Q=λb H1=>if b then A H1 else B H1):(∀H1,A H1->Q true H1)/\∀H1,B H1->Q false H1:=by
 subst e;show#[λ_ h=>de h,λ_ h=>cO h]
variable{t:TS}{c:TT}
def Kr{r:TS}(k:∀Q:Bool->Hp->Prop,(∀H1,t { D with nx:=r D } σ H1->Q true H1)->(∀H1,r D σ H1->Q false H1)->c σ H Q):kJ (Kw c t Ap) r D σ H:=k _ (bQ rfl).1 (bQ (A:=λH1=>t { D with nx:=r D } σ H1) rfl).2
def GL(k:∀Q:Bool->Hp->Prop,(∀H1,t D σ H1->Q true H1)->(∀H1,D.nx σ H1->Q false H1)->c σ H Q):Kw c t Ap D σ H:=k _ (bQ rfl).1 (bQ (A:=λH1=>t D σ H1) rfl).2
def WH{b:Bool}(t:b->Q true H)(f:¬ b->Q false H):Q b H:=by
 cases b
 .show f (by intro z;cases z)
 .show t rfl
def Oz{t:pB}(k:∀Q:Bool->Hp->Prop,(∀H1,t D R σ H1->Q true H1)->(∀H1,D.nx σ H1->Q false H1)->c σ H Q):Iu c t uI D R σ H:=k _ (bQ rfl).1 (bQ (A:=λH1=>t D R σ H1) rfl).2
def share(Pr:St->Hp->Prop)(mk:∀F,(∀σ H,Pr σ H->F D σ H)->kJ t F D σ H)(h:∀σ H,Pr σ H->u D σ H):kJ t u D σ H:=mk u h
inductive Md(P:By)(w:L3)(K:Yi)(mg:j5)(base:Heap)(cx:pJ)(k:Nat)(C:ZX)(m:Str)(sp:Sp):Prop
 |mk(f:ZX)(fd:C6)(ps:gq)(_:aO P w K mg base cx k f fd ps sp)(_:Nl K fd ps [])(_:Meth K C m f)
inductive Df(P:By)(w:L3)(K:Yi)(mg:j5)(base:Heap)(cx:pJ)(k:Nat)(x:Str)(sp:Sp):Prop
 |mk(f:ZX)(fd:C6)(ps:gq)(_:aO P w K mg base cx k f fd ps sp)(_:Nl K fd ps [])(_:mg x^.ref f)(_:Zk K (.ref f))
variable{CX:pJ}{k j:Nat}{C:ZX}{sp:Sp}{E:XK}{m:Str}{apos:Pos}{o:YD}{es:fK}{ta:TE}{t:TA}{pl:Sem Bool}
def pm(I:PE X o ta)(c:ph X.K C)(F:Md X.prog X.w X.K X.mg X.base CX k C m sp)(U:cZ j X.A)(hx:Passes CX X E)(L:PA X (e::es) t)(hk:%[k<=j|0])
  (G:%[iL X e es|0]) (Y:%[(backTo Yb es.15).any (·.1)=false|0])
  (Z:%[Ph X o m apos Yb pl (e::es)|0]) :
  PE X (.Call (.Attribute o m apos) (e::es) [] Yb) (wW C m sp [] E ta t):=by
 let#[f,fd,_,g,b,q]:=F;show mz I c q g (U.mono hk) b .nil hx L G Y Z
def JU(G:PE X o ta)(c:ph X.K C)(F:Md X.prog X.w X.K X.mg X.base CX k C m sp)(I:cZ j X.A)(hx:Passes CX X E)(hk:%[k<=j|0])
  (L:%[Ph X o m apos Yb pl []|0]) :
  PE X (.Call (.Attribute o m apos) [] [] Yb) (wW C m sp [] E ta wV):=by
 let#[f,fd,_,g,b,q]:=F;show acU G c q g (I.mono hk) b .nil hx L
variable{p:Pos}
def pc(F:Df X.prog X.w X.K X.mg X.base CX k x sp)(L:cZ j X.A)(hx:Passes CX X E)(I:PA X (e::es) t)(Y:%[Gl X x|0])(hk:%[k<=j|0])
  (Z:%[x.14|0]) (G:%[iL X e es|0]) (U:%[(backTo Yb es.15).any (·.1)=false|0]) :
  PE X (.Call (.Name x p) (e::es) [] Yb) (Em sp [] E t):=by
 let#[f,fd,_,g,b,q,r]:=F;show acf g (L.mono hk) Y q r b .nil hx I Z G U
theorem tP{α β:Type}(f:α->β):∀(l:List α)(i:Nat),(l.map f).eraseIdx i=(l.eraseIdx i).map f
 | [],_=>rfl
 |_::_,0=>rfl
 |a::l,i+1=>by
  change f a::(l.map f).eraseIdx i=f a::(l.eraseIdx i).map f;rw[tP f l i]
inductive zK(x:V)(vs:vl)(H:Hp)(Q:VK):Prop
 |mk(l:ZX)(ns:N4)(k:Int)(_:x=.ref l)(_:vs=[.int k])(_:H l%ns.17)(_:k∈ns)(_:Q .bu (QZ H l (.lst ((ns.erase k).map V.int))))
theorem Co:KO X "list.remove" zK:=by
 intros x vs v us Q I rx rv h;let#[l,ns,k,rfl,rfl,U,hk,q]:=h;cases rx;let#[u,rfl,ru]:=rv.one;let#[t,rfl]:=ru;let#[z,XO,n,r,L,e]:=I.pI U;let hi:=intsAre_of r;let hlen:=hi.9;let ab:=L;rw[si]at L z;let G:ns.idxOf k<ns.9:=List.idxOf_lt_length_iff.mpr hk;show ZR acK #[67] PySem.F.entry_list_remove (PySem.F.args_list_remove_2 _ _)
  (MeetsSeq.list_remove l XO.8 n (.int k t) (isInt k) (λy hy=>eq_isInt k t hi y ‹hy›) (ns.idxOf k) (by simpa[hlen]using G) ?_ ?_ (by rw[Yg];lia)) #[e,?_]
 .change isInt k XO[ns.idxOf k];rw[isInt_at k hi _ ak G];simpa using List.getElem_idxOf G
 .intro j Z Y;change isInt k XO[j]=false;rw[isInt_at k hi j ‹Z› ak];show ne_of_lt_idxOf Y _
 .show#[.bu,_,I.Jk (its':=XO.eraseIdx (ns.idxOf k)) U e ?_ ?_ ?_,?_,q]
  .change XO.toArray.eraseIdxIfInBounds _=(XO.eraseIdx _).8;rw[abm]
  .rw[List.erase_eq_eraseIdx_of_idxOf rfl, <-tP];show r.eraseIdx _
  .rw[si];have:=List.length_erase_of_mem hk;lia
  .trivial
def lG(I:PE X.kR o ta)(c:ph X.K C)(F:Md X.prog X.w X.K X.mg X.base (bO X.prog X.w) k C m sp)(U:cZ j X.A)(L:PA X.kR (e::es) t)(hex:%[X.ex=[]|0])(hk:%[k<=j|0])
  (G:%[iL X e es|0]) (Y:%[(backTo Yb es.15).any (·.1)=false|0])
  (Z:eval (.Call (.Attribute o m apos) (e::es) [] Yb) X.env=(do
   let ov <-eval o X.env
   X6 apos.atName
   let (f,first) <-y7 [ov] (getMethod ov m pl)
   Q' Yb f first (backTo Yb (starEach (e::es) X.env)) (Xz Yb (KU [] X.env))):=by rfl) :
  zX X (.Call (.Attribute o m apos) (e::es) [] Yb) (vI C m sp [] ta t):=by
 let#[f,fd,_,g,b,q]:=F;show ie I c q g (U.mono hk) hex b .nil L G Y Z
def kI(F:Df X.prog X.w X.K X.mg X.base (bO X.prog X.w) k x sp)(L:cZ j X.A)(I:PA X.kR (e::es) t)(hex:%[X.ex=[]|0])(Y:%[Gl X x|0])(hk:%[k<=j|0])
  (Z:%[x.14|0]) (G:%[iL X e es|0]) (U:%[(backTo Yb es.15).any (·.1)=false|0]) :
  zX X (.Call (.Name x p) (e::es) [] Yb) (G3 sp [] t):=by
 let#[f,fd,_,g,b,q,r]:=F;show rR g (L.mono hk) hex Y q r b .nil I Z G U
def Xb(r:R2)(tx:Dn)(tb:TE):Dn:=λσ H Q R=>tx σ H (λx H1=>tb σ H1 λy H2=>r x y H2 Q) R
variable{tx:Dn}
def abC{r:R2}{a b:YD}{tb:TE}(F:Bv X.kR r)(ha:zX X a tx)(U:PE X.kR b tb)(hs:vb b):zX X (.Subscript a b Yb) (Xb r tx tb):=by
 intros Q R I h;show BB (YK (ha Cr s σ H _ R I h) (λv L z=>?_) λ_ _ z=>z);let#[x,H1,Y,G,q1]:=z;show nx (U Cr L σ H1 _ (Y.iw _) q1) λu s2 z2=>?_;let#[y,H2,I2,Z,q2]:=z2;show nx (F a b Cr s2 σ H2 x y v u Q I2 G Z q2 (hs _ _)) λ_ _ z=>z.bZ
abbrev L9:=St->Hp->(List V->Hp->Prop)->(xr->Hp->Prop)->Prop
def Tp(X:Cx)(es:fK)(t:L9):=
 ∀(Yb:Pos)(Cr:Jr)(s:ti)(σ:St)(H:Hp)(Q:List V->Hp->Prop)(R:xr->Hp->Prop),!H s->t σ H Q R->↑(pS (backTo Yb es.15)) (AP X Cr σ Q) (XP X Cr λF cls J=>F=σ/\R cls J) s
def OF(te:TE)(t:L9):L9:=λσ H Q R=>te σ H λx H1=>t σ H1 (λxs H2=>Q (x::xs) H2) R
def Pc(tx:Dn):L9:=λσ H Q R=>tx σ H (λx H1=>Q [x] H1) R
variable{t:L9}
def Hx(ha:PE X.kR e te)(L:Tp X es t)(hs:%[iL X e es|0]):Tp X (e::es) (OF te t):=by
 intro Yb Cr s σ H Q R I h;rw[hs];change wpAny _ _ (pS ((false,eval e X.env)::backTo Yb es.15)) _ _ s;show Calls.spliced_cons (nx (ha Cr s σ H _ (I.iw _) h) λu U z=>?_);let#[x,H1,Y,G,q1]:=z;show YK (L Yb Cr U σ H1 _ R Y.bZ q1) (λus s2 z2=>?_) λ_ _ z=>z;let#[xs,H2,F,Z,q2]:=z2;show#[x::xs,H2,F,.cons G Z,q2]
def DC(L:zX X e tx)(hs:%[starEach [e] X.env=[(false,eval e X.env)]|0]):Tp X [e] (Pc tx):=by
 intro Yb Cr s σ H Q R I h;rw[hs];change wpAny _ _ (pS [(false,eval e X.env)]) _ _ s;show Calls.spliced_cons (YK (L Cr s σ H _ R I h) (λu Y z=>?_) λ_ _ z=>z);let#[x,H1,G,F,U]:=z;show Calls.spliced_nil #[[x],H1,G,.cons F .nil,U]
def HU(sp:Sp)(t:L9):Dn:=λσ H Q R=>t σ H (λvs H1=>sp vs H1 Q λcls _ J=>R cls J) R
def Vx(F:Df X.prog X.w X.K X.mg X.base (bO X.prog X.w) k x sp)(L:cZ j X.A)(ha:Tp X (e::es) t)(hex:%[X.ex=[]|0])(Z:%[Gl X x|0])(hk:%[k<=j|0])
  (ab:%[x.14|0]) (he:%[iL X e es|0]) (Y:%[(backTo Yb es.15).any (·.1)=false|0]) :
  zX X (.Call (.Name x p) (e::es) [] Yb) (HU sp t):=by
 let#[f,fd,_,g,b,q,r]:=F;intros Q R I h;show Z3 (i9 I Z q ?_ ab);show Ex (h₀:=X.base) I.ok.mod.FK r (YK (ha Yb Cr s σ H _ R I h) (λus s1 z=>?_) λ_ _ z=>z) he Y;let#[vs,H1,G,U,q1]:=z;show#[G.jY,?_];show qx g (L.mono hk) b (dvs:=[]) .nil hex G U (q1<*Yw)
def d7{v:V}(h:∃u,X.mg x^u/\zH v u)(F:%[Gl X x|0])(hd:%[x.14|0]):PE X (.Name x Yb) (tC v):=by
 let#[u,m,r]:=h;show i5 F m r hd
def eM.up(h:eM K (λ_=>none) a xs)(H:Hp):eM K H a xs:=by
 obtain h|h:=h
 .rcases h with h|⟨_,h⟩<;>cases h
 .show .inr h
variable{ws:N4}{s:Nat}
theorem qh:dJ ws.17 (some (s:Int)) (some ((s:Int)+(n:Int)))=((ws.drop s).take n).map V.int:=by
 unfold dJ;rw[show((s:Int)+(n:Int))=((s+n:Nat):Int)by lia,HT.kA,HT.kA,si, <-map_drop, <-RQ];show Ur (ua V.int) ?_;cases h:s<=ws.9
 .rw[YV h];cases h2:s+n<=ws.9
  .rw[YV h2,YW]
  .rw[MG ak,Ye (by rw[YB];lia),Ye (by rw[YB];lia)]
 .rw[MG (show ws.9<=s by lia),Y3 (BY _),Y3 (show ws.9<=s by lia),w4,w4]
def jb:dJ ws.17 none (some (s:Int))=(ws.take s).map V.int:=by
 unfold dJ;rw[HT.kA,HT.mC,vz,Nat.sub_zero,si, <-RQ];show Ur (ua V.int) ?_;cases h:s<=ws.9
 .rw[YV h]
 .rw[MG ak,Ye (BY _),Ye ak]
theorem jn:dJ ws.17 (some (s:Int)) none=(ws.drop s).map V.int:=by
 unfold dJ;rw[HT.kA,HT.mC,si, <-map_drop, <-RQ];show Ur (ua V.int) ?_;cases h:s<=ws.9
 .rw[YV h,Ye (by rw[YB];lia)]
 .rw[MG ak,Y3 (BY _),Y3 ak,w4]
def vC(L:PE X.kR o ta)(c:ph X.K C)(F:Md X.prog X.w X.K X.mg X.base (bO X.prog X.w) k C m sp)(G:cZ j X.A)(hex:%[X.ex=[]|0])(hk:%[k<=j|0])
  (I:eval (.Call (.Attribute o m apos) [] [] Yb) X.env=(do
   let ov <-eval o X.env
   X6 apos.atName
   let (f,first) <-y7 [ov] (getMethod ov m pl)
   Q' Yb f first (backTo Yb (starEach [] X.env)) (Xz Yb (KU [] X.env))):=by rfl) :
  zX X (.Call (.Attribute o m apos) [] [] Yb) (vI C m sp [] ta wV):=by
 let#[f,fd,_,g,b,q]:=F;show om L c q g (G.mono hk) hex b .nil I
def yD{t u:pB}(Pr:St->Hp->Prop)(mk:∀F,(∀σ H,Pr σ H->F D R σ H)->pA t F D R σ H)(h:∀σ H,Pr σ H->u D R σ H):pA t u D R σ H:=mk u h
end
end L2
namespace L2
variable{σ:St}{H:Hp}
mutual
def U5{a u:TS}{D:Ends}(k:∀R:St->Hp->Prop,(∀σ H,u D σ H->R σ H)->a { D with nx:=R } σ H):kJ a u D σ H:=k _ λ_ _ h=>h
open PySem PySem.Spec PyProof.Rows
variable{A:Ys}{s:ti}
theorem rF{prog:By}{E:gJ}{t:ZX}{XO:WX}{x:xr}{e:xr->Bool}{j:Nat}{P:Fin->ti->Prop}(L:IsTup s.heap t XO.8)(he:∀y∈XO,Lg A s y x (e y))(I:(XO[j]?).map e^true)(Z:∀i,i<j->(XO[i]?).map e^false)
  (h:P (.done (.ret (.int j s.toks))) { s with toks:=s.toks+1 }):wpAny w.16 A (Builtin.«tuple.index» #[[.ref t,x],[]]) P E s:=by
 change wpAny _ _ (Builtin.Tuple.tupleItemsOf (.ref t)>>=_) _ _ s;show yl (tupleItemsOf_ L ?_);simp only[pure_bind];rw[BG,Yg,adW];let jl:j<XO.9:=by
  cases q:XO[j]? with
  |none=>rwa[q]at I
  |some y=>show(wh.mp q).1
 show yl (wpAny_forIn_list _ (λrest b s'=>b.1=none/\s'=s/\∃i,i<=j/\rest=List.range' i (XO.9-i)) _ ?_ ?_ _ _ #[1,(0),Zy _,by simp[afD]])
 .rintro k rest b s' ⟨U,rfl,i,hi,G⟩;obtain⟨m,Y⟩:∃m,XO.9-i=m+1:=#[XO.9-i-1,ak];rw[Y,List.range'_succ]at G;injection G with h1 h2;subst h1 h2;let F:k<XO.9:=ak;let e1:XO.8[k]?=some XO[k]:=(by simp[F]);rw[e1];show yl (he _ (Zr F) prog w E _ ?_);cases z:k=j
  .subst z;rw[vu F]at I;rw[OR I,C' rfl];show yl (yl (wpAny_mkInt (wpAny_pure (wpAny_pure (wpAny_pure h)))))
  .have:=Z k ak;rw[vu F]at this;rw[OR this,vr (by nofun)];show wpAny_pure #[1,k+1,ak,by rw[show XO.9-(k+1)=m by lia]]
 .rintro⟨b1,b2⟩ s' ⟨U,rfl,i,hi,G⟩;have:=Ur YL G;rw[List.length_range']at this;simp at this;lia
inductive Bo(K:Yi)(x:V)(vs:vl)(H:Hp)(Q:VK):Prop
 |mk (p:ZX) (xs:vl) (y:V) (j:Nat) (_:x=.ref p) (_:vs=[y]) (_:eM K H p xs) (_:xs.all gg) (_:gg y) (_:(xs[j]?).map (λz=>nZ z y)^true) (_:∀i,i<j->(xs[i]?).map (λz=>nZ z y)^false) (_:Q (.int (j:Nat)) H):Bo K x vs H Q
variable{X:Cx}
def CO:KO X "tuple.index" (Bo X.K):=by
 intros x vs v us Q I rx rv h;let#[p,xs,y,j,rfl,rfl,hT,L,f2,h1,h2,q]:=h;cases rx;let#[u,rfl,ru]:=rv.one;let#[XO,r,G,hz]:=I.tuple hT;let U:∀i b,(xs[i]?).map (λz=>nZ z y)^b->(XO[i]?).map (Gg y)^b:=λi b Z=>by
  let#[z,Y,e2]:=NC.mp Z;let#[w,ew,ab]:=r.get Y;rw[ew,DK,yL ab (Z0.mp L z (Yk Y)),e2]
 show IE acL G.typeIs PySem.F.entry_tuple_index (rF (e:=Gg y) G (qN ru f2 r L) (U j true h1) (λi hi=>U i false (h2 i hi)) #[0,#[.int (j:Nat),120]]) (PySem.F.args_tuple_index_2 _ _)
theorem Md.imp{I:pJ}{k k':Nat}{C:ZX}{m:Str}{sp L:Sp}(G:Md P w K mg base I k C m sp)(hk:k<=k')(h:∀vs H Q E,L vs H Q E->sp vs H Q E):Md P w K mg base I k' C m L:=by
 let#[f,fd,ps,F,B,M]:=G;show#[f,fd,ps,(F.mono hk).imp h,B,M]
open PySem.Builtin.Str
inductive ui(x:V)(vs:vl)(H:Hp)(Q:VK):Prop
 |mk(a b:Str)(i:Nat)(rest:List Nat)(_:x=.str a)(_:vs=[.str b])(_:occurrences a b 0 a.9 1=i::rest)(_:Q (.int (i:Nat)) H)
def Cv:KO X "str.index" ui:=by
 intros x vs v us Q I L U h;let#[a,b,i,rest,rfl,rfl,G,q]:=h;let#[t,rfl]:=L;let#[u,rfl,ru]:=U.one;let#[t',rfl]:=ru;show call_gives adk (Q7 _ _ _) PySem.F.entry_str_index (PySem.F.args_str_index_2 _ _) (gives_str_index a b t t' i rest G) #[.int (i:Nat),120]
variable{sI:List (Str×Nat)}{te:TE}{lo st:Int}{n:Nat}
def xT{tt:TT}{G:List V->Hp->Prop}(Pv:Nat->List V->Hp->Prop)(I:Pv 0 [] H)
  (hs:∀i ys H,i<n->Pv i ys H->tt (pN sI σ (some (.int (lo+i*st)))) H λb H2=>if b then te (pN sI σ (some (.int (lo+i*st)))) H2 (λy L=>ys.9<yr/\Pv (i+1) (ys++[y]) L)else Pv (i+1) ys H2)
  (hd:∀ys H,Pv n ys H->G ys H):∃W:Nat->Nat->List V->Hp->Prop,(∃m,W 0 m [] H)/\jU sI tt te σ (Js lo st n) G W:=by
 show Jp Pv I hd (λys H p=>BY _) λi ys H F p=>?_;show#[F,λx J y=>?_];let#[e,y]:=y;subst e y;show hs i ys _ F p
def xi{F:List V->Hp->Prop}(Pv:Nat->List V->Hp->Prop)(G:Pv 0 [] H)
  (hs:∀i ys H,i<n->Pv i ys H->te (pN sI σ (some (.int (lo+i*st)))) H (λy I=>ys.9<yr/\Pv (i+1) (ys++[y]) I))
  (hd:∀ys H,Pv n ys H->F ys H):∃W:Nat->Nat->List V->Hp->Prop,(∃m,W 0 m [] H)/\jU sI wD te σ (Js lo st n) F W :=
 xT Pv G (λi ys H hi p=>by
  change if true then _ else Pv (i+1) ys H
  rw[C' rfl];show hs i ys H hi p) hd
open C8
inductive Es(K:Yi)(xs:vl)(H:Hp)(Q:VK):Prop
 |mk(p:ZX)(ns:gq)(_:xs=[.ref p])(_:bh K H p (ns.map V.str))(_:ns.4)(_:ns.9<=1000)(_:∀l,H l=none->Q (.ref l) (QZ H l (.lst ((uZ ns).map V.str))))
theorem vL:cM X (.builtin "sorted") (Es X.K):=by
 intros xs us Q I r h;let#[p,ns,rfl,Y,ab,hn,q]:=h;let#[u,rfl,ru]:=vals1 r;cases ru;let#[XO,L,pl,_]:=I.list Y;let Z:=L.9;rw[si]at Z;let#[G,al]:=xR L;show oQ pl.isList ak Eh (ab<*G) (λA=>pos al) (λh2 A Q q=>PySem.W.kas_kind h2 (T:=.type "str") (λv F=>?_) az az q) λout a1 a2=>?_
 .let#[x,t,rfl]:=al v F;show λA Q E s _ q=>wpAny_pure q
 let#[e,he]:=sortedAll_at s.heap XO out;let hs:=HC;let es:out.toList.map Hq=uZ ns:=len_app (by rw[<-G];show a1.map _) (OO.mpr a2);let U:=wu λv F=>al v (a1.mem_iff.mp F);rw[es]at U;show#[.ref (s.13+1),_,I.laid (t':=s.toks) (λb o e=>sortedAll_old e) (uO _) (show cz X.prog X.w _ _ _ (.lst ((uZ ns).map V.str))from#[by rw[si, <-es,si,a1.length_eq];lia,out.7,e,U,by simpa using he]),rfl,q _ (I.bK.fresh (uO _))]
structure kL(H:Hp)(ws:vl)(ps:List (Str×Int)):Prop where
 ln:ws.9=ps.9
 at_:∀(i:Nat)(v:V),ws[i]?^v->∃p t,ps[i]?^p/\v=.ref t/\H t|||[.str p.1,.int p.2]
inductive DB(K:Yi)(xs:vl)(H:Hp)(Q:VK):Prop
 |mk(p:ZX)(ws:vl)(ps:List (Str×Int))(_:xs=[.ref p])(_:bh K H p ws)(_:kL H ws ps)(_:(ps.map (·.1)).4)(_:ps.9<=1000)(_:∀l Ws,H l=none->kL H Ws (iD ps)->Q (.ref l) (QZ H l (.lst Ws)))
theorem ux:cM X (.builtin "sorted") (DB X.K):=by
 intros xs us Q I r h;let#[p,ws,ps,rfl,hp,ta,ab,hn,q]:=h;let#[u,rfl,ru]:=vals1 r;cases ru;let#[XO,rv,pl,hz]:=I.list hp;let hl:=rv.9;let as:=ta.ln;let al:∀(j:Nat)(v:xr),XO[j]?^v->∃F t,ps[j]?^F/\v=.ref t/\H t|||[.str F.1,.int F.2]/\IsT s.heap v F:=λj v G=>by
  let Z:=(wh.mp G).1;obtain⟨x,ex⟩:∃x,ws[j]?^x:=#[_,vu ak];let#[F,t,Y,rfl,U]:=ta.at_ j x ex;let#[v',e2,ap]:=rv.get ex;rwa[G]at e2;cases ap;let#[ay,r2,ac,_]:=I.tuple (eM.of U);show#[F,t,Y,rfl,U,?_];cases r2 with
  |cons a r2 =>
   let#[t1,rfl]:=a;cases r2 with
   |cons b r3 =>
    let#[t2,rfl]:=b;cases r3;show#[t,t1,t2,rfl,ac]
 let am:∀v∈XO,∃F∈ps,IsT s.heap v F:=λv G=>by
  let#[j,Z]:=Ug.mp G;let#[F,t,e,_,_,i]:=al j v Z;show#[F,Yk e,i]
 let em:XO.map (ki s.heap)=ps:=TY λj=>by
  rw[IF];cases e:XO[j]? with
  |none=>rw[P8]at e;rw[map_none,eq_comm,P8];lia
  |some v =>
   let#[F,t,Y,_,_,i]:=al j v e;rw[Y,DK,mJ i]
 show oQ pl.isList ak Eh ?_ (λA=>its ab (λb o e=>Ef e) am) (λh2 A Q q=>?_) λout a1 a2=>?_
 .let e3:=Ur (ua λp:Str×Int=>p.1) em;rw[vv]at e3;rw[show(XO.map λv=>(ki s.heap v).1)=ps.map (·.1)from e3];show ab
 .let ad:∀v∈XO,∃F,IsT (pU (K5 s XO) (s.13+1) XO).heap v F:=λv G=>by
   let#[F,_,a,t,u,e,o,g,c]:=am v G;show#[F,a,t,u,e,o,Ef g,c]
  let#[fs,k1,k2,k3]:=x8 ad;show PySem.W.kat_kind (T:=.type "str") k1 ak (λv G=>?_) az ?_
  .let#[x,t,rfl]:=k3 v G;show λA Q E s _ q=>wpAny_pure q
  .rw[show((Value.type "str" != Value.type "tuple")=true)by decide];show q
 let#[e,he]:=sortedAll_at s.heap XO out;let es:out.toList.map (ki s.heap)=iD ps:=kvs ab (by rw[<-em];show a1.map _) (OO.mpr a2);let ar:∀v∈out.7,∃t,v=Value.ref t/\H t|||[.str (ki s.heap v).1,.int (ki s.heap v).2]:=λv G=>by
  let#[j,Z]:=Ug.mp (a1.mem_iff.mp G);let#[F,t,_,Y,U,i]:=al j v Z;rw[mJ i];show#[t,Y,U]
 obtain⟨L,vo,wo⟩:∃L,Si L out.7/\kL H L (out.toList.map (ki s.heap)):=by
  generalize out.7=l at ar;clear es e he a1 a2 out
  induction l with
  |nil=>show#[[],.nil,136]
  |cons v l ih =>
   let#[L,h1,h2]:=ih λu hu=>ar u (Yp _ hu);let#[t,e,U]:=ar v Yn;show#[.ref t::L,.cons e h1,by rw[YU,Y5,YU,h2.ln],λi x hx=>?_];cases i with
   |zero=>cases hx;show#[_,t,1,U]
   |succ i=>show h2.at_ i x hx
 rw[es]at wo;let lo:=vo.9;rw[a1.length_eq]at lo;show#[.ref (s.13+1),_,I.laid (t':=s.toks) (λb o e=>sortedAll_old e) (uO _) (show cz X.prog X.w _ _ _ (.lst L)from#[ak,out.7,e,vo,by simpa using he]),rfl,q _ L (I.bK.fresh (uO _)) wo]
def mw(x:V):Bool:=match x with
 |.bu=>true
 |_=>false
def pe(v:xr):Bool:=match v with
 |.none=>true
 |_=>false
structure Qp(K:Yi)(H:Hp)(xs:vl):Prop where
 at_:∀x∈xs,x=.bu\/∃t ys,x=.ref t/\eM K H t ys
variable{xs:vl}{us:WX}
def xA{Cr:Jr}(I:!H s)(G:A.units<ff)(v:Si xs us)(h:Qp X.K H xs):∀u∈us,Lg A s u .none (pe u):=by
 intro u m
 induction v with
 |nil=>cases m
 | @cons x _ _ _ r _ U =>
  obtain rfl|m:=Yu.mp m
  .rcases h.at_ x Yn with rfl|⟨t,ys,rfl,L⟩
   .cases r;show afh _
   .cases r;let#[XO,_,pl,_]:=I.tuple L;show SeqAt.EqAt.tuple_none pl G
  .show U #[λy F=>h.at_ y (Yp _ F)] m
def AX(v:Si xs us)(h:Qp X.K H xs):us.map pe=xs.map mw:=by
 induction v with
 |nil=>rfl
 | @cons x _ _ _ r _ G =>
  rw[Y5,Y5,G #[λy F=>h.at_ y (Yp _ F)]];obtain rfl|⟨t,ys,rfl,I⟩:=h.at_ x Yn
  .cases r;rfl
  .cases r;rfl
inductive R7(K:Yi)(x y:V)(H:Hp)(Q:VK):Prop
 |mk(p:ZX)(xs:vl)(_:x=.bu)(_:y=.ref p)(_:bh K H p xs)(_:Qp K H xs)(_:Q (.bl (xs.any mw)) H)
def Mf(L:X.A.units+1<ff):mf X (Zp .In) (R7 X.K):=by
 intros x y v u Q I U Y h;let#[p,xs,rfl,rfl,Z,F,q]:=h;cases U;cases Y;let#[XO,r,pl,hz]:=I.list Z;show afi pe pl.isList (λw G=>xA I L r F w ‹G›) #[.bl _,H,I,3];rw[show XO.toArray.any pe=XO.any pe by simp,show XO.any pe=xs.any mw by
  have:=Ur (List.any · id) (AX r F)
  (rw[any_map,any_map]at this;assumption)]
 show q
inductive Bq(K:Yi)(x:V)(vs:vl)(H:Hp)(Q:VK):Prop
 |mk(l:ZX)(xs:vl)(j:Nat)(_:x=.ref l)(_:vs=[.bu])(_:H l%xs)(_:Qp K H xs)(_:(xs[j]?).map mw^true)(_:∀i,i<j->(xs[i]?).map mw^false)(_:Q (.int (j:Nat)) H)
def BW(hu:X.A.units+1<ff):KO X "list.index" (Bq X.K):=by
 intros x vs v us Q I rx rv h;let#[l,xs,j,rfl,rfl,hH,L,h1,h2,q]:=h;cases rx;let#[u,rfl,ru]:=rv.one;cases ru;let#[z,XO,n,r,hl,e]:=I.pI hH;let em:=AX r L;let G:∀(i:Nat)(b:Bool),(xs[i]?).map mw^b->(XO[i]?).map pe^b:=λi b Z=>by
  have:=Ur (λl:List Bool=>l[i]?) em;simp only[IF]at this;rw[this];show Z
 let U:j<XO.9:=by
  have:=G j true h1;cases q:XO[j]? with
  |none=>rwa[q]at this
  |some y=>show(wh.mp q).1
 let hs:=HC;show ZR RJ #[67] acM (acp _ _)
  (aez l XO.8 n none ([].8) .none pe j ‹U› ak ?_ ?_) #[e,λy hy=>xA I hu r L y ‹hy›,#[.int (j:Nat),120]]
 .have:=G j true h1;rw[vu U]at this;simpa using this
 .intro i hi Y;have:=G i false (h2 i Y);rw[vu ‹hi›]at this;simpa using this
def OE{v:YD}{Yb:Pos}(U:PE X v te):PE X (.FormattedValue v (-1) none Yb) (λσ H Q=>te σ H λx H1=>∃a:Str,x=.str a/\a.9<=yr/\Q (.str a) H1):=by
 intros Q I h;show ach (b9 (U Cr s σ H _ I h) λu Y z=>?_);let#[x,H1,F,L,a,ex,G,q]:=z;subst ex;let#[tk,rfl]:=L;show adC ?_ ?_ G
 .show#[.str a,H1,F,#[0],q]
 .show#[.str a,H1,F.tok _,#[0],q]
end
end L2
namespace L2
variable{σ:St}{H:Hp}
mutual
def IM{t u:pB}{R:XR}{D:Ends}(Pr:St->Hp->Prop)(mk:∀F:pB,(∀σ H,Pr σ H->F D R σ H)->pA t F D R σ H)(h:∀σ H,Pr σ H->u D R σ H):pA t u D R σ H:=mk u h
open PySem
variable{ws:vl}{ps:List (Str×Int)}
def kL.same{J:Hp}(A:kL H ws ps)(o:∀t ys,H t|||ys->J t|||ys):kL J ws ps:=#[A.ln,λi v h=>by
 let#[p,t,e,F,e3]:=A.at_ i v h;show#[p,t,e,F,o _ _ e3]]
def kL.nil:kL H [] []:=#[136]
variable{us:vl}
def kL.app{qs:List (Str×Int)}(A:kL H ws ps)(B:kL H us qs):kL H (ws++us) (ps++qs):=by
 let l:=A.ln;show#[by rw[tp,tp,l,B.ln],λi v h=>?_];cases c:i<ws.9
 .rw[Yo c]at h;let#[p,t,e,q]:=A.at_ i v h;show#[p,t,e<*Yo ak,q]
 .rw[Ya ak]at h;let#[p,t,e,q]:=B.at_ _ v h;show#[p,t,by rw[Ya ak, <-l];show e,q]
def kL.one{t:ZX}{p:Str×Int}(h:H t|||[.str p.1,.int p.2]):kL H [.ref t] [p]:=#[rfl,λi v e=>by
 cases i with
 |zero=>cases e;show#[p,t,1,h]
 |succ i=>cases e]
theorem kL.last{v:V}{b:List (Str×Int)}{x:Str×Int}(A:kL H ws (b++[x])):∃us t,ws=us++[.ref t]/\kL H us b/\H t|||[.str x.1,.int x.2]:=by
 let l:=A.ln;rw[tp,Yq]at l;let ne:ws≠[]:=λz=>(by rw[z]at l;simp at l);obtain⟨us,y,rfl⟩:∃us y,ws=us++[y]:=#[2,(YG ne).6];rw[tp,Yq]at l;let#[p,t,e,rfl,F]:=A.at_ us.9 y (by rw[Ya (BY _),ZU];rfl);rwa[Ya ak,show us.9-b.9=0 by lia]at e;show#[us,t,rfl,#[ak,λi v h=>?_],F];let hi:=(wh.mp h).1;let#[p,t2,e,q]:=A.at_ i v (h<*Yo hi);rw[Yo ak]at e;show#[p,t2,e,q]
variable{l:ZX}{xs:vl}
def kL.upd{o:HO}(A:kL H ws ps)(h:H l%xs):kL (L2.QZ H l o) ws ps:=A.same λt ys e=>by
 rw[au (λz=>by rwa[z,h]at e)];show e
open PySem.Spec PyProof.Rows
variable{X:Cx}{k:Nat}{C:ZX}{ps:gq}{sp:Sp}{x:Str}{p Yb apos:Pos}{es:fK}{t:TA}{pl:Sem Bool}
def aeC{CX:pJ}{E:XK}{e:YD}(hm:∃u,X.mg x^u/\zH (.ref C) u)(c:PySem.W.Gy X.K C f)(F:aO X.prog X.w X.K X.mg X.base CX k f fd ps sp)(hr:cZ k X.A)(Z:Nl X.K fd ps [])(hx:Passes CX X E)(ha:PA X (e::es) t)(hg:%[Gl X x|0])(hd:%[x.14|0])
  (ab:%[iL X e es|0]) (U:%[(backTo Yb es.15).any (·.1)=false|0])
  (Y:eval (.Call (.Attribute (.Name x p) "__init__" apos) (e::es) [] Yb) X.env=(do
   let ov <-eval (.Name x p) X.env
   X6 apos.atName
   let (f,first) <-y7 [ov] (getMethod ov "__init__" pl)
   Q' Yb f first (backTo Yb (starEach (e::es) X.env)) (Xz Yb (KU [] X.env))):=by rfl) :
  PE X (.Call (.Attribute (.Name x p) "__init__" apos) (e::es) [] Yb) (Em sp [] E t):=by
 intros Q I h;let hn:PE X (.Name x p) (tC (.ref C)):=d7 hm hg hd;show Jc (pl:=pl) (b9 (hn Cr s σ H (λv H1=>v=.ref C/\H1=H) I #[1]) λu s1 z=>?_) Y;let#[v,H1,G,rx,rfl,rfl]:=z;obtain rfl:u=Value.ref C:=rx;show PySem.W.Jw G.jY c ?_;show Ex (first:=[]) (h₀:=X.base) I.ok.mod.FK c.kp (b9 (ha Yb Cr _ σ _ _ (G.tok _) h) λus s2 z=>?_) ab U;let#[vs,H2,L,r,q2]:=z;show#[L.jY,?_];show vO (us:=us) (vs:=vs) F hr Z (dvs:=[]) .nil hx L r q2
def xt(p:ZX):HO:=.ext λh=>h.get? p=some { cls:=.type "tuple",data:=.seq ([.type "list",.type "tuple"].8) }
def N9(t:TA):TE:=λσ H Q=>t σ H λxs H1=>xs=[.ty "list",.ty "tuple"]/\∀p,H1 p=none->Q (.ref p) (QZ H1 p (xt p))
def FX{x1}(h:PA X es t):PE X (.Tuple es x1 Yb) (N9 t):=by
 intros Q I U;show aea (b9 (h Yb Cr s σ H _ I U) λus F z=>?_);let#[xs,H1,G,r,e,q]:=z;subst e;cases r with
 |cons a r =>
 obtain rfl:_=Value.type "list" := a;cases r with
 |cons b r =>
 obtain rfl:_=Value.type "tuple" := b;cases r;show#[by change 2<=yr;rw[HC];decide,?_];let L:H1 F.13=none:=G.bK.fresh (BY _);show#[.ref F.13,QZ H1 F.13 (xt F.13),130,q _ L];show#[42,#[_,42],λh1 h2 e k=>k _ e]
inductive Pj(H:Hp):V->Bool->Prop where
 |bu:Pj H .bu false
 |int(i:Int):Pj H (.int i) false
 |str(x:Str):Pj H (.str x) false
 |lst {a:ZX}{xs:vl}(e:H a%xs):Pj H (.ref a) true
 |tup {a:ZX}{xs:vl}(e:H a|||xs):Pj H (.ref a) true
inductive KZ(xs:vl)(H:Hp)(Q:VK):Prop
 |mk(x:V)(p:ZX)(b:Bool)(_:xs=[x,.ref p])(_:H p^xt p)(_:Pj H x b)(_:Q (.bl b) H)
def Cp:cM X (.builtin "isinstance") KZ:=by
 intros xs us Q I r h;let#[x,p,b,rfl,G,hk,q]:=h;let#[u,c,rfl,ru,U]:=vals2 r;obtain rfl:c=Value.ref p:=U;let#[hx,_]:=I.bK _ _ G;let tl:vf (Value.type "list")=pure (Value.type "type"):=(by rfl);let tt:vf (Value.type "tuple")=pure (Value.type "type"):=(by rfl);let fin:∀tk,EP X Cr σ Q (Value.bool b) { s with toks:=tk }:=λtk=>#[.bl b,69,rfl,q];cases hk with
 |bu =>
  cases ru;show Hr (uk (cs:=[.type "list",.type "tuple"]) (Tx := "NoneType") (.cons (adD az tl (by with_unfolding_all rfl)) (.cons (adD az tt (by with_unfolding_all rfl)) .nil))) #[rfl,hx,fin]
 |int i =>
  let#[t,rfl]:=ru;show Hr (uk (cs:=[.type "list",.type "tuple"]) (Tx := "int") (.cons (adX az tl (by with_unfolding_all rfl)) (.cons (adX az tt (by with_unfolding_all rfl)) .nil))) #[rfl,hx,fin]
 |str y =>
  let#[t,rfl]:=ru;show Hr (uk (cs:=[.type "list",.type "tuple"]) (Tx := "str") (.cons (adY az tl (by with_unfolding_all rfl)) (.cons (adY az tt (by with_unfolding_all rfl)) .nil))) #[rfl,hx,fin]
 |lst e =>
  cases ru;let#[z,XO,n,_,_,e]:=I.pI e;show Hr (uk (cs:=[.type "list",.type "tuple"]) (Tx := "list") (.cons (afk tl (by with_unfolding_all rfl)) (.cons (Answers.of_false_list az tt (by with_unfolding_all rfl)) .nil))) #[#[67],hx,fin]
 |tup e =>
  cases ru;let#[XO,_,#[o,L,F,_],_]:=I.tuple (eM.of e);show Hr (uk (cs:=[.type "list",.type "tuple"]) (Tx := "tuple") (.cons (Answers.of_false_tuple az tl (by with_unfolding_all rfl)) (.cons (afk tt (by with_unfolding_all rfl)) .nil))) #[#[o,L,F],hx,fin]
def Fi(v:xr):Bool:=match v with
 |.bool b=>b
 |_=>false
theorem uv:∀{bs:List Bool}{us:WX},Si (bs.map V.bl) us->us.map Fi=bs/\∀u∈us,∃b,u=Value.bool b
 | [],us,h=>by cases h;show#[rfl,143]
 |b::bs,us,h=>by
  cases h with
  |cons r rs =>
   cases r;let#[e,q]:=uv rs;show#[by rw[Y5,e];rfl,λu F=>?_];obtain rfl|F:=Yu.mp F
   .show#[b,rfl]
   .show q u F
variable{A:Ys}{s:ti}
def F9{us:WX}(h:∀u∈us,∃b,u=Value.bool b):∀u∈us,Lg A s u (.bool true) (Fi u):=λu F=>by
 let#[b,rfl]:=h u F;have:=adP (A:=A) (s:=s) b true;rw[show(b==true)=b by cases b<;>rfl]at this;show this
inductive Le(x:V)(vs:vl)(H:Hp)(Q:VK):Prop
 |mk(l:ZX)(bs:List Bool)(_:x=.ref l)(_:vs=[.bl true])(_:H l%(bs.map V.bl))(_:Q (.int (bs.countP id:Nat)) H)
def IV:KO X "list.count" Le:=by
 intros x vs v us Q I Y Z h;let#[l,bs,rfl,rfl,U,q]:=h;cases Y;let#[u,rfl,ru]:=Z.one;cases ru;let#[z,XO,n,r,hl,e]:=I.pI U;let#[G,al]:=uv r;show ZR acZ #[67] PySem.F.entry_list_count (PySem.F.args_list_count_2 _ _)
  (SeqAt.list_countAt l XO.8 n none ([].8) (.bool true) Fi) #[e,λy L=>F9 al y ‹L›,?_]
 show#[.int (bs.countP id:Nat),69,#[s.toks,?_],q];rw[<-G,List.countP_map];rfl
inductive RG(x:V)(vs:vl)(H:Hp)(Q:VK):Prop
 |mk(l:ZX)(bs:List Bool)(j:Nat)(_:x=.ref l)(_:vs=[.bl true])(_:H l%(bs.map V.bl))(_:bs[j]?^true)(_:∀i,i<j->bs[i]?^false)(_:Q (.int (j:Nat)) H)
theorem MU:KO X "list.index" RG:=by
 intros x vs v us Q I rx Z h;let#[l,bs,j,rfl,rfl,hH,h1,h2,q]:=h;cases rx;let#[u,rfl,ru]:=Z.one;cases ru;let#[z,XO,n,r,hl,e]:=I.pI hH;let#[em,al]:=uv r;let G:∀(i:Nat)(b:Bool),bs[i]?^b->(XO[i]?).map Fi^b:=λi b L=>by
  rw[<-em,IF]at L;show L
 let U:j<XO.9:=by
  have:=G j true h1;cases q:XO[j]? with
  |none=>rwa[q]at this
  |some y=>show(wh.mp q).1
 let hs:=HC;show ZR RJ #[67] acM (acp _ _)
  (aez l XO.8 n none ([].8) (.bool true) Fi j ‹U› (by rw[si]at hl z;lia) ?_ ?_) #[e,λy hy=>F9 al y ‹hy›,#[.int (j:Nat),120]]
 .have:=G j true h1;rw[vu U]at this;simpa using this
 .intro i hi Y;have:=G i false (h2 i Y);rw[vu ‹hi›]at this;simpa using this
def vQ(t:Bool)(K:Yi)(H:Hp)(l:ZX)(xs:vl):Prop:=cond t (eM K H l xs) (bh K H l xs)
variable{t:Bool}
theorem vQ.of(h:H l^cond t (.tup xs) (.lst xs)):vQ t K H l xs:=by
 cases t
 .show bh.of h
 .show eM.of h
def Inv.Pw{Cr:Jr}(I:!H s)(h:vQ t X.K H l xs):(∃XO,Si xs XO/\JL t s.heap l XO.8)/\l<s.13/\∀ys,vQ t X.K H l ys->ys=xs:=by
 cases t
 .let#[XO,F,p,_]:=I.list h;let#[_,e,_]:=id p.isList;show#[#[XO,F,p.isList],gu e,λys q=>I.sg q h]
 .let#[XO,F,p,_]:=I.tuple h;let#[_,e,_]:=id p;show#[#[XO,F,p],gu e,λys q=>I.BM q h]
def NH(t:Bool)(K:Yi)(l1 l2:ZX):It :=
 #[λi H=>∃xs ys x y,vQ t K H l1 xs/\vQ t K H l2 ys/\xs[i]?^x/\ys[i]?^y,
  λi H v J=>∃T x y,v=.ref T/\H T=none/\J=QZ H T (.tup [x,y])/\(∀xs,vQ t K H l1 xs->xs[i]?^x)/\∀ys,vQ t K H l2 ys->ys[i]?^y,
  λi H=>∃xs ys,vQ t K H l1 xs/\vQ t K H l2 ys/\xs.9<=i]
def X3(t:Bool)(z TI TO F G l1 l2:ZX)(i:Nat)(h:Heap):=Ay h z TI TO .none/\xj h TI (.ref F) (.ref G)/\(∃a b,xj h TO a b)/\JI t h F l1 i/\JI t h G l2 i
variable{kx:Nat}{px:Pos}
theorem Cs{z TI TO Z Y l1 l2:ZX}(D:ZipApart z TI TO Z Y l1 l2):Turn P w K (.Tuple es kx px) (NH t K l1 l2) [z,TI,TO,Z,Y] z (X3 t z TI TO Z Y l1 l2) where
 mem:=by simp
 obj:=by
  rintro i h ⟨L,G,⟨a,b',U⟩,h1,h2⟩ b F;simp only[Yu,xy,or_false]at F;obtain rfl|rfl|rfl|rfl|rfl:=F
  .show#[_,L,λv q=>by cases(show Data.fields _=Data.cell v from q)]
  .show#[_,G,λv q=>by cases(show Data.seq _ _=Data.cell v from q)]
  .show#[_,U,λv q=>by cases(show Data.seq _ _=Data.cell v from q)]
  .show h1.obj
  .show h2.obj
 keep:=λi h h' ⟨L,G,⟨a,b,U⟩,h1,h2⟩ k=>#[k z J0 _ L,k TI J0 _ G,#[a,b,k TO J0 _ U],h1.at λo e=>k Z J0 o e,h2.at λo e=>k Y J0 o e]
 item:=by
  intro X hP hw hK hc i Cr s σ H E I hf st hg;subst hP hw hK;let#[L,G,#[a,b,U],h1,h2]:=st;let#[xs,ys,x,y,q1,q2,e1,e2]:=hg;let#[#[as,ad,p1],_,j1]:=I.Pw q1;let#[#[aB,am,p2],_,j2]:=I.Pw q2;let#[u1,ay,aT]:=ad.get e1;let#[u2,ap,aN]:=am.get e2;show xH (I.ok.hd hc) D L G U h1 h2 p1 p2 (.inl #[u1,u2,by simpa using ay,by simpa using ap,λh' z' ar a1 a2 pT kk=>?_]);let I1:!H { s with heap:=h' }:=I.mE (t':=s.toks) (ch:=[z,TI,TO,Z,Y]) (λb o F e=>kk b o (λq=>F (by simp[q])) (λq=>F (by simp[q])) (λq=>F (by simp[q])) (λq=>F (by simp[q])) e) hf;show#[0,wpAny_letOwnedTupleGo_zip z' λab z2 sb=>?_];replace sb:Heap.SameBut z h' ab:=sb;let I2:!H { s with heap:=ab }:=I1.mE (s:={ s with heap:=h' }) (h':=ab) (t':=s.toks) (ch:=[z]) (λb o F e=>(sb.2 b (λq=>F (by simp[q]))).trans e) λb F=>hf b (by simp only[z4]at F;simp[F]);let fT:jR X Cr H s.13:=I.rl (BY _) (I.bK.fresh (BY _));let nz:s.13≠z:=FD (gu L);let aK:xj ab s.13 u1 u2:=sb.extBut _ _ nz pT;let I3:!(QZ H s.13 (.tup [x,y])) { s with heap:=ab }:=I2.EH (XO:=[u1,u2]) fT #[_,aK,rfl,0] (.cons aT (.cons aN .nil)) DE;show#[138,I3,rfl,#[_,x,y,rfl,fT.1,rfl,λzs ac=>e1<*j1 _ ac,λzs ac=>e2<*j2 _ ac],#[z2,sb.extBut _ _ D.TIz (kk _ _ D.TIz D.TITO D.TIi1 D.TIi2 G),#[2,sb.extBut _ _ D.TOz ar],a1.at λo e=>sb.extBut _ _ D.i1z e,a2.at λo e=>sb.extBut _ _ D.i2z e],λb F=>?_];let nb:b≠s.13:=by
   intro q;let#[o1,g1,_]:=h1.obj;let#[o2,g2,_]:=h2.obj;simp only[Yu,xy,or_false]at F;obtain e|e|e|e|e:=F<;>rw[e]at q
   .show nz q.6
   .show Za (gu G) q
   .show Za (gu U) q
   .show Za (gu g1) q
   .show Za (gu g2) q
  rw[au nb];show(hf b F).1
 done:=by
  intro X hP hw hK hc i Cr s σ H E I hf st hg;subst hP hw hK;let#[L,G,#[a,b,U],h1,h2]:=st;let#[xs,ys,q1,q2,e]:=hg;let#[#[as,ad,p1],_]:=I.Pw q1;let#[#[aB,am,p2],_]:=I.Pw q2;let aX:=ad.9;show xH (I.ok.hd hc) D L G U h1 h2 p1 p2 (.inr #[by simp;lia,λh' kk=>#[rfl,I.mE (t':=s.toks) (ch:=[z,TI,TO,Z,Y]) (λb o F e=>kk b o (λq=>F (by simp[q])) (λq=>F (by simp[q])) (λq=>F (by simp[q])) (λq=>F (by simp[q])) e) hf]])
 self:=λ_ _ _ _ _ st h=>wpAny_pyIter_zip st.1 h
inductive Lq(K:Yi)(ta:TA)(σ:St)(H:Hp)(R:It->Hp->Prop):Prop
 |mk (t:Bool) (_:ta σ H λvs H1=>Dh λl1 l2=>Hg (vs=[.ref l1,.ref l2]) (∃xs,vQ t K H1 l1 xs) (∃ys,vQ t K H1 l2 ys) (R (NH t K l1 l2) H1)):Lq K ta σ H R
def Ic{a b:YD}{ta:TA}(hg:Gl X "zip")(hm:X.mg "zip" = none)(ha:PA X [a,b] ta)(hs:%[starEach [a,b] X.env=[(false,eval a X.env),(false,eval b X.env)]|0])(Y:%[starEach [b] X.env=[(false,eval b X.env)]|0]) :
  PI X (.Tuple es kx px) (.Call (.Name "zip" p) [a,b] [] Yb) (Lq X.K ta):=by
 intros R I h;let#[t,h]:=h;show Call_ (kh I hg hm aeG (Zj (b9 (ha Yb Cr s σ H _ I h) λus F ⟨vs,H1,G,r1,q1⟩=>?_) (by rw[hs,Y]) (by rw[Y];rfl)));let#[l1,l2,rfl,#[xs,g1],#[ys,g2],q]:=q1;let#[u1,u2,rfl,e1,e2]:=vals2 r1;obtain rfl:u1=Value.ref l1:=e1;obtain rfl:u2=Value.ref l2:=e2;let#[#[as,ar,p1],ap,_]:=G.Pw g1;let#[#[aB,ay,p2],ad,_]:=G.Pw g2;show adt p1 p2 λh' U ab am Z ac hk=>?_;show wpAny_pyIter_zip U ?_;show#[F.13+4,[F.13+4,F.13+2,F.13+3,F.13,F.13+1],2,H1,rfl,G.kept (t':=F.toks) hk,Cs (zipApart_new ap ad),#[U,ab,#[2,am],Z,ac],λb L=>?_,q];let le:F.13<=b:=by
  simp only[Yu,xy,or_false]at L;obtain e|e|e|e|e:=L<;>rw[e]<;>first|show BY _|show Y7 _ _
 show G.rl le (G.bK.fresh le)
variable{te:TE}
def zg{a b:ZX}{ys:vl}{sI:List (Str×Nat)}{U:List V->Hp->Prop}(Pv:Nat->List V->Hp->Prop)(Y:Pv 0 [] H)(he:xs.9=ys.9)
  (L:∀i zs H,i<=xs.9->Pv i zs H->vQ t K H a xs/\vQ t K H b ys)
  (hs:∀i x y zs H T,xs[i]?^x->ys[i]?^y->H T=none->Pv i zs H->te (ado sI σ (some x) (some y)) (QZ H T (.tup [x,y])) (λz H3=>zs.9<yr/\Pv (i+1) (zs++[z]) H3))
  (hd:∀zs H,Pv xs.9 zs H->U zs H):∃W:Nat->Nat->List V->Hp->Prop,(∃m,W 0 m [] H)/\GG sI (g2 K) wD te σ (NH t K a b) U W:=by
 show Jp Pv Y hd (λzs H p=>let ⟨F,G⟩:=L _ zs H (BY _) p;#[xs,ys,F,G,BY _]) λi zs H I p=>?_;let#[F,G]:=L i zs H (Zm I) p;let Z:i<ys.9:=Zu I he;show#[#[xs,ys,xs[i],ys[i],F,G,by simp[I],by simp[Z]],?_];rintro v J ⟨T,x,y,rfl,hT,rfl,e1,e2⟩ vs lv;let#[v0,v1,rfl]:=acm lv;show#[T,[x,y],rfl,eM.of ag,rfl,x,[y],rfl,y,[],1,[some x,some y],1,?_];unfold wD;dsimp only;rw[C' rfl];show hs i x y zs H T (e1 xs F) (e2 ys G) hT p
variable{j:Nat}
def aZ{c:Const}{t:TA}(F:PE X (.Constant c j p) te)(G:PA X es t):PA X (.Constant c j p::es) (wN te t):=aa F G (by rfl)
def XC(y:Str×Nat×Pos):YD:=.Constant (.str y.1) y.2.1 y.2.2
def VR(es:fK):List (Str×Nat×Pos):=es.map fun
 |.Constant (.str x) j p=>(x,j,p)
 |_=>("",0,#[61,61])
def U6:List (Str×Nat×Pos)->TA
 | []=>wV
 |y::l=>wN (tC (.str y.1)) (U6 l)
theorem Ak{X:Cx}:∀l:List (Str×Nat×Pos),PA X (l.map XC) (U6 l)
 | []=>ae
 |_::l=>aZ aE (Ak l)
def L8{c:YD}{r b:List Yv}{L pos':Pos}{tc:TT}{t2 u:TS}{i:Nat}(Y:PT X c tc)(U:X.N.4)(hi:X.N[i]?^x)(hx:Loc X.env.scope x)(h2:t9 X r t2)(G:t9 X b u)(I:%[es=(VR es).map XC|0])(F:%[X.fn x\/X.env.scope.names.lookup x=some .local|0]):PS X (.If c (.Assign [.Name x pos'] (.List es p) Yb::r) b L) (Kw tc (kJ (BX (P7 (U6 (VR es))) (iZ i)) t2) u):=
 cf Y (av (G7 U hi hx (bw (by let h:=Ak (X:=X) (VR es);rw[<-I]at h;show h)) rfl F) h2) G
def iV{f:YD}{F:fK}{ks:List Ce}:vb (.Call f F ks p):=λ_ _=>rfl
structure lq(hx:ZX)(k:Nat)(A:Ys):Prop where
 hd:A.handled^.ref hx
 dp:A.depth+3*k+5<wF
 un:A.units+16*k+200<ff
variable{hx:ZX}
theorem lq.deeper(r:lq hx (k+1) A)(env:Env):lq hx k (A.deeper env):=
 #[r.hd,by have:=r.dp;change A.depth+1+3*k+5<_;lia,by have:=r.un;change A.units+3+16*k+200<_;lia]
theorem lq.mono(r:lq hx k A)(h:j<=k):lq hx j A:=#[r.hd,by have:=r.dp;lia,by have:=r.un;lia]
def cZ.hand(r:cZ k A)(hx:ZX):lq hx k (A.mark (some (.ref hx))):=#[rfl,r.dp,r.un]
structure FY(hx:ZX)(P:By)(w:L3)(K:Yi)(mg:j5)(base:Heap)(k:Nat)(f:ZX)(fd:C6)(ps:gq)(sp:Sp):Prop where
 len:∀vs H Q E,sp vs H Q E->vs.9=ps.9
 run:∀(A:Ys)(outer:List Env)(s:ti)(H:Hp)(args:Args)(us:WX)(vs:vl)(Q:VK),lq hx k A->uJ P w K mg base A outer s H->Uz s fd args (ps.zip us)->Si vs us->sp vs H Q E0 ->
  Ez (model P w) A (.call (.ref f) args) (CR bj outer P w H s Q E0) s
noncomputable def Pq(hx:ZX)(P:By)(w:L3)(K:Yi)(mg:j5)(base:Heap)(N:gq)(qual:Str)(scope:iM)(f:ZX)(cd:xr)(A:Ys)(outer:List Env)(s:ti)(H:Hp):Cx :=
 (sG bj P w K mg base N qual scope f cd { A with handled:=none } outer s H E0).hand hx
variable{N:gq}{qual:Str}
def QM{scope:iM}{cd:xr}{outer:List Env}(h:A.handled^.ref hx) :
  (Pq hx P w K mg base N qual scope f cd A outer s H).A=A.deeper (rB qual scope s.13 f cd):=by
 let#[a,b,c,d,e]:=A;obtain rfl:a^.ref hx:=h;rfl
theorem bV.X8{st:Yv}(F:bV K x qual st f fd)(S:aA N ps (ao st))(len:∀vs H Q E,sp vs H Q E->vs.9=ps.9)
  (ap:∀(L:xr)(A:Ys)(outer:List Env)(s:ti)(H:Hp)(vs:vl)(Q:VK),lq hx k (Pq hx P w K mg base N qual (ao st) f L A outer s H).A->sp vs H Q E0 ->
   ∃t,t9 (Pq hx P w K mg base N qual (ao st) f L A outer s H).kR (du st) t/\t { nx:=λ_ J=>Q .bu J,rt:=Q } (start N vs) H):FY hx P w K mg base (k+1) f fd ps sp:=by
 let#[oc,od,kV,aB,pm,an,L,ct,ay,rfl,lk,ar]:=F.ex;show#[len,λA outer s H args us vs Q Z G hb r ad=>?_];let hl:=len _ _ _ _ ad;let KX:K.In s.heap:=G.mod.FK.keeps λb o e=>(G.bs b o e).1;let am:s.heap.NoLimit:=G.mod.nolimit.keeps λb o e=>(G.bs b o e).1;let as:∀y∈ps.zip us,(ao st).names.lookup y.1^.local\/((ao st).names.lookup y.1^.cell/\((NX (s.13+1) (ao st).names []).lookup y.1).10=true):=λy hy=>by
  obtain z|z:=S.par y.1 (a' (show(y.1,y.2)∈ps.zip us from hy)).1
  .show .inl z
  .show .inr #[z,E3 _ _ _ (.inl z)]
 show adu (by have:=Z.dp;lia) (KX _ _ lk) rfl S.co S.gen rfl (codeRec_of KX ar) (hb _ _ _ _ ?_);show ab7 S.kind as λenv he Y x=>?_;subst he;show#[am.keeps x.toInCall.keep,codeAny_func ?_];let eA:=QM (P:=P) (w:=w) (K:=K) (mg:=mg) (base:=base) (N:=N) (qual:=qual) (scope:=ao st) (f:=f) (cd:=L) (outer:=outer) (s:=s) (H:=H) Z.hd;let#[t,ht,hq]:=ap L A outer s H vs Q (Z.deeper _<*eA) ad;let e1:uJ P w K mg base { A with handled:=none } outer s H:=#[G.frames,G.mod,G.bs,G.Dl,G.kP,G.HM,G.bK,G.bare];let I:Inv (Pq hx P w K mg base N qual (ao st) f L A outer s H) [] (start N vs) H Y:=(tI (CX:=bj) (E:=E0) (A:={ A with handled:=none }) S rfl e1 hl r x).hand hx;let run:=ht [] Y (start N vs) H _ (I.iw _) hq;let ac:wpAny (model P w) (Pq hx P w K mg base N qual (ao st) f L A outer s H).A (execs (du st) (rB qual (ao st) s.13 f L)) _ _ Y:=run;rw[eA]at ac;show YK ac (λfl s' hs=>?_) λe s' hs=>hs.elim;let fin:∀{ab:St}{J:Hp}{v:V}{u:xr},Inv (Pq hx P w K mg base N qual (ao st) f L A outer s H).kR [] ab J s'->zH v u->Q v J->CE outer P w H s Q u s' :=
  λH' U q=>#[2,H'.os,H'.bare,H'.base,H'.bK,U,q]
 cases fl with
 |ret u=>let#[v,ab,J,H',U,q]:=hs;show fin H' U q
 |next=>let#[ab,J,H',q]:=hs;show fin (v:=V.bu) (u:=Value.none) H' rfl q
 |brk=>let#[_,_,_,q]:=hs;show Zc q
 |cont=>let#[_,_,_,q]:=hs;show Zc q
structure Tz(P:By)(w:L3)(K:Yi)(mg:j5)(base:Heap)(k:Nat)(C:ZX)(m:Str)(sp:Sp):Prop where
 ex:∃f fd ps,Meth K C m f/\Nl K fd ps []/\∀hx,FY hx P w K mg base k f fd ps sp
def UE{o:YD}{m:Str}{ta:TE}(he:PE X o ta)(c:ph X.K C)(G:Tz X.prog X.w X.K X.mg X.base k C m sp)(hr:lq hx k X.A)
  (ht:eval (.Call (.Attribute o m apos) [] [] Yb) X.env=(do
   let ov <-eval o X.env
   X6 apos.atName
   let (f,first) <-y7 [ov] (getMethod ov m pl)
   Q' Yb f first (backTo Yb (starEach [] X.env)) (Xz Yb (KU [] X.env))):=by rfl) :
  PE X (.Call (.Attribute o m apos) [] [] Yb) (wW C m sp [] E0 ta wV):=by
 let#[f,fd,ps,hm,hb,F]:=G.ex;intros Q I h;show Jc (pl:=pl) (b9 (he Cr s σ H _ I h) λu Z ab=>?_) ht;let#[x,H1,L,rx,a,dx,fs,ex,ea,l,q]:=ab;subst ex;obtain rfl:u=Value.ref a:=rx;show iK L ea c hm l ?_;show wg (first:=[.ref a]) L.jY hm.kp ?_;let q':sp [.ref a] H1 Q E0:=q;let hl:[Value.ref a].9=ps.9:=(F hx).len _ _ _ _ q';let Y:=hb Z [.ref a] L.jY (hl<*Yw);rw[Yw]at Y;show E5 (wC ((F hx).run X.A X.stack Z H1 #[[.ref a],[]] [.ref a] [.ref a] Q hr L.Oq Y (.cons rfl .nil) q') λres s2 U=>?_);cases res with
 |error e=>show Zc U
 |ok fl =>
  cases fl with
  |ret u=>show L.after U
  |next=>show Zc U
  |brk=>show Zc U
  |cont=>show Zc U
end
end L2
namespace Dk
open PySem L2
mutual
def top(i:Nat):Yv:=abK.main.body.getD i (.Pass #[61,61])
abbrev FN:Yv:=zj (top 20) 0
abbrev Fx:Yv:=zj (top 20) 1
abbrev zt:Yv:=zj (top 20) 2
abbrev DL:Yv:=zj (top 20) 4
abbrev Bl:Yv:=zj (top 20) 5
abbrev yQ:Yv:=zj (top 20) 6
abbrev qI:Yv:=zj (top 20) 7
abbrev vm:Yv:=zj (top 20) 8
variable{H:Hp}{l:ZX}{X:HO}
def aj(h:H l=none):aG H (QZ H l X):=λb o e=>by rw[au (ba e h)];show e
def Q5(B:eE)(H J:Hp):=∀b o,H b^o->¬ B b->J b^o
def gI(h:H l=none):aG H (QZ H l X)/\QZ H l X l^X:=#[aj h,ag]
variable{B:eE}{J:Hp}
def Q5.trans{pE:Hp}(o:Q5 B H J)(o':Q5 B J pE):Q5 B H pE:=λb u e F=>o' b u (o b u e F) F
def Q5.mono{F:eE}(o:Q5 B H J)(h:∀b,B b->F b):Q5 F H J:=λb u e G=>o b u e λz=>G (h b z)
def Q5.of(s:aG H J):Q5 B H J:=λb u e _=>s b u e
def k1:¬ (("blocks" : Str) = "done"):=ax
def k2:¬ (("blocks" : Str) = "until_fall"):=ax
def k3:¬ (("blocks" : Str) = "fallen"):=ax
def k4:¬ (("done" : Str) = "until_fall"):=ax
def k5:¬ (("done" : Str) = "fallen"):=ax
def k6:¬ (("until_fall" : Str) = "fallen"):=ax
noncomputable def eX(bl:ZX)(d:Int)(G:V)(F:Bool):List (Str×V):=bI "fallen" (.bl F) (bI "until_fall" G (bI "done" (.int d) (bI "blocks" (.ref bl) [])))
def jk(f:Str)(v:V):bI f v []=[(f,v)]:=rfl
variable{f g:Str}{v x:V}{r:List (Str×V)}
def qb(h:g=f):bI f v ((g,x)::r)=(g,v)::r:=by
 change(if g=f then(g,v)::r else(g,x)::bI f v r)=_;rw[C' h]
def eO(h:¬ g=f):bI f v ((g,x)::r)=(g,x)::bI f v r:=by
 change(if g=f then(g,v)::r else(g,x)::bI f v r)=_;rw[vr h]
def eU(bl:ZX)(d:Int)(G:V)(F:Bool):eX bl d G F=([("blocks",V.ref bl),("done",V.int d),("until_fall",G),("fallen",V.bl F)]:List (Str×V)):=by
 unfold eX;rw[jk,eO k1,jk,eO k2,eO k4,jk,eO k3,eO k5,eO k6,jk]
def RV(bl:ZX)(d e:Int)(G:V)(F:Bool):bI "done" (.int e) (eX bl d G F)=eX bl e G F:=by
 rw[eU,eU,eO k1,qb rfl]
def zS(bl:ZX)(d:Int)(I G:V)(F:Bool):bI "until_fall" G (eX bl d I F)=eX bl d G F:=by
 rw[eU,eU,eO k2,eO k4,qb rfl]
def Ho(bl:ZX)(d:Int)(F:V)(I G:Bool):bI "fallen" (.bl G) (eX bl d F I)=eX bl d F G:=by
 rw[eU,eU,eO k3,eO k5,eO k6,qb rfl]
def qA(bl:ZX)(d:Int)(G:V)(F:Bool):(eX bl d G F).lookup ("blocks" : Str)^.ref bl:=by
 unfold eX;rw[aS,vr k3,aS,vr k2,aS,vr k1,aS,C' rfl]
def Nt(bl:ZX)(d:Int)(G:V)(F:Bool):(eX bl d G F).lookup ("done" : Str)^.int d:=by
 unfold eX;rw[aS,vr k5,aS,vr k4,aS,C' rfl]
def zf(bl:ZX)(d:Int)(F:V)(G:Bool):(eX bl d F G).lookup ("until_fall" : Str)^F:=by
 unfold eX;rw[aS,vr k6,aS,C' rfl]
def LZ(bl:ZX)(d:Int)(G:V)(F:Bool):(eX bl d G F).lookup ("fallen" : Str)^.bl F:=by
 unfold eX;rw[aS,C' rfl]
def eQ(bl:ZX)(d:Int)(G:V)(F:Bool){m:Str}(h1:¬ m = "fallen")(h2:¬ m = "until_fall")(L:¬ m = "done")(I:¬ m = "blocks"):(eX bl d G F).lookup m=none:=by
 unfold eX;rw[aS,vr h1,aS,vr h2,aS,vr L,aS,vr I]
 all_goals rfl
def abS(bl:ZX)(d:Int)(G:V)(F:Bool):(eX bl d G F).9<1000:=by
 rw[eU];change 4<1000;decide
abbrev kZ(H:Hp)(a:ZX)(ns:N4):=H a%ns.17/\ns.9=16
abbrev Rows(H:Hp)(cs:JS)(bs:iu):Prop:=Paired (kZ H) cs bs
variable{cs:JS}{bs:iu}
def Rows.off(o:Q5 B H J)(h:∀a ns,kZ H a ns->¬ B a)(r:Rows H cs bs):Rows J cs bs:=Paired.sv r λa ns q=>#[o _ _ q.1 (h a ns q),q.2]
def Rows.same(s:aG H J)(r:Rows H cs bs):Rows J cs bs:=Paired.sv r λa ns q=>#[s _ _ q.1,q.2]
def jM{α β:Type}{F:α->β->Prop}{xs:List α}{ys:List β}{i:Nat}{y:β}(h:Paired F xs ys)(e:ys[i]?^y):∃x,xs[i]?^x/\F x y:=by
 induction h generalizing i with
 |nil=>cases e
 |cons r _ G =>
  cases i with
  |zero=>cases e;show#[0,r]
  |succ i=>show G e
theorem rN{α β:Type}{F:α->β->Prop}{x:α}{y:β}(r:F x y):∀{xs:List α}{ys:List β}(i:Nat),Paired F xs ys->Paired F (xs.set i x) (ys.set i y)
 |_,_,_,.nil=>.nil
 |_,_,0,.cons _ t=>.cons r t
 |_,_,i+1,.cons q t=>.cons q (rN r i t)
def lL{α β:Type}{F:α->β->Prop}{xs:List α}{ys:List β}(h:Paired F xs ys):xs.9=ys.9:=by
 induction h with
 |nil=>rfl
 |cons _ _ G=>show Ur (· + 1) G
def pf{α β:Type}{F:α->β->Prop}{x:α}{y:β}(r:F x y){xs:List α}{ys:List β}(h:Paired F xs ys):Paired F (xs++[x]) (ys++[y]):=by
 induction h with
 |nil=>show .cons r .nil
 |cons q _ G=>show .cons q G
def jD{α β:Type}{F G:α->β->Prop}{xs:List α}{ys:List β}(p:Paired F xs ys)(h:∀a∈xs,∀b,F a b->G a b):Paired G xs ys:=by
 induction p with
 |nil=>show .nil
 |cons r _ L=>show .cons (h _ Yn _ r) (L λa I b q=>h a (Yp _ I) b q)
def gA(h:Rows H cs bs):∀a∈cs,∃ns,kZ H a ns:=by
 intro a m
 induction h with
 |nil=>cases m
 |cons r _ F =>
  obtain rfl|m:=Yu.mp m
  .show#[_,r]
  .show F m
variable{a:ZX}
def ED{b:ZX}{ns:N4}(h:kZ H a ns)(h':H b%(cs.map V.ref)):a≠b:=tj h.1 h' λz=>by
 cases ns with
 |nil=>have:=h.2;simp at this
 |cons x r =>
  cases cs with
  |nil=>cases z
  |cons c t =>
   injection z with z;let G:V.int x::r.map V.int=V.ref c::t.map V.ref:=z;injection G with F _;cases F
structure bg(C:ZX)(H:Hp)(p bl:ZX)(d:Int)(uf:V)(fa:Bool)(cs:JS)(bs:iu):Prop where
 ob:∃dx,H p^.ins C dx (eX bl d uf fa)
 hb:H bl%(cs.map V.ref)
 hc:Rows H cs bs
variable{p C:ZX}
def cX{dx:ZX}{fs:List (Str×V)}{xs:vl}(h:H p^.ins C dx fs)(h':H a%xs):p≠a:=tj h h' (by intro z;cases z)
variable{bl:ZX}{d:Int}{G:V}{F:Bool}
theorem bg.same(D:bg C H p bl d G F cs bs)(s:aG H J):bg C J p bl d G F cs bs :=
 let ⟨dx,h⟩:=D.ob
 #[#[dx,s _ _ h],s _ _ D.hb,D.hc.same s]
theorem bg.off(D:bg C H p bl d G F cs bs)(o:Q5 B H J)(L:¬ B p)(U:¬ B bl)(I:∀a ns,kZ H a ns->¬ B a):bg C J p bl d G F cs bs :=
 let ⟨dx,h⟩:=D.ob
 #[#[dx,o _ _ h L],o _ _ D.hb U,D.hc.off o I]
def bg.len(D:bg C H p bl d G F cs bs):cs.9=bs.9:=lL D.hc
structure Txt(K:Yi)(mg:j5)(C:ZX):Prop where
 cl:ph K C
 nB:c8 K C "blocks"
 nD:c8 K C "done"
 nU:c8 K C "until_fall"
 nF:c8 K C "fallen"
 len:mg "len" = none
 list:mg "list" = none
 range:mg "range" = none
 bn:∃u,mg "BLOCK_NUMBERS" = some u/\zH (.int 16) u
structure Kf(K:Yi)(mg:j5)(x:Str)(CN:ZX):Prop where
 Ly:mg x^.ref CN
 Xy:excIn K CN tQ "ValueError.__new__" = true
def Wr(p bl:ZX):ZX->Prop:=λb=>b=p\/b=bl
def Dg(bs:iu)(n:Int):Prop:=n<0\/(bs.9:Int)<=n
def nW(C CN:ZX):Sp:=λvs H Q E=>∃(p bl:ZX)(d:Int)(G:V)(F:Bool)(cs:JS)(bs:iu)(n:Int),vs=[.ref p,.int n]/\bg C H p bl d G F cs bs/\n.natAbs.log2<1920/\(¬ Dg bs n->Q .bu H)/\(Dg bs n->E (.ref CN) none H)
def r9(C CF:ZX):Sp:=λvs H Q E=>∃(p bl:ZX)(d:Int)(G:V)(F:Bool)(cs:JS)(bs:iu),vs=[.ref p]/\bg C H p bl d G F cs bs/\(F=false->Q .bu H)/\(F=true->E (.ref CF) none H)
def rL(C CN CF:ZX):Sp:=λvs H Q E=>∃(p bl:ZX)(d:Int)(G:V)(F:Bool)(cs:JS)(bs:iu)(n:Int),vs=[.ref p,.int n]/\bg C H p bl d G F cs bs/\n.natAbs.log2<1920 /\
 (Dg bs n->E (.ref CN) none H)/\(¬ Dg bs n->F->E (.ref CF) none H)/\(¬ Dg bs n->F=false->∀ns,bs[n.5]?^ns->∀l,H l=none->Q (.ref l) (QZ H l (.lst ns.17)))
def wX:V->V
 |.int i=>.int (i-1)
 |v=>v
def jI(F:V):Prop:=F=.bu\/∃i:Int,F=.int i
def qo(K:Yi)(C CN CF:ZX):Sp:=λvs H Q E=>∃(p bl c:ZX)(d:Int)(F:V)(G:Bool)(cs:JS)(bs:iu)(n:Int)(ns:N4),vs=[.ref p,.int n,.ref c]/\bg C H p bl d F G cs bs/\jI F/\n.natAbs.log2<1920/\bh K H c ns.17/\ns.9=16 /\
 (Dg bs n->E (.ref CN) none H) /\
 (¬ Dg bs n->G\/F=.int 0->∀J,bg C J p bl d F true cs bs->Q5 (· = p) H J->E (.ref CF) none J) /\
 (¬ Dg bs n->G=false->F≠.int 0->∀J I,bg C J p bl (d+1) (wX F) false I (bs.set n.5 ns)->(∀a∈I,a∈cs\/H a=none)->Q5 (Wr p bl) H J->Q .bu J)
def Be(C:ZX):Sp:=λvs H Q _=>∃(p bl:ZX)(d:Int)(G:V)(F:Bool)(cs:JS)(bs:iu),vs=[.ref p]/\bg C H p bl d G F cs bs/\bs.9<=300 /\
 ∀(J:Hp)(l:ZX)(fs:JS),aG H J->H l=none->J l%(fs.map V.ref)->Rows J fs bs->(∀a∈fs,H a=none)->fs.4->Q (.ref l) J
theorem RC{i:Int}{t:Str}(h:i.natAbs.log2<1920)(F:t.9<=100):(Str.empty++toString i:Str).9<=yr/\(Str.empty++toString i++t:Str).9<=yr:=by
 let h1:=jO h;let hs:=HC;let G:(Str.empty:Str).9=0:=rfl;rw[Kk,Kk,Kk];lia
def XH:aA "self n".1 "self n".1 (ao qI):=L2.bo
variable{f CN:ZX}
def y8(F:bV K "refuse_no_block" "Disk.refuse_no_block" qI f fd)(T:Txt K mg C)(U:Kf K mg "NoBlock" CN):!aO 1 f fd "self n".1 (nW C CN):=by
 show F.dQ XH ?_;intros;let#[p,bl,d,uf,fa,cs,bs,n,rfl,D,I,k,Z]:=h;let#[dx,h1]:=D.ob;let hl:=D.len;let#[Y,f2]:=RC (i:=n) (t := " is no block") I ax;show#[_,%[0,0,aO,bu,bT,cG,i,tT,1,r,cH,i,Fl,1,t,a,j,F,di,U.Ly,U.Xy,a,bG,aa,b9,1,aa,bU|9],?_];show#[0,32];show fH (λc=>?_) (λc=>?_)
 .show de ?_;let G:n<0:=‹c›;show#[76,I,0,Y,88,Z (.inl G)]
 .let G:¬ n<0:=‹c›;show#[0,59,bl,0,.inl (bh.of D.hb),32];show fH (λe=>?_) (λe=>?_)
  .let L:(bs.9:Int)<=n:=(by rw[<-hl];simpa using e);show#[76,I,0,Y,88,Z (.inr L)]
  .let L:¬ (bs.9:Int)<=n:=(by rw[<-hl];simpa using e);show k λz=>z.elim G L
def XZ:aA ["self"] ["self"] (ao vm):=L2.bo
variable{CF:ZX}
def B7(F:bV K "refuse_fallen" "Disk.refuse_fallen" vm f fd)(T:Txt K mg C)(G:Kf K mg "Fallen" CF):!aO 1 f fd ["self"] (r9 C CF):=by
 show F.dQ XZ ?_;intros;let#[p,bl,d,U,I,cs,bs,rfl,D,k,L]:=h;let#[dx,h1]:=D.ob;show#[_,%[0,0,aO,bu,bH,j,di,G.Ly,G.Xy,ak|9],?_];show#[31,_,0,h1,T.cl,T.nF,LZ _ _ _ _,I,3];show fH (λc=>?_) (λc=>?_)
 .show#[eW,L c]
 .show k ‹c›
def rep1{α:Type}(x:α)(n:Nat):(Yl n [x]).11=Yl n x:=by
 induction n with
 |zero=>rfl
 |succ n F=>rw[ZM,ZV,F,ZM];rfl
def G2{α:Type}(x:α)(n:Nat):Yl n x++[x]=Yl (n+1) x:=by
 rw[List.replicate_succ']
def XU:aA "self many".1 "self many".1 (ao FN):=L2.bo
def X5:aA "self n".1 "self n".1 (ao Fx):=L2.bo
variable{fN fF:ZX}
def HP{I Y:C6}(F:bV K "read" "Disk.read" Fx f fd)(T:Txt K mg C)
  (GN:!aO 1 fN I "self n".1 (nW C CN)) (bN:Nl K I "self n".1 []) (mN:Meth K C "refuse_no_block" fN)
  (GF:!aO 1 fF Y ["self"] (r9 C CF)) (bF:Nl K Y ["self"] []) (mF:Meth K C "refuse_fallen" fF):!aO 2 f fd "self n".1 (rL C CN CF):=by
 show F.dQ X5 ?_;intros;let#[p,bl,d,U,L,cs,bs,n,rfl,D,hb,kN,kF,k]:=h;let#[dx,h1]:=D.ob;show#[_,%[0,0,A,dj,ca,mN,GN,cb,bN,cp,e,A,dC,ca,mF,GF,cb,bF,cp,al,c,bI,a,p,P|9],?_]
 show#[63,h1,20,65,d,U,L,cs,bs,n,rfl,D,hb,λG=>?_,kN];show#[63,h1,20,p,bl,d,U,L,83,D,λhf=>?_,kF G];let h0:0<=n:=by
  cases z:n<0
  .show D9 (CH z) G
  .omega
 let ab:n<bs.9:=by
  cases z:(bs.9:Int)<=n
  .show D9 (Gf z) G
  .omega
 obtain⟨j,rfl⟩:∃j:Nat,n=j:=#[n.5,ak];let Z:j<bs.9:=ak;let eg:bs[((j:Nat):Int).5]?=some bs[j]:=(by rw[Xd,vu Z]);let#[a,ha,ra]:=jM D.hc (vu Z);show#[59,0,bl,_,j,.ref a,1,bh.of D.hb,aJ (by rw[IF,ha];rfl),a,0,.inl (bh.of ra.1),k G hf _ eg]
def X9:aA "self n numbers".1 "self n numbers".1 (ao zt):=L2.bo
theorem FQ{dN dF:C6}(F:bV K "write" "Disk.write" zt f fd)(T:Txt K mg C)
  (GN:!aO 1 fN dN "self n".1 (nW C CN)) (bN:Nl K dN "self n".1 []) (mN:Meth K C "refuse_no_block" fN)
  (GF:!aO 1 fF dF ["self"] (r9 C CF)) (bF:Nl K dF ["self"] []) (mF:Meth K C "refuse_fallen" fF):!aO 2 f fd "self n numbers".1 (qo K C CN CF):=by
 show F.dQ X9 ?_;intros;let#[p,bl,c,d,G,L,cs,bs,n,ns,rfl,D,hu,I,hq,ap,kN,kF,k]:=h;let#[dx,h1]:=id D.ob;let ab:p≠bl:=cX h1 D.hb;let hl:=D.len;let nm:∀(d:Int)(G:V)(L:Bool),(eX bl d G L).lookup ("refuse_fallen" : Str)=none:=λd G L=>eQ _ _ _ _ ax ax ax ax;show#[_,%[0,0,A,dj,ca,mN,GN,cb,bN,cp,e,Q,an,w,j,r,h,X,jq,A,dC,ca,mF,GF,cb,bF,cp,al,f,cU,bI,g,dk,P,set_list,f,dD,0,ai,aeK,h,an,i,jF,j,a1,h,dD,0,ai,DW|9],?_]
 show#[63,h1,20,65,d,G,L,cs,bs,n,rfl,D,I,λY=>?_,kN];let ar:NY G (.int 0):=by obtain rfl|⟨i,rfl⟩:=hu<;>rfl
 show#[31,_,0,h1,84,zf _ _ _ _,ar,0,?_];show fH (λc0=>?_) (λc0=>?_)
 ·-- the LU falls at this write
  let c':G=.int 0:=cL c0;show#[31,0,h1,T.cl,T.nF,43];rw[Ho];let D2:bg C (QZ H p (.ins C dx (eX bl d G true))) p bl d G true cs bs:=#[#[dx,ag],D.hb<*au (oR ab),Paired.sv D.hc λa ns q=>#[q.1<*au (oR (cX h1 q.1)),q.2]];show#[63,ag,nm _ _ _,p,bl,d,G,true,83,D2,(λz=>nomatch z),λ_=>kF Y (.inr c') _ D2 λb o e I=>e<*au I]
 .let c':G≠.int 0:=λz=>c0 (Ja z);show#[63,h1,nm _ _ _,p,bl,d,G,L,83,D,λhf=>?_,λhf=>?_]
  .let h0:0<=n:=by
    cases z:n<0
    .show D9 (CH z) Y
    .omega
   let ay:n<bs.9:=by
    cases z:(bs.9:Int)<=n
    .show D9 (Gf z) Y
    .omega
   obtain⟨j,rfl⟩:∃j:Nat,n=j:=#[n.5,ak];let hj:j<cs.9:=ak;let k':=k Y hf c';rw[Xd]at k';show#[0,c,0,.inl hq,λl ad=>?_];let U:∀{b:ZX}{o:HO},H b^o->b≠l:=λe=>ba e ad;show#[31,_,0,h1<*au (U h1),T.cl,T.nB,qA _ _ _ _,0,bl,_,j,j,1,D.hb<*au (U D.hb),4]
   .unfold Cb;rw[si,C' ak,C' ak];simp
   let e1:(cs.map V.ref).set j (.ref l)=(cs.set j l).map V.ref:=(by rw[List.map_set]);rw[e1];let h3:(QZ (QZ H l (.lst ns.17)) bl (.lst ((cs.set j l).map V.ref))) p^.ins C dx (eX bl d G L):=(h1<*[au ab,au (U h1)]);let as:l≠bl:=oR (U D.hb);let lp:l≠p:=oR (U h1);show#[31,_,0,h3,24,Nt _ _ _ _,d,(1),1,dx,_,h3,43];rw[RV];show#[31,_,0,ag,84,zf _ _ _ _,11];let fin:∀(ac:V)(J:Hp),ac=wX G->J p^.ins C dx (eX bl (d+1) ac L)->(∀b,b≠p->J b=QZ (QZ H l (.lst ns.17)) bl (.lst ((cs.set j l).map V.ref)) b)->Q .bu J:=by
    intro ac J e am Z;subst e;subst hf;show k' J (cs.set j l) #[#[dx,am],by rw[Z bl (oR ab),ag],?_] (λa ha=>(List.mem_or_eq_of_mem_set ha).imp id λz=>ad<*z) λb o e I=>?_
    .show rN #[by rw[Z l lp,au as,ag],ap] j (Paired.sv D.hc λa ms q=>#[?_,q.2]);rw[Z a (oR (cX h1 q.1)),au (ED q D.hb),au (U q.1)];show q.1
    .rw[Z b (λz=>I (.inl z)),au (λz=>I (.inr z)),au (U e)];show e
   obtain rfl|⟨i,rfl⟩:=hu
   .show cO ?_;show fin .bu _ rfl ag λb I=>by rw[au I]
   .show de ?_;show#[31,_,0,ag,84,zf _ _ _ _,i,(1),1,dx,_,ag,43];rw[zS];show fin (.int (i-1)) _ rfl ag λb I=>by rw[au I,au I]
  .subst hf;show kF Y (.inl rfl) H D λb o e _=>e
def UQ:aA ["self"] ["self"] (ao yQ):=L2.bo
theorem GY(F:bV K "image" "Disk.image" yQ f fd)(T:Txt K mg C):-aO 1 f fd ["self"] (Be C):=by
 show F.dZ UQ ?_;intros;let#[p,bl,d,uf,fa,cs,bs,rfl,D,hl,k]:=h;let#[dx,h1]:=D.ob;let hs:=HC;let hlen:=D.len;show#[_,%[0,0,c,S,cr,bS,bJ,j,bv,u,dT,(show cM _ _ (AW K)from RelV),W,T.list,fG,s|9],?_];show#[59,bl,rfl,#[_,bh.of D.hb],?_];show iS (K:=K) (a:=bl) (xs:=cs.map V.ref) (λi ys H2=>∃fs:List ZX,ys=fs.map V.ref/\fs.9=i/\Rows H2 fs (bs.take i)/\aG H H2/\(∀a∈fs,H a=none)/\fs.4) #[[],1,.nil<*Z9,aG.refl H,λa h=>(xy h).elim,.nil] (λi ys H2 _ ⟨fs,_,_,_,G,_⟩=>bh.of (G _ _ D.hb)) ?_ ?_
 .rintro i x ys H2 hx ⟨fs,rfl,hi,R,G,L,nd⟩;rw[IF]at hx;let#[c,hc,rfl]:=NC.mp hx;let ad:i<cs.9:=(wh.mp hc).1;let ab:i<bs.9:=ak;let#[c',Z,rc]:=jM D.hc (vu ab);rwa[hc]at Z;show#[0,c,0,.inl (bh.of (G _ _ rc.1)),λl I=>#[4]]
  .rw[si];lia
  let sl:=aj (X:=.lst ((bs[i]).map V.int)) I;show#[fs++[l],by rw[DD];rfl,by rw[tp,hi];rfl,?_,G.trans sl,λa U=>?_,?_]
  .rw[List.take_succ,vu ab];show pf #[ag,rc.2] (R.same sl)
  .rcases Yh.mp U with z|z
   .show L a z
   .rw[z4.mp z];show G.free I
  .show YJ.mpr #[nd,J0,λa U b hb z=>?_];rw[z4.mp hb]at z;subst z;let#[j,hj,ej]:=aed U;obtain⟨ns,_,rr⟩:∃ns,(bs.take i)[j]?^ns/\kZ H2 fs[j] ns:=by
    let ac:j<(bs.take i).9:=(by rw[<-lL R];show hj);let#[q,e,r]:=jM R (vu ac);rwa[vu hj]at e;show#[_,vu ac,r]
   rw[ej]at rr;let Y:=rr.1;rwa[I]at Y
 .rintro ys H2 ⟨fs,rfl,hi,R,G,L,nd⟩ l I;rw[si]at hi R;rw[Ye ak]at R;let sl:=aj (X:=.lst (fs.map V.ref)) I;show k _ l fs (G.trans sl) (G.free I) ag (R.same sl) L nd
structure Def(K:Yi)(mg:j5)(x:Str)(f:ZX)(fd:C6)(ps:gq):Prop where
 mg:mg x^.ref f
 kp:Zk K (.ref f)
 b:Nl K fd ps []
end
end Dk
namespace Tb
open PySem L2
section
variable{α:Type}
mutual
noncomputable def look(l:List (Int×α))(k:Int):Option α:=(l.find? λx=>decide (x.1=k)).map (·.2)
def dk(f:α->V)(l:List (Int×α)):List (Key×V):=l.map λx=>(Xt x.1,f x.2)
def fj(l:List (Int×α))(k:Int)(a:α):List (Int×α):=l.map λx=>if x.1=k then(k,a)else x
def jA(l:List (Int×α))(k:Int):List (Int×α):=l.filter λx=>decide (x.1≠k)
def mi(k:Int):look ([]:List (Int×α)) k=none:=rfl
def bH(x:Int×α)(l:List (Int×α))(k:Int):look (x::l) k=if x.1=k then some x.2 else look l k:=by
 unfold look;rw[yZ];cases h:x.1=k
 .rw[Ja h,C' h];rfl
 .rw[ck h,vr h]
theorem cJ(f:α->V)(k:Int):∀l:List (Int×α),jc (dk f l) (Xt k)=(look l k).map f
 | []=>rfl
 |x::l=>by
  let F:=cJ f k l;change jc ((Xt x.1,f x.2)::dk f l) (Xt k)=_;rw[bH];cases h:x.1=k
  .rw[C' h,mQ (by rw[h])];rfl
  .rw[vr h,mG (λe=>h (O9 e)),F]
variable{k:Int}
def gw{l:List (Int×α)}{a:α}(h:look l k^a):(k,a)∈l:=by
 unfold look at h;let#[x,hx,e]:=NC.mp h;let h1:=List.mem_of_find?_eq_some hx;let h2:x.1=k:=‹List.find?_some hx›;rw[<-h2, <-e];show h1
def kC{l:List (Int×α)}(h:look l k=none):¬ k∈l.map (·.1):=by
 unfold look at h;rw[adl,List.find?_eq_none]at h;rintro m;let#[x,hx,e]:=Yj.mp m;show h x hx (Ja e)
def kB{l:List (Int×α)}{a:α}(nd:(l.map (·.1)).4)(h:(k,a)∈l):look l k^a:=by
 induction l with
 |nil=>cases h
 |cons x l F =>
  rw[bH];let#[G,I]:=YZ.mp (show(x.1::l.map (·.1)).4 from nd);obtain e|m:=Yu.mp h
  .rw[<-e,C' rfl]
  .have:¬ x.1=k:=λe=>G (e▸Yj.mpr #[_,m,rfl]);rw[vr this];show F I m
def OQ(f:α->V)(l:List (Int×α))(k:Int):((dk f l).any λF=>decide (F.1=Xt k))=(look l k).10:=by
 rw[mx,cJ];cases look l k<;>rfl
def gT{f:α->V}{l:List (Int×α)}{a:α}(h:look l k=none):putK (dk f l) (Xt k) (f a)=dk f (l++[(k,a)]):=by
 rw[abG _ (by rw[cJ,h];rfl)];unfold dk;rw[DD];rfl
def js{f:α->V}{l:List (Int×α)}{a b:α}(h:look l k^b):putK (dk f l) (Xt k) (f a)=dk f (fj l k a):=by
 unfold putK;rw[C' (by rw[OQ,h];rfl)];unfold dk fj;rw[vv,vv];congr 1;funext x;change(if (Xt x.1:Key)=Xt k then((Xt x.1:Key),f a)else(Xt x.1,f x.2))=((Xt (if x.1=k then(k,a)else x).1:Key),f (if x.1=k then(k,a)else x).2);cases e:x.1=k
 .rw[C' (by rw[e]),C' e,e]
 .rw[vr (λz=>e (O9 z)),vr e]
def mq(f:α->V)(l:List (Int×α))(k:Int):qB (dk f l) (Xt k)=dk f (jA l k):=by
 unfold qB dk jA;rw[afl];congr 1;congr 1;funext x;change decide (¬ (Xt x.1:Key)=Xt k)=decide (¬ x.1=k);cases e:x.1=k
 .rw[e];simp
 .simp[e]
def ky{l:List (Int×α)}{a:α}(j:Int)(h:look l k=none):look (l++[(k,a)]) j=if j=k then some a else look l j:=by
 induction l with
 |nil =>
  change look [(k,a)] j=_;rw[bH,mi];cases e:j=k
  .rw[C' e,C' e.6]
  .rw[vr e,vr (oR e)]
 |cons x l G =>
  rw[bH]at h;cases e:x.1=k
  .rw[C' e]at h;cases h
  .rw[vr e]at h;change look (x::(l++[(k,a)])) j=_;rw[bH,bH,G h];cases F:x.1=j
   .rw[C' F,C' F,vr (λz=>e (F.trans z))]
   .rw[vr F,vr F]
def h9{l:List (Int×α)}{a b:α}(j:Int)(h:look l k^b):look (fj l k a) j=if j=k then some a else look l j:=by
 induction l with
 |nil=>cases h
 |cons x l G =>
  rw[bH]at h;change look ((if x.1=k then(k,a)else x)::fj l k a) j=_;cases e:x.1=k
  .rw[C' e,bH,bH];cases F:j=k
   .rw[C' F.6,C' F]
   .rw[vr (oR F),vr F,vr (λz=>F (z.symm.trans e))];clear G h
    induction l with
    |nil=>rfl
    |cons y l G =>
     change look ((if y.1=k then(k,a)else y)::fj l k a) j=_;cases e3:y.1=k
     .rw[C' e3,bH,bH,vr (oR F),vr (λz=>F (z.symm.trans e3)),G]
     .rw[vr e3,bH,bH,G]
  .rw[vr e]at h;rw[vr e,bH,bH,G h];cases F:x.1=j
   .rw[C' F,C' F,vr (λz=>e (F.trans z))]
   .rw[vr F,vr F]
def xu(l:List (Int×α))(k j:Int):look (jA l k) j=if j=k then none else look l j:=by
 induction l with
 |nil =>
  change look [] j=if j=k then none else look [] j
  rw[mi];split<;>rfl
 |cons x l G =>
  unfold jA at *;rw[Up];cases e:x.1=k
  .rw[vr (by simp[e]),G,bH];cases F:j=k
   .rw[C' F,C' F]
   .rw[vr F,vr F,vr (λz=>F (z.symm.trans e))]
  .rw[C' (by simp[e]),bH,bH,G];cases F:x.1=j
   .rw[C' F,C' F,vr (λz=>e (F.trans z))]
   .rw[vr F,vr F]
def ke(l:List (Int×α))(k:Int)(a:α):(fj l k a).map (·.1)=l.map (·.1):=by
 unfold fj;rw[vv];congr 1;funext x;change(if x.1=k then(k,a)else x).1=x.1;cases e:x.1=k
 .rw[C' e,e]
 .rw[vr e]
def xW(l:List (Int×α))(k:Int):(jA l k).map (·.1)=(l.map (·.1)).filter λx=>decide (x≠k):=by
 unfold jA;rw[afl];rfl
def Ko(l:List (Int×α))(k:Int)(a:α):(fj l k a).9=l.9:=by unfold fj;rw[si]
def mem_set{l:List (Int×α)}{a:α}{x:Int×α}(h:x∈fj l k a):x=(k,a)\/(x∈l/\x.1≠k):=by
 unfold fj at h;let#[y,F,e]:=Yj.mp h;cases c:y.1=k
 .rw[C' c]at e;show .inl e.6
 .rw[vr c]at e;subst e;show .inr #[F,c]
def AV{l:List (Int×α)}{x:Int×α}(h:x∈jA l k):x∈l/\x.1≠k:=by
 unfold jA at h;let#[h1,h2]:=YN.mp h;show#[h1,cL h2]
def kc(f:α->V)(l:List (Int×α)):(dk f l).9=l.9:=by unfold dk;rw[si]
end
end
theorem Qu:∀(n:Nat)(a:Int)(l:N4),l.4->(∀x∈l,a<=x/\x<a+n)->l.9<=n
 |0,a,l,_,h=>by
  cases l with
  |nil=>show BY _
  |cons x r=>have:=h x Yn;lia
 |n+1,a,l,nd,h=>by
  let I:=Qu n a (l.filter λx=>decide (x≠a+n)) (nd.filter _) λx hx=>by
   let#[h1,h2]:=YN.mp hx;let Y:=h x h1;let Z:x≠a+n:=cL h2;lia
  let e:(l.filter λx=>decide (x≠a+n)).9+1>=l.9:=by
   clear I h
   induction l with
   |nil=>simp
   |cons x r G =>
    let#[L,U]:=YZ.mp nd;rw[Up];cases c:x=a+n
    .rw[vr (by simp[c])];have:r.filter (λx=>decide (x≠a+n))=r:=by
      rw[List.filter_eq_self];intro y F;have:y≠a+n:=λe=>L (by rw[c, <-e];show F);simpa using this
     rw[this];simp
    .rw[C' ‹c›];have:=G U;rw[YU,YU];lia
  lia
end Tb
namespace Dk
open PySem L2
mutual
abbrev u7:Yv:=top 23
abbrev rM:Yv:=top 24
abbrev vp:Yv:=top 25
open Tb
abbrev Ds:=List (Int×ZX×List Int)
def fC(x:ZX×List Int):V:=.ref x.1
abbrev nk(L:Ds):List (Key×V):=dk fC L
structure pz(H:Hp)(a:ZX)(L:Ds)(len:Nat):Prop where
 hd:H a^^^(nk L)
 hr:∀x∈L,kZ H x.2.1 x.2.2
 nd:(L.map (·.1)).4
 rg:∀x∈L,28<=x.1/\x.1<len
 l1:1<=L.9
 l2:L.9<=24
variable{H J:Hp}{a:ZX}{L:Ds}{len:Nat}
def pz.same(c:pz H a L len)(s:aG H J):pz J a L len:=#[s _ _ c.hd,λx hx=>#[s _ _ (c.hr x hx).1,(c.hr x hx).2],c.nd,c.rg,c.l1,c.l2]
variable{b:ZX}{Ki:nI}
def OL{xs:vl}(h:H a^^^Ki)(h':H b%xs):a≠b:=tj h h' (by intro z;cases z)
variable{C:ZX}
def OT{dx:ZX}{fs:List (Str×V)}(h:H a^^^Ki)(h':H b^.ins C dx fs):a≠b:=tj h h' (by intro z;cases z)
def pz.off{B:eE}(c:pz H a L len)(o:Q5 B H J)(F:¬ B a)(G:∀a ns,kZ H a ns->¬ B a):pz J a L len:=#[o _ _ c.hd F,λx hx=>#[o _ _ (c.hr x hx).1 (G _ _ (c.hr x hx)),(c.hr x hx).2],c.nd,c.rg,c.l1,c.l2]
def mL:List Int:=Yl 16 0
structure Jo(mg:j5):Prop where
 bn:∃u,mg "BLOCK_NUMBERS" = some u/\zH (.int 16) u
 fl:∃u,mg "FIRST_LIST" = some u/\zH (.int 2) u
 sorted:mg "sorted" = none
 enumerate:mg "enumerate" = none
 len:mg "len" = none
 range:mg "range" = none
variable{n:Int}
theorem dC(h1 : -1000<=n)(h2:n<=1000):n.natAbs.log2<1920:=by
 cases z:n.12=0
 .rw[z];decide
 .rw[Nat.log2_lt z];let G:n.12<=1000:=ak;let F:(1000:Nat)<2^1920:=ax;lia
variable{p bl:ZX}
theorem Q5.none{x:ZX}(o:Q5 (Wr p bl) H J)(F:J p≠none)(G:J bl≠none)(hx:J x=none):H x=none:=by
 cases e:H x with
 |none=>rfl
 |some u =>
  cases z:Wr p bl x
  .rcases z with rfl|rfl
   .show D9 hx F
   .show D9 hx G
  .rw[o x u e z]at hx;cases hx
variable{d:Int}{G:V}{F:Bool}{cs:JS}{bs:iu}
def bg.np(D:bg C H p bl d G F cs bs):H p≠none:=by
 let#[dx,h]:=D.ob;rw[h];simp
def bg.nb(D:bg C H p bl d G F cs bs):H bl≠none:=by
 rw[D.hb];simp
variable{i:Nat}{ns:N4}
def mv(R:Rows H cs bs)(h:bs[i]?^ns):ns.9=16:=by
 let#[a,_,q]:=jM R h;show q.2
variable{F:V}
def gf(h:G=.bu->F=.bu)(q:G=.bu):wX F=.bu:=by rw[h q];rfl
def iP(h:jI F):jI (wX F):=by
 obtain rfl|⟨k,rfl⟩:=h
 .show .inl rfl
 .show .inr #[0]
variable{j:Nat}
def sf{l:N4}(nd:l.4){x:Int}(hi:l[i]?^x)(I:l[j]?^x):i=j:=by
 let#[h1,F]:=wh.mp hi;let#[h2,G]:=wh.mp I;obtain h|h|h:=aeV i j
 .show D9 (F.trans G.6) (YE.mp nd i j h1 h2 h)
 .show h
 .show D9 (G.trans F.6) (YE.mp nd j i h2 h1 h)
structure Calm(bs:iu)(N:Nat)(cur:Nat->Option N4):Prop where
 len:bs.9=N
 b0:bs[0]?^mL
 at_:∀j:Nat,28<=j->bs[j]?=cur j
structure pP(bs:iu)(N:Nat)(old new:Nat->Option N4)(ns:N4):Prop where
 len:bs.9=N
 hd:∃b0 b1 rest,bs[0]?^b0/\bs[1]?^b1/\b0++b1=(ns.9:Int)::(ns++rest)
 n1:1<=ns.9
 n2:ns.9<=24
 nd:ns.4
 rg:∀n∈ns,28<=n/\n<(N:Int)
 ls:∀(k:Nat)(n:Int),ns[k]?^n->bs[2+k]?=new n.5
 out:∀j:Nat,28<=j->¬ (j:Int)∈ns->bs[j]?=old j/\new j=old j
 mix:∀j:Nat,28<=j->(j:Int)∈ns->bs[j]?=new j\/bs[j]?=old j
variable{N:Nat}{old:Nat->Option N4}
theorem pP.set{G:Nat->Option N4}(p:pP bs N old G ns){x:N4}(L:n∈ns)(hx:G n.5^x):pP (bs.set n.5 x) N old G ns:=by
 let r:=p.rg n L;let#[b0,Y,rest,U,e1,e2]:=p.hd;let Z:n.5<bs.9:=(by rw[p.len];lia);let n2:=p.n2;show#[p.len<*Cj,#[b0,Y,rest,U<*YS ak,e1<*YS ak,e2],p.n1,p.n2,p.nd,p.rg,λk m hk=>?_,λj I F=>?_,λj I F=>?_]
 .have:=(wh.mp hk).1;rw[YS ak];show p.ls k m hk
 .have:n.5≠j:=λe=>F (L<*(show(j:Int)=n by lia));rw[YS this];show p.out j I F
 .cases e:n.5=j
  .rw[<-e,Zq Z];show .inl hx.6
  .rw[YS e];show p.mix j I F
variable{F:Nat->Option N4}
def pP.fin(p:pP bs N old F ns)(h:∀n∈ns,bs[n.5]?=F n.5):Calm (bs.set 0 mL) N F:=by
 let#[b0,b1,rest,I,e1,e2]:=p.hd;let L:0<bs.9:=(wh.mp I).1;show#[p.len<*Cj,Zq L,λj Y=>?_];rw[YS ak];cases G:(j:Int)∈ns
 .show h j G
 .let#[U,Z]:=p.out j Y G;rw[U,Z]
theorem Calm.set(c:Calm bs N F)(h1:1<=j)(h2:j<28)(x:N4):Calm (bs.set j x) N F :=
 #[c.len<*Cj,c.b0<*YS ak,λk hk=>c.at_ k hk<*YS ak]
def iR(cs:JS)(H:Hp)(F:JS):=∀x∈F,x∈cs\/H x=none
def oq(C CF:ZX):Sp:=λvs H Q E=>∃(p bl:ZX)(d:Int)(L:V)(cs:JS)(bs:iu)(N:Nat),vs=[.ref p]/\bg C H p bl d L false cs bs/\jI L/\29<=N/\N<=300 /\
 ((∃Y,Calm bs N Y/\∀J,aG H J->Q (.int 0) J) \/
  ∃(old U:Nat->Option N4)(ns:N4),pP bs N old U ns /\
  (∀(J:Hp)(d':Int)(F:V)(G:JS)(I:iu),bg C J p bl d' F false G I->jI F->(L=.bu->F=.bu)->Calm I N U->iR cs H G->Q5 (Wr p bl) H J->Q (.int ns.9) J) /\
  (L≠.bu->∀(J:Hp)(d':Int)(F:V)(G:JS)(I:iu),bg C J p bl d' F true G I->jI F->pP I N old U ns->iR cs H G->Q5 (Wr p bl) H J->E (.ref CF) none J))
def rq(C CF:ZX):Sp:=λvs H Q E=>∃(p bl:ZX)(d:Int)(F:V)(cs:JS)(bs:iu),vs=[.ref p]/\bg C H p bl d F false cs bs/\jI F/\1<=bs.9 /\
 (F≠.bu->∀J,bg C J p bl d F true cs bs->Q5 (Wr p bl) H J->E (.ref CF) none J) /\
 (∀J G,bg C J p bl (d+1) (wX F) false G (bs.set 0 mL)->iR cs H G->Q5 (Wr p bl) H J->Q .bu J)
def Vc:aA ["disk"] ["disk"] (ao vp):=L2.bo
variable{CN CF:ZX}{dW:C6}
theorem CJ{U:ZX}(F:bV K "forget" "forget" vp f fd)(T:Jo mg)(TC:Txt K mg C)
  (GW:!aO 2 U dW "self n numbers".1 (qo K C CN CF)) (bW:Nl K dW "self n numbers".1 []) (Z:Meth K C "write" U):!aO 3 f fd ["disk"] (rq C CF):=by
 let#[ar,Y,ap]:=T.bn;show F.dQ Vc ?_;intros;let#[p,bl,d,uf,cs,bs,rfl,D,hu,lb,kE,kQ]:=h;let hs:=HC;let#[dx,h1]:=id D.ob;let ac:(eX bl d uf false).lookup ("write" : Str)=none:=eQ _ _ _ _ ax ax ax ax;show#[_,%[0,0,av,dj,0,b4,(Z),GW,cb,bW,cp,bC,a,bV,x,aF,cd,Y,ap|9],?_];show#[63,h1,ac,az,λl1 am=>#[l1,(16),0,45,ak,ak,by rw[Yq];lia,λq hq=>?_]];rw[rep1 (V.int 0)];let sz:=(aj (X:=.lst [V.int 0]) am).trans (aj (X:=.lst (Yl ((16:Int)).toNat (V.int 0))) hq);show#[p,bl,q,2,false,cs,bs,(0),mL,rfl,D.same sz,hu,dC az az,bh.of (by rw[ag];unfold mL;rw[Lc];rfl),ax,λz=>(by obtain z|z:=z<;>lia),λ_ z G L I=>?_,λ_ _ as G ab L ad I=>?_]
 .rcases z with z|z
  .cases z
  .show kE (λq=>by rwa[q]at z) G L (λb u e nb=>I _ _ (sz _ _ e) λe=>nb (.inl e))
 .show kQ G ab L (λa ha=>(ad a ha).imp id sz.free) (λb u e nb=>I _ _ (sz _ _ e) nb)
def KI:aA "disk head many k".1 ["disk"] (ao rM):=L2.bo
variable{fR fW:ZX}{dR:C6}
theorem yS{bv:ZX}{bi:C6}(F:bV K "recover" "recover" rM f fd)(T:Jo mg)(TC:Txt K mg C)
  (GR:!aO 2 fR dR "self n".1 (rL C CN CF)) (bR:Nl K dR "self n".1 []) (mR:Meth K C "read" fR)
  (GW:!aO 2 fW dW "self n numbers".1 (qo K C CN CF)) (bW:Nl K dW "self n numbers".1 []) (mW:Meth K C "write" fW)
  (b2:!aO 3 bv bi ["disk"] (rq C CF)) (aT:Def K mg "forget" bv bi ["disk"]):!aO 4 f fd ["disk"] (oq C CF):=by
 let#[ca,b4,co]:=T.bn;let#[u2,m2,r2]:=T.fl;show F.dQ KI ?_;intros;let#[p,bl,d,L,cs,bs,N,rfl,D,hu,cc,ci,k]:=h;let hs:=HC;let#[dx,h1]:=id D.ob;let nm:∀{d:Int}{L:V}{fa:Bool}{m:Str},¬ m = "fallen" -> ¬ m = "until_fall" -> ¬ m = "done" -> ¬ m = "blocks" -> (eX bl d L fa).lookup m=none:=λh1 h2 h3 h4=>eQ _ _ _ _ h1 h2 h3 h4;let aY:∀{d:Int}{L:V}{fa:Bool},(eX bl d L fa).lookup ("read" : Str)=none:=nm ax ax ax ax;let bN:∀{d:Int}{L:V}{fa:Bool},(eX bl d L fa).lookup ("write" : Str)=none:=nm ax ax ax ax;let g:∀{n:Int}{ad:iu},ad.9=N->0<=n->n<N->¬ Dg ad n:=λhb a b z=>by obtain z|z:=z<;>lia
 let hN:bs.9=N:=by
  rcases k with⟨_,c,_⟩|⟨_,_,_,c,_⟩
  .show c.len
  .show c.len
 obtain⟨G,e0⟩:∃G,bs[0]?^G:=#[_,vu ak];obtain⟨U,e1⟩:∃U,bs[1]?^U:=#[_,vu ak];let l0:=mv D.hc e0;let l1:=mv D.hc e1;show#[_,%[KI,0,G,1,B,cV,0,aw,aF,cV,0,aw,aF,G,2,af,1,Q,an,w,2,r,c,ai,bX,cW,bD,g,y,3,av,cX,0,aw,b,p,1,k,ai,3,a,cV,0,aw,a,k,cd,m2,r2,3,A,dE,b2,cb,W,aT.mg,aT.kp,aT.b,cp,s,al,c,2|9],?_]
 show#[63,h1,aY,p,bl,d,L,false,cs,bs,(0),rfl,D,dC az az,λz=>D9 z (g hN az ak),(λ_ z=>nomatch z),λ_ _ x0 bb l hl=>?_];rwa[show((0:Int)).5=0 from rfl,e0]at bb;let s1:=aj (X:=.lst G.17) hl;show#[63,s1 _ _ h1,aY,p,bl,d,L,false,cs,bs,26,D.same s1,dC az az,λz=>D9 z (g hN az ak),(λ_ z=>nomatch z),λ_ _ x1 bx l' b3=>?_];rwa[show((1:Int)).5=1 from rfl,e1]at bx;let s2:=aj (X:=.lst U.17) b3;show#[l,l',7,s2 _ _ ag,ag,by rw[si,si];lia,λhd be=>?_];rw[<-DD];let#[s3,aN]:=gI (X:=.lst ((G++U).map V.int)) be;generalize QZ _ _ (.lst ((G++U).map V.int))=H3 at *;let S3:=(s1.trans s2).trans s3;let ce:H hd=none:=(s1.trans s2).free be;let D3:=D.same S3;let lh:(G++U).9=32:=(by rw[tp];lia);rcases k with⟨b5,c,k⟩|⟨old,aB,ns,c,kQ,kE⟩
 .let eb:G=mL:=OR (e0.symm.trans c.b0);let a6:((G++U).map V.int)[0]?^.int 0:=by
   rw[eb];rfl
  show#[0,hd,_,(0),.int 0,1,bh.of aN,aJ (j:=0) a6,?_];show#[0,11];rw[Ja rfl];show de (k _ S3)
 .let#[cr,cg,rest,q0,q1,eh]:=c.hd;rw[e0]at q0;rw[e1]at q1;cases q0;cases q1;let n1:=c.n1;let n2:=c.n2;let a6:((G++U).map V.int)[0]?^.int (ns.9:Int):=by
   rw[eh];rfl
  show#[0,hd,_,(0),.int (ns.9:Int),1,bh.of aN,aJ (j:=0) a6,?_];show#[0,11];rw[ck (λz=>by injection z with z;lia)];show cO ?_;show#[0,(ns.9:Int),rfl,ak,ak,?_];show zq (lo:=0) (n:=((ns.9:Nat):Int).5) (λi σ H4=>∃(v3:Option V)(d4:Int)(ar:V)(Z:JS)(ad:iu),σ=#v[.ref p,.ref hd,.int (ns.9:Int),v3]/\bg C H4 p bl d4 ar false Z ad/\(jI ar/\(L=.bu->ar=.bu))/\pP ad N old aB ns /\
   H4 hd%((G++U).map V.int)/\(∀(k:Nat)(n:Int),k<i->ns[k]?^n->ad[n.5]?=aB n.5)/\Q5 (Wr p bl) H3 H4/\iR cs H Z)
   #[_,d,L,83,D3,#[hu,id],c,aN,λk n hk=>D9 hk ak,λb o e _=>e,λx hx=>.inl hx] ?_ ?_
  .rintro i σ H4 hi ⟨v3,d4,ar,Z,Y,rfl,I,⟨ab,ap⟩,p4,a0,ha,o4,as⟩;rw[Int.zero_add];let ac:i<ns.9:=ak;let#[a5,h4]:=id I.ob;let cm:=c.rg ns[i] (Zr ac);let a7:=p4.len;let bz:((G++U).map V.int)[1+i]?^.int ns[i]:=by
    rw[eh,IF,show 1+i=i+1 from Qb 1 i,List.getElem?_cons_succ,Yo ac,vu ac];rfl
   let bY:Y[2+i]?=aB (ns[i]).5:=p4.ls i ns[i] (vu ac);let bc:2+i<Y.9:=ak;let a3:aB (ns[i]).5=some Y[2+i]:=(by rw[<-bY,vu bc]);let a4:=vu bc;generalize Y[2+i]=xs at a3 a4;show#[0,p,a5,0,h4,bN,0,0,7,hd,2,.int ns[i],1,bh.of a0,4]
   .rw[show(1+(i:Int))=((1+i:Nat):Int)by push_cast;rfl];show aJ bz
   show#[0,p,a5,0,h4,aY,0,7,p,bl,2,false,Z,Y,2+(i:Int),rfl,I,dC ak ak,λz=>D9 z (g a7 ak ak),(λ_ z=>nomatch z),λ_ _ zV1 bm lr bB=>?_];rwa[show(2+(i:Int)).5=2+i by lia,a4]at bm;let bF:=mv I.hc a4;let s5:=aj (X:=.lst xs.17) bB;let D5:=I.same s5;let h5:=s5 _ _ h4;let ay:=s5 _ _ a0;let bK:¬ Wr p bl hd:=λz=>z.elim (λz=>cX h5 ay z.6) λz=>by
    let bd:=D5.hb;rw[z]at ay;rw[ay]at bd;let hz:=OR bd;injection hz with hz;rw[eh]at hz;cases Z with
    |nil=>cases hz
    |cons c t=>injection (show V.int _::_=V.ref c::_ from hz)with z1;cases z1
   let wp:∀{b:ZX},b=p->Wr p bl b:=λe=>.inl e;let hf:∀{x:ZX},H4 x=none->H x=none:=λe=>S3.free (o4.none I.np I.nb e);show#[p,bl,lr,2,false,Z,Y,ns[i],xs,rfl,D5,ab,dC ak ak,49,bF,λz=>D9 z (g a7 ak ak),λ_ z H6 D6 o6=>?_,λ_ _ cv H6 aK D6 aX o6=>?_]
   .show kE (λq=>by rw[ap q]at z;obtain z|z:=z<;>cases z) H6 _ _ Z Y D6 ab p4 as (λb u e nb=>o6 _ _ (s5 _ _ (o4 _ _ (S3 _ _ e) nb)) λe=>nb (wp e))
   .show#[2,_,aK,0,D6,#[iP ab,gf ap],p4.set (Zr ac) a3,o6 _ _ ay bK,λk n hk am=>?_,λb u e nb=>o6 _ _ (s5 _ _ (o4 _ _ e nb)) nb,123]
    .cases e:k=i
     .subst e;rwa[vu ac]at am;rw[Zq ak];show a3.6
     .let hm:=Yk am;let r1:=c.rg n hm;have:(ns[i]).5≠n.5:=λz=>by
       let z':ns[i]=n:=ak;show e (sf c.nd am (by rw[<-z'];show vu ac))
      rw[YS this];show ha k n ak am
    .rcases aX x hx with z|z
     .show as x z
     .show .inr (hf (s5.free z))
  .rintro σ H4 ⟨v3,d4,ar,Z,Y,rfl,I,⟨ab,ap⟩,p4,a0,ha,o4,as⟩;rw[show((ns.9:Nat):Int).5=ns.9 from Xd _]at ha;let#[a5,h4]:=id I.ob;let a7:=p4.len;let hf:∀{x:ZX},H4 x=none->H x=none:=λe=>S3.free (o4.none I.np I.nb e);show#[65,2,Z,Y,rfl,I,ab,ak,λhz H6 D6 o6=>?_,λH6 aK D6 aX o6=>?_]
   .show kE (λq=>hz (ap q)) H6 _ _ Z Y D6 ab p4 as (λb u e nb=>o6 _ _ (o4 _ _ (S3 _ _ e) nb) nb)
   .show#[0,kQ H6 _ _ aK _ D6 (iP ab) (gf ap) (p4.fin λn hn=>?_) (λx hx=>(aX x hx).elim (as x) λz=>.inr (hf z)) (λb u e nb=>o6 _ _ (o4 _ _ (S3 _ _ e) nb) nb)]
    .let#[k,hk,e]:=Y8.mp hn;show ha k n hk (by rw[vu hk,e])
noncomputable def newOf(L:Ds)(F:Nat->Option N4):Nat->Option N4:=λj=>((look L (j:Int)).map (·.2)).or (F j)
def xC(C CF:ZX):Sp:=λvs H Q E=>∃(p bl a:ZX)(d:Int)(Y:V)(cs:JS)(bs:iu)(L:Ds)(N:Nat)(I:Nat->Option N4),vs=[.ref p,.ref a]/\bg C H p bl d Y false cs bs/\jI Y/\29<=N/\N<=300/\Calm bs N I/\pz H a L N /\
 (∀(J:Hp)(d':Int)(G:V)(U:JS)(F:iu),bg C J p bl d' G false U F->jI G->(Y=.bu->G=.bu)->Calm F N (newOf L I)->iR cs H U->Q5 (Wr p bl) H J->Q .bu J) /\
 (Y≠.bu->∀(J:Hp)(d':Int)(G:V)(U:JS)(F:iu),bg C J p bl d' G true U F->jI G->(Calm F N I\/∃ns,pP F N I (newOf L I) ns)->iR cs H U->Q5 (Wr p bl) H J->E (.ref CF) none J)
def zO(h:H a%ns.17)(G:1<=ns.9)(h':H b%(cs.map V.ref)):a≠b:=tj h h' λz=>by
 injection z with z;cases ns with
 |nil=>simp at G
 |cons x r =>
  cases cs with
  |nil=>cases z
  |cons c t=>injection (show V.int x::r.map V.int=V.ref c::t.map V.ref from z)with F _;cases F
variable{xs:N4}
theorem Oc(h:xs.9=32):dJ xs.17 (some 16) none=(xs.drop 16).map V.int:=by
 unfold dJ;rw[si,h];rw[show HT.uu 32 0 (some 16)=16 from rfl,show HT.uu 32 32 none=32 from rfl, <-map_drop, <-RQ];congr 1;show Ye (by rw[YB];lia)
def NQ(h:xs.9=32):dJ xs.17 none (some 16)=(xs.take 16).map V.int:=by
 unfold dJ;rw[si,h];rw[show HT.uu 32 0 none=0 from rfl,show HT.uu 32 32 (some 16)=16 from rfl,vz,RQ]
def y4:aA "disk changes numbers n k head".1 "disk changes".1 (ao u7):=L2.bo
theorem Cf{fV:ZX}{dV:C6}(F:bV K "commit" "commit" u7 f fd)(T:Jo mg)(TC:Txt K mg C)
  (GR:!aO 2 fR dR "self n".1 (rL C CN CF)) (bR:Nl K dR "self n".1 []) (mR:Meth K C "read" fR)
  (GW:!aO 2 fW dW "self n numbers".1 (qo K C CN CF)) (bW:Nl K dW "self n numbers".1 []) (mW:Meth K C "write" fW)
  (GV:!aO 4 fV dV ["disk"] (oq C CF)) (DV:Def K mg "recover" fV dV ["disk"]):!aO 5 f fd "disk changes".1 (xC C CF):=by
 let#[c6,a4,bi]:=T.bn;let#[u2,m2,r2]:=T.fl;show F.dQ y4 ?_;intros;let#[p,bl,a,d,uf,cs,bs,L,N,aB,rfl,D,hu,cc,cB,cm,c,kQ,kE]:=h;let hs:=HC;let hN:=cm.len;let nm:∀{d:Int}{uf:V}{fa:Bool}{m:Str},¬ m = "fallen" -> ¬ m = "until_fall" -> ¬ m = "done" -> ¬ m = "blocks" -> (eX bl d uf fa).lookup m=none:=λh1 h2 h3 h4=>eQ _ _ _ _ h1 h2 h3 h4;let cv:∀{d:Int}{uf:V}{fa:Bool},(eX bl d uf fa).lookup ("read" : Str)=none:=nm ax ax ax ax;let bb:∀{d:Int}{uf:V}{fa:Bool},(eX bl d uf fa).lookup ("write" : Str)=none:=nm ax ax ax ax;let g:∀{n:Int}{Z:iu},Z.9=N->0<=n->n<N->¬ Dg Z n:=λG a b z=>by obtain z|z:=z<;>lia
 let c1:=c.l1;let c2:=c.l2;show#[_,%[y4,0,G,2,q,bn,caps,rfl,T.sorted,oj,e,Q,cs,bo,2,y,3,l,cV,0,aw,H',bX,cW,dF,W,T.enumerate,g,dl,ct,y,4,ct,y,3,qq,av,cX,0,aw,b,k,cd,m2,r2,4,a,ax,aG,1,3,G,5,B,x,a,t,g,2,G,5,B,5,bV,x,aF,a2,bq,ai,cd,a4,bi,t,a,5,A,cX,0,aw,bC,a,C,5,ag,cd,a4,bi,cu,A,cX,0,aw,bC,a,C,5,a9,cd,a4,bi,av,dE,GV,cb,W,DV.mg,DV.kp,DV.b,cp,s|9],?_]
 show#[0,a,nk L,L.map (·.1),rfl,c.hd,by unfold nk dk;rw[vv,vv];rfl,c.nd,129,λl ns hl hp c7=>?_];let s1:=aj (X:=.lst ns.17) hl;let db:ns.9=L.9:=(by rw[hp.length_eq,si]);let nd:ns.4:=hp.symm.nodup c.nd;let rg:∀n∈ns,28<=n/\n<N/\∃x,look L n^x/\(n,x)∈L:=λn hn=>by
  let#[x,hx,e]:=Yj.mp (hp.mem_iff.mp hn);let#[q1,q2]:=c.rg x hx;rw[e]at q1 q2;let bK:(n,x.2)∈L:=(by rw[<-e];show hx);show#[q1,q2,x.2,kB c.nd bK,bK]
 let mem:∀{n:Int}{x:ZX×List Int},look L n^x->n∈ns:=λh=>hp.mem_iff.mpr (Yj.mpr #[_,gw h,rfl]);show#[62,#[_,49],?_];show fL (K:=K) (a:=l) (xs:=ns.map V.int) (λi σ H2=>∃v3:Option V,σ=#v[.ref p,.ref a,.ref l,v3,none,none]/\aG (QZ H l (.lst ns.17)) H2) #[0,aG.refl _] (λi σ H2 _ ⟨_,_,s2⟩=>bh.of (s2 _ _ ag)) ?_ ?_
 .rintro i x σ H2 hx ⟨v3,rfl,s2⟩;rw[IF]at hx;let#[n,hn,rfl]:=NC.mp hx;let#[q1,q2,_]:=rg n (Yk hn);let D2:=D.same (s1.trans s2);let#[b1,h2]:=id D2.ob;show#[0,p,b1,0,h2,cv,65,d,uf,false,cs,bs,n,rfl,D2,dC ak ak,λz=>D9 z (g hN ak q2),(λ_ z=>nomatch z),λ_ _ xs da lr ca=>?_];show#[0,s2.trans (aj ca)]
 rintro σ H2 ⟨v3,rfl,s2⟩;let S2:=s1.trans s2;let D2:=D.same S2;let aY:H2 l%ns.17:=s2 _ _ ag;let C2:=c.same S2;clear s1 s2;show#[62,#[_,bh.of aY],?_];let keep:∀{I:Hp},Q5 (Wr p bl) H2 I->I l%ns.17/\pz I a L N:=λ{I} o=>by
  let#[b1,h2]:=id D2.ob;show#[o _ _ aY λz=>z.elim (λz=>cX h2 aY z.6) λz=>zO aY ak D2.hb z,C2.off o (λz=>z.elim (OT C2.hd h2) (OL C2.hd D2.hb)) λb ms q z=>z.elim (λz=>cX h2 q.1 z.6) λz=>ED q D2.hb z]
 show CV (K:=K) (a:=l) (xs:=ns.map V.int) (λi σ I=>∃(v3 v4:Option V)(d4:Int)(aN:V)(am:JS)(Z:iu),σ=#v[.ref p,.ref a,.ref l,v3,v4,none]/\bg C I p bl d4 aN false am Z/\(jI aN/\(uf=.bu->aN=.bu))/\Calm Z N aB /\
  (∀(k:Nat)(n:Int),k<i->ns[k]?^n->Z[2+k]?=(look L n).map (·.2))/\Q5 (Wr p bl) H2 I/\iR cs H am)
  #[2,d,uf,83,D2,#[hu,id],cm,λk n hk=>D9 hk ak,λb o e _=>e,λx hx=>.inl hx] (λi σ I _ q=>by let#[_,_,_,_,_,_,_,_,_,_,_,o,_]:=q;show bh.of (keep o).1) ?_ ?_
 .rintro i x σ I Tt hx co ⟨v3,v4,d4,aN,am,ab,rfl,D4,⟨ac,ap⟩,m4,ha,o4,aT⟩;rw[IF]at hx;let#[n,hn,rfl]:=NC.mp hx;let dd:i<ns.9:=(wh.mp hn).1;let#[q1,q2,#[ad,row],bB,cC]:=rg n (Yk hn);let#[_,C4]:=keep o4;let a0:=m4.len;let sT:=aj (X:=.tup [.int i,.int n]) co;let D5:=D4.same sT;let C5:=C4.same sT;let#[cg,h5]:=id D5.ob;let bN:kZ (QZ I Tt (.tup [.int i,.int n])) ad row:=C5.hr _ cC;show#[Tt,[.int i,.int n],rfl,eM.of ag,rfl,.int i,[.int n],rfl,.int n,[],1,?_];let hg:gj (QZ I Tt (.tup [.int i,.int n])) a (.int n) (some (.ref ad)):=by
   let q:=gj.k (k:=Xt n) C5.hd;rw[cJ,bB]at q;show q
  show#[0,p,cg,0,h5,bb,0,7,0,0,a,.ref ad,rfl,hg,?_];show#[p,bl,ad,2,false,am,ab,2+(i:Int),row,rfl,D5,ac,dC ak ak,bh.of bN.1,bN.2,λz=>D9 z (g a0 ak ak),λ_ z H6 U o6=>?_,λ_ _ hz H6 b2 U b4 o6=>?_]
  .show kE (λq=>by rw[ap q]at z;obtain z|z:=z<;>cases z) H6 _ _ am ab U ac (.inl m4) aT λb u e nb=>o6 _ _ (sT _ _ (o4 _ _ (S2 _ _ e) nb)) λe=>nb (.inl e)
  rw[show(2+(i:Int)).5=2+i by lia]at U;show#[2,2,b2,ab.set (2+i) row,rfl,U,#[iP ac,gf ap],m4.set (j:=2+i) ak ak row,λk n' hk a3=>?_,(λb o e G=>o6 _ _ (sT _ _ (o4 _ _ e G)) G),λx hx=>(b4 x hx).elim (aT x) λz=>.inr (S2.free (o4.none D4.np D4.nb (sT.free z)))]
  .cases e:k=i
   .subst e;rwa[hn]at a3;rw[Zq ak,bB];rfl
   .rw[YS ak];show ha k n' ak a3
 rintro σ I ⟨v3,v4,d4,aN,am,ab,rfl,D4,⟨ac,ap⟩,m4,ha,o4,aT⟩;rw[si]at ha;let#[bd,C4]:=keep o4;let a0:=m4.len;let hlen:(ns.map V.int).9=ns.9:=si ..;show#[0,l,0,.inl (bh.of bd),eW,λh0 bF=>#[0,h0,l,7,ag,bd<*au (ba bd bF),by rw[hlen];change 1+ns.9<=yr;lia,λh1 bx=>?_]];rw[hlen]at bx ⊢;let#[sN,bm]:=gI (X:=.lst ([V.int (ns.9:Int)]++ns.map V.int)) bx;generalize QZ _ _ (.lst ([V.int (ns.9:Int)]++ns.map V.int))=H5 at *;let t1:=(aj (X:=.lst [V.int (ns.9:Int)]) bF).trans sN;let ay:([V.int (ns.9:Int)]++ns.map V.int).9=1+ns.9:=(by rw[tp,hlen];rfl);show#[0,az,λz0 bz=>#[133,0,h1,0,.inl (bh.of (bm<*au (ba bm bz))),7,z0,7,ag,4,?_,λz1 c3=>?_]]
 .rw[ay];lia
 .rw[ay];lia
 .rw[ay,Yq];lia
 let t2:=(aj (X:=.lst [V.int 0]) bz);let t3:=aj (X:=.lst (Yl (2*16-(([V.int (ns.9:Int)]++ns.map V.int).9:Int)).toNat [V.int 0]).11) c3;let ez:((Yl (2*16-(([V.int (ns.9:Int)]++ns.map V.int).9:Int)).toNat [V.int 0]).11)=(Yl (31-ns.9) (0:Int)).map V.int:=by
  rw[rep1,ay,Lc,show(2*16-((1+ns.9:Nat):Int)).5=31-ns.9 by lia]
 rw[ez]at t3 ⊢;show#[h1,z1,7,(t2.trans t3) _ _ bm,ag,by rw[ay,si,Zg];lia,λh2 cD=>?_];let cP:([V.int (ns.9:Int)]++ns.map V.int)++(Yl (31-ns.9) (0:Int)).map V.int=((ns.9:Int)::(ns++Yl (31-ns.9) 0)).map V.int:=by
  rw[Y5,DD];rfl
 rw[cP];let#[t4,aX]:=gI (X:=.lst (((ns.9:Int)::(ns++Yl (31-ns.9) 0)).map V.int)) cD;generalize QZ _ _ (.lst (((ns.9:Int)::(ns++Yl (31-ns.9) 0)).map V.int))=H6 at *;let S6:=((t1.trans t2).trans t3).trans t4;let bY:((ns.9:Int)::(ns++Yl (31-ns.9) 0)).9=32:=(by rw[YU,tp,Zg];lia);let U:=D4.same S6;let o6:Q5 (Wr p bl) H2 H6:=λb o e G=>S6 _ _ (o4 _ _ e G);generalize cE:((ns.9:Int)::(ns++Yl (31-ns.9) 0))=hd at *;let#[c4,h6]:=id U.ob;show#[0,p,c4,0,h6,bb,0,(16),rfl,h2,0,bh.of aX,λsl ci=>?_];rw[Oc bY];let Y:=aj (X:=.lst ((hd.drop 16).map V.int)) ci;show#[p,bl,sl,2,false,am,ab,(1),hd.drop 16,rfl,U.same Y,ac,dC az az,49,by rw[YB];lia,λz=>D9 z (g a0 az ak),λ_ z H8 D8 o8=>?_,λ_ _ _ H8 bv D8 c0 o8=>?_]
 .show kE (λq=>by rw[ap q]at z;obtain z|z:=z<;>cases z) H8 _ _ am ab D8 ac (.inl m4) aT λb u e nb=>o8 _ _ (Y _ _ (o6 _ _ (S2 _ _ e) nb)) λe=>nb (.inl e)
 rw[show((1:Int)).5=1 from rfl]at D8;let b0:iR cs H bv:=λx hx=>(c0 x hx).elim (aT x) λz=>.inr (S2.free (o6.none (U.np) (U.nb) (Y.free z)));let m8:=m4.set (j:=1) az az (hd.drop 16);let h7:=Y _ _ h6;let cr:H8 h2%hd.17:=o8 _ _ (Y _ _ aX) λz=>z.elim (λz=>cX h7 (Y _ _ aX) z.6) λz=>zO (Y _ _ aX) ak (U.same Y).hb z;let#[ce,h8]:=id D8.ob;show#[0,p,ce,0,h8,bb,0,(16),rfl,h2,0,bh.of cr,λsm b5=>?_];rw[NQ bY];let s9:=aj (X:=.lst ((hd.take 16).map V.int)) b5;show#[p,bl,sm,2,false,bv,_,(0),hd.take 16,rfl,D8.same s9,iP ac,dC az az,49,by rw[Nx];lia,λz=>D9 z (g m8.len az ak),λ_ z aK as a5=>?_,λ_ _ _ aK be as cx a5=>?_]
 .show kE (λq=>by rw[gf ap q]at z;obtain z|z:=z<;>cases z) aK _ _ bv _ as (iP ac) (.inl m8) b0 λb u e nb=>a5 _ _ (s9 _ _ (o8 _ _ (Y _ _ (o6 _ _ (S2 _ _ e) nb)) nb)) λe=>nb (.inl e)
 rw[show((0:Int)).5=0 from rfl]at as;let a7:Q5 (Wr p bl) H aK:=λb o e G=>a5 _ _ (s9 _ _ (o8 _ _ (Y _ _ (o6 _ _ (S2 _ _ e) G)) G)) G;let c5:iR cs H be:=λx hx=>(cx x hx).elim (b0 x) λz=>.inr (S2.free (o6.none U.np U.nb (Y.free (o8.none D8.np D8.nb (s9.free z)))));let bc:∀j:Nat,2<=j->((ab.set 1 (hd.drop 16)).set 0 (hd.take 16))[j]?=ab[j]?:=λj hj=>(by rw[YS ak,YS ak]);let b3:((ab.set 1 (hd.drop 16)).set 0 (hd.take 16)).9=N:=(a0<*[Cj,Cj]);let cR:pP ((ab.set 1 (hd.drop 16)).set 0 (hd.take 16)) N aB (newOf L aB) ns:=by
  show#[b3,#[hd.take 16,hd.drop 16,Yl (31-ns.9) 0,4,?_],ak,ak,nd,λn hn=>#[(rg n hn).1,(rg n hn).2.1],λk n hk=>?_,λj hj hm=>?_,λj hj hm=>?_]
  .rw[Zq (by rw[Cj];lia)]
  .rw[YS ak,Zq ak]
  .rw[YM, <-cE]
  .let cN:=(wh.mp hk).1;let#[r1,_,x,ex,_]:=rg n (Yk hk);rw[bc _ ak,ha k n cN hk];unfold newOf;rw[show((n.5:Nat):Int)=n by lia,ex];rfl
  .rw[bc _ ak,m4.at_ j hj];show#[3];unfold newOf;cases e:look L (j:Int)with
   |none=>rfl
   |some x=>show D9 (mem e) hm
  .rw[bc _ ak,m4.at_ j hj];show .inr rfl
 let hf:∀{x:ZX},aK x=none->H x=none:=a7.none as.np as.nb;let fr:∀{ar},iR be aK ar->iR cs H ar:=λq x hx=>(q x hx).elim (c5 x) λz=>.inr (hf z);show#[65,2,be,_,N,rfl,as,iP (iP ac),cc,cB,.inr #[aB,newOf L aB,ns,cR,λJ d' a6 ar Z D' u' n' m' f' o'=>?_,λhz J d' a6 ar Z D' u' P' f' o'=>?_]]
 .show kQ J d' a6 ar Z D' u' (λq=>n' (gf (gf ap) q)) m' (fr f') λb o e G=>o' _ _ (a7 _ _ e G) G
 .show kE (λq=>hz (gf (gf ap) q)) J d' a6 ar Z D' u' (.inr #[ns,P']) (fr f') λb o e G=>o' _ _ (a7 _ _ e G) G
def y9(C:ZX):Sp:=λvs H Q _=>∃(p bl:ZX)(d:Int)(G:V)(F:Bool)(cs:JS)(bs:iu)(a:Int),vs=[.ref p,.int a]/\bg C H p bl d G F cs bs/\∀J,bg C J p bl d (.int a) F cs bs->Q5 (· = p) H J->Q .bu J
def lS(C:ZX):Sp:=λvs H Q _=>∃(p bl:ZX)(d:Int)(G:V)(F:Bool)(cs:JS)(bs:iu),vs=[.ref p]/\bg C H p bl d G F cs bs/\∀J,bg C J p bl d .bu false cs bs->Q5 (· = p) H J->Q .bu J
def WU:aA "self after".1 "self after".1 (ao DL):=L2.bo
def IY(F:bV K "fall" "Disk.fall" DL f fd)(T:Txt K mg C):-aO 1 f fd "self after".1 (y9 C):=by
 show F.dZ WU ?_;intros;let#[p,bl,d,L,I,cs,bs,a,rfl,D,k]:=h;let#[dx,h1]:=id D.ob;show#[_,(aw (di (pv 0) (pv 1) rfl)),?_];show#[0,31,0,h1,84,43];rw[zS];show k _ #[#[dx,ag],D.hb<*au (oR (cX h1 D.hb)),Paired.sv D.hc λa ns q=>#[q.1<*au (oR (cX h1 q.1)),q.2]] λb o e G=>?_;rw[au G];show e
def RL:aA ["self"] ["self"] (ao Bl):=L2.bo
def Il(F:bV K "rise" "Disk.rise" Bl f fd)(T:Txt K mg C):-aO 1 f fd ["self"] (lS C):=by
 show F.dZ RL ?_;intros;let#[p,bl,d,L,I,cs,bs,rfl,D,k]:=h;let#[dx,h1]:=id D.ob;show#[_,%[0,0,f,X,cS,h,X,jq|9],?_]
 show#[31,0,h1,84,43];rw[zS];show#[106,43];rw[Ho];show k _ #[#[dx,ag],?_,Paired.sv D.hc λa ns q=>#[?_,q.2]] λb o e G=>?_
 .rw[au (oR (cX h1 D.hb)),au (oR (cX h1 D.hb))];show D.hb
 .rw[au (oR (cX h1 q.1)),au (oR (cX h1 q.1))];show q.1
 .rw[au G,au G];show e
def Hh{hx:ZX}(F:bV K "rise" "Disk.rise" Bl f fd)(T:Txt K mg C):FY hx P w K mg base 1 f fd ["self"] (lS C):=by
 show F.X8 RL (λvs H Q E h=>?_) (λU A outer s H vs Q Y h=>?_)
 .let#[p,bl,d,L,I,cs,bs,rfl,_]:=h;rfl
 .let#[p,bl,d,L,I,cs,bs,rfl,D,k]:=h;let#[dx,h1]:=id D.ob;show#[_,%[0,0,f,X,cS,h,X,jq|9],?_]
  show#[31,0,h1,84,43];rw[zS];show#[106,43];rw[Ho];show k _ #[#[dx,ag],?_,Paired.sv D.hc λa ns q=>#[?_,q.2]] λb o e G=>?_
  .rw[au (oR (cX h1 D.hb)),au (oR (cX h1 D.hb))];show D.hb
  .rw[au (oR (cX h1 q.1)),au (oR (cX h1 q.1))];show q.1
  .rw[au G,au G];show e
end
end Dk
namespace Fs
open PySem L2 Dk Tb
noncomputable def f2(a b:Str)(x y:V):List (Str×V):=bI b y (bI a x [])
section
variable{a b m:Str}{x y z:V}
def cp(h:¬ a=b):(f2 a b x y).lookup a^x:=by unfold f2;rw[aS,vr h,aS,C' rfl]
def kK:(f2 a b x y).lookup b^y:=by unfold f2;rw[aS,C' rfl]
def bq(h1:¬ m=b)(h2:¬ m=a):(f2 a b x y).lookup m=none:=by unfold f2;rw[aS,vr h1,aS,vr h2];rfl
def jV(h:¬ a=b):f2 a b x y=[(a,x),(b,y)]:=by unfold f2;rw[jk,eO h,jk]
def Ss(h:¬ a=b):bI b z (f2 a b x y)=f2 a b x z:=by rw[jV h,jV h,eO h,qb rfl]
def OH(h:¬ a=b):(f2 a b x y).9<1000:=by rw[jV h];change 2<1000;decide
end
mutual
structure DA where
 C:ZX
 CD:ZX
structure BA where
 dr:ZX
 p:ZX
 bl:ZX
 bs:iu
 fl:Bool
structure BS where
 dd:ZX
 cs:List ZX
 bs:iu
 D:Ds
def PH(fl:Bool)(F:V):=jI F/\(fl=false->F=.bu)
def kd:¬ (("disk" : Str) = "drafted"):=ax
structure uY(c:DA)(H:Hp)(b:BA)(s:BS):Prop where
 ob:∃dx,H b.dr^.ins c.CD dx (f2 "disk" "drafted" (.ref b.p) (.ref s.dd))
 dk:∃d uf,PH b.fl uf/\bg c.C H b.p b.bl d uf false s.cs s.bs
 hd:H s.dd^^^(nk s.D)
 hr:∀x∈s.D,kZ H x.2.1 x.2.2
 nd:(s.D.map (·.1)).4
 rg:∀x∈s.D,28<=x.1/\x.1<s.bs.9
 ln:48<=s.bs.9/\s.bs.9<=300
 z0:s.bs[0]?^mL
 g0:s.bs=b.bs
def jm(b:BA)(s:BS)(a:ZX):Prop:=a=b.dr\/a=b.p\/a=b.bl\/a=s.dd\/a∈s.cs\/∃x∈s.D,a=x.2.1
noncomputable def lb(s:BS)(j:Int):Option N4:=((look s.D j).map (·.2)).or s.bs[j.5]?
noncomputable def qg(s:BS)(x:Int×ZX×List Int):Bool:=decide (¬ s.bs[x.1.5]?^x.2.2)
noncomputable def dn(s:BS):Nat:=(s.D.filter (qg s)).9
theorem Bb{α:Type}{p:Int×α->Bool}{k:Int}{a b:α}:∀{l:List (Int×α)},(l.map (·.1)).4->look l k^b->((fj l k a).filter p).9+(if p (k,b)then 1 else 0)=(l.filter p).9+(if p (k,a)then 1 else 0)
 | [],_,h=>by cases h
 |x::l,nd,h=>by
  rw[Y5,YZ]at nd;rw[bH]at h;let one:∀(y:Int×α)(m:List (Int×α)),((y::m).filter p).9=(if p y then 1 else 0)+(m.filter p).9:=λy m=>by
   cases c:p y
   .rw[Zv c,C' c,YU];lia
   .rw[Zn c,vr c];lia
  change(((if x.1=k then(k,a)else x)::fj l k a).filter p).9+_=_;rw[one,one];cases e:x.1=k
  .rw[C' e]at h ⊢;cases h;let id:fj l k a=l:=by
    unfold fj
    conv=>rhs;rw[<-List.map_id l]
    show aee λy F=>?_;rw[vr (λz=>nd.1 (Yj.mpr #[y,F,z.trans e.6]))];rfl
   rw[id,show(k,x.2)=x by rw[<-e]];lia
  .rw[vr e]at h ⊢;have:=Bb (p:=p) (a:=a) nd.2 h;lia
def cY(b:BA)(s:BS)(H:Hp)(s':BS)(J:Hp):=Q5 (jm b s) H J/\∀a,jm b s' a->jm b s a\/H a=none
variable{c:DA}{H J:Hp}{b:BA}{s:BS}{B:eE}
def uY.off(A:uY c H b s)(o:Q5 B H J)(n:∀a,jm b s a->¬ B a):uY c J b s:=by
 let#[dx,h1]:=A.ob;let#[d,G,U,#[F,h2],Y,L]:=A.dk;show#[#[dx,o _ _ h1 (n _ (.inl rfl))],#[d,G,U,#[F,o _ _ h2 (n _ (.inr (.inl rfl)))],o _ _ Y (n _ (.inr (.inr (.inl rfl)))),jD L λa I ns q=>#[o _ _ q.1 (n _ (.inr (.inr (.inr (.inr (.inl I)))))),q.2]],
  o _ _ A.hd (n _ (.inr (.inr (.inr (.inl rfl))))),λx hx=>#[o _ _ (A.hr x hx).1 (n _ (.inr (.inr (.inr (.inr (.inr #[x,hx,rfl])))))),(A.hr x hx).2],A.nd,A.rg,A.ln,A.z0,A.g0]
def uY.same(A:uY c H b s)(o:aG H J):uY c J b s:=A.off (B:=λ_=>False) (Q5.of o) λ_ _=>id
def uY.live(A:uY c H b s){a:ZX}(h:jm b s a):H a≠none:=by
 let#[dx,h1]:=A.ob;let#[d,F,G,D]:=A.dk;obtain h|h|h|h|h|⟨x,hx,h⟩:=h
 .rw[h,h1];nofun
 .rw[h];show D.np
 .rw[h];show D.nb
 .rw[h,A.hd];nofun
 .let#[ns,q]:=gA D.hc a h;rw[q.1];nofun
 .rw[h,(A.hr x hx).1];nofun
def cY.same(o:aG H J):cY b s H s J:=#[Q5.of o,λ_ h=>.inl h]
variable{r:N4}
def uY.row(A:uY c H b s){j:Int}(h:lb s j^r):r.9=16:=by
 let#[d,F,G,D]:=A.dk;unfold lb at h;cases e:look s.D j with
 |none=>rw[e]at h;show mv D.hc h
 |some x=>rwa[e]at h;show(A.hr _ (gw e)).2
theorem uY.dl(A:uY c H b s):s.D.9<=300:=by
 have:=Qu 300 0 (s.D.map (·.1)) A.nd λx hx=>by
  let#[y,F,rfl]:=Yj.mp hx;have:=A.rg y F;have:=A.ln;lia
 (rw[si]at this;assumption)
inductive uQ(c:DA)(v:vl)(H:Hp)(Q:VK)(e:XK):Prop
 |mk(dr dx p bl:ZX)(d:Int)(uf:V)(fl:Bool)(_:PH fl uf)(cs:JS)(bs:iu)(_:v=[.ref dr,.ref p])(_:H dr^.ins c.CD dx [])(_:bg c.C H p bl d uf false cs bs)(_:48<=bs.9/\bs.9<=300)(_:bs[0]?^mL)(_:∀(J:Hp)(dd:ZX),uY c J #[68,bs,fl] #[89,[]]->Q5 (· = dr) H J->H dd=none->Q .bu J)
inductive ko(c:DA)(v:vl)(H:Hp)(Q:VK)(e:XK):Prop
 |mk(b:BA)(s:BS)(n:Int)(r:N4)(_:v=[.ref b.dr,.int n])(_:uY c H b s)(_:0<=n)(_:lb s n^r)(_:n<s.bs.9)(_:∀(J:Hp)(l:ZX),aG H J->H l=none->J l%r.17->Q (.ref l) J)
inductive mB(K:Yi)(c:DA)(v:vl)(H:Hp)(Q:VK)(e:XK):Prop
 |mk(b:BA)(s:BS)(n:Int)(l:ZX)(r:N4)(_:v=[.ref b.dr,.int n,.ref l])(_:uY c H b s)(_:28<=n)(_:n<s.bs.9)(_:bh K H l r.17)(_:r.9=16)(_:∀(J:Hp)(D':Ds),uY c J b { s with D:=D' }->(∀j,lb { s with D:=D' } j=if j=n then some r else lb s j)->(∀x∈D',x∈s.D\/(x.1=n/\x.2.2=r))->Q5 (· = s.dd) H J->cY b s H { s with D:=D' } J->dn { s with D:=D' }<=dn s+(if lb s n^r then 0 else 1)->Q .bu J)
abbrev VL:Yv:=zj (top 27) 0
abbrev UC:Yv:=zj (top 27) 1
abbrev TK:Yv:=zj (top 27) 2
abbrev UZ:Yv:=zj (top 27) 3
structure Dr(K:Yi)(mg:j5)(c:DA):Prop where
 cl:ph K c.CD
 nK:c8 K c.CD "disk"
 nD:c8 K c.CD "drafted"
 list:mg "list" = none
 len:mg "len" = none
def VF:aA "self disk".1 "self disk".1 (ao VL):=L2.bo
theorem Ht(F:bV K "__init__" "Draft.__init__" VL f fd)(T:Dr K mg c):-aO 1 f fd "self disk".1 (uQ c):=by
 show F.dZ VF ?_;intros;let#[G,dx,p,bl,d,U,fl,Y,cs,bs,rfl,I,D,ln,Z,k]:=h;show#[_,%[0,0,f,X,1,h,X,j6|9],?_]
 show#[0,0,G,c.CD,dx,[],rfl,I,85,az,?_];dsimp only;intro dd hd;let nd:dd≠G:=λe=>(hd*>[e,ag]);let L:H dd=none:=(by rw[au nd]at hd;show hd);show#[0,G,c.CD,dx,0,by rw[au (oR nd),ag],24,134];let o:Q5 (· = G) H (QZ (QZ (QZ H G (.ins c.CD dx (bI "disk" (.ref p) []))) dd (.dK [])) G (.ins c.CD dx (bI "drafted" (.ref dd) (bI "disk" (.ref p) [])))):=λb o e w=>by
  rw[au w,au (ba e L),au w];show e
 let hp:=D.np;let hb:=D.nb;show k _ dd #[#[dx,ag],#[d,U,Y,D.off o (λe=>?_) (λe=>?_) λa ns q e=>?_],by rw[au nd,ag];rfl,nofun,.nil,nofun,ln,Z,rfl] o L
 .let#[ab,h2]:=D.ob;rw[e,I]at h2;simp only[Zt,HO.ins.injEq]at h2;have:=h2.2.2;rwa[eU]at this
 .have:=D.hb;rwa[e,I]at this
 .have:=q.1;rwa[e,I]at this
def VW:aA "self n".1 "self n".1 (ao UC):=L2.bo
variable{CN CF:ZX}
theorem Hi(F:bV K "read" "Draft.read" UC f fd)(T:Dr K mg c)(Z:Txt K mg c.C)(GR:!Md 2 c.C "read" (rL c.C CN CF)):-aO 3 f fd "self n".1 (ko c):=by
 show F.dZ VW ?_;intros;let#[b,s',n,r,rfl,B,n0,G,n1,k]:=h;let#[dx,I]:=B.ob;let#[d,uf,hu,D]:=B.dk;show#[_,%[0,hr,D,cY,cv,aeQ,K,1,j,c,bI,a,ax,K,P,c,dG,j,Z.cl,GR,dh,jw,e|9],?_]
 show Kr λ_ Y je=>?_;show#[0,21,I,24,kK,s'.dd,0,gj.k (k:=Xt n) B.hd,?_];rw[cJ];unfold lb at G;cases e:look s'.D n with
 |some x =>
  rwa[e]at G;show#[true,rfl,Y _ ?_];show#[21,I,98,fC x,3,?_]
  .let q:=gj.k (k:=Xt n) B.hd;rw[cJ,e]at q;show q
  .show#[x.1,0,.inl (bh.of (B.hr _ (gw e)).1),λl G=>k _ l (aj G) G ag]
 |none =>
  rw[e]at G;show#[false,rfl,je _ ?_];let#[ab,h2]:=D.ob;show#[64,I,85,cp kd,b.p,ab,0,h2,20,0,b.p,b.bl,d,uf,false,s'.cs,s'.bs,n,rfl,D,dC ak (by have:=B.ln;lia),λz=>?_,λ_ z=>?_,λ_ _ ns U l L=>?_]
  .show D9 z (by unfold Dg;lia)
  .cases z
  .rw[show s'.bs[n.5]?^r from G]at U;cases U;show k _ l (aj L) L ag
def Vs:aA "self n numbers".1 "self n numbers".1 (ao TK):=L2.bo
theorem BO(F:bV K "write" "Draft.write" TK f fd)(T:Dr K mg c):-aO 1 f fd "self n numbers".1 (mB K c):=by
 show F.dZ Vs ?_;intros;let#[b,s',n,l,r,rfl,B,n0,n1,I,lr,k]:=h;let ld:=B.dl;let#[dx,U]:=B.ob;let hs:=HC;show#[_,%[0,0,h,bs,aG,P,bI,g|9],?_];show#[0,l,0,.inl I,λa L=>?_];let Z:=aj (X:=.lst r.17) L;let B1:=B.same Z;show#[21,Z _ _ U,98,0,jX.k (k:=Xt n) B1.hd (by unfold nk dk;rw[si];lia),?_];let ea:QZ H a (.lst r.17) a%r.17:=ag;generalize QZ H a (.lst r.17)=H1 at *;let na:a≠s'.dd:=λe=>(by rw[e]at L;rwa[B.hd]at L);let G:∀X,Q5 (· = s'.dd) H (QZ H1 s'.dd X):=λX b o e w=>(Z _ _ e<*au w);let nx:∀{y xs},H y%xs->y≠s'.dd:=λe z=>(e*>[z,B.hd]);let#[d,uf,hu,#[ab,h2],h3,h4]:=id B.dk;let ac:∀X,bg c.C (QZ H1 s'.dd X) b.p b.bl d uf false s'.cs s'.bs:=λX=>#[#[ab,G X _ _ h2 λe=>by rwa[e,B.hd]at h2],G X _ _ h3 (nx h3),jD h4 λy Y ns q=>#[G X _ _ q.1 (nx q.1),q.2]];let fin:∀D':Ds,putK (nk s'.D) (Xt n) (fC (a,r))=nk D'->(∀j,look D' j=if j=n then some (a,r)else look s'.D j)->(∀x∈D',x∈s'.D\/x=(n,a,r))->(D'.map (·.1)).4->dn { s' with D:=D' }<=dn s'+(if lb s' n^r then 0 else 1)->Q .bu (QZ H1 s'.dd (.dK (putK (nk s'.D) (Xt n) (fC (a,r))))):=λD' e1 e2 e3 e4 e5=>by
  show k _ D' #[#[dx,G _ _ _ U λe=>by rwa[e,B.hd]at U],#[d,uf,hu,ac _],by rw[ag,e1],123,e4,123,B.ln,B.z0,B.g0] (λj=>?_) (λx hx=>(e3 x hx).imp id λz=>#[1]<*z) (G _) #[(G _).mono λy z=>.inr (.inr (.inr (.inl z))),λy z=>?_] e5
  .rcases e3 x hx with z|z
   .show#[G _ _ _ (B.hr x z).1 (nx (B.hr x z).1),(B.hr x z).2]
   .rw[z];show#[ea<*au na,lr]
  .rcases e3 x hx with z|z
   .show B.rg x z
   .rw[z];show#[n0,n1]
  .unfold lb;rw[show(look (BS.mk s'.dd s'.cs s'.bs D').D j)=_ from e2 j];cases z:j=n
   .rw[C' z,C' z];rfl
   .rw[vr z,vr z]
  .rcases z with z|z|z|z|z|⟨x,hx,z⟩
   .show .inl (.inl z)
   .show .inl (.inr (.inl z))
   .show .inl (.inr (.inr (.inl z)))
   .show .inl (.inr (.inr (.inr (.inl z))))
   .show .inl (.inr (.inr (.inr (.inr (.inl z)))))
   .rcases e3 x hx with y|y
    .show .inl (.inr (.inr (.inr (.inr (.inr #[x,y,z])))))
    .rw[z,y];show .inr L
 cases e:look s'.D n with
 |none =>
  show fin (s'.D++[(n,a,r)]) (gT e) (λj=>ky j e) (λx hx=>?_) ?_ ?_
  .rcases Yh.mp hx with z|z
   .show .inl z
   .show .inr (z4.mp z)
  .rw[DD,YJ];show#[B.nd,by simp,λx hx y Y=>(λz=>kC e (z▸hx))<*z4.mp (show y∈[n]from Y)]
  .let I:lb s' n=s'.bs[n.5]?:=(by unfold lb;rw[e];rfl);change((s'.D++[(n,a,r)]).filter (qg s')).9<=dn s'+_;rw[ZY,tp,I];cases z:s'.bs[n.5]?^r
   .rw[C' z,Zn (by change ¬ decide _;rw[ck (λw=>w z)];nofun),E7];show BY _
   .rw[vr z];show zI (Zx _ _) _
 |some x =>
  show fin (fj s'.D n (a,r)) (js e) (λj=>h9 j e) (λy Y=>?_) (B.nd<*ke) ?_
  .let#[y',h1,h2]:=Yj.mp Y;cases z:y'.1=n
   .rw[C' z]at h2;show .inr h2.6
   .rw[vr z]at h2;rw[<-h2];show .inl h1
  .let q:=Bb (p:=qg s') (a:=(a,r)) B.nd e;let I:lb s' n^x.2:=(by unfold lb;rw[e];rfl);change((fj s'.D n (a,r)).filter (qg s')).9<=dn s'+_;unfold dn;rw[I];cases z:some x.2^r
   .let ed:qg s' (n,a,r)=qg s' (n,x):=(by change decide (¬ s'.bs[n.5]?^r)=decide (¬ s'.bs[n.5]?^x.2);rw[z]);rw[C' z];rw[ed]at q;lia
   .rw[vr z];have:(if qg s' (n,a,r)then 1 else 0)<=1:=(by split<;>lia);lia
inductive QF(qU:iu)(N:Nat)(old new:Nat->Option N4):Prop
 |calm(_:Calm qU N old)
 |pend(ns:N4)(_:pP qU N old new ns)
inductive Xg(c:DA)(p bl:ZX)(cs:JS)(N:Nat)(old new:Nat->Option N4)(H J:Hp):Prop
 |mk(d:Int)(uf:V)(jC:JS)(qU:iu)(_:jI uf)(_:bg c.C J p bl d uf true jC qU)(_:QF qU N old new)(_:iR cs H jC)
inductive DU(c:DA)(b:BA)(s:BS)(H J:Hp):Prop
 |mk (_:Xg c b.p b.bl s.cs s.bs.9 (λj=>s.bs[j]?) (λj=>lb s j) H J) (_:Q5 (jm b s) H J) (_:b.fl):DU c b s H J
inductive yz(c:DA)(CF:ZX)(v:vl)(H:Hp)(Q:VK)(e:XK):Prop
 |mk(b:BA)(s:BS)(_:v=[.ref b.dr])(_:uY c H b s)(_:dn s<=24)(_:∀(J:Hp)(s':BS),uY c J { b with bs:=s'.bs } s'->s'.D=[]->(∀j,28<=j->lb s' j=lb s j)->s'.bs.9=s.bs.9->cY b s H s' J->Q .bu J)(_:∀J,DU c b s H J->e (.ref CF) none J)
def wI{α:Type}{l:List (Int×α)}{p:Int×α->Bool}(nd:(l.map (·.1)).4)(j:Int):look (l.filter p) j=(look l j).bind λa=>if p (j,a)then some a else none:=by
 induction l with
 |nil=>rfl
 |cons x l F =>
  rw[Y5,YZ]at nd;rw[bH];cases e:x.1=j
  .rw[C' e];let G:look (l.filter p) j=none:=by
    rw[F nd.2];cases q:look l j with
    |none=>rfl
    |some a=>show D9 (Yj.mpr #[_,gw q,e.6]) nd.1
   cases c:p x
   .rw[Zv c,bH,C' e,MV,C' (by rw[<-e];show c)]
   .rw[Zn c,G,MV,vr (by rw[<-e];show c)]
  .rw[vr e, <-F nd.2];cases c:p x
   .rw[Zv c,bH,vr e]
   .rw[Zn c]
def DG(nd:(s.D.map (·.1)).4):newOf (s.D.filter (qg s)) (λj=>s.bs[j]?)=λj:Nat=>lb s (j:Int):=funext λj=>by
 unfold newOf lb;rw[wI nd,Xd];cases e:look s.D (j:Int)with
 |none=>rfl
 |some x =>
  rw[MV];cases y:qg s ((j:Int),x)
  .rw[C' y]
  .rw[vr y,map_none,none_or,DK,some_or];show O4.mp λw=>y (Ja w)
variable{i j:Nat}{x:Int}
def sf{l:N4}(nd:l.4)(hi:l[i]?^x)(I:l[j]?^x):i=j:=by
 let#[h1,F]:=wh.mp hi;let#[h2,G]:=wh.mp I;obtain h|h|h:=aeV i j
 .show D9 (F.trans G.6) (YE.mp nd i j h1 h2 h)
 .show h
 .show D9 (G.trans F.6) (YE.mp nd j i h2 h1 h)
def Mi:aA "self changes n".1 ["self"] (ao UZ):=L2.bo
theorem yO(F:bV K "finish" "Draft.finish" UZ f fd)(T:Dr K mg c)(TC:Txt K mg c.C)(GR:!Md 2 c.C "read" (rL c.C CN CF))(GC:!Df 5 "commit" (xC c.C CF)):!aO 6 f fd ["self"] (yz c CF):=by
 show F.dQ Mi ?_;intros;let#[b,s',rfl,B,ld,k,kE]:=h;let l3:=B.dl;let ld:(s'.D.filter (qg s')).9<=24:=ld;let hs:=HC;let#[dx,L]:=B.ob;let#[d,uf,hu,D]:=B.dk;let ac:=B.hd;show#[_,%[Mi,hr,G,1,j6,Q,bn,aff,cs,bn,aei,j,y,2,h,an,i,bn,afb,hr.ET,ax,K,j,2,dG,j,b4,GR,dh,jw,g,F,h,bs,K,1,2,ax,K,j,2,Q,X,j6,aO,bu,bE,q,adn,dm,e,r,av,m,GC,U,e|9],?_]
 show jJ λ_ jt=>?_;intro ch ab;show jt _ _ ?_;clear jt;let#[s1,c1]:=gI (X:=.dK []) ab;generalize QZ _ _ (.dK [])=H1 at *;let ad:ch≠s'.dd:=λe=>(ab*>[e,ac]);let a6:∀(o:Obj) u',H s'.dd≠some (.frz o u'):=λo u' z=>(z*>ac);show#[21,s1 _ _ L,24,kK,s'.dd,0,s1 _ _ ac,a6,λo=>?_];let o1:Q5 (· = s'.dd) H (QZ H1 s'.dd (.frz o (.dK (nk s'.D)))):=λa u e z=>(s1 _ _ e<*au z);let c2:QZ H1 s'.dd (.frz o (.dK (nk s'.D))) ch^^^[]:=(c1<*au ad);let d2:QZ H1 s'.dd (.frz o (.dK (nk s'.D))) s'.dd^.frz o (.dK (nk s'.D)):=ag;generalize QZ H1 s'.dd (.frz o (.dK (nk s'.D)))=HF at *;let nl:∀{a xs},H a%xs->HF a%xs:=λ{a xs} e=>o1 _ _ e λz=>(e*>[z,ac]);let aB:∀{a C dx fs},H a^.ins C dx fs->HF a^.ins C dx fs:=λ{a C dx fs} e=>o1 _ _ e λz=>(e*>[z,ac]);let free:∀{a},HF a=none->H a=none:=λ{a} e=>by
  cases q:H a with
  |none=>rfl
  |some u =>
   cases z:a=s'.dd
   .rw[z,d2]at e;cases e
   .rw[o1 _ _ q z]at e;cases e
 show adM (a:=s'.dd) (o:=o) (Ki:=nk s'.D) (λi σ H2=>∃v2:Option V,tD (σ=#v[.ref b.dr,.ref ch,v2]) (H2 ch^^^(nk ((s'.D.take i).filter (qg s')))) (Q5 (· = ch) HF H2)) #[0,c2<*Z9,131] (λi σ H2 _ z=>by let#[_,_,_,U]:=z;show U _ _ d2 (oR ad)) ?_ ?_
 .rintro i kk v σ H2 hk ⟨v2,rfl,h2,U⟩;let aY:(s'.D.map λx:Int×ZX×List Int=>((Xt x.1:Key),fC x.2))[i]?^(kk,v):=hk;rw[IF]at aY;let#[x,hx,e]:=NC.mp aY;cases e;let aK:=Yk hx;let lk:=kB B.nd (show(x.1,x.2)∈s'.D from aK);let rg:=B.rg x aK;let len:=B.ln;let aN:∀{a u},H a^u->a≠ch:=λe z=>(e*>[z,ab]);let L2:∀{a xs},H a%xs->H2 a%xs:=λe=>U _ _ (nl e) (aN e);let I2:∀{a C dx fs},H a^.ins C dx fs->H2 a^.ins C dx fs:=λe=>U _ _ (aB e) (aN e);let gd:∀{H':Hp},H' s'.dd^.frz o (.dK (nk s'.D))->gj H' s'.dd (.int x.1) (some (fC x.2)):=λe=>.inl #[_,Xt x.1,.inr #[_,e],rfl,by rw[cJ,lk];rfl];let e2:=U _ _ d2 (oR ad);let#[ar,Z]:=D.ob;let D2:bg c.C H2 b.p b.bl d uf false s'.cs s'.bs:=#[#[ar,I2 Z],L2 D.hb,jD D.hc λa _ ns q=>#[L2 q.1,q.2]];obtain⟨ns,aX⟩:∃ns,s'.bs[x.1.5]?^ns:=#[_,vu ak];show GL λQQ ji je=>?_;show#[21,I2 L,98,0,gd e2,64,I2 L,85,cp kd,b.p,ar,0,I2 Z,20,0,b.p,b.bl,d,uf,false,s'.cs,s'.bs,x.1,rfl,D2,dC ak ak,λz=>D9 z (by unfold Dg;lia),λ_ z=>(by cases z),λ_ _ bd hn l hl=>?_];rwa[aX]at hn;let s3:=aj (X:=.lst ns.17) hl;let h3:=s3 _ _ h2;let hr:=(B.hr x aK).1;show#[x.2.1,l,x.2.2.map V.int,ns.map V.int,1,bh.of (s3 _ _ (L2 hr)),49,tV _,tV _,0,?_];rw[uh];let ht:s'.D.take (i+1)=s'.D.take i++[x]:=(by rw[Y9,hx];rfl);let o3:Q5 (· = ch) HF (QZ H2 l (.lst ns.17)):=λa u e z=>s3 _ _ (U _ _ e z);generalize QZ H2 l (.lst ns.17)=H3 at *;cases z:x.2.2=ns
  .let hd:qg s' x=false:=ck (λw=>w (by rw[aX,z]));rw[Ja z];show je _ #[0,?_,o3];rw[ht,ZY,Zn (by rw[hd];nofun),E7,Yw];show h3
  .let hd:qg s' x:=Ja (λw=>z (by rw[aX]at w;show(OR w).6));rw[ck z];show ji _ ?_;show#[21,o3 _ _ (aB L) (aN L),98,0,gd (o3 _ _ d2 (oR ad)),0,0,ch,0,jX.k (k:=Xt x.1) h3 (by unfold nk dk;rw[si];have:=Zx (qg s') (s'.D.take i);rw[Nx]at this;lia),0,?_,λa u e z=>o3 _ _ e z<*au z];rw[ag,ht,ZY,Zv hd,E7];show Ur (λy=>some (HO.dK y)) (gT (f:=fC) (a:=x.2) ?_);cases q:look ((s'.D.take i).filter (qg s')) x.1 with
   |none=>rfl
   |some u =>
    exfalso;let m1:=(YN.mp (gw q)).1;let#[j,hj,e3]:=aed m1;rw[HY]at e3;rw[Nx]at hj;let hi:=(wh.mp hx).1;let ij:=sf (x:=x.1) B.nd (i:=j) (j:=i) (by rw[IF,vu ak,e3];rfl) (by rw[IF,hx];rfl);lia
 .rintro σ H2 ⟨v2,rfl,h2,U⟩;rw[show(nk s'.D).9=s'.D.9 by unfold nk dk;rw[si],Zo]at h2;show#[s'.dd,o,_,U _ _ d2 (oR ad),a6,?_];let o3:Q5 (· = ch) H (QZ H2 s'.dd (.dK (nk s'.D))):=λa u e z=>by
   cases y:a=s'.dd
   .rw[y,ag, <-ac, <-y,e]
   .rw[au y];show U _ _ (o1 _ _ e y) z
  let s3:aG H (QZ H2 s'.dd (.dK (nk s'.D))):=λa u e=>o3 a u e λz=>(e*>[z,ab]);let h3:QZ H2 s'.dd (.dK (nk s'.D)) ch^^^(nk (s'.D.filter (qg s'))):=(h2<*au ad);let f3:∀{a},QZ H2 s'.dd (.dK (nk s'.D)) a=none->H a=none:=λ{a} e=>by
   cases q:H a with
   |none=>rfl
   |some u=>rwa[s3 _ _ q]at e
  generalize QZ H2 s'.dd (.dK (nk s'.D))=H3 at *;clear h2 U o3 o1 c2 d2 nl aB free c1 s1;intro G a5;let f4:=f3 a5;let s4:=aj (X:=.dK []) a5;let a7:G≠b.dr:=λe=>(f4*>[e,L]);show#[0,b.dr,c.CD,dx,0,s4 _ _ (s3 _ _ L),24,OH kd,?_];rw[Ss kd];let Y:Q5 (· = b.dr) H (QZ (QZ H3 G (.dK [])) b.dr (.ins c.CD dx (f2 "disk" "drafted" (.ref b.p) (.ref G)))):=λa u e z=>(s4 _ _ (s3 _ _ e)<*au z);let bc:ch≠b.dr:=λe=>(ab*>[e,L]);let h5:QZ (QZ H3 G (.dK [])) b.dr (.ins c.CD dx (f2 "disk" "drafted" (.ref b.p) (.ref G))) ch^^^(nk (s'.D.filter (qg s'))):=(s4 _ _ h3<*au bc);let e5:QZ (QZ H3 G (.dK [])) b.dr (.ins c.CD dx (f2 "disk" "drafted" (.ref b.p) (.ref G))) G^^^[]:=(by rw[au a7,ag]);let r5:QZ (QZ H3 G (.dK [])) b.dr (.ins c.CD dx (f2 "disk" "drafted" (.ref b.p) (.ref G))) b.dr^.ins c.CD dx (f2 "disk" "drafted" (.ref b.p) (.ref G)):=ag;generalize QZ (QZ H3 G (.dK [])) b.dr (.ins c.CD dx (f2 "disk" "drafted" (.ref b.p) (.ref G)))=H5 at *;let nr:∀{a xs},H a%xs->a≠b.dr:=λe z=>(e*>[z,L]);let#[ar,Z]:=D.ob;let a3:b.p≠b.dr:=λz=>by
   rw[z,L]at Z;simp only[Zt,HO.ins.injEq]at Z;have:=Z.2.2;rwa[jV kd,eU]at this
  let D5:bg c.C H5 b.p b.bl d uf false s'.cs s'.bs:=#[#[ar,Y _ _ Z a3],Y _ _ D.hb (nr D.hb),jD D.hc λa _ ns q=>#[Y _ _ q.1 (nr q.1),q.2]];let a4:∀(ay:JS)(a0:iu),(∀y∈ay,y∈s'.cs\/H y=none)->∀a,jm b #[G,ay,a0,[]] a->jm b s' a\/H a=none:=λay a0 hc a z=>by
   obtain z|z|z|z|z|⟨x,hx,z⟩:=z
   .show .inl (.inl z)
   .show .inl (.inr (.inl z))
   .show .inl (.inr (.inr (.inl z)))
   .show .inr (f4<*z)
   .show(hc a z).imp (λy=>.inr (.inr (.inr (.inr (.inl y))))) id
   .cases hx
  let ap:∀{α:Type}{p:Int×α->Prop},∀x∈([]:List (Int×α)),p x:=λx hx=>(by cases hx);dsimp only;show Oz λQQ ji je=>?_;show#[0,ch,0,h5,32];let lk:(nk (s'.D.filter (qg s'))).9=(s'.D.filter (qg s')).9:=(by unfold nk dk;rw[si]);cases z:(0:Int)<((nk (s'.D.filter (qg s'))).9:Int)
  .rw[Ja z];show ji _ ?_;show#[64,r5,85,cp kd,0,b.p,b.bl,ch,d,uf,s'.cs,s'.bs,s'.D.filter (qg s'),s'.bs.9,0,D5,hu.1,by have:=B.ln;lia,B.ln.2,#[rfl,B.z0,λ_ _=>rfl],#[h5,123,?_,λx hx=>B.rg x (YN.mp hx).1,ak,ld],λH6 d6 aT as am D6 u6 n6 I c6 o6=>?_,λhz H6 d6 aT as am D6 u6 I c6 o6=>?_]
   .let q:=B.hr x (YN.mp hx).1;show#[Y _ _ q.1 (nr q.1),q.2]
   .show VQ ((aef).map _) B.nd
   .let bb:∀{a u},H5 a^u->(∀C dx fs,u≠.ins C dx fs)->(∀xs,u≠.lst xs)->H6 a^u:=λ{a u} e n1 n2=>o6 _ _ e λy=>by
     obtain y|y:=y
     .rw[y]at e;let#[_,q]:=D5.ob;rw[q]at e;show n1 _ _ _ (OR e).6
     .rw[y,D5.hb]at e;show n2 _ (OR e).6
    let f5:∀{a},H5 a=none->H a=none:=λ{a} e=>by
     cases q:H a with
     |none=>rfl
     |some u =>
      cases y:a=b.dr
      .rw[y,r5]at e;cases e
      .rw[Y _ _ q y]at e;cases e
    show k H6 #[G,as,am,[]] #[#[dx,o6 _ _ r5 λy=>?_],#[d6,aT,#[u6,λq=>n6 (hu.2 q)],D6],bb e5 nofun nofun,ap,.nil,ap,by change 48<=am.9/\_;rw[I.len];show B.ln,I.b0,rfl] rfl (λj hj=>?_) I.len #[λa u e y=>?_,a4 _ _ λy hy=>(c6 y hy).imp id f5]
    .rcases y with y|y
     .show a3 y.6
     .show nr D.hb y.6
    .let q:=I.at_ j.5 ak;rw[DG B.nd]at q;dsimp only at q;rw[ZT ak]at q;change((look ([]:Ds) j).map (·.2)).or am[j.5]?=_;rw[mi,map_none,none_or,q]
    .show o6 _ _ (Y _ _ e λw=>y (.inl w)) λw=>y ?_;obtain w|w:=w
     .show .inr (.inl w)
     .show .inr (.inr (.inl w))
   .let f5:∀{a},H5 a=none->H a=none:=λ{a} e=>by
     cases q:H a with
     |none=>rfl
     |some u =>
      cases y:a=b.dr
      .rw[y,r5]at e;cases e
      .rw[Y _ _ q y]at e;cases e
    rw[DG B.nd]at I;show kE H6 #[#[d6,aT,as,am,u6,D6,?_,λx hx=>(c6 x hx).imp id f5],λa u e y=>?_,?_]
    .rcases I with I|⟨ns,I⟩
     .show .calm I
     .show .pend ns I
    .show o6 _ _ (Y _ _ e λw=>y (.inl w)) λw=>y ?_;obtain w|w:=w
     .show .inr (.inl w)
     .show .inr (.inr (.inl w))
    .cases q:b.fl with
     |true=>rfl
     |false=>show D9 (hu.2 q) hz
  .rw[ck z];show je _ ?_;show k H5 #[G,s'.cs,s'.bs,[]] #[#[dx,r5],#[d,uf,hu,D5],e5,ap,.nil,ap,B.ln,B.z0,rfl] rfl (λj hj=>?_) rfl #[λa u e y=>Y _ _ e λw=>y (.inl w),a4 _ _ λy hy=>.inl hy];change((look ([]:Ds) j).map (·.2)).or s'.bs[j.5]?=_;unfold lb;rw[mi,map_none,none_or];cases e:look s'.D j with
   |none=>rfl
   |some x =>
    rw[DK,some_or];show O4.mp λw=>?_;let m:(j,x)∈s'.D.filter (qg s'):=YN.mpr #[gw e,Ja w];have:=List.length_pos_of_mem m;lia
variable{m:Nat}
def Xj{a F c:Nat}(h:a+c<=m)(k:F<=m):min a F+c+(F-(a+c))<=m:=by
 rcases Nat.le_total F (a+c)with z|z
 .rw[Z7 z];show Oi (Ca (Rm ..) c) h
 .rw[YV (Z5 z),ZF z];show k
structure Node where
 dir:Bool
 ln:Int
 cs:List Int
abbrev NS:=Int->Option Node
def JG(xs:N4)(m:Nat):List Int:=xs++Yl (m-xs.9) 0
def rb(n:Int):Int:=28+8*n/16
def rs(n:Int):Nat:=(8*n%16).5
structure mY(K:Yi)(mg:j5)(CN:ZX):Prop where
 cl:ph K CN
 nD:c8 K CN "draft"
 nT:c8 K CN "total"
 cC:∃u,mg "BLOCK_NUMBERS" = some u/\zH (.int 16) u
 oV:∃u,mg "NODES" = some u/\zH (.int 24) u
 yk:∃u,mg "FIRST_ROWS" = some u/\zH (.int 28) u
 iO:∃u,mg "FIRST_CONTENTS" = some u/\zH (.int 48) u
 fi:∃u,mg "ROW_NUMBERS" = some u/\zH (.int 8) u
 hG:∃u,mg "ROW_BLOCKS" = some u/\zH (.int 5) u
 gi:∃u,mg "NEAR_BLOCKS" = some u/\zH (.int 4) u
 LA:∃a,(∃u,mg "KINDS" = some u/\zH (.ref a) u)/\eM K (λ_=>none) a [.bu,.str "file",.str "dir"]
 KT:∀a,(∃u,mg "KINDS" = some u/\zH (.ref a) u)->∃o,K.lookup a^o/\o.cls=.type "tuple" /\ o.dict=none
 len:mg "len" = none
 range:mg "range" = none
 enumerate:mg "enumerate" = none
def kn:¬ (("draft" : Str) = "total"):=ax
structure NO(c:DA)(CN:ZX)(H:Hp)(a:ZX)(b:BA)(s:BS)(ah:Nat):Prop where
 ob:∃dx,H a^.ins CN dx (f2 "draft" "total" (.ref b.dr) (.int ah))
 B:uY c H b s
 tt:s.bs.9=48+ah
variable{ah:Nat}
theorem NO.same{a:ZX}(A:NO c CN H a b s ah)(o:aG H J):NO c CN J a b s ah:=by
 let#[dx,h]:=A.ob;show#[#[dx,o _ _ h],A.B.same o,A.tt]
variable{n:Int}
def qM(F:0<=n)(h1:n<24):28<=rb n/\rb n<40/\rs n+8<=16:=by
 let#[k,rfl]:=Int.eq_ofNat_of_zero_le F;show(by decide +kernel:∀k:Fin 24,28<=rb ((k:Nat):Int)/\rb ((k:Nat):Int)<40/\rs ((k:Nat):Int)+8<=16) #[k,Int.ofNat_lt.mp h1]
inductive KH(v:vl)(H:Hp)(Q:VK)(e:XK):Prop
 |mk(a:ZX)(n:Int)(_:v=[.ref a,.int n])(_:Q (.int (rb n)) H)
inductive i7(c:DA)(CN:ZX)(v:vl)(H:Hp)(Q:VK)(e:XK):Prop
 |mk(a:ZX)(b:BA)(s:BS)(ah:Nat)(n:Int)(r:N4)(_:v=[.ref a,.int n])(_:NO c CN H a b s ah)(_:0<=n)(_:n<24)(_:lb s (rb n)^r)(_:∀(J:Hp)(l:ZX),aG H J->H l=none->J l%(((r.drop (rs n)).take 8).map V.int)->Q (.ref l) J)
inductive lI(v:vl)(H:Hp)(Q:VK)(e:XK):Prop
 |mk(l:ZX)(xs:N4)(m:Nat)(_:v=[.ref l,.int m])(_:H l%xs.17)(_:m<=1000)(_:xs.9<=1000)(_:∀(J:Hp)(q:ZX),aG H J->H q=none->J q%((JG xs m).map V.int)->Q (.ref q) J)
def jW(r row:N4)(st:Nat):List Int:=r.take st++row++r.drop (st+8)
theorem Wn{p:Prop}[Decidable p]{a b:Nat}(h:a<=b+(if p then 0 else 1)):a<=b+1:=Oi h (by split<;>lia)
inductive jf(c:DA)(CN:ZX)(v:vl)(H:Hp)(Q:VK)(e:XK):Prop
 |mk(a:ZX)(b:BA)(s:BS)(ah:Nat)(n k ln sz:Int)(l:ZX)(xs r:N4)(_:v=[.ref a,.int n,.int k,.int ln,.int sz,.ref l])(_:NO c CN H a b s ah)(_:0<=n)(_:n<24)(_:lb s (rb n)^r)(_:H l%xs.17)(_:xs.9<=5)(_:∀(J:Hp)(s':BS),NO c CN J a b s' ah->(∀j,lb s' j=if j=rb n then some (jW r ([k,ln,sz]++JG xs 5) (rs n))else lb s j)->dn s'<=dn s+(if lb s (rb n)=some (jW r ([k,ln,sz]++JG xs 5) (rs n))then 0 else 1)->cY b s H s' J->Q .bu J)
abbrev WE:Yv:=zj (top 42) 12
abbrev Ue:Yv:=zj (top 42) 10
abbrev WJ:Yv:=zj (top 42) 11
abbrev VI:Yv:=top 41
def VZ:aA "self n".1 "self n".1 (ao WE):=L2.bo
def KD(F:bV K "block_of_row" "Nodes.block_of_row" WE f fd)(T:mY K mg CN):-aO 1 f fd "self n".1 KH:=by
 show F.dZ VZ ?_;intros;let#[a,n,rfl,k]:=h;show#[_,%[0,0,c,k,v,T.yk,bZ,bq,ce,1,bL|9],?_];show#[0,133,7,#[az,az],7,k]
def Wz:aA "numbers many".1 "numbers many".1 (ao VI):=L2.bo
theorem KJ(F:bV K "filled" "filled" VI f fd)(T:mY K mg CN):-aO 1 f fd "numbers many".1 lI:=by
 show F.dZ Wz ?_;intros;let#[l,xs,m,rfl,U,hm,hx,k]:=h;let hs:=HC;show#[_,%[0,0,c,B,0,bV,x,aF,a2,1,t,s|9],?_];show#[0,az,λZ h1=>?_];let Y:=aj (X:=.lst [V.int 0]) h1;show#[0,0,l,0,.inl (bh.of (Y _ _ U)),7,Z,7,ag,4,?_,λq2 h2=>?_]
 .rw[si];lia
 .rw[si];lia
 .rw[si,Yq];lia
 let e:((m:Int)-((xs.map V.int).9:Nat)).5=m-xs.9:=(Int.toNat_sub ..<*si);rw[rep1,e];let#[sN,e2]:=gI (X:=.lst (Yl (m-xs.9) (V.int 0))) h2;generalize QZ _ _ (.lst (Yl (m-xs.9) (V.int 0)))=H2 at *;let G:=Y.trans sN;show#[l,q2,7,G _ _ U,e2,Oi (IP hx (Oi (iC ..) hm)) az<*[si,Zg],λI L=>?_];let f3:H I=none:=by
  cases q:H I with
  |none=>rfl
  |some u=>rwa[G _ _ q]at L
 show k _ I (G.trans (aj L)) f3 ?_;rw[ag];unfold JG;rw[DD,Lc]
def Rc:aA "self n start".1 "self n".1 (ao Ue):=L2.bo
theorem EA(F:bV K "row_of" "Nodes.row_of" Ue f fd)(T:mY K mg CN)(TD:Dr K mg c)(U:-Md 1 CN "block_of_row" KH)(GD:-Md 3 c.CD "read" (ko c)):-aO 4 f fd "self n".1 (i7 c CN):=by
 show F.dZ Rc ?_;intros;let#[a,b,s',ah,n,r,rfl,N,Z,n1,hl,k]:=h;let#[dx,I]:=N.ob;let#[ab,h2]:=N.B.ob;let rg:=qM Z n1;let ln:=N.B.ln;show#[_,%[Rc,hr,aH,aP,bq,ce,1,bL,c,C,E,b0,GD,a,T,(U),e,ag,2,ag,k,2,ce|9],?_]
 show#[0,133,7,(Ao 15),?_];show#[28,I,44,ab,0,h2,9,a,dx,0,I,9,a,n,rfl,b,s',rb n,r,rfl,N.B,ak,hl,ak,λH1 l L fl e1=>?_];show#[0,8*n%16,rfl,0,7,8*n%16+8,75,bh.of e1,λq G=>?_];let Y:dJ r.17 (some (8*n%16)) (some (8*n%16+8))=((r.drop (rs n)).take 8).map V.int:=by
  have:8*n%16=((rs n:Nat):Int):=(by unfold rs;lia);rw[this];show qh (n:=8)
 rw[Y];let f3:H q=none:=by
  cases e:H q with
  |none=>rfl
  |some u=>rwa[L _ _ e]at G
 show k _ q (L.trans (aj G)) f3 ag
variable{a:ZX}
def aR(s:aG H J)(h:J a=none):H a=none:=by
 cases e:H a with
 |none=>rfl
 |some u=>rwa[s _ _ e]at h
theorem dE{xs:N4}(h:xs.9<=m):(JG xs m).9=m:=by
 unfold JG;rw[tp,Zg];lia
variable{st:Nat}
def we{row:N4}(h1:r.9=16)(h2:row.9=8)(F:st+8<=16):(jW r row st).9=16:=by
 unfold jW;rw[tp,tp,Nx,YB,h1,h2,YV (Z5 F),ZF F]
variable{s':BS}{H1:Hp}
def cY.pre(o:aG H H1)(st:cY b s H1 s' J):cY b s H s' J:=#[λa u e z=>st.1 a u (o _ _ e) z,λa z=>(st.2 a z).imp id (aR o)]
inductive vt(c:DA)(CN:ZX)(vs:vl)(H:Hp)(Q:VK)(e:XK):Prop
 |mk(a:ZX)(b:BA)(s:BS)(ah:Nat)(n:Int)(_:vs=[.ref a,.int n])(_:NO c CN H a b s ah)(_:(n<0\/24<=n->Q .bu H))(_:(0<=n->n<24->∃(r:N4)(k:Int)(v:V),lb s (rb n)^r/\r[rs n]?^k/\0<=k/\k<3/\[V.bu,.str "file",.str "dir"][k.5]?^v/\∀J,aG H J->Q v J))
inductive kU(i:Nat)(c:DA)(CN:ZX)(v:vl)(H:Hp)(Q:VK)(e:XK):Prop
 |mk(a:ZX)(b:BA)(s:BS)(ah:Nat)(n:Int)(r:N4)(k:Int)(_:v=[.ref a,.int n])(_:NO c CN H a b s ah)(_:0<=n)(_:n<24)(_:lb s (rb n)^r)(_:r[rs n+i]?^k)(_:∀J,aG H J->Q (.int k) J)
inductive lU(c:DA)(CN:ZX)(v:vl)(H:Hp)(Q:VK)(e:XK):Prop
 |mk(a:ZX)(b:BA)(s:BS)(ah:Nat)(n:Int)(r:N4)(_:v=[.ref a,.int n])(_:NO c CN H a b s ah)(_:0<=n)(_:n<24)(_:lb s (rb n)^r)(_:∀(J:Hp)(s':BS),NO c CN J a b s' ah->(∀j,lb s' j=if j=rb n then some (jW r (Yl 8 0) (rs n))else lb s j)->dn s'<=dn s+(if lb s (rb n)=some (jW r (Yl 8 0) (rs n))then 0 else 1)->cY b s H s' J->Q .bu J)
inductive uA(c:DA)(CN:ZX)(v:vl)(H:Hp)(Q:VK)(e:XK):Prop
 |mk(a:ZX)(b:BA)(s:BS)(ah:Nat)(n m:Int)(r:N4)(k l z:Int)(xs:N4)(_:v=[.ref a,.int n,.int m])(_:NO c CN H a b s ah)(_:0<=n)(_:n<24)(_:lb s (rb n)^r)(_:(r.drop (rs n)).take 8=[k,l,z]++xs)(_:xs.9=5)(_:∀(J:Hp)(s':BS),NO c CN J a b s' ah->(∀j,lb s' j=if j=rb n then some (jW r ([k,m,z]++xs) (rs n))else lb s j)->dn s'<=dn s+1->cY b s H s' J->Q .bu J)
abbrev WT:Yv:=zj (top 42) 1
abbrev Uo:Yv:=zj (top 42) 2
abbrev Vd:Yv:=zj (top 42) 3
abbrev Wo:Yv:=zj (top 42) 6
abbrev TZ:Yv:=zj (top 42) 7
def yF{k:Int}(h:r[st+i]?^k)(hi:i<8):lJ (((r.drop st).take 8).map V.int) (i:Int)^.int k:=aJ (by
 rw[IF,Zb,C' hi,Zz,h];rfl)
def JD:aA "self n kind links size blocks start rows row".1 "self n kind links size blocks".1 (ao WJ):=L2.bo
theorem Cq(F:bV K "put_row" "Nodes.put_row" WJ f fd)(T:mY K mg CN)(TD:Dr K mg c)(GB:-Md 1 CN "block_of_row" KH)(GD:-Md 3 c.CD "read" (ko c))(GW:-Md 1 c.CD "write" (mB K c))(GF:-Df 1 "filled" lI):-aO 4 f fd "self n kind links size blocks".1 (jf c CN):=by
 show F.dZ JD ?_;intros;let#[a,b,s',ah,n,I,ln,sz,l,xs,r,rfl,N,n0,n1,hl,hx,lx,k]:=h;let#[dx,U]:=N.ob;let#[ac,h2]:=N.B.ob;let rg:=qM n0 n1;let bl:=N.B.ln;let hs:=HC;let lr:=N.B.row hl;let e8:8*n%16=((rs n:Nat):Int):=(by unfold rs;lia);show#[_,%[JD,hr,ah,6,aP,bq,ce,1,bL,ah,7,E,b0,GD,a,T,GB,e,ah,8,B,aQ,2,b,3,az,d,GF,b,5,a,cw,l,E,b0,GW,b,T,GB,e,a,B,B,C,7,a9,6,8,C,7,ag,k,6,ce,cu|9],?_]
 show jJ λ_ G=>?_;show#[0,133,7,(Ao 15),G _ _ ?_];clear G;show jJ λ_ G=>?_;show#[28,U,44,ac,0,h2,9,a,dx,0,U,9,a,n,rfl,b,s',rb n,r,rfl,N.B,ak,hl,ak,λH1 l1 s1 f1 e1=>G _ _ ?_];clear G;show jJ λ_ G=>?_;show#[0,0,0,eW,λl2 ap=>?_];let#[L,e2]:=gI (X:=.lst [V.int I,V.int ln,V.int sz]) ap;generalize QZ _ _ (.lst [V.int I,V.int ln,V.int sz])=H2 at *;let s2:=s1.trans L;let e2:H2 l2%([I,ln,sz].map V.int):=e2;let d2:=L _ _ e1;show#[0,l,xs,(5),rfl,s2 _ _ hx,az,ak,λH3 l3 s3 f3 e3=>?_];show#[l2,l3,7,s3 _ _ e2,e3,by rw[si,si,dE lx];change 3+5<=yr;lia,λl4 f4=>G _ _ ?_];clear G;rw[<-DD];let#[L,e4]:=gI (X:=.lst (([I,ln,sz]++JG xs 5).map V.int)) f4;generalize QZ _ _ (.lst (([I,ln,sz]++JG xs 5).map V.int))=H4 at *;let Y:=(s2.trans s3).trans L;let d4:=L _ _ (s3 _ _ d2);let ab:([I,ln,sz]++JG xs 5).9=8:=(by rw[tp,dE lx];rfl);generalize [I,ln,sz]++JG xs 5=row at *;let qAa:=N.same Y;show wt λQQ G=>?_;show#[28,Y _ _ U,44,ac,0,Y _ _ h2,9,a,dx,0,Y _ _ U,9,a,n,3];show#[0,0,8*n%16,rfl,l1,0,bh.of d4,λl5 f5=>?_];rw[show dJ r.17 none (some (8*n%16))=(r.take (rs n)).map V.int by rw[e8];show jb];let#[s5,e5]:=gI (X:=.lst ((r.take (rs n)).map V.int)) f5;generalize QZ _ _ (.lst ((r.take (rs n)).map V.int))=H5 at *;show#[0,l5,l4,7,e5,s5 _ _ e4,Oi (IP (Rm ..) (vS ab)) (Oi rg.2.2 az)<*[si,si,Nx],λl6 f6=>?_];rw[<-DD];let#[s6,e6]:=gI (X:=.lst ((r.take (rs n)++row).map V.int)) f6;generalize QZ _ _ (.lst ((r.take (rs n)++row).map V.int))=H6 at *;show#[0,0,7,8*n%16+8,rfl,l1,0,bh.of (s6 _ _ (s5 _ _ d4)),λl7 f7=>?_];rw[show dJ r.17 (some (8*n%16+8)) none=(r.drop (rs n+8)).map V.int by
  rw[e8,show((rs n:Nat):Int)+8=((rs n+8:Nat):Int)by lia];show jn]
 let#[s7,e7]:=gI (X:=.lst ((r.drop (rs n+8)).map V.int)) f7;generalize QZ _ _ (.lst ((r.drop (rs n+8)).map V.int))=H7 at *;show#[l6,l7,7,s7 _ _ e6,e7,by rw[si,si, <-tp];show Oi (vS (we lr ab rg.2.2)) az,λl8 f8=>?_];rw[<-DD];let#[L,Z]:=gI (X:=.lst ((r.take (rs n)++row++r.drop (rs n+8)).map V.int)) f8;generalize QZ _ _ (.lst ((r.take (rs n)++row++r.drop (rs n+8)).map V.int))=H8 at *;let S8:=(((Y.trans s5).trans s6).trans s7).trans L;let Z:H8 l8%((jW r row (rs n)).map V.int):=Z;show#[b,s',rb n,l8,jW r row (rs n),rfl,(N.same S8).B,ak,ak,bh.of Z,we lr ab rg.2.2,λH9 zC2 B9 g9 _ o9 am ad=>G _ _ ?_];let na:a≠s'.dd:=λe=>(by have:=N.B.hd;rwa[<-e,U]at this);show k H9 _ #[#[dx,o9 _ _ (S8 _ _ U) na],B9,N.tt] g9 ad (am.pre S8)
def Tv:aA "self n".1 "self n".1 (ao WT):=L2.bo
theorem BD(F:bV K "kind_of" "Nodes.kind_of" WT f fd)(T:mY K mg CN)(Z:-Md 4 CN "row_of" (i7 c CN)):-aO 5 f fd "self n".1 (vt c CN):=by
 let#[aK,mK,Y]:=T.LA;show F.dZ Tv ?_;intros;let#[a,b,s',ah,n,rfl,N,I,kS]:=h;let#[dx,ho]:=N.ob;show#[_,%[0,hr,D,bT,cG,i,tT,1,r,cH,i,Fl,1,cy,F,c,cS,c,bw,br,v,mK,af,T,(Z),e,cq|9],?_]
 show Kr λQQ G U=>?_;show#[0,32];show fH (λz=>G _ (I (.inl (cL z)))) (λz=>?_);show#[0,32];show WH (λy=>G _ (I (.inr (cL y)))) (λy=>U _ ?_);let n0:¬ n<0:=λw=>z (Ja w);let n1:¬ 24<=n:=λw=>y (Ja w);let#[r,L,v,hl,hk,k0,k1,hv,q]:=kS ak ak;show#[25,ho,78,N,ak,ak,hl,λH1 l s1 f1 e1=>?_];show#[l,_,(0),.int L,1,bh.of e1,yF (i:=0) hk az,aK,_,L,v,1,Y.up _,?_,q _ s1];rw[<-ZT k0];show aJ hv
def Wa:aA "self n".1 "self n".1 (ao Uo):=L2.bo
theorem yH(F:bV K "links_of" "Nodes.links_of" Uo f fd)(T:mY K mg CN)(GO:-Md 4 CN "row_of" (i7 c CN)):-aO 5 f fd "self n".1 (kU 1 c CN):=by
 show F.dZ Wa ?_;intros;let#[a,b,s',ah,n,r,G,rfl,N,I,n1,U,hk,k]:=h;let#[dx,L]:=N.ob;show#[_,%[0,hr,c,af,T,GO,e|9],?_];show#[25,L,78,N,I,n1,U,λH1 l Y f1 Z=>#[l,_,(1),.int G,1,bh.of Z,yF (i:=1) hk az,k _ Y]]
def WZ:aA "self n".1 "self n".1 (ao Vd):=L2.bo
theorem CL(F:bV K "size_of" "Nodes.size_of" Vd f fd)(T:mY K mg CN)(GO:-Md 4 CN "row_of" (i7 c CN)):-aO 5 f fd "self n".1 (kU 2 c CN):=by
 show F.dZ WZ ?_;intros;let#[a,b,s',ah,n,r,G,rfl,N,I,n1,U,hk,k]:=h;let#[dx,L]:=N.ob;show#[_,%[0,hr,c,af,T,GO,e|9],?_];show#[25,L,78,N,I,n1,U,λH1 l Y f1 Z=>#[l,_,(2),.int G,1,bh.of Z,yF (i:=2) hk az,k _ Y]]
def WL:aA "self n".1 "self n".1 (ao Wo):=L2.bo
theorem yV(F:bV K "end_node" "Nodes.end_node" Wo f fd)(T:mY K mg CN)(L:-Md 4 CN "put_row" (jf c CN)):-aO 5 f fd "self n".1 (lU c CN):=by
 show F.dZ WL ?_;intros;let#[a,b,s',ah,n,r,rfl,N,Z,n1,hl,k]:=h;let#[dx,ho]:=N.ob;show#[_,%[0,hr,l,T,L,z,bC,bC,bC,a,bA|9],?_];show#[25,ho,9,az,λl hf=>?_];let G:=aj (X:=.lst []) hf;show#[39,n,61,(0),l,[],r,rfl,N.same G,Z,n1,hl,ag,az,λJ Y N2 g2 I U=>k J Y N2 g2 I (U.pre G)]
def RY:aA "self n links row".1 "self n links".1 (ao TZ):=L2.bo
theorem xa(F:bV K "put_links" "Nodes.put_links" TZ f fd)(T:mY K mg CN)(GO:-Md 4 CN "row_of" (i7 c CN))(GP:-Md 4 CN "put_row" (jf c CN)):-aO 5 f fd "self n links".1 (uA c CN):=by
 show F.dZ RY ?_;intros;let#[a,b,s',ah,n,m,r,G,L,z,xs,rfl,N,Z,n1,hl,ac,lx,k]:=h;let#[dx,ho]:=N.ob;show#[_,%[RY,hr,ba,T,GO,e,l,T,GP,z,b,af,3,b,2,b,af,3,a,C,3,ag,a2,ce,cw,cu|9],?_]
 show jJ λ_ U=>?_;show#[25,ho,78,N,Z,n1,hl,λH1 l s1 f1 I=>U _ _ ?_];clear U;rw[ac]at I;let i0:lJ (([G,L,z]++xs).map V.int) 0^.int G:=aJ (j:=0) rfl;let i2:lJ (([G,L,z]++xs).map V.int) 2^.int z:=aJ (j:=2) rfl;show#[112,9,0,l,_,(0),.int G,1,bh.of I,i0,0,0,l,_,(2),.int z,1,bh.of I,i2,0,7,(3),75,bh.of I,λl2 ad=>?_];rw[show dJ (([G,L,z]++xs).map V.int) (some 3) none=xs.map V.int from jn (s:=3)];let Y:=s1.trans (aj (X:=.lst xs.17) ad);show#[39,n,G,m,z,l2,xs,r,rfl,N.same Y,Z,n1,hl,ag,ak,λJ s3 N3 g3 d3 ab=>k J s3 N3 (λj=>?_) (Wn d3) (ab.pre Y)];rw[g3 j,show JG xs 5=xs by unfold JG;rw[lx];show Yw _]
def nb(k:Nat):Nat:=(k+15)/16
def bf(k:Nat):Nat:=if 4<nb k then nb k+1 else nb k
def cb(b:N4):List Int:=b.take 4++b.drop 5
def ch(cs:N4)(k:Nat):List Int:=JG ((cs.drop (16*k)).take 16) 16
def qY(cs:N4)(k:Nat):(ch cs k).9=16:=dE (V2 _ _)
def IW(cs:N4)(k:Nat):ch cs (k+1)=ch (cs.drop 16) k:=by unfold ch;rw[Rf,Nat.mul_succ,Qb]
theorem XE:∀(m:Nat)(cs:N4),cs.9<=16*m->(((YQ m).map (ch cs)).11).take cs.9=cs
 |0,cs,h=>by
  have:cs=[]:=G6 ak;subst this;rfl
 |m+1,cs,h=>by
  rw[adh,Y5,vv,ZV];let e:(ch cs∘Nat.succ)=ch (cs.drop 16):=funext λk=>IW cs k;rw[e,GK,qY];let F:(ch cs 0)=JG (cs.take 16) 16:=rfl;cases z:cs.9<=16
  .rw[Z7 z,Z9,Yw,F,Ye z];unfold JG;rw[GK,Ye (BY _),ZU,Z9,Yw]
  .let G:=XE m (cs.drop 16) (by rw[YB];lia);rw[YB]at G;rw[G,Ye (by rw[qY];lia),F];unfold JG;rw[Nx,YV (Nat.le_of_not_le z),ZU,aeg,Yw,YM]
theorem Bc(cs:N4):∀i,(((YQ i).map (ch cs)).11).9=16*i
 |0=>rfl
 |i+1=>by
  rw[WV,DD,MQ,tp,Bc cs i];change _+((ch cs i)++[]).9=_;rw[Yw,qY];lia
variable{b:N4}{k:Nat}
def Ey(h:b.9=bf k):(cb b).9=nb k:=by
 unfold cb bf at *;rw[tp,Nx,YB];split at h
 .rename_i z;rw[h,YV (RM (Zm z)),adw (nb k) 1 4,ZF (Zm z)]
 .rename_i z;let z:=OV z;rw[h,MG z,Z7 (RM z),Nat.add_zero]
noncomputable def vy(x:Option Node)(b:N4):List Int:=match x with
 |none=>Yl 8 0
 |some n=>[if n.dir then 2 else 1,n.ln,(n.cs.9:Int)]++JG (b.take 5) 5
noncomputable def Fn(x:Option Node):Nat:=match x with
 |none=>0
 |some n=>bf n.cs.9
structure Rep(lb:Int->Option N4)(ah:Nat)(N:NS)(bk:ic):Prop where
 row:∀n,0<=n->n<24->∃r,lb (rb n)^r/\(r.drop (rs n)).take 8=vy (N n) (bk n)
 len:∀n,(bk n).9=Fn (N n)
 Tj:∀(n x:Int),(bk n)[4]?^x->lb x^JG ((bk n).drop 5) 16
 Rv:∀n nd,N n^nd->∀(k:Nat)(x:Int),(cb (bk n))[k]?^x->lb x^ch nd.cs k
 rg:∀n x,x∈bk n->48<=x/\x<48+ah
 HH:∀(n m:Int)(i j:Nat)(x:Int),(bk n)[i]?^x->(bk m)[j]?^x->n=m/\i=j
 use:∀n nd,N n^nd->0<=n/\n<24
 xI:∀n nd,N n^nd->nd.cs.9<=320
structure NR(c:DA)(CN:ZX)(H:Hp)(a:ZX)(b:BA)(s:BS)(ah:Nat)(N:NS)(bk:ic)(d:Nat):Prop where
 O:NO c CN H a b s ah
 R:Rep (lb s) ah N bk
 d:dn s<=d
end
section
variable{c:DA}{CN a:ZX}{H J:Hp}{b:BA}{s s':BS}{ah d:Nat}{N:NS}{bk:ic}{lb:Int->Option N4}{n:Int}{nd:Node}
theorem NR.same(A:NR c CN H a b s ah N bk d)(o:aG H J):NR c CN J a b s ah N bk d:=#[A.O.same o,A.R,A.d]
theorem Lb(h:k<=320):bf k<=21:=by unfold bf nb;split<;>lia
theorem Rep.le(R:Rep lb ah N bk)(n:Int):(bk n).9<=21:=by
 rw[R.len];unfold Fn;cases e:N n with
 |none=>show Zy _
 |some nd=>show Lb (R.xI n nd e)
def kq(nd:Node)(b:N4):vy (some nd) b=[if nd.dir then 2 else 1,nd.ln,(nd.cs.9:Int)]++JG (b.take 5) 5:=rfl
def Jf(x:Option Node){b:N4}(h:x=none->b=[]):∃k l,vy x b=[k,l,(match x with|none=>0|some n=>(n.cs.9:Int))]++JG (b.take 5) 5:=by
 cases x with
 |none=>rw[h rfl];show#[61,rfl]
 |some n=>show#[_,0]
theorem Rep.none(R:Rep lb ah N bk)(h:N n=none):bk n=[]:=by
 have:=R.len n;rw[h]at this;show G6 this
end
mutual
inductive BH(v:vl)(H:Hp)(Q:VK)(e:XK):Prop
 |mk(k:Nat)(_:v=[.int k])(_:Q (.int (bf k)) H)
inductive Jy(v:vl)(H:Hp)(Q:VK)(e:XK):Prop
 |mk(a l:ZX)(b:N4)(_:v=[.ref a,.ref l])(_:H l%b.17)(_:b.9<=1000)(_:∀(J:Hp)(q:ZX),aG H J->H q=none->J q%((cb b).map V.int)->Q (.ref q) J)
inductive Gn(c:DA)(CN:ZX)(v:vl)(H:Hp)(Q:VK)(e:XK):Prop
 |mk(a:ZX)(b:BA)(s:BS)(ah d:Nat)(N:NS)(bk:ic)(n:Int)(_:v=[.ref a,.int n])(_:NR c CN H a b s ah N bk d)(_:0<=n)(_:n<24)(_:∀(J:Hp)(q:ZX),aG H J->H q=none->J q%((bk n).map V.int)->Q (.ref q) J)
inductive LY(c:DA)(CN:ZX)(v:vl)(H:Hp)(Q:VK)(e:XK):Prop
 |mk(a:ZX)(b:BA)(s:BS)(ah d:Nat)(N:NS)(bk:ic)(n:Int)(nd:Node)(_:v=[.ref a,.int n])(_:NR c CN H a b s ah N bk d)(_:N n^nd)(_:∀(J:Hp)(q:ZX),aG H J->H q=none->J q%(nd.cs.map V.int)->Q (.ref q) J)
abbrev Ul:Yv:=top 38
abbrev Vu:Yv:=zj (top 42) 14
abbrev Wx:Yv:=zj (top 42) 13
abbrev UL:Yv:=zj (top 42) 4
def Qt(F:4<b.9)(I:b.9<=21)(G:b.9≠5):(JG (b.take 5) 5++JG (b.drop 5) 16).take b.9=b:=by
 unfold JG;rw[Nx,YV F,ZU,aeg,Yw, <-YA,YM,GK,Ye (BY _),ZU,Z9,Yw]
theorem Qd(h:¬ 4<b.9):(JG (b.take 5) 5).take b.9=b:=by
 unfold JG;rw[Ye (show b.9<=5 by lia),GK,Ye (BY _),ZU,Z9,Yw]
def Qi:aA "size begun".1 ["size"] (ao Ul):=L2.bo
theorem um(F:bV K "blocks_for" "blocks_for" Ul f fd)(T:mY K mg CN):-aO 1 f fd ["size"] BH:=by
 show F.dZ Qi ?_;intros;let#[k,rfl,q]:=h;show#[_,%[Qi,0,aR,bZ,a2,k,0,bL,ai,bL,c,cf,bE,1,cz,F,k,1,ai,1|9],?_]
 show jJ λ_ G=>?_;show#[0,_,0,5,0,5,0,rfl,#[az,az],G _ _ ?_];let e:((k:Int)+16-1)/16=((nb k:Nat):Int):=(by unfold nb;lia);rw[e];clear G;show#[0,32];unfold bf at q;cases z:4<nb k
 .rw[C' z]at q;rw[Ja (show(4:Int)<((nb k:Nat):Int)by lia)];show de #[0,_,0,3];rw[show((nb k:Nat):Int)+1=((nb k+1:Nat):Int)by lia];show q
 .rw[vr z]at q;rw[ck (show ¬ (4:Int)<((nb k:Nat):Int)by lia)];show cO #[0,q]
def Ve:aA "self blocks".1 "self blocks".1 (ao Vu):=L2.bo
def sM(F:bV K "cell_blocks" "Nodes.cell_blocks" Vu f fd)(T:mY K mg CN):-aO 1 f fd "self blocks".1 Jy:=by
 show F.dZ Ve ?_;intros;let#[a,l,b,rfl,I,lb,k]:=h;show#[_,%[0,0,c,B,C,1,a9,cz,C,1,ag,cw,cu|9],?_];show#[0,(4),75,bh.of I,λq1 Z=>?_];rw[show dJ b.17 none (some 4)=(b.take 4).map V.int from jb (s:=4)];let L:=aj (X:=.lst ((b.take 4).map V.int)) Z;show#[0,(5),75,bh.of (L _ _ I),λq2 U=>?_];rw[show dJ b.17 (some 5) none=(b.drop 5).map V.int from jn (s:=5)];let G:=L.trans (aj (X:=.lst ((b.drop 5).map V.int)) U);show#[q1,q2,7,aj (X:=.lst ((b.drop 5).map V.int)) U _ _ ag,ag,Oi (IP (Rm ..) (Oi (iC ..) lb)) az<*[si,si,Nx,YB],λq3 Y=>?_];rw[<-DD];show k _ q3 (G.trans (aj Y)) (aR G Y) ag
def FI:aA "self n row blocks many".1 "self n".1 (ao Wx):=L2.bo
theorem xO(F:bV K "blocks_of" "Nodes.blocks_of" Wx f fd)(T:mY K mg CN)(TD:Dr K mg c)(GO:-Md 4 CN "row_of" (i7 c CN))(ad:-Df 1 "blocks_for" BH)(GD:-Md 3 c.CD "read" (ko c)):-aO 5 f fd "self n".1 (Gn c CN):=by
 show F.dZ FI ?_;intros;let#[a,b,s',ah,d,N,bk,n,rfl,G,n0,n1,k]:=h;let hs:=HC;let#[r,hl,ac]:=G.R.row n n0 n1;let#[dx,ho]:=G.O.ob;let#[ar,h2]:=G.O.B.ob;let#[kk,ll,Z]:=Jf (N n) (b:=bk n) G.R.none;obtain⟨sz,am,ab⟩:∃sz:Nat,(match N n with|none=>0|some x=>(x.cs.9:Int))=(sz:Int)/\(bk n).9=bf sz:=by
  have:=G.R.len n;unfold Fn at this;cases e:N n with
  |none=>rw[e]at this;show#[(0),rfl,this]
  |some x=>rw[e]at this;show#[0,this]
 rw[am]at Z;rw[Z]at ac;let ap:=G.R.le n;let l5:(JG ((bk n).take 5) 5).9=5:=dE (V2 _ _);show#[_,%[FI,hr,aH,T,GO,e,ba,C,2,ag,a2,ce,cw,cu,ah,4,d,ad,a,af,2,D,bE,4,cz,F,h,cg,3,B,3,E,b0,GD,a,p,3,cz,c,C,3,a9,4|9],?_]
 show jJ λ_ I=>?_;show#[25,ho,78,G.O,n0,n1,hl,λH1 l1 s1 f1 Y=>I _ _ ?_];clear I;rw[ac]at Y;show jJ λ_ I=>?_;show#[0,7,(3),rfl,l1,0,bh.of Y,λl2 as=>I _ _ ?_];clear I;rw[show dJ (([kk,ll,(sz:Int)]++JG ((bk n).take 5) 5).map V.int) (some 3) none=(JG ((bk n).take 5) 5).map V.int from jn (s:=3)];let#[sN,U]:=gI (X:=.lst ((JG ((bk n).take 5) 5).map V.int)) as;generalize QZ _ _ (.lst ((JG ((bk n).take 5) 5).map V.int))=H2 at *;let L:=s1.trans sN;let d2:=sN _ _ Y;show jJ λ_ I=>?_;show#[0,l1,_,(2),.int sz,1,bh.of d2,aJ (j:=2) rfl,sz,rfl,I _ _ ?_];clear I;rw[<-ab];let fin:∀(l:ZX)(ys:N4)(H':Hp),aG H H'->H' l%ys.17->ys.take (bk n).9=bk n->Ri (Xx (Ji K) (xV 3) Bm (Ll (xV 4))) { nx:=λ_ J=>Q .bu J,rt:=Q } #v[.ref a,.int n,.ref l1,.ref l,.int ((bk n).9:Nat)] H':=λl ys H' sJ eJ et=>by
  show#[0,0,(((bk n).9:Nat):Int),75,bh.of eJ,λq fq=>?_];rw[jb,et];show k _ q (sJ.trans (aj fq)) (aR sJ fq) ag
 show Kr λQQ ji je=>?_;show#[0,32];cases z:4<(bk n).9
 .rw[Ja (show(4:Int)<(((bk n).9:Nat):Int)by lia)];show ji _ ?_;let e4:(bk n)[4]?^((bk n)[4]'z):=vu z;let fr:=G.R.Tj n _ e4;let rg:=G.R.rg n ((bk n)[4]'z) (Zr z);let tt:=G.O.tt;let i4:lJ ((JG ((bk n).take 5) 5).map V.int) 4^.int ((bk n)[4]'z):=aJ (j:=4) (by
   unfold JG;rw[IF,Yo (by rw[Nx];lia),Zb,C' ak,e4];rfl)
  show jJ λ_ I=>?_;show#[0,28,L _ _ ho,44,ar,0,L _ _ h2,9,l2,_,(4),0,rfl,bh.of U,i4,b,s',_,0,(G.O.same L).B,ak,fr,ak,λH3 l3 s3 f3 e3=>?_];show#[l2,l3,7,s3 _ _ U,e3,by rw[si,si,l5,dE (by rw[YB];lia)];lia,λl4 f4=>I _ _ ?_];rw[<-DD];show fin l4 _ _ ((L.trans s3).trans (aj f4)) ag (Qt z ap ?_);intro w;rw[ab]at w;unfold bf nb at w;split at w<;>lia
 .rw[ck (show ¬ (4:Int)<(((bk n).9:Nat):Int)by lia)];show je _ ?_;show fin l2 _ _ L U (Qd z)
def Nd:aA "self n cells block".1 "self n".1 (ao UL):=L2.bo
theorem yP(F:bV K "cells_of" "Nodes.cells_of" UL f fd)(T:mY K mg CN)(TD:Dr K mg c)(ay:-Md 5 CN "blocks_of" (Gn c CN))(am:-Md 1 CN "cell_blocks" Jy)(GD:-Md 3 c.CD "read" (ko c))(GS:-Md 5 CN "size_of" (kU 2 c CN)):-aO 6 f fd "self n".1 (LY c CN):=by
 show F.dZ Nd ?_;intros;let#[a,b,s',ah,d,N,bk,n,nd,rfl,G,U,k]:=h;let hs:=HC;let#[n0,n1]:=G.R.use n nd U;let#[dx,ho]:=G.O.ob;let#[aB,h2]:=G.O.B.ob;let no:∀m:Str,¬ m = "total" -> ¬ m = "draft" -> (f2 "draft" "total" (.ref b.dr) (.int ah)).lookup m=none:=λm=>bq;let aX:=G.R.le n;let l3:=G.R.xI n nd U;let as:(cb (bk n)).9=nb nd.cs.9:=Ey (by rw[G.R.len n,U];rfl);let aT:nb nd.cs.9<=20:=(by unfold nb;lia);show#[_,%[Nd,hr,aH,bA,bf,bo,T,am,a,T,ay,e,y,3,l,bg,zJ,M5,ku,2,a,E,b0,GD,H',c,C,2,a9,T,GS,e|9],?_]
 show jJ λ_ Y=>?_;show#[az,λl1 f1=>Y _ _ ?_];clear Y;let#[s1,e1]:=gI (X:=.lst []) f1;generalize QZ _ _ (.lst [])=H1 at *;show#[112,60,112,60,0,39,d,N,bk,n,rfl,G.same s1,n0,n1,λH2 l2 s2 aK e2=>?_];show#[a,l2,bk n,rfl,e2,ak,λH3 ac s3 f3 e3=>#[ac,rfl,#[_,40],?_]];let S3:=s2.trans s3;let aN:ac≠l1:=λe=>(f3*>[e,s2 _ _ e1]);let ap:=S3 _ _ e1;let sH:aG H H3:=s1.trans S3;clear e2 aK s2 s3;show fL (K:=K) (a:=ac) (xs:=(cb (bk n)).map V.int) (λi σ H'=>∃v3:Option V,Hg (σ=#v[.ref a,.int n,.ref l1,v3]) (H' l1%((((YQ i).map (ch nd.cs)).11).map V.int)) (Q5 (· = l1) H3 H') (i<=nb nd.cs.9)) #[0,ap,131,Zy _] (λi σ H' _ z=>by let#[_,_,_,o,_]:=z;show bh.of (o _ _ e3 aN)) ?_ ?_
 .rintro i x σ H' hx ⟨v3,rfl,L,Z,hi⟩;rw[IF]at hx;let#[y,hy,rfl]:=NC.mp hx;let aY:=(wh.mp hy).1;let cl:=G.R.Rv n nd U i y hy;let ym:y∈bk n:=by
   have:=Yk hy;unfold cb at this;obtain w|w:=Yh.mp this
   .show Zf w
   .show ZG w
  let rg:=G.R.rg n y ym;let tt:=G.O.tt;let ab:∀{q u},H q^u->q≠l1:=λe z=>(e*>[z,f1]);let oH:∀q u,H q^u->H' q^u:=λq u e=>Z _ _ (sH _ _ e) (ab e);let BJ:=G.O.B.same (J:=H') oH;let lf:((((YQ i).map (ch nd.cs)).11).map V.int).9=16*i:=by
   rw[si];show Bc nd.cs i
  show wt λQQ Y=>?_;show#[0,.inl #[5,bh.of L],?_];show#[28,oH _ _ ho,44,aB,0,oH _ _ h2,9,b,s',y,0,BJ,ak,cl,ak,λJ2 l4 I f4 e4=>?_];show#[l1,l4,7,I _ _ L,e4,by rw[lf,si,qY];lia,Y _ _ #[0,?_,λq u e z=>I _ _ (Z _ _ e z)<*au z,ak]];rw[ag, <-DD,WV,DD (l₁:=YQ i),MQ];change _^HO.lst (ua V.int (_++(ch nd.cs i++[])));rw[Yw]
 .rintro σ H' ⟨v3,rfl,L,Z,_⟩;rw[si,as]at L;let ab:∀{q u},H q^u->q≠l1:=λe z=>(e*>[z,f1]);let sJ:aG H H':=λq u e=>Z _ _ (sH _ _ e) (ab e);let#[r,hl,ad]:=G.R.row n n0 n1;rw[U,kq]at ad;let ar:r[rs n+2]?^(nd.cs.9:Int):=by
   let q:((r.drop (rs n)).take 8)[2]?^(nd.cs.9:Int):=(by rw[ad];rfl);rw[Zb,C' az,Zz]at q;show q
  show#[0,25,sJ _ _ ho,60,0,39,n,r,0,G.O.same sJ,n0,n1,hl,ar,λJ2 I=>#[0,l1,0,bh.of (I _ _ L),λq fq=>?_]];rw[jb,XE _ _ (by unfold nb;lia)];let s5:=sJ.trans I;show k _ q (s5.trans (aj fq)) (aR s5 fq) ag
def fT(_:Unit):V:=.bl true
theorem IL{α:Type}(f:α->V)(l:List (Int×α))(x:Int)(a:α):∃F,putK (dk f l) (Xt x) (f a)=dk f F/\(∀y,(look F y).10=(decide (y=x)||(look l y).10))/\F.9<=l.9+1:=by
 cases e:look l x with
 |none =>
  show#[_,gT e,λy=>?_,BY _<*tp];rw[ky y e];cases z:y=x
  .rw[C' z,Ja z];rfl
  .rw[vr z,ck z];rfl
 |some b =>
  show#[_,js e,λy=>?_,by rw[Ko];lia];rw[h9 y e];cases z:y=x
  .rw[C' z,Ja z];rfl
  .rw[vr z,ck z];rfl
def zB(bk:ic)(m:Nat):List Int:=((YQ m).map λi:Nat=>bk (i:Int)).11
def mO(bk:ic)(m:Nat):zB bk (m+1)=zB bk m++bk (m:Int):=by
 unfold zB;rw[WV,DD,MQ];change _++(bk (m:Int)++[])=_;rw[Yw]
def yf(bk:ic)(x:Int):Bool:=decide (¬ x∈zB bk 24)
def ub(ah:Nat)(bk:ic):List Int:=((YQ ah).map λi:Nat=>48+(i:Int)).filter (yf bk)
inductive OY(c:DA)(CN:ZX)(v:vl)(H:Hp)(Q:VK)(e:XK):Prop
 |mk(a:ZX)(b:BA)(s:BS)(ah d:Nat)(N:NS)(bk:ic)(_:v=[.ref a])(_:NR c CN H a b s ah N bk d)(_:∀(J:Hp)(q:ZX),aG H J->H q=none->J q%((ub ah bk).map V.int)->Q (.ref q) J)
inductive qV(c:DA)(CF CN:ZX)(v:vl)(H:Hp)(Q:VK)(e:XK):Prop
 |mk(a:ZX)(b:BA)(s:BS)(ah d:Nat)(N:NS)(bk:ic)(_:v=[.ref a])(_:NR c CN H a b s ah N bk d)(_:d<=24)(_:∀(J:Hp)(s':BS),NR c CN J a { b with bs:=s'.bs } s' ah N bk 0->s'.D=[]->cY b s H s' J->Q .bu J)(_:∀J,DU c b s H J->e (.ref CF) none J)
abbrev Wl:Yv:=zj (top 42) 15
abbrev Wd:Yv:=zj (top 42) 9
variable{l1 l2:Int->Option N4}{N:NS}{bk:ic}
theorem Rep.lb(R:Rep l1 ah N bk)(h:∀j,28<=j->l2 j=l1 j):Rep l2 ah N bk:=by
 show#[λn G F=>?_,R.len,λn x hx=>?_,λn nd I k x hx=>?_,R.rg,R.HH,R.use,R.xI]
 .let#[r,e,q]:=R.row n G F;show#[r,e<*h _ (qM G F).1,q]
 .rw[h x (by have:=R.rg n x (Yk hx);lia)];show R.Tj n x hx
 .let m:x∈bk n:=by
   have:=Yk hx;unfold cb at this;obtain w|w:=Yh.mp this
   .show Zf w
   .show ZG w
  rw[h x (by have:=R.rg n x m;lia)];show R.Rv n nd I k x hx
def Uq:aA ["self"] ["self"] (ao Wd):=L2.bo
theorem yW(F:bV K "finish" "Nodes.finish" Wd f fd)(T:mY K mg CN)(TD:Dr K mg c)(ab:!Md 6 c.CD "finish" (yz c CF)):!aO 7 f fd ["self"] (qV c CF CN):=by
 show F.dQ Uq ?_;intros;let#[a,b,s',ah,d,N,bk,rfl,I,hd,k,kE]:=h;let#[dx,G]:=I.O.ob;let#[ac,h2]:=I.O.B.ob;show#[_,%[0,0,av,dH,b0,ab,hr|9],?_];show#[28,G,44,ac,0,h2,bq ax ax,b,s',rfl,I.O.B,Oi I.d hd,λJ s2 B2 U l2 n2 st=>?_,kE];let na:¬ jm b s' a:=λz=>by
  obtain z|z|z|z|z|⟨x,hx,z⟩:=z
  .rw[z,h2]at G;simp only[Zt,HO.ins.injEq]at G;have:=G.2.2;rw[jV kd,jV kn]at this;injection this with t _;injection t with t1 _;show D9 t1 ax
  .let#[Y,L,Z,#[ad,q],_]:=I.O.B.dk;rw[z,q]at G;simp only[Zt,HO.ins.injEq]at G;have:=G.2.2;rw[eU,jV kn]at this;injection this with _ t;injection t with _ t;cases t
  .let#[Y,L,Z,D]:=I.O.B.dk;rwa[z,D.hb]at G
  .rw[z,I.O.B.hd]at G;cases G
  .let#[Y,L,Z,D]:=I.O.B.dk;let#[ns,q]:=gA D.hc a z;rwa[q.1]at G
  .rw[z,(I.O.B.hr x hx).1]at G;cases G
 show k J s2 #[#[#[dx,st.1 _ _ G na],B2,I.O.tt<*n2],I.R.lb l2,by unfold dn;rw[U];show BY _] U st
def HN:aA "self used n block".1 ["self"] (ao Wl):=L2.bo
theorem CM(F:bV K "unused_blocks" "Nodes.unused_blocks" Wl f fd)(T:mY K mg CN)(ac:-Md 5 CN "blocks_of" (Gn c CN)):-aO 6 f fd ["self"] (OY c CN):=by
 show F.dZ HN ?_;intros;let#[a,b,s',ah,d,N,bk,rfl,L,k]:=h;let hs:=HC;let#[dx,ho]:=L.O.ob;let tt:=L.O.tt;let bl:=L.O.B.ln;show#[_,%[HN,hr,aR,j6,bf,bD,a,cy,y,2,h,cs,bo,T,ac,g,y,3,h,bs,K,1,3,jq,c,S,(eR (cl:=[("used",s.13+1)]) (sI:=[("used",1)])),b7,rfl,cv,ab1,W,T.range,b,v,T.iO,a,k,v,T.iO,j,u,ch,cY,dn,K,0,1,u,0|9],?_]
 show jJ λ_ jt=>?_;intro u fu;show jt _ _ ?_;clear jt;let#[s1,e1]:=gI (X:=.dK []) fu;generalize QZ _ _ (.dK [])=H1 at *;let e1:H1 u^^^(dk fT []):=e1;let nu:∀{q o},H q^o->q≠u:=λe z=>(e*>[z,fu]);show#[56];show gc (lo:=0) (n:=24) (λi σ H'=>RA λ(v2 G:Option V)(l:List (Int×Unit))=>OZ (σ=#v[.ref a,.ref u,v2,G]) (H' u^^^(dk fT l)) ((∀x,(look l x).10=decide (x∈zB bk i))) (l.9<=21*i) (Q5 (· = u) H1 H')) #[2,[],rfl,e1,λx=>rfl,Zy _,131] ?_ ?_
 .rintro i σ H' hi ⟨v2,G,l,rfl,hJ,hk,ll,oJ⟩;let I:aG H H':=λq o e=>oJ _ _ (s1 _ _ e) (nu e);show#[25,I _ _ ho,9,39,d,N,bk,(i:Int),124,L.same I,ak,ak,λU q s2 Z eq=>#[q,rfl,#[_,bh.of eq],?_]];let nq:q≠u:=λe=>(Z*>[e,hJ]);let ad:=L.R.le (i:Int);show fL (K:=K) (a:=q) (xs:=(bk (i:Int)).map V.int) (λj σ Y=>Dh λ(G:Option V)(l:List (Int×Unit))=>OZ (σ=#v[.ref a,.ref u,.int (0+(i:Int)),G]) (Y u^^^(dk fT l)) ((∀x,(look l x).10=decide (x∈zB bk i++(bk (i:Int)).take j))) (l.9<=21*i+j) (Q5 (· = u) U Y)) #[_,l,rfl,s2 _ _ hJ,λx=>hk x<*[Z9,Yw],ll,131] (λj σ Y _ z=>by let#[_,_,_,_,_,_,o]:=z;show bh.of (o _ _ eq nq)) ?_ ?_
  .rintro j x σ Y hx ⟨G,l,rfl,h3,ab,l3,o3⟩;rw[IF]at hx;let#[y,hy,rfl]:=NC.mp hx;let hj:=(wh.mp hy).1;let#[l',p1,p2,p3]:=IL fT l y ();show#[0,0,u,0,jX.k (k:=Xt y) h3 (by rw[kc];lia),_,l',rfl,Ur (λz=>some (HO.dK z)) p1<*ag,λx=>?_,ak,λq' o e z=>o3 _ _ e z<*au z];rw[p2 x,ab x,Y9,hy];cases z:x=y
   .rw[Ja z,Bool.true_or];show(Ja (by rw[z];simp)).6
   .rw[ck z,afy];show decide_eq_decide.mpr ?_;rw[<-YA,Yh (s:=zB bk i++(bk (i:Int)).take j)];show#[.inl,λw=>w.resolve_right λy'=>z ‹y'›]
  .rintro σ Y ⟨G,l,rfl,h3,ab,l3,o3⟩;rw[si,Zo, <-mO]at ab;rw[si]at l3;show#[2,l,rfl,h3,ab,ak,λq' o e z=>o3 _ _ (s2 _ _ (oJ _ _ e z)) z]
 .rintro σ H' ⟨v2,G,l,rfl,hJ,hk,ll,oJ⟩;let I:aG H H':=λq o e=>oJ _ _ (s1 _ _ e) (nu e);show#[0,a,CN,dx,_,.int ah,rfl,I _ _ ho,T.cl,T.nT,kK,_,0,5,0,#[az,az,ak,ak],?_];let et:((48:Int)+(ah:Int)-48).5=ah:=ak;rw[et];show jQ (lo:=48) (n:=ah) (λi ys U=>ys=((((YQ i).map λi:Nat=>48+(i:Int)).filter (yf bk)).map V.int)/\U=H') #[1] ?_ ?_
  .rintro i ys U hi ⟨rfl,rfl⟩;let q:=gj.k (k:=Xt (48+(i:Int))) hJ;rw[cJ]at q;show#[0,0,u,0,q,?_];let eb:(!((look l (48+(i:Int))).map fT).10)=yf bk (48+(i:Int)):=by
    rw[Kx,hk];unfold yf;cases z:48+(i:Int)∈zB bk 24
    .rw[Ja z,ck (λw=>w z)];rfl
    .rw[ck z,Ja z];rfl
   show#[0,?_];rw[eb];let ef:(((YQ (i+1)).map λi:Nat=>48+(i:Int)).filter (yf bk))=((YQ i).map λi:Nat=>48+(i:Int)).filter (yf bk)++[48+(i:Int)].filter (yf bk):=(by rw[WV,DD,ZY];rfl);let lf:((((YQ i).map λi:Nat=>48+(i:Int)).filter (yf bk)).map V.int).9<=300:=by
    rw[si];have:=Zx (yf bk) ((YQ i).map λi:Nat=>48+(i:Int));rw[si,yG]at this;lia
   cases z:yf bk (48+(i:Int))with
   |true =>
    rw[C' rfl];show#[0,ak,97];rw[ef,Zv z,E7,DD];rfl
   |false =>
    rw[vr (by nofun)];show#[97];rw[ef,Zn (by rw[z];nofun),E7,Yw]
  .rintro ys U ⟨rfl,rfl⟩ q Z;show k _ q (I.trans (aj Z)) (aR I Z) ag
def cA(N:NS)(n:Int)(x:Option Node):NS:=λm=>if m=n then x else N m
def rE(bk:ic)(n:Int)(b:N4):Int->List Int:=λm=>if m=n then b else bk m
theorem zV(n:Int):rs n=0\/rs n=8:=by unfold rs;lia
variable{m:Int}
def Ot(F:0<=n)(G:0<=m)(h:rb n=rb m)(h2:rs n=rs m):n=m:=by
 let e:8*n%16=8*m%16:=by
  rw[<-ZT (Kp (8*n) (show(16:Int)≠0 by decide)), <-ZT (Kp (8*m) (show(16:Int)≠0 by decide))];show Ur _ h2
 show Int.eq_of_mul_eq_mul_left (show(8:Int)≠0 by decide) (by rw[<-adE (8*n) 16, <-adE (8*m) 16,e,Int.add_left_cancel h])
theorem Kh{row:N4}(h1:r.9=16)(h2:row.9=8)(F:st+8<=16):((jW r row st).drop st).take 8=row:=by
 unfold jW;rw[YA,y3,Nx,show st-min st r.9=0 by lia,vz,Y3 (by rw[Nx];lia),Kb,GK,h2,ZU,Z9,Yw,Ye ak]
theorem Ew{row:N4}{t:Nat}(h1:r.9=16)(h2:row.9=8)(hs:st=0\/st=8)(F:t=0\/t=8)(ne:st≠t):((jW r row st).drop t).take 8=(r.drop t).take 8:=by
 unfold jW;obtain rfl|rfl:=hs<;>obtain rfl|rfl:=F
 .show D9 rfl ne
 .rw[Z9,Kb,y3,h2,Y3 (show row.9<=8 by lia),Kb,ZU,vz]
 .rw[vz,YA,GK,Nx,show 8-min 8 r.9=0 by lia,Z9,Yw,Bu,vz];rfl
 .show D9 rfl ne
def xM(x:Option Node)(b:N4):(vy x b).9=8:=by
 cases x with
 |none=>rfl
 |some n =>
  rw[kq,tp,dE (V2 _ _)];rfl
def qO(h:(cb b)[k]?^x):x∈b:=by
 have:=Yk h;unfold cb at this;obtain w|w:=Yh.mp this
 .show Zf w
 .show ZG w
theorem Rep.upd(R:Rep l1 ah N bk)(Y:0<=n)(n1:n<24)(x:Option Node)(bl:N4)(lr:r.9=16)(hr:l1 (rb n)^r)(len:bl.9=Fn x)(rg:∀y∈bl,48<=y/\y<48+ah)(HH:∀(i j:Nat)(y:Int),bl[i]?^y->bl[j]?^y->i=j)(U:∀m,m≠n->∀y∈bl,¬ y∈bk m)(xI:∀nd,x^nd->nd.cs.9<=320)
  (e1:l2 (rb n)^jW r (vy x bl) (rs n)) (ho:∀j,j≠rb n->¬ j∈bl->l2 j=l1 j) (hf:∀y,bl[4]?^y->l2 y^JG (bl.drop 5) 16) (hc:∀nd,x^nd->∀(k:Nat)(y:Int),(cb bl)[k]?^y->l2 y^ch nd.cs k):Rep l2 ah (cA N n x) (rE bk n bl):=by
 let rn:=qM Y n1;let ab:∀m y,m≠n->y∈bk m->l2 y=l1 y:=λm y h1 h2=>ho y (by have:=R.rg m y h2;lia) λw=>U m h1 y w h2;show#[λm Z m1=>?_,λm=>?_,λm y F=>?_,λm nd G k y F=>?_,λm y F=>?_,λp q i j y hi I=>?_,λm nd G=>?_,λm nd G=>?_]
 .cases z:m=n
  .subst z;show#[_,e1,?_];rw[show cA N m x m=x from C' rfl,show rE bk m bl m=bl from C' rfl];show Kh lr (xM _ _) rn.2.2
  .rw[show cA N n x m=N m from vr z,show rE bk n bl m=bk m from vr z];let#[r',L,q]:=R.row m Z m1;cases y:rb m=rb n
   .rw[y,hr]at L;injection L with L;subst L;show#[_,e1<*y,?_];rw[Ew lr (xM _ _) (zV n) (zV m) (λw=>z (Ot Z Y y w.6))];show q
   .show#[r',L<*(ho _ y λw=>by have:=rg _ w;have:=qM Z m1;lia),q]
 .cases z:m=n
  .rw[show cA N n x m=x from C' z,show rE bk n bl m=bl from C' z];show len
  .rw[show cA N n x m=N m from vr z,show rE bk n bl m=bk m from vr z];show R.len m
 .cases z:m=n
  .rw[show rE bk n bl m=bl from C' z]at F ⊢;show hf y F
  .rw[show rE bk n bl m=bk m from vr z]at F ⊢;rw[ab m y z (Yk F)];show R.Tj m y F
 .cases z:m=n
  .rw[show cA N n x m=x from C' z]at G;rw[show rE bk n bl m=bl from C' z]at F;show hc nd G k y F
  .rw[show cA N n x m=N m from vr z]at G;rw[show rE bk n bl m=bk m from vr z]at F;rw[ab m y z (qO F)];show R.Rv m nd G k y F
 .cases z:m=n
  .rw[show rE bk n bl m=bl from C' z]at F;show rg y F
  .rw[show rE bk n bl m=bk m from vr z]at F;show R.rg m y F
 .cases z:p=n
  .rw[show rE bk n bl p=bl from C' z]at hi;cases v:q=n
   .rw[show rE bk n bl q=bl from C' v]at I;show#[z.trans v.6,HH i j y hi I]
   .rw[show rE bk n bl q=bk q from vr v]at I;show D9 (Yk I) (U q v y (Yk hi))
  .rw[show rE bk n bl p=bk p from vr z]at hi;cases v:q=n
   .rw[show rE bk n bl q=bl from C' v]at I;show D9 (Yk hi) (U p z y (Yk I))
   .rw[show rE bk n bl q=bk q from vr v]at I;show R.HH p q i j y hi I
 .cases z:m=n
  .rw[z];show#[Y,n1]
  .rw[show cA N n x m=N m from vr z]at G;show R.use m nd G
 .cases z:m=n
  .rw[show cA N n x m=x from C' z]at G;show xI nd G
  .rw[show cA N n x m=N m from vr z]at G;show R.xI m nd G
def ye(ah:Nat)(bk:ic)(n:Int)(cs:N4):List Int:=(bk n++ub ah bk).take (bf cs.9)
theorem qe{bk:ic}{y:Int}:∀{m:Nat},y∈zB bk m↔∃i:Nat,i<m/\y∈bk (i:Int)
 |0=>Iff.intro (λh=>by cases h) (λh=>by let#[_,h,_]:=h;lia)
 |m+1=>by
  rw[mO,Yh,qe];show Iff.intro (λh=>?_) (λh=>?_)
  .rcases h with⟨i,h1,h2⟩|h
   .show#[i,ak,h2]
   .show#[m,ak,h]
  .let#[i,h1,h2]:=h;cases z:i=m
   .subst z;show .inr h2
   .show .inl #[i,ak,h2]
theorem uq{y:Int}(h:y∈ub ah bk):48<=y/\y<48+ah/\¬ y∈zB bk 24:=by
 unfold ub at h;rw[YN,Yj]at h;let#[#[i,hi,rfl],h2]:=h;rw[Iq]at hi;show#[ak,ak,cL h2]
theorem EY(ah:Nat)(bk:ic):(ub ah bk).4:=by
 unfold ub;show List.Pairwise.filter _ (aeW _ (λa b h e=>h ak) ae9)
theorem Rep.AO(R:Rep l1 ah N bk){y:Int}(h:y∈bk m):y∈zB bk 24:=by
 cases e:N m with
 |none=>rwa[R.none e]at h
 |some nd =>
  let#[a,c]:=R.use m nd e;show qe.mpr #[m.5,ak,?_];rw[ZT a];show h
theorem Rep.nodup(R:Rep l1 ah N bk)(n:Int)(cs:N4):(ye ah bk n cs).4:=by
 unfold ye;show VQ (MO _ _) ?_;show YJ.mpr #[?_,EY _ _,λx hx y G e=>(uq G).2.2 (e▸R.AO hx)];show YE.mpr λi j hi F I e=>?_;have:=(R.HH n n i j _ (vu hi) (vu F<*e)).2;lia
variable{cs:N4}
theorem Rep.XN(R:Rep l1 ah N bk){y:Int}(h:y∈ye ah bk n cs):48<=y/\y<48+ah:=by
 rcases Yh.mp (Zf h)with w|w
 .show R.rg n y w
 .show#[(uq w).1,(uq w).2.1]
theorem Rep.Us(R:Rep l1 ah N bk){y:Int}(G:m≠n)(h:y∈ye ah bk n cs):¬ y∈bk m:=by
 intro F;rcases Yh.mp (Zf h)with w|w
 .let#[i,hi]:=Ks F;let#[j,I]:=Ks w;show G (R.HH m n i j y hi I).1
 .show(uq w).2.2 (R.AO F)
def My(old cs:N4)(k:Nat):Bool:=decide (¬ (k<nb old.9/\ch old k=ch cs k))
def sk(old cs:N4)(m:Nat):Nat:=((YQ m).filter (My old cs)).9
def wb(old cs:N4)(m:Nat):sk old cs (m+1)=sk old cs m+(if My old cs m then 1 else 0):=by
 unfold sk;rw[WV,ZY,tp,Up,E7];cases z:My old cs m
 .rw[C' z,C' z];rfl
 .rw[vr z,vr z];rfl
theorem LH(k:Nat):(cb b)[k]?=if k<4/\k<b.9 then b[k]? else if b.9<=4 then none else b[k+1]?:=by
 unfold cb;cases z:k<4/\k<b.9
 .rw[C' z,Yo (by rw[Nx];lia),Zb,C' z.1]
 .rw[vr z,Ya (by rw[Nx];lia),Nx,Zz];cases y:b.9<=4
  .rw[C' y];show adF ak
  .rw[vr y];show Ur (λt=>b[t]?) ?_;lia
variable{nd:Node}
theorem JH(R:Rep l1 ah N bk)(F:N n^nd){y:Int}(hk:k<nb nd.cs.9)(h:(cb (ye ah bk n cs))[k]?^y):(cb (bk n))[k]?^y:=by
 let lb:(bk n).9=bf nd.cs.9:=(by rw[R.len,F];rfl);let pre:∀i y,i<(bk n).9->(ye ah bk n cs)[i]?^y->(bk n)[i]?^y:=λi y hi h=>by
  unfold ye at h;rw[Zb]at h;split at h
  .rw[Yo hi]at h;show h
  .cases h
 unfold bf at lb;rw[LH]at h ⊢;split at h
 .rename_i z;rw[C' #[z.1,by split at lb<;>lia]];show pre k y (by split at lb<;>lia) h
 .rename_i z;split at h
  .cases h
  .rename_i v;let k4:¬ k<4:=λw=>z #[w,ak];have:4<nb nd.cs.9:=ak;rw[C' this]at lb;rw[vr (λw=>k4 w.1),vr ak];show pre (k+1) y ak h
variable{H2:Hp}
def cY.trans{b:BA}{G F:BS}(p:cY b s H G H1)(q:cY b G H1 F H2):cY b s H F H2:=by
 show#[λa u e z=>q.1 a u (p.1 a u e z) λw=>?_,λa w=>?_]
 .rcases p.2 a w with w|w
  .show z w
  .rw[e]at w;cases w
 .rcases q.2 a w with w|w
  .show p.2 a w
  .cases z:jm b s a
   .show .inl z
   .show .inr ?_;cases e:H a with
    |none=>rfl
    |some u=>rwa[p.1 a u e z]at w
def DJ(h:b.4):(cb b).4:=by
 show VQ ?_ h;have:(b.take 4++b.drop 5).Sublist (b.take 4++b.drop 4):=List.Sublist.append (List.Sublist.refl _) (Km _ _<*(show b.drop 5=(b.drop 4).drop 1 by rw[Rf]));rw[YM]at this;show this
inductive NV(c:DA)(CN:ZX)(v:vl)(H:Hp)(Q:VK)(e:XK):Prop
 |mk(a:ZX)(b:BA)(s:BS)(ah d:Nat)(N:NS)(bk:ic)(n:Int)(nd:Node)(l:ZX)(cs:N4)(_:v=[.ref a,.int n,.ref l])(_:NR c CN H a b s ah N bk d)(_:N n^nd)(_:H l%cs.17)(_:¬ jm b s l)(_:cs.9<=320)(_:bf cs.9<=(bk n).9+(ub ah bk).9)(_:∀(J:Hp)(s':BS)(Gh:ic),NR c CN J a b s' ah (cA N n (some { nd with cs:=cs })) Gh (d+sk nd.cs cs (nb cs.9)+2)->cY b s H s' J->Q .bu J)
abbrev Xc:Yv:=zj (top 42) 8
def DP:aA "self n cells blocks k block row".1 "self n cells".1 (ao Xc):=L2.bo
theorem xQ(F:bV K "put_cells" "Nodes.put_cells" Xc f fd)(T:mY K mg CN)(TD:Dr K mg c)(bi:-Md 5 CN "blocks_of" (Gn c CN))(GU:-Md 6 CN "unused_blocks" (OY c CN))(bF:-Df 1 "blocks_for" BH)(bB:-Md 1 CN "cell_blocks" Jy)(GW:-Md 1 c.CD "write" (mB K c))(GF:-Df 1 "filled" lI)(GO:-Md 4 CN "row_of" (i7 c CN))(GP:-Md 4 CN "put_row" (jf c CN)):-aO 7 f fd "self n cells".1 (NV c CN):=by
 show F.dZ DP ?_;intros;let#[a,b,s',ah,d,N,bk,n,nd,l,cs,rfl,G,hn,hl,as,a7,sp,k]:=h;let hs:=HC;let#[n0,n1]:=G.R.use n nd hn;let#[dx,ho]:=G.O.ob;let#[b5,h2]:=G.O.B.ob;let tt:=G.O.tt;let ca:=G.O.B.ln;let b3:=G.R.le n;let no:∀m:Str,¬ m = "total" -> ¬ m = "draft" -> (f2 "draft" "total" (.ref b.dr) (.int ah)).lookup m=none:=λm=>bq;let b2:(ub ah bk).9<=ah:=by
  unfold ub;show Oi (Zx _ _) ?_;rw[si,yG];show BY _
 let#[r,am,_]:=G.R.row n n0 n1;let lr:=G.O.B.row am;let b4:=qM n0 n1;show#[_,%[DP,hr,ba,C,B,T,bi,e,cA,ca,GU,a9,d,bF,a,t,g,bf,dF,W,T.enumerate,a,T,bB,H',dl,ct,y,4,ct,y,5,qq,l,E,b0,GW,b,5,aj,GF,b,C,2,ag,bq,bL,4,ag,bq,bL,k,4,ai,a,bL,D,bE,t,H',cz,F,l,E,b0,GW,b,p,3,cz,aj,GF,b,C,3,ag,cw,cu,a,bL,ah,6,T,GO,e,l,T,GP,z,b,af,6,b,af,6,b,t,g,a,C,3,a9,cw|9],?_]
 show jJ λ_ jt=>?_;show#[25,ho,60,0,39,d,N,bk,n,rfl,G,n0,n1,λH1 p1 s1 f1 e1=>?_];show#[112,60,39,d,N,bk,rfl,G.same s1,λH2 p2 L bz e2=>?_];show#[p1,p2,7,L _ _ e1,e2,by rw[si,si];lia,λp3 f3=>?_];rw[<-DD];let#[sN,e3]:=gI (X:=.lst ((bk n++ub ah bk).map V.int)) f3;generalize QZ _ _ (.lst ((bk n++ub ah bk).map V.int))=H3 at *;let Z:=(s1.trans L).trans sN;show#[0,l,0,.inl (bh.of (Z _ _ hl)),cs.9,by rw[si];rfl,?_];show#[0,p3,0,40,λp4 f4=>jt _ _ ?_];clear jt;rw[jb,show(bk n++ub ah bk).take (bf cs.9)=ye ah bk n cs from rfl];let#[sN,e4]:=gI (X:=.lst ((ye ah bk n cs).map V.int)) f4;generalize QZ _ _ (.lst ((ye ah bk n cs).map V.int))=H4 at *;let S4:=Z.trans sN;let bY:H p4=none:=aR Z f4;clear e1 e2 e3 f1 bz f3 f4 s1 L Z;let a4:(ye ah bk n cs).9=bf cs.9:=by
  unfold ye;rw[Nx,tp];lia
 let ap:=G.R.nodup n cs;let ab:∀y∈ye ah bk n cs,48<=y/\y<48+ah:=λy=>G.R.XN;let be:∀m,m≠n->∀y∈ye ah bk n cs,¬ y∈bk m:=λm hm y=>G.R.Us hm;let hold:∀{k:Nat}{y:Int},k<nb nd.cs.9->(cb (ye ah bk n cs))[k]?^y->(cb (bk n))[k]?^y:=λhk h=>JH G.R hn hk h;let b1:=Lb a7;generalize ye ah bk n cs=bl at *;let bR:(cb bl).9=nb cs.9:=Ey a4;show#[25,S4 _ _ ho,60,0,a,p4,bl,rfl,e4,ak,λH5 p5 s5 f5 e5=>#[p5,rfl,#[_,bh.of e5],?_]];let S5:=S4.trans s5;let bx:H p5=none:=aR S4 f5;let aY:=s5 _ _ e4;let aX:=S5 _ _ hl;let n4:¬ jm b s' p4:=λw=>G.O.B.live w bY;let n5:¬ jm b s' p5:=λw=>G.O.B.live w bx;clear e4 f5 s5;show wG (K:=K) (a:=p5) (xs:=(cb bl).map V.int) (λi σ H'=>RA λ(v4 v5:Option V)(U:BS)=>HG (σ=#v[.ref a,.int n,.ref l,.ref p4,v4,v5,none]) (NO c CN H' a b U ah) (cY b s' H5 U H') (∀(k:Nat)(x:Int),k<i->(cb bl)[k]?^x->lb U x^ch cs k) (∀j,(∀k:Nat,k<i->¬ (cb bl)[k]?^j)->lb U j=lb s' j) (dn U<=dn s'+sk nd.cs cs i)) #[2,s',rfl,G.O.same S5,cY.same (λ_ _ e=>e),λk x hk=>D9 hk (B6 _),λj _=>rfl,BY _] (λi σ H' _ z=>by let#[_,_,_,_,_,st,_]:=z;show bh.of (st.1 _ _ e5 n5)) ?_ ?_
 .rintro i x σ H' Tt hx bn ⟨v4,v5,U,rfl,Y,st,hc,ac,hd⟩;rw[IF]at hx;let#[y,I,rfl]:=NC.mp hx;let bN:=qO I;let zV0:=ab y bN;let#[sT,eT]:=gI (X:=.tup [.int i,.int y]) bn;generalize QZ _ _ (.tup [.int i,.int y])=J1 at *;let O1:=Y.same sT;let#[dy,aT]:=O1.ob;let#[aB,aN]:=O1.B.ob;let a0:=sT _ _ (st.1 _ _ aX as);show#[Tt,[.int i,.int y],rfl,eM.of eT,rfl,.int i,[.int y],rfl,.int y,[],1,?_];show wt λQQ jt=>?_;show#[0,a,CN,dy,_,.ref b.dr,rfl,aT,44,aB,0,aN,9,0,0,133,16*(i:Int),rfl,0,_,0,5,0,rfl,.inl #[az,az],16*((i:Int)+1),75,bh.of a0,λq fq=>?_];rw[show dJ cs.17 (some (16*(i:Int))) (some (16*((i:Int)+1)))=((cs.drop (16*i)).take 16).map V.int by
   rw[show 16*(i:Int)=((16*i:Nat):Int)by lia,show 16*((i:Int)+1)=((16*i:Nat):Int)+((16:Nat):Int)by lia];show qh]
  let#[sN,eq]:=gI (X:=.lst (((cs.drop (16*i)).take 16).map V.int)) fq;generalize QZ _ _ (.lst (((cs.drop (16*i)).take 16).map V.int))=J2 at *;let L:=sT.trans sN;show#[q,_,(16),rfl,eq,az,by rw[Nx];lia,λJ3 q3 s3 f3 e3=>?_];let Z:=L.trans s3;let O3:=Y.same Z;show#[b,U,y,q3,ch cs i,rfl,O3.B,ak,by rw[Y.tt];lia,40,qY _ _,λJ4 D4 B4 g4 _ o4 ar d4=>jt _ _ ?_];let#[dz,ad]:=O3.ob;let na:a≠U.dd:=λe=>(by have:=O3.B.hd;rwa[<-e,ad]at this);let a3:∀k,k<i->¬ (cb bl)[k]?^y:=λk hk h=>(by have:=sf (DJ ap) h I;lia);show#[2,0,#[#[dz,o4 _ _ ad na],B4,Y.tt],st.trans (ar.pre Z),λk x hk h=>?_,λj hj=>?_,?_]
  .rw[g4 x];cases z:k=i
   .subst z;rw[I]at h;injection h with h;rw[C' h.6]
   .rw[vr (λe=>a3 k ak (by rw[<-e];show h))];show hc k x ak h
  .rw[g4 j,vr (λe=>hj i ak (I<*e))];show ac j λk hk=>hj k ak
  .rw[wb];show Oi d4 ?_;have:(if lb U y=some (ch cs i)then 0 else 1)<=(if My nd.cs cs i then 1 else 0):=by
    cases z:My nd.cs cs i
    .rw[C' z];split<;>lia
    .rw[vr z];unfold My at z;let z':i<nb nd.cs.9/\ch nd.cs i=ch cs i:=by
      show ZH λw=>z (Ja w)
     rw[C']
     .show BY _
     .rw[ac y a3,G.R.Rv n nd hn i y (hold z'.1 I),z'.2]
   lia
 .rintro σ H' ⟨v4,v5,U,rfl,Y,st,hc,ac,hd⟩;rw[si,bR]at hc ac hd;let a0:=st.1 _ _ aX as;let ay:=st.1 _ _ aY n4;let#[dy,aT]:=Y.ob;let#[aB,aN]:=Y.B.ob;let bb:∀j,¬ j∈bl->lb U j=lb s' j:=λj hj=>ac j λk _ h=>hj (qO h);dsimp only;show U5 λR jr=>?_;let fin:∀(J2:Hp)(L:BS),NO c CN J2 a b L ah->cY b s' H5 L J2->(∀(k:Nat)(x:Int),(cb bl)[k]?^x->lb L x^ch cs k)->(∀j,¬ j∈bl->lb L j=lb s' j)->(∀y,bl[4]?^y->lb L y^JG (bl.drop 5) 16)->dn L<=dn s'+sk nd.cs cs (nb cs.9)+1->R #v[.ref a,.int n,.ref l,.ref p4,v4,v5,none] J2:=λJ2 L O2 aK c2 o2 bK d2=>jr _ _ (by
   clear jr;let#[dz,a5]:=O2.ob;let a6:lb L (rb n)^r:=(am<*(o2 _ λw=>by have:=ab _ w;lia));let bm:(r.drop (rs n)).take 8=vy (some nd) (bk n):=by
    let#[r',e1,e2]:=G.R.row n n0 n1;rw[am]at e1;injection e1 with e1;rw[e1,e2,hn]
   show jJ λ_ jt=>?_;show#[0,a,dz,0,a5,60,0,a,b,L,ah,n,r,rfl,O2,n0,n1,a6,λJ3 q3 s3 f3 e3=>jt _ _ ?_];clear jt;rw[bm,kq]at e3;let bd:=s3 _ _ (aK.1 _ _ aY n4);let bv:=s3 _ _ (aK.1 _ _ aX as);let i0:lJ (([if nd.dir then 2 else 1,nd.ln,(nd.cs.9:Int)]++JG ((bk n).take 5) 5).map V.int) 0^.int (if nd.dir then 2 else 1):=aJ (j:=0) rfl;let i1:lJ (([if nd.dir then 2 else 1,nd.ln,(nd.cs.9:Int)]++JG ((bk n).take 5) 5).map V.int) 1^.int nd.ln:=aJ (j:=1) rfl;show#[0,a,dz,0,s3 _ _ a5,60,0,0,q3,_,(0),0,rfl,40,i0,0,q3,_,(1),0,rfl,40,i1,0,l,0,.inl (bh.of bv),0,(5),rfl,p4,0,bh.of bd,λq4 f4=>?_];rw[show dJ bl.17 none (some 5)=(bl.take 5).map V.int from jb (s:=5)];let s4:=s3.trans (aj (X:=.lst ((bl.take 5).map V.int)) f4);show#[a,b,L,ah,n,if nd.dir then 2 else 1,nd.ln,(cs.9:Int),q4,bl.take 5,r,by rw[si];rfl,O2.same s4,n0,n1,a6,ag,V2 _ _,λJ5 s5 O5 g5 d5 bc=>?_];let dA:=G.d;show k J5 s5 (rE bk n bl) #[O5,G.R.upd n0 n1 (some { nd with cs:=cs }) bl lr am a4 ab (λi j y=>sf ap) be (λb0 e=>by injection e with e;rw[<-e];show a7) (by rw[g5,C' rfl];rfl) (λj h1 h2=>o2 j h2<*[g5,vr h1]) (λy I=>bK y I<*[g5,vr (by have:=ab y (Yk I);lia)]) (λb0 e kk y I=>by injection e with e;rw[<-e,g5,vr (by have:=ab y (qO I);lia)];show c2 kk y I),ak] ((aK.trans (bc.pre s4)).pre S5))
  show GL λQQ ji je=>?_;show#[0,p4,0,.inl (bh.of ay),32];rw[si];cases z:4<bl.9
  .rw[Ja (show(4:Int)<((bl.9:Nat):Int)by lia)];show ji _ ?_;let e4:bl[4]?^(bl[4]'z):=vu z;let r4:=ab _ (Zr z);let i4:lJ bl.17 4^.int (bl[4]'z):=aJ (j:=4) (by rw[IF,e4];rfl);let bW:∀k:Nat,¬ (cb bl)[k]?^(bl[4]'z):=λk h=>by
    rw[LH]at h;split at h
    .have:=sf ap h e4;lia
    .split at h
     .cases h
     .have:=sf ap h e4;lia
   show wt λQQ jt=>?_;show#[0,a,CN,dy,_,.ref b.dr,rfl,aT,44,aB,0,aN,9,p4,_,(4),0,rfl,bh.of ay,i4,0,(5),rfl,p4,0,bh.of ay,λq fq=>?_];rw[show dJ bl.17 (some 5) none=(bl.drop 5).map V.int from jn (s:=5)];let L:=aj (X:=.lst ((bl.drop 5).map V.int)) fq;show#[q,_,(16),45,az,by rw[YB];lia,λJ3 q3 s3 f3 e3=>?_];let Z:=L.trans s3;let O3:=Y.same Z;show#[b,U,_,q3,JG (bl.drop 5) 16,rfl,O3.B,ak,by rw[Y.tt];lia,40,dE (by rw[YB];lia),λJ4 D4 B4 g4 _ o4 ar d4=>jt _ _ ?_];let#[dz,ad]:=O3.ob;let na:a≠U.dd:=λe=>(by have:=O3.B.hd;rwa[<-e,ad]at this);show fin J4 _ #[#[dz,o4 _ _ ad na],B4,Y.tt] (st.trans (ar.pre Z)) (λk x h=>?_) (λj hj=>?_) (λy I=>?_) ?_
   .rw[g4,vr (λe=>bW k (by rw[<-e];show h))];show hc k x (by have:=(wh.mp h).1;lia) h
   .rw[g4,vr (λe=>hj (Zr z<*e))];show bb j hj
   .rw[e4]at I;injection I with I;rw[g4,C' I.6]
   .show Oi d4 ?_;split<;>lia
  .rw[ck (show ¬ (4:Int)<((bl.9:Nat):Int)by lia)];show je _ ?_;show fin H' U Y st (λk x h=>hc k x (by have:=(wh.mp h).1;lia) h) bb (λy I=>D9 (wh.mp I).1 z) ak
def pF(d:Bool):Str:=if d then "dir" else "file"
def LO(x:Option Node):V:=match x with
 |none=>.bu
 |some nd=>.str (pF nd.dir)
variable{b:BA}{d:Nat}
theorem NR.at(A:NR c CN H a b s ah N bk d)(L:0<=n)(I:n<24):∃r,lb s (rb n)^r/\r.9=16/\(r.drop (rs n)).take 8=vy (N n) (bk n)/\∀i k,i<8->(vy (N n) (bk n))[i]?^k->r[rs n+i]?^k:=by
 let#[r,F,G]:=A.R.row n L I;show#[r,F,A.O.B.row F,G,λi k hi hk=>?_];rw[<-G,Zb,C' hi,Zz]at hk;show hk
theorem NR.out(A:NR c CN H a b s ah N bk d)(h:n<0\/24<=n):N n=none:=by
 cases e:N n with
 |none=>rfl
 |some nd=>have:=A.R.use n nd e;lia
variable{Q:VK}{e3:XK}
theorem NR.kind(A:NR c CN H a b s ah N bk d)(q:∀J,aG H J->Q (LO (N n)) J):vt c CN [.ref a,.int n] H Q e3:=by
 show#[71,rfl,A.O,λh=>?_,λI G=>?_]
 .rw[A.out h]at q;show q H λ_ _ e=>e
 .let#[r,F,_,_,g]:=A.at I G;cases e:N n with
  |none =>
   rw[e]at g q;show#[r,(0),.bu,F,g 0 0 az rfl,az,az,rfl,q]
  |some nd =>
   rw[e]at g q;show#[r,if nd.dir then 2 else 1,116,F,g 0 _ az rfl,4,?_,q]
   .split<;>decide
   .split<;>decide
   .unfold pF;split<;>rfl
theorem NR.links(A:NR c CN H a b s ah N bk d)(I:N n^nd)(q:∀J,aG H J->Q (.int nd.ln) J):kU 1 c CN [.ref a,.int n] H Q e3:=by
 let#[G,F]:=A.R.use n nd I;let#[r,L,_,_,g]:=A.at G F;rw[I]at g;show#[71,r,0,A.O,G,F,L,g 1 _ az rfl,q]
theorem NR.size(A:NR c CN H a b s ah N bk d)(I:N n^nd)(q:∀J,aG H J->Q (.int nd.cs.9) J):kU 2 c CN [.ref a,.int n] H Q e3:=by
 let#[G,F]:=A.R.use n nd I;let#[r,L,_,_,g]:=A.at G F;rw[I]at g;show#[71,r,0,A.O,G,F,L,g 2 _ az rfl,q]
theorem NR.bare(A:NR c CN H a b s ah N bk d)(L:0<=n)(I:n<24)(G:lb s (rb n)^r)(x:Option Node)(hx:Fn x=0)(U:∀nd,x^nd->nd.cs=[])(O:NO c CN J a b s' ah)(g:∀j,lb s' j=if j=rb n then some (jW r (vy x []) (rs n))else lb s j)(dd:dn s'<=dn s+1):NR c CN J a b s' ah (cA N n x) (rE bk n []) (d+1):=
 #[O,A.R.upd L I x [] (A.O.B.row G) G (by rw[hx];rfl) (λy F=>by cases F) (λi j y F=>by cases F) (λm _ y F=>by cases F) (λnd e=>Zy _<*U nd e) (by rw[g,C' rfl]) (λj h _=>by rw[g,vr h]) (λy F=>by cases F) (λnd _ k y F=>by cases k<;>cases F),Oi dd (Ca A.d 1)]
theorem NR.RZ(A:NR c CN H a b s ah N bk d)(G:0<=n)(F:n<24)(k:∀(J:Hp)(s':BS),NR c CN J a b s' ah (cA N n none) (rE bk n []) (d+1)->cY b s H s' J->Q .bu J):lU c CN [.ref a,.int n] H Q e3:=by
 let#[r,I,_]:=A.at G F;show#[71,r,rfl,A.O,G,F,I,λJ s' O g dd st=>k J s' (A.bare G F I none rfl (λ_ e=>by cases e) O g (Wn dd)) st]
theorem NR.putL(A:NR c CN H a b s ah N bk d)(G:N n^nd)(m:Int)(k:∀(J:Hp)(s':BS),NR c CN J a b s' ah (cA N n (some { nd with ln:=m })) bk (d+1)->cY b s H s' J->Q .bu J):uA c CN [.ref a,.int n,.int m] H Q e3:=by
 let#[I,L]:=A.R.use n nd G;let#[r,Z,lr,hr,_]:=A.at I L;let l5:(JG ((bk n).take 5) 5).9=5:=dE (V2 _ _);rw[G,kq]at hr;let U:=A.R.rg n;let ac:=qM I L;let eb:rE bk n (bk n)=bk:=funext λj=>by
  unfold rE;cases z:j=n
  .rw[C' z,z]
  .rw[vr z]
 show#[71,m,r,2,_,0,A.O,I,L,Z,hr,l5,λJ s' O g dd st=>k J s' #[O,?_,Oi dd (Ca A.d 1)] st];have:=A.R.upd (l2:=lb s') I L (some { nd with ln:=m }) (bk n) lr Z (by rw[A.R.len n,G];rfl) U (λi j y hi Y=>(A.R.HH n n i j y hi Y).2) (λp hp y F w=>by
  let#[i,hi]:=Ks F;let#[j,Y]:=Ks w;show hp (A.R.HH p n j i y Y hi).1) (λab e=>by injection e with e;rw[<-e];show A.R.xI n nd G) (by rw[g,C' rfl];rfl) (λj h _=>by rw[g,vr h]) (λy F=>A.R.Tj n y F<*[g,vr (by have:=U y (Yk F);lia)]) (λab e kk y F=>by injection e with e;rw[<-e,g,vr (by have:=U y (qO F);lia)];show A.R.Rv n nd G kk y F)
 rw[eb]at this;show this
inductive Je(c:DA)(CN:ZX)(v:vl)(H:Hp)(Q:VK)(e:XK):Prop
 |mk(a:ZX)(b:BA)(s:BS)(ah d:Nat)(N:NS)(bk:ic)(n:Int)(kd:Bool)(_:v=[.ref a,.int n,.str (pF kd)])(_:NR c CN H a b s ah N bk d)(_:0<=n)(_:n<24)(_:∀(J:Hp)(s':BS),NR c CN J a b s' ah (cA N n (some #[135])) (rE bk n []) (d+1)->cY b s H s' J->Q .bu J)
abbrev We:Yv:=zj (top 42) 5
def Uj:aA "self n kind".1 "self n kind".1 (ao We):=L2.bo
theorem vN(F:bV K "begin_node" "Nodes.begin_node" We f fd)(T:mY K mg CN)(GP:-Md 4 CN "put_row" (jf c CN)):-aO 5 f fd "self n kind".1 (Je c CN):=by
 let#[aK,Y,hK]:=T.LA;show F.dZ Uj ?_;intros;let#[a,b,s',ah,d,N,bk,n,kd,rfl,G,I,L,k]:=h;let#[dx,ho]:=G.O.ob;let#[r,U,_]:=G.at I L;show#[_,%[0,hr,l,T,GP,z,b,dq,PySem.F.plainAttrs_tuple,acL,PySem.F.type_tuple_index,CO,v,Y,g,bC,bC,a,bA|9],?_];show#[25,ho,9,?_];show#[.inr (.inl #[rfl,T.KT aK Y]),0,aK,_,.str (pF kd),if kd then 2 else 1,1,hK.up _,1,4,?_]
 .cases kd<;>decide +kernel
 .cases kd
  .intro i hi;have:i=0:=(by(simp at hi;lia));subst this;decide +kernel
  .intro i hi;have:i=0\/i=1:=(by(simp at hi;lia));obtain rfl|rfl:=this<;>decide +kernel
 show#[az,λl hf=>?_];let Z:=aj (X:=.lst []) hf;show#[39,n,_,(1),(0),l,[],r,rfl,G.O.same Z,I,L,U,ag,az,λJ s2 N2 g2 d2 ab=>k J s2 (G.bare I L U (some #[135]) (show bf 0=0 by decide) (λnd e=>by injection e with e;rw[<-e]) N2 (λj=>?_) (Wn d2)) (ab.pre Z)];rw[g2 j];cases kd<;>rfl
noncomputable def us(N:NS)(m:Nat):Nat:=((YQ m).map λi:Nat=>Fn (N (i:Int))).sum
theorem mI(N:NS)(m:Nat):us N (m+1)=us N m+Fn (N (m:Int)):=by
 unfold us;rw[WV,DD,sum_append];change _+(_+0)=_;lia
theorem Ld(N:NS)(n:Int)(x:Option Node)(G:0<=n):∀m:Nat,us (cA N n x) m+(if n<m then Fn (N n)else 0)=us N m+(if n<m then Fn x else 0)
 |0=>by rw[vr ak,vr ak];rfl
 |m+1=>by
  let F:=Ld N n x G m;rw[mI,mI];cases z:(m:Int)=n
  .rw[vr ak,vr ak]at F;rw[C' ak,C' ak,show cA N n x (m:Int)=x from C' z,z];lia
  .rw[show cA N n x (m:Int)=N (m:Int)from vr z];cases y:n<m
   .rw[C' y,C' y]at F;rw[C' ak,C' ak];lia
   .rw[vr y,vr y]at F;rw[vr ak,vr ak];lia
theorem Rep.An(R:Rep l1 ah N bk):∀m,(zB bk m).9=us N m
 |0=>rfl
 |m+1=>by rw[mO,tp,R.An m,mI,R.len]
theorem Rep.FU(R:Rep l1 ah N bk)(n:Int):(bk n).4:=by
 show YE.mpr λi j hi F G e=>?_;have:=(R.HH n n i j _ (vu hi) (vu F<*e)).2;lia
theorem Rep.sW(R:Rep l1 ah N bk):∀m,(zB bk m).4
 |0=>mh
 |m+1=>by
  rw[mO];show YJ.mpr #[R.sW m,R.FU m,λx hx y I e=>?_];subst e;let#[i,h1,h2]:=qe.mp hx;let#[p,F]:=Ks h2;let#[q,G]:=Ks I;have:=(R.HH _ _ p q x F G).1;lia
theorem Rep.El(R:Rep l1 ah N bk):(ub ah bk).9+us N 24=ah:=by
 rw[<-R.An 24];let I:((YQ ah).map λi:Nat=>48+(i:Int)).4:=aeW _ (λa b h e=>h ak) ae9;let G:=R.sW 24;let sub:∀x∈zB bk 24,x∈(YQ ah).map λi:Nat=>48+(i:Int):=λx hx=>by
  let#[i,_,h2]:=qe.mp hx;have:=R.rg _ x h2;show Yj.mpr #[(x-48).5,Iq.mpr ak,ak]
 let p:(((YQ ah).map λi:Nat=>48+(i:Int)).filter λx => !(yf bk x)).Perm (zB bk 24):=by
  show(List.perm_ext_iff_of_nodup (I.filter _) G).mpr λx=>?_;rw[YN];unfold yf;show#[λh=>?_,λh=>#[sub x h,?_]]
  .show ZH λw=>?_;rw[Ja w]at h;show D9 h.2 (by nofun)
  .rw[ck (λw=>w h)];rfl
 rw[<-p.length_eq];let e:=List.length_eq_countP_add_countP (yf bk) (l:=(YQ ah).map λi:Nat=>48+(i:Int));rw[abP,abP]at e;let F:(((YQ ah).map λi:Nat=>48+(i:Int)).filter λx=>decide (¬ yf bk x))=((YQ ah).map λi:Nat=>48+(i:Int)).filter λx => !(yf bk x):=Ur (λf=>List.filter f _) (funext λx=>by cases yf bk x<;>rfl);rw[F]at e;rw[si,yG]at e;unfold ub;lia
structure HA(ah:Nat)(N:NS):Prop where
 use:∀n nd,N n^nd->0<=n/\n<24
 xI:∀n nd,N n^nd->nd.cs.9<=320
 fit:us N 24<=ah
 tt:ah<=252
structure b7 where
 C:ZX
 X0:ZX
 St:Type
 At:Hp->ZX->St->Nat->NS->Nat->Prop
 own:St->ZX->Prop
 Pm:Hp->ZX->St->Nat->NS->Prop
 Wy:St->Nat->NS->Hp->Hp->Prop
abbrev b7.Step(M:b7)(m:M.St)(H:Hp)(m':M.St)(J:Hp):=Q5 (M.own m) H J/\∀a,M.own m' a->M.own m a\/H a=none
end
section
variable(M:b7)
inductive Au(v:vl)(H:Hp)(Q:VK)(e:XK):Prop
 |mk(a:ZX)(m:M.St)(ah d:Nat)(N:NS)(n:Int)(_:v=[.ref a,.int n])(_:M.At H a m ah N d)(_:∀J,aG H J->Q (LO (N n)) J)
inductive vk(v:vl)(H:Hp)(Q:VK)(e:XK):Prop
 |mk(a:ZX)(m:M.St)(ah d:Nat)(N:NS)(n:Int)(nd:Node)(_:v=[.ref a,.int n])(_:M.At H a m ah N d)(_:N n^nd)(_:∀J,aG H J->Q (.int nd.ln) J)
inductive Bk(v:vl)(H:Hp)(Q:VK)(e:XK):Prop
 |mk(a:ZX)(m:M.St)(ah d:Nat)(N:NS)(n:Int)(nd:Node)(_:v=[.ref a,.int n])(_:M.At H a m ah N d)(_:N n^nd)(_:∀J,aG H J->Q (.int nd.cs.9) J)
inductive uH(v:vl)(H:Hp)(Q:VK)(e:XK):Prop
 |mk(a:ZX)(m:M.St)(ah d:Nat)(N:NS)(n:Int)(nd:Node)(_:v=[.ref a,.int n])(_:M.At H a m ah N d)(_:N n^nd)(_:∀(J:Hp)(q:ZX),aG H J->H q=none->J q%(nd.cs.map V.int)->Q (.ref q) J)
inductive vG(v:vl)(H:Hp)(Q:VK)(e:XK):Prop
 |mk(a:ZX)(m:M.St)(ah d:Nat)(N:NS)(n:Int)(kd:Bool)(_:v=[.ref a,.int n,.str (pF kd)])(_:M.At H a m ah N d)(_:N n=none)(_:0<=n)(_:n<24)(_:∀(J:Hp)(m':M.St),M.At J a m' ah (cA N n (some #[135])) (d+1)->M.Step m H m' J->Q .bu J)
inductive Iy(v:vl)(H:Hp)(Q:VK)(e:XK):Prop
 |mk(a:ZX)(m:M.St)(ah d:Nat)(N:NS)(n:Int)(nd:Node)(_:v=[.ref a,.int n])(_:M.At H a m ah N d)(_:N n^nd)(_:∀(J:Hp)(m':M.St),M.At J a m' ah (cA N n none) (d+1)->M.Step m H m' J->Q .bu J)
inductive Ba(v:vl)(H:Hp)(Q:VK)(e:XK):Prop
 |mk(a:ZX)(m:M.St)(ah d:Nat)(N:NS)(n ln:Int)(nd:Node)(_:v=[.ref a,.int n,.int ln])(_:M.At H a m ah N d)(_:N n^nd)(_:∀(J:Hp)(m':M.St),M.At J a m' ah (cA N n (some { nd with ln:=ln })) (d+1)->M.Step m H m' J->Q .bu J)
inductive AE(v:vl)(H:Hp)(Q:VK)(e:XK):Prop
 |mk(a:ZX)(m:M.St)(ah d:Nat)(N:NS)(n:Int)(nd:Node)(l:ZX)(cs:N4)(_:v=[.ref a,.int n,.ref l])(_:M.At H a m ah N d)(_:N n^nd)(_:H l%cs.17)(_:¬ M.own m l)(_:cs.9<=320)(_:us N 24+bf cs.9<=ah+bf nd.cs.9)(_:∀(J:Hp)(m':M.St),M.At J a m' ah (cA N n (some { nd with cs:=cs })) (d+sk nd.cs cs (nb cs.9)+2)->M.Step m H m' J->Q .bu J)
inductive IJ(v:vl)(H:Hp)(Q:VK)(e:XK):Prop
 |mk(a:ZX)(m:M.St)(ah d:Nat)(N:NS)(_:v=[.ref a])(_:M.At H a m ah N d)(_:d<=24)(_:∀(J:Hp)(m':M.St),M.Pm J a m' ah N->M.Step m H m' J->Q .bu J)(_:∀J,M.Wy m ah N H J->e (.ref M.X0) none J)
end
mutual
noncomputable def XQ:List Str:="kind_of links_of size_of cells_of begin_node end_node put_links put_cells finish".1
structure b7.Ok(M:b7)(P:By)(w:L3)(K:Yi)(mg:j5)(base:Heap):Prop where
 cl:ph K M.C
 nT:c8 K M.C "total"
 ob:∀{H:Hp}{a:ZX}{m:M.St}{ah:Nat}{N:NS}{d:Nat},M.At H a m ah N d->∃dx fs,H a^.ins M.C dx fs/\fs.lookup ("total" : Str)^V.int (ah:Nat)/\∀x∈XQ,fs.lookup x=none
 na:∀{H a m ah N d},M.At H a m ah N d->¬ M.own m a
 live:∀{H a m ah N d x},M.At H a m ah N d->M.own m x->H x≠none
 nt:∀{H a m ah N d x ys},M.At H a m ah N d->M.own m x->H x≠some (.tup ys)
 off:∀{H J a m ah N d}{B:eE},M.At H a m ah N d->Q5 B H J->(∀x,M.own m x->¬ B x)->¬ B a->M.At J a m ah N d
 ok:∀{H a m ah N d},M.At H a m ah N d->HA ah N
 le:∀{H a m ah N d e},M.At H a m ah N d->d<=e->M.At H a m ah N e
 af:∀{H a m ah N},M.At H a m ah N 0->M.Pm H a m ah N
 yY:∀{H J a m ah N}{B:eE},M.Pm H a m ah N->Q5 B H J->(∀x,M.own m x->¬ B x)->¬ B a->M.Pm J a m ah N
 kind:-Md 7 M.C "kind_of" (Au M)
 links:-Md 7 M.C "links_of" (vk M)
 size:-Md 7 M.C "size_of" (Bk M)
 cells:-Md 7 M.C "cells_of" (uH M)
 begin:-Md 7 M.C "begin_node" (vG M)
 end_:-Md 7 M.C "end_node" (Iy M)
 putL:-Md 7 M.C "put_links" (Ba M)
 Jm:-Md 7 M.C "put_cells" (AE M)
 fin:!Md 7 M.C "finish" (IJ M)
variable{M:b7}
theorem b7.Ok.same(O:M.Ok P w K mg base){m:M.St}(A:M.At H a m ah N d)(s:aG H J):M.At J a m ah N d:=O.off (B:=λ_=>False) A (λx u e _=>s x u e) (λ_ _ z=>z) id
def Xl(bs:iu)(ah:Nat)(N:NS):=∃bk,Rep (λj=>bs[j.5]?) ah N bk
noncomputable abbrev j7(c:DA)(CF CN:ZX)(N0:NS)(pp:ZX×ZX):b7:=#[CN,CF,BA×BS×(Int->List Int),λH a m ah N d=>NR c CN H a m.1 m.2.1 ah N m.2.2 d/\Xl m.1.bs ah N0/\(m.1.p,m.1.bl)=pp,λm x=>jm m.1 m.2.1 x,λH a m ah N=>NR c CN H a m.1 m.2.1 ah N m.2.2 0/\(m.1.p,m.1.bl)=pp,λm ah N H J=>DU c m.1 m.2.1 H J/\m.2.1.bs.9=48+ah/\Xl m.2.1.bs ah N0/\(m.1.p,m.1.bl)=pp/\∃bk,Rep (lb m.2.1) ah N bk]
theorem NR.na(G:NR c CN H a b s ah N bk d):¬ jm b s a:=λz=>by
 let#[dx,F]:=G.O.ob;let#[ab,h2]:=G.O.B.ob;obtain z|z|z|z|z|⟨x,hx,z⟩:=z
 .rw[z,h2]at F;simp only[Zt,HO.ins.injEq]at F;have:=F.2.2;rw[jV kd,jV kn]at this;injection this with t _;injection t with Y _;show D9 Y ax
 .let#[I,U,L,#[Z,q],_]:=G.O.B.dk;rw[z,q]at F;simp only[Zt,HO.ins.injEq]at F;have:=F.2.2;rw[eU,jV kn]at this;injection this with _ t;injection t with _ t;cases t
 .let#[I,U,L,D]:=G.O.B.dk;rwa[z,D.hb]at F
 .rw[z,G.O.B.hd]at F;cases F
 .let#[I,U,L,D]:=G.O.B.dk;let#[ns,q]:=gA D.hc a z;rwa[q.1]at F
 .rw[z,(G.O.B.hr x hx).1]at F;cases F
theorem Nq(T:mY K mg CN)(gK:-Md 5 CN "kind_of" (vt c CN))(gL:-Md 5 CN "links_of" (kU 1 c CN))(gS:-Md 5 CN "size_of" (kU 2 c CN))(U:-Md 6 CN "cells_of" (LY c CN))(Y:-Md 5 CN "begin_node" (Je c CN))(gE:-Md 5 CN "end_node" (lU c CN))(gP:-Md 5 CN "put_links" (uA c CN))(ac:-Md 7 CN "put_cells" (NV c CN))(gF:!Md 7 CN "finish" (qV c CF CN))(N0:NS)(pp:ZX×ZX):(j7 c CF CN N0 pp).Ok P w K mg base where
 cl:=T.cl
 nT:=T.nT
 ob A:=by
  let#[A,_]:=A;let#[dx,h]:=A.O.ob;show#[dx,_,h,kK,λx hx=>bq ?_ ?_]
  .intro e;subst e;show D9 hx ax
  .intro e;subst e;show D9 hx ax
 na A:=A.1.na
 live A h:=A.1.O.B.live h
 nt A h e:=by
  let#[A,_]:=A;let#[ar,h2]:=A.O.B.ob;let#[d0,am,ap,D]:=A.O.B.dk;let#[ad,q0]:=D.ob;obtain z|z|z|z|z|⟨x,hx,z⟩:=h
  .rw[z,h2]at e;cases e
  .rw[z,q0]at e;cases e
  .rw[z,D.hb]at e;cases e
  .rw[z,A.O.B.hd]at e;cases e
  .let#[ns,q]:=gA D.hc _ z;rwa[q.1]at e
  .rw[z,(A.O.B.hr x hx).1]at e;cases e
 off A o h1 h2:=by
  let#[A,F]:=A;let#[dx,h]:=A.O.ob;show#[#[#[#[dx,o _ _ h h2],A.O.B.off o h1,A.O.tt],A.R,A.d],F]
 ok A:=#[A.1.R.use,A.1.R.xI,by have:=A.1.R.El;lia,by have:=A.1.O.tt;have:=A.1.O.B.ln;lia]
 le A h:=#[#[A.1.O,A.1.R,Oi A.1.d h],A.2]
 af A:=#[A.1,A.2.2]
 yY A o h1 h2:=by
  let#[A,e]:=A;let#[dx,h]:=A.O.ob;show(#[#[#[#[dx,o _ _ h h2],A.O.B.off o h1,A.O.tt],A.R,A.d],e])
 kind:=gK.imp az λvs H Q E h=>by
  let#[a,m,ah,d,N,n,rfl,#[A,F],q]:=h;show A.kind q
 links:=gL.imp az λvs H Q E h=>by
  let#[a,m,ah,d,N,n,nd,rfl,#[A,F],G,q]:=h;show A.links G q
 size:=gS.imp az λvs H Q E h=>by
  let#[a,m,ah,d,N,n,nd,rfl,#[A,F],G,q]:=h;show A.size G q
 cells:=U.imp az λvs H Q E h=>by
  let#[a,m,ah,d,N,n,nd,rfl,#[A,F],G,q]:=h;show#[a,2,ah,d,N,_,n,nd,rfl,A,G,q]
 begin:=Y.imp az λvs H Q E h=>by
  let#[a,m,ah,d,N,n,kd,rfl,#[A,F],_,I,L,q]:=h;show#[a,2,ah,d,N,_,n,kd,rfl,A,I,L,λJ s' A' st=>q J (m.1,s',_) #[A',F] st]
 end_:=gE.imp az λvs H Q E h=>by
  let#[a,m,ah,d,N,n,nd,rfl,#[A,F],G,q]:=h;let#[I,L]:=A.R.use n nd G;show A.RZ I L λJ s' A' st=>q J (m.1,s',_) #[A',F] st
 putL:=gP.imp az λvs H Q E h=>by
  let#[a,m,ah,d,N,n,ln,nd,rfl,#[A,F],G,q]:=h;show A.putL G ln λJ s' A' st=>q J (m.1,s',_) #[A',F] st
 Jm:=ac.imp az λvs H Q E h=>by
  let#[a,m,ah,d,N,n,nd,l,cs,rfl,#[A,F],G,hl,no,Z,sp,q]:=h;let e:=A.R.El;let e2:(m.2.2 n).9=bf nd.cs.9:=(by rw[A.R.len n,G];rfl);show#[a,2,ah,d,N,_,n,nd,l,cs,rfl,A,G,hl,no,Z,ak,λJ s' ab A' st=>q J (m.1,s',ab) #[A',F] st]
 fin:=gF.imp az λvs H Q E h=>by
  let#[a,m,ah,d,N,rfl,#[A,F],hd,q,qE]:=h;show#[a,2,ah,d,N,0,A,hd,λJ s' A' _ st=>q J ({ m.1 with bs:=s'.bs },s',_) #[A',F.2] st,λJ fl=>qE J #[fl,A.O.tt,F.1<*A.O.B.g0,F.2,_,A.R]]
noncomputable def Hj(t k l s:V):List (Str×V):=bI "lists" s (bI "links" l (bI "kinds" k (bI "total" t [])))
variable{t k l s:V}
def P2:(Hj t k l s).lookup ("total" : Str)^t:=by unfold Hj;rw[aS,vr ax,aS,vr ax,aS,vr ax,aS,C' rfl]
def EE:(Hj t k l s).lookup ("kinds" : Str)^k:=by unfold Hj;rw[aS,vr ax,aS,vr ax,aS,C' rfl]
def zT:(Hj t k l s).lookup ("links" : Str)^l:=by unfold Hj;rw[aS,vr ax,aS,C' rfl]
def wc:(Hj t k l s).lookup ("lists" : Str)^s:=by unfold Hj;rw[aS,C' rfl]
def Ow{m:Str}(h1:¬ m = "total")(h2:¬ m = "kinds")(G:¬ m = "links")(F:¬ m = "lists"):(Hj t k l s).lookup m=none:=by unfold Hj;rw[aS,vr F,aS,vr G,aS,vr h2,aS,vr h1];rfl
abbrev PV:=ZX×Node
def fk(x:PV):V:=.str (pF x.2.dir)
def fl(x:PV):V:=.int x.2.ln
def fs(x:PV):V:=.ref x.1
structure PS where
 kd:ZX
 lk:ZX
 ls:ZX
 L:List (Int×PV)
structure vR(CP:ZX)(H:Hp)(a:ZX)(m:PS)(ah:Nat)(N:NS)(d:Nat):Prop where
 ob:∃dx,H a^.ins CP dx (Hj (.int ah) (.ref m.kd) (.ref m.lk) (.ref m.ls))
 hk:H m.kd^^^(dk fk m.L)
 hl:H m.lk^^^(dk fl m.L)
 hs:H m.ls^^^(dk fs m.L)
 hr:∀x∈m.L,H x.2.1%(x.2.2.cs.map V.int)
 nd:(m.L.map (·.1)).4
 ne:m.kd≠m.lk/\m.kd≠m.ls/\m.lk≠m.ls
 eN:∀n,N n=(look m.L n).map (·.2)
 ok:HA ah N
def ya(m:PS)(x:ZX):Prop:=x=m.kd\/x=m.lk\/x=m.ls\/∃y∈m.L,x=y.2.1
abbrev hV(CP:ZX):b7:=#[CP,(0),PS,vR CP,ya,λH a m ah N=>vR CP H a m ah N 0,λ_ _ _ _ _=>False]
structure Di(K:Yi)(mg:j5)(CP:ZX):Prop where
 cl:ph K CP
 nT:c8 K CP "total"
 nK:c8 K CP "kinds"
 nL:c8 K CP "links"
 nS:c8 K CP "lists"
 len:mg "len" = none
 list:mg "list" = none
variable{CP:ZX}{m:PS}
theorem vR.at(A:vR CP H a m ah N d)(F:N n^nd):∃q,look m.L n^(q,nd)/\H q%(nd.cs.map V.int):=by
 rw[A.eN]at F;let#[#[q,G],e,rfl]:=NC.mp F;show#[q,e,A.hr _ (gw e)]
theorem vR.len(A:vR CP H a m ah N d):m.L.9<=24:=by
 have:=Qu 24 0 (m.L.map (·.1)) A.nd λx hx=>by
  let#[y,F,rfl]:=Yj.mp hx;let e:=kB A.nd (show(y.1,y.2)∈m.L from F);have:=A.ok.use y.1 y.2.2 (by rw[A.eN,e];rfl);lia
 (rw[si]at this;assumption)
variable{x:ZX}
theorem vR.live(A:vR CP H a m ah N d)(h:ya m x):H x≠none:=by
 obtain rfl|rfl|rfl|⟨y,F,rfl⟩:=h
 .rw[A.hk];nofun
 .rw[A.hl];nofun
 .rw[A.hs];nofun
 .rw[A.hr y F];nofun
theorem vR.na(A:vR CP H a m ah N d):¬ ya m a:=λh=>by
 let#[dx,e]:=A.ob;obtain h|h|h|⟨y,F,h⟩:=h
 .rw[h,A.hk]at e;cases e
 .rw[h,A.hl]at e;cases e
 .rw[h,A.hs]at e;cases e
 .rw[h,A.hr y F]at e;cases e
theorem vR.off(A:vR CP H a m ah N d)(o:Q5 B H J)(h1:∀x,ya m x->¬ B x)(h2:¬ B a):vR CP J a m ah N d:=by
 let#[dx,e]:=A.ob;show#[#[dx,o _ _ e h2],o _ _ A.hk (h1 _ (.inl rfl)),o _ _ A.hl (h1 _ (.inr (.inl rfl))),o _ _ A.hs (h1 _ (.inr (.inr (.inl rfl)))),λx hx=>o _ _ (A.hr x hx) (h1 _ (.inr (.inr (.inr #[x,hx,rfl])))),A.nd,A.ne,A.eN,A.ok]
abbrev V0:Yv:=zj (top 73) 1
abbrev L5:Yv:=zj (top 73) 2
abbrev N7:Yv:=zj (top 73) 3
abbrev ND:Yv:=zj (top 73) 4
abbrev MT:Yv:=zj (top 73) 9
def VU:aA "self n".1 "self n".1 (ao V0):=L2.bo
theorem Dw(F:bV K "kind_of" "PlainNodes.kind_of" V0 f fd)(T:Di K mg CP):-aO 1 f fd "self n".1 (Au (hV CP)):=by
 show F.dZ VU ?_;intros;let#[a,m,ah,d,N,n,rfl,G,q]:=h;let#[dx,I]:=G.ob;show#[_,%[0,0,c,bt,acR,aG,P,cF|9],?_];let g:=gj.k (k:=Xt n) G.hk;rw[cJ]at g;show#[99,I,85,EE,m.kd,rfl,.inl #[_,.inl G.hk],0,_,g,?_];let e:((look m.L n).map fk).getD .bu=LO (N n):=by
  rw[G.eN n];cases look m.L n<;>rfl
 rw[e];show q H λ_ _ e=>e
def Q1:aA "self n".1 "self n".1 (ao L5):=L2.bo
theorem Ct(F:bV K "links_of" "PlainNodes.links_of" L5 f fd)(T:Di K mg CP):-aO 1 f fd "self n".1 (vk (hV CP)):=by
 show F.dZ Q1 ?_;intros;let#[a,m,ah,d,N,n,nd,rfl,G,L,q]:=h;let#[dx,I]:=G.ob;let#[p,U,Y]:=G.at L;show#[_,%[0,0,c,ax,aG,P|9],?_];let g:=gj.k (k:=Xt n) G.hl;rw[cJ,U]at g;show#[72,I,86,g,q H λ_ _ e=>e]
def Sv:aA "self n".1 "self n".1 (ao N7):=L2.bo
theorem Gw(F:bV K "size_of" "PlainNodes.size_of" N7 f fd)(T:Di K mg CP):-aO 1 f fd "self n".1 (Bk (hV CP)):=by
 show F.dZ Sv ?_;intros;let#[a,m,ah,d,N,n,nd,rfl,G,U,q]:=h;let#[dx,L]:=G.ob;let#[p,Y,I]:=G.at U;show#[_,%[0,0,c,t,a,ax,aG,P|9],?_];let g:=gj.k (k:=Xt n) G.hs;rw[cJ,Y]at g;show#[53,L,58,g,p,0,.inl (bh.of I),?_];rw[si];show q H λ_ _ e=>e
def PZ:aA "self n".1 "self n".1 (ao ND):=L2.bo
theorem Cd(F:bV K "cells_of" "PlainNodes.cells_of" ND f fd)(T:Di K mg CP):-aO 1 f fd "self n".1 (uH (hV CP)):=by
 show F.dZ PZ ?_;intros;let#[a,m,ah,d,N,n,nd,rfl,G,Y,q]:=h;let#[dx,U]:=G.ob;let#[p,Z,L]:=G.at Y;show#[_,%[0,0,c,bI,a,ax,aG,P|9],?_];let g:=gj.k (k:=Xt n) G.hs;rw[cJ,Z]at g;show#[53,U,58,g,p,0,.inl (bh.of L),λl I=>q _ l (aj I) I ag]
def Q3:aA ["self"] ["self"] (ao MT):=L2.bo
theorem Jv(F:bV K "finish" "PlainNodes.finish" MT f fd)(T:Di K mg CP):!aO 1 f fd ["self"] (IJ (hV CP)):=by
 show F.dQ Q3 ?_;intros;let#[a,m,ah,d,N,rfl,G,hd,q]:=h;show#[_,(cW (aw st')),q H m #[G.ob,G.hk,G.hl,G.hs,G.hr,G.nd,G.ne,G.eN,G.ok] #[131,λ_ h=>.inl h]]
def FV{y:ZX}{v:HO}(h:QZ H x v y=none):H y=none:=by
 cases z:y=x
 .subst z;rwa[ag]at h
 .rw[au z]at h;show h
variable{k:Int}
def qw{f:PV->V}{l:List (Int×PV)}{a b:PV}(nd:(l.map (·.1)).4)(h:look l k^b)(e:f a=f b):dk f (fj l k a)=dk f l:=by
 unfold dk fj;rw[vv];show aee λx hx=>?_;change(Xt (if x.1=k then(k,a)else x).1,f (if x.1=k then(k,a)else x).2)=_;cases z:x.1=k
 .have:=kB nd (show(x.1,x.2)∈l from hx);rw[z,h]at this;injection this with this;rw[C' z, <-this,e,z]
 .rw[vr z]
theorem HA.up(K:HA ah N)(G:0<=n)(F:n<24)(x:Option Node)(I:∀nd,x^nd->nd.cs.9<=320)(h:us N 24+Fn x<=ah+Fn (N n)):HA ah (cA N n x):=by
 show#[λm nd e=>?_,λm nd e=>?_,?_,K.tt]
 .cases z:m=n
  .rw[z];show#[G,F]
  .rw[show cA N n x m=N m from vr z]at e;show K.use m nd e
 .cases z:m=n
  .rw[show cA N n x m=x from C' z]at e;show I nd e
  .rw[show cA N n x m=N m from vr z]at e;show K.xI m nd e
 .have:=Ld N n x G 24;rw[C' (show n<((24:Nat):Int)from F),C' (show n<((24:Nat):Int)from F)]at this;lia
variable{N':NS}
theorem vR.re{d':Nat}(A:vR CP H a m ah N d)(F:List (Int×PV))(hk:J m.kd^^^(dk fk F))(Z:J m.lk^^^(dk fl F))(hs:J m.ls^^^(dk fs F))(o:∀x u,H x^u->x≠m.kd->x≠m.lk->x≠m.ls->J x^u)(U:∀x∈F,(H x.2.1=none/\J x.2.1%(x.2.2.cs.map V.int))\/(∃y∈m.L,x.2.1=y.2.1/\x.2.2.cs=y.2.2.cs))(nd:(F.map (·.1)).4)(eN:∀n,N' n=(look F n).map (·.2))(ok:HA ah N'):vR CP J a #[m.kd,m.lk,m.ls,F] ah N' d'/\(hV CP).Step m H #[m.kd,m.lk,m.ls,F] J:=by
 let na:=A.na;let#[dx,Y]:=A.ob;let nl:∀y∈m.L,y.2.1≠m.kd/\y.2.1≠m.lk/\y.2.1≠m.ls:=λy G=>by
  let e:=A.hr y G;show#[λz=>?_,λz=>?_,λz=>?_]
  .rw[z,A.hk]at e;cases e
  .rw[z,A.hl]at e;cases e
  .rw[z,A.hs]at e;cases e
 show#[#[#[dx,o _ _ Y (λz=>na (.inl z)) (λz=>na (.inr (.inl z))) λz=>na (.inr (.inr (.inl z)))],hk,Z,hs,123,nd,A.ne,eN,ok],λx u e z=>o x u e (λy=>z (.inl y)) (λy=>z (.inr (.inl y))) (λy=>z (.inr (.inr (.inl y)))),123]
 .rcases U x hx with h|⟨y,G,I,e2⟩
  .show h.2
  .let#[z1,z2,z3]:=nl y G;rw[I,e2];show o _ _ (A.hr y G) z1 z2 z3
 .rcases hx with h|h|h|⟨y,G,h⟩
  .show .inl (.inl h)
  .show .inl (.inr (.inl h))
  .show .inl (.inr (.inr (.inl h)))
  .rcases U y G with q|⟨y2,ab,I,_⟩
   .show .inr (q.1<*h)
   .show .inl (.inr (.inr (.inr #[y2,ab,h.trans I])))
abbrev Mo:Yv:=zj (top 73) 5
abbrev Oo:Yv:=zj (top 73) 6
abbrev Oh:Yv:=zj (top 73) 7
abbrev Ma:Yv:=zj (top 73) 8
def PU:aA "self n links".1 "self n links".1 (ao Oh):=L2.bo
theorem Eg(F:bV K "put_links" "PlainNodes.put_links" Oh f fd)(T:Di K mg CP):-aO 1 f fd "self n links".1 (Ba (hV CP)):=by
 show F.dZ PU ?_;intros;let#[a,m,ah,d,N,n,ln,nd,rfl,G,U,q]:=h;let hs:=HC;let#[dx,Z]:=G.ob;let#[p,I,e2]:=G.at U;let#[Y,n1]:=G.ok.use n nd U;let ll:=G.len;show#[_,%[0,0,h,bs,aG,P,2|9],?_];show#[0,72,Z,86,jX.k (k:=Xt n) G.hl (by rw[kc];lia),?_];rw[show putK (dk fl m.L) (Xt n) (V.int ln)=dk fl (fj m.L n (p, { nd with ln:=ln }))from js (f:=fl) (a:=(p, { nd with ln:=ln })) I];let#[A2,st]:=G.re (d':=d+1) (J:=QZ H m.lk (.dK (dk fl (fj m.L n (p, { nd with ln:=ln }))))) (N':=cA N n (some { nd with ln:=ln })) (fj m.L n (p, { nd with ln:=ln })) (G.hk<*[au G.ne.1,qw (f:=fk) (a:=(p, { nd with ln:=ln })) G.nd I rfl]) ag (G.hs<*[au G.ne.2.2.6,qw (f:=fs) (a:=(p, { nd with ln:=ln })) G.nd I rfl]) (λx u e _ z _=>e<*au z) (λx hx=>by
  obtain rfl|h:=mem_set hx
  .show .inr #[_,gw I,1]
  .show .inr #[x,h.1,1]) (G.nd<*ke) (λj=>by
  rw[h9 j I];cases z:j=n
  .rw[show cA N n _ j=_ from C' z,C' z];rfl
  .rw[show cA N n _ j=N j from vr z,vr z];show G.eN j) (G.ok.up Y n1 _ (λab e=>by injection e with e;rw[<-e];show G.ok.xI n nd U) (by
  rw[U];change _+bf _<=_+bf _;have:=G.ok.fit;lia))
 show q _ _ A2 st
def Qk:aA "self n cells".1 "self n cells".1 (ao Ma):=L2.bo
theorem Ei(F:bV K "put_cells" "PlainNodes.put_cells" Ma f fd)(T:Di K mg CP):-aO 1 f fd "self n cells".1 (AE (hV CP)):=by
 show F.dZ Qk ?_;intros;let#[a,m,ah,d,N,n,nd,l,cs,rfl,G,Y,hl,ab,l3,sp,q]:=h;let hs:=HC;let#[dx,ho]:=G.ob;let#[p,U,e2]:=G.at Y;let#[Z,n1]:=G.ok.use n nd Y;let ll:=G.len;show#[_,%[0,0,h,bs,aG,P,bI,g|9],?_];show#[0,92,λr fr=>?_];let I:=aj (X:=.lst cs.17) fr;show#[53,I _ _ ho,58,jX.k (k:=Xt n) (I _ _ G.hs) (by rw[kc];lia),?_];rw[show putK (dk fs m.L) (Xt n) (V.ref r)=dk fs (fj m.L n (r, { nd with cs:=cs }))from js (f:=fs) (a:=(r, { nd with cs:=cs })) U];let nr:r≠m.ls:=λe=>(fr*>[e,G.hs]);let#[A2,st]:=G.re (d':=d+sk nd.cs cs (nb cs.9)+2) (J:=QZ (QZ H r (.lst cs.17)) m.ls (.dK (dk fs (fj m.L n (r, { nd with cs:=cs }))))) (N':=cA N n (some { nd with cs:=cs })) (fj m.L n (r, { nd with cs:=cs })) (I _ _ G.hk<*[au G.ne.2.1,qw (f:=fk) (a:=(r, { nd with cs:=cs })) G.nd U rfl]) (I _ _ G.hl<*[au G.ne.2.2,qw (f:=fl) (a:=(r, { nd with cs:=cs })) G.nd U rfl]) ag (λx u e _ _ z=>I _ _ e<*au z) (λx hx=>by
  obtain rfl|h:=mem_set hx
  .show .inl #[fr,by rw[au nr,ag]]
  .show .inr #[x,h.1,1]) (G.nd<*ke) (λj=>by
  rw[h9 j U];cases z:j=n
  .rw[show cA N n _ j=_ from C' z,C' z];rfl
  .rw[show cA N n _ j=N j from vr z,vr z];show G.eN j) (G.ok.up Z n1 _ (λac e=>by injection e with e;rw[<-e];show l3) (sp<*Y))
 show q _ _ A2 st
def QY:aA "self n kind".1 "self n kind".1 (ao Mo):=L2.bo
theorem Bz(F:bV K "begin_node" "PlainNodes.begin_node" Mo f fd)(T:Di K mg CP):-aO 1 f fd "self n kind".1 (vG (hV CP)):=by
 show F.dZ QY ?_;intros;let#[a,m,ah,d,N,n,kd,rfl,G,hn,n0,n1,q]:=h;let hs:=HC;let#[dx,ho]:=G.ob;let ll:=G.len;let na:=G.na;let Y:look m.L n=none:=by
  have:=G.eN n;rw[hn]at this;show adl.mp this.6
 let pk:∀r:ZX,putK (dk fk m.L) (Xt n) (.str (pF kd))=dk fk (m.L++[(n,(r,#[135]))]):=λr=>gT (f:=fk) (a:=(r,#[135])) Y;let pl:∀r:ZX,putK (dk fl m.L) (Xt n) (.int 1)=dk fl (m.L++[(n,(r,#[135]))]):=λr=>gT (f:=fl) (a:=(r,#[135])) Y;let ap:∀r:ZX,putK (dk fs m.L) (Xt n) (.ref r)=dk fs (m.L++[(n,(r,#[135]))]):=λr=>gT (f:=fs) (a:=(r,#[135])) Y;show#[_,%[0,0,f,bs,aG,P,2,f,bs,aG,P,ai,h,bs,aG,P,bA|9],?_]
 show#[0,99,ho,85,EE,0,m.kd,0,jX.k (k:=Xt n) G.hk (by rw[kc];lia),?_];let k1:QZ H m.kd (.dK (putK (dk fk m.L) (Xt n) (.str (pF kd)))) m.kd^^^(putK (dk fk m.L) (Xt n) (.str (pF kd))):=ag;let I:∀x u,H x^u->x≠m.kd->QZ H m.kd (.dK (putK (dk fk m.L) (Xt n) (.str (pF kd)))) x^u:=λx u e z=>(e<*au z);let f1:∀x,QZ H m.kd (.dK (putK (dk fk m.L) (Xt n) (.str (pF kd)))) x=none->H x=none:=λx=>FV;generalize QZ H m.kd (.dK (putK (dk fk m.L) (Xt n) (.str (pF kd))))=H1 at *;let ac:a≠m.kd:=λz=>na (.inl z);let am:a≠m.lk:=λz=>na (.inr (.inl z));let as:=I _ _ G.hl G.ne.1.6;show#[72,I _ _ ho ac,86,jX.k (k:=Xt n) as (by rw[kc];lia),?_];let k2:QZ H1 m.lk (.dK (putK (dk fl m.L) (Xt n) (.int 1))) m.lk^^^(putK (dk fl m.L) (Xt n) (.int 1)):=ag;let Z:∀x u,H1 x^u->x≠m.lk->QZ H1 m.lk (.dK (putK (dk fl m.L) (Xt n) (.int 1))) x^u:=λx u e z=>(e<*au z);let ar:∀x,QZ H1 m.lk (.dK (putK (dk fl m.L) (Xt n) (.int 1))) x=none->H1 x=none:=λx=>FV;generalize QZ H1 m.lk (.dK (putK (dk fl m.L) (Xt n) (.int 1)))=H2 at *;show#[az,λr fr=>?_];let#[U,k3]:=gI (X:=.lst []) fr;generalize QZ _ _ (.lst [])=H3 at *;let ad:=U _ _ (Z _ _ (I _ _ G.hs G.ne.2.1.6) G.ne.2.2.6);show#[53,U _ _ (Z _ _ (I _ _ ho ac) am),58,jX.k (k:=Xt n) ad (by rw[kc];lia),?_];let ab:H r=none:=f1 _ (ar _ fr);let nr:r≠m.ls:=λe=>(ab*>[e,G.hs]);rw[ap r];rw[pk r]at k1;rw[pl r]at k2;let#[A2,st]:=G.re (d':=d+1) (J:=QZ H3 m.ls (.dK (dk fs (m.L++[(n,(r,#[135]))])))) (N':=cA N n (some #[135])) (m.L++[(n,(r,#[135]))]) (U _ _ (Z _ _ k1 G.ne.1)<*au G.ne.2.1) (U _ _ k2<*au G.ne.2.2) ag (λx u e z1 z2 z3=>U _ _ (Z _ _ (I _ _ e z1) z2)<*au z3) (λx hx=>by
  obtain h|h:=Yh.mp hx
  .show .inr #[x,h,1]
  .rw[z4]at h;subst h;show .inl #[ab,k3<*au nr]) (by
  rw[DD];show YJ.mpr #[G.nd,by simp,λx hx y hy e=>?_];have:y=n:=‹hy›;show kC Y (by rw[<-this, <-e];show hx)) (λj=>by
  rw[ky j Y];cases z:j=n
  .rw[show cA N n _ j=_ from C' z,C' z];rfl
  .rw[show cA N n _ j=N j from vr z,vr z];show G.eN j) (G.ok.up n0 n1 _ (λay e=>by injection e with e;rw[<-e];show Zy _) (by
  have:=G.ok.fit;change _+bf 0<=_;rw[show bf 0=0 by decide];lia))
 show q _ _ A2 st
def PM:aA "self n".1 "self n".1 (ao Oo):=L2.bo
theorem JM(F:bV K "end_node" "PlainNodes.end_node" Oo f fd)(T:Di K mg CP):-aO 1 f fd "self n".1 (Iy (hV CP)):=by
 show F.dZ PM ?_;intros;let#[a,m,ah,d,N,n,nd,rfl,G,hn,q]:=h;let#[dx,Y]:=G.ob;let#[p,Z,e2]:=G.at hn;let#[n0,n1]:=G.ok.use n nd hn;let na:=G.na;let ab:a≠m.kd:=λz=>na (.inl z);let am:a≠m.lk:=λz=>na (.inr (.inl z));show#[_,%[0,0,f,M,cZ,P,cF,f,M,cZ,P,cF,l,cZ,P,cF|9],?_]
 show#[99,Y,85,EE,m.kd,rfl,.inl #[_,.inl G.hk],0,_,Xt n,_,G.hk,rfl,by rw[cJ,Z];rfl,?_];rw[mq];let k1:QZ H m.kd (.dK (dk fk (jA m.L n))) m.kd^^^(dk fk (jA m.L n)):=ag;let I:∀x u,H x^u->x≠m.kd->QZ H m.kd (.dK (dk fk (jA m.L n))) x^u:=λx u e z=>(e<*au z);generalize QZ H m.kd (.dK (dk fk (jA m.L n)))=H1 at *;let ad:=I _ _ G.hl G.ne.1.6;show#[72,I _ _ Y ab,T.cl,T.nL,zT,m.lk,rfl,.inl #[_,.inl ad],0,_,Xt n,_,ad,rfl,by rw[cJ,Z];rfl,?_];rw[mq];let k2:QZ H1 m.lk (.dK (dk fl (jA m.L n))) m.lk^^^(dk fl (jA m.L n)):=ag;let U:∀x u,H1 x^u->x≠m.lk->QZ H1 m.lk (.dK (dk fl (jA m.L n))) x^u:=λx u e z=>(e<*au z);generalize QZ H1 m.lk (.dK (dk fl (jA m.L n)))=H2 at *;let ac:=U _ _ (I _ _ G.hs G.ne.2.1.6) G.ne.2.2.6;show#[53,U _ _ (I _ _ Y ab) am,T.cl,T.nS,wc,m.ls,rfl,.inl #[_,.inl ac],0,_,Xt n,_,ac,rfl,by rw[cJ,Z];rfl,?_];rw[mq];let#[A2,st]:=G.re (d':=d+1) (J:=QZ H2 m.ls (.dK (dk fs (jA m.L n)))) (N':=cA N n none) (jA m.L n) (U _ _ k1 G.ne.1<*au G.ne.2.1) (k2<*au G.ne.2.2) ag (λx u e z1 z2 z3=>U _ _ (I _ _ e z1) z2<*au z3) (λx hx=>.inr #[x,(AV hx).1,1]) (G.nd.filter _<*xW) (λj=>by
  rw[xu];cases z:j=n
  .rw[show cA N n none j=none from C' z,C' z];rfl
  .rw[show cA N n none j=N j from vr z,vr z];show G.eN j) (G.ok.up n0 n1 _ (λap e=>by cases e) (by
  have:=G.ok.fit;change _+0<=_;lia))
 show q _ _ A2 st
def Ff:YY "sum" = some (.builtin "sum"):=ax
def ML(T:Di K mg CP)(L:-Md 1 CP "kind_of" (Au (hV CP)))(Y:-Md 1 CP "links_of" (vk (hV CP)))(G:-Md 1 CP "size_of" (Bk (hV CP)))(I:-Md 1 CP "cells_of" (uH (hV CP)))(gB:-Md 1 CP "begin_node" (vG (hV CP)))(gE:-Md 1 CP "end_node" (Iy (hV CP)))(gP:-Md 1 CP "put_links" (Ba (hV CP)))(Z:-Md 1 CP "put_cells" (AE (hV CP)))(U:!Md 1 CP "finish" (IJ (hV CP))):(hV CP).Ok P w K mg base where
 cl:=T.cl
 nT:=T.nT
 ob A:=by
  let#[dx,h]:=A.ob;show#[dx,_,h,P2,λx hx=>Ow ?_ ?_ ?_ ?_]<;>(intro e;subst e;show D9 hx ax)
 na A:=A.na
 live A h:=A.live h
 nt A h e:=by
  obtain z|z|z|⟨y,F,z⟩:=h
  .rw[z,A.hk]at e;cases e
  .rw[z,A.hl]at e;cases e
  .rw[z,A.hs]at e;cases e
  .rw[z,A.hr y F]at e;cases e
 off A o h1 h2:=A.off o h1 h2
 ok A:=A.ok
 le A h:=#[A.ob,A.hk,A.hl,A.hs,A.hr,A.nd,A.ne,A.eN,A.ok]
 af A:=A
 yY A o h1 h2:=A.off o h1 h2
 kind:=L.imp az λ_ _ _ _ h=>h
 links:=Y.imp az λ_ _ _ _ h=>h
 size:=G.imp az λ_ _ _ _ h=>h
 cells:=I.imp az λ_ _ _ _ h=>h
 begin:=gB.imp az λ_ _ _ _ h=>h
 end_:=gE.imp az λ_ _ _ _ h=>h
 putL:=gP.imp az λ_ _ _ _ h=>h
 Jm:=Z.imp az λ_ _ _ _ h=>h
 fin:=U.imp az λ_ _ _ _ h=>h
def AR(N:NS)(m:Nat):List Int:=((YQ m).map λi:Nat=>(i:Int)).filter λn=>(N n).isNone
def xE(N:NS)(m:Nat):AR N (m+1)=AR N m++(if (N (m:Int)).isNone=true then[(m:Int)]else[]):=by
 unfold AR;rw[WV,DD,ZY];change _++([(m:Int)].filter _)=_;rw[Up,E7]
def Iv(N:NS)(m:Nat):(AR N m).9<=m:=by
 unfold AR;show Oi (Zx _ _) ?_;rw[si,yG];show BY _
def TM(x:Option Node):List Nat:=match x with
 |none=>[]
 |some nd=>[nd.cs.9]
def zU(N:NS)(m:Nat):List Nat:=((YQ m).map λi:Nat=>TM (N (i:Int))).11
def mH(N:NS)(m:Nat):zU N (m+1)=zU N m++TM (N (m:Int)):=by
 unfold zU;rw[WV,DD,MQ];change _++(TM _++[])=_;rw[Yw]
theorem vw(N:NS):∀m,(zU N m).9<=m
 |0=>BY _
 |m+1=>by
  have:=vw N m;rw[mH,tp];cases N (m:Int)
  .change _+0<=_;lia
  .change _+1<=_;lia
theorem Fg(N:NS):∀m,((zU N m).map bf).sum=us N m
 |0=>rfl
 |m+1=>by
  rw[mI, <-Fg N m,mH,DD,sum_append];cases N (m:Int)<;>rfl
def uR(x:Option Node):decide (LO x=.bu)=x.isNone:=by cases x<;>rfl
theorem yd:∀l:List Nat,(l.map λk:Nat=>(k:Int)).sum=((l.sum:Nat):Int)
 | []=>rfl
 |x::l=>by rw[Y5,sum_cons,sum_cons,yd l];lia
inductive Ik(M:b7)(v:vl)(H:Hp)(Q:VK)(e:XK):Prop
 |mk(a:ZX)(m:M.St)(ah d:Nat)(N:NS)(_:v=[.ref a])(_:M.At H a m ah N d)(_:∀(J:Hp)(q:ZX),aG H J->H q=none->J q%((AR N 24).map V.int)->Q (.ref q) J)
inductive KS(M:b7)(v:vl)(H:Hp)(Q:VK)(e:XK):Prop
 |mk(a:ZX)(m:M.St)(ah d:Nat)(N:NS)(_:v=[.ref a])(_:M.At H a m ah N d)(_:∀(J:Hp),aG H J->Q (.int ((ah:Int)-(us N 24:Nat))) J)
abbrev U0:Yv:=top 39
abbrev UG:Yv:=top 40
def Vw:aA ["nodes"] ["nodes"] (ao U0):=L2.bo
theorem uM(F:bV K "free_nodes" "free_nodes" U0 f fd)(T:mY K mg CN)(O:M.Ok P w K mg base):-aO 8 f fd ["nodes"] (Ik M):=by
 show F.dZ Vw ?_;intros;let#[a,m,ah,d,N,rfl,I,q]:=h;let hs:=HC;let#[dx,kX,U,Z,Y]:=O.ob I;show#[_,%[0,hr,c,S,(eR (cl:=[("nodes",s.13+1)]) (sI:=[("nodes",0)])),b7,rfl,bD,a,cy,u,ch,i,nE,E,1,c0,s,a1,u,0|9],?_];show#[56];show jQ (lo:=0) (n:=24) (λi ys H'=>ys=(AR N i).map V.int/\aG H H') #[rfl,λ_ _ e=>e] ?_ ?_
 .rintro i ys H' hi ⟨rfl,G⟩;show#[25,G _ _ U,Y _ ax,0,a,17,(i:Int),124,O.same I G,λJ2 L=>#[11]];rw[uR];let lf:=Iv N i;cases z:(N (i:Int)).isNone with
  |true =>
   rw[C' rfl];show#[0,129,?_,G.trans L];rw[xE,C' z,DD];change _++[V.int (0+(i:Int))]=_++[V.int (i:Int)];rw[show(0:Int)+(i:Int)=(i:Int)by lia]
  |false =>
   rw[vr (by nofun)];show#[?_,G.trans L];rw[xE,vr (by rw[z];nofun),Yw]
 .rintro ys H' ⟨rfl,G⟩ r fr;show q _ r (G.trans (aj fr)) (aR G fr) ag
def RO:aA "nodes sizes".1 ["nodes"] (ao UG):=L2.bo
theorem sQ(F:bV K "free_blocks" "free_blocks" UG f fd)(T:mY K mg CN)(ab:mg "sum" = none)(O:M.Ok P w K mg base)(ad:-Df 1 "blocks_for" BH):-aO 8 f fd ["nodes"] (KS M):=by
 show F.dZ RO ?_;intros;let#[a,m,ah,d,N,rfl,L,q]:=h;let hs:=HC;let#[dx,kX,Y,ht,hm]:=O.ob L;show#[_,%[RO,hr,f,dr,(uz (i:=1) (cl:=[("nodes",s.13+1)]) (sI:=[("nodes",0)])),cT,rfl,c1,b7,rfl,bD,a,cy,u,ch,i,jF,E,1,c0,s,a1,u,E,1,cM,O.3,s,c,a2,j,q,dI,rfl,ab,Ff,a,S,cr,bS,bJ,1,bv,u,d,ad,s|9],?_]
 show jJ λ_ Z=>?_;show#[56];show jQ (lo:=0) (n:=24) (λi ys H'=>ys=((zU N i).map λk:Nat=>V.int (k:Int))/\aG H H') #[rfl,λ_ _ e=>e] ?_ ?_
 .rintro i ys H' hi ⟨rfl,I⟩;show#[25,I _ _ Y,91,(i:Int),124,O.same L I,λG U=>#[11]];rw[uR];let lf:=vw N i;let S2:=I.trans U;cases z:N (i:Int)with
  |none =>
   change if (!true)=true then _ else _
   rw[vr (by nofun)];show#[?_,S2];rw[mH,z];show Ur _ (Yw _).6
  |some nd =>
   change if (!false)=true then _ else _
   rw[C' (show(!false)=true from rfl)];show#[25,S2 _ _ Y,91,(i:Int),nd,124,O.same L S2,z,λJ3 s3=>#[129,?_,S2.trans s3]];rw[mH,z,DD];rfl
 .intro ys H' h r fr;let#[ey,I]:=h;rw[ey];clear ey ys;show Z _ _ ?_;clear Z;let#[sN,e1]:=gI (X:=.lst ((zU N 24).map λk:Nat=>V.int (k:Int))) fr;generalize QZ _ _ (.lst ((zU N 24).map λk:Nat=>V.int (k:Int)))=J1 at *;let s1:=I.trans sN;let am:=vw N 24;show#[0,a,M.C,dx,_,.int ah,rfl,s1 _ _ Y,O.cl,O.nT,ht,0,r,rfl,#[_,bh.of e1],?_];show iS (K:=K) (a:=r) (xs:=(zU N 24).map λk:Nat=>V.int (k:Int)) (λi ys G=>ys=(((zU N 24).map bf).take i).map (λk:Nat=>V.int (k:Int))/\G=J1) #[1] (λi ys G _ z=>bh.of e1<*z.2) ?_ ?_
  .rintro i x ys G hx ⟨rfl,rfl⟩;rw[IF]at hx;let#[y,hy,rfl]:=NC.mp hx;let hi:=(wh.mp hy).1;show#[0,y,rfl,by rw[si,Nx];lia,97];rw[Y9,IF,hy,DD];rfl
  .rintro ys G ⟨rfl,rfl⟩ r2 ac;let U:=s1.trans (aj (X:=.lst ((((zU N 24).map bf).take ((zU N 24).map λk:Nat=>V.int (k:Int)).9).map λk:Nat=>V.int (k:Int))) ac);show#[r2,((zU N 24).map bf).map (λk:Nat=>(k:Int)),rfl,bh.of ?_,_,0,3]
   .rw[ag,Ye (BY _<*[si,si]),vv (l:=(zU N 24).map bf)];rfl
   .rw[yd,Fg];show q _ U
abbrev Slot:=Option (Str×Int)
def lF(H:Hp)(v:V)(s:Slot):Prop:=match s with
 |none=>v=.bu
 |some p=>∃t,v=.ref t/\H t|||[.str p.1,.int p.2]
structure lV(H:Hp)(vs:vl)(ss:List Slot):Prop where
 ln:vs.9=ss.9
 at_:∀(i:Nat)(v:V),vs[i]?^v->∃s,ss[i]?^s/\lF H v s
def pW(name:Str)(s:Slot):Bool:=match s with
 |none=>false
 |some p=>decide (p.1=name)
def fX(ss:List Slot)(name:Str):Option Int:=ss.findSome? λs=>s.bind λp=>if p.1=name then some p.2 else none
def oI(x:vZ):V:=match x with
 |none=>.bu
 |some k=>.int k
def dS(ss:List Slot)(name:Str):List Slot:=ss.map λs=>if pW name s then none else s
variable{v:V}{s:Slot}
def lF.same(A:lF H v s)(o:aG H J):lF J v s:=by
 cases s with
 |none=>show A
 |some p =>
  let#[t,e,h]:=A;show#[t,e,o _ _ h]
variable{vs:vl}{ss:List Slot}
theorem lV.same(A:lV H vs ss)(o:aG H J):lV J vs ss:=#[A.ln,λi v h=>by
 let#[s,e,q]:=A.at_ i v h;show#[s,e,q.same o]]
theorem lV.snoc(A:lV H vs ss)(q:lF H v s):lV H (vs++[v]) (ss++[s]):=#[by rw[tp,tp,A.ln];rfl,λi w h=>by
 cases z:i<vs.9
 .rw[Yo z]at h;let#[s,e,q]:=A.at_ i w h;show#[s,e<*Yo (by rw[<-A.ln];show z),q]
 .rw[Ya ak]at h;let hi:i-vs.9=0:=by
   have:=(wh.mp h).1;simp at this;lia
  rwa[hi]at h;show#[s,by rw[Ya (by rw[<-A.ln];lia), <-A.ln,hi];rfl,q]]
variable{name:Str}
def GQ(h1:fX (ss.take i) name=none){p:Str×Int}(h2:ss[i]?^some p)(F:p.1=name):fX ss name^p.2:=by
 unfold fX at *;let hi:=(wh.mp h2).1;rw[<-YM i ss,adG,h1,ZN hi,Qa];have:ss[i]^p:=(wh.mp h2).2;rw[this,MV,C' F];rfl
def yc(h1:fX (ss.take i) name=none)(h2:ss[i]?^s)(F:pW name s=false):fX (ss.take (i+1)) name=none:=by
 unfold fX at *;rw[Y9,h2,adG,h1];cases s with
 |none=>rfl
 |some p =>
  change Option.or none (List.findSome? _ [some p])=none;rw[Qa,MV,vr (of_decide_eq_false F)];rfl
inductive NU(v:vl)(H:Hp)(Q:VK)(e:XK):Prop
 |mk(l:ZX)(ws:vl)(ss:List Slot)(name:Str)(_:v=[.ref l,.str name])(_:H l%ws)(_:lV H ws ss)(_:Q (oI (fX ss name)) H)
inductive HZ(v:vl)(H:Hp)(Q:VK)(e:XK):Prop
 |mk(l:ZX)(ws:vl)(ss:List Slot)(name:Str)(_:v=[.ref l,.str name])(_:H l%ws)(_:lV H ws ss)(_:ss.9<=1000)(_:∀(J:Hp)(q:ZX)(Ws:vl),aG H J->H q=none->J q%Ws->lV J Ws (dS ss name)->Q (.ref q) J)
abbrev W8:Yv:=top 56
abbrev V9:Yv:=top 57
def Qh:aA "slots name slot".1 "slots name".1 (ao W8):=L2.bo
theorem vE(F:bV K "node_named" "node_named" W8 f fd):-aO 1 f fd "slots name".1 NU:=by
 show F.dZ Qh ?_;intros;let#[l,ws,ss,name,rfl,Y,SA,q]:=h;show#[_,%[Qh,0,bf,bo,0,y,2,h,an,bT,ds,i,jF,2,a1,dt,w,bh,2,1,F,c,bh,2,c,cS|9],?_]
 show#[62,#[_,bh.of Y],?_];show fL (K:=K) (a:=l) (xs:=ws) (λi σ H'=>∃v2:Option V,tD (σ=#v[.ref l,.str name,v2]) (H'=H) (fX (ss.take i) name=none)) #[0,1] (λi σ H' _ z=>by let#[_,_,e,_]:=z;rw[e];show bh.of Y) ?_ ?_
 .rintro i x σ H' hx ⟨v2,rfl,rfl,G⟩;let#[s1,I,a1]:=SA.at_ i x hx;show GL λQQ Z U=>?_;show#[0,11];cases s1 with
  |none =>
   cases a1;show cO (U _ #[0,rfl,yc G I rfl])
  |some p =>
   let#[t,rfl,L]:=a1;show de #[100,.str p.1,1,eM.of L,118,0,11];cases z:p.1=name
   .rw[Ja (show V.str p.1=V.str name by rw[z])];show Z _ #[0,t,_,(1),.int p.2,1,eM.of L,119,?_];rw[GQ G I z]at q;show q
   .rw[ck (show ¬ V.str p.1=V.str name from λe=>z (by injection e))];show U _ #[0,rfl,yc G I (ck z)]
 .rintro σ H' ⟨v2,rfl,rfl,G⟩;rw[SA.ln,Zo]at G;rw[G]at q;show q
def VH:aA "slots name".1 "slots name".1 (ao V9):=L2.bo
theorem pG(F:bV K "slots_without" "slots_without" V9 f fd):-aO 1 f fd "slots name".1 HZ:=by
 show F.dZ VH ?_;intros;let#[l,ws,ss,name,rfl,L,SA,Z,q]:=h;let hs:=HC;show#[_,%[0,0,c,S,(eR (cl:=[("name",s.13+1)]) (sI:=[("name",1)])),b7,bJ,0,bv,u,cf,bT,ds,i,jF,0,a1,dt,w,bM,b8,0,1,F,cS,0|9],?_];show#[62,#[_,bh.of L],?_];show iS (K:=K) (a:=l) (xs:=ws) (λi ys H'=>lV H ys (dS (ss.take i) name)/\H'=H) #[#[136],rfl] (λi ys H' _ z=>bh.of L<*z.2) ?_ ?_
 .rintro i x ys H' hx ⟨S1,rfl⟩;let#[G,Y,a1]:=SA.at_ i x hx;let ly:ys.9<=1000:=by
   rw[S1.ln];unfold dS;rw[si,Nx];lia
  let U:dS (ss.take (i+1)) name=dS (ss.take i) name++[if pW name G then none else G]:=by
   unfold dS;rw[Y9,Y,DD];rfl
  rw[U];show#[0,11];cases G with
  |none =>
   cases a1;show cO (cO #[0,ak,S1.snoc rfl,rfl])
  |some p =>
   let#[t,rfl,I]:=a1;show de #[100,.str p.1,1,eM.of I,118,0,11];cases z:p.1=name
   .rw[Ja (show V.str p.1=V.str name by rw[z])];show de #[ak,S1.snoc ?_,rfl];rw[C' (show pW name (some p)from Ja z)];rfl
   .rw[ck (show ¬ V.str p.1=V.str name from λe=>z (by injection e))];show cO #[0,ak,S1.snoc ?_,rfl];rw[vr (show ¬ pW name (some p)from λe=>z (cL e))];show#[t,rfl,I]
 .rintro ys H' ⟨S1,rfl⟩ r fr;rw[SA.ln,Zo]at S1;let G:=aj (X:=.lst ys) fr;show q _ r ys G fr ag (S1.same G)
def uV:Str := "abcdefghijklmnopqrstuvwxyz"
structure okN(nm:Str):Prop where
 lo:1<=nm.cps.3
 hi:nm.cps.3<=6
 lt:∀c∈nm.cps.7,97<=c/\c<123
def ot(nm:Str):List Int:=nm.cps.toList.map λc:Nat=>(c:Int)-96
noncomputable def jh(s:Slot):List Int:=match s with
 |none=>Yl 8 0
 |some p=>JG (ot p.1) 6++[p.2,0]
def QX:∀i:Fin 26,abI uV #[([97+i.val].8)] 0 uV.9 1=[i.val]:=ax
variable{c:Nat}
theorem Ts(h1:97<=c)(h2:c<123):abI uV #[([c].8)] 0 uV.9 1=[c-97]:=by
 have:=QX #[c-97,ak];rw[show 97+(c-97)=c by lia]at this;show this
structure SU(K:Yi)(mg:j5):Prop where
 L:∃u,mg "LETTERS" = some u/\zH (.str uV) u
 SC:∃u,mg "SLOT_CELLS" = some u/\zH (.int 8) u
 NL:∃u,mg "NAME_LETTERS" = some u/\zH (.int 6) u
inductive O6(vs:vl)(H:Hp)(Q:VK)(e:XK):Prop
 |mk(v:V)(s:Slot)(_:vs=[v])(_:lF H v s)(_:∀p,s^p->okN p.1)(_:∀(J:Hp)(q:ZX),aG H J->H q=none->J q%((jh s).map V.int)->Q (.ref q) J)
abbrev Tr:Yv:=top 52
def PN:aA "slot places".1 ["slot"] (ao Tr):=L2.bo
theorem rY(F:bV K "cells_of_slot" "cells_of_slot" Tr f fd)(T:mY K mg CN)(TL:SU K mg):-aO 1 f fd ["slot"] O6:=by
 let hL:=TL.L;let ap:=TL.SC;let ad:=TL.NL;show F.dZ PN ?_;intros;let#[v,sl,rfl,hv,bK,q]:=h;let hs:=HC;show#[_,%[PN,0,D,i,nE,0,a1,c,bV,x,aF,v,ap,f,dr,(uz (i:=1) (cl:=[]) (sI:=[])),cT,rfl,c1,bS,rfl,dJ,bh,0,bv,u,k,(show PE _ _ (Xk K "str" ui _ _)from gh E9 adk PySem.F.type_str_index Cv (d7 hL) (aa (pv 0) ae)),ai,c,B,B,1,bV,x,aF,a2,v,ad,t,e,aQ,bh,0,aF|9],?_]
 show Kr λQQ ji je=>?_;show#[0,11];cases sl with
 |none =>
  cases hv;show ji _ #[az,λq1 Y=>?_];let I:=aj (X:=.lst [V.int 0]) Y;show#[q1,7,ag,az,az,by rw[hs];decide,λZ U=>?_];rw[rep1];show q _ Z (I.trans (aj U)) (aR I U) ag
 |some p =>
  let#[t,rfl,ht]:=hv;show je _ ?_;clear ji je;let ok:=bK p rfl;let am:p.1.cps.toList.length=p.1.cps.3:=Yx;show jJ λ_ jt=>?_;show#[100,.str p.1,107,118,p.1,3];show sU (λi ys H'=>ys=((ot p.1).take i).map V.int/\H'=H) #[1] ?_ ?_
  .rintro i c ys H' hc ⟨rfl,rfl⟩;let hm:p.1.cps.7[i]?^c:=(hc<*YO);let hb:=ok.lt c (Yk hm);let hi:=ok.hi;show#[rfl,0,uV,#[([c].8)],c-97,[],1,Ts hb.1 hb.2,7,by rw[si,Nx];unfold ot;rw[si];lia,97];rw[Y9,DD];unfold ot;rw[IF,hm];change _++[V.int (((c-97:Nat):Int)+1)]=_++[V.int ((c:Int)-96)];rw[show(((c-97:Nat):Int)+1)=(c:Int)-96 by lia]
  .intro ys H' h r fr;let#[ey,eJ]:=h;subst eJ;rw[Ye (by unfold ot;rw[si];lia)]at ey;rw[ey];clear ey;show jt _ _ ?_;clear jt;let lp:(ot p.1).9<=6:=(by unfold ot;rw[si,am];show ok.hi);let#[I,e1]:=gI (X:=.lst ((ot p.1).map V.int)) fr;generalize QZ _ _ (.lst ((ot p.1).map V.int))=J1 at *;show#[0,az,λq1 Y=>?_];let#[G,e2]:=gI (X:=.lst [V.int 0]) Y;generalize QZ _ _ (.lst [V.int 0])=J2 at *;let s2:=I.trans G;let ab:=G _ _ e1;show#[0,r,0,.inl (bh.of ab),7,q1,7,e2,4,?_,λZ U=>?_]
   .rw[si];lia
   .rw[si];lia
   .rw[si,Yq];lia
   rw[rep1,show((6:Int)-(((ot p.1).map V.int).9:Nat)).5=6-(ot p.1).9 by rw[si];lia];let#[G,e3]:=gI (X:=.lst (Yl (6-(ot p.1).9) (V.int 0))) U;generalize QZ _ _ (.lst (Yl (6-(ot p.1).9) (V.int 0)))=J3 at *;let s3:=s2.trans G;let ac:=G _ _ ab;show#[r,Z,7,ac,e3,by rw[si,Zg];lia,λq3 f3=>?_];let ef:(ot p.1).map V.int++Yl (6-(ot p.1).9) (V.int 0)=(JG (ot p.1) 6).map V.int:=by
    unfold JG;rw[DD,Lc]
   rw[ef];let#[G,e4]:=gI (X:=.lst ((JG (ot p.1) 6).map V.int)) f3;generalize QZ _ _ (.lst ((JG (ot p.1) 6).map V.int))=J4 at *;let s4:=s3.trans G;show#[0,t,_,(1),.int p.2,1,eM.of (s4 _ _ ht),119,eW,λq5 f5=>?_];let s5:=s4.trans (aj (X:=.lst [V.int p.2,V.int 0]) f5);let e5:=aj (X:=.lst [V.int p.2,V.int 0]) f5 _ _ e4;show#[q3,q5,7,e5,ag,by rw[si,dE lp];change 6+2<=yr;lia,λq6 f6=>?_];show q _ q6 (s5.trans (aj f6)) (aR s5 f6) (by rw[ag];unfold jh;rw[DD];rfl)
def vi(c:Nat):Str:=#[([c].8)]
theorem Lk:∀cs:List Nat,Str.join "" (cs.map vi)=#[cs.8]
 | []=>rfl
 | [c]=>rfl
 |c::d::cs=>by
  let F:=Lk (d::cs);change vi c ++ "" ++ Str.join "" ((d::cs).map vi)=_;rw[F];change Str.mk (([c].8) ++ ([].8)++(d::cs).8)=_;simp
theorem HQ(h1:97<=c)(h2:c<123):lJ uV.cps.7 ((c:Int)-96-1)^c:=by
 have:∀i:Fin 26,lJ uV.cps.7 (i.val:Int)^(97+i.val):=ax;let e:=this #[c-97,ak];rw[show(((c-97:Nat)):Int)=(c:Int)-96-1 by lia]at e;rw[e];show Ur some (by change 97+(c-97)=c;lia)
def sL(s:Slot):List Nat:=match s with
 |none=>[]
 |some p=>p.1.cps.7
def UN(ok:∀p,s^p->okN p.1):(jh s).take 6=JG ((sL s).map λc:Nat=>(c:Int)-96) 6:=by
 cases s with
 |none=>rfl
 |some p =>
  let o:=ok p rfl;change(JG (ot p.1) 6++[p.2,0]).take 6=JG (ot p.1) 6;let F:(JG (ot p.1) 6).9=6:=dE (by unfold ot;rw[si,Yx];show o.hi);rw[GK,F,Ye ak,ZU,Z9,Yw]
inductive Nu(vs:vl)(H:Hp)(Q:VK)(e:XK):Prop
 |mk(l:ZX)(s:Slot)(_:vs=[.ref l])(_:H l%((jh s).map V.int))(_:∀p,s^p->okN p.1)(_:∀(J:Hp)(v:V),aG H J->lF J v s->Q v J)
abbrev TR:Yv:=top 51
def Sb:aA "cells name".1 ["cells"] (ao TR):=L2.bo
theorem BC(F:bV K "slot_in" "slot_in" TR f fd)(T:mY K mg CN)(TL:SU K mg):-aO 1 f fd ["cells"] Nu:=by
 let hL:=TL.L;let ab:=TL.NL;show F.dZ Sb ?_;intros;let#[l,sl,rfl,hl,I,q]:=h;let hs:=HC;let ac:∀c∈sL sl,97<=c/\c<123:=λc hc=>by
  cases sl with
  |none=>cases hc
  |some p=>show(I p rfl).lt c hc
 let h6:(sL sl).9<=6:=by
  cases sl with
  |none=>show Zy _
  |some p=>change p.1.cps.toList.length<=6;rw[Yx];show(I p rfl).hi
 let he:=UN I;show#[_,%[Sb,0,aR,dq,E9,PySem.F.slot_str_join,PySem.F.type_str_join,ID,aE,a,S,cr,bS,bJ,C,0,a9,v,ab,u,ch,bE,0,r,u,bw,ze,v,hL,a2,0,ai,cq,c,cf,w,1,O,cS,aA,z,a,p,0,v,ab|9],?_]
 show jJ λ_ Z=>?_;show#[rfl,0,(6),75,bh.of hl,λq1 f1=>?_];rw[show dJ ((jh sl).map V.int) none (some 6)=((jh sl).take 6).map V.int from jb (s:=6),he];let#[s1,e1]:=gI (X:=.lst ((JG ((sL sl).map λc:Nat=>(c:Int)-96) 6).map V.int)) f1;generalize QZ _ _ (.lst ((JG ((sL sl).map λc:Nat=>(c:Int)-96) 6).map V.int))=H1 at *;let lf:(JG ((sL sl).map λc:Nat=>(c:Int)-96) 6).9=6:=dE (h6<*si);show#[q1,rfl,#[_,bh.of e1],?_];show jv (K:=K) (a:=q1) (xs:=(JG ((sL sl).map λc:Nat=>(c:Int)-96) 6).map V.int) (λi ys H'=>ys=(((sL sl).take i).map vi).map V.str/\H'=H1) #[1] (λi ys H' _ z=>bh.of e1<*z.2) ?_ ?_
 .rintro i x ys H' hx ⟨rfl,rfl⟩;rw[IF]at hx;let#[y,G,rfl]:=NC.mp hx;unfold JG at G;cases z:i<(sL sl).9
  .rw[Yo (z<*si),IF,vu z]at G;obtain rfl:=OR G;let hb:=ac _ (Zr z);show#[0,32];rw[Ja (show(0:Int)<(((sL sl)[i]:Nat):Int)-96 by lia),C' rfl];show#[0,7,uV,_,(sL sl)[i],1,by rw[hs];decide +kernel,HQ hb.1 hb.2,by rw[si,si,Nx];lia,97];rw[Y9,vu z,DD,DD];rfl
  .rw[Ya (by rw[si];lia),Xp]at G;split at G
   .obtain rfl:=OR G;show#[0,32];show cO #[97];rw[Ye (show(sL sl).9<=i by lia),Ye (show(sL sl).9<=i+1 by lia)]
   .cases G
 .intro ys H' h r fr;let#[Y,eJ]:=h;subst eJ;rw[si,lf,Ye h6]at Y;rw[Y];clear Y;let U:=s1.trans (aj (X:=.lst (((sL sl).map vi).map V.str)) fr);show#["",r,(sL sl).map vi,1,49,?_,Z _ _ ?_]
  .show PyProof.Rows.joinOk_of ?_;have:((sL sl).map vi).map (·.length)=(sL sl).map λ_=>1:=(by rw[vv];rfl);rw[this,List.map_const',List.sum_replicate_nat];change _+_*0<=_;lia
  clear Z;rw[show Txt.join "" ((sL sl).map vi)=#[(sL sl).8]from(StrLaws.glued_eq_join _ _).trans (Lk _)];generalize QZ H' r (.lst (((sL sl).map vi).map V.str))=J2 at *;let ad:=U _ _ hl;cases sl with
  |none =>
   show#[0,11];show de (q _ _ U rfl)
  |some p =>
   let o:=I p rfl;let ep:(#[(sL (some p)).8]:Str)=p.1:=(by change Str.mk p.1.cps.toList.toArray=p.1;rw[Array.toArray_toList]);rw[ep];show#[0,11];let ne:¬ V.str p.1=V.str "" := λe=>by
    injection e with e;have:=o.lo;rw[e]at this;show D9 this ax
   rw[ck ne];let l6:(JG (ot p.1) 6).9=6:=dE (by unfold ot;rw[si,Yx];show o.hi);let i6:lJ ((jh (some p)).map V.int) 6^.int p.2:=aJ (j:=6) (by
    change((JG (ot p.1) 6++[p.2,0]).map V.int)[6]?=_;rw[IF,Ya ak,l6];rfl)
   show cO #[0,0,l,_,(6),0,rfl,bh.of ad,i6,eW,λt ft=>?_];let s3:=U.trans (aj (X:=.tup [V.str p.1,V.int p.2]) ft);show q _ _ s3 #[t,45]
noncomputable def bt(ss:List Slot):List Int:=(ss.map jh).11
def ju(ok:∀p,s^p->okN p.1):(jh s).9=8:=by
 cases s with
 |none=>rfl
 |some p =>
  change(JG (ot p.1) 6++[p.2,0]).9=8;rw[tp,dE (by unfold ot;rw[si,Yx];show(ok p rfl).hi)];rfl
theorem dH:∀{ss:List Slot},(∀s∈ss,∀p,s^p->okN p.1)->(bt ss).9=8*ss.9
 | [],_=>rfl
 |s::ss,h=>by
  let F:=dH (ss:=ss) λt G=>h t (Yp _ G);change(jh s++bt ss).9=_;rw[tp,F,ju (h s Yn),YU];lia
def CU(h:ss[i]?^s):bt (ss.take (i+1))=bt (ss.take i)++jh s:=by
 unfold bt;rw[Y9,h,DD,MQ];change _++(jh s++[])=_;rw[Yw]
variable{m':M.St}
def b7.pre{m:M.St}(o:aG H H1)(st:M.Step m H1 m' J):M.Step m H m' J:=#[λa u e z=>st.1 a u (o _ _ e) z,λa z=>(st.2 a z).imp id (aR o)]
inductive xK(M:b7)(v:vl)(H:Hp)(Q:VK)(e:XK):Prop
 |mk(a:ZX)(m:M.St)(ah d:Nat)(N:NS)(n:Int)(nd:Node)(l:ZX)(ws:vl)(ss:List Slot)(_:v=[.ref a,.int n,.ref l])(_:M.At H a m ah N d)(_:N n^nd)(_:H l%ws)(_:lV H ws ss)(_:ss.9<=40)(_:∀s∈ss,∀p,s^p->okN p.1)(_:us N 24+bf (8*ss.9)<=ah+bf nd.cs.9)(_:∀(J:Hp)(m':M.St),M.At J a m' ah (cA N n (some { nd with cs:=bt ss })) (d+sk nd.cs (bt ss) (nb (bt ss).9)+2)->M.Step m H m' J->Q .bu J)
abbrev Vq:Yv:=top 54
def Ov:aA "nodes n slots cells slot".1 "nodes n slots".1 (ao Vq):=L2.bo
theorem xp(F:bV K "put_slots" "put_slots" Vq f fd)(T:mY K mg CN)(O:M.Ok P w K mg base)(ac:-Df 1 "cells_of_slot" O6):-aO 8 f fd "nodes n slots".1 (xK M):=by
 show F.dZ Ov ?_;intros;let#[a,m,ah,d,N,n,nd,l,ws,ss,rfl,A1,hn,hl,SA,ad,bK,sp,q]:=h;let hs:=HC;let le:=dH bK;show#[_,%[Ov,hr,ba,bA,bf,bo,2,y,4,l,bg,zJ,M5,ku,3,aj,ac,az,l,E,0,cM,O.Jm,z,H'|9],?_]
 show jJ λ_ I=>?_;show#[az,λl1 Z=>I _ _ ?_];clear I;let#[U,e1]:=gI (X:=.lst []) Z;generalize QZ _ _ (.lst [])=H1 at *;let nl:∀{x u},H x^u->x≠l1:=λe z=>(e*>[z,Z]);show#[62,#[_,bh.of (U _ _ hl)],?_];show fL (K:=K) (a:=l) (xs:=ws) (λi σ H'=>∃v4:Option V,tD (σ=#v[.ref a,.int n,.ref l,.ref l1,v4]) (H' l1%((bt (ss.take i)).map V.int)) (Q5 (· = l1) H1 H')) #[0,e1,131] (λi σ H' _ z=>by let#[_,_,_,o]:=z;show bh.of (o _ _ (U _ _ hl) (nl hl))) ?_ ?_
 .rintro i x σ H' hx ⟨v4,rfl,G,L⟩;let#[sl,e2,a2]:=SA.at_ i x hx;let Y:aG H H':=λy u e=>L _ _ (U _ _ e) (nl e);let hi:=(wh.mp e2).1;let ab:=bK sl (Yk e2);let lt:(bt (ss.take i)).9<=320:=by
   rw[dH λt ht=>bK t (Zf ht),Nx];lia
  show wt λQQ I=>?_;show#[0,.inl #[5,bh.of G],0,x,sl,rfl,a2.same Y,ab,λJ2 r s2 fr er=>?_];show#[l1,r,7,s2 _ _ G,er,by rw[si,si,ju ab];lia,I _ _ #[0,?_,λy u e z=>s2 _ _ (L _ _ e z)<*au z]];rw[ag,CU e2,DD]
 .rintro σ H' ⟨v4,rfl,G,L⟩;rw[SA.ln,Zo]at G;let Y:aG H H':=λy u e=>L _ _ (U _ _ e) (nl e);let AJ:=O.same A1 Y;let#[dx,kX,ho,ht,hm]:=O.ob AJ;show#[25,ho,hm _ ax,0,0,a,17,n,nd,l1,bt ss,rfl,AJ,hn,G,λw=>O.live A1 w Z,ak,sp<*le,λJ m' A' st=>q J m' A' (b7.pre Y st)]
def Ux:∀k:Nat,k<41->Builtin.Range.small 0 (8*(k:Int)) 8/\Builtin.Range.rangeSize 0 (8*(k:Int)) 8=(k:Int)/\Builtin.divisionGoesByPylong (8*(k:Int)-0) 8=false:=ax
theorem Af:∀{ss:List Slot}{i:Nat}{s:Slot},(∀s∈ss,∀p,s^p->okN p.1)->ss[i]?^s->((bt ss).drop (8*i)).take 8=jh s
 |F::ss,0,s,h,e=>by
  cases e;change((jh F++bt ss).drop 0).take 8=_;let l:=ju (h F Yn);rw[vz,GK,l,ZU,Z9,Yw,Ye ak]
 |F::ss,i+1,s,h,e=>by
  let G:=Af (ss:=ss) (i:=i) (λt I=>h t (Yp _ I)) e;change((jh F++bt ss).drop (8*(i+1))).take 8=_;let l:=ju (h F Yn);rw[y3,l,Y3 ak,Kb,show 8*(i+1)-8=8*i by lia];show G
inductive rH(M:b7)(v:vl)(H:Hp)(Q:VK)(e:XK):Prop
 |mk(a:ZX)(m:M.St)(ah d:Nat)(N:NS)(n:Int)(nd:Node)(ss:List Slot)(_:v=[.ref a,.int n])(_:M.At H a m ah N d)(_:N n^nd)(_:nd.cs=bt ss)(_:ss.9<=40)(_:∀s∈ss,∀p,s^p->okN p.1)(_:∀(J:Hp)(q:ZX)(ws:vl),aG H J->H q=none->J q%ws->lV J ws ss->Q (.ref q) J)
abbrev N6:Yv:=top 53
def LK:aA "nodes n cells".1 "nodes n".1 (ao N6):=L2.bo
theorem yT(F:bV K "slots_of" "slots_of" N6 f fd)(T:mY K mg CN)(TL:SU K mg)(O:M.Ok P w K mg base)(ad:-Df 1 "slot_in" Nu):-aO 8 f fd "nodes n".1 (rH M):=by
 let ab:=TL.SC;show F.dZ LK ?_;intros;let#[a,m,ah,d,N,n,nd,ss,rfl,A1,hn,ec,am,Y,q]:=h;let hs:=HC;let le:=dH Y;let#[dx,kX,ho,ht,hm]:=O.ob A1;let#[g1,g2,g3]:=Ux ss.9 ak;show#[_,%[LK,hr,aH,E,0,cM,c2,c,S,(eR (cl:=[("cells",s.13+1)]) (sI:=[("cells",2)])),b7,rfl,cv,acY,W,T.range,bC,b,t,g,a,v,ab,bv,u,d,ad,a,dK,(show SY _ (Ji K)from bU),1,ag,0,ag,k,0,v,ab|9],?_]
 show jJ λ_ Z=>?_;show#[25,ho,91,n,nd,rfl,A1,hn,λH1 l1 s1 f1 L=>Z _ _ ?_];clear Z;rw[ec]at L;let U:(((bt ss).map V.int).9:Int)=8*(ss.9:Int):=(by rw[si,le];lia);show#[0,l1,0,.inl (bh.of L),2,_,ss.9,rfl,g1<*U,g2<*U,az,g3<*U,?_];show xi (lo:=0) (st:=8) (n:=ss.9) (λi ys H'=>lV H' ys (ss.take i)/\aG H1 H') #[#[136],λ_ _ e=>e] ?_ ?_
 .rintro i ys H' hi ⟨SA,I⟩;let es:ss[i]?=some ss[i]:=vu hi;let ac:=Y _ (Zr hi);let ly:ys.9<=40:=(by rw[SA.ln,Nx];lia);show#[0,0,0,0,7,0,l1,0,bh.of (I _ _ L),λr fr=>?_];rw[show dJ ((bt ss).map V.int) (some (0+(i:Int)*8)) (some (0+(i:Int)*8+8))=(jh ss[i]).map V.int by
   rw[show 0+(i:Int)*8=((8*i:Nat):Int)by lia, <-Af Y es];show qh (n:=8)]
  let s2:=aj (X:=.lst ((jh ss[i]).map V.int)) fr;show#[r,ss[i],45,ac,λJ2 v G hv=>#[ak,?_,I.trans (s2.trans G)]];rw[Y9,es];show(SA.same (s2.trans G)).snoc hv
 .rintro ys H' ⟨SA,I⟩ r fr;rw[Zo]at SA;let G:=aj (X:=.lst ys) fr;show q _ r ys (s1.trans (I.trans G)) (aR (s1.trans I) fr) ag (SA.same G)
abbrev UK:Yv:=top 65
def Wm:aA "cells size".1 "cells size".1 (ao UK):=L2.bo
theorem sP(F:bV K "lengthened" "lengthened" UK f fd)(T:mY K mg CN):-aO 1 f fd "cells size".1 lI:=by
 show F.dZ Wm ?_;intros;let#[l,xs,m,rfl,U,hm,hx,k]:=h;let hs:=HC;show#[_,%[0,0,c,B,0,bV,x,aF,a2,1,t,s|9],?_];show#[0,az,λZ h1=>?_];let Y:=aj (X:=.lst [V.int 0]) h1;show#[0,0,l,0,.inl (bh.of (Y _ _ U)),7,Z,7,ag,4,?_,λq2 h2=>?_]
 .rw[si];lia
 .rw[si];lia
 .rw[si,Yq];lia
 let e:((m:Int)-((xs.map V.int).9:Nat)).5=m-xs.9:=(Int.toNat_sub ..<*si);rw[rep1,e];let#[sN,e2]:=gI (X:=.lst (Yl (m-xs.9) (V.int 0))) h2;generalize QZ _ _ (.lst (Yl (m-xs.9) (V.int 0)))=H2 at *;let G:=Y.trans sN;show#[l,q2,7,G _ _ U,e2,Oi (IP hx (Oi (iC ..) hm)) az<*[si,Zg],λI L=>?_];let f3:H I=none:=by
  cases q:H I with
  |none=>rfl
  |some u=>rwa[G _ _ q]at L
 show k _ I (G.trans (aj L)) f3 ?_;rw[ag];unfold JG;rw[DD,Lc]
inductive Er|badName|noName|notDir|isDir|notEmpty|inside|noNode|noSpace|tooMany|tooBig|notHeld|notAllowed|taken|fallen
noncomputable def Dm(e:Er):Str:=match e with
 |.badName => "BadName"
 |.noName => "NoName"
 |.notDir => "NotDir"
 |.isDir => "IsDir"
 |.notEmpty => "NotEmpty"
 |.inside => "Inside"
 |.noNode => "NoNode"
 |.noSpace => "NoSpace"
 |.tooMany => "TooMany"
 |.tooBig => "TooBig"
 |.notHeld => "NotHeld"
 |.notAllowed => "NotAllowed"
 |.taken => "Taken"
 |.fallen => "Fallen"
structure l9(K:Yi)(mg:j5)(X:Er->ZX):Prop where
 xm:∀e,mg (Dm e)^.ref (X e)
 xe:∀e,excIn K (X e) tQ "ValueError.__new__" = true
 Jh:∃u,mg "LETTERS" = some u/\zH (.str uV) u
 vg:∃u,mg "NAME_LETTERS" = some u/\zH (.int 6) u
 rZ:∃u,mg "SLOT_CELLS" = some u/\zH (.int 8) u
 Cn:∃u,mg "DIR_SLOTS" = some u/\zH (.int 40) u
 qT:∃u,mg "NODE_CELLS" = some u/\zH (.int 320) u
 uP:∃u,mg "ROOT" = some u/\zH (.int 0) u
 len:mg "len" = none
 all:mg "all" = none
 list:mg "list" = none
 sorted:mg "sorted" = none
def QO(t:Str):Bool:=t.cps.toList.all λc=>decide (c∈uV.cps.7)
def fU(t:Str):Bool:=decide (1<=t.9/\t.9<=6)&&QO t
def C7{t:Str}(h:fU t):okN t:=by
 unfold fU at h;rw[wx]at h;let#[h1,h2]:=h;let h1:=cL h1;show#[h1.1,h1.2,λc F=>?_];have:=cL (Z0.mp h2 c F);show(show ∀c∈uV.cps.7,97<=c/\c<123 by decide +kernel) c this
inductive rO(v:vl)(H:Hp)(Q:VK)(e:XK):Prop
 |mk(t:Str)(_:v=[.str t])(_:t.9<=100000)(_:∀J,aG H J->Q (.bl (fU t)) J)
def Nm(c:Nat):(!(Builtin.Str.occurrences uV #[([c].8)] 0 uV.9 1).isEmpty)=decide (c∈uV.cps.7):=StrLaws.found_one uV c
def FR{l:List Nat}{p:Nat->Bool}(h:l[i]?^c):((l.take i).map p).map V.bl++[V.bl (p c)]=((l.take (i+1)).map p).map V.bl:=by
 rw[Y9,h,DD,DD];rfl
def SL:Str := "/"
structure bS(p:Str):Prop where
 len:p.9<=20000
 cps:∀c∈p.cps.7,c<128
theorem bS.repr{p:Str}(h:bS p):(Tu p).9<=200002:=by
 have:=StrLaws.reprText_len p λc F=>Ym (h.cps c F) az;have:=h.len;lia
def fJ(p:Str):Str:=Txt.slice p (some 1) none
noncomputable def tu(p:Str):Except Er (List Str):=if p=SL then .ok []else if Txt.startswith p SL then(if (Txt.split (fJ p) SL).all fU=true then .ok (Txt.split (fJ p) SL)else .error .badName)else .error .badName
inductive vW(X:Er->ZX)(v:vl)(H:Hp)(Q:VK)(e3:XK):Prop
 |mk(p:Str)(_:v=[.str p])(_:bS p)(_:∀e,tu p=.error e->∀J,aG H J->e3 (.ref (X e)) none J)
  (_:∀ns,tu p=.ok ns->∀(J:Hp)(l:ZX),aG H J->H l=none->J l%(ns.map V.str)->Q (.ref l) J):vW X v H Q e3
theorem oZ(x:Str)(w:Nat):∀(I:List Nat)(a:Nat)(y:Str),y∈DX x w a I->y.9<=x.9/\∀c∈y.cps.7,c∈x.cps.7
 | [],a,y,h=>by
  let e:y=Builtin.Str.strSub x a x.9:=(by simpa[DX]using h);show sub_piece e
 |c::r,a,y,h=>by
  rcases Yu.mp (show y∈Builtin.Str.strSub x a c::DX x w (c+w) r from h)with e|h
  .show sub_piece e
  .show oZ x w r (c+w) y h
where
 sub_piece {x y:Str}{a b:Nat}(e:y=Builtin.Str.strSub x a b):y.9<=x.9/\∀c∈y.cps.7,c∈x.cps.7:=by
  subst e;let F:(Builtin.Str.strSub x a b).9=(Builtin.Str.strSub x a b).cps.toList.length:=(by simp[Str.length]);let hx:x.9=x.cps.toList.length:=(by simp[Str.length]);rw[F,hx,StrLaws.strSub_toList];show#[?_,λc G=>ZG (Zf G)];rw[Nx,YB];show Oi (Dc _ _) (iC _ _)
def Gq(x y z:Str)(h:z∈Txt.split x y):z.9<=x.9/\∀c∈z.cps.7,c∈x.cps.7:=by
 unfold Txt.split at h;split at h
 .rw[z4.mp h];show#[BY _,λ_ h=>h]
 .split at h
  .rw[z4.mp h];show#[BY _,λ_ h=>h]
  .rw[StrLaws.partsBetween_eq]at h;show oZ x _ _ _ z h
def xx(x y z:Str)(h:z∈Txt.split x y):z.9<=x.9:=(Gq x y z h).1
abbrev Vt:Yv:=top 46
abbrev Vb:Yv:=top 47
def Vg:aA ["text"] ["text"] (ao Vt):=L2.bo
variable{X:Er->ZX}
theorem CG(F:bV K "is_name" "is_name" Vt f fd)(T:l9 K mg X):-aO 1 f fd ["text"] rO:=by
 show F.dZ Vg ?_;intros;let#[t,rfl,hl,k]:=h;let hs:=HC;show#[_,%[0,0,c,cB,S,ad3,K0,K0,ai,q,abd,dm,s,v,T.vg,cI,q,dL,rfl,T.all,Hn,a,S,cr,bS,rfl,dJ,0,bv,u,dN,abw,0,v,T.Jh,dg|9],?_];show#[0,t,rfl,ak,32];show fH (λG=>?_) (λG=>#[false,rfl,cO ?_])
 .let U:(1:Int)<=(t.9:Int):=cL G;show#[32];show fH (λI=>?_) (λI=>?_)
  .let L:(t.9:Int)<=6:=cL I;show#[0,t,3];show sU (λi ys H2=>ys=((t.cps.toList.take i).map λc=>decide (c∈uV.cps.7)).map V.bl/\H2=H) #[1] ?_ ?_
   .rintro i c ys H2 Z ⟨rfl,rfl⟩;show#[0,_,0,3,97]
    .rw[si,si,Nx];have:t.cps.toList.length=t.9:=(by simp[Str.length]);lia
    .rw[Nm];show FR ‹Z›
   .rintro ys H2 ⟨rfl,rfl⟩ l Y;show#[l,0,49,?_];let e:((t.cps.toList.take t.cps.3).map λc=>decide (c∈uV.cps.7)).all id=fU t:=by
     rw[Ye J0,all_map];unfold fU;rw[Ja #[ak,ak]];rfl
    rw[e];show k _ (aj Y)
  .let L:¬ (t.9:Int)<=6:=λz=>I (Ja z);let e:fU t=false:=by
    unfold fU;rw[ck ak];rfl
   rw[e]at k;show k _ (aG.refl _)
 .let U:¬ (1:Int)<=(t.9:Int):=λz=>G (Ja z);let e:fU t=false:=by
   unfold fU;rw[ck ak];rfl
  rw[e]at k;show k _ (aG.refl _)
def Ng:aA "path names name".1 ["path"] (ao Vb):=L2.bo
theorem yu(F:bV K "names_of" "names_of" Vb f fd)(T:l9 K mg X)(GI:-Df 1 "is_name" rO):!aO 2 f fd ["path"] (vW X):=by
 show F.dQ Ng ?_;intros;let#[p,rfl,hp,kE,kQ]:=h;let hs:=HC;show#[_,%[Ng,hr,Q,an,w,0,O,c,bA,cj,cJ,bH,dq,E9,PySem.F.slot_str_startswith,PySem.F.type_str_startswith,BE,0,ak,ao,cN,aq,cN,a,bG,aa,dO,0,aa,bU,G,1,du,dK,LV,0,ag,ai,cu,ak,bX,cW,bo,1,y,2,aO,bu,cJ,bH,d,GI,g,ao,cN,aq,cN,a,bG,aa,dO,0,aa,bU,al,c,1|9],?_]
 let ad:=hp.repr;let ab:(Tu p).9<=yr:=ak;let Z:(Str.empty++Tu p:Str).9<=yr:=by
  rw[Kk,show(Str.empty:Str).9=0 from rfl];lia
 let f2:(Str.empty++Tu p++(" is no path" : Str):Str).9<=yr:=by
  rw[Kk,Kk,show(Str.empty:Str).9=0 from rfl,show(" is no path" : Str).9=11 by decide +kernel];lia
 let am:=hp.len;show#[0,11];show fH (λc=>?_) (λc=>?_)
 .let e:p=SL:=V.str.inj (cL c);show#[az,λl I=>?_];show kQ [] (by unfold tu;rw[C' e]) _ l (aj I) I ag
 let ne:¬ p=SL:=λz=>c (Ja (by rw[z];rfl));show#[0,rfl,p,SL,1,0,?_];cases U:Txt.startswith p SL with
 |false =>
  show de ?_;show#[0,p,rfl,ab,0,Z,88,kE _ (by unfold tu;rw[vr ne,U];rfl) H (aG.refl H)]
 |true =>
  show cO ?_;let ap:(fJ p).9<=p.9:=Txt.slice_le p _ _;show#[0,26,p,rfl,ak,rfl,fJ p,SL,1,rfl,ak,λl I=>?_];let s1:=aj (X:=.lst ((Txt.split (fJ p) SL).map V.str)) I;let h1:(QZ H l (.lst ((Txt.split (fJ p) SL).map V.str))) l%((Txt.split (fJ p) SL).map V.str):=ag;let ac:∀x∈Txt.split (fJ p) SL,x.9<=20000:=λx hx=>by
   have:=xx (fJ p) SL x hx;lia
  let ed:(Txt.split (fJ p) SL).all fU=true->tu p=.ok (Txt.split (fJ p) SL):=λz=>by
   unfold tu;rw[vr ne,U,C' rfl,C' z]
  let en:(Txt.split (fJ p) SL).all fU=false->tu p=.error .badName:=λz=>by
   unfold tu;rw[vr ne,U,C' rfl,z];rfl
  generalize Txt.split (fJ p) SL=ns at *;generalize QZ H l (.lst (ns.map V.str))=H1 at *;show#[62,#[_,bh.of h1],?_];show sS (K:=K) (a:=l) (xs:=ns.map V.str) (λi σ H2=>∃v2:Option V,σ=#v[.str p,.ref l,v2]/\aG H1 H2/\(ns.take i).all fU=true) #[0,aG.refl _,rfl] (λi σ H2 _ ⟨_,_,G,_⟩=>bh.of (G _ _ h1)) ?_ ?_
  .rintro i x σ H2 hx ⟨v2,rfl,G,L⟩;rw[IF]at hx;let#[n,Y,rfl]:=NC.mp hx;show#[76,Oi (ac n (Yk Y)) az,λH3 s3=>#[0,?_]];cases ho:fU n with
   |false =>
    show de ?_;show#[0,p,rfl,ab,0,Z,88,kE _ (en ?_) H3 ((s1.trans G).trans s3)];rw[List.all_eq_false];show#[n,Yk Y,by rw[ho];simp]
   |true =>
    show cO #[0,G.trans s3,?_];rw[Y9,Y,List.all_append,L];simp[ho]
  .rintro σ H2 ⟨v2,rfl,G,L⟩;rw[si,Zo]at L;show#[0,kQ ns (ed L) H2 l (s1.trans G) I (G _ _ h1)]
open C8
variable{xs:vl}{s:Nat}
def Jq:dJ xs none (some (s:Int))=xs.take s:=by
 unfold dJ;rw[HT.kA,HT.mC,vz,Nat.sub_zero];cases c:s<=xs.9
 .rw[YV c]
 .rw[MG ak,Ye (BY _),Ye ak]
def tM:dJ xs (some (s:Int)) none=xs.drop s:=by
 unfold dJ;rw[HT.kA,HT.mC];cases c:s<=xs.9
 .rw[YV c,Ye (BY _<*YB)]
 .rw[MG ak,Y3 (BY _),Y3 ak,w4]
def eZ(ss:List Slot):List Str:=ss.filterMap λs=>s.map (·.1)
def TU(s:Slot):List Str:=match s with
 |none=>[]
 |some p=>[p.1]
variable{s:Slot}
def Dx:eZ (ss++[s])=eZ ss++TU s:=by
 unfold eZ;rw[adH];cases s<;>rfl
def Bf(ss:List Slot):(eZ ss).9<=ss.9:=me ..
inductive CQ(v:vl)(H:Hp)(Q:VK)(e:XK):Prop
 |mk(l:ZX)(ws:vl)(ss:List Slot)(_:v=[.ref l])(_:H l%ws)(_:lV H ws ss)(_:ss.9<=40)(_:(eZ ss).4)(_:∀(J:Hp)(q:ZX),aG H J->H q=none->J q%((uZ (eZ ss)).map V.str)->Q (.ref q) J)
def wJ(ns:gq):(uZ ns).9=ns.9:=(ZP ns sle).length_eq
abbrev Mu:Yv:=top 55
abbrev Ud:Yv:=top 58
abbrev Mq:Yv:=top 59
abbrev Uu:Yv:=top 60
def Rl:aA ["slots"] ["slots"] (ao Mu):=L2.bo
theorem yo(F:bV K "names_in" "names_in" Mu f fd)(T:l9 K mg X):-aO 1 f fd ["slots"] CQ:=by
 show F.dZ Rl ?_;intros;let#[l,ws,ss,rfl,L,SA,Z,nd,q]:=h;let hs:=HC;show#[_,%[0,0,c,q,vL,T.sorted,oj,a,S,cr,bS,bJ,0,u,ch,i,jF,0,a1,u,bM,b8,0|9],?_];show#[62,#[_,bh.of L],?_];show jv (K:=K) (a:=l) (xs:=ws) (λi ys H'=>ys=(eZ (ss.take i)).map V.str/\H'=H) #[1] (λi ys H' _ z=>bh.of L<*z.2) ?_ ?_
 .rintro i x ys H' hx ⟨rfl,rfl⟩;let#[G,Y,a1]:=SA.at_ i x hx;let lt:=Bf (ss.take i);rw[Nx]at lt;let I:eZ (ss.take (i+1))=eZ (ss.take i)++TU G:=(Dx<*[Y9,Y]);show#[0,11];cases G with
  |none =>
   cases a1;show cO #[(Ur _ (Yw _).6)<*I,rfl]
  |some p =>
   let#[t,rfl,U]:=a1;show de #[100,.str p.1,1,eM.of U,118,129,97];rw[I,DD];rfl
 .rintro ys H' ⟨rfl,rfl⟩ r fr;rw[SA.ln,Zo];let G:=aj (X:=.lst ((eZ ss).map V.str)) fr;let ln:=Bf ss;show#[r,eZ ss,rfl,49,nd,ak,λl2 f2=>q _ l2 (G.trans (aj f2)) (aR G f2) ag]
inductive Fc(X:Er->ZX)(v:vl)(H:Hp)(Q:VK)(e:XK):Prop
 |mk(l:ZX)(ws:vl)(ss:List Slot)(_:v=[.ref l])(_:H l%ws)(_:lV H ws ss)(_:ss.9<=40)(_:(eZ ss).4)(_:40<=(eZ ss).9->∀J,aG H J->e (.ref (X .tooMany)) none J)(_:(eZ ss).9<40->∀J,aG H J->Q .bu J)
def T4:aA ["slots"] ["slots"] (ao Ud):=L2.bo
theorem sr(F:bV K "refuse_full" "refuse_full" Ud f fd)(T:l9 K mg X)(I:-Df 1 "names_in" CQ):!aO 2 f fd ["slots"] (Fc X):=by
 show F.dQ T4 ?_;intros;let#[l,ws,ss,rfl,U,SA,Y,nd,L,Z]:=h;show#[_,%[0,hr,aO,bu,i,Fl,t,aj,I,s,v,T.Cn,F,ao,.tooMany,aq,.tooMany,ak|9],?_];show#[0,l,ws,ss,rfl,U,SA,Y,nd,λH1 q G f1 e1=>?_];show#[q,108,32];rw[si,wJ];show fH (λc=>?_) (λc=>?_)
 .show#[az,L (by have:=cL c;lia) H1 G]
 .show Z (by have:¬ (40:Int)<=((eZ ss).9:Nat):=λz=>c (Ja z);lia) H1 G
def lP(ss:List Slot):Nat:=ss.findIdx isNone
def dh(ss:List Slot)(nm:Str)(k:Int):List Slot:=ss.take (lP ss)++[some (nm,k)]++ss.drop (lP ss+1)
inductive FE(v:vl)(H:Hp)(Q:VK)(e:XK):Prop
 |mk(l:ZX)(ws:vl)(ss:List Slot)(nm:Str)(k:Int)(_:v=[.ref l,.str nm,.int k])(_:H l%ws)(_:lV H ws ss)(_:ss.9<=40)(_:∀(J:Hp)(q:ZX)(Ws:vl),aG H J->H q=none->J q%Ws->lV J Ws (dh ss nm k)->Q (.ref q) J)
variable{ws:vl}
def lV.XB(A:lV H ws ss):Qp K H ws:=#[λx hx=>by
 let#[i,hi]:=Ug.mp hx;let#[s,_,a]:=A.at_ i x hi;cases s with
 |none=>show .inl a
 |some p =>
  let#[t,e,F]:=a;show .inr #[t,_,e,eM.of F]]
def lV.bu(A:lV H ws ss):ws.map mw=ss.map isNone:=TY λi=>by
 rw[IF,IF];cases e:ws[i]? with
 |none =>
  have:=P8.mp e;rw[adF (by rw[<-A.ln];show this)];rfl
 |some v =>
  let#[s,F,a]:=A.at_ i v e;rw[F];cases s with
  |none=>cases a;rfl
  |some p =>
   let#[t,rfl,_]:=a;rfl
def lV.cut(A:lV H ws ss)(j:Nat):lV H (ws.take j) (ss.take j)/\lV H (ws.drop j) (ss.drop j):=by
 let l:=A.ln;show#[#[by rw[Nx,Nx,l],λi v h=>?_],#[by rw[YB,YB,l],λi v h=>?_]]
 .rw[Zb]at h;cases c:i<j
  .rw[C' c]at h;let#[s,e,a]:=A.at_ i v h;show#[s,e<*[Zb,C' c],a]
  .rw[vr c]at h;cases h
 .rw[Zz]at h;let#[s,e,a]:=A.at_ _ v h;show#[s,e<*Zz,a]
variable{ts:List Slot}
def lV.app{us:vl}(A:lV H ws ss)(B:lV H us ts):lV H (ws++us) (ss++ts):=by
 let l:=A.ln;show#[by rw[tp,tp,l,B.ln],λi v h=>?_];cases c:i<ws.9
 .rw[Yo c]at h;let#[s,e,a]:=A.at_ i v h;show#[s,e<*Yo ak,a]
 .rw[Ya ak]at h;let#[s,e,a]:=B.at_ _ v h;show#[s,by rw[Ya ak, <-l];show e,a]
def LB:aA "slots name node at".1 "slots name node".1 (ao Mq):=L2.bo
theorem vM(F:bV K "slots_with" "slots_with" Mq f fd)(T:l9 K mg X):-aO 1 f fd "slots name node".1 FE:=by
 show F.dZ LB ?_;intros;let#[l,ws,ss,nm,k,rfl,G,SA,ac,q]:=h;let en:=SA.bu;let le:=SA.ln;show#[_,%[LB,0,ba,cf,i,bn,Mf,aG,cS,0,dg,bg,RJ,ac0,bn,BW,aG,0,a,cS,t,s,c,B,B,C,0,a9,3,x,a,aA,z,g,C,0,ag,k,3,ai,cu|9],?_]
 show share (λσ H'=>σ=#v[.ref l,.str nm,.int k,.int (lP ss:Nat)]/\H'=H) (λu' Z=>?_) ?_
 .show#[0,l,ws,1,bh.of G,SA.XB,0,?_];let ea:ws.any mw=ss.any isNone:=by
   have:=Ur (List.any · id) en
   (rw[any_map,any_map]at this;assumption)
  rw[ea];cases c:ss.any isNone with
  |true =>
   let I:lP ss<ss.9:=List.findIdx_lt_length.mpr ‹c›;let ab:∀i:Nat,(ws[i]?).map mw=(ss[i]?).map isNone:=λi=>by
    have:=Ur (λz:List Bool=>z[i]?) en;simpa only[IF]using this
   show de #[0,.inl #[5,bh.of G],l,ws,lP ss,1,G,SA.XB,?_,λi hi=>?_,Z _ _ #[1]]
   .rw[ab,vu I];show Ur some (List.findIdx_getElem (w:=I))
   .rw[ab,vu (fE hi I)];show Ur some ‹List.not_of_lt_findIdx hi›
  |false =>
   let I:lP ss=ss.9:=adm.mpr λx hx=>by
    have:=aeF.mp c x hx;cases x with
    |none=>show D9 rfl this
    |some p=>rfl
   show cO #[0,l,ws,rfl,.inl (bh.of G),Z _ _ #[97]];change[_,_,_,some (V.int (ws.9:Nat))]=_;rw[le,I]
 .rintro σ H' ⟨rfl,rfl⟩;show#[0,0,(lP ss:Nat),rfl,l,ws,rfl,bh.of G,λq1 f1=>?_];rw[Jq];let#[S1,S2]:=SA.cut (lP ss);let lw:ws.9<=40:=le▸ac;let fl:lP ss<=ss.9:=zo;let#[s1,e1]:=gI (X:=.lst (ws.take (lP ss))) f1;generalize QZ _ _ (.lst (ws.take (lP ss)))=J1 at *;show#[0,0,eW,λt f2=>#[eW,λq2 f3=>?_]];let s2:=aj (X:=.tup [V.str nm,V.int k]) f2;let#[s3,e3]:=gI (X:=.lst [V.ref t]) f3;generalize QZ _ _ (.lst [V.ref t])=J2 at *;let e2:=s3 _ _ (ag (H:=J1) (a:=t) (o:=.tup [V.str nm,V.int k]));let L:=s2.trans s3;let S3:=S1.same (s1.trans L);let S4:=S3.snoc (v:=.ref t) (s:=some (nm,k)) #[t,rfl,e2];show#[q1,q2,7,L _ _ e1,e3,Oi (Gp (Oi (Dc ..) lw)) az<*Nx,λq3 f4=>?_];let#[s5,e4]:=gI (X:=.lst (ws.take (lP ss)++[V.ref t])) f4;generalize QZ _ _ (.lst (ws.take (lP ss)++[V.ref t]))=J3 at *;let S5:=S4.same s5;let s6:=s1.trans (L.trans s5);show#[0,0,7,((lP ss+1:Nat):Int),by rw[show((lP ss:Nat):Int)+1=((lP ss+1:Nat):Int)by lia],l,ws,rfl,bh.of (s6 _ _ G),λq4 f5=>?_];rw[tM];let#[Y,e5]:=gI (X:=.lst (ws.drop (lP ss+1))) f5;generalize QZ _ _ (.lst (ws.drop (lP ss+1)))=J4 at *;let U:=s6.trans Y;let S6:=(S5.same Y).app ((SA.cut (lP ss+1)).2.same U);show#[q3,q4,7,Y _ _ e4,e5,Oi (Xj (m:=41) (Gp (Oi fl ac)) (RM lw)) az<*[tp,Nx,YB],λq5 f6=>?_];let s9:=aj (X:=.lst (ws.take (lP ss)++[V.ref t]++ws.drop (lP ss+1))) f6;show q _ q5 _ (U.trans s9) (aR U f6) ag (S6.same s9)
def bL(N:NS)(n:Int):Bool:=match N n with
 |some nd=>nd.dir
 |none=>false
def lk(N:NS)(n:Int):Int:=match N n with
 |some nd=>nd.ln
 |none=>0
def mU(c:Int)(s:Slot):Bool:=match s with
 |some p=>decide (p.2=c)
 |none=>false
def cn(ss:List Slot)(c:Int):Nat:=ss.countP (mU c)
abbrev SS:=Int->List Slot
def kW(S:SS)(n:Int)(ss:List Slot):SS:=λk=>if k=n then ss else S k
def II(S:SS)(c:Int)(m:Nat):Nat:=((YQ m).map λn:Nat=>cn (S n) c).sum
def refs(S:SS)(c:Int):Nat:=II S c 24
variable{S:SS}
def ja:kW S n ss n=ss:=C' rfl
def gr(h:¬ k=n):kW S n ss k=S k:=vr h
theorem kg(S:SS)(c:Int)(m:Nat):II S c (m+1)=II S c m+cn (S m) c:=by
 unfold II;rw[WV,DD,sum_append];change _+(_+0)=_;lia
theorem Hw(S:SS)(n:Int)(ss:List Slot)(c:Int)(G:0<=n):∀m:Nat,II (kW S n ss) c m+(if n<m then cn (S n) c else 0)=II S c m+(if n<m then cn ss c else 0)
 |0=>by rw[vr ak,vr ak];rfl
 |m+1=>by
  let F:=Hw S n ss c G m;rw[kg,kg];cases e:(m:Int)=n
  .rw[vr ak,vr ak]at F;rw[C' ak,C' ak,e,ja];lia
  .rw[gr e];cases z:n<m
   .rw[C' z,C' z]at F;rw[C' ak,C' ak];lia
   .rw[vr z,vr z]at F;rw[vr ak,vr ak];lia
def eV(S:SS)(ss:List Slot)(c:Int)(F:0<=n)(G:n<24):refs (kW S n ss) c+cn (S n) c=refs S c+cn ss c:=by
 have:=Hw S n ss c F 24;rw[C' ak,C' ak]at this;show this
theorem ni(S:SS)(c:Int)(F:0<=n)(G:n<24):cn (S n) c<=refs S c:=by
 have:=eV S [] c F G;let e:cn [] c=0:=rfl;lia
theorem Dq(S:SS)(c:Int)(G:0<=n)(F:n<24)(k0:0<=k)(k1:k<24)(h:¬ n=k):cn (S n) c+cn (S k) c<=refs S c:=by
 let a:=eV S [] c G F;let b:=ni (kW S n []) c k0 k1;rw[gr (oR h)]at b;let e:cn [] c=0:=rfl;lia
def fO(s:Slot)(ss:List Slot)(c:Int):cn (s::ss) c=cn ss c+(if mU c s then 1 else 0):=by unfold cn;rw[List.countP_cons]
def iJ(s:Slot)(ss:List Slot)(nm:Str):dS (s::ss) nm=(if pW nm s then none else s)::dS ss nm:=rfl
theorem kz(ss:List Slot)(nm:Str)(c:Int):cn (dS ss nm) c<=cn ss c:=by
 induction ss with
 |nil=>show BY _
 |cons s ss F =>
  rw[iJ,fO,fO];cases z:pW nm s
  .rw[C' z,vr (show ¬ mU c none=true by nofun)];lia
  .rw[vr z];lia
def d8(s:Slot)(ss:List Slot)(nm:Str):fX (s::ss) nm=if pW nm s then s.map (·.2)else fX ss nm:=by
 unfold fX;rw[Qa];cases s with
 |none=>rfl
 |some p =>
  rw[MV];cases z:p.1=nm
  .rw[C' z,C' (show pW nm (some p)from Ja z)];rfl
  .rw[vr z,vr (show ¬ pW nm (some p)from λe=>z (cL e))]
variable{nm:Str}
theorem zu(h:fX ss nm^k):cn (dS ss nm) k+1<=cn ss k:=by
 induction ss with
 |nil=>cases h
 |cons s ss F =>
  rw[d8]at h;rw[iJ,fO,fO];cases z:pW nm s
  .rw[C' z]at h;have:=kz ss nm k;rw[C' z,vr (show ¬ mU k none=true by nofun)];cases s with
   |none=>cases z
   |some p =>
    cases h;rw[C' (show mU p.2 (some p)from Ja rfl)];lia
  .rw[vr z]at h;have:=F h;rw[vr z];lia
def dg(s:Slot)(ss:List Slot):eZ (s::ss)=TU s++eZ ss:=by
 unfold eZ;rw[uK];cases s<;>rfl
def jL(ss:List Slot)(nm:Str):fX ss nm=none↔nm∉eZ ss:=by
 induction ss with
 |nil=>show#[λ_ h=>(by cases h),λ_=>rfl]
 |cons s ss F =>
  rw[d8,dg];cases s with
  |none=>show F
  |some p =>
   change(if decide (p.1=nm)then some p.2 else fX ss nm)=none↔nm∉p.1::eZ ss;rw[Yu];cases z:p.1=nm
   .rw[C' (Ja z)];show#[nofun,λh=>D9 (.inl z.6) h]
   .rw[vr (λe=>z (cL e)),F];show#[λh e=>e.elim (λe=>z e.6) h,λh e=>h (.inr e)]
def qi(ss:List Slot)(nm:Str):eZ (dS ss nm)=(eZ ss).filter λx => !(decide (x=nm)):=by
 induction ss with
 |nil=>rfl
 |cons s ss F =>
  rw[iJ,dg,dg,ZY, <-F];cases s with
  |none=>rfl
  |some p =>
   cases z:p.1=nm
   .rw[C' (show pW nm (some p)from Ja z)];change[]++_=[p.1].filter _++_;rw[Zn (by simp[z])];rfl
   .rw[vr (show ¬ pW nm (some p)from λe=>z (cL e))];change[p.1]++_=[p.1].filter _++_;rw[Zv (by simp[z])];rfl
def zR(nm:Str)(k:Int):dh [] nm k=[some (nm,k)]:=rfl
def uo(ss:List Slot)(nm:Str)(k:Int):dh (none::ss) nm k=some (nm,k)::ss:=by
 unfold dh lP;rw[aeX];rfl
def rT(p:Str×Int)(ss:List Slot)(nm:Str)(k:Int):dh (some p::ss) nm k=some p::dh ss nm k:=by
 unfold dh lP;rw[aeX];rfl
theorem nR(ss:List Slot)(nm:Str)(k c:Int):cn (dh ss nm k) c=cn ss c+(if k=c then 1 else 0):=by
 let e:mU c (some (nm,k))=decide (k=c):=rfl
 induction ss with
 |nil =>
  rw[zR,fO,e];cases z:k=c
  .rw[C' (Ja z),C' z]
  .rw[vr (λe=>z (cL e)),vr z]
 |cons s ss F =>
  cases s with
  |none =>
   rw[uo,fO,fO,e,vr (show ¬ mU c none=true by nofun)];cases z:k=c
   .rw[C' (Ja z),C' z]
   .rw[vr (λe=>z (cL e)),vr z]
  |some p=>rw[rT,fO,fO,F];lia
def Az(ss:List Slot)(nm:Str)(k:Int):(eZ (dh ss nm k)).Perm (nm::eZ ss):=by
 induction ss with
 |nil=>show afw _
 |cons s ss F =>
  cases s with
  |none=>rw[uo,dg,dg];show afw _
  |some p =>
   rw[rT,dg,dg];show(List.Perm.cons p.1 F).trans (List.Perm.swap _ _ _)
def KN(h:s∈dh ss nm k):s^(nm,k)\/s∈ss:=by
 unfold dh at h;obtain h|h:=Yh.mp h
 .rcases Yh.mp h with h|h
  .show .inr (Zf h)
  .show .inl (z4.mp h)
 .show .inr (ZG h)
def kD(h:(eZ ss).9<40)(l:ss.9<=40):(dh ss nm k).9<=40:=by
 unfold dh;rw[tp,tp,Nx,YB,Yq];cases c:lP ss<ss.9
 .rw[YV (Zm c),ZF c];show l
 .let e:lP ss=ss.9:=Zw zo (OV c);let al:∀x∈ss,x.isNone=false:=adm.mp e;have:(eZ ss).9=ss.9:=by
   clear h l c e
   induction ss with
   |nil=>rfl
   |cons s ss F =>
    rw[dg,tp,F λx hx=>al x (Yp _ hx)];cases s with
    |none=>show D9 (al none Yn) (by nofun)
    |some p=>show Qb ..
  rw[e,BG,Z7 (uO _)];show this▸h
def JX{p:Str×Int}(h:some p∈dS ss nm):some p∈ss:=by
 let#[s,hs,e]:=Yj.mp h;cases z:pW nm s
 .rw[C' z]at e;cases e
 .rw[vr z]at e;show e▸hs
def iA(ss:List Slot)(nm:Str):(dS ss nm).9=ss.9:=si ..
theorem Jd(h:fX ss nm^k):1<=cn ss k:=by have:=zu h;lia
structure Fz(N:NS)(S:SS):Prop where
 root:bL N 0
 enc:∀n nd,N n^nd->nd.dir->nd.cs=bt (S n)
 len:∀n,(S n).9<=40
 ok:∀n,∀s∈S n,∀p,s^p->okN p.1
 nd:∀n,(eZ (S n)).4
 bu:∀n,bL N n=false->S n=[]
 rf:∀n,(refs S n:Int)+(if n=0 then 1 else 0)<=lk N n
 dl:∀n nd,N n^nd->nd.dir->nd.ln=1
 so:∀n nd,N n^nd->0<=n/\n<24
def bM(h:bL N n):∃nd,N n^nd/\nd.dir:=by
 unfold bL at h;cases e:N n with
 |none=>rwa[e]at h
 |some nd=>rw[e]at h;show#[nd,rfl,h]
def dU(h:N n^nd):bL N n=nd.dir:=by unfold bL;rw[h]
def gy(h:N n^nd):lk N n=nd.ln:=by unfold lk;rw[h]
def yR(h:1<=lk N n):∃nd,N n^nd:=by
 unfold lk at h;cases e:N n with
 |none=>rw[e]at h;show D9 h az
 |some nd=>show#[nd,rfl]
def Fz.oz(F:Fz N S)(h:bL N n):0<=n/\n<24:=by
 let#[nd,e,_]:=bM h;show F.so n nd e
theorem Fz.use(F:Fz N S)(h:bL N n)(h2:fX (S n) nm^k):∃nd,N k^nd:=by
 let#[I,G]:=F.oz h;have:=ni S k I G;have:=Jd h2;have:=F.rf k;show yR ?_;cases z:k=0
 .rw[C' z]at this;lia
 .rw[vr z]at this;lia
def lst(w:N4):Int:=w.getLastD 0
noncomputable def lD(N:NS)(S:SS)(F:Except Er N4)(nm:Str):Except Er N4:=match F with
 |.error e=>.error e
 |.ok way=>if bL N (lst way)then(match fX (S (lst way)) nm with|none=>.error .noName|some k=>.ok (way++[k]))else .error .notDir
noncomputable def fY(N:NS)(S:SS)(ns:gq):Except Er N4:=ns.foldl (lD N S) (.ok [0])
theorem Ag(e:Er):∀ns:List Str,ns.foldl (lD N S) (.error e)=.error e
 | []=>rfl
 |_::ns=>Ag e ns
def j3(ns:gq)(nm:Str):fY N S (ns++[nm])=lD N S (fY N S ns) nm:=by unfold fY;rw[P6];rfl
variable{ns:gq}{e:Er}
def AY(h:fY N S (ns.take i)=.error e):fY N S ns=.error e:=by
 unfold fY at *;rw[<-YM i ns,P6,h,Ag]
def lst_snoc(w:N4)(k:Int):lst (w++[k])=k:=by unfold lst;rw[acq,Ej];rfl
def fQ{w:N4}(h:w≠[]):lJ w.17 (-1)^.int (lst w):=by
 obtain⟨a,k,rfl⟩:∃a k,w=a++[k]:=#[2,(YG h).6];rw[lst_snoc,DD];show qH _ _
theorem HR(w:N4)(a b:Int):lJ ((w++[a]++[b]).map V.int) (-2)^.int a:=by
 rw[DD,DD];unfold lJ Cb;rw[vr az,tp,tp,si];change Option.bind (if -((w.9+1+1:Nat):Int) <= -2 then some (-2+((w.9+1+1:Nat):Int)).5 else none) _=_;rw[C' ak,MV,show(-2+((w.9+1+1:Nat):Int)).5=w.9 by lia,YA,Ya (BY _<*si),si,ZU];rfl
structure Way(N:NS)(S:SS)(ns:gq)(w:N4):Prop where
 ln:w.9=ns.9+1
 rg:∀x∈w,∃nd,N x^nd
def kG{α:Type}{P:List α->Prop}(G:P [])(h1:∀l a,P l->P (l++[a]))(l:List α):P l:=by
 rw[<-Ek l]
 induction l.reverse with
 |nil=>show G
 |cons a r F=>rw[List.reverse_cons];show h1 _ _ F
def Fz.way(F:Fz N S):∀{w:N4},fY N S ns=.ok w->Way N S ns w:=by
 show kG (P:=λns=>∀{w:N4},fY N S ns=.ok w->Way N S ns w) ?_ (λns nm G=>?_) ns
 .intro w h;cases h;let#[nd,e,_]:=bM F.root;show#[rfl,λx hx=>#[nd,e]<*z4.mp hx]
 .intro w h;rw[j3]at h;cases e:fY N S ns with
  |error r=>rwa[e]at h
  |ok v =>
   rw[e]at h;let W:=G e;unfold lD at h;dsimp only at h;cases d:bL N (lst v)
   .rw[C' d]at h;cases q:fX (S (lst v)) nm with
    |none=>rwa[q]at h
    |some k =>
     rwa[q]at h;show#[by rw[tp,tp,W.ln];rfl,123];obtain hx|hx:=Yh.mp hx
     .show W.rg x hx
     .rw[z4.mp hx];show F.use d q
   .rw[vr d]at h;cases h
theorem xG(h:n.12<=1000000):n.natAbs.log2<1920:=by
 cases z:n.12=0
 .rw[z];decide
 .show fE ((Nat.log2_lt z).mpr (show n.12<2^20 by lia)) az
def gQ:(Str.empty:Str).9=0:=rfl
inductive Cw(M:b7)(X:Er->ZX)(v:vl)(H:Hp)(Q:VK)(e:XK):Prop
 |mk(a:ZX)(m:M.St)(ah d:Nat)(N:NS)(n:Int)(_:v=[.ref a,.int n])(_:M.At H a m ah N d)(_:n.12<=1000000)(_:bL N n=false->∀J,aG H J->e (.ref (X .notDir)) none J)(_:bL N n->∀J,aG H J->Q .bu J)
def mj(N:NS)(n:Int):decide (LO (N n)=.str "dir")=bL N n:=by
 unfold bL;cases N n with
 |none=>rfl
 |some nd =>
  change decide (V.str (pF nd.dir)=.str "dir")=nd.dir;cases nd.dir
  .show ck (λz=>D9 (V.str.inj z) ax)
  .show Ja rfl
abbrev Ua:Yv:=top 61
abbrev VB:Yv:=top 62
def TH:aA "nodes n".1 "nodes n".1 (ao Uu):=L2.bo
theorem qC(F:bV K "refuse_no_dir" "refuse_no_dir" Uu f fd)(T:l9 K mg X)(O:M.Ok P w K mg base):!aO 8 f fd "nodes n".1 (Cw M X):=by
 show F.dQ TH ?_;intros;let#[a,m,ah,d,N,n,rfl,G,hn,Z,kQ]:=h;let hs:=HC;let#[dx,kX,Y,ht,hm]:=O.ob G;let I:=xG hn;let li:=jO I;let U:(Str.empty++toString n:Str).9<=yr:=(by rw[Kk,gQ];lia);let f2:(Str.empty++toString n++(" is no dir" : Str):Str).9<=yr:=(by rw[Kk,Kk,gQ,show(" is no dir" : Str).9=10 by decide +kernel];lia);show#[_,%[0,hr,aO,bu,i,ud,E,0,c0,e,O,ao,.notDir,aq,.notDir,a,bG,aa,b9,1,aa,bU|9],?_];show#[25,Y,91,n,rfl,G,λH1 L=>#[by cases N n<;>rfl,0,?_]];rw[mj];cases c:bL N n with
 |false=>show de #[76,I,0,U,88,Z c H1 L]
 |true=>show cO (kQ c H1 L)
inductive wB(M:b7)(X:Er->ZX)(v:vl)(H:Hp)(Q:VK)(e3:XK):Prop
 |mk(a:ZX)(m:M.St)(ah d:Nat)(N:NS)(S:SS)(l:ZX)(ns:gq)(_:v=[.ref a,.ref l])(_:M.At H a m ah N d)(_:Fz N S)(_:H l%(ns.map V.str))(_:ns.9<=30000)(_:∀x∈ns,x.9<=20000)(_:∀e,fY N S ns=.error e->∀J,aG H J->e3 (.ref (X e)) none J)(_:∀w,fY N S ns=.ok w->∀(J:Hp)(q:ZX),aG H J->H q=none->J q%w.17->Q (.ref q) J)
def Ii:aA "nodes names way name node".1 "nodes names".1 (ao Ua):=L2.bo
theorem wR(F:bV K "way_along" "way_along" Ua f fd)(T:l9 K mg X)(O:M.Ok P w K mg base)(am:!Df 8 "refuse_no_dir" (Cw M X))(ac:-Df 1 "node_named" NU)(ap:-Df 8 "slots_of" (rH M)):!aO 9 f fd "nodes names".1 (wB M X):=by
 show F.dQ Ii ?_;intros;let#[a,m,ah,d,N,S,l,ns,rfl,A1,Z,hl,l2,ln,kE,kQ]:=h;let hs:=HC;show#[_,%[Ii,hr,G,2,x,a,cl,bX,cW,bo,1,y,3,A,m,am,aS,p,2,H,G,4,d,ac,b,d,ap,aS,p,2,H,H',cj,i,nE,4,a1,ao,.noName,aq,.noName,a,bG,aa,bn,OE,3,aa,bU,al,l,bg,ZK,ZL,jo,2,az,al,c,2|9],?_]
 show#[az,λl1 I=>?_];let#[s1,e1]:=gI (X:=.lst [V.int 0]) I;generalize QZ _ _ (.lst [V.int 0])=H1 at *;let nl:∀{x u},H x^u->x≠l1:=λe z=>(e*>[z,I]);show#[62,#[_,bh.of (s1 _ _ hl)],?_];show sS (K:=K) (a:=l) (xs:=ns.map V.str) (λi σ H'=>RA λ(w:N4)(v3 v4:Option V)=>Hg (σ=#v[.ref a,.ref l,.ref l1,v3,v4]) (fY N S (ns.take i)=.ok w) (H' l1%w.17) (Q5 (· = l1) H1 H')) #[[0],7,e1,131] (λi σ H' _ z=>by let#[_,_,_,_,_,_,o]:=z;show bh.of (o _ _ (s1 _ _ hl) (nl hl))) ?_ ?_
 .rintro i x σ H' hx ⟨v,v3,v4,rfl,L,G,oJ⟩;rw[IF]at hx;let#[nm,hn,rfl]:=NC.mp hx;let sJ:aG H H':=λy u e=>oJ _ _ (s1 _ _ e) (nl e);let AJ:=O.same A1 sJ;let W:=Z.way L;let vn:v≠[]:=λz=>(by have:=W.ln;rw[z]at this;simp at this);let lm:lst v∈v:=by
   obtain⟨b,k,rfl⟩:∃b k,v=b++[k]:=#[2,(YG vn).6];rw[lst_snoc];show DO _ (z4.mpr rfl)
  let#[as,ad]:=W.rg _ lm;let rg:=Z.so _ _ ad;let et:fY N S (ns.take (i+1))=lD N S (.ok v) nm:=(by rw[Y9,hn, <-L];show j3 _ _);let lv:v.9<=30001:=(by rw[W.ln,Nx];lia);let ar:=ln nm (Yk hn);show#[0,0,26,l1,121,bh.of G,81,rfl,AJ,ak,λc J2 U=>?_,λc J2 U=>?_]
  .show kE _ (AY (i:=i+1) (by rw[et];unfold lD;dsimp only;rw[vr (by rw[c];nofun)])) J2 (sJ.trans U)
  let#[nd,ab,hd]:=bM c;let A2:=O.same AJ U;show#[0,0,26,l1,121,bh.of (U _ _ G),81,nd,50,A2,ab,Z.enc _ _ ab hd,27,λJ3 q3 ws s3 f3 e3 S3=>?_];show#[0,q3,ws,S (lst v),nm,rfl,e3,S3,?_];let Y:=U.trans s3;show#[0,11];cases c2:fX (S (lst v)) nm with
  |none =>
   let I:(Str.empty++nm:Str).9<=yr:=(by rw[Kk,gQ];lia);let f2:(Str.empty++nm++(" is not there" : Str):Str).9<=yr:=(by rw[Kk,Kk,gQ,show(" is not there" : Str).9=13 by decide +kernel];lia);show de #[0,nm,rfl,ak,0,I,88,kE _ (AY (i:=i+1) (by rw[et];unfold lD;dsimp only;rw[C' c,c2])) J3 (sJ.trans Y)]
  |some k =>
   show cO #[0,.inl #[5,bh.of (Y _ _ G)],0,l1,7,Y _ _ G,129,#[v++[k],_,0,by rw[et];unfold lD;dsimp only;rw[C' c,c2],?_,λy u e z=>Y _ _ (oJ _ _ e z)<*au z]];rw[ag,DD];rfl
 .rintro σ H' ⟨v,v3,v4,rfl,L,G,oJ⟩;rw[si,Zo]at L;show#[0,kQ v L H' l1 (λy u e=>oJ _ _ (s1 _ _ e) (nl e)) I G]
theorem FC:dJ (xs++[v]) none (some (-1))=xs:=by
 unfold dJ HT.uu;dsimp only;rw[C' az,vz,tp,Yq,show((-1:Int)+((xs.9+1:Nat):Int)).5-0=xs.9 by lia,GK,ZU,Z9,Yw,Zo]
theorem Bj(x:Str):∀l:List Str,Lv (.str x) (l.map V.str)=decide (x∈l)
 | []=>rfl
 |y::l=>by
  change(nZ (.str y) (.str x)||Lv (.str x) (l.map V.str))=_;rw[Bj x l];cases c:y=x
  .rw[show nZ (.str y) (.str x)from Ja c];rw[Ja (Yu.mpr (.inl c.6))];rfl
  .rw[show nZ (.str y) (.str x)=false from ck c];cases d:x∈l
   .rw[Ja d,Ja (Yp _ d)];rfl
   .rw[ck d,ck (λz=>(Yu.mp z).elim (λz=>c z.6) d)];rfl
theorem xn:∀l:List Str,(l.map V.str).all gg=true
 | []=>rfl
 |_::l=>xn l
def cF(ns:gq):Str:=ns.getLastD #[([].8)]
def qX(ns:gq)(nm:Str):cF (ns++[nm])=nm:=by unfold cF;rw[acq,Ej];rfl
noncomputable def pM(N:NS)(S:SS)(ns:gq):Except Er N4:=if ns=[]then .error .taken else match fY N S ns.dropLast with
 |.error e=>.error e
 |.ok w=>if bL N (lst w)then(if cF ns∈eZ (S (lst w))then .error .taken else .ok w)else .error .notDir
inductive Dt(M:b7)(X:Er->ZX)(v:vl)(H:Hp)(Q:VK)(e3:XK):Prop
 |mk(a:ZX)(m:M.St)(ah d:Nat)(N:NS)(S:SS)(l:ZX)(ns:gq)(_:v=[.ref a,.ref l])(_:M.At H a m ah N d)(_:Fz N S)(_:H l%(ns.map V.str))(_:ns.9<=30000)(_:∀x∈ns,x.9<=20000)(_:∀e,pM N S ns=.error e->∀J,aG H J->e3 (.ref (X e)) none J)(_:∀w,pM N S ns=.ok w->∀(J:Hp)(q:ZX),aG H J->H q=none->J q%w.17->Q (.ref q) J)
def Ry:aA "nodes names way".1 "nodes names".1 (ao VB):=L2.bo
theorem xf(F:bV K "way_to_new" "way_to_new" VB f fd)(T:l9 K mg X)(O:M.Ok P w K mg base)(ac:!Df 9 "way_along" (wB M X))(ap:!Df 8 "refuse_no_dir" (Cw M X))(ad:-Df 1 "names_in" CQ)(ar:-Df 8 "slots_of" (rH M)):!aO 10 f fd "nodes names".1 (Dt M X):=by
 show F.dQ Ry ?_;intros;let#[a,m,ah,d,N,S,l,ns,rfl,A1,Z,Y,l2,ln,G,I]:=h;show#[_,%[Ry,hr,aI,t,e,r,ao,cO,aq,cO,ak,au,2,m,ac,aS,C,1,a9,H,A,m,ap,aS,p,2,H,cj,i,tZ,p,1,H,d,ad,aj,ar,aS,p,2,H,dg,ao,cO,aq,cO,ak,al,c,2|9],?_]
 show#[0,l,0,.inl (bh.of Y),11];rw[si];show fH (λc=>?_) (λc=>?_)
 .let e:ns=[]:=Yz.mp (by have:=V.int.inj (cL c);lia);show#[az,G _ (by unfold pM;rw[C' e]) H (aG.refl H)]
 let ne:ns≠[]:=λz=>c (Ja rfl<*z);obtain⟨b,nm,U⟩:∃b k,ns=b++[k]:=#[2,(YG ne).6];let ed:ns.dropLast=b:=(by rw[U,xl]);let el:cF ns=nm:=(by rw[U,qX]);let en:pM N S ns=match fY N S b with
  |.error e=>.error e
  |.ok w=>if bL N (lst w)then(if nm∈eZ (S (lst w))then .error .taken else .ok w)else .error .notDir:=by
  unfold pM;rw[vr ne,ed,el]
 rw[en]at G I;rw[U,DD]at Y;show#[0,0,26, -1,75,bh.of Y,λq1 f1=>?_];rw[show dJ (b.map V.str++[nm].map V.str) none (some (-1))=b.map V.str from FC];let#[s1,e1]:=gI (X:=.lst (b.map V.str)) f1;generalize QZ _ _ (.lst (b.map V.str))=H1 at *;let lb:b.9<=30000:=(by have:=Ur YL U;rw[tp]at this;lia);show#[a,17,S,q1,b,rfl,O.same A1 s1,Z,e1,lb,λx hx=>ln x (YC _ hx<*U),λe he H2 s2=>?_,λv hv H2 q2 s2 f2 e2=>?_]
 .rw[he]at G;show G e rfl H2 (s1.trans s2)
 rw[hv]at G I;dsimp only at G I;let W:=Z.way hv;let vn:v≠[]:=λz=>(by have:=W.ln;rw[z]at this;simp at this);let lm:lst v∈v:=by
  obtain⟨b,k,rfl⟩:∃b k,v=b++[k]:=#[2,(YG vn).6];rw[lst_snoc];show DO _ (z4.mpr rfl)
 let#[as,am]:=W.rg _ lm;let rg:=Z.so _ _ am;let s3:=s1.trans s2;show#[0,0,109,81,rfl,O.same A1 s3,ak,λc J2 L=>?_,λc J2 L=>?_]
 .rw[vr (by rw[c];nofun)]at G;show G _ rfl J2 (s3.trans L)
 rw[C' c]at G I;let#[nd,ab,hd]:=bM c;let s5:=s3.trans L;show#[0,26,l,_, -1,.str nm,1,bh.of (s5 _ _ Y),qH _ _,0,0,26,q2,121,bh.of (L _ _ e2),81,nd,50,O.same A1 s5,ab,Z.enc _ _ ab hd,27,λJ3 q3 ws s6 f3 e3 S3=>?_];show#[q3,ws,50,e3,S3,73,λJ4 q4 s7 f4 e4=>?_];let s8:=s5.trans (s6.trans s7);show#[q4,0,.inl (bh.of e4),rfl,xn _,0,?_];change if Lv (.str nm) ((uZ (eZ (S (lst v)))).map V.str)then _ else _
 rw[Bj];let em:nm∈uZ (eZ (S (lst v)))↔nm∈eZ (S (lst v)):=(ZP _ sle).mem_iff;show fH (λc2=>?_) (λc2=>?_)
 .rw[C' (em.mp (cL c2))]at G;show#[az,G _ rfl J4 s8]
 .rw[vr (λz=>c2 (Ja (em.mpr z)))]at I;show#[0,I v rfl J4 q2 s8 (aR s1 f2) ((L.trans (s6.trans s7)) _ _ e2)]
structure FA where
 a:ZX
 na:ZX
 hd:ZX
abbrev HT:=List (Int×Int)
def kf:¬ (("nodes" : Str) = "holds"):=ax
abbrev b7.uW(M:b7):b7:={ M with At:=λH a m ah N _=>M.Pm H a m ah N }
structure cI(M:b7)(CF:ZX)(H:Hp)(z:FA)(m:M.St)(ah:Nat)(N:NS)(h:HT)(d:Nat):Prop where
 ob:∃dx,H z.a^.ins CF dx (f2 "nodes" "holds" (.ref z.na) (.ref z.hd))
 hh:H z.hd^^^(dk V.int h)
 nd:(h.map (·.1)).4
 A:M.At H z.na m ah N d
 s1:¬ M.own m z.a
 s2:¬ M.own m z.hd
 hk:∀x∈h,0<=x.1/\x.1<24
structure cH(M:b7)(z:FA)(m:M.St)(H:Hp)(m':M.St)(J:Hp):Prop where
 off:Q5 (λx=>M.own m x\/x=z.hd) H J
 own:∀a,M.own m' a->M.own m a\/H a=none
inductive jT(M:b7)(z:FA)(m:M.St)(H:Hp)(ah:Nat)(N':NS)(J:Hp):Prop
 |mk(m1:M.St)(H1:Hp)(_:cH M z m H m1 H1)(_:M.Wy m1 ah N' H1 J)
structure fI(K:Yi)(CF:ZX):Prop where
 cl:ph K CF
 nN:c8 K CF "nodes"
 nH:c8 K CF "holds"
end
section
variable{M:b7}{CF:ZX}{H J pE:Hp}{z:FA}{m m' m'':M.St}{ah d d':Nat}{N N':NS}{h:HT}
def b7.tr(s:M.Step m H m' J)(t:M.Step m' J m'' pE):M.Step m H m'' pE:=by
 show#[λb o e nb=>t.1 b o (s.1 b o e nb) λw=>?_,λa w=>?_]
 .rcases s.2 b w with w|w
  .show nb w
  .rw[w]at e;cases e
 .rcases t.2 a w with w|w
  .show s.2 a w
  .cases c:M.own m a
   .show .inl c
   .cases e:H a with
    |none=>show .inr rfl
    |some o=>rwa[s.1 a o e c]at w
def b7.sm(s:aG H J):M.Step m H m J:=#[λb o e _=>s b o e,λa w=>.inl w]
def cH.of(s:M.Step m H m' J):cH M z m H m' J:=#[s.1.mono λ_ w=>.inl w,s.2]
theorem jT.pre(s:aG H J)(t:jT M z m J ah N' pE):jT M z m H ah N' pE:=by
 let#[F,H1,st,fl]:=t;show#[F,H1,#[λb o e nb=>st.1 b o (s _ _ e) nb,λa w=>(st.2 a w).imp id λq=>?_],fl];cases e:H a with
 |none=>rfl
 |some u=>rwa[s _ _ e]at q
def cH.hold(o:Q5 (· = z.hd) H J)(a:J z.hd≠none)(s:M.Step m J m' pE):cH M z m H m' pE:=by
 show#[λb u e nb=>s.1 b u (o b u e λw=>nb (.inr w)) λw=>nb (.inl w),λb w=>?_];obtain w|w:=s.2 b w
 .show .inl w
 .cases e:H b with
  |none=>show .inr rfl
  |some u =>
   cases c:b=z.hd
   .rw[c]at w;show D9 w a
   .rw[o b u e c]at w;cases w
section
variable{P:By}{w:L3}{K:Yi}{mg:j5}{base:Heap}(O:M.Ok P w K mg base)
include O
theorem cI.off(F:cI M CF H z m ah N h d)(o:Q5 B H J)(h1:∀x,M.own m x->¬ B x)(h2:¬ B z.a)(I:¬ B z.na)(G:¬ B z.hd):cI M CF J z m ah N h d:=by
 let#[dx,e]:=F.ob;show#[#[dx,o _ _ e h2],o _ _ F.hh G,F.nd,O.off F.A o h1 I,57]
theorem cI.same(F:cI M CF H z m ah N h d)(s:aG H J):cI M CF J z m ah N h d:=F.off O (B:=λ_=>False) (Q5.of s) (λ_ _=>id) id id id
theorem cI.ne(F:cI M CF H z m ah N h d):z.a≠z.hd/\z.na≠z.hd:=by
 let#[dx,e]:=F.ob;let#[dy,fs,G,_]:=O.ob F.A;let e3:=F.hh;show#[λw=>(e*>[w,e3]),λw=>(G*>[w,e3])]
theorem cI.held{h':HT}(F:cI M CF H z m ah N h d)(o:Q5 (· = z.hd) H J)(e:J z.hd^^^(dk V.int h'))(I:(h'.map (·.1)).4)(L:∀x∈h',0<=x.1/\x.1<24):cI M CF J z m ah N h' d:=by
 let#[dx,q]:=F.ob;let#[G,w2]:=F.ne O;show#[#[dx,o _ _ q G],e,I,O.off F.A o (λx hx w=>F.s2 (w▸hx)) w2,F.s1,F.s2,L]
theorem cI.step{M:b7}{CF:ZX}{H J:Hp}{z:FA}{m m':M.St}{ah d d':Nat}{N N':NS}{h:HT}(F:cI M CF H z m ah N h d)(A':M.At J z.na m' ah N' d')(s:M.Step m H m' J):cI M CF J z m' ah N' h d':=by
 let#[dx,e]:=F.ob;show#[#[dx,s.1 _ _ e F.s1],s.1 _ _ F.hh F.s2,F.nd,A',λw=>?_,λw=>?_,F.hk]
 .rcases s.2 _ w with w|w
  .show F.s1 w
  .rw[w]at e;cases e
 .let G:=F.hh;obtain w|w:=s.2 _ w
  .show F.s2 w
  .rw[w]at G;cases G
theorem cI.fin(F:cI M CF H z m ah N h d)(A':M.Pm J z.na m' ah N')(s:M.Step m H m' J):cI M.uW CF J z m' ah N' h 0:=by
 let#[dx,e]:=F.ob;show#[#[dx,s.1 _ _ e F.s1],s.1 _ _ F.hh F.s2,F.nd,A',λw=>?_,λw=>?_,F.hk]
 .rcases s.2 _ w with w|w
  .show F.s1 w
  .rw[w]at e;cases e
 .let G:=F.hh;obtain w|w:=s.2 _ w
  .show F.s2 w
  .rw[w]at G;cases G
theorem cI.af(F:cI M CF H z m ah N h 0):cI M.uW CF H z m ah N h 0:=#[F.ob,F.hh,F.nd,O.af F.A,57]
theorem cI.yY(F:cI M.uW CF H z m ah N h d)(o:Q5 B H J)(h1:∀x,M.own m x->¬ B x)(h2:¬ B z.a)(I:¬ B z.na)(G:¬ B z.hd):cI M.uW CF J z m ah N h d:=by
 let#[dx,e]:=F.ob;show#[#[dx,o _ _ e h2],o _ _ F.hh G,F.nd,O.yY F.A o h1 I,57]
end
end
mutual
inductive DF(M:b7)(CF:ZX)(X:Er->ZX)(v:vl)(H:Hp)(Q:VK)(e:XK):Prop
 |mk(z:FA)(m:M.St)(ah d:Nat)(N:NS)(h:HT)(n:Int)(_:v=[.ref z.a,.int n])(_:cI M CF H z m ah N h d)(_:n.12<=1000000)(_:N n=none->∀J,aG H J->e (.ref (X .noNode)) none J)(_:∀nd,N n^nd->∀J,aG H J->Q .bu J)
inductive wQ(M:b7)(CF:ZX)(X:Er->ZX)(v:vl)(H:Hp)(Q:VK)(e:XK):Prop
 |mk(z:FA)(m:M.St)(ah d:Nat)(N:NS)(h:HT)(n:Int)(_:v=[.ref z.a,.int n])(_:cI M CF H z m ah N h d)(_:n.12<=1000000)(_:bL N n->∀J,aG H J->e (.ref (X .isDir)) none J)(_:bL N n=false->∀J,aG H J->Q .bu J)
def yg(N:NS)(n:Int):Option Er:=match N n with
 |none=>some .noNode
 |some nd=>if nd.dir then some .isDir else none
inductive tf(M:b7)(CF:ZX)(X:Er->ZX)(v:vl)(H:Hp)(Q:VK)(e3:XK):Prop
 |mk(z:FA)(m:M.St)(ah d:Nat)(N:NS)(h:HT)(n:Int)(_:v=[.ref z.a,.int n])(_:cI M CF H z m ah N h d)(_:n.12<=1000000)(_:∀e,yg N n^e->∀J,aG H J->e3 (.ref (X e)) none J)(_:yg N n=none->∀J,aG H J->Q .bu J)
inductive Ft(X:Er->ZX)(v:vl)(H:Hp)(Q:VK)(e:XK):Prop
 |mk(n:Int)(_:v=[.int n])(_:n.12<=1000000)(_:¬ (0<=n/\n<=320)->e (.ref (X .tooBig)) none H)(_:0<=n/\n<=320->Q .bu H)
noncomputable def iY(ah:Nat)(N:NS)(old size:Nat):Bool:=decide ((ah:Int)-(us N 24:Nat)<(bf size:Int)-(bf old:Int))
inductive IZ(M:b7)(CF:ZX)(X:Er->ZX)(v:vl)(H:Hp)(Q:VK)(e:XK):Prop
 |mk(z:FA)(m:M.St)(ah d:Nat)(N:NS)(h:HT)(n:Int)(nd:Node)(k:Nat)(_:v=[.ref z.a,.int n,.int k])(_:cI M CF H z m ah N h d)(_:N n^nd)(_:iY ah N nd.cs.9 k->∀J,aG H J->e (.ref (X .noSpace)) none J)(_:iY ah N nd.cs.9 k=false->∀J,aG H J->Q .bu J)
abbrev T9:Yv:=zj (top 66) 21
abbrev MR:Yv:=zj (top 66) 22
abbrev Wu:Yv:=zj (top 66) 23
abbrev VS:Yv:=zj (top 66) 24
abbrev UR:Yv:=top 64
def WI:aA "self node".1 "self node".1 (ao T9):=L2.bo
theorem pQ(F:bV K "refuse_no_node" "Files.refuse_no_node" T9 f fd)(T:l9 K mg X)(Y:fI K CF)(O:M.Ok P w K mg base):!aO 8 f fd "self node".1 (DF M CF X):=by
 show F.dQ WI ?_;intros;let#[z,m,ah,d,N,h,n,rfl,I,hn,kE,kQ]:=h;let hs:=HC;let G:=I.A;let#[dy,hy]:=I.ob;let#[dx,kX,ho,ht,hm]:=O.ob G;let L:=xG hn;let li:=jO L;let f1:(Str.empty++toString n:Str).9<=yr:=(by rw[Kk,gQ];lia);let Z:(Str.empty++toString n++(" is no node in use" : Str):Str).9<=yr:=(by rw[Kk,Kk,gQ,show(" is no node in use" : Str).9=18 by decide +kernel];lia);show#[_,%[0,hr,aO,bu,i,nE,aJ,df,e,a1,ao,cP,aq,cP,a,bG,aa,b9,1,aa,bU|9],?_];show#[6,hy,Y.cl,Y.nN,8,13,d,N,n,rfl,G,λH1 U=>#[11]];rw[uR];cases c:N n with
 |none=>show de #[76,L,0,f1,0,Z,Z,eW,kE c H1 U]
 |some nd=>show cO (kQ nd c H1 U)
def Qm:aA "self node".1 "self node".1 (ao MR):=L2.bo
theorem vJ(F:bV K "refuse_dir" "Files.refuse_dir" MR f fd)(T:l9 K mg X)(Y:fI K CF)(O:M.Ok P w K mg base):!aO 8 f fd "self node".1 (wQ M CF X):=by
 show F.dQ Qm ?_;intros;let#[z,m,ah,d,N,h,n,rfl,I,hn,kE,kQ]:=h;let hs:=HC;let G:=I.A;let#[dy,hy]:=I.ob;let#[dx,kX,ho,ht,hm]:=O.ob G;let L:=xG hn;let li:=jO L;let f1:(Str.empty++toString n:Str).9<=yr:=(by rw[Kk,gQ];lia);let Z:(Str.empty++toString n++(" is a dir" : Str):Str).9<=yr:=(by rw[Kk,Kk,gQ,show(" is a dir" : Str).9=9 by decide +kernel];lia);show#[_,%[0,hr,aO,bu,w,aJ,df,e,O,ao,.isDir,aq,.isDir,a,bG,aa,b9,1,aa,bU|9],?_];show#[6,hy,Y.cl,Y.nN,8,13,d,N,n,rfl,G,λH1 U=>#[by cases N n<;>rfl,0,?_]];rw[mj];cases c:bL N n with
 |true=>show de #[76,L,0,f1,0,Z,Z,eW,kE c H1 U]
 |false=>show cO (kQ c H1 U)
def Uw:aA "self node".1 "self node".1 (ao Wu):=L2.bo
theorem pR(F:bV K "refuse_no_file" "Files.refuse_no_file" Wu f fd)(T:l9 K mg X)(TF:fI K CF)(O:M.Ok P w K mg base)(ac:!Md 8 CF "refuse_no_node" (DF M CF X))(ab:!Md 8 CF "refuse_dir" (wQ M CF X)):!aO 9 f fd "self node".1 (tf M CF X):=by
 show F.dQ Uw ?_;intros;let#[z,m,ah,d,N,h,n,rfl,L,hn,Y,kQ]:=h;let#[dy,Z]:=L.ob;show#[_,%[0,0,A,aL,ac,e,av,aL,ab,e|9],?_]
 show#[12,Z,9,113,L,hn,λc H1 G=>Y _ (by unfold yg;rw[c]) H1 G,λnd c H1 G=>?_];show#[12,G _ _ Z,9,113,L.same O G,hn,λU H2 I=>Y _ (by unfold yg;rw[c];show C' (by rw[<-dU c];show U)) H2 (G.trans I),λU H2 I=>kQ (by unfold yg;rw[c];show vr (by rw[<-dU c,U];nofun)) H2 (G.trans I)]
def WN:aA ["at"] ["at"] (ao UR):=L2.bo
theorem nP(F:bV K "refuse_no_place" "refuse_no_place" UR f fd)(T:l9 K mg X):!aO 1 f fd ["at"] (Ft X):=by
 show F.dQ WN ?_;intros;let#[n,rfl,hn,Y,kQ]:=h;let hs:=HC;let L:=xG hn;let li:=jO L;let l3:=jO (i:=320) az;let Z:(" is not from 0 to " : Str).9=18:=ax;let U:(Str.empty++toString n:Str).9<=yr:=(by rw[Kk,gQ];lia);let ab:(Str.empty++toString n++(" is not from 0 to " : Str):Str).9<=yr:=(by rw[Kk,Kk,gQ,Z];lia);let G:(Str.empty++toString n++(" is not from 0 to " : Str)++toString (320:Int):Str).9<=yr:=(by rw[Kk,Kk,Kk,gQ,Z];lia);show#[_,%[0,0,aO,bu,bT,cG,i,tT,0,r,cH,bE,0,v,T.qT,F,ao,.tooBig,aq,.tooBig,a,bG,aa,b9,0,aa,aE,aa,b9,v,T.qT,jH|9],?_];show#[0,32];show fH (λc=>?_) (λc=>?_)
 .show#[76,L,0,U,0,ab,(320),rfl,az,0,G,G,eW,Y (by have:=cL c;lia)]
 .let c':¬ n<0:=λq=>c (Ja q);show#[0,32];show fH (λI=>?_) (λI=>?_)
  .show#[76,L,0,U,0,ab,(320),rfl,az,0,G,G,eW,Y (by have:=cL I;lia)]
  .show kQ #[ak,by have:¬ (320:Int)<n:=λq=>I (Ja q);lia]
def Sk:aA "self node size lacking".1 "self node size".1 (ao VS):=L2.bo
theorem nX(F:bV K "refuse_no_space" "Files.refuse_no_space" VS f fd)(T:l9 K mg X)(G:fI K CF)(O:M.Ok P w K mg base)(Y:-Df 1 "blocks_for" BH)(ab:-Df 8 "free_blocks" (KS M)):!aO 9 f fd "self node size".1 (IZ M CF X):=by
 show F.dQ Sk ?_;intros;let#[z,m,ah,d,N,h,n,nd,k,rfl,U,hn,kE,kQ]:=h;let I:=U.A;let#[dy,Z]:=U.ob;let#[dx,kX,ho,ht,hm]:=O.ob I;show#[_,%[Sk,hr,G,3,a2,d,Y,g,d,Y,a,aJ,O.3,e,aO,bu,bE,3,d,ab,a,j,F,ao,.noSpace,aq,.noSpace,ak|9],?_]
 show#[0,k,rfl,6,Z,G.cl,G.nN,8,52,I,hn,λH1 L=>#[nd.cs.9,5,0,3]];show#[0,6,L _ _ Z,G.cl,G.nN,cp kf,z.na,17,rfl,O.same I L,λH2 s2=>#[32]];let s3:=L.trans s2;show fH (λc=>?_) (λc=>?_)
 .show#[az,kE (by unfold iY;show c) H2 s3]
 .show kQ (by unfold iY;show Y0.mpr c) H2 s3
def oP(old cs:N4)(m:Nat):sk old cs m<=m:=by
 unfold sk;show Oi (Zx _ _) (BY _<*yG)
theorem tL{k:Nat}(h:k<=320):nb k<=20:=by unfold nb;lia
def dZ(h:∀s∈ss,∀p,s^p->okN p.1)(F:okN nm):∀s∈dh ss nm k,∀p,s^p->okN p.1:=λs hs p e=>by
 obtain rfl|hs:=KN hs
 .cases e;show F
 .show h s hs p e
def Nn(h:∀s∈ss,∀p,s^p->okN p.1):∀s∈dS ss nm,∀p,s^p->okN p.1:=λs hs p e=>by
 subst e;show h _ (JX hs) p rfl
theorem fits{old size:Nat}(h:iY ah N old size=false):us N 24+bf size<=ah+bf old:=by
 have:=of_decide_eq_false h;lia
inductive EZ(M:b7)(CF:ZX)(X:Er->ZX)(v:vl)(H:Hp)(Q:VK)(e:XK):Prop
 |mk(z:FA)(m:M.St)(ah d:Nat)(N:NS)(h:HT)(n:Int)(nd:Node)(l:ZX)(ws:vl)(ss:List Slot)(nm:Str)(k:Int)(_:v=[.ref z.a,.int n,.ref l,.str nm,.int k])(_:cI M CF H z m ah N h d)(_:N n^nd)(_:H l%ws)(_:lV H ws ss)(_:ss.9<=40)(_:(eZ ss).9<40)(_:∀s∈ss,∀p,s^p->okN p.1)(_:okN nm)
  (_:iY ah N nd.cs.9 (8*(dh ss nm k).9)->∀J,aG H J->e (.ref (X .noSpace)) none J)
  (_:iY ah N nd.cs.9 (8*(dh ss nm k).9)=false->∀(J:Hp)(m':M.St),cI M CF J z m' ah (cA N n (some { nd with cs:=bt (dh ss nm k) })) h (d+sk nd.cs (bt (dh ss nm k)) (nb (bt (dh ss nm k)).9)+2)->M.Step m H m' J->Q .bu J):EZ M CF X v H Q e
inductive Im(M:b7)(CF:ZX)(v:vl)(H:Hp)(Q:VK)(e:XK):Prop
 |mk(z:FA)(m:M.St)(ah d:Nat)(N:NS)(h:HT)(n:Int)(nd:Node)(ss:List Slot)(nm:Str)(_:v=[.ref z.a,.int n,.str nm])(_:cI M CF H z m ah N h d)(_:N n^nd)(_:nd.cs=bt ss)(_:ss.9<=40)(_:∀s∈ss,∀p,s^p->okN p.1)
  (_:∀(J:Hp)(m':M.St),cI M CF J z m' ah (cA N n (some { nd with cs:=bt (dS ss nm) })) h (d+sk nd.cs (bt (dS ss nm)) (nb (bt (dS ss nm)).9)+2)->M.Step m H m' J->Q .bu J):Im M CF v H Q e
inductive IT(M:b7)(CF:ZX)(X:Er->ZX)(v:vl)(H:Hp)(Q:VK)(e:XK):Prop
 |mk(z:FA)(m:M.St)(ah:Nat)(N:NS)(h:HT)(n:Int)(nd:Node)(l:ZX)(cs:N4)(_:v=[.ref z.a,.int n,.ref l])(_:cI M CF H z m ah N h 0)(_:N n^nd)(_:H l%cs.17)(_:¬ M.own m l)(_:cs.9<=320)
  (_:iY ah N nd.cs.9 cs.9->∀J,aG H J->e (.ref (X .noSpace)) none J)
  (_:iY ah N nd.cs.9 cs.9=false->∀(J:Hp)(m':M.St),cI M.uW CF J z m' ah (cA N n (some { nd with cs:=cs })) h 0->M.Step m H m' J->Q .bu J) (_:iY ah N nd.cs.9 cs.9=false->∀J,jT M z m H ah (cA N n (some { nd with cs:=cs })) J->e (.ref M.X0) none J):IT M CF X v H Q e
inductive Kz(M:b7)(CF:ZX)(v:vl)(H:Hp)(Q:VK)(e:XK):Prop
 |mk(z:FA)(m:M.St)(ah d:Nat)(N:NS)(h:HT)(n:Int)(nd:Node)(_:v=[.ref z.a,.int n])(_:cI M CF H z m ah N h d)(_:N n^nd)
  (_:∀(J:Hp)(m':M.St),cI M CF J z m' ah (if nd.ln=0/\look h n=none then cA N n none else N) h (d+1)->M.Step m H m' J->Q .bu J):Kz M CF v H Q e
abbrev Uv:Yv:=zj (top 66) 17
abbrev UI:Yv:=zj (top 66) 18
abbrev VE:Yv:=zj (top 66) 19
abbrev WC:Yv:=zj (top 66) 20
def Qj:aA "self parent slots name node grown".1 "self parent slots name node".1 (ao Uv):=L2.bo
theorem yq(F:bV K "put_name" "Files.put_name" Uv f fd)(T:l9 K mg X)(U:fI K CF)(O:M.Ok P w K mg base)(as:-Df 1 "slots_with" FE)(ad:!Md 9 CF "refuse_no_space" (IZ M CF X))(ar:-Df 8 "put_slots" (xK M)):!aO 10 f fd "self parent slots name node".1 (EZ M CF X):=by
 show F.dQ Qj ?_;intros;let#[z,m,ah,d,N,h,n,nd,l,ws,ss,nm,k,rfl,L,hn,hl,SA,ab,am,bK,ay,kE,kQ]:=h;let#[dy,hy]:=L.ob;let ap:=kD (nm:=nm) (k:=k) am ab;show#[_,%[Qj,hr,G,5,d,as,b,2,b,3,az,bj,0,U.cl,ad,z,a,bq,v,T.rZ,t,a,5,al,l,d,ar,U,z,a,5|9],?_]
 show#[0,0,0,l,ws,ss,nm,k,rfl,hl,SA,ab,λH1 Z ac I f1 e1 S1=>?_];show#[12,I _ _ hy,9,0,Z,108,133,z,17,h,n,nd,8*(dh ss nm k).9,?_,L.same O I,hn,λc H2 G=>kE c H2 (I.trans G),λc H2 G=>?_]
 .rw[S1.ln];change[_,_,V.int (8*((dh ss nm k).9:Nat))]=[_,_,V.int ((8*(dh ss nm k).9:Nat):Int)];rw[show(8*(((dh ss nm k).9:Nat):Int))=((8*(dh ss nm k).9:Nat):Int)by lia]
 let Y:=L.same O (I.trans G);let#[dz,hz]:=Y.ob;show#[10,hz,U.cl,U.nN,cp kf,0,13,d,N,n,nd,Z,ac,dh ss nm k,rfl,Y.A,hn,G _ _ e1,S1.same G,ap,dZ bK ay,fits c,λH3 m3 A3 st=>kQ c H3 m3 (Y.step O A3 st) (b7.pre (I.trans G) st)]
def Wh:aA "self parent name".1 "self parent name".1 (ao UI):=L2.bo
theorem yb(F:bV K "drop_name" "Files.drop_name" UI f fd)(I:fI K CF)(O:M.Ok P w K mg base)(ad:-Df 1 "slots_without" HZ)(ap:-Df 8 "slots_of" (rH M))(am:-Df 8 "put_slots" (xK M)):-aO 9 f fd "self parent name".1 (Im M CF):=by
 show F.dZ Wh ?_;intros;let#[z,m,ah,d,N,h,n,nd,ss,nm,rfl,G,hn,U,ab,L,kQ]:=h;let#[dy,Z]:=G.ob;show#[_,%[0,hr,l,d,am,U,z,aj,ad,b,d,ap,U,e,g|9],?_];show#[6,Z,36,0,6,Z,36,13,d,N,n,nd,ss,rfl,G.A,hn,U,ab,L,λH1 q1 ac s1 f1 e1 S1=>?_];show#[0,q1,ac,ss,nm,rfl,e1,S1,ak,λH2 q2 ar Y f2 e2 S2=>?_];let A2:=G.same O (s1.trans Y);show#[z.na,17,n,nd,q2,ar,dS ss nm,rfl,A2.A,hn,e2,S2,ab<*iA,Nn L,?_,λH3 m3 A3 st=>kQ H3 m3 (A2.step O A3 st) (b7.pre (s1.trans Y) st)];have:=(O.ok G.A).fit;rw[iA,U,dH L];lia
def W9:aA "self node cells".1 "self node cells".1 (ao VE):=L2.bo
theorem wj(F:bV K "put_whole" "Files.put_whole" VE f fd)(T:l9 K mg X)(I:fI K CF)(O:M.Ok P w K mg base)(ac:!Md 9 CF "refuse_no_space" (IZ M CF X)):!aO 10 f fd "self node cells".1 (IT M CF X):=by
 show F.dQ W9 ?_;intros;let#[z,m,ah,N,h,n,nd,l,cs,rfl,U,hn,hl,no,l3,kE,kQ,kF]:=h;let#[dy,hy]:=U.ob;show#[_,%[0,hr,bj,0,I.cl,ac,z,a,t,g,Q,M,aJ,O.Jm,z,g,av,cm,j|9],?_]
 show#[74,0,92,23,n,nd,cs.9,by rw[si];rfl,U,hn,kE,λc H2 G=>?_];let A2:=U.same O G;let#[dx,kX,Y,ht,hm]:=O.ob A2.A;show#[6,G _ _ hy,114,Y,hm _ ax,0,13,(0),N,n,nd,l,cs,rfl,A2.A,hn,G _ _ hl,no,l3,fits c,λH3 m3 Z st=>?_];let A4:=A2.step O Z st;let#[dz,hz]:=A4.ob;let#[dx,kX,Y,ht,hm]:=O.ob Z;have:=oP nd.cs cs (nb cs.9);have:=tL l3;show#[10,hz,114,Y,hm _ ax,z.na,m3,ah,_,0,Z,ak,λL m4 A5 ab=>kQ c L m4 (A4.fin O A5 ab) (b7.pre G (b7.tr st ab)),λL fl=>kF c L #[2,cH.of (b7.pre G st),fl]]
def VC:aA "self node".1 "self node".1 (ao WC):=L2.bo
theorem yt(F:bV K "end_left" "Files.end_left" WC f fd)(I:fI K CF)(O:M.Ok P w K mg base):-aO 8 f fd "self node".1 (Kz M CF):=by
 show F.dZ VC ?_;intros;let#[z,m,ah,d,N,h,n,nd,rfl,Y,hn,Z]:=h;let#[dy,hy]:=Y.ob;let#[dx,kX,ho,ht,hm]:=O.ob Y.A;show#[_,%[0,hr,h,an,bT,ds,w,c3,e,r,dt,cY,dn,K,1,j,l,aJ,O.end_,e|9],?_];show#[6,hy,I.cl,I.nN,8,52,Y.A,hn,λH1 U=>#[11]];let L:=Y.same O U;let ab:¬ (nd.ln=0/\look h n=none)->∀H2,aG H1 H2->Q .bu H2:=λc H2 s2=>by
  rw[vr c]at Z;let G:=L.same O s2;show Z H2 m #[G.ob,G.hh,G.nd,O.le G.A (uO d),G.s1,G.s2,G.hk] (b7.sm (U.trans s2))
 show fH (λc=>?_) (λc=>?_)
 .let c1:nd.ln=0:=V.int.inj (cL c);let g:=gj.k (k:=Xt n) L.hh;rw[cJ]at g;show#[0,15,U _ _ hy,I.cl,I.nH,kK,z.hd,0,g,0,?_];cases c2:look h n with
  |some x=>show cO (ab (λq=>by rw[c2]at q;cases q.2) H1 (aG.refl H1))
  |none =>
   rw[C' #[c1,c2]]at Z;let#[dx,kX,ho,ht,hm]:=O.ob L.A;show de #[6,U _ _ hy,I.cl,I.nN,8,52,L.A,hn,λH3 m3 A3 st=>Z H3 m3 (L.step O A3 st) (b7.pre U st)]
 .show ab (λq=>c (Ja (by rw[q.1]))) H1 (aG.refl H1)
variable{p:Str}
theorem iT(I:bS p)(e:tu p=.ok ns):ns.9<=30000/\∀x∈ns,okN x:=by
 unfold tu at e;cases c:p=SL
 .rw[C' c]at e;cases e;show#[Zy _,143]
 rw[vr c]at e;cases G:Txt.startswith p SL
 .rw[C' G]at e;cases F:(Txt.split (fJ p) SL).all fU=true
  .rw[C' F]at e;cases e;show#[?_,λx hx=>C7 (Z0.mp F x hx)];let L:(fJ p).9<=p.9:=Txt.slice_le p _ _;have:=I.len;unfold Txt.split;split
   .change 1<=30000;decide
   .split
    .change 1<=30000;decide
    .have:=tU (fJ p) SL;lia
  .rw[vr F]at e;cases e
 .rw[vr G]at e;cases e
def okN.len{x:Str}(h:okN x):x.9<=20000:=Oi h.hi az
def Pf(N:NS)(n:Int):Nat:=match N n with
 |some nd=>nd.cs.9
 |none=>0
noncomputable def putN(N:NS)(n:Int)(cs:N4):NS:=cA N n ((N n).map λnd=>{ nd with cs:=cs })
def nG(h:N n^nd):Pf N n=nd.cs.9:=by unfold Pf;rw[h]
def dt(h:N n^nd):putN N n cs=cA N n (some { nd with cs:=cs }):=by unfold putN;rw[h];rfl
variable{x:Option Node}
def fb(h:¬ k=n):cA N n x k=N k:=vr h
def lZ:cA N n x n=x:=C' rfl
noncomputable def rP(N:NS)(S:SS)(p:Str):Except Er Int:=match tu p with
 |.error e=>.error e
 |.ok ns=>match fY N S ns with
  |.error e=>.error e
  |.ok w=>.ok (lst w)
inductive NN(M:b7)(CF:ZX)(X:Er->ZX)(v:vl)(H:Hp)(Q:VK)(e3:XK):Prop
 |mk(z:FA)(m:M.St)(ah d:Nat)(N:NS)(S:SS)(h:HT)(p:Str)(_:v=[.ref z.a,.str p])(_:cI M CF H z m ah N h d)(_:Fz N S)(_:bS p)(_:∀e,rP N S p=.error e->∀J,aG H J->e3 (.ref (X e)) none J)(_:∀k,rP N S p=.ok k->∀J,aG H J->Q (.int k) J)
variable{v:N4}
def Way.ne(W:Way N S ns v):v≠[]:=λz=>by have:=W.ln;rw[z]at this;simp at this
def Way.last(W:Way N S ns v):∃nd,N (lst v)^nd:=by
 show W.rg _ ?_;obtain⟨b,k,e⟩:∃b k,v=b++[k]:=#[2,(YG W.ne).6];rw[e,lst_snoc];show DO _ (z4.mpr rfl)
noncomputable def lC(ah:Nat)(N:NS)(S:SS)(p:Str)(kd:Bool):Except Er (Int×NS×SS):=match tu p with
 |.error e=>.error e
 |.ok ns=>match pM N S ns with
  |.error e=>.error e
  |.ok w=>if 40<=(eZ (S (lst w))).9 then .error .tooMany else match AR N 24 with
   | []=>.error .noNode
   |u::_=>if iY ah N (Pf N (lst w)) (8*(dh (S (lst w)) (cF ns) u).9)then .error .noSpace else .ok (u,cA (putN N (lst w) (bt (dh (S (lst w)) (cF ns) u))) u (some #[135]),kW S (lst w) (dh (S (lst w)) (cF ns) u))
def oG(Z:Fz N S)(h:pM N S ns=.ok v):Way N S ns.dropLast v/\bL N (lst v)/\cF ns∉eZ (S (lst v))/\ns≠[]:=by
 unfold pM at h;cases c:ns=[]
 .rw[C' c]at h;cases h
 rw[vr c]at h;cases e:fY N S ns.dropLast with
 |error r=>rwa[e]at h
 |ok w =>
  rw[e]at h;dsimp only at h;cases F:bL N (lst w)
  .rw[C' F]at h;cases G:cF ns∈eZ (S (lst w))
   .rw[C' G]at h;cases h
   .rw[vr G]at h;cases h;show#[Z.way e,F,G,c]
  .rw[vr F]at h;cases h
variable{m:Nat}{u:Int}
def Ar(h:AR N m=u::r):N u=none/\0<=u/\u<m:=by
 have:u∈AR N m:=(Yn<*h);unfold AR at this;let#[h1,h2]:=YN.mp this;let#[i,hi,rfl]:=Yj.mp h1;have:=Iq.mp hi;show#[Option.isNone_iff_eq_none.mp h2,ak,ak]
def iG(h:ns≠[]):cF ns∈ns/\lJ (ns.map V.str) (-1)^.str (cF ns):=by
 obtain⟨b,k,e⟩:∃b k,ns=b++[k]:=#[2,(YG h).6];rw[e,qX,DD];show#[77,qH _ _]
inductive JN(M:b7)(CF:ZX)(X:Er->ZX)(v:vl)(H:Hp)(Q:VK)(e3:XK):Prop
 |mk(z:FA)(m:M.St)(ah:Nat)(N:NS)(S:SS)(h:HT)(p:Str)(kd:Bool)(_:v=[.ref z.a,.str p,.str (pF kd)])(_:cI M CF H z m ah N h 0)(_:Fz N S)(_:bS p)(_:∀e,lC ah N S p kd=.error e->∀J,aG H J->e3 (.ref (X e)) none J)(_:∀u N' S',lC ah N S p kd=.ok (u,N',S')->(∀(J:Hp)(m':M.St),cI M.uW CF J z m' ah N' h 0->M.Step m H m' J->Q (.int u) J)/\∀J,jT M z m H ah N' J->e3 (.ref M.X0) none J)
inductive Du(kd:Bool)(M:b7)(CF:ZX)(X:Er->ZX)(v:vl)(H:Hp)(Q:VK)(e3:XK):Prop
 |mk(z:FA)(m:M.St)(ah:Nat)(N:NS)(S:SS)(h:HT)(p:Str)(_:v=[.ref z.a,.str p])(_:cI M CF H z m ah N h 0)(_:Fz N S)(_:bS p)(_:∀e,lC ah N S p kd=.error e->∀J,aG H J->e3 (.ref (X e)) none J)(_:∀u N' S',lC ah N S p kd=.ok (u,N',S')->(∀(J:Hp)(m':M.St),cI M.uW CF J z m' ah N' h 0->M.Step m H m' J->Q (.int u) J)/\∀J,jT M z m H ah N' J->e3 (.ref M.X0) none J)
abbrev WK:Yv:=zj (top 66) 1
abbrev UX:Yv:=zj (top 66) 16
abbrev V5:Yv:=zj (top 66) 2
abbrev Uc:Yv:=zj (top 66) 3
def TV:aA "self path".1 "self path".1 (ao WK):=L2.bo
theorem Jl(F:bV K "find" "Files.find" WK f fd)(TF:fI K CF)(O:M.Ok P w K mg base)(ac:!Df 2 "names_of" (vW X))(ab:!Df 9 "way_along" (wB M X)):!aO 10 f fd "self path".1 (NN M CF X):=by
 show F.dQ TV ?_;intros;let#[z,m,ah,d,N,S,h,p,rfl,Y,Z,hp,kE,kQ]:=h;let#[dy,hy]:=Y.ob;show#[_,%[0,0,bk,c4,cv,Vx,ab,hr,dU,Hx,j,bn,DC,dv,ac,e,H|9],?_];show#[6,hy,93,cp kf,90,λe U H1 G=>kE e (by unfold rP;rw[U]) H1 G,λns L H1 l1 G f1 e1=>?_];let#[b1,b2]:=iT hp L;show#[z.na,17,79,(Y.same O G).A,Z,e1,127,λe U H2 I=>kE e (by unfold rP;rw[L];dsimp only;rw[U]) H2 (G.trans I),λv hv H2 q2 I f2 e2=>?_];let W:=Z.way hv;show#[109,fQ W.ne,kQ _ (by unfold rP;rw[L];dsimp only;rw[hv]) H2 (G.trans I)]
def Ed:aA "self path kind names parent slots unused".1 "self path kind".1 (ao UX):=L2.bo
theorem wH(F:bV K "make_node" "Files.make_node" UX f fd)(T:l9 K mg X)(L:fI K CF)(O:M.Ok P w K mg base)(a3:!Df 2 "names_of" (vW X))(a0:!Df 10 "way_to_new" (Dt M X))(bb:-Df 8 "slots_of" (rH M))(a5:!Df 2 "refuse_full" (Fc X))(a6:-Df 8 "free_nodes" (Ik M))(a4:!Md 10 CF "put_name" (EZ M CF X)):!aO 11 f fd "self path kind".1 (JN M CF X):=by
 show F.dQ Ed ?_;intros;let#[z,m,ah,N,S,h,p,kd,rfl,A0,Z,hp,G,I]:=h;let#[dy,hy]:=A0.ob;unfold lC at G I;show#[_,%[Ed,hr,au,3,m,a3,e,au,4,c4,m,a0,U,H',H,G,5,d,bb,U,az,A,m,a5,a,5,G,6,d,a6,a,j,aI,t,a,6,r,ao,cP,aq,cP,ak,bj,bO,a4,b,4,b,5,b,p,3,H,a,af,6,Q,M,aJ,O.begin,b,af,6,g,A,cm,j,al,c,af,6|9],?_]
 show#[90,λe he H1 s1=>by rw[he]at G;show G e rfl H1 s1,λns aK H1 l1 s1 f1 e1=>?_];rw[aK]at G I;dsimp only at G I;let#[b1,b2]:=iT hp aK;let A1:=A0.same O s1;show#[6,s1 _ _ hy,14,79,A1.A,Z,e1,127,λe he H2 s2=>by rw[he]at G;show G e rfl H2 (s1.trans s2),λv hv H2 q2 s2 f2 e2=>?_];rw[hv]at G I;dsimp only at G I;let#[W,hd,bd,a7]:=oG Z hv;let#[nd,Y,aT]:=bM hd;let#[ay,bc]:=iG a7;let ar:=s1.trans s2;let A2:=A0.same O ar;show#[109,fQ W.ne,?_];show#[6,ar _ _ hy,14,lst v,nd,50,A2.A,Y,Z.enc _ _ Y aT,27,λH3 q3 ws s3 f3 e3 S3=>?_];let aN:=ar.trans s3;show#[0,q3,ws,50,e3,S3,73,λc H4 s4=>by rw[C' c]at G;show G _ rfl H4 (aN.trans s4),λc H4 s4=>?_];rw[vr ak]at G I;let ap:=aN.trans s4;let A4:=A0.same O ap;show#[6,ap _ _ hy,101,cp kf,z.na,m,ah,(0),N,rfl,A4.A,λH5 U s5 f5 e5=>?_];let ab:=ap.trans s5;let A5:=A0.same O ab;show#[0,U,0,.inl (bh.of e5),11];rw[si];cases hf:AR N 24 with
 |nil =>
  rw[hf]at G;show de #[az,G _ rfl H5 ab]
 |cons u r =>
  rw[hf]at G I e5;dsimp only at G I;let#[hu,u0,u1]:=Ar hf;let un:¬ u=lst v:=λq=>(hu*>[q,Y]);let aY:¬ V.int ((u::r).9:Nat)=V.int 0:=λq=>(by have:=V.int.inj q;rw[YU]at this;lia);rw[ck aY];show cO ?_;rw[nG Y,dt Y]at I;rw[nG Y]at G;let nq:¬ M.own m U:=λq=>O.live A4.A q f5;show#[87,0,137,bh.of ((s2.trans (s3.trans (s4.trans s5))) _ _ e1),bc,102,bh.of e5,118,23,lst v,nd,q3,ws,S (lst v),cF ns,u,rfl,A5,Y,(s4.trans s5) _ _ e3,S3.same (s4.trans s5),Z.len _,c,Z.ok _,b2 _ ay,λc2 H6 s6=>by rw[C' c2]at G;show G _ rfl H6 (ab.trans s6),λc2 H6 m6 A6 ad=>?_];rw[vr (by rw[c2];nofun)]at I;let#[dz,hz]:=A6.ob;let#[dx,kX,ho,ht,hm]:=O.ob A6.A;let e6:=ad.1 _ _ e5 nq;show#[34,102,bh.of e6,118,0,z.na,m6,ah,2,u,kd,rfl,A6.A,hu<*fb un,u0,ak,λH7 m7 A7 ac=>?_];let as:=A6.step O A7 ac;let#[dz,hz]:=as.ob;let#[dx,kX,ho,ht,hm]:=O.ob A7;let d1:=oP nd.cs (bt (dh (S (lst v)) (cF ns) u)) (nb (bt (dh (S (lst v)) (cF ns) u)).9);let d2:nb (bt (dh (S (lst v)) (cF ns) u)).9<=20:=tL (by
   have:=kD (nm:=cF ns) (k:=u) c (Z.len (lst v));rw[dH (dZ (Z.ok _) (b2 _ ay))];lia)
  let aB:¬ M.own m6 U:=λq=>by
   obtain q|q:=ad.2 _ q
   .show nq q
   .rw[q]at e5;cases e5
  let e7:=ac.1 _ _ e6 aB;show#[34,z.na,m7,ah,_,0,A7,ak,λH8 m8 A8 am=>?_,λH8 fl=>(I u _ _ rfl).2 H8 #[2,cH.of (b7.pre ab (b7.tr ad ac)),fl]];let aX:¬ M.own m7 U:=λq=>by
   obtain q|q:=ac.2 _ q
   .show aB q
   .rw[q]at e6;cases e6
  show#[102,bh.of (am.1 _ _ e7 aX),118,(I u _ _ rfl).1 H8 m8 (as.fin O A8 am) (b7.pre ab (b7.tr ad (b7.tr ac am)))]
def Ww:aA "self path".1 "self path".1 (ao V5):=L2.bo
theorem Ke(F:bV K "make" "Files.make" V5 f fd)(TF:fI K CF)(Y:!Md 11 CF "make_node" (JN M CF X)):!aO 12 f fd "self path".1 (Du false M CF X):=by
 show F.dQ Ww ?_;intros;let#[z,m,ah,N,S,h,p,rfl,G,Z,I,U,L]:=h;let#[dy,hy]:=G.ob;show#[_,%[0,0,bk,aL,Y,z,ak|9],?_];show#[74,37,S,h,p,false,rfl,G,Z,I,U,L]
def U7:aA "self path".1 "self path".1 (ao Uc):=L2.bo
theorem zr(F:bV K "make_dir" "Files.make_dir" Uc f fd)(TF:fI K CF)(Y:!Md 11 CF "make_node" (JN M CF X)):!aO 12 f fd "self path".1 (Du true M CF X):=by
 show F.dQ U7 ?_;intros;let#[z,m,ah,N,S,h,p,rfl,G,Z,I,U,L]:=h;let#[dy,hy]:=G.ob;show#[_,%[0,0,bk,aL,Y,z,ak|9],?_];show#[74,37,S,h,p,true,rfl,G,Z,I,U,L]
noncomputable def yp(N:NS)(S:SS)(p:Str):Except Er (List Str):=match rP N S p with
 |.error e=>.error e
 |.ok k=>if bL N k then .ok (uZ (eZ (S k)))else .error .notDir
inductive LD(M:b7)(CF:ZX)(X:Er->ZX)(v:vl)(H:Hp)(Q:VK)(e3:XK):Prop
 |mk(z:FA)(m:M.St)(ah d:Nat)(N:NS)(S:SS)(h:HT)(p:Str)(_:v=[.ref z.a,.str p])(_:cI M CF H z m ah N h d)(_:Fz N S)(_:bS p)(_:∀e,yp N S p=.error e->∀J,aG H J->e3 (.ref (X e)) none J)(_:∀ns,yp N S p=.ok ns->∀(J:Hp)(q:ZX),aG H J->H q=none->J q%(ns.map V.str)->Q (.ref q) J)
inductive BU(M:b7)(CF:ZX)(v:vl)(H:Hp)(Q:VK)(e:XK):Prop
 |mk(z:FA)(m:M.St)(ah d:Nat)(N:NS)(h:HT)(_:v=[.ref z.a])(_:cI M CF H z m ah N h d)(_:∀(J:Hp)(q:ZX),aG H J->H q=none->J q|||[.int ((AR N 24).9:Nat),.int ((ah:Int)-(us N 24:Nat))]->Q (.ref q) J)
def Pk(nd:Node):Int:=if nd.dir then(nd.cs.9:Int)/8 else(nd.cs.9:Int)
inductive Ml(M:b7)(CF:ZX)(X:Er->ZX)(v:vl)(H:Hp)(Q:VK)(e:XK):Prop
 |mk(z:FA)(m:M.St)(ah d:Nat)(N:NS)(h:HT)(n:Int)(_:v=[.ref z.a,.int n])(_:cI M CF H z m ah N h d)(_:n.12<=1000000)(_:N n=none->∀J,aG H J->e (.ref (X .noNode)) none J)(_:∀nd,N n^nd->∀(J:Hp)(q:ZX),aG H J->H q=none->J q|||[.str (pF nd.dir),.int nd.ln,.int (Pk nd)]->Q (.ref q) J)
def cells(N:NS)(n:Int):List Int:=match N n with
 |some nd=>nd.cs
 |none=>[]
def mM(h:N n^nd):cells N n=nd.cs:=by unfold cells;rw[h]
abbrev GZ(n:Int):=0<=n/\n<=320
noncomputable def xY(N:NS)(n F G:Int):Except Er N4:=match yg N n with
 |some e=>.error e
 |none=>if GZ F then(if GZ G then .ok (((cells N n).drop F.5).take G.5)else .error .tooBig)else .error .tooBig
inductive KR(M:b7)(CF:ZX)(X:Er->ZX)(v:vl)(H:Hp)(Q:VK)(e3:XK):Prop
 |mk(z:FA)(m:M.St)(ah d:Nat)(N:NS)(h:HT)(n a b:Int)(_:v=[.ref z.a,.int n,.int a,.int b])(_:cI M CF H z m ah N h d)(_:n.12<=1000000/\a.12<=1000000/\b.12<=1000000)(_:∀e,xY N n a b=.error e->∀J,aG H J->e3 (.ref (X e)) none J)(_:∀cs,xY N n a b=.ok cs->∀(J:Hp)(q:ZX),aG H J->H q=none->J q%cs.17->Q (.ref q) J)
noncomputable def oM(ah:Nat)(N:NS)(n:Int)(cs:N4):Except Er NS:=if iY ah N (Pf N n) cs.9 then .error .noSpace else .ok (putN N n cs)
noncomputable def CW(ah:Nat)(N:NS)(n size:Int):Except Er NS:=match yg N n with
 |some e=>.error e
 |none=>if GZ size then oM ah N n ((JG (cells N n) size.5).take size.5)else .error .tooBig
inductive Oe(M:b7)(CF:ZX)(X:Er->ZX)(v:vl)(H:Hp)(Q:VK)(e3:XK):Prop
 |mk(z:FA)(m:M.St)(ah:Nat)(N:NS)(h:HT)(n a:Int)(_:v=[.ref z.a,.int n,.int a])(_:cI M CF H z m ah N h 0)(_:n.12<=1000000/\a.12<=1000000)(_:∀e,CW ah N n a=.error e->∀J,aG H J->e3 (.ref (X e)) none J)(_:∀N',CW ah N n a=.ok N'->(∀(J:Hp)(m':M.St),cI M.uW CF J z m' ah N' h 0->M.Step m H m' J->Q .bu J)/\∀J,jT M z m H ah N' J->e3 (.ref M.X0) none J)
def SD(old:N4)(a:Nat)(cs:N4):List Int:=(JG old a).take a++cs++(JG old a).drop (a+cs.9)
noncomputable def nV(ah:Nat)(N:NS)(n a:Int)(cs:N4):Except Er NS:=match yg N n with
 |some e=>.error e
 |none=>if GZ a then(if GZ (a+cs.9)then(if cs.9=0 then .ok N else oM ah N n (SD (cells N n) a.5 cs))else .error .tooBig)else .error .tooBig
inductive Pa(M:b7)(CF:ZX)(X:Er->ZX)(v:vl)(H:Hp)(Q:VK)(e3:XK):Prop
 |mk(z:FA)(m:M.St)(ah:Nat)(N:NS)(h:HT)(n a:Int)(l:ZX)(cs:N4)(_:v=[.ref z.a,.int n,.int a,.ref l])(_:cI M CF H z m ah N h 0)(_:n.12<=1000000/\a.12<=1000000/\cs.9<=1000)(_:H l%cs.17)(_:¬ M.own m l)(_:∀e,nV ah N n a cs=.error e->∀J,aG H J->e3 (.ref (X e)) none J)(_:∀N',nV ah N n a cs=.ok N'->(∀(J:Hp)(m':M.St),cI M.uW CF J z m' ah N' h 0->M.Step m H m' J->Q (.int (cs.9:Nat)) J)/\∀J,jT M z m H ah N' J->e3 (.ref M.X0) none J)
def lR(h:yg N n=none):∃nd,N n^nd/\nd.dir=false:=by
 unfold yg at h;cases e:N n with
 |none=>rwa[e]at h
 |some nd =>
  rw[e]at h;show#[nd,3];cases c:nd.dir with
  |false=>rfl
  |true=>dsimp only at h;rwa[c,C' rfl]at h
theorem JF{xs:N4}(h1:xs.9<=320)(h2:m<=320):(JG xs m).9<=320:=by
 unfold JG;rw[tp,Zg];lia
def Bg{old:N4}{a:Nat}(h1:old.9<=320)(h2:a+cs.9<=320):(SD old a cs).9<=320:=by
 unfold SD;rw[tp,tp,Nx,YB];show Xj h2 (JF h1 (Z5 h2))
abbrev MA:Yv:=zj (top 66) 8
abbrev Ut:Yv:=zj (top 66) 15
abbrev Vp:Yv:=zj (top 66) 9
abbrev Vf:Yv:=zj (top 66) 10
abbrev Uk:Yv:=zj (top 66) 12
abbrev Vh:Yv:=zj (top 66) 11
def QL:aA "self path node".1 "self path".1 (ao MA):=L2.bo
theorem E1(F:bV K "names" "Files.names" MA f fd)(L:fI K CF)(O:M.Ok P w K mg base)(ay:!Md 10 CF "find" (NN M CF X))(ap:!Df 8 "refuse_no_dir" (Cw M X))(am:-Df 1 "names_in" CQ)(as:-Df 8 "slots_of" (rH M)):!aO 11 f fd "self path".1 (LD M CF X):=by
 show F.dQ QL ?_;intros;let#[z,m,ah,d,N,S,h,p,rfl,Y,Z,hp,G,U]:=h;let#[dy,hy]:=Y.ob;unfold yp at G U;show#[_,%[QL,hr,au,2,dw,bO,ay,e,A,m,ap,U,g,al,c,d,am,aj,as,U,g|9],?_]
 show#[74,z,17,S,h,p,rfl,Y,Z,hp,λe he H1 I=>by rw[he]at G;show G e rfl H1 I,λk hk H1 I=>?_];rw[hk]at G U;dsimp only at G U;let A1:=Y.same O I;let rk:∃nd,N k^nd:=by
  unfold rP at hk;cases e1:tu p with
  |error r=>rwa[e1]at hk
  |ok ns =>
   rw[e1]at hk;dsimp only at hk;cases e2:fY N S ns with
   |error r=>rwa[e2]at hk
   |ok v=>rwa[e2]at hk;show(Z.way e2).last
 let#[aB,ar]:=rk;let rg:=Z.so _ _ ar;show#[6,I _ _ hy,101,cp kf,13,d,N,k,rfl,A1.A,ak,λc H2 s2=>by rw[vr (by rw[c];nofun)]at G;show G _ rfl H2 (I.trans s2),λc H2 s2=>?_];rw[C' c]at U;let#[nd,ac,ad]:=bM c;let ab:=I.trans s2;show#[6,ab _ _ hy,101,cp kf,13,d,N,k,nd,S k,rfl,(Y.same O ab).A,ac,Z.enc _ _ ac ad,27,λH3 q3 ws s3 f3 e3 S3=>?_];show#[q3,ws,S k,rfl,e3,S3,73,λH4 q4 s4 f4 e4=>U _ rfl H4 q4 (ab.trans (s3.trans s4)) (aR (ab.trans s3) f4) e4]
def VP:aA ["self"] ["self"] (ao Ut):=L2.bo
theorem Jx(F:bV K "free" "Files.free" Ut f fd)(T:l9 K mg X)(I:fI K CF)(O:M.Ok P w K mg base)(ab:-Df 8 "free_nodes" (Ik M))(ac:-Df 8 "free_blocks" (KS M)):-aO 9 f fd ["self"] (BU M CF):=by
 show F.dZ VP ?_;intros;let#[z,m,ah,d,N,h,rfl,L,kQ]:=h;let#[dy,Y]:=L.ob;show#[_,%[0,hr,c,aA,b,t,aj,ab,a,j,aj,ac,a,j|9],?_];show#[6,Y,36,z.na,17,rfl,L.A,λH1 q1 G f1 e1=>#[q1,108,?_]];show#[6,G _ _ Y,36,z.na,17,rfl,(L.same O G).A,λH2 U=>#[eW,λq3 Z=>?_]];show kQ _ q3 ((G.trans U).trans (aj Z)) (aR (G.trans U) Z) ?_;rw[ag,si]
def Mw:aA "self node kind size".1 "self node".1 (ao Vp):=L2.bo
theorem KG(F:bV K "stat" "Files.stat" Vp f fd)(T:l9 K mg X)(I:fI K CF)(O:M.Ok P w K mg base)(am:!Md 8 CF "refuse_no_node" (DF M CF X)):!aO 9 f fd "self node".1 (Ml M CF X):=by
 show F.dQ Mw ?_;intros;let#[z,m,ah,d,N,h,n,rfl,U,hn,kE,kQ]:=h;let#[dy,Z]:=U.ob;show#[_,%[Mw,hr,bj,0,I.cl,am,e,al,aH,aJ,df,e,ba,aJ,O.3,e,c,aA,b,2,b,c3,e,a,cf,w,2,O,bZ,3,v,T.rZ,3|9],?_]
 show#[12,Z,9,113,U,hn,kE,λnd Y H1 s1=>?_];let A1:=(U.same O s1).A;let#[dx,kX,ho,ht,hm]:=O.ob A1;show#[6,s1 _ _ Z,I.cl,I.nN,8,13,d,N,n,rfl,A1,λH2 s2=>?_];let ac:=s1.trans s2;show#[6,ac _ _ Z,114,s2 _ _ ho,hm _ ax,52,(U.same O ac).A,Y,λH3 s3=>?_];let ab:=ac.trans s3;let kv:LO (N n)=.str (pF nd.dir):=(by rw[Y];rfl);show#[0,6,ab _ _ Z,114,(s2.trans s3) _ _ ho,hm _ ax,52,(U.same O ab).A,Y,λH4 s4=>?_];let ad:=ab.trans s4;show#[0,by rw[kv];rfl,0,?_];let eD:decide (LO (N n)=.str "dir")=nd.dir:=(by rw[mj,dU Y]);rw[eD];let go:∀k:Int,Pk nd=k->∀G,H4 G=none->Q (.ref G) (QZ H4 G (.tup [LO (N n),.int nd.ln,.int k])):=λk e G L=>by
  show kQ nd Y _ G (ad.trans (aj L)) (aR ad L) ?_;rw[ag,kv,e]
 unfold Pk at go;cases c:nd.dir with
 |true =>
  rw[c]at go;show de #[0,7,#[az,az],eW,λG L=>go _ (C' rfl) G L]
 |false =>
  rw[c]at go;show cO #[0,eW,λG L=>go _ (vr (by nofun)) G L]
def Vi:aA "self node at many".1 "self node at many".1 (ao Vf):=L2.bo
theorem Cg(F:bV K "read_at" "Files.read_at" Vf f fd)(TF:fI K CF)(O:M.Ok P w K mg base)(am:!Md 9 CF "refuse_no_file" (tf M CF X))(ab:!Df 1 "refuse_no_place" (Ft X)):!aO 10 f fd "self node at many".1 (KR M CF X):=by
 show F.dQ Vi ?_;intros;let#[z,m,ah,d,N,h,n,a,b,rfl,Y,hn,G,L]:=h;let#[dy,hy]:=Y.ob;unfold xY at G L;show#[_,%[0,hr,bj,cD,am,e,A,m,ab,g,A,m,ab,H',al,c,C,aJ,c2,ag,2,ag,k,2,3|9],?_]
 show#[74,113,Y,hn.1,λe he H1 I=>by rw[he]at G;show G e rfl H1 I,λhf H1 I=>?_];rw[hf]at G L;dsimp only at G L;show#[0,a,rfl,hn.2.1,λc=>by rw[vr c]at G;show G _ rfl H1 I,λc=>?_];rw[C' c]at G L;show#[0,b,rfl,hn.2.2,λZ=>by rw[vr Z]at G;show G _ rfl H1 I,λZ=>?_];rw[C' Z]at L;let#[nd,ac,ap]:=lR hf;rw[mM ac]at L;let A1:=(Y.same O I).A;let#[dx,kX,ho,ht,hm]:=O.ob A1;show#[6,I _ _ hy,93,8,52,A1,ac,λH2 q2 s2 f2 U=>?_];show#[0,0,0,0,7,0,q2,0,bh.of U,λq3 f3=>?_];let ad:=I.trans s2;show L _ rfl _ q3 (ad.trans (aj f3)) (aR ad f3) ?_;rw[ag];let e1:a=(a.5:Int):=ak;let U:b=(b.5:Int):=ak;have:=qh (ws:=nd.cs) (s:=a.5) (n:=b.5);rw[<-e1, <-U]at this;rw[this]
def VO:aA "self node size".1 "self node size".1 (ao Uk):=L2.bo
theorem OW(F:bV K "cut" "Files.cut" Uk f fd)(TF:fI K CF)(O:M.Ok P w K mg base)(ap:!Md 9 CF "refuse_no_file" (tf M CF X))(ac:!Df 1 "refuse_no_place" (Ft X))(am:-Df 1 "lengthened" lI)(ad:!Md 10 CF "put_whole" (IT M CF X)):!aO 11 f fd "self node size".1 (Oe M CF X):=by
 show F.dQ VO ?_;intros;let#[z,m,ah,N,h,n,a,rfl,U,hn,G,I]:=h;let#[dy,hy]:=U.ob;unfold CW at G I;show#[_,%[0,hr,bj,cD,ap,e,A,m,ac,g,av,dw,cD,ad,z,a,C,d,am,b,aJ,c2,g,a9,2|9],?_]
 show#[74,23,n,rfl,U,hn.1,λe he H1 L=>by rw[he]at G;show G e rfl H1 L,λhf H1 L=>?_];rw[hf]at G I;dsimp only at G I;show#[0,a,rfl,hn.2,λc=>by rw[vr c]at G;show G _ rfl H1 L,λc=>?_];let#[nd,Y,ar]:=lR hf;let l3:=(O.ok U.A).xI _ _ Y;unfold oM at G I;rw[C' c,mM Y,nG Y]at G I;rw[dt Y]at I;let A1:=U.same O L;let#[dx,kX,ho,ht,hm]:=O.ob A1.A;let e1:a=(a.5:Int):=ak;show#[12,L _ _ hy,9,6,L _ _ hy,93,8,13,(0),N,n,nd,rfl,A1.A,Y,λH2 q2 s2 f2 e2=>?_];show#[0,q2,nd.cs,a.5,by rw[<-e1];rfl,e2,ak,ak,λH3 q3 s3 f3 e3=>?_];show#[0,0,q3,0,40,λq4 f4=>?_];let ec:dJ ((JG nd.cs a.5).map V.int) none (some a)=((JG nd.cs a.5).take a.5).map V.int:=by
  have:=jb (ws:=JG nd.cs a.5) (s:=a.5)
  (rw[<-e1]at this;assumption)
 rw[ec];let ab:=L.trans (s2.trans s3);let s4:=aj (X:=.lst (((JG nd.cs a.5).take a.5).map V.int)) f4;let A4:=U.same O (ab.trans s4);show#[37,h,n,nd,q4,0,A4,Y,ag,λq=>O.live (U.same O ab).A q f4,?_,λc2 Z s5=>by rw[C' c2]at G;show G _ rfl Z ((ab.trans s4).trans s5),λc2 Z m5 A5 st=>?_,λc2 Z fl=>?_]
 .rw[Nx];lia
 .rw[vr (by rw[c2];nofun)]at I;show(I _ rfl).1 Z m5 A5 (b7.pre (ab.trans s4) st)
 .rw[vr (by rw[c2];nofun)]at I;show(I _ rfl).2 Z (fl.pre (ab.trans s4))
noncomputable def qR(N:NS)(h:HT)(n:Int):Except Er HT:=match yg N n with
 |some e=>.error e
 |none=>match look h n with
  |none=>.ok (h++[(n,1)])
  |some v=>.ok (fj h n (v+1))
inductive NG(M:b7)(CF:ZX)(X:Er->ZX)(v:vl)(H:Hp)(Q:VK)(e3:XK):Prop
 |mk(z:FA)(m:M.St)(ah:Nat)(N:NS)(h:HT)(n:Int)(_:v=[.ref z.a,.int n])(_:cI M CF H z m ah N h 0)(_:n.12<=1000000)(_:∀e,qR N h n=.error e->∀J,aG H J->e3 (.ref (X e)) none J)(_:∀h',qR N h n=.ok h'->∀(J:Hp),cI M CF J z m ah N h' 0->cH M z m H m J->Q .bu J)
def Dv(h:HT)(n v:Int):HT:=if v-1=0 then jA (fj h n (v-1)) n else fj h n (v-1)
noncomputable def ir(N:NS)(h:HT)(n:Int):Except Er (NS×HT):=match N n with
 |none=>.error .noNode
 |some nd=>match look h n with
  |none=>.error .notHeld
  |some v=>.ok (if nd.ln=0/\look (Dv h n v) n=none then cA N n none else N,Dv h n v)
inductive Hm(M:b7)(CF:ZX)(X:Er->ZX)(v:vl)(H:Hp)(Q:VK)(e3:XK):Prop
 |mk(z:FA)(m:M.St)(ah:Nat)(N:NS)(h:HT)(n:Int)(_:v=[.ref z.a,.int n])(_:cI M CF H z m ah N h 0)(_:n.12<=1000000)(_:∀e,ir N h n=.error e->∀J,aG H J->e3 (.ref (X e)) none J)(_:∀N' h',ir N h n=.ok (N',h')->(∀(J:Hp)(m':M.St),cI M.uW CF J z m' ah N' h' 0->cH M z m H m' J->Q .bu J)/\∀J,jT M z m H ah N' J->e3 (.ref M.X0) none J)
variable{h:HT}
theorem cI.hlen{z:FA}{m:M.St}(F:cI M CF H z m ah N h d):h.9<=24:=by
 have:=Qu 24 0 (h.map (·.1)) F.nd λx hx=>by
  let#[y,G,rfl]:=Yj.mp hx;have:=F.hk y G;lia
 (rw[si]at this;assumption)
abbrev UP:Yv:=zj (top 66) 13
abbrev UB:Yv:=zj (top 66) 14
def Rp:aA "self node at cells old".1 "self node at cells".1 (ao Vh):=L2.bo
theorem yJ(F:bV K "write_at" "Files.write_at" Vh f fd)(T:l9 K mg X)(TF:fI K CF)(O:M.Ok P w K mg base)(a4:!Md 9 CF "refuse_no_file" (tf M CF X))(ad:!Df 1 "refuse_no_place" (Ft X))(a3:-Df 1 "lengthened" lI)(aN:!Md 10 CF "put_whole" (IT M CF X)):!aO 11 f fd "self node at cells".1 (Pa M CF X):=by
 show F.dQ Rp ?_;intros;let#[z,m,ah,N,h,n,a,l,cs,rfl,U,hn,hl,no,G,I]:=h;let#[dy,hy]:=U.ob;unfold nV at G I;show#[_,%[Rp,hr,bj,cD,a4,e,A,m,ad,g,A,m,ad,a,k,2,t,H',Q,an,w,t,H',r,c,ai,G,4,d,a3,b,aJ,c2,g,bj,cD,aN,z,a,B,B,C,4,a9,2,bI,H',C,4,ag,k,2,t,H',cu,al,c,t,H'|9],?_]
 show#[74,23,n,rfl,U,hn.1,λe he H1 L=>by rw[he]at G;show G e rfl H1 L,λhf H1 L=>?_];rw[hf]at G I;dsimp only at G I;show#[0,a,rfl,hn.2.1,λc=>by rw[vr c]at G;show G _ rfl H1 L,λc=>?_];rw[C' c]at G I;let ap:=L _ _ hl;show#[0,0,l,0,.inl (bh.of ap),7,a+cs.9,by rw[si];rfl,ak,λc2=>by rw[vr c2]at G;show G _ rfl H1 L,λc2=>?_];rw[C' c2]at G I;let A1:=U.same O L;show#[0,l,0,.inl (bh.of ap),11];rw[si];show fH (λc3=>?_) (λc3=>?_)
 .let e0:cs.9=0:=(by have:=V.int.inj (cL c3);lia);rw[C' e0]at I;let q:=(I N rfl).1 H1 m (A1.af O) (b7.sm L);rw[e0]at q;show q
 let n0:¬ cs.9=0:=λq=>c3 (Ja (by rw[q];rfl));rw[vr n0]at G I;let#[nd,Y,a6]:=lR hf;let l3:=(O.ok U.A).xI _ _ Y;unfold oM at G I;rw[mM Y,nG Y]at G I;rw[dt Y]at I;let#[dx,kX,ho,ht,hm]:=O.ob A1.A;let e1:a=(a.5:Int):=(ZT c.1).6;let ac:a.5+cs.9<=320:=Int.ofNat_le.mp (by rw[Int.natCast_add, <-e1];show c2.2);let hb:=Z5 ac;show#[6,L _ _ hy,93,8,13,(0),N,n,nd,rfl,A1.A,Y,λH2 q2 s2 f2 e2=>?_];show#[0,q2,nd.cs,a.5,by rw[<-e1];rfl,e2,Oi hb az,Oi l3 az,λH3 q3 s3 f3 e3=>?_];let ay:=L.trans (s2.trans s3);show#[12,ay _ _ hy,9,0,0,a,rfl,q3,0,40,λq4 f4=>?_];let ec:dJ ((JG nd.cs a.5).map V.int) none (some a)=((JG nd.cs a.5).take a.5).map V.int:=by
  have:=jb (ws:=JG nd.cs a.5) (s:=a.5)
  (rw[<-e1]at this;assumption)
 rw[ec];let#[s4,e4]:=gI (X:=.lst (((JG nd.cs a.5).take a.5).map V.int)) f4;generalize QZ _ _ (.lst (((JG nd.cs a.5).take a.5).map V.int))=H4 at *;let a0:=s4 _ _ e3;let as:=ay.trans s4;show#[0,l,0,.inl (bh.of (as _ _ hl)),λq5 f5=>?_];let#[s5,e5]:=gI (X:=.lst cs.17) f5;generalize QZ _ _ (.lst cs.17)=H5 at *;let aX:=s5 _ _ e4;let a5:=s5 _ _ a0;let aY:=as.trans s5;show#[q4,q5,7,aX,e5,Oi (Ca (Rm ..) _) (Oi ac az)<*[si,si,Nx],λq6 f6=>?_];rw[<-DD];let#[s6,e6]:=gI (X:=.lst (((JG nd.cs a.5).take a.5++cs).map V.int)) f6;generalize QZ _ _ (.lst (((JG nd.cs a.5).take a.5++cs).map V.int))=H6 at *;let aT:=s6 _ _ a5;let am:=aY.trans s6;show#[0,0,0,l,0,.inl (bh.of (am _ _ hl)),7,a+((cs.map V.int).9:Nat),rfl,q3,0,bh.of aT,λq7 f7=>?_];let aB:dJ ((JG nd.cs a.5).map V.int) (some (a+((cs.map V.int).9:Nat))) none=((JG nd.cs a.5).drop (a.5+cs.9)).map V.int:=by
  have:=jn (ws:=JG nd.cs a.5) (s:=a.5+cs.9);rw[show((a.5+cs.9:Nat):Int)=a+((cs.map V.int).9:Nat)by rw[si];lia]at this;show this
 rw[aB];let#[s7,e7]:=gI (X:=.lst (((JG nd.cs a.5).drop (a.5+cs.9)).map V.int)) f7;generalize QZ _ _ (.lst (((JG nd.cs a.5).drop (a.5+cs.9)).map V.int))=H7 at *;let aK:=s7 _ _ e6;let ar:=am.trans s7;show#[q6,q7,7,aK,e7,by rw[si,si, <-tp];show Oi (Bg l3 ac) az,λq8 f8=>?_];rw[<-DD];let s8:=aj (X:=.lst (((JG nd.cs a.5).take a.5++cs++(JG nd.cs a.5).drop (a.5+cs.9)).map V.int)) f8;let ab:=ar.trans s8;show#[37,h,n,nd,q8,SD nd.cs a.5 cs,rfl,U.same O ab,Y,ag,λq=>O.live (U.same O ar).A q f8,Bg l3 ac,λc4 Z s9=>by rw[C' c4]at G;show G _ rfl Z (ab.trans s9),λc4 Z m9 A9 st=>?_,λc4 Z fl=>(by rw[vr (by rw[c4];nofun)]at I;show(I _ rfl).2 Z (fl.pre ab))];rw[vr (by rw[c4];nofun)]at I;show#[0,l,0,.inl (bh.of (st.1 _ _ (ab _ _ hl) no)),?_];rw[si];show(I _ rfl).1 Z m9 A9 (b7.pre ab st)
def UD:aA "self node".1 "self node".1 (ao UP):=L2.bo
theorem IX(F:bV K "hold" "Files.hold" UP f fd)(L:fI K CF)(O:M.Ok P w K mg base)(ad:!Md 9 CF "refuse_no_file" (tf M CF X)):!aO 10 f fd "self node".1 (NG M CF X):=by
 show F.dQ UD ?_;intros;let#[z,m,ah,N,h,n,rfl,G,hn,kE,Z]:=h;let hs:=HC;let#[dy,U]:=G.ob;unfold qR at kE Z;show#[_,%[0,0,A,dW,bO,ad,hr,e,al,h,bs,aG,P,k,S,acT,aG,P,ai,cF,ai|9],?_]
 show#[12,U,9,23,n,rfl,G,hn,λe he H1 I=>by rw[he]at kE;show kE e rfl H1 I,λhf H1 I=>?_];rw[hf]at Z;dsimp only at Z;let#[nd,ac,_]:=lR hf;let#[n0,n1]:=(O.ok G.A).use _ _ ac;let Y:=G.same O I;let hl:=G.hlen;let g:=gj.k (k:=Xt n) Y.hh;rw[cJ]at g;let put:=λk:Int=>jX.k (k:=Xt n) (v:=.int k) Y.hh (by rw[kc];lia);let fin:∀h':HT,((λab=>(match look h n with|none=>Except.ok (h++[(n,1)])|some v=>.ok (fj h n (v+1)):Except Er HT)=.ok ab) h')->(h'.map (·.1)).4->(∀x∈h',0<=x.1/\x.1<24)->Q .bu (QZ H1 z.hd (.dK (dk V.int h'))):=λh' e n1 n2=>by
  let o:Q5 (· = z.hd) H1 (QZ H1 z.hd (.dK (dk V.int h'))):=λb u q nb=>(q<*au nb);show Z h' e _ (Y.held O o ag n1 n2) (cH.hold (λb u q nb=>o b u (I _ _ q) nb) (by rw[ag];nofun) (b7.sm λ_ _ q=>q))
 show#[80,z.hd,rfl,.inl #[_,.inl Y.hh],0,_,g,?_];cases c:look h n with
 |none =>
  rw[c]at fin;show#[7,80,0,z.hd,0,put (0+1),?_];rw[gT c];show fin _ rfl ?_ ?_
  .rw[DD,YJ];show#[G.nd,YZ.mpr #[λq=>(by cases q),mh],λx hx y U q=>?_];rw[z4.mp U]at q;let q':x=n:=q;show kC c (q'▸hx)
  .intro x hx;obtain hx|hx:=Yh.mp hx
   .show G.hk x hx
   .rw[z4.mp hx];show#[n0,n1]
 |some v =>
  rw[c]at fin;show#[7,80,0,z.hd,0,put (v+1),?_];rw[js c];show fin _ rfl ?_ ?_
  .rw[ke];show G.nd
  .intro x hx;obtain q|q:=mem_set hx
   .rw[q];show#[n0,n1]
   .show G.hk x q.1
def Uy:aA "self node".1 "self node".1 (ao UB):=L2.bo
theorem EM(F:bV K "loose" "Files.loose" UB f fd)(T:l9 K mg X)(G:fI K CF)(O:M.Ok P w K mg base)(as:!Md 8 CF "refuse_no_node" (DF M CF X))(ay:-Md 8 CF "end_left" (Kz M CF)):!aO 9 f fd "self node".1 (Hm M CF X):=by
 show F.dQ Uy ?_;intros;let#[z,m,ah,N,h,n,rfl,I,hn,Y,U]:=h;let hs:=HC;let#[dy,hy]:=I.ob;let#[w1,w2]:=I.ne O;unfold ir at Y U;show#[_,%[0,hr,bj,0,G.cl,as,e,cj,cY,dn,K,1,j,ao,.notHeld,aq,.notHeld,a,bG,aa,b9,1,aa,bU,Q,c6,aeR,K,P,ai,DW,(by intros;rfl),Q,an,w,ax,K,P,r,l,cZ,P,cF,Q,M,E,0,G.cl,ay,e,av,cm,j|9],?_]
 show#[74,23,n,rfl,I,hn,λc H1 L=>by rw[c]at Y;show Y _ rfl H1 L,λnd ab H1 L=>?_];rw[ab]at Y U;dsimp only at Y U;let#[n0,n1]:=(O.ok I.A).use _ _ ab;let A1:=I.same O L;let hl:=I.hlen;let lg:=xG hn;let li:=jO lg;let f1:(Str.empty++toString n:Str).9<=yr:=(by rw[Kk,gQ];lia);let ar:(Str.empty++toString n++(" is not held" : Str):Str).9<=yr:=(by rw[Kk,Kk,gQ,show(" is not held" : Str).9=12 by decide +kernel];lia);let g:=gj.k (k:=Xt n) A1.hh;rw[cJ]at g;show#[0,15,L _ _ hy,115,z.hd,0,g,0,?_];cases c:look h n with
 |none =>
  rw[c]at Y;show de #[76,lg,0,f1,0,ar,ar,eW,Y _ rfl H1 L]
 |some v =>
  rw[c]at U g;dsimp only at U;show cO ?_;show#[15,L _ _ hy,115,0,z.hd,0,g,v,(1),1,_,jX.k (k:=Xt n) (v:=.int (v-1)) A1.hh (by rw[kc];lia),?_];rw[js c];let o2:Q5 (· = z.hd) H1 (QZ H1 z.hd (.dK (dk V.int (fj h n (v-1))))):=λb u q nb=>(q<*au nb);let Z:=A1.held O o2 ag (I.nd<*ke) (λx hx=>by
   obtain q|q:=mem_set hx
   .rw[q];show#[n0,n1]
   .show I.hk x q.1)
  let am:Q5 (· = z.hd) H (QZ H1 z.hd (.dK (dk V.int (fj h n (v-1))))):=λb u q nb=>o2 b u (L _ _ q) nb;let ap:=o2 _ _ (L _ _ hy) w1;let lv:look (fj h n (v-1)) n^(v-1):=(by rw[h9 n c,C' rfl]);generalize QZ H1 z.hd (.dK (dk V.int (fj h n (v-1))))=H2 at *;let g2:=gj.k (k:=Xt n) Z.hh;rw[cJ,lv]at g2;dsimp only;show yD (λσ H'=>tD (σ=#v[.ref z.a,.int n]) (cI M CF H' z m ah N (Dv h n v) 0) (Q5 (· = z.hd) H H')) (λu' jt=>?_) ?_
  .show#[15,ap,115,0,z.hd,0,g2,11];show fH (λd=>?_) (λd=>?_)
   .let d1:v-1=0:=V.int.inj (cL d);show#[15,ap,115,z.hd,rfl,.inl #[_,.inl Z.hh],0,_,Xt n,.int (v-1),Z.hh,rfl,by rw[cJ,lv];rfl,jt _ _ #[3,?_]]
    .rw[mq];let o3:Q5 (· = z.hd) H2 (QZ H2 z.hd (.dK (dk V.int (jA (fj h n (v-1)) n)))):=λb u q nb=>(q<*au nb);have:=Z.held O o3 ag (Z.nd.filter _<*xW) (λx hx=>Z.hk x (AV hx).1);unfold Dv;rw[C' d1];show this
    .show λb u q nb=>by rw[au nb];show am b u q nb
   .let d1:¬ v-1=0:=λq=>d (Ja (by rw[q]));show jt _ _ #[3,am];unfold Dv;rw[vr d1];show Z
  .rintro σ H' ⟨rfl,A3,o3⟩;let#[dz,hz]:=A3.ob;let al:H' z.hd≠none:=(by rw[A3.hh];nofun);show#[0,z.a,dz,0,hz,9,z,m,ah,(0),N,_,n,nd,rfl,A3,ab,λH4 m4 A4 ad=>?_];let#[dz,hz]:=A4.ob;let#[dx,kX,ho,ht,hm]:=O.ob A4.A;show#[10,hz,G.cl,G.nN,8,z.na,m4,ah,_,0,A4.A,ak,λH5 m5 A5 ac=>(U _ _ rfl).1 H5 m5 (A4.fin O A5 ac) (cH.hold o3 al (b7.tr ad ac)),λH5 fl=>(U _ _ rfl).2 H5 #[2,cH.hold o3 al ad,fl]]
theorem As{old cs:N4}{j:Nat}:∀{m:Nat},(∀k,k<m->¬ k=j->k<nb old.9/\ch old k=ch cs k)->sk old cs m<=(if j<m then 1 else 0)
 |0,_=>by rw[vr (B6 j)];show BY _
 |m+1,h=>by
  let F:=As (m:=m) λk hk=>h k ak;rw[wb];cases c:m=j
  .rw[vr (show ¬ j<m by lia)]at F;rw[C' (show j<m+1 by lia)];split<;>lia
  .have:=h m ak c;rw[vr (show ¬ My old cs m from λz=>cL z this)];cases d:j<m
   .rw[C' d]at F;rw[C' ak];lia
   .rw[vr d]at F;rw[vr ak];lia
theorem uc:∀{ss:List Slot}(i:Nat),(∀s∈ss,∀p,s^p->okN p.1)->(bt ss).drop (8*i)=bt (ss.drop i)
 | [],i,_=>by rw[afA];show afA
 |s::ss,0,_=>rfl
 |s::ss,i+1,h=>by
  let F:=uc (ss:=ss) i λt G=>h t (Yp _ G);change(jh s++bt ss).drop (8*(i+1))=bt (ss.drop i);let l:=ju (h s Yn);rw[y3,l,Y3 ak,Kb,show 8*(i+1)-8=8*i by lia,F]
theorem xZ:∀{ss:List Slot}(i:Nat),(∀s∈ss,∀p,s^p->okN p.1)->(bt ss).take (8*i)=bt (ss.take i)
 | [],i,_=>by rw[w4];show w4
 |s::ss,0,_=>rfl
 |s::ss,i+1,h=>by
  let F:=xZ (ss:=ss) i λt G=>h t (Yp _ G);change(jh s++bt ss).take (8*(i+1))=jh s++bt (ss.take i);let l:=ju (h s Yn);rw[GK,l,Ye ak,show 8*(i+1)-8=8*i by lia,F]
theorem AK(k:Nat)(h:∀s∈ss,∀p,s^p->okN p.1):ch (bt ss) k=JG (bt ((ss.drop (2*k)).take 2)) 16:=by
 unfold ch;rw[show 16*k=8*(2*k)by lia,uc _ h,show 16=8*2 by rfl,xZ _ λs hs=>h s (ZG hs)]
theorem tO(h1:∀s∈ss,∀p,s^p->okN p.1)(h2:∀s∈ts,∀p,s^p->okN p.1)(G:ss.9=ts.9\/(j=ss.9/\ts.9=ss.9+1))(h:∀i:Nat,¬ i=j->ts[i]?=ss[i]?):sk (bt ss) (bt ts) (nb (bt ts).9)<=1:=by
 have:=As (old:=bt ss) (cs:=bt ts) (j:=j/2) (m:=nb (bt ts).9) λk hk F=>by
  rw[dH h2]at hk;show#[4]
  .rw[dH h1];unfold nb at *;lia
  .rw[AK k h1,AK k h2];congr 1;congr 1;show TY λi=>?_;rw[Zb,Zb];cases c:i<2
   .rw[C' c,C' c,Zz,Zz,h _ ak]
   .rw[vr c,vr c]
 show Oi this ?_;split<;>lia
def Pb(h:¬ i=lP ss):(dh ss nm k)[i]?=ss[i]?:=by
 let fl:lP ss<=ss.9:=zo;unfold dh;cases c:i<lP ss
 .rw[YA,Yo (Nat.lt_min.mpr #[c,Ym c fl]<*Nx),Zb,C' c]
 .let q:=Yy (OV c) (oR h);rw[Ya (q<*[tp,Nx,Yq,YV fl]),tp,Nx,Yq,YV fl,Zz,ZF q]
def IU(h:∀s∈ss,∀p,s^p->okN p.1)(F:okN nm):sk (bt ss) (bt (dh ss nm k)) (nb (bt (dh ss nm k)).9)<=1:=by
 show tO (j:=lP ss) h (dZ h F) ?_ λi hi=>Pb hi;let fl:lP ss<=ss.9:=zo;unfold dh;rw[tp,tp,Nx,YB,Yq];cases c:lP ss<ss.9
 .left;rw[YV fl,ZF c]
 .let e:=Zw fl (OV c);show .inr #[e,by rw[e,BG,Z7 (uO _)]]
def NP(h:nm∉eZ ss):dS ss nm=ss:=by
 induction ss with
 |nil=>rfl
 |cons s ss F =>
  rw[dg]at h;rw[iJ,F λz=>h (DO _ z)];congr 1;show vr λz=>h (YC _ ?_);cases s with
  |none=>cases z
  |some p=>rw[<-cL z];show z4.mpr rfl
def Kc(h:(eZ ss).4):∃j:Nat,∀i:Nat,¬ i=j->(dS ss nm)[i]?=ss[i]?:=by
 induction ss with
 |nil=>show#[(0),λ_ _=>rfl]
 |cons s ss I =>
  rw[dg]at h;let#[h1,h2,F]:=YJ.mp h;rw[iJ];cases c:pW nm s
  .show#[(0),λi hi=>?_];rw[NP λz=>?_]
   .cases i with
    |zero=>show D9 rfl hi
    |succ i=>rfl
   .cases s with
    |none=>cases c
    |some p=>show F p.1 (z4.mpr rfl) nm z (cL c)
  .let#[j,G]:=I h2;show#[j+1,λi hi=>?_];cases i with
   |zero=>rw[vr c];rfl
   |succ i=>show G i ak
def JC(h:∀s∈ss,∀p,s^p->okN p.1)(nd:(eZ ss).4):sk (bt ss) (bt (dS ss nm)) (nb (bt (dS ss nm)).9)<=1:=by
 let#[j,F]:=Kc (nm:=nm) nd;show tO h (Nn h) (.inl (iA ss nm).6) F
def eG(w:N4):Int:=lst w.dropLast
structure XS(N:NS)(S:SS)(ns:gq)(w:N4):Prop where
 Dj:lJ w.17 (-1)^.int (lst w)
 at2:lJ w.17 (-2)^.int (eG w)
 dir:bL N (eG w)
 fX:fX (S (eG w)) (cF ns)^lst w
def Fz.two{w:N4}(Z:Fz N S)(h:fY N S ns=.ok w)(ne:ns≠[]):XS N S ns w:=by
 obtain⟨b,nm,rfl⟩:∃b k,ns=b++[k]:=#[2,(YG ne).6];rw[j3]at h;cases e:fY N S b with
 |error r=>rwa[e]at h
 |ok v =>
  rw[e]at h;let W:=Z.way e;unfold lD at h;dsimp only at h;cases c:bL N (lst v)
  .rw[C' c]at h;cases q:fX (S (lst v)) nm with
   |none=>rwa[q]at h
   |some k =>
    rwa[q]at h;let ep:eG (v++[k])=lst v:=(by unfold eG;rw[xl]);obtain⟨x,a,F⟩:∃b k,v=b++[k]:=#[2,(YG W.ne).6];show#[fQ J0,?_,c<*ep,q<*[ep,qX,lst_snoc]];rw[ep,F,lst_snoc];show HR x a k
  .rw[vr c]at h;cases h
noncomputable def EU(N:NS)(n k:Int):NS:=cA N n ((N n).map λnd=>{ nd with ln:=nd.ln+k })
def qt(h:N n^nd):EU N n k=cA N n (some { nd with ln:=nd.ln+k }):=by unfold EU;rw[h];rfl
noncomputable def rG(ah:Nat)(N:NS)(S:SS)(p q:Str):Except Er (NS×SS):=match tu p with
 |.error e=>.error e
 |.ok ns=>match tu q with
  |.error e=>.error e
  |.ok F=>match fY N S ns with
   |.error e=>.error e
   |.ok w=>if bL N (lst w)then .error .isDir else match pM N S F with
    |.error e=>.error e
    |.ok v=>if 40<=(eZ (S (lst v))).9 then .error .tooMany else if iY ah N (Pf N (lst v)) (8*(dh (S (lst v)) (cF F) (lst w)).9)then .error .noSpace else .ok (EU (putN N (lst v) (bt (dh (S (lst v)) (cF F) (lst w)))) (lst w) 1,kW S (lst v) (dh (S (lst v)) (cF F) (lst w)))
inductive Ol(M:b7)(CF:ZX)(X:Er->ZX)(v:vl)(H:Hp)(Q:VK)(e3:XK):Prop
 |mk(z:FA)(m:M.St)(ah:Nat)(N:NS)(S:SS)(h:HT)(p q:Str)(_:v=[.ref z.a,.str p,.str q])(_:cI M CF H z m ah N h 0)(_:Fz N S)(_:bS p)(_:bS q)(_:∀e,rG ah N S p q=.error e->∀J,aG H J->e3 (.ref (X e)) none J)(_:∀N' S',rG ah N S p q=.ok (N',S')->(∀(J:Hp)(m':M.St),cI M.uW CF J z m' ah N' h 0->M.Step m H m' J->Q .bu J)/\∀J,jT M z m H ah N' J->e3 (.ref M.X0) none J)
noncomputable def jP(N:NS)(S:SS)(h:HT)(p:Str):Except Er (NS×SS):=match tu p with
 |.error e=>.error e
 |.ok ns=>match fY N S ns with
  |.error e=>.error e
  |.ok w=>if bL N (lst w)then .error .isDir else .ok ((if lk N (lst w)=1/\look h (lst w)=none then cA (EU (putN N (eG w) (bt (dS (S (eG w)) (cF ns)))) (lst w) (-1)) (lst w) none else EU (putN N (eG w) (bt (dS (S (eG w)) (cF ns)))) (lst w) (-1)),kW S (eG w) (dS (S (eG w)) (cF ns)))
inductive Nk(M:b7)(CF:ZX)(X:Er->ZX)(v:vl)(H:Hp)(Q:VK)(e3:XK):Prop
 |mk(z:FA)(m:M.St)(ah:Nat)(N:NS)(S:SS)(h:HT)(p:Str)(_:v=[.ref z.a,.str p])(_:cI M CF H z m ah N h 0)(_:Fz N S)(_:bS p)(_:∀e,jP N S h p=.error e->∀J,aG H J->e3 (.ref (X e)) none J)(_:∀N' S',jP N S h p=.ok (N',S')->(∀(J:Hp)(m':M.St),cI M.uW CF J z m' ah N' h 0->M.Step m H m' J->Q .bu J)/\∀J,jT M z m H ah N' J->e3 (.ref M.X0) none J)
abbrev UT:Yv:=zj (top 66) 4
abbrev US:Yv:=zj (top 66) 5
def CY:aA "self path new names new_names node parent slots".1 "self path new".1 (ao UT):=L2.bo
theorem KQ(F:bV K "link" "Files.link" UT f fd)(L:fI K CF)(O:M.Ok P w K mg base)(aT:!Df 2 "names_of" (vW X))(a4:!Df 9 "way_along" (wB M X))(bc:!Md 8 CF "refuse_dir" (wQ M CF X))(a7:!Df 10 "way_to_new" (Dt M X))(a5:-Df 8 "slots_of" (rH M))(be:!Df 2 "refuse_full" (Fc X))(bd:!Md 10 CF "put_name" (EZ M CF X)):!aO 11 f fd "self path new".1 (Ol M CF X):=by
 show F.dQ CY ?_;intros;let#[z,m,ah,N,S,h,p,q,rfl,A0,Z,hp,hq,G,I]:=h;let#[dy,hy]:=A0.ob;unfold rG at G I;show#[_,%[CY,hr,au,3,m,aT,e,au,4,m,aT,g,au,5,c4,m,a4,U,H',H,bj,bO,bc,a,5,au,6,c4,m,a7,U,az,H,G,7,d,a5,U,a,6,A,m,be,a,7,bj,bO,bd,b,6,b,7,b,p,4,H,a,5,Q,M,aJ,O.putL,b,5,a,k,c3,a,5,ai,av,cm,j|9],?_]
 show#[90,λe Y H1 s1=>by rw[Y]at G;show G e rfl H1 s1,λns a3 H1 l1 s1 f1 e1=>?_];rw[a3]at G I;dsimp only at G I;let#[b1,b2]:=iT hp a3;show#[0,q,rfl,hq,λe Y H2 s2=>by rw[Y]at G;show G e rfl H2 (s1.trans s2),λU aY H2 l2 s2 f2 e2=>?_];rw[aY]at G I;dsimp only at G I;let#[c1,c2]:=iT hq aY;let ap:=s1.trans s2;show#[6,ap _ _ hy,14,79,(A0.same O ap).A,Z,s2 _ _ e1,127,λe Y H3 s3=>by rw[Y]at G;show G e rfl H3 (ap.trans s3),140];rw[hv]at G I;dsimp only at G I;let W:=Z.way hv;let#[nw,aN]:=W.last;let bm:=Z.so _ _ aN;let am:=ap.trans s3;show#[82];show#[12,am _ _ hy,9,23,lst v,rfl,A0.same O am,ak,λc H4 s4=>by rw[C' c]at G;show G _ rfl H4 (am.trans s4),λc H4 s4=>?_];rw[vr (by rw[c];nofun)]at G I;let ad:=am.trans s4;show#[6,ad _ _ hy,14,S,l2,U,rfl,(A0.same O ad).A,Z,(s3.trans s4) _ _ e2,c1,λx hx=>(c2 x hx).len,λe Y H5 s5=>by rw[Y]at G;show G e rfl H5 (ad.trans s5),λu hu H5 q5 s5 f5 e5=>?_];rw[hu]at G I;dsimp only at G I;let#[W2,hd,bn,bb]:=oG Z hu;let#[nd,ac,a6]:=bM hd;let#[aB,bi]:=iG bb;let ay:=ad.trans s5;show#[26,q5,_, -1,.int (lst u),1,bh.of e5,fQ W2.ne,?_];show#[6,ay _ _ hy,14,lst u,nd,S (lst u),rfl,(A0.same O ay).A,ac,Z.enc _ _ ac a6,27,λH6 q6 ws s6 f6 e6 S6=>?_];let aK:=ay.trans s6;show#[0,q6,ws,S (lst u),rfl,e6,S6,73,λd1 H7 s7=>by rw[C' d1]at G;show G _ rfl H7 (aK.trans s7),λd1 H7 s7=>?_];rw[vr ak]at G I;let ab:=aK.trans s7;let A7:=A0.same O ab;rw[nG ac]at G I;rw[dt ac]at I;let un:¬ lst v=lst u:=λw=>(c*>[w,hd]);show#[87,0,0,26,l2,_, -1,.str (cF U),1,bh.of ((s3.trans (s4.trans (s5.trans (s6.trans s7)))) _ _ e2),bi,0,23,lst u,nd,q6,ws,S (lst u),cF U,lst v,rfl,A7,ac,s7 _ _ e6,S6.same s7,Z.len _,d1,Z.ok _,c2 _ aB,λd2 H8 s8=>by rw[C' d2]at G;show G _ rfl H8 (ab.trans s8),λd2 H8 m8 A8 aX=>?_];rw[vr (by rw[d2];nofun)]at I;let#[dz,hz]:=A8.ob;let#[dx,kX,ho,ht,hm]:=O.ob A8.A;let ar:cA N (lst u) (some { nd with cs:=bt (dh (S (lst u)) (cF U) (lst v)) }) (lst v)=some nw:=(aN<*fb un);rw[qt ar]at I;show#[34,0,34,0,54,nw,rfl,A8.A,ar,λH9 s9=>?_];let A9:=A8.same O s9;show#[7,54,nw.ln+1,nw,rfl,A9.A,ar,λHa ma Aa as=>?_];let Ab:=A9.step O Aa as;let#[dz,hz]:=Ab.ob;let#[dx,kX,ho,ht,hm]:=O.ob Aa;let g1:=oP nd.cs (bt (dh (S (lst u)) (cF U) (lst v))) (nb (bt (dh (S (lst u)) (cF U) (lst v))).9);let g2:nb (bt (dh (S (lst u)) (cF U) (lst v))).9<=20:=tL (by
  have:=kD (nm:=cF U) (k:=lst v) d1 (Z.len (lst u));rw[dH (dZ (Z.ok _) (c2 _ aB))];lia)
 show#[34,z.na,ma,ah,_,0,Aa,ak,λHc mc Ac a0=>(I _ _ rfl).1 Hc mc (Ab.fin O Ac a0) (b7.pre ab (b7.tr aX (b7.pre s9 (b7.tr as a0)))),λHc fl=>(I _ _ rfl).2 Hc #[2,cH.of (b7.pre ab (b7.tr aX (b7.pre s9 as))),fl]]
def JP:aA "self path names way node".1 "self path".1 (ao US):=L2.bo
theorem Cc(F:bV K "unlink" "Files.unlink" US f fd)(L:fI K CF)(O:M.Ok P w K mg base)(a0:!Df 2 "names_of" (vW X))(aX:!Df 9 "way_along" (wB M X))(aY:!Md 8 CF "refuse_dir" (wQ M CF X))(a4:-Md 9 CF "drop_name" (Im M CF))(a5:-Md 8 CF "end_left" (Kz M CF)):!aO 10 f fd "self path".1 (Nk M CF X):=by
 show F.dQ JP ?_;intros;let#[z,m,ah,N,S,h,p,rfl,A0,Z,hp,I,G]:=h;let#[dy,hy]:=A0.ob;unfold jP at I G;show#[_,%[JP,hr,au,2,m,a0,e,au,3,m,aX,U,g,G,4,p,3,H,bj,bO,aY,az,Q,M,E,bO,a4,b,p,3,H,a,p,2,H,Q,M,aJ,O.putL,b,4,a,a2,c3,az,ai,Q,M,E,bO,a5,az,av,cm,j|9],?_]
 show#[90,λe he H1 s1=>by rw[he]at I;show I e rfl H1 s1,λns aK H1 l1 s1 f1 e1=>?_];rw[aK]at I G;dsimp only at I G;let#[b1,b2]:=iT hp aK;show#[6,s1 _ _ hy,14,79,(A0.same O s1).A,Z,e1,127,λe he H3 s3=>by rw[he]at I;show I e rfl H3 (s1.trans s3),140];rw[hv]at I G;dsimp only at I G;let W:=Z.way hv;let#[Y,am]:=W.last;let a6:=Z.so _ _ am;let ac:=s1.trans s3;show#[0,82];show#[12,ac _ _ hy,9,23,lst v,rfl,A0.same O ac,ak,λc H4 s4=>by rw[C' c]at I;show I _ rfl H4 (ac.trans s4),λc H4 s4=>?_];rw[vr (by rw[c];nofun)]at G;let aB:ns≠[]:=λw=>by
  rwa[w]at hv;have:=Z.root;rwa[show lst [0]=0 from rfl,this]at c
 let T2:=Z.two hv aB;let#[a7,a3]:=iG aB;let#[nd,ar,aT]:=bM T2.dir;let ab:=ac.trans s4;let A4:=A0.same O ab;let un:¬ lst v=eG v:=λw=>(c*>[w,T2.dir]);rw[dt ar]at G;let ad:cA N (eG v) (some { nd with cs:=bt (dS (S (eG v)) (cF ns)) }) (lst v)=some Y:=(am<*fb un);rw[qt ad,gy am]at G;show#[87,(2),rfl,q3,_, -2,.int (eG v),1,bh.of (s4 _ _ e3),T2.at2,137,bh.of ((s3.trans s4) _ _ e1),a3,23,eG v,nd,103,A4,ar,Z.enc _ _ ar aT,27,λH8 m8 A8 aN=>?_];let#[dz,U]:=A8.ob;let#[dx,kX,ho,ht,hm]:=O.ob A8.A;show#[10,U,101,8,0,10,U,101,8,0,54,Y,rfl,A8.A,ad,λH9 s9=>?_];let A9:=A8.same O s9;show#[7,54,Y.ln-1,Y,rfl,A9.A,ad,λHa ma Aa ap=>?_];let Ab:=A9.step O Aa ap;let#[dz,U]:=Ab.ob;show#[0,z.a,dz,0,U,9,z,ma,ah,2,h,lst v,0,Ab,lZ,λHd md Ad as=>?_];let#[dz,U]:=Ad.ob;let#[dx,kX,ho,ht,hm]:=O.ob Ad.A;let g1:=oP nd.cs (bt (dS (S (eG v)) (cF ns))) (nb (bt (dS (S (eG v)) (cF ns))).9);let g2:nb (bt (dS (S (eG v)) (cF ns))).9<=20:=tL (by
  have:=Z.len (eG v);rw[dH (Nn (Z.ok _)),iA];lia)
 let e0:(Y.ln=1)=(Y.ln-1=0):=propext #[λw=>by lia,λw=>by lia];simp only[e0]at G;show#[10,U,101,8,z.na,md,ah,_,0,Ad.A,ak,λHc mc Ac ay=>(G _ _ rfl).1 Hc mc (Ad.fin O Ac ay) (b7.pre ab (b7.tr aN (b7.pre s9 (b7.tr ap (b7.tr as ay))))),λHc fl=>(G _ _ rfl).2 Hc #[2,cH.of (b7.pre ab (b7.tr aN (b7.pre s9 (b7.tr ap as)))),fl]]
theorem Av(x:Int):∀l:List Int,Lv (.int x) l.17=decide (x∈l)
 | []=>rfl
 |y::l=>by
  change(nZ (.int y) (.int x)||Lv (.int x) l.17)=_;rw[Av x l];cases c:y=x
  .rw[show nZ (.int y) (.int x)from Ja c];rw[Ja (Yu.mpr (.inl c.6))];rfl
  .rw[show nZ (.int y) (.int x)=false from ck c];cases d:x∈l
   .rw[Ja d,Ja (Yp _ d)];rfl
   .rw[ck d,ck (λz=>(Yu.mp z).elim (λz=>c z.6) d)];rfl
theorem w6:∀l:List Int,(l.map V.int).all gg=true
 | []=>rfl
 |_::l=>w6 l
noncomputable def jG(N:NS)(S:SS)(p:Str):Except Er (NS×SS):=match tu p with
 |.error e=>.error e
 |.ok ns=>match fY N S ns with
  |.error e=>.error e
  |.ok w=>if bL N (lst w)then(if lst w=0 then .error .notAllowed else if 0<(eZ (S (lst w))).9 then .error .notEmpty else .ok (cA (putN N (eG w) (bt (dS (S (eG w)) (cF ns)))) (lst w) none,kW (kW S (eG w) (dS (S (eG w)) (cF ns))) (lst w) []))else .error .notDir
inductive OP(M:b7)(CF:ZX)(X:Er->ZX)(v:vl)(H:Hp)(Q:VK)(e3:XK):Prop
 |mk(z:FA)(m:M.St)(ah:Nat)(N:NS)(S:SS)(h:HT)(p:Str)(_:v=[.ref z.a,.str p])(_:cI M CF H z m ah N h 0)(_:Fz N S)(_:bS p)(_:∀e,jG N S p=.error e->∀J,aG H J->e3 (.ref (X e)) none J)(_:∀N' S',jG N S p=.ok (N',S')->(∀(J:Hp)(m':M.St),cI M.uW CF J z m' ah N' h 0->M.Step m H m' J->Q .bu J)/\∀J,jT M z m H ah N' J->e3 (.ref M.X0) none J)
abbrev Vr:Yv:=zj (top 66) 6
abbrev VG:Yv:=zj (top 66) 7
def Ig:aA "self path names way node".1 "self path".1 (ao Vr):=L2.bo
theorem vF(F:bV K "remove_dir" "Files.remove_dir" Vr f fd)(T:l9 K mg X)(L:fI K CF)(O:M.Ok P w K mg base)(a4:!Df 2 "names_of" (vW X))(a0:!Df 9 "way_along" (wB M X))(a5:!Df 8 "refuse_no_dir" (Cw M X))(a3:-Df 1 "names_in" CQ)(a6:-Df 8 "slots_of" (rH M))(bb:-Md 9 CF "drop_name" (Im M CF)):!aO 10 f fd "self path".1 (OP M CF X):=by
 show F.dQ Ig ?_;intros;let#[z,m,ah,N,S,h,p,rfl,Y,Z,hp,G,I]:=h;let#[dy,hy]:=Y.ob;unfold jG at G I;show#[_,%[Ig,hr,au,2,m,a4,e,au,3,m,a0,U,g,G,4,p,3,H,A,m,a5,U,az,aI,4,cl,F,ao,cQ,aq,cQ,ak,cj,bE,t,aj,a3,aj,a6,U,az,r,ao,.notEmpty,aq,.notEmpty,ak,Q,M,E,bO,bb,b,p,3,H,a,p,2,H,Q,M,aJ,O.end_,az,av,cm,j|9],?_]
 show#[90,λe he H1 U=>by rw[he]at G;show G e rfl H1 U,λns aN H1 l1 U f1 e1=>?_];rw[aN]at G I;dsimp only at G I;let#[b1,b2]:=iT hp aN;show#[6,U _ _ hy,14,79,(Y.same O U).A,Z,e1,127,λe he H3 s3=>by rw[he]at G;show G e rfl H3 (U.trans s3),140];rw[hv]at G I;dsimp only at G I;let W:=Z.way hv;let#[nw,ac]:=W.last;let bd:=Z.so _ _ ac;let am:=U.trans s3;show#[0,82];show#[6,am _ _ hy,14,lst v,rfl,(Y.same O am).A,ak,λc H4 s4=>by rw[vr (by rw[c];nofun)]at G;show G _ rfl H4 (am.trans s4),λc H4 s4=>?_];rw[C' c]at G I;let ad:=am.trans s4;show#[0,11];show fH (λd=>?_) (λd=>?_)
 .let d0:lst v=0:=V.int.inj (cL d);rw[C' d0]at G;show#[az,G _ rfl H4 ad]
 let d0:¬ lst v=0:=λw=>d (Ja (by rw[w]));rw[vr d0]at G I;let bc:nw.dir:=(by rw[<-dU ac];show c);show#[6,ad _ _ hy,14,lst v,nw,50,(Y.same O ad).A,ac,Z.enc _ _ ac bc,27,λH5 q5 ws s5 f5 e5 S5=>?_];show#[q5,ws,50,e5,S5,73,λH6 q6 s6 f6 e6=>?_];let ab:=ad.trans (s5.trans s6);show#[q6,0,.inl (bh.of e6),32];rw[si,wJ];show fH (λd2=>?_) (λd2=>?_)
 .rw[C' (by have:=cL d2;lia)]at G;show#[az,G _ rfl H6 ab]
 let as:¬ 0<(eZ (S (lst v))).9:=λw=>d2 (Ja ak);rw[vr as]at I;let aB:ns≠[]:=λw=>by
  rwa[w]at hv;show d0 rfl
 let T2:=Z.two hv aB;let#[be,a7]:=iG aB;let#[nd,ar,aX]:=bM T2.dir;let A6:=Y.same O ab;let un:¬ lst v=eG v:=λw=>by
  let q:=T2.fX;rw[<-w]at q;have:cF ns∈eZ (S (lst v)):=ZH λr=>(q*>(jL _ _).mpr r);rwa[Yz.mp (ZJ as)]at this
 rw[dt ar]at I;let aY:cA N (eG v) (some { nd with cs:=bt (dS (S (eG v)) (cF ns)) }) (lst v)=some nw:=(ac<*fb un);let aK:=s4.trans (s5.trans s6);show#[87,(2),rfl,q3,_, -2,.int (eG v),1,bh.of (aK _ _ e3),T2.at2,137,bh.of ((s3.trans aK) _ _ e1),a7,23,eG v,nd,103,A6,ar,Z.enc _ _ ar aX,27,λH8 m8 A8 aT=>?_];let#[dz,hz]:=A8.ob;let#[dx,kX,ho,ht,hm]:=O.ob A8.A;show#[34,0,54,nw,rfl,A8.A,aY,λHa ma Aa ap=>?_];let Ab:=A8.step O Aa ap;let#[dz,hz]:=Ab.ob;let#[dx,kX,ho,ht,hm]:=O.ob Ab.A;let g1:=oP nd.cs (bt (dS (S (eG v)) (cF ns))) (nb (bt (dS (S (eG v)) (cF ns))).9);let g2:nb (bt (dS (S (eG v)) (cF ns))).9<=20:=tL (by
  have:=Z.len (eG v);rw[dH (Nn (Z.ok _)),iA];lia)
 show#[34,z.na,ma,ah,_,0,Ab.A,ak,λHc mc Ac ay=>(I _ _ rfl).1 Hc mc (Ab.fin O Ac ay) (b7.pre ab (b7.tr aT (b7.tr ap ay))),λHc fl=>(I _ _ rfl).2 Hc #[2,cH.of (b7.pre ab (b7.tr aT ap)),fl]]
def kO(S:SS)(v u:N4)(nm:Str):List Slot:=if lst u=eG v then dS (S (eG v)) nm else S (lst u)
noncomputable def pq(ah:Nat)(N:NS)(S:SS)(p q:Str):Except Er (NS×SS):=match tu p with
 |.error e=>.error e
 |.ok ns=>match tu q with
  |.error e=>.error e
  |.ok F=>if ns=[]then .error .notAllowed else match fY N S ns with
   |.error e=>.error e
   |.ok v=>match pM N S F with
    |.error e=>.error e
    |.ok u=>if lst v∈u then .error .inside else if 40<=(eZ (kO S v u (cF ns))).9 then .error .tooMany else
     if iY ah N (Pf N (lst u)) (8*(dh (kO S v u (cF ns)) (cF F) (lst v)).9)then .error .noSpace else
     .ok (if lst u=eG v then putN N (lst u) (bt (dh (kO S v u (cF ns)) (cF F) (lst v)))else putN (putN N (lst u) (bt (dh (kO S v u (cF ns)) (cF F) (lst v)))) (eG v) (bt (dS (S (eG v)) (cF ns))),
      if lst u=eG v then kW S (lst u) (dh (kO S v u (cF ns)) (cF F) (lst v))else kW (kW S (lst u) (dh (kO S v u (cF ns)) (cF F) (lst v))) (eG v) (dS (S (eG v)) (cF ns)))
inductive Mm(M:b7)(CF:ZX)(X:Er->ZX)(v:vl)(H:Hp)(Q:VK)(e3:XK):Prop
 |mk(z:FA)(m:M.St)(ah:Nat)(N:NS)(S:SS)(h:HT)(p q:Str)(_:v=[.ref z.a,.str p,.str q])(_:cI M CF H z m ah N h 0)(_:Fz N S)(_:bS p)(_:bS q)(_:∀e,pq ah N S p q=.error e->∀J,aG H J->e3 (.ref (X e)) none J)(_:∀N' S',pq ah N S p q=.ok (N',S')->(∀(J:Hp)(m':M.St),cI M.uW CF J z m' ah N' h 0->M.Step m H m' J->Q .bu J)/\∀J,jT M z m H ah N' J->e3 (.ref M.X0) none J)
def sO:aA "self path new names new_names old_way node new_way old parent old_slots slots".1 "self path new".1 (ao VG):=L2.bo
theorem IB(F:bV K "move" "Files.move" VG f fd)(T:l9 K mg X)(U:fI K CF)(O:M.Ok P w K mg base)(a0:!Df 2 "names_of" (vW X))(be:!Df 9 "way_along" (wB M X))(bB:!Df 10 "way_to_new" (Dt M X))(a4:-Df 8 "slots_of" (rH M))(bx:-Df 1 "slots_without" HZ)(bN:!Df 2 "refuse_full" (Fc X))(bK:!Md 10 CF "put_name" (EZ M CF X))(bm:-Df 8 "put_slots" (xK M)):!aO 11 f fd "self path new".1 (Mm M CF X):=by
 show F.dQ sO ?_;intros;let#[z,m,ah,N,S,h,p,q,rfl,A0,Z,hp,hq,G,I]:=h;let#[dy,hy]:=A0.ob;unfold pq at G I;show#[_,%[sO,hr,au,3,m,a0,e,au,4,m,a0,g,aI,t,H',r,ao,cQ,aq,cQ,ak,au,5,m,be,U,H',G,6,p,5,H,au,7,m,bB,U,az,cj,i,tZ,6,7,dg,ao,.inside,aq,.inside,ak,G,8,p,5,H,G,9,p,7,H,G,10,d,bx,b,d,a4,U,a,8,a,p,3,H,G,11,cf,w,9,8,F,10,d,a4,U,a,9,A,m,bN,a,11,bj,0,U.cl,bK,b,9,b,11,b,p,4,H,a,6,Q,an,i,ud,9,8,F,l,d,bm,U,b,8,a,10,av,cm,j|9],?_]
 show#[90,λe he H1 s1=>by rw[he]at G;show G e rfl H1 s1,λns bc H1 l1 s1 f1 e1=>?_];rw[bc]at G I;dsimp only at G I;let#[b1,b2]:=iT hp bc;show#[0,q,rfl,hq,λe he H2 s2=>by rw[he]at G;show G e rfl H2 (s1.trans s2),λL a7 H2 l2 s2 f2 e2=>?_];rw[a7]at G I;dsimp only at G I;let#[c1,c2]:=iT hq a7;let ap:=s1.trans s2;show#[0,l1,0,.inl (bh.of (s2 _ _ e1)),11];rw[si];show fH (λc=>?_) (λc=>?_)
 .let e:ns=[]:=Yz.mp (by have:=V.int.inj (cL c);lia);rw[C' e]at G;show#[az,G _ rfl H2 ap]
 let aT:ns≠[]:=λw=>c (Ja rfl<*w);rw[vr aT]at G I;clear c;show#[6,ap _ _ hy,51,79,(A0.same O ap).A,Z,s2 _ _ e1,127,λe he H3 s3=>by rw[he]at G;show G e rfl H3 (ap.trans s3),140];rw[hv]at G I;dsimp only at G I;let W:=Z.way hv;let T2:=Z.two hv aT;let#[bW,bn]:=iG aT;let#[no,ar,bd]:=bM T2.dir;let as:=ap.trans s3;show#[0,26,q3,121,40,T2.Dj,?_];show#[6,as _ _ hy,51,S,l2,L,rfl,(A0.same O as).A,Z,s3 _ _ e2,c1,λx hx=>(c2 x hx).len,λe he H5 s5=>by rw[he]at G;show G e rfl H5 (as.trans s5),λu hu H5 q5 s5 f5 e5=>?_];rw[hu]at G I;dsimp only at G I;let#[W2,hd,bY,bF]:=oG Z hu;let#[nd,ac,a5]:=bM hd;let#[aK,bR]:=iG bF;let aB:=as.trans s5;show#[0,0,q5,0,.inl (bh.of e5),rfl,w6 _,0,?_];change if Lv (.int (lst v)) u.17then _ else _
 rw[Av];show fH (λc=>?_) (λc=>?_)
 .rw[C' (cL c)]at G;show#[az,G _ rfl H5 aB]
 rw[vr (λw=>c (Ja w))]at G I;show#[0,(2),rfl,q3,_, -2,.int (eG v),1,bh.of (s5 _ _ e3),T2.at2,?_];show#[0,26,q5,_, -1,.int (lst u),1,bh.of e5,fQ W2.ne,?_];show#[6,aB _ _ hy,51,eG v,no,S (eG v),rfl,(A0.same O aB).A,ar,Z.enc _ _ ar bd,27,λH6 q6 ws s6 f6 e6 S6=>?_];let aY:=aB.trans s6;show#[137,bh.of ((s2.trans (s3.trans (s5.trans s6))) _ _ e1),bn,q6,ws,103,e6,S6,Oi (Z.len _) az,λH7 q7 aN s7 f7 e7 S7=>?_];let aX:=aY.trans s7;let ml:(kO S v u (cF ns)).9<=40:=by
  unfold kO;split
  .rw[iA];show Z.len _
  .show Z.len _
 let mo:∀s∈kO S v u (cF ns),∀p,s^p->okN p.1:=by
  unfold kO;split
  .show Nn (Z.ok _)
  .show Z.ok _
 let mn:(eZ (kO S v u (cF ns))).4:=by
  unfold kO;split
  .rw[qi];show(Z.nd _).filter _
  .show Z.nd _
 let bz:¬ M.own m q7:=λr=>O.live (A0.same O aY).A r f7;unfold iZ;dsimp only;change pA _ _ _ _ #v[.ref z.a,.str p,.str q,.ref l1,.ref l2,.ref q3,.int (lst v),.ref q5,.int (eG v),.int (lst u),.ref q7,none] H7;show IM (λσ H'=>Dh λ(q8:ZX)(ab:vl)=>Hg (σ=#v[.ref z.a,.str p,.str q,.ref l1,.ref l2,.ref q3,.int (lst v),.ref q5,.int (eG v),.int (lst u),.ref q7,.ref q8]) (aG H7 H') (H' q8%ab) (lV H' ab (kO S v u (cF ns)))) (λu' jt=>?_) ?_
 .show#[0,0,11];show fH (λd=>?_) (λd=>?_)
  .let Y:lst u=eG v:=V.int.inj (cL d);show#[0,jt _ _ #[q7,aN,rfl,aG.refl _,e7,?_]];unfold kO;rw[C' Y];show S7
  .let Y:¬ lst u=eG v:=λw=>d (Ja (by rw[w]));show#[6,aX _ _ hy,51,lst u,nd,S (lst u),rfl,(A0.same O aX).A,ac,Z.enc _ _ ac a5,27,λH8 q8 ab s8 f8 e8 S8=>jt _ _ #[q8,ab,rfl,s8,e8,?_]];unfold kO;rw[vr Y];show S8
 rintro σ H' ⟨q8,ab,rfl,s8,e8,S8⟩;let a3:=aX.trans s8;show#[0,q8,ab,0,e8,S8,ml,mn,λd1 H9 s9=>by rw[C' d1]at G;show G _ rfl H9 (a3.trans s9),λd1 H9 s9=>?_];rw[vr ak]at G I;let am:=a3.trans s9;let A9:=A0.same O am;rw[nG ac]at G I;rw[dt ac]at I;show#[12,am _ _ hy,9,0,0,26,l2,_, -1,.str (cF L),1,bh.of ((s3.trans (s5.trans (s6.trans (s7.trans (s8.trans s9))))) _ _ e2),bR,0,23,lst u,nd,q8,ab,_,cF L,lst v,rfl,A9,ac,s9 _ _ e8,S8.same s9,ml,d1,mo,c2 _ aK,λd2 Ha sa=>by rw[C' d2]at G;show G _ rfl Ha (am.trans sa),λd2 Ha ma Aa ay=>?_];rw[vr (by rw[d2];nofun)]at I;let bv:Ha q7%aN:=ay.1 _ _ ((s8.trans s9) _ _ e7) bz;let#[dz,hz]:=Aa.ob;let gl:nb (bt (dh (kO S v u (cF ns)) (cF L) (lst v))).9<=20:=tL (by
  have:=kD (nm:=cF L) (k:=lst v) d1 ml;rw[dH (dZ mo (c2 _ aK))];lia)
 let g1:=oP nd.cs (bt (dh (kO S v u (cF ns)) (cF L) (lst v))) (nb (bt (dh (kO S v u (cF ns)) (cF L) (lst v))).9);dsimp only;show yD (λσ H'=>Dh λ(mb:M.St)(db:Nat)=>Hg (σ[0]?^some (.ref z.a)) (cI M CF H' z mb ah (if lst u=eG v then cA N (lst u) (some { nd with cs:=bt (dh (kO S v u (cF ns)) (cF L) (lst v)) })else putN (cA N (lst u) (some { nd with cs:=bt (dh (kO S v u (cF ns)) (cF L) (lst v)) })) (eG v) (bt (dS (S (eG v)) (cF ns)))) h db) (db<=24) (M.Step ma Ha mb H')) (λu' jt=>?_) ?_
 .show#[0,0,11];cases Y:lst u=eG v
  .rw[Ja (show V.int (lst u)=V.int (eG v)by rw[Y])];show cO (jt _ _ #[ma,0+sk nd.cs (bt (dh (kO S v u (cF ns)) (cF L) (lst v))) (nb (bt (dh (kO S v u (cF ns)) (cF L) (lst v))).9)+2,3,?_,b7.sm (aG.refl _)])
   .rw[C' Y];show Aa
   .omega
  .rw[ck (show ¬ V.int (lst u)=V.int (eG v)from λw=>Y (V.int.inj w))];let a6:cA N (lst u) (some { nd with cs:=bt (dh (kO S v u (cF ns)) (cF L) (lst v)) }) (eG v)=some no:=(ar<*fb (oR Y));let em:kO S v u (cF ns)=S (lst u):=(by unfold kO;rw[vr Y]);let eo:=Z.enc _ _ ar bd;show de #[10,hz,U.cl,U.nN,cp kf,0,0,z.na,ma,ah,2,eG v,no,q7,aN,dS (S (eG v)) (cF ns),rfl,Aa.A,a6,bv,?_,Z.len _<*iA,Nn (Z.ok _),?_,λHb mb Ab ad=>jt _ _ #[mb,0+sk nd.cs (bt (dh (kO S v u (cF ns)) (cF L) (lst v))) (nb (bt (dh (kO S v u (cF ns)) (cF L) (lst v))).9)+2+sk no.cs (bt (dS (S (eG v)) (cF ns))) (nb (bt (dS (S (eG v)) (cF ns))).9)+2,3,?_,ad]]
   .show#[S7.ln,λi x hx=>?_];let#[s,e,a]:=S7.at_ i x hx;show#[s,e,?_];cases s with
    |none=>show a
    |some pr =>
     let#[t,et,ht]:=a;show#[t,et,ay.1 _ _ ((s8.trans s9) _ _ ht) λr=>O.nt A9.A r ((s8.trans s9) _ _ ht)]
   .have:=(O.ok Aa.A).fit;rw[iA,eo,dH (Z.ok _)];lia
   .rw[vr Y,dt a6];show Aa.step O Ab ad
   .let g3:sk nd.cs (bt (dh (kO S v u (cF ns)) (cF L) (lst v))) (nb (bt (dh (kO S v u (cF ns)) (cF L) (lst v))).9)<=1:=by
     rw[em,Z.enc _ _ ac a5];show IU (Z.ok _) (c2 _ aK)
    let g4:sk no.cs (bt (dS (S (eG v)) (cF ns))) (nb (bt (dS (S (eG v)) (cF ns))).9)<=1:=by
     rw[eo];show JC (Z.ok _) (Z.nd _)
    lia
 .rintro σ H' ⟨mb,db,h0,Ab,bi,ad⟩;let#[dz,hz]:=Ab.ob;let#[dx,kX,ho,ht,hm]:=O.ob Ab.A;show#[_,h0,z.a,CF,dz,_,.ref z.na,rfl,hz,U.cl,U.nN,8,z.na,mb,ah,_,0,Ab.A,bi,λHc mc Ac bb=>(I _ _ rfl).1 Hc mc (Ab.fin O Ac bb) (b7.pre am (b7.tr ay (b7.tr ad bb))),λHc fl=>(I _ _ rfl).2 Hc #[2,cH.of (b7.pre am (b7.tr ay ad)),fl]]
structure Uh(n:Int)(x:Option Node)(s:List Slot):Prop where
 enc:∀nd,x^nd->nd.dir->nd.cs=bt s/\nd.ln=1
 len:s.9<=40
 ok:∀t∈s,∀p,t^p->okN p.1
 nd:(eZ s).4
 bu:(∀nd,x^nd->nd.dir=false)->s=[]
 so:∀nd,x^nd->0<=n/\n<24
structure Fy(N:NS)(S:SS):Prop where
 root:bL N 0
 at_:∀n,Uh n (N n) (S n)
end
section
mutual
def qQ(h:bL N n=false)(x:Node)(e:N n^x):x.dir=false:=by rw[dU e]at h;show h
def Fz.y(F:Fz N S):Fy N S:=#[F.root,λn=>#[λx e d=>#[F.enc n x e d,F.dl n x e d],F.len n,F.ok n,F.nd n,λh=>F.bu n (by
 cases e:bL N n with
 |false=>rfl
 |true=>let#[x,q,d]:=bM e;rwa[h x q]at d),F.so n]]
theorem Fy.z(F:Fy N S)(h:∀n,(refs S n:Int)+(if n=0 then 1 else 0)<=lk N n):Fz N S :=
 #[F.root,λn x e d=>((F.at_ n).enc x e d).1,λn=>(F.at_ n).len,λn=>(F.at_ n).ok,λn=>(F.at_ n).nd,λn e=>(F.at_ n).bu (qQ e),h,λn x e d=>((F.at_ n).enc x e d).2,λn=>(F.at_ n).so]
variable{x:Node}
def zm:bL (cA N n (some x)) k=if k=n then x.dir else bL N k:=by
 unfold bL cA;cases c:k=n
 .rw[C' c,C' c]
 .rw[vr c,vr c]
def Fv:bL (cA N n none) k=if k=n then false else bL N k:=by
 unfold bL cA;cases c:k=n
 .rw[C' c,C' c]
 .rw[vr c,vr c]
def Bp:lk (cA N n (some x)) k=if k=n then x.ln else lk N k:=by
 unfold lk cA;cases c:k=n
 .rw[C' c,C' c]
 .rw[vr c,vr c]
def Lo:lk (cA N n none) k=if k=n then 0 else lk N k:=by
 unfold lk cA;cases c:k=n
 .rw[C' c,C' c]
 .rw[vr c,vr c]
def GH(F:N n^nd)(e:x.dir=nd.dir):bL (cA N n (some x))=bL N:=funext λk=>by
 rw[zm];cases c:k=n
 .rw[C' c,c,dU F,e]
 .rw[vr c]
def i3(F:N n^nd)(cs:N4):lk (cA N n (some { nd with cs:=cs }))=lk N:=funext λm=>by
 rw[Bp];cases c:m=n
 .rw[C' c,c,gy F]
 .rw[vr c]
variable{x:Option Node}
theorem Fy.up(F:Fy N S)(h:Uh n x ss)(r:n=0->∃y,x^y/\y.dir):Fy (cA N n x) (kW S n ss):=by
 show#[?_,λm=>?_]
 .cases c:(0:Int)=n
  .let#[y,e,d]:=r c.6;rw[dU (show cA N n x 0=some y by rw[c,lZ];show e)];show d
  .have:=F.root;unfold bL at this ⊢;rw[fb c];show this
 .cases c:m=n
  .rw[c,lZ,ja];show h
  .rw[fb c,gr c];show F.at_ m
theorem Fy.DM(F:Fy N S)(G:N n^nd)(hd:nd.dir)(h1:ss.9<=40)(h2:∀s∈ss,∀p,s^p->okN p.1)(I:(eZ ss).4):Fy (cA N n (some { nd with cs:=bt ss })) (kW S n ss):=
 F.up #[λx e _=>(by cases e;show#[rfl,((F.at_ n).enc nd G hd).2]),h1,h2,I,λz=>(by have:=z _ rfl;rwa[show nd.dir=false from this]at hd),λx _=>(F.at_ n).so nd G] λ_=>#[0,hd]
def zc(h:S n=[]):kW S n []=S:=funext λm=>by
 cases c:m=n
 .rw[c,ja,h]
 .rw[gr c]
def Np(h1:∀y,x^y->y.dir->y.cs=[]/\y.ln=1)(F:∀y,x^y->0<=n/\n<24):Uh n x []:=#[λy e d=>h1 y e d,Zy _,nofun,mh,λ_=>rfl,F]
variable{x:Node}
theorem Fy.row(F:Fy N S)(h:bL N n=false)(hx:x.dir=false\/(x.cs=[]/\x.ln=1))(I:0<=n)(G:n<24):Fy (cA N n (some x)) S:=by
 have:=F.up (n:=n) (Np (x:=some x) (λy e d=>by cases e;show hx.resolve_left (by rw[d];nofun)) λ_ _=>#[I,G]) λw=>by rwa[w,F.root]at h
 (rw[zc ((F.at_ n).bu (qQ h))]at this;assumption)
theorem Fy.WW(F:Fy N S)(h:bL N n=false):Fy (cA N n none) S:=by
 have:=F.up (n:=n) (Np (x:=none) nofun nofun) λw=>by rwa[w,F.root]at h
 (rw[zc ((F.at_ n).bu (qQ h))]at this;assumption)
theorem Fz.dh(F:Fz N S)(h1:(eZ (S n)).9<40)(h2:okN nm)(G:nm∉eZ (S n)):(dh (S n) nm k).9<=40/\(∀s∈dh (S n) nm k,∀p,s^p->okN p.1)/\(eZ (dh (S n) nm k)).4 :=
 #[kD h1 (F.len n),dZ (F.ok n) h2,(Az _ _ _).nodup_iff.mpr (YZ.mpr #[G,F.nd n])]
theorem Fz.dS(F:Fz N S)(nm:Str):(dS (S n) nm).9<=40/\(∀s∈dS (S n) nm,∀p,s^p->okN p.1)/\(eZ (dS (S n) nm)).4 :=
 #[F.len n<*iA,Nn (F.ok n),(F.nd n).filter _<*qi]
inductive zp(N:NS)(S:SS)(k:Int)(x:Node)(N':NS)(S':SS):Prop
 |mk(d:Int)(nm:Str)(nd:Node)(_:bL N d)(_:N d^nd)(_:nm∉eZ (S d))(_:okN nm)(_:¬ k=d)(_:N'=cA (cA N d (some { nd with cs:=bt (dh (S d) nm k) })) k (some x))(_:S'=kW S d (dh (S d) nm k))(_:(eZ (S d)).9<40)(_:0<=k/\k<24)
variable{S':SS}
theorem zp.fz(F:Fz N S)(h:zp N S k x N' S')(hk:bL N k=false)(hx:x.dir=false\/(x.cs=[]/\x.ln=1))(eL:lk N k+1<=x.ln):Fz N' S':=by
 let#[d,nm,nd,hd,G,U,o,ne,rfl,rfl,c,I]:=h;let#[L,g2,g3]:=F.dh (k:=k) c o U;show((F.y.DM G (by rw[<-dU G];show hd) L g2 g3).row (x:=x) (n:=k) (hk<*[zm,vr ne]) hx I.1 I.2).z λm=>?_;let#[Z,Y]:=F.oz hd;let a:=eV S (dh (S d) nm k) m Z Y;rw[nR]at a;let b:=F.rf m;rw[Bp,i3 G];cases e:m=k
 .subst e;rw[C' rfl]at a ⊢;lia
 .rw[vr (oR e)]at a;rw[vr e];lia
end
set_option tactic.hygienic true
mutual
theorem qG{kd:Bool}(F:Fz N S)(I:bS p)(h:lC ah N S p kd=.ok (u,N',S')):N u=none/\zp N S u #[135] N' S':=by
 unfold lC at h
 repeat (split at h;· cases h)
 rename_i _ ns Y _ v e2 c _ x r e3 _;let#[W,hd,U,Z]:=oG F e2;let#[nd,G,ab]:=bM hd;let#[hx,L,x1]:=Ar e3;rwa[dt G]at h;show#[hx,2,nd,hd,G,U,(iT I Y).2 _ (iG Z).1,λw=>(hx*>[w,G]),1,ak,L,ak]
theorem JZ{kd:Bool}(F:Fz N S)(G:bS p)(h:lC ah N S p kd=.ok (u,N',S')):Fz N' S':=by
 let#[hx,A]:=qG F G h;show A.fz F (by unfold bL;rw[hx]) (.inr #[1]) (by unfold lk;rw[hx];show Jz _)
variable{q:Str}
theorem rW(F:Fz N S)(U:bS q)(h:rG ah N S p q=.ok (N',S')):∃k x,N k^x/\x.dir=false/\zp N S k { x with ln:=x.ln+1 } N' S':=by
 unfold rG at h
 repeat (split at h;· cases h)
 rename_i _ ns e1 _ I Z _ v e3 c _ w e4 c2 c3;let#[W,hd,ab,Y]:=oG F e4;let#[nd,G,ac]:=bM hd;let#[x,hx]:=(F.way e3).last;let un:¬ lst v=lst w:=λz=>c (z▸hd);let L:cA N (lst w) (some { nd with cs:=bt (dh (S (lst w)) (cF I) (lst v)) }) (lst v)=some x:=(hx<*fb un);rwa[dt G,qt L]at h;show#[_,x,hx,qQ (Y0.mpr c) x hx,2,nd,hd,G,ab,(iT U Z).2 _ (iG Y).1,un,1,ak,F.so _ _ hx]
theorem Kv(F:Fz N S)(I:bS p)(G:bS q)(h:rG ah N S p q=.ok (N',S')):Fz N' S':=by
 let#[k,x,hx,dx,A]:=rW F G h;show A.fz F (dx<*dU hx) (.inl dx) (Jz _<*gy hx)
inductive rS(N:NS)(S:SS)(k:Int)(x:Option Node)(N':NS)(S':SS):Prop
 |mk(d:Int)(nm:Str)(nd:Node)(_:bL N d)(_:N d^nd)(_:fX (S d) nm^k)(_:eZ (S k)=[])(_:¬ k=0)(_:N'=cA (cA N d (some { nd with cs:=bt (dS (S d) nm) })) k x)(_:S'=kW (kW S d (dS (S d) nm)) k [])
theorem rS.fz{x:Option Node}(F:Fz N S)(h:rS N S k x N' S')(hx:(x=none/\lk N k<=1)\/∃y,x^y/\y.dir=false/\lk N k-1<=y.ln):Fz N' S':=by
 let#[d,nm,nd,hd,I,hk,em,k0,rfl,rfl]:=h;let#[Y,g2,g3]:=F.dS (n:=d) nm;let#[z,L]:=F.use hd hk;let G:=F.so _ _ L;show((F.y.DM I (by rw[<-dU I];show hd) Y g2 g3).up (n:=k) (Np (x:=x) (λy e w=>?_) λ_ _=>G) λw=>(k0 w).elim).z λm=>?_
 .rcases hx with⟨rfl,_⟩|⟨y,rfl,dy,_⟩
  .cases e
  .cases e;rwa[dy]at w
 let#[Z,U]:=F.oz hd;let a:=eV S (dS (S d) nm) m Z U;let a2:=eV (kW S d (dS (S d) nm)) [] m G.1 G.2;let z0:cn [] m=0:=rfl;let b:=F.rf m;let e:=kz (S d) nm m;cases c:m=k
 .subst c;let e2:=zu hk;rw[vr k0]at b ⊢;rcases hx with⟨rfl,l⟩|⟨y,rfl,_,l⟩
  .rw[Lo,C' rfl];lia
  .rw[Bp,C' rfl];lia
 .have:lk (cA (cA N d (some { nd with cs:=bt (dS (S d) nm) })) k x) m=lk N m:=by
   rw[<-i3 I (bt (dS (S d) nm))];unfold lk;rw[fb c]
  lia
def lW(F:Fz N S)(G:jP N S h p=.ok (N',S')):∃k x y,N k^x/\x.dir=false/\rS N S k y N' S'/\((y=none/\x.ln=1/\look h k=none)\/(y=some { x with ln:=x.ln + -1 }/\¬ (x.ln=1/\look h k=none))):=by
 unfold jP at G
 repeat (split at G;· cases G)
 rename_i _ ns e1 _ v e3 c;let ac:ns≠[]:=λw=>by
  rwa[w]at e3;show c F.root
 let I:=F.two e3 ac;let#[nd,Y,ad]:=bM I.dir;let#[x,hx]:=(F.way e3).last;let un:¬ lst v=eG v:=λz=>c (z▸I.dir);let ab:cA N (eG v) (some { nd with cs:=bt (dS (S (eG v)) (cF ns)) }) (lst v)=some x:=(hx<*fb un);let dx:=qQ (Y0.mpr c) x hx;let U:=F.bu _ (Y0.mpr c);let k0:¬ lst v=0:=λw=>c (w▸F.root);let Z:kW S (eG v) (dS (S (eG v)) (cF ns))=kW (kW S (eG v) (dS (S (eG v)) (cF ns))) (lst v) []:=(zc (U<*gr un)).6;rw[dt Y,qt ab,gy hx]at G;cases L:x.ln=1/\look h (lst v)=none
 .rw[C' L]at G;cases G;show#[_,x,none,hx,dx,#[2,nd,I.dir,Y,I.fX,by rw[U];rfl,k0,?_,Z],.inl #[rfl,L]];funext m;unfold cA;split<;>rfl
 .rw[vr L]at G;cases G;show#[_,x,_,hx,dx,#[2,nd,I.dir,Y,I.fX,by rw[U];rfl,k0,rfl,Z],.inr #[rfl,L]]
def BL(F:Fz N S)(G:jP N S h p=.ok (N',S')):Fz N' S':=by
 let#[k,x,y,hx,dx,D,o]:=lW F G;show D.fz F ?_;rw[gy hx];rcases o with⟨e,l,_⟩|⟨e,_⟩
 .show .inl #[e,Int.le_of_eq l]
 .show .inr #[_,e,dx,Jz _]
def lQ(F:Fz N S)(h:jG N S p=.ok (N',S')):∃k,bL N k/\rS N S k none N' S':=by
 unfold jG at h
 repeat (split at h;· cases h)
 rename_i _ ns e1 _ v e3;cases c:bL N (lst v)
 case neg=>rwa[vr c]at h
 rw[C' c]at h
 repeat (split at h;· cases h)
 rename_i I U;let Y:ns≠[]:=λw=>by
  rwa[w]at e3;show I rfl
 let G:=F.two e3 Y;let#[nd,L,Z]:=bM G.dir;rwa[dt L]at h;show#[_,c,2,nd,G.dir,L,G.fX,Yz.mp (ZJ U),I,1]
def Ck(F:Fz N S)(h:jG N S p=.ok (N',S')):Fz N' S':=by
 let#[k,dk,D]:=lQ F h;let#[x,hx,dx]:=bM dk;show D.fz F (.inl #[rfl,by rw[gy hx,F.dl _ _ hx dx];decide])
inductive XD(N:NS)(S:SS)(N':NS)(S':SS):Prop
 |mk(d u k:Int)(nm i8:Str)(no nd:Node)(ms:gq)(w:N4)(_:bL N d)(_:N d^no)(_:bL N u)(_:N u^nd)(_:fX (S d) nm^k)(_:i8∉eZ (S u))(_:okN i8)(_:fY N S ms=.ok w)(_:lst w=u)(_:k∉w)(_:(u=d/\(eZ (dS (S d) nm)).9<40/\N'=cA N u (some { nd with cs:=bt (dh (dS (S d) nm) i8 k) })/\S'=kW S u (dh (dS (S d) nm) i8 k))\/(¬ u=d/\(eZ (S u)).9<40/\N'=cA (cA N u (some { nd with cs:=bt (dh (S u) i8 k) })) d (some { no with cs:=bt (dS (S d) nm) })/\S'=kW (kW S u (dh (S u) i8 k)) d (dS (S d) nm)))
theorem wM(F:Fz N S)(hq:bS q)(h:pq ah N S p q=.ok (N',S')):XD N S N' S':=by
 unfold pq at h
 repeat (split at h;· cases h)
 rename_i _ ns e1 _ L e2 ab _ v e3 _ u G c1 c2 _;let#[W,hd,ac,ad]:=oG F G;let#[nd,U,ap]:=bM hd;let Y:=F.two e3 ab;let#[no,Z,ar]:=bM Y.dir;let wy:fY N S L.dropLast=.ok u:=by
  unfold pM at G
  repeat (split at G;· cases G)
  rename_i e;split at G
  .split at G
   .cases G
   .cases G;show e
  .cases G
 show#[eG v,lst u,lst v,cF ns,cF L,no,nd,_,u,Y.dir,Z,hd,U,Y.fX,ac,(iT hq e2).2 _ (iG ad).1,wy,rfl,c1,?_];cases c:lst u=eG v
 .let I:kO S v u (cF ns)=dS (S (eG v)) (cF ns):=(by unfold kO;rw[C' c]);rw[C' c,C' c,I,dt U]at h;rw[I]at c2;cases h;show .inl #[c,ak,1]
 .let I:kO S v u (cF ns)=S (lst u):=(by unfold kO;rw[vr c]);let am:cA N (lst u) (some { nd with cs:=bt (dh (S (lst u)) (cF L) (lst v)) }) (eG v)=some no:=(Z<*fb (oR c));rw[vr c,vr c,I,dt U,dt am]at h;rw[I]at c2;cases h;show .inr #[c,ak,1]
theorem Aq(F:Fz N S)(hp:bS p)(hq:bS q)(h:pq ah N S p q=.ok (N',S')):Fz N' S':=by
 let#[d,u,k,nm,i8,no,nd,_,_,dd,U,hd,G,hk,nw,o,_,_,_,o2]:=wM F hq h;let L:∀{n x},bL N n->N n^x->x.dir:=λa b=>(by rw[<-dU b];show a);let#[o0,o1]:=F.oz dd;let#[Z,u1]:=F.oz hd;let Y:=zu hk;let#[g1,g2,g3]:=F.dS (n:=d) nm;rcases o2 with⟨rfl,I,rfl,rfl⟩|⟨c,I,rfl,rfl⟩
 .let ac:i8∉eZ (dS (S u) nm):=λz=>by
   rw[qi]at z;show nw (YN.mp z).1
  show(F.y.DM G (L hd G) (ss:=dh (dS (S u) nm) i8 k) (kD I g1) (dZ g2 o) ((Az _ _ _).nodup_iff.mpr (YZ.mpr #[ac,g3]))).z λm=>?_;let a:=eV S (dh (dS (S u) nm) i8 k) m Z u1;rw[nR]at a;let b:=F.rf m;let e:=kz (S u) nm m;rw[i3 G];cases d:k=m
  .rw[C' d]at a;rw[d]at Y;lia
  .rw[vr d]at a;lia
 .let ab:cA N u (some { nd with cs:=bt (Fs.dh (S u) i8 k) }) d=some no:=(U<*fb (oR c));let#[k1,k2,k3]:=F.dh (k:=k) I o nw;show((F.y.DM G (L hd G) k1 k2 k3).DM ab (L dd U) g1 g2 g3).z λm=>?_;let a:=eV S (Fs.dh (S u) i8 k) m Z u1;rw[nR]at a;let a2:=eV (kW S u (Fs.dh (S u) i8 k)) (Fs.dS (S d) nm) m o0 o1;rw[gr (oR c)]at a2;let b:=F.rf m;let e:=kz (S d) nm m;rw[i3 ab,i3 G];cases d:k=m
  .rw[C' d]at a;rw[d]at Y;lia
  .rw[vr d]at a;lia
abbrev NW(N N':NS):=N'=N\/∃n nd cs,N n^nd/\nd.dir=false/\N'=cA N n (some { nd with cs:=cs })
def NW.fz(F:Fz N S)(h:NW N N'):Fz N' S:=by
 obtain rfl|⟨n,nd,cs,G,hd,rfl⟩:=h
 .show F
 let I:=F.so _ _ G;show(F.y.row (x:={ nd with cs:=cs }) (hd<*dU G) (.inl hd) I.1 I.2).z λm=>?_;rw[i3 G];show F.rf m
theorem tG(F:N n^nd)(hd:nd.dir=false)(h:oM ah N n cs=.ok N'):NW N N':=by
 unfold oM at h;split at h
 .cases h
 .cases h;rw[dt F];show .inr #[n,nd,cs,F,hd,rfl]
variable{a:Int}
theorem vc(h:CW ah N n a=.ok N'):NW N N':=by
 unfold CW at h;split at h
 .cases h
 .rename_i e;let#[nd,F,hd]:=lR e;split at h
  .show tG F hd h
  .cases h
theorem nY(h:nV ah N n a cs=.ok N'):NW N N':=by
 unfold nV at h;split at h
 .cases h
 .rename_i e;let#[nd,F,hd]:=lR e;split at h
  .split at h
   .split at h
    .cases h;show .inl rfl
    .show tG F hd h
   .cases h
  .cases h
inductive Xm(N:NS)(h:HT)(n:Int)(N':NS)(h':HT):Prop
 |mk(nd:Node)(v:Int)(_:N n^nd)(_:look h n^v)(_:h'=Dv h n v)(_:(N'=N/\¬ (nd.ln=0/\look h' n=none))\/(N'=cA N n none/\nd.ln=0/\look h' n=none))
variable{h':HT}
def gM(q:ir N h n=.ok (N',h')):Xm N h n N' h':=by
 unfold ir at q;cases e:N n with
 |none=>rwa[e]at q
 |some nd =>
  rw[e]at q;dsimp only at q;cases F:look h n with
  |none=>rwa[F]at q
  |some v =>
   rw[F]at q;dsimp only at q;cases c:nd.ln=0/\look (Dv h n v) n=none
   .rw[C' c]at q;cases q;show#[nd,v,e,F,rfl,.inr #[rfl,c]]
   .rw[vr c]at q;cases q;show#[nd,v,e,F,rfl,.inl #[rfl,c]]
theorem Br(F:Fz N S)(e:N n^nd)(l:nd.ln=0):bL (cA N n none)=bL N/\lk (cA N n none)=lk N:=by
 show#[funext λm=>?_,funext λm=>?_]
 .rw[Fv];cases c:m=n
  .rw[C' c,c,dU e];cases d:nd.dir with
   |false=>rfl
   |true=>have:=F.dl _ _ e d;lia
  .rw[vr c]
 .rw[Lo];cases c:m=n
  .rw[C' c,c,gy e,l]
  .rw[vr c]
def Eo(F:Fz N S)(q:ir N h n=.ok (N',h')):Fz N' S:=by
 obtain⟨nd,v,e,_,_,⟨rfl,_⟩|⟨rfl,l,_⟩⟩:=gM q
 .show F
 .let#[G,I]:=Br F e l;show(F.y.WW ?_).z λm=>(F.rf m<*I);rw[<-G,Fv,C' rfl]
end
end
mutual
abbrev iz:=Str×Int
def yU(x:iz)(ss:List Slot):List iz:=ss.filterMap λs=>s.map λq=>(x.1++SL++q.1,q.2)
def j8(S:SS)(x:iz):List iz:=yU x (S x.2)
noncomputable def j0(N:NS)(S:SS)(a:List iz×List iz):List iz×List iz:=match a.2.getLast? with
 |none=>a
 |some x=>(a.1++j8 S x,a.2.dropLast++(j8 S x).filter λq=>bL N q.2)
noncomputable def HB(N:NS)(S:SS):Nat->List iz×List iz
 |0=>([],[("",0)])
 |i+1=>j0 N S (HB N S i)
def xS(x:iz)(s:Slot)(ss:List Slot):yU x (s::ss)=(match s with|none=>[]|some q=>[(x.1++SL++q.1,q.2)])++yU x ss:=by
 unfold yU;rw[uK];cases s<;>rfl
theorem uX(x:iz):∀ss:List Slot,(yU x ss).map (·.1)=(eZ ss).map λn=>x.1++SL++n
 | []=>rfl
 |s::ss=>by
  rw[xS,dg,DD,DD,uX x ss];cases s<;>rfl
theorem qf(x:iz)(c:Int):∀ss:List Slot,((yU x ss).map (·.2)).count c=cn ss c
 | []=>rfl
 |s::ss=>by
  rw[xS,fO,DD,aeY,qf x c ss];cases s with
  |none=>change 0+_=_+0;lia
  |some q =>
   change List.count c [q.2]+_=_+(if decide (q.2=c)then 1 else 0);rw[C3,List.count_nil];cases z:q.2=c
   .rw[C' (beq_self_eq_true c<*z),C' (Ja z)];lia
   .rw[vr (λw=>z (yE w)),vr (λw=>z (cL w))];lia
theorem zP(N:NS)(c:Int):∀l:List iz,((l.filter λq=>bL N q.2).map (·.2)).count c=if bL N c then(l.map (·.2)).count c else 0
 | []=>by split<;>rfl
 |q::l=>by
  let F:=zP N c l;cases z:bL N q.2
  .rw[Zv (p:=λq:iz=>bL N q.2) z,Y5,Y5,C3,C3,F];cases y:bL N c
   .rw[C' y,C' y]
   .rw[vr y,vr y,vr (λw=>y (by rw[<-yE w];show z))]
  .rw[Zn (p:=λq:iz=>bL N q.2) z,F,Y5,C3];cases y:bL N c
   .rw[C' y,C' y,vr (λw=>z (y<*yE w))];lia
   .rw[vr y,vr y]
def Rz{a b c d:List Nat}(h:a++47::b=c++47::d)(I:47∉b)(hd:47∉d):a=c/\b=d:=by
 rcases List.append_eq_append_iff.mp h with⟨e,h1,h2⟩|⟨e,h1,h2⟩
 .cases e with
  |nil =>
   rw[Yw]at h1;injection h2 with _ h2;show#[h1.6,h2]
  |cons x e =>
   injection h2 with G F;show D9 (DO _ Yn<*F) I
 .cases e with
  |nil =>
   rw[Yw]at h1;injection h2 with _ h2;show#[h1,h2.6]
  |cons x e =>
   injection h2 with G F;show D9 (DO _ Yn<*F) hd
def iX(a b:Str):(a++b).cps.7=a.cps.7++b.cps.7:=Zh
variable{n:Str}
theorem QV(h:okN n):47∉n.cps.7:=λz=>by have:=h.lt 47 z;lia
def AB{a b:Str}(h:a.cps.7=b.cps.7):a=b:=by
 cases a;cases b;show Ur Str.mk (ae7.mp h)
def p8{x y m:Str}(G:okN n)(F:okN m)(h:x++SL++n=y++SL++m):x=y/\n=m:=by
 let e:(x++SL++n).cps.7=(y++SL++m).cps.7:=(by rw[h]);rw[iX,iX,iX,iX,show SL.cps.7=[47]by decide +kernel,YA,YA]at e;let#[h1,h2]:=Rz e (QV G) (QV F);show#[AB h1,AB h2]
def EO(h:∀s∈ss,∀p,s^p->okN p.1)(G:n∈eZ ss):okN n:=by
 let#[s,hs,e]:=Z2.mp G;let#[p,F,rfl]:=NC.mp e;show h s hs p F
def Gr(F:Fz N S)(x:iz):((j8 S x).map (·.1)).4:=by
 unfold j8;rw[uX];let ok:=λn L=>EO (n:=n) (F.ok x.2) L;let nd:=F.nd x.2;generalize eZ (S x.2)=l at *
 induction l with
 |nil=>show mh
 |cons n l I =>
  rw[YZ]at nd;rw[Y5,YZ];show#[λz=>?_,I (λm G=>ok m (Yp _ G)) nd.2];let#[m,G,e]:=Yj.mp z;have:=(p8 (ok m (Yp _ G)) (ok n Yn) e).2;show nd.1 (this▸G)
variable{x:iz}
def qp(F:Fz N S)(h:p∈(j8 S x).map (·.1)):∃n,okN n/\p=x.1++SL++n:=by
 unfold j8 at h;rw[uX]at h;let#[n,G,rfl]:=Yj.mp h;show#[n,EO (F.ok x.2) G,rfl]
theorem zC{N:NS}{S:SS}(F:Fz N S):∀{pv:List iz},(pv.map (·.1)).4->(((pv.map (j8 S)).11).map (·.1)).4/\∀p∈((pv.map (j8 S)).11).map (·.1),∃x∈pv,∃n,okN n/\p=x.1++SL++n
 | [],_=>#[mh,143]
 |x::pv,nd=>by
  rw[Y5,YZ]at nd;let#[h1,h2]:=zC F nd.2;rw[Y5,ZV,DD];show#[YJ.mpr #[Gr F x,h1,λa Z b U e=>?_],λp G=>?_]
  .let#[n,L,rfl]:=qp F Z;let#[y,I,m,Y,e2]:=h2 b U;have:=(p8 L Y (e.trans e2)).1;show nd.1 (Yj.mpr #[y,I,this.6])
  .rcases Yh.mp G with G|G
   .let#[n,L,e]:=qp F G;show#[x,Yn,n,L,e]
   .let#[y,I,q]:=h2 p G;show#[y,Yp _ I,q]
structure Wk(N:NS)(S:SS)(i:Nat)(pv met ahead:List iz):Prop where
 eq:HB N S i=(met,ahead)
 ln:pv.9=i
 mt:met=(pv.map (j8 S)).11
 pn:((pv++ahead).map (·.1)).4
 pm:∀y∈pv++ahead,y.1 = "" \/ y.1∈met.map (·.1)
 nn:((pv++ahead).map (·.2)).4
 dn:∀y∈pv++ahead,bL N y.2
 fr:∀y∈pv++ahead,y.2=0\/∃v∈pv,1<=cn (S v.2) y.2
 le:∀y∈pv++ahead,y.1.9<=7*i
def Fz.SW(F:Fz N S):Wk N S 0 [] [] [("",0)]:=#[1,rfl,YZ.mpr #[λh=>(by cases h),mh],λy h=>.inl rfl<*z4.mp h,YZ.mpr #[λh=>(by cases h),mh],λy h=>F.root<*z4.mp h,λy h=>.inl rfl<*z4.mp h,λy h=>BY _<*z4.mp h]
variable{pv met ahead:List iz}
theorem Wk.lt(W:Wk N S i pv met ahead)(F:Fz N S):i+ahead.9<=24:=by
 have:=Qu 24 0 ((pv++ahead).map (·.2)) W.nn λx hx=>by
  let#[y,G,rfl]:=Yj.mp hx;have:=F.oz (W.dn y G);lia
 rw[si,tp,W.ln]at this;show this
def Wk.WS(W:Wk N S i pv met ahead)(F:Fz N S):(met.map (·.1)).4:=by
 have:(pv.map (·.1)).4:=by
  have:=W.pn;rw[DD]at this;show(YJ.mp this).1
 rw[W.mt];show(zC F this).1
theorem Wk.QT(W:Wk N S i pv met ahead)(F:Fz N S):met.9<=40*i:=by
 rw[W.mt, <-W.ln];generalize pv=l
 induction l with
 |nil=>show Zy _
 |cons x l G =>
  rw[Y5,ZV,tp,YU];have:(j8 S x).9<=40:=Oi (me ..) (F.len x.2);lia
theorem Wk.next{b:List iz}(W:Wk N S i pv met (b++[x]))(F:Fz N S):Wk N S (i+1) (pv++[x]) (met++j8 S x) (b++(j8 S x).filter λq=>bL N q.2):=by
 let hx:x∈pv++(b++[x]):=DO _ (DO _ (z4.mpr rfl));let dx:=W.dn x hx;let#[Z,x1]:=F.oz dx;let WS:=W.WS F;let re:∀y,y∈(pv++[x])++(b++(j8 S x).filter λq=>bL N q.2)↔y∈pv++(b++[x])\/y∈(j8 S x).filter λq=>bL N q.2:=λy=>by
  simp only[Yh,z4];constructor
  .rintro((h|h)|(h|h))
   .show .inl (.inl h)
   .show .inl (.inr (.inr h))
   .show .inl (.inr (.inl h))
   .show .inr h
  .rintro((h|(h|h))|h)
   .show .inl (.inl h)
   .show .inr (.inl h)
   .show .inl (.inr h)
   .show .inr (.inr h)
 let ab:((pv++[x])++(b++(j8 S x).filter λq=>bL N q.2)).Perm ((pv++(b++[x]))++(j8 S x).filter λq=>bL N q.2):=by
  rw[YA,YA];show ady pv ?_;rw[<-YA];show ade _ (List.perm_append_comm)
 let I:∀y∈(j8 S x).filter (λq=>bL N q.2),y∈j8 S x/\bL N y.2:=λy G=>YN.mp G;let cnt:∀y∈j8 S x,1<=cn (S x.2) y.2:=λy G=>by
  rw[<-qf x];show Ra.mpr (Yj.mpr #[y,G,rfl])
 let ac:∀c,bL N c->lk N c=1:=λc L=>by
  let#[nd,h1,h2]:=bM L;rw[gy h1,F.dl _ _ h1 h2]
 show#[?_,by rw[tp,W.ln];rfl,by rw[DD,MQ, <-W.mt];change _=met++(j8 S x++[]);rw[Yw],?_,λy G=>?_,?_,λy G=>?_,λy G=>?_,λy G=>?_]
 .change j0 N S (HB N S i)=_;rw[W.eq];unfold j0;dsimp only;rw[Ej,xl];rfl
 .rw[(ab.map (·.1)).nodup_iff,DD,YJ];show#[W.pn,(Gr F x).sublist ((aef).map _),λa ha c L e=>?_];let#[y,G,rfl]:=Yj.mp ha;let#[q,U,rfl]:=Yj.mp L;let#[n,hn,e2]:=qp F (Yj.mpr #[q,(I q U).1,rfl]);obtain h|h:=W.pm y G
  .rw[h]at e;have:("" : Str).cps.7=(x.1++SL++n).cps.7:=(by rw[e.trans e2]);rw[iX,iX,show SL.cps.7=[47]by decide +kernel,show("" : Str).cps.7=[]by decide +kernel]at this;simp at this
  .rw[e,e2,W.mt]at h;let pn:=W.pn;rw[DD]at pn;let#[p1,p2,p3]:=YJ.mp pn;let#[z,hz,m,hm,e3]:=(zC F p1).2 _ h;show p3 z.1 (Yj.mpr #[z,hz,rfl]) x.1 (Yj.mpr #[x,77,rfl]) (p8 hn hm e3).1.symm
 .rw[DD];rcases(re y).mp G with h|h
  .show(W.pm y h).imp id λz=>YC _ z
  .show .inr (DO _ (Yj.mpr #[y,(I y h).1,rfl]))
 .rw[(ab.map (·.2)).nodup_iff,DD,YJ];show#[W.nn,List.nodup_iff_count.mpr λc=>?_,λa ha c L e=>?_]
  .rw[zP];cases z:bL N c
   .rw[C' z];let h1:((j8 S x).map (·.2)).count c=cn (S x.2) c:=qf x c _;let h2:=ni S c Z x1;let h3:=F.rf c;let h4:=ac c z;have:(0:Int)<=(if c=0 then 1 else 0):=(by split<;>decide);lia
   .rw[vr z];show Zy _
  .let#[y,G,rfl]:=Yj.mp ha;let#[q,U,rfl]:=Yj.mp L;let h1:=cnt q (I q U).1;let h2:=ni S q.2 Z x1;let h3:=F.rf q.2;let h4:=ac q.2 (I q U).2;obtain h|⟨v,Y,h⟩:=W.fr y G
   .rw[C' (by rw[<-e];show h)]at h3;lia
   .rw[e]at h;let dv:=W.dn v (YC _ Y);let#[v0,v1]:=F.oz dv;let nn:=W.nn;rw[DD]at nn;let ne:¬ v.2=x.2:=(YJ.mp nn).2.2 _ (Yj.mpr #[v,Y,rfl]) _ (Yj.mpr #[x,77,rfl]);have:=Dq S q.2 v0 v1 Z x1 ne;have:(0:Int)<=(if q.2=0 then 1 else 0):=(by split<;>decide);lia
 .rcases(re y).mp G with h|h
  .show W.dn y h
  .show(I y h).2
 .rcases(re y).mp G with h|h
  .show(W.fr y h).imp id λ⟨v,Y,q⟩=>#[v,YC _ Y,q]
  .show .inr #[x,77,cnt y (I y h).1]
 .rcases(re y).mp G with h|h
  .have:=W.le y h;lia
  .let#[n,hn,e]:=qp F (Yj.mpr #[y,(I y h).1,rfl]);rw[e,Kk,Kk,show SL.9=1 by decide +kernel];have:=W.le x hx;have:n.9<=6:=hn.hi;lia
noncomputable def nO(N:NS)(S:SS):List iz:=(HB N S 24).1
def JQ(j:Nat):(h:(HB N S i).2=[])->HB N S (i+j)=HB N S i:=by
 induction j with
 |zero=>show λ_=>rfl
 |succ j F =>
  intro h;change j0 N S (HB N S (i+j))=_;rw[F h];unfold j0;rw[h];rfl
theorem Wk.done(W:Wk N S i pv met [])(F:Fz N S):met=nO N S:=by
 let l:=W.lt F;rw[R5]at l;unfold nO;have:=JQ (N:=N) (S:=S) (i:=i) (24-i) (by rw[W.eq]);rw[show i+(24-i)=24 by lia]at this;rw[this,W.eq]
inductive Mr(M:b7)(v:vl)(H:Hp)(Q:VK)(e:XK):Prop
 |mk(a:ZX)(m:M.St)(ah d:Nat)(N:NS)(S:SS)(t:ZX)(x:iz)(_:v=[.ref a,.ref t])(_:M.At H a m ah N d)(_:Fz N S)(_:H t|||[.str x.1,.int x.2])(_:bL N x.2)(_:x.1.9<=1000)(_:∀(J:Hp)(q:ZX)(ws:vl),aG H J->H q=none->J q%ws->kL J ws (j8 S x)->Q (.ref q) J)
def iQ(s:aG H J):∀t ys,H t|||ys->J t|||ys:=λ_ _ e=>s _ _ e
noncomputable def RW(x:iz)(s:Slot):List iz:=match s with
 |none=>[]
 |some q=>[(x.1++SL++q.1,q.2)]
def DQ(x:iz)(ss:List Slot)(s:Slot):yU x (ss++[s])=yU x ss++RW x s:=by
 unfold yU;rw[adH];cases s<;>rfl
abbrev Mp:Yv:=top 77
abbrev V1:Yv:=top 78
def QG:aA "nodes step".1 "nodes step".1 (ao Mp):=L2.bo
theorem rD(F:bV K "steps_within" "steps_within" Mp f fd)(O:M.Ok P w K mg base)(ar:-Df 8 "slots_of" (rH M)):-aO 9 f fd "nodes step".1 (Mr M):=by
 show F.dZ QG ?_;intros;let#[a,m,ah,d,N,S,t,x,rfl,A1,Z,L,hd,lx,kQ]:=h;let hs:=HC;let#[nd,ab,ac]:=bM hd;show#[_,%[0,hr,c,S,(eR (cl:=[("step",s.13+1)]) (sI:=[("step",1)])),b7,bJ,d,ar,aS,o,u,ch,i,jF,0,a1,u,aA,b,aU,gO,aU,gO,bM,b8,1,aE,bM,b8,0,a,bM,b8,0|9],?_];show#[0,0,t,_,(1),.int x.2,1,eM.of L,119,a,17,x.2,nd,S x.2,rfl,A1,ab,Z.enc _ _ ab ac,27,λH1 q1 ap I f1 e1 S1=>#[q1,rfl,#[_,bh.of e1],?_]];let as:=Z.len x.2;let bK:=Z.ok x.2;show jv (K:=K) (a:=q1) (xs:=ap) (λi ys H'=>kL H' ys (yU x ((S x.2).take i))/\aG H1 H') #[kL.nil,λ_ _ e=>e] (λi ys H' _ z=>bh.of (z.2 _ _ e1)) ?_ ?_
 .rintro i v ys H' hx ⟨TA,G⟩;let#[sl,Y,a2]:=S1.at_ i v hx;let et:yU x ((S x.2).take (i+1))=yU x ((S x.2).take i)++RW x sl:=(DQ _ _ _<*[Y9,Y]);let ly:ys.9<=40:=by
   have:(yU x ((S x.2).take i)).9<=((S x.2).take i).9:=me ..;rw[Nx]at this;rw[TA.ln];lia
  show#[0,11];cases sl with
  |none =>
   cases a2;show cO #[by rw[et];change kL H' ys (_++[]);rw[Yw];show TA,G]
  |some p =>
   let#[t2,rfl,ad]:=a2;let on:=bK _ (Yk Y) p rfl;let ln:p.1.9<=6:=on.hi;let l1:x.1.9+SL.9<=yr:=(by rw[show SL.9=1 by decide +kernel];lia);let l2:(x.1++SL).9+p.1.9<=yr:=(by rw[Kk,show SL.9=1 by decide +kernel];lia);let am:=G _ _ (I _ _ L);let U:=G _ _ ad;show de #[100,.str x.1,1,eM.of am,118,x.1,SL,1,l1,0,t2,_,(0),.str p.1,1,eM.of U,118,x.1++SL,p.1,1,l2,0,t2,_,(1),.int p.2,1,eM.of U,119,eW,λt3 f3=>#[ak,?_,G.trans (aj f3)]];rw[et];show(TA.same (iQ (aj f3))).app (kL.one (p:=(x.1++SL++p.1,p.2)) ag)
 .rintro ys H' ⟨TA,G⟩ r fr;rw[S1.ln,Zo]at TA;let s3:=aj (X:=.lst ys) fr;show kQ _ r ys (I.trans (G.trans s3)) (aR (I.trans G) fr) ag (TA.same (iQ s3))
inductive Ms(M:b7)(v:vl)(H:Hp)(Q:VK)(e:XK):Prop
 |mk(a:ZX)(m:M.St)(ah d:Nat)(N:NS)(S:SS)(_:v=[.ref a])(_:M.At H a m ah N d)(_:Fz N S)(_:∀(J:Hp)(q:ZX)(ws:vl),aG H J->H q=none->J q%ws->kL J ws (iD (nO N S))->Q (.ref q) J)
inductive WQ(N:NS)(S:SS)(a m1 a1:ZX)(H2:Hp)(k:Nat)(σ:St)(H':Hp):Prop
 |mk (i:Nat) (pv met ahead:List iz) (wm wa:vl) (v3:Option V) (_:k+i=24) (_:σ=#v[.ref a,.ref m1,.ref a1,v3]) (_:Wk N S i pv met ahead) (_:H' m1%wm) (_:H' a1%wa) (_:kL H' wm met) (_:kL H' wa ahead) (_:Q5 (λx=>x=m1\/x=a1) H2 H'):WQ N S a m1 a1 H2 k σ H'
def Kj:aA "nodes met ahead within".1 ["nodes"] (ao V1):=L2.bo
theorem Jt(F:bV K "walk" "walk" V1 f fd)(T:l9 K mg X)(O:M.Ok P w K mg base)(a3:-Df 9 "steps_within" (Mr M)):-aO 10 f fd ["nodes"] (Ms M):=by
 show F.dZ Kj ?_;intros;let#[a,m,ah,d,N,S,rfl,A1,Z,kQ]:=h;let hs:=HC;show#[_,%[Kj,hr,aR,bA,aH,x,a,aA,b,aE,a,cl,f,cv,aa9,YH,bE,t,g,r,ba,d,a3,aS,S,abV,Y6,PySem.F.slot_list_pop,PySem.F.type_list_pop,aeM,2,f,M,bg,zJ,M5,ku,1,H',l,bg,zJ,M5,ku,2,a,S,(eR (cl:=[("nodes",s.13+1)]) (sI:=[("nodes",0)])),b7,bJ,3,u,ch,w,E,1,c0,a,bM,b8,0,O,u,0,c,q,ux,T.sorted,oj,e|9],?_]
 show#[az,λG f1=>?_];let#[s1,e1]:=gI (X:=.lst []) f1;generalize QZ _ _ (.lst [])=H1 at *;show#[eW,λt0 f2=>#[eW,λa1 f3=>?_]];let s2:=aj (X:=.tup [V.str "",V.int 0]) f2;let#[s3,ea]:=gI (X:=.lst [V.ref t0]) f3;generalize QZ _ _ (.lst [V.ref t0])=H2 at *;let et:=s3 _ _ (ag (H:=H1) (a:=t0) (o:=.tup [V.str "",V.int 0]));let em:=s3 _ _ (s2 _ _ e1);let aX:=s1.trans (s2.trans s3);let fa:H a1=none:=aR (s1.trans s2) f3;let ma:G≠a1:=λz=>(by rwa[<-z,s2 _ _ e1]at f3);let ar:∀{x u},H x^u->x≠G/\x≠a1:=λe=>#[λz=>(e*>[z,f1]),λz=>(e*>[z,fa])];show#[WQ N S a G a1 H2,#[(24),#[(0),[],[],[("",0)],[],[.ref t0],0,rfl,Z.SW,em,ea,kL.nil,kL.one (p:=("",0)) et,131]],?_];rintro k σ H' ⟨i,pv,met,ahead,L,wa,v3,hk,rfl,W,hm,ha,Tm,Ta,oJ⟩;let sJ:aG H H':=λx u e=>oJ _ _ (aX _ _ e) λz=>z.elim (ar e).1 (ar e).2;let AJ:=O.same A1 sJ;let lt:=W.lt Z;let ml:=W.QT Z;let lm:=Tm.ln;let la:=Ta.ln;show#[0,a1,wa,rfl,.inl (bh.of ha),32];show fH (λc=>?_) (λc=>?_)
 .let c0:0<wa.9:=(by have:=cL c;lia);let ne:ahead≠[]:=λz=>(by rw[z,R5]at la;lia);obtain⟨b,x,rfl⟩:∃b x,ahead=b++[x]:=#[2,(YG ne).6];rw[tp,Yq]at lt la;let#[us,t,rfl,Tb,ht]:=Ta.last (v:=.bu);let W2:=W.next Z;let hx:x∈pv++(b++[x]):=DO _ (DO _ (z4.mpr rfl));let lx:=W.le x hx;show#[WQ N S a G a1 H2 (k-1),λa7 J z=>#[k-1,ak,z],?_];show#[0,0,.inl #[5,bh.of ha],a1,_,.ref t,1,ha,by rw[tp,Yq,Nat.add_sub_cancel,Ya (BY _),ZU];rfl,?_];rw[xl];let o1:Q5 (· = a1) H' (QZ H' a1 (.lst us)):=λy u e z=>(e<*au z);let ac:QZ H' a1 (.lst us) G%L:=(hm<*au ma);let aK:QZ H' a1 (.lst us) a1%us:=ag;let aN:=Tm.upd (o:=.lst us) ha;let a5:=Tb.upd (o:=.lst us) ha;let aY:QZ H' a1 (.lst us) t|||[.str x.1,.int x.2]:=(ht<*au (λz=>by rwa[z,ha]at ht));let no:∀y,M.own m y->¬ y=a1:=λy hy z=>O.live A1 hy (fa<*z);let na:¬ a=a1:=λz=>by
   let#[dx,kX,U,_]:=O.ob A1;rwa[z,fa]at U
  let A2:=O.off AJ o1 no na;let o2:Q5 (λx=>x=G\/x=a1) H2 (QZ H' a1 (.lst us)):=λy u e z=>o1 _ _ (oJ _ _ e z) λq=>z (.inr q);generalize QZ H' a1 (.lst us)=J1 at *;show#[a,17,S,t,x,rfl,A2,Z,aY,W.dn x hx,ak,λJ2 q2 I t2 ap e2 T2=>?_];let l2:(j8 S x).9<=40:=Oi (me ..) (Z.len x.2);let lw:=T2.ln;show#[0,.inl #[5,bh.of (t2 _ _ ac)],0,G,q2,L,I,1,t2 _ _ ac,e2,ak,?_];let qm:q2≠G:=λz=>(ap*>[z,ac]);let o3:Q5 (· = G) J2 (QZ J2 G (.lst (L++I))):=λy u e z=>(e<*au z);let a4:QZ J2 G (.lst (L++I)) G%(L++I):=ag;let ad:QZ J2 G (.lst (L++I)) a1%us:=(t2 _ _ aK<*au (oR ma));let aT:=((aN.same (iQ t2)).app T2).upd (o:=.lst (L++I)) (t2 _ _ ac);let ay:=(a5.same (iQ t2)).upd (o:=.lst (L++I)) (t2 _ _ ac);let T3:=T2.upd (o:=.lst (L++I)) (t2 _ _ ac);let e3:QZ J2 G (.lst (L++I)) q2%I:=(e2<*au qm);let A3:=O.off (O.same A2 t2) o3 (λy hy z=>O.live A1 hy (f1<*z)) (λz=>by
   let#[dx,kX,U,_]:=O.ob A1;rwa[z,f1]at U)
  let o4:Q5 (λx=>x=G\/x=a1) H2 (QZ J2 G (.lst (L++I))):=λy u e z=>o3 _ _ (t2 _ _ (o2 _ _ e z)) λq=>z (.inl q);generalize QZ J2 G (.lst (L++I))=J3 at *;show#[0,.inl #[5,bh.of ad],0,q2,rfl,#[_,40],?_];show jv (K:=K) (a:=q2) (xs:=I) (λj ys J'=>kL J3 ys (((j8 S x).take j).filter λq=>bL N q.2)/\aG J3 J') #[kL.nil,λ_ _ e=>e] (λj ys J' _ z=>bh.of (z.2 _ _ e3)) ?_ ?_
  .rintro j v ys J' hv ⟨TA,ab⟩;let#[p,t5,e5,rfl,am]:=T3.at_ j v hv;let A5:=O.same A3 ab;let#[dx,kX,U,a6,a0]:=O.ob A5;let ly:ys.9<=40:=by
    have:(((j8 S x).take j).filter λq=>bL N q.2).9<=((j8 S x).take j).9:=Zx ..;rw[Nx]at this;rw[TA.ln];lia
   show#[25,U,a0 _ ax,0,t5,_,(1),.int p.2,1,eM.of (ab _ _ am),119,a,17,p.2,rfl,A5,λJ6 s6=>#[by cases N p.2<;>rfl,0,?_]];rw[mj];let tk:(j8 S x).take (j+1)=(j8 S x).take j++[p]:=(by rw[Y9,e5];rfl);cases cd:bL N p.2 with
   |true =>
    show de #[0,ak,?_,ab.trans s6];rw[tk,ZY,Zv (p:=λq:iz=>bL N q.2) cd];show TA.app (kL.one am)
   |false =>
    show cO #[?_,ab.trans s6];rw[tk,ZY,Zn (p:=λq:iz=>bL N q.2) (by rw[cd];nofun),E7,Yw];show TA
  .rintro ys J' ⟨TA,ab⟩ r fr;rw[lw,Zo]at TA;let Y:=ab.trans (aj (X:=.lst ys) fr);let lf:((j8 S x).filter λq=>bL N q.2).9<=(j8 S x).9:=Zx ..;let ly:=TA.ln;let lb:=ay.ln;show#[a1,r,us,ys,1,Y _ _ ad,ag,ak,?_];show#[i+1,pv++[x],met++j8 S x,b++(j8 S x).filter λq=>bL N q.2,L++I,us++ys,_,ak,rfl,W2,?_,ag,4,λy u e z=>?_]
   .rw[au ma];show Y _ _ a4
   .show(aT.same (iQ Y)).upd (Y _ _ ad)
   .show((ay.app TA).same (iQ Y)).upd (Y _ _ ad)
   .rw[au λq=>z (.inr q)];show Y _ _ (o4 _ _ e z)
 .let c0:ahead=[]:=Yz.mp (by
   have:¬ (0:Int)<(wa.9:Nat):=λz=>c (Ja z);lia)
  subst c0;rw[W.done Z]at Tm;let as:=W.done Z;show#[0,G,L,nO N S,rfl,bh.of hm,Tm,by rw[<-as];show W.WS Z,by rw[<-as];lia,λl2 aB f5 T5=>?_];let s5:=aj (X:=.lst aB) f5;show kQ _ l2 aB (sJ.trans s5) (aR sJ f5) ag (T5.same (iQ s5))
def pL(nd:Node):List Int:=if nd.dir then[]else nd.cs
inductive Mb(H:Hp)(N:NS)(v:V)(x:iz):Prop
 |mk(nd:Node)(t cl:ZX)(_:N x.2^nd)(_:v=.ref t)(_:H t|||[.str x.1,.str (pF nd.dir),.int nd.ln,.ref cl])(_:H cl%((pL nd).map V.int))
structure HI(H:Hp)(N:NS)(ws:vl)(ps:List iz):Prop where
 ln:ws.9=ps.9
 at_:∀(i:Nat)(v:V),ws[i]?^v->∃x,ps[i]?^x/\Mb H N v x
variable{v:V}
def Mb.same(A:Mb H N v x)(s:aG H J):Mb J N v x:=by
 let#[nd,t,cl,a,b,c,d]:=A;show#[nd,t,cl,a,b,s _ _ c,s _ _ d]
variable{ps:List iz}
theorem HI.same(A:HI H N ws ps)(s:aG H J):HI J N ws ps:=#[A.ln,λi v h=>by
 let#[x,e,q]:=A.at_ i v h;show#[x,e,q.same s]]
theorem HI.snoc(A:HI H N ws ps)(B:Mb H N v x):HI H N (ws++[v]) (ps++[x]):=by
 let l:=A.ln;show#[by rw[tp,tp,l];rfl,λi w h=>?_];cases c:i<ws.9
 .rw[Yo c]at h;let#[y,e,q]:=A.at_ i w h;show#[y,e<*Yo ak,q]
 .rw[Ya ak]at h;let hi:i-ws.9=0:=by
   have:=(wh.mp h).1;rw[Yq]at this;lia
  rwa[hi]at h;show#[x,by rw[Ya ak, <-l,hi];rfl,B]
inductive O7(M:b7)(CF:ZX)(vs:vl)(H:Hp)(Q:VK)(e:XK):Prop
 |mk(z:FA)(m:M.St)(ah d:Nat)(N:NS)(h:HT)(x:iz)(nd:Node)(_:vs=[.ref z.a,.str x.1,.int x.2])(_:cI M CF H z m ah N h d)(_:N x.2^nd)(_:∀(J:Hp)(v:V),aG H J->Mb J N v x->Q v J)
inductive Gi(M:b7)(CF:ZX)(v:vl)(H:Hp)(Q:VK)(e:XK):Prop
 |mk(z:FA)(m:M.St)(ah d:Nat)(N:NS)(S:SS)(h:HT)(_:v=[.ref z.a])(_:cI M CF H z m ah N h d)(_:Fz N S)(_:∀(J:Hp)(q:ZX)(ws:vl),aG H J->H q=none->J q%ws->HI J N ws (iD (nO N S))->Q (.ref q) J)
theorem yA{N:NS}{S:SS}(F:Fz N S):∀(k i:Nat){pv met ahead:List iz},k+i=24->Wk N S i pv met ahead->∃i pv met,Wk N S i pv met []
 |0,i,pv,met,ahead,h,W=>by
  have:=W.lt F;have:ahead=[]:=Yz.mp ak;show#[i,pv,met,this▸W]
 |k+1,i,pv,met,ahead,h,W=>by
  cases c:ahead=[]
  .show#[i,pv,met,c▸W]
  .obtain⟨b,x,rfl⟩:∃b x,ahead=b++[x]:=#[2,(YG c).6];show yA F k (i+1) ak (W.next F)
theorem Fe(F:Fz N S)(h:x∈nO N S):∃nd,N x.2^nd:=by
 let#[i,pv,met,W]:=yA F 24 0 rfl F.SW;rw[<-W.done F,W.mt]at h;let#[l,I,hx]:=Kt.mp h;let#[y,L,rfl]:=Yj.mp I;let#[U,G]:=F.oz (W.dn y (YC _ L));let c:1<=cn (S y.2) x.2:=by
  rw[<-qf y];show Ra.mpr (Yj.mpr #[x,hx,rfl])
 have:=ni S x.2 U G;have:=F.rf x.2;show yR ?_;have:(0:Int)<=(if x.2=0 then 1 else 0):=(by split<;>decide);lia
theorem zG(F:Fz N S):(iD (nO N S)).9<=960:=by
 let#[i,pv,met,W]:=yA F 24 0 rfl F.SW;let l:=W.lt F;let m:=W.QT F;unfold iD;rw[(ZP _ Ie).length_eq, <-W.done F];lia
abbrev Ui:Yv:=top 81
abbrev TB:Yv:=top 80
def Mt:aA "files path node told cells".1 "files path node".1 (ao Ui):=L2.bo
theorem zA(F:bV K "tree_row" "tree_row" Ui f fd)(TF:fI K CF)(O:M.Ok P w K mg base)(ap:!Md 9 CF "stat" (Ml M CF X))(as:!Md 10 CF "read_at" (KR M CF X)):-aO 11 f fd "files path node".1 (O7 M CF):=by
 show F.dZ Mt ?_;intros;let#[z,m,ah,d,N,h,x,nd,rfl,L,G,kQ]:=h;let#[dy,hy]:=L.ob;let#[n0,n1]:=(O.ok L.A).use _ _ G;let l3:=(O.ok L.A).xI _ _ G;show#[_,%[Mt,hr,ba,dx,0,ap,g,ah,4,cf,w,bh,3,O,bA,dx,0,as,b,2,bC,a,bh,3,c,aA,z,b,bh,3,b,bh,3,az|9],?_]
 show#[74,z,17,h,x.2,rfl,L,ak,λc=>(c*>G),λaB ac H1 I U f1 Y=>?_];rwa[G]at ac;let ar:=U _ _ hy;unfold iZ;dsimp only;show share (λσ H'=>∃cl,tD (σ=#v[.ref z.a,.str x.1,.int x.2,.ref I,.ref cl]) (aG H1 H') (H' cl%((pL nd).map V.int))) (λu' Z=>?_) ?_
 .show#[0,I,_,(0),116,1,eM.of Y,118,11];let ed:decide (V.str (pF nd.dir)=.str "dir")=nd.dir:=(by have:=mj N x.2;rw[G,dU G]at this;show this);rw[ed];cases c:nd.dir with
  |true =>
   show de #[az,λcl fc=>Z _ _ #[cl,rfl,aj fc,?_]];rw[ag];unfold pL;rw[C' c];rfl
  |false =>
   let e2:Pk nd=(nd.cs.9:Int):=(by unfold Pk;rw[vr (by rw[c];nofun)]);let er:xY N x.2 0 (nd.cs.9:Int)=.ok nd.cs:=by
    let r0:yg N x.2=none:=(by unfold yg;rw[G];show vr (by rw[c];nofun));unfold xY;rw[r0];dsimp only;rw[C' #[ak,ak],C' #[ak,ak],mM G];change Except.ok ((nd.cs.drop 0).take nd.cs.9)=_;rw[vz,Zo]
   show cO #[12,ar,9,0,I,_,(2),.int (Pk nd),1,eM.of Y,aJ (j:=2) rfl,z,17,h,x.2,(0),(nd.cs.9:Int),by rw[e2];rfl,L.same O U,#[ak,az,ak],λe he=>(he*>er),λcs ad H' q s2 f2 am=>Z _ _ #[q,rfl,s2,?_]];rwa[er]at ad;unfold pL;rw[vr (by rw[c];nofun)];show am
 .rintro σ H' ⟨cl,rfl,sJ,ay⟩;let ab:=sJ _ _ Y;show#[0,0,I,_,(0),116,1,eM.of ab,118,0,I,_,(1),.int nd.ln,1,eM.of ab,119,0,eW,λt ft=>?_];let s3:=aj (X:=.tup [.str x.1,.str (pF nd.dir),.int nd.ln,.ref cl]) ft;show kQ _ _ (U.trans (sJ.trans s3)) #[nd,t,cl,G,45,s3 _ _ ay]
def U4:aA ["files"] ["files"] (ao TB):=L2.bo
theorem HW(F:bV K "tree" "tree" TB f fd)(TF:fI K CF)(O:M.Ok P w K mg base)(ac:-Df 10 "walk" (Ms M))(ab:-Df 11 "tree_row" (O7 M CF)):-aO 12 f fd ["files"] (Gi M CF):=by
 show F.dZ U4 ?_;intros;let#[z,m,ah,d,N,S,h,rfl,I,Z,kQ]:=h;let hs:=HC;let#[dy,hy]:=I.ob;let wl:=zG Z;show#[_,%[0,hr,c,S,(eR (cl:=[("files",s.13+1)]) (sI:=[("files",0)])),b7,bJ,d,ac,a,j,bv,u,d,ab,z,b,bM,b8,0,a,bM,b8,0|9],?_];show#[6,hy,93,cp kf,z.na,17,S,rfl,I.A,Z,λH1 q1 ws L f1 e1 Y=>#[q1,rfl,#[_,bh.of e1],?_]];show iS (K:=K) (a:=q1) (xs:=ws) (λi ys H'=>HI H' N ys ((iD (nO N S)).take i)/\aG H1 H') #[#[136],λ_ _ e=>e] (λi ys H' _ z=>bh.of (z.2 _ _ e1)) ?_ ?_
 .rintro i v ys H' hv ⟨TA,G⟩;let#[x,t,ex,rfl,U]:=Y.at_ i v hv;let#[nd,ad]:=Fe Z ((ZP _ Ie).mem_iff.mp (Yk ex));let ly:ys.9<=960:=(by rw[TA.ln,Nx];lia);show#[0,100,.str x.1,1,eM.of (G _ _ U),118,0,t,_,(1),.int x.2,1,eM.of (G _ _ U),119,z,17,h,x,nd,rfl,I.same O (L.trans G),ad,λJ2 v2 s2 r2=>#[ak,?_,G.trans s2]];rw[Y9,ex];show(TA.same s2).snoc r2
 .rintro ys H' ⟨TA,G⟩ r fr;rw[Y.ln,Zo]at TA;let s3:=aj (X:=.lst ys) fr;show kQ _ r ys (L.trans (G.trans s3)) (aR (L.trans G) fr) ag (TA.same s3)
inductive IA(CF:ZX)(v:vl)(H:Hp)(Q:VK)(e:XK):Prop
 |mk(a dx na:ZX)(_:v=[.ref a,.ref na])(_:H a^.ins CF dx [])(_:∀(J:Hp)(hd:ZX),H hd=none->J a^.ins CF dx (f2 "nodes" "holds" (.ref na) (.ref hd))->J hd^^^[]->Q5 (· = a) H J->Q .bu J)
abbrev VT:Yv:=zj (top 66) 0
def VY:aA "self nodes".1 "self nodes".1 (ao VT):=L2.bo
theorem xP(F:bV K "__init__" "Files.__init__" VT f fd)(G:fI K CF):-aO 1 f fd "self nodes".1 (IA CF):=by
 show F.dZ VY ?_;intros;let#[a,dx,na,rfl,L,k]:=h;show#[_,%[0,0,f,X,1,h,X,j6|9],?_]
 show#[0,0,a,CF,dx,[],rfl,L,G.cl,G.nN,az,?_];dsimp only;intro dd hd;let nd:dd≠a:=λe=>(hd*>[e,ag]);let I:H dd=none:=(by rw[au nd]at hd;show hd);show#[0,a,CF,dx,0,by rw[au (oR nd),ag],G.cl,G.nH,134];show k _ dd I ag ?_ λb o e z=>?_
 .rw[au nd,ag]
 .rw[au z,au (λq=>by rwa[q,I]at e),au z];show e
def Io(h:st+8<=r.9):jW r ((r.drop st).take 8) st=r:=by
 unfold jW;rw[YA, <-Rf,YM,YM]
variable{c:DA}{s:BS}{n:Int}
theorem NR.Q4(A:NR c CN H a b s ah N bk d)(I:N n=none)(G:0<=n)(L:n<24)(k:∀(J:Hp)(s':BS),NR c CN J a b s' ah N bk d->cY b s H s' J->Q .bu J):lU c CN [.ref a,.int n] H Q e3:=by
 let#[r,F,lr,hr,_]:=A.at G L;let b0:bk n=[]:=Yz.mp (by rw[A.R.len n,I];rfl);let Y:Yl 8 0=(r.drop (rs n)).take 8:=(by rw[hr,I];rfl);let ab:=zV n;let Z:jW r (Yl 8 0) (rs n)=r:=(Io ak<*Y);show#[71,r,rfl,A.O,G,L,F,λJ s' O g dd st=>k J s' ?_ st];rw[Z]at g dd;rw[C' F]at dd;let U:lb s'=lb s:=funext λj=>by
  rw[g j];cases z:j=rb n
  .rw[C' z,z,F]
  .rw[vr z]
 show#[O,A.R<*U,Oi dd A.d]
theorem NR.Mj(A:NR c CN H a b s ah N bk d)(L:N n=none)(G:0<=n)(F:n<24)(q:∀J,aG H J->Q (.int 0) J):kU 1 c CN [.ref a,.int n] H Q e3:=by
 let#[r,I,_,_,g]:=A.at G F;rw[L]at g;show#[71,r,(0),rfl,A.O,G,F,I,g 1 _ az rfl,q]
def fS(p bl:ZX)(cs:JS)(x:ZX):Prop:=x=p\/x=bl\/x∈cs
inductive wz(c:DA)(CN:ZX)(v:vl)(H:Hp)(Q:VK)(e:XK):Prop
 |mk(a dx p bl:ZX)(d:Int)(uf:V)(fl:Bool)(_:PH fl uf)(cs:JS)(bs:iu)(_:v=[.ref a,.ref p])(_:H a^.ins CN dx [])(_:bg c.C H p bl d uf false cs bs)(_:48<=bs.9/\bs.9<=300)(_:bs[0]?^mL)(_:∀(J:Hp)(dr dd:ZX),NO c CN J a #[68,bs,fl] #[89,[]] (bs.9-48)->Q5 (· = a) H J->H dr=none->H dd=none->Q .bu J)
abbrev V8:Yv:=zj (top 42) 0
def VD:aA "self disk".1 "self disk".1 (ao V8):=L2.bo
variable{fD:ZX}
theorem uD{fdD:C6}(F:bV K "__init__" "Nodes.__init__" V8 f fd)(T:mY K mg CN)(TC:Txt K mg c.C)(MD:Mk K c.CD fD)(ap:-aO 1 fD fdD "self disk".1 (uQ c))(ad:mg "Draft" = some (.ref c.CD))(ay:Nl K fdD "self disk".1 [])(GI:-Md 1 c.C "image" (Be c.C)):-aO 3 f fd "self disk".1 (wz c CN):=by
 show F.dZ VD ?_;intros;let#[a,dx,p,bl,d,uf,fl,hu,cs,bs,rfl,ho,D,ln,z0,k]:=h;show#[_,%[0,0,f,X,bP,MD,ap,aw,ad,ay,e,h,X,t,a,C,dy,1,b4,GI,hr,aC,ag,v,T.iO,cu|9],?_]
 show#[0,λI dz U aK ne=>?_];let Y:aG H (QZ (QZ H dz (.own I)) I (.ins c.CD dz [])):=(aj aK).trans (aj (U<*au (oR ne)));show#[I,dz,p,bl,d,uf,fl,hu,cs,bs,45,D.same Y,ln,z0,λH1 dd Z o1 as=>#[3]];let ar:H dd=none:=aR Y as;let G:H1 a^.ins CN dx []:=o1 _ _ (Y _ _ ho) λz=>(ho*>[z,U]);show#[0,a,CN,dx,[],rfl,G,24,az,?_];let o2:Q5 (· = a) H1 (QZ H1 a (.ins CN dx (bI "draft" (.ref I) []))):=λy u e z=>(e<*au z);let ab:∀y,jm #[I,110] #[89,[]] y->¬ y=a:=λy hy z=>by
  subst z;let#[aN,h2]:=Z.ob;let#[d2,u2,am,L]:=Z.dk;let#[ac,h3]:=L.ob;obtain e|e|e|e|e|⟨x,hx,_⟩:=hy
  .rw[e]at G;rw[h2]at G;simp only[Zt,HO.ins.injEq]at G;have:=G.2.2;rwa[jV kd]at this
  .rw[e]at G;rw[h3]at G;simp only[Zt,HO.ins.injEq]at G;have:=G.2.2;rwa[eU]at this
  .rw[e]at G;rwa[L.hb]at G
  .rw[e]at G;rwa[Z.hd]at G
  .let#[ns,q]:=gA L.hc _ e;rwa[q.1]at G
  .cases hx
 let B2:=Z.off o2 ab;let aB:QZ H1 a (.ins CN dx (bI "draft" (.ref I) [])) a^.ins CN dx (bI "draft" (.ref I) []):=ag;let oH:Q5 (· = a) H (QZ H1 a (.ins CN dx (bI "draft" (.ref I) []))):=λy u e z=>o2 _ _ (o1 _ _ (Y _ _ e) λq=>by rwa[q,U]at e) z;dsimp only;generalize QZ H1 a (.ins CN dx (bI "draft" (.ref I) []))=H2 at *;let#[d2,u2,am,L]:=B2.dk;let#[ac,h3]:=L.ob;show#[0,p,ac,0,h3,20,p,bl,d2,u2,false,83,L,ln.2,λH3 l fs s3 f3 e3 R3 _ _=>?_];show#[(48),75,40,λq4 f4=>?_];rw[show dJ (fs.map V.ref) (some 48) none=(fs.map V.ref).drop 48 from tM (s:=48)];let s4:=aj (X:=.lst ((fs.map V.ref).drop 48)) f4;show#[q4,0,.inl (bh.of ag),0,a,CN,dx,0,s4 _ _ (s3 _ _ aB),T.cl,T.nT,134];let fl:((fs.map V.ref).drop 48).9=bs.9-48:=(by rw[YB,si,lL R3]);rw[fl];let B4:=(B2.same s3).same s4;let o5:Q5 (· = a) (QZ H3 q4 (.lst ((fs.map V.ref).drop 48))) (QZ (QZ H3 q4 (.lst ((fs.map V.ref).drop 48))) a (.ins CN dx (bI "total" (.int ((bs.9-48:Nat):Int)) (bI "draft" (.ref I) [])))):=λy u e z=>(e<*au z);show k _ I dd #[#[dx,ag],B4.off o5 ab,by change bs.9=48+(bs.9-48);lia] (λy u e z=>o5 _ _ (s4 _ _ (s3 _ _ (oH _ _ e z))) z) U ar
noncomputable def N0:NS:=cA (λ_=>none) 0 (some #[true,(1),[]])
theorem K9:∀m,us N0 m=0
 |0=>rfl
 |m+1=>by
  rw[mI,K9 m];unfold N0 cA;cases z:(m:Int)=0
  .rw[C' z];rfl
  .rw[vr z];rfl
def jB(h:N0 n^nd):n=0/\nd=#[true,(1),[]]:=by
 unfold N0 cA at h;cases z:n=0
 .rw[C' z]at h;cases h;show#[z,rfl]
 .rw[vr z]at h;cases h
theorem Sa(h:ah<=252):HA ah N0:=#[λn nd e=>by let#[rfl,_]:=jB e;show#[az,az],λn nd e=>by let#[_,rfl]:=jB e;show Zy _,Zy _<*K9,h]
def QR:Fz N0 (λ_=>[]):=by
 show#[rfl,λn nd e _=>?_,λ_=>Zy _,λ_ s hs=>(by cases hs),λ_=>mh,λ_ _=>rfl,λn=>?_,λn nd e _=>?_,λn nd e=>?_]
 .let#[_,rfl]:=jB e;rfl
 .let z:refs (λ_=>[]) n=0:=by
   have:∀m,II (λ_=>[]) n m=0:=λm=>by
    induction m with
    |zero=>rfl
    |succ m F=>rw[kg,F];rfl
   show this 24
  rw[z];unfold lk N0 cA;cases c:n=0
  .rw[C' c,C' c];decide
  .rw[vr c,vr c];show Jz _
 .let#[_,rfl]:=jB e;rfl
 .let#[rfl,_]:=jB e;show#[az,az]
variable{l:ZX}
def tm{X Y:HO}(h:H l=none):aG H (QZ (QZ H l X) l Y):=λb o e=>by rw[au (ba e h),au (ba e h)];show e
def Q5.nn{x:ZX}(o:Q5 (· = a) H J)(n:x≠a)(h:J x=none):H x=none:=by
 cases e:H x with
 |none=>rfl
 |some u=>rwa[o x u e n]at h
inductive Nf(CP:ZX)(v:vl)(H:Hp)(Q:VK)(e:XK):Prop
 |mk(a dx:ZX)(ah:Nat)(_:v=[.ref a,.int ah])(_:H a^.ins CP dx [])(_:ah<=252)(_:∀(J:Hp)(m:PS),vR CP J a m ah N0 0->(∀x,ya m x->H x=none)->Q5 (· = a) H J->Q .bu J)
abbrev MB:Yv:=zj (top 73) 0
def Sj:aA "self total".1 "self total".1 (ao MB):=L2.bo
theorem uL(F:bV K "__init__" "PlainNodes.__init__" MB f fd)(TP:Di K mg CP)(T:l9 K mg X):-aO 1 f fd "self total".1 (Nf CP):=by
 show F.dZ Sj ?_;intros;let#[a,dx,ah,rfl,ho,ht,k]:=h;show#[_,%[0,0,f,X,1,f,X,S,(pZ (keys:=[some _]) (values:=[_])),cn,cl,aE,qv,b1,c8,c9,f,X,S,(pZ (keys:=[some _]) (values:=[_])),cn,cl,ai,qv,b1,c8,c9,h,X,S,(pZ (keys:=[some _]) (values:=[_])),cn,cl,bA,qv,b1,c8,c9|9],?_]
 show#[0,33,[],rfl,ho,TP.cl,TP.nT,az,?_];dsimp only;let o1:Q5 (· = a) H (QZ H a (.ins CP dx (bI "total" (.int ah) []))):=λy u e z=>(e<*au z);let h1:QZ H a (.ins CP dx (bI "total" (.int ah) [])) a^.ins CP dx (bI "total" (.int ah) []):=ag;generalize QZ H a (.ins CP dx (bI "total" (.int ah) []))=H1 at *;intro kd fk;show#[ag,[(Xt 0,.str "dir")],rfl,az,?_];let s2:=tm (X:=.dK []) (Y:=.dK (eI [] [(Xt 0,.str "dir")])) fk;let ek:QZ (QZ H1 kd (.dK [])) kd (.dK (eI [] [(Xt 0,.str "dir")])) kd^^^[(Xt 0,.str "dir")]:=ag;let ab:kd≠a:=λz=>(fk*>[z,h1]);let aY:H kd=none:=Q5.nn o1 ab fk;show#[33,0,s2 _ _ h1,TP.cl,TP.nK,134];dsimp only;generalize QZ (QZ H1 kd (.dK [])) kd (.dK (eI [] [(Xt 0,.str "dir")]))=H2 at *;let o3:Q5 (· = a) H (QZ H2 a (.ins CP dx (bI "kinds" (.ref kd) (bI "total" (.int ah) [])))):=λy u e z=>(s2 _ _ (o1 _ _ e z)<*au z);let h3:QZ H2 a (.ins CP dx (bI "kinds" (.ref kd) (bI "total" (.int ah) []))) a^.ins CP dx (bI "kinds" (.ref kd) (bI "total" (.int ah) [])):=ag;let ay:QZ H2 a (.ins CP dx (bI "kinds" (.ref kd) (bI "total" (.int ah) []))) kd^^^[(Xt 0,.str "dir")]:=(ek<*au ab);generalize QZ H2 a (.ins CP dx (bI "kinds" (.ref kd) (bI "total" (.int ah) [])))=H3 at *;intro lk fl;show#[ag,[(Xt 0,.int 1)],rfl,az,?_];let s4:=tm (X:=.dK []) (Y:=.dK (eI [] [(Xt 0,.int 1)])) fl;let el:QZ (QZ H3 lk (.dK [])) lk (.dK (eI [] [(Xt 0,.int 1)])) lk^^^[(Xt 0,.int 1)]:=ag;let am:lk≠a:=λz=>(fl*>[z,h3]);let aT:H lk=none:=Q5.nn o3 am fl;let aX:kd≠lk:=λz=>(by rwa[<-z,ay]at fl);show#[33,0,s4 _ _ h3,TP.cl,TP.nL,by change 2<1000;decide,?_];dsimp only;let a4:=s4 _ _ ay;generalize QZ (QZ H3 lk (.dK [])) lk (.dK (eI [] [(Xt 0,.int 1)]))=U at *;let o5:Q5 (· = a) H (QZ U a (.ins CP dx (bI "links" (.ref lk) (bI "kinds" (.ref kd) (bI "total" (.int ah) []))))):=λy u e z=>(s4 _ _ (o3 _ _ e z)<*au z);let h5:QZ U a (.ins CP dx (bI "links" (.ref lk) (bI "kinds" (.ref kd) (bI "total" (.int ah) [])))) a^.ins CP dx (bI "links" (.ref lk) (bI "kinds" (.ref kd) (bI "total" (.int ah) []))):=ag;let as:QZ U a (.ins CP dx (bI "links" (.ref lk) (bI "kinds" (.ref kd) (bI "total" (.int ah) [])))) kd^^^[(Xt 0,.str "dir")]:=(a4<*au ab);let ap:QZ U a (.ins CP dx (bI "links" (.ref lk) (bI "kinds" (.ref kd) (bI "total" (.int ah) [])))) lk^^^[(Xt 0,.int 1)]:=(el<*au am);generalize QZ U a (.ins CP dx (bI "links" (.ref lk) (bI "kinds" (.ref kd) (bI "total" (.int ah) []))))=L at *;intro I kX;show#[az,λG fa=>?_];let ad:G≠I:=λz=>(fa*>[z,ag]);let ac:L G=none:=(by rw[au ad]at fa;show fa);show#[by rw[au (oR ad),ag],[(Xt 0,.ref G)],rfl,aaC rfl,?_];let Z:aG L (QZ (QZ (QZ L I (.dK [])) G (.lst [])) I (.dK (eI [] [(Xt 0,.ref G)]))):=λy u e=>by
  rw[au (ba e kX),au (ba e ac),au (ba e kX)];show e
 let es:QZ (QZ (QZ L I (.dK [])) G (.lst [])) I (.dK (eI [] [(Xt 0,.ref G)])) I^^^[(Xt 0,.ref G)]:=ag;let ea:QZ (QZ (QZ L I (.dK [])) G (.lst [])) I (.dK (eI [] [(Xt 0,.ref G)])) G% []:=(by rw[au ad,ag]);let aB:I≠a:=λz=>(kX*>[z,h5]);let ar:G≠a:=λz=>(ac*>[z,h5]);let a3:H I=none:=Q5.nn o5 aB kX;let aK:H G=none:=Q5.nn o5 ar ac;show#[33,0,Z _ _ h5,TP.cl,TP.nS,by change 3<1000;decide,?_];let a0:=Z _ _ as;let aN:=Z _ _ ap;generalize QZ (QZ (QZ L I (.dK [])) G (.lst [])) I (.dK (eI [] [(Xt 0,.ref G)]))=H6 at *;show k _ #[kd,lk,I,[(0,(G,#[true,(1),[]]))]] #[#[dx,ag],4,?_,123,YZ.mpr #[λz=>(by cases z),mh],#[aX,λz=>?_,λz=>?_],λn=>?_,Sa ht] (λx hx=>?_) λy u e z=>?_
 .rw[au ab];show a0
 .rw[au am];show aN
 .rw[au aB];show es
 .rw[z4.mp hx,au ar];show ea
 .let z':kd=I:=z;rwa[<-z',as]at kX
 .let z':lk=I:=z;rwa[<-z',ap]at kX
 .unfold N0 cA;rw[bH];cases z:n=0
  .rw[C' z,C' z.6];rfl
  .rw[vr z,vr (oR z)];rfl
 .rcases hx with z|z|z|⟨y,hy,z⟩
  .rw[z];show aY
  .rw[z];show aT
  .rw[z];show a3
  .rw[z,z4.mp hy];show aK
 .rw[au z];show Z _ _ (o5 _ _ e z)
def rd(bs:iu)(j:Int):Option N4:=bs[j.5]?
variable{cs:JS}{bs:iu}
def zz{dd:ZX}:lb #[89,[]]=rd bs:=rfl
def RX(h:s.D=[]):lb s=rd s.bs:=funext λj=>by unfold lb rd;rw[h];rfl
inductive NT(c:DA)(CX CN CF:ZX)(v:vl)(H:Hp)(Q:VK)(e:XK):Prop
 |mk(a dx p bl:ZX)(d:Int)(uf:V)(fl:Bool)(_:PH fl uf)(cs:JS)(bs:iu)(N:NS)(bk:ic)(_:v=[.ref a,.ref p])(_:H a^.ins CF dx [])(_:bg c.C H p bl d uf false cs bs)(_:48<=bs.9/\bs.9<=300)(_:bs[0]?^mL)(_:Rep (rd bs) (bs.9-48) N bk)(_:∀(J:Hp)(z:FA)(m:(j7 c CX CN N (p,bl)).St),z.a=a->m.1.p=p->m.1.bl=bl->cI (j7 c CX CN N (p,bl)) CF J z m (bs.9-48) N [] 0->(∀x,(j7 c CX CN N (p,bl)).own m x->fS p bl cs x\/H x=none)->H z.na=none->H z.hd=none->Q5 (· = a) H J->Q .bu J)
inductive Kn(CP CF:ZX)(v:vl)(H:Hp)(Q:VK)(e:XK):Prop
 |mk(a dx:ZX)(ah:Nat)(_:v=[.ref a,.int ah])(_:H a^.ins CF dx [])(_:ah<=252)(_:∀(J:Hp)(z:FA)(m:(hV CP).St),z.a=a->cI (hV CP) CF J z m ah N0 [] 0->(∀x,(hV CP).own m x->H x=none)->H z.na=none->H z.hd=none->Q5 (· = a) H J->Q .bu J)
abbrev Vj:Yv:=zj (top 68) 0
abbrev W3:Yv:=zj (top 75) 0
def Vo:aA "self disk".1 "self disk".1 (ao Vj):=L2.bo
variable{CX CB fB fN:ZX}{xb su:C6}
theorem u9(F:bV K "__init__" "DiskFiles.__init__" Vj f fd)(aB:∃u,mg "Files" = some u/\zH (.ref CB) u)(ar:PySem.W.Gy K CB fB)(aK:-aO 1 fB xb "self nodes".1 (IA CF))(ap:Nl K xb "self nodes".1 [])(MN:Mk K CN fN)(am:-aO 3 fN su "self disk".1 (wz c CN))(Ly:mg "Nodes" = some (.ref CN))(aX:Nl K su "self disk".1 []):-aO 5 f fd "self disk".1 (NT c CX CN CF):=by
 let CB:=ar;show F.dZ Vo ?_;intros;let#[a,dx,p,bl,d,uf,fl,hu,cs,bs,N,bk,rfl,G,D,ln,z0,R,k]:=h;show#[_,%[0,0,l,dP,aB,CB,aK,aw,ap,aC,aS,bP,MN,am,aw,Ly,aX,e|9],?_];show#[0,0,λna dz Z aT ne=>?_];let Y:aG H (QZ (QZ H dz (.own na)) na (.ins CN dz [])):=(aj aT).trans (aj (Z<*au (oR ne)));show#[na,dz,p,bl,d,uf,fl,hu,cs,bs,45,D.same Y,ln,z0,λH1 L dd O1 o1 ay as=>#[3]];let ab:H L=none:=aR Y ay;let ad:H dd=none:=aR Y as;let nn:∀{x u},H x^u->¬ x=na:=λe z=>(e*>[z,Z]);let h1:∀{x u},H x^u->H1 x^u:=λe=>o1 _ _ (Y _ _ e) (nn e);show#[a,dx,na,rfl,h1 G,λH2 hd fh e2 eh o2=>?_];let I:NR c CN H1 na #[L,110] #[89,[]] (bs.9-48) N bk 0:=#[O1,R<*zz,BY _];let ac:¬ jm #[L,110] #[89,[]] a:=λz=>by
  let#[aY,h3]:=D.ob;obtain z|z|z|z|z|⟨x,hx,z⟩:=z
  .rw[z,show H L=none from ab]at G;cases G
  .rw[z,h3]at G;simp only[Zt,HO.ins.injEq]at G;have:=G.2.2;rwa[eU]at this
  .rw[z,D.hb]at G;cases G
  .rw[z,show H dd=none from ad]at G;cases G
  .let#[ns,q]:=gA D.hc _ z;rwa[q.1]at G
  .cases hx
 let A2:NR c CN H2 na #[L,110] #[89,[]] (bs.9-48) N bk 0:=by
  let#[dy,U]:=I.O.ob;show#[#[#[dy,o2 _ _ U (λz=>by rw[<-z]at G;show nn G rfl)],I.O.B.off o2 (λy U z=>ac (z▸U)),I.O.tt],I.R,I.d]
 let aN:H hd=none:=by
  cases e:H hd with
  |none=>rfl
  |some u=>rwa[h1 e]at fh
 show k H2 #[a,na,hd] (#[L,110],#[89,[]],bk) rfl rfl rfl #[#[dx,e2],eh,mh,#[A2,#[bk,R],rfl],ac,λz=>I.O.B.live z fh,λx hx=>by cases hx] (λx hx=>?_) Z aN λy u e z=>o2 _ _ (h1 e) z;obtain z|z|z|z|z|⟨y,U,z⟩:=hx
 .show .inr (ab<*z)
 .show .inl (.inl z)
 .show .inl (.inr (.inl z))
 .show .inr (ad<*z)
 .show .inl (.inr (.inr z))
 .cases U
def UJ:aA "self blocks".1 "self blocks".1 (ao W3):=L2.bo
variable{fP:ZX}
theorem sF{fdP:C6}(F:bV K "__init__" "PlainFiles.__init__" W3 f fd)(ad:∃u,mg "Files" = some u/\zH (.ref CB) u)(as:PySem.W.Gy K CB fB)(ay:-aO 1 fB xb "self nodes".1 (IA CF))(am:Nl K xb "self nodes".1 [])(MP:Mk K CP fP)(aN:-aO 1 fP fdP "self total".1 (Nf CP))(ar:mg "PlainNodes" = some (.ref CP))(ap:Nl K fdP "self total".1 []):-aO 3 f fd "self blocks".1 (Kn CP CF):=by
 let CB:=as;show F.dZ UJ ?_;intros;let#[a,dx,ah,rfl,G,ht,k]:=h;show#[_,%[0,0,l,dP,ad,CB,ay,aw,am,aC,aS,bP,MP,aN,aw,ar,ap,e|9],?_];show#[0,0,λna U L aK ne=>?_];let s1:aG H (QZ (QZ H U (.own na)) na (.ins CP U [])):=(aj aK).trans (aj (L<*au (oR ne)));show#[na,U,ah,45,ht,λH1 m Y fm o1=>#[3]];let nn:∀{x u},H x^u->¬ x=na:=λe z=>(e*>[z,L]);let h1:∀{x u},H x^u->H1 x^u:=λe=>o1 _ _ (s1 _ _ e) (nn e);let ab:∀x,ya m x->H x=none:=λx hx=>aR s1 (fm x hx);show#[a,dx,na,rfl,h1 G,λH2 hd I e2 eh Z=>?_];let ac:¬ ya m a:=λz=>(G*>ab a z);let A2:vR CP H2 na m ah N0 0:=Y.off Z (λy hy z=>ac (z▸hy)) (λz=>by rw[<-z]at G;show nn G rfl);let aB:H hd=none:=by
  cases e:H hd with
  |none=>rfl
  |some u=>rwa[h1 e]at I
 show k H2 #[a,na,hd] m rfl #[#[dx,e2],eh,mh,A2,ac,λz=>Y.live z I,λx hx=>by cases hx] ab L aB λy u e z=>Z _ _ (h1 e) z
def jy(n:Nat):iu:=Yl n (Yl 16 0)
variable{n:Nat}
theorem rep0(L:n=48+ah):Rep (rd (jy n)) ah (λ_=>none) (λ_=>[]):=by
 show#[λm G I=>?_,λ_=>rfl,139,139,139,λ_ _ _ _ _ h=>(by cases h),139,139];let F:=zV m;show#[Yl 16 0,4]
 .unfold rd jy rb;rw[Xp,C' ak]
 .rcases F with e|e<;>rw[e]<;>rfl
structure UA(K:Yi)(mg:j5)(CN:ZX):Prop where
 cl:ph K CN
 oV:∃u,mg "NODES" = some u/\zH (.int 24) u
 uP:∃u,mg "ROOT" = some u/\zH (.int 0) u
 range:mg "range" = none
def uU{ns:N4}(h:some (HO.lst (cs.map V.ref))%ns.17)(l:ns.9=16):False:=by
 injection h with h;injection h with h;cases ns with
 |nil=>cases l
 |cons n ns =>
  cases cs with
  |nil=>cases h
  |cons y ys=>injection h with h1;cases h1
def bD(N:NS):NS:=λk=>(N k).filter λnd=>decide (¬ nd.ln=0)
def iH(h:bD N k^nd):N k^nd/\¬ nd.ln=0:=by
 unfold bD at h;let#[h1,h2]:=acr.mp h;show#[h1,cL h2]
def fZ(h:N k^nd)(l:¬ nd.ln=0):bD N k^nd:=by
 unfold bD;rw[h];show acr.mpr #[rfl,Ja l]
def gZ(h:N k^nd)(l:nd.ln=0):bD N k=none:=by
 cases e:bD N k with
 |none=>rfl
 |some x =>
  let#[h1,h2]:=iH e;rwa[h]at h1;show D9 l h2
def eB(h:N k=none):bD N k=none:=by unfold bD;rw[h];rfl
def mS(h:∀n nd,N n^nd->¬ nd.ln=0):bD N=N:=funext λk=>by
 cases e:N k with
 |none=>show eB e
 |some nd=>show fZ e (h k nd e)
def Qn(N:NS):bD (bD N)=bD N:=mS λ_ _ h=>(iH h).2
def lM(N:NS)(i:Nat):NS:=λk=>if k<(i:Int)then bD N k else N k
theorem Ox(u:∀n nd,N n^nd->0<=n/\n<24):lM N 0=N:=funext λk=>by
 unfold lM;cases c:k<((0:Nat):Int)
 .rw[C' c];cases e:N k with
  |none=>show eB e
  |some nd=>have:=(u k nd e).1;lia
 .rw[vr c]
theorem Jg(u:∀n nd,N n^nd->0<=n/\n<24):lM N 24=bD N:=funext λk=>by
 unfold lM;cases c:k<((24:Nat):Int)
 .rw[C' c]
 .rw[vr c];cases e:N k with
  |none=>show(eB e).6
  |some nd=>have:=(u k nd e).2;lia
def Aj(N:NS)(i:Nat):lM N i (i:Int)=N (i:Int):=vr ak
def ES(N:NS)(i:Nat)(k:Int):lM N (i+1) k=if k=(i:Int)then bD N k else lM N i k:=by
 unfold lM;cases c:k=(i:Int)
 .rw[C' c,C' ak]
 .rw[vr c];cases F:k<(i:Int)
  .rw[C' F,C' ak]
  .rw[vr F,vr ak]
def tK(h:bD N (i:Int)=N (i:Int)):lM N (i+1)=lM N i:=funext λk=>by
 rw[ES];cases c:k=(i:Int)
 .rw[C' c,c,h,Aj]
 .rw[vr c]
def Fp(h:bD N (i:Int)=none):lM N (i+1)=cA (lM N i) (i:Int) none:=funext λk=>by
 rw[ES];unfold cA;cases c:k=(i:Int)
 .rw[C' c,C' c,c,h]
 .rw[vr c,vr c]
inductive oi(bs:iu)(ah:Nat)(A:NS->Prop):Prop
 |calm(N:NS)(bk:ic)(_:bs.9=48+ah)(_:bs[0]?^mL)(_:Rep (rd bs) ah N bk)(_:A (bD N))
 |pend (old new:Nat->Option N4) (ns:N4) (N:NS) (bk:ic) (_:pP bs (48+ah) old new ns) (_:Rep (λj=>new j.5) ah N bk) (_:A (bD N)):oi bs ah A
variable{A:NS->Prop}
theorem oi.len(t:oi bs ah A):bs.9=48+ah:=by
 rcases t with⟨_,_,l,_⟩|⟨_,_,_,_,_,p,_⟩
 .show l
 .show p.len
theorem Calm.rep{F:Nat->Option N4}(C:Calm bs n F)(R:Rep (λj=>F j.5) ah N bk):Rep (rd bs) ah N bk:=R.lb λj G=>C.at_ j.5 ak
theorem QF.tell{old G:Nat->Option N4}{M0 M1:NS}(m:QF bs (48+ah) old G)(I:∃bk,Rep (λj=>old j.5) ah M0 bk)(F:∃bk,Rep (λj=>G j.5) ah M1 bk)(U:A (bD M0))(a1:A (bD M1)):oi bs ah A:=by
 let#[Y,I]:=I;let#[L,F]:=F;obtain C|⟨ns,p⟩:=m
 .show .calm M0 Y C.len C.b0 (Calm.rep C I) U
 .show .pend old G ns M1 L p F a1
inductive Xq(c:DA)(p bl:ZX)(cs:JS)(ah:Nat)(A:NS->Prop)(H J:Hp):Prop
 |mk(d:Int)(uf:V)(jC:JS)(qU:iu)(_:jI uf)(_:bg c.C J p bl d uf true jC qU)(_:oi qU ah A)(_:iR cs H jC)(_:Q5 (fS p bl cs) H J)
inductive Ob(c:DA)(v:vl)(H:Hp)(Q:VK)(e:XK):Prop
 |mk(p bl:ZX)(d:Int)(cs:JS)(ah:Nat)(_:v=[.ref p])(_:bg c.C H p bl d .bu false cs (jy (48+ah)))(_:1<=ah/\ah<=252)(_:∀(J:Hp)(d':Int)(jC:JS)(qU:iu)(bk:ic),bg c.C J p bl d' .bu false jC qU->qU.9=48+ah->qU[0]?^mL->Rep (rd qU) ah N0 bk->(∀x∈jC,x∈cs\/H x=none)->Q5 (fS p bl cs) H J->Q .bu J)
inductive Dz(c:DA)(CX CN:ZX)(v:vl)(H:Hp)(Q:VK)(e:XK):Prop
 |mk(a:ZX)(b:BA)(s:BS)(ah:Nat)(N:NS)(bk:ic)(_:v=[.ref a])(_:NR c CN H a b s ah N bk 0)(_:∀(J:Hp)(s':BS)(Gh:ic),NR c CN J a { b with bs:=s'.bs } s' ah (bD N) Gh 0->s'.D=[]->cY b s H s' J->Q .bu J)
  (_:∀(H1:Hp)(s1:BS)(Gh:ic)(d:Nat)(J:Hp),NR c CN H1 a b s1 ah (bD N) Gh d->cY b s H s1 H1->DU c b s1 H1 J->e (.ref CX) none J):Dz c CX CN v H Q e
inductive HS(c:DA)(CX CN CF:ZX)(v:vl)(H:Hp)(Q:VK)(e:XK):Prop
 |mk(p bl:ZX)(d:Int)(uf:V)(fl:Bool)(cs:JS)(bs:iu)(ah:Nat)(A:NS->Prop)(_:v=[.ref p])(_:bg c.C H p bl d uf false cs bs)(_:PH fl uf)(_:1<=ah/\ah<=252)(_:oi bs ah A)
  (_:∀(J:Hp)(z:FA)(N:NS)(m:(j7 c CX CN N (p,bl)).St),A N->(∀n nd,N n^nd->¬ nd.ln=0)->m.1.p=p->m.1.bl=bl->cI (j7 c CX CN N (p,bl)) CF J z m ah N [] 0->(∀x,(j7 c CX CN N (p,bl)).own m x->fS p bl cs x\/H x=none)->(fS p bl cs z.a\/H z.a=none)->(fS p bl cs z.na\/H z.na=none)->(fS p bl cs z.hd\/H z.hd=none)->Q5 (fS p bl cs) H J->Q (.ref z.a) J)
  (_:fl->∀J,Xq c p bl cs ah A H J->e (.ref CX) none J):HS c CX CN CF v H Q e
abbrev Wf:Yv:=top 69
abbrev Wt:Yv:=top 71
abbrev Wq:Yv:=top 70
def OI:aA "disk nodes n".1 ["disk"] (ao Wf):=L2.bo
theorem BQ{CFl:ZX}(F:bV K "format_disk" "format_disk" Wf f fd)(T0:mY K mg CN)(TX:l9 K mg X)(aX:!Df 3 "forget" (rq c.C CFl))(MN:Mk K CN fN)(as:-aO 3 fN su "self disk".1 (wz c CN))(Ly:mg "Nodes" = some (.ref CN))(a0:Nl K su "self disk".1 [])(gE:-Md 5 CN "end_node" (lU c CN))(gB:-Md 5 CN "begin_node" (Je c CN))(gF:!Md 7 CN "finish" (qV c CFl CN)):-aO 8 f fd ["disk"] (Ob c):=by
 let T:UA K mg CN:=#[T0.cl,T0.oV,TX.uP,T0.range];show F.dZ OI ?_;intros;let#[p,bl,d,cs,ah,rfl,D,ht,k]:=h;let lz:(jy (48+ah)).9=48+ah:=Zg ..;show#[_,%[OI,hr,f,M,dz,aX,s,aR,bP,MN,as,da,Ly,a0,s,bf,bD,a,cy,y,2,l,E,1,de,gE,g,f,M,E,1,de,gB,b,cl,ak,l,dy,1,de,gF,dh,jw|9],?_]
 show#[65,d,.bu,cs,144,rfl,D,.inl rfl,ak,λz=>D9 rfl z,λH1 ab D1 aB o1=>?_];let ez:(jy (48+ah)).set 0 mL=jy (48+ah):=by
  show TY λi=>?_;rw[List.getElem?_set];unfold jy at *;cases c:0=i
  .subst c;rw[C' rfl,C' ak,Xp,C' ak];rfl
  .rw[vr c]
 rw[ez]at D1;let D1:bg c.C H1 p bl (d+1) .bu false ab (jy (48+ah)):=D1;show#[0,λna dz f1 aY ne=>?_];let U:aG H1 (QZ (QZ H1 dz (.own na)) na (.ins CN dz [])):=(aj aY).trans (aj (f1<*au (oR ne)));show#[na,dz,p,bl,d+1,.bu,false,#[.inl rfl,λ_=>rfl],ab,144,45,D1.same U,ak,?_,λH2 dr dd O2 o2 aT aN=>#[3]]
 .unfold jy;rw[Xp,C' ak];rfl
 let et:(jy (48+ah)).9-48=ah:=ak;rw[et]at O2;let A2:NR c CN H2 na #[68,144,false] #[dd,ab,144,[]] ah (λ_=>none) (λ_=>[]) 0:=#[O2,rep0 rfl<*zz,BY _];let ar:H1 dr=none:=aR U aT;let aK:H1 dd=none:=aR U aN;show#[56];show gc (lo:=0) (n:=24) (λi σ H'=>Dh λ(v2:Option V)(Z:BS)=>tD (σ=#v[.ref p,.ref na,v2]) (NR c CN H' na #[68,144,false] Z ah (λ_=>none) (λ_=>[]) 0) (cY #[68,144,false] #[dd,ab,144,[]] H2 Z H')) #[_,0,A2,#[131,λ_ h=>.inl h]] ?_ ?_
 .rintro i σ H' hi ⟨v2,Z,rfl,L,ad⟩;let#[dy,I]:=L.O.ob;show#[0,na,dy,0,I,9,L.Q4 rfl ak ak λJ2 s2 A3 ac=>#[_,0,A3,ad.trans ac]]
 .rintro σ H' ⟨v2,Z,rfl,L,ad⟩;let#[dy,I]:=L.O.ob;show#[0,na,dy,0,I,bq ax ax,na,_,Z,ah,(0),2,(0),true,rfl,L,az,az,λJ2 s2 A3 ac=>?_];let#[dy,I]:=A3.O.ob;show#[0,na,dy,0,I,bq ax ax,na,_,s2,ah,2,0,A3,az,λJ3 s3 A4 hD ap=>?_,λJ3 fl=>by let#[_,_,z]:=fl;cases z];let#[d4,u4,ay,Y]:=A4.O.B.dk;rw[ay.2 rfl]at Y;let ST:=ad.trans (ac.trans ap);let nw:∀x,¬ fS p bl cs x->H x≠none->¬ jm #[68,144,false] #[dd,ab,144,[]] x/\¬ x=na:=λx hx al=>by
   let am:H1 x≠none:=by
    cases e:H x with
    |none=>show D9 e al
    |some u=>rw[o1 x u e (λz=>hx (z.elim .inl λz=>.inr (.inl z)))];nofun
   show#[λz=>?_,λz=>am (f1<*z)];obtain z|z|z|z|z|⟨y,I,z⟩:=z
   .show am (ar<*z)
   .show hx (.inl z)
   .show hx (.inr (.inl z))
   .show am (aK<*z)
   .rcases aB x z with w|w
    .show hx (.inr (.inr w))
    .show al w
   .cases I
  show k J3 d4 s3.cs s3.bs _ Y A4.O.tt A4.O.B.z0 (by rw[<-RX hD];show A4.R) (λx hx=>?_) λx u e z=>?_
  .cases hc:x∈cs
   .show .inl hc
   .cases e:H x with
    |none=>show .inr rfl
    |some u =>
     exfalso;let al:H x≠none:=(by rw[e];nofun);cases G:x=p\/x=bl
     .let#[ns,q]:=gA Y.hc _ hx;let#[a3,h4]:=Y.ob;let#[q1,q2]:=q;obtain G|G:=G
      .rw[G,show J3 p=_ from h4]at q1;cases q1
      .rw[G,show J3 bl=_ from Y.hb]at q1;show uU q1 q2
     .let nd:¬ fS p bl cs x:=λz=>z.elim (λz=>G (.inl z)) λz=>z.elim (λz=>G (.inr z)) hc;let#[w1,w2]:=nw x nd al;rcases ST.2 x (.inr (.inr (.inr (.inr (.inl hx)))))with z|z
      .show w1 z
      .rw[o2 x u (U _ _ (o1 x u e λz=>nd (z.elim .inl λz=>.inr (.inl z)))) w2]at z;cases z
  .let#[w1,w2]:=nw x z (by rw[e];nofun);show ST.1 x u (o2 x u (U _ _ (o1 x u e λw=>z (w.elim .inl λw=>.inr (.inl w)))) w2) w1
def Rk:aA "nodes n".1 ["nodes"] (ao Wt):=L2.bo
theorem qS(F:bV K "end_nameless" "end_nameless" Wt f fd)(T:mY K mg CN)(gL:-Md 5 CN "links_of" (kU 1 c CN))(gE:-Md 5 CN "end_node" (lU c CN))(gF:!Md 7 CN "finish" (qV c CX CN)):!aO 8 f fd ["nodes"] (Dz c CX CN):=by
 show F.dQ Rk ?_;intros;let#[a,b,s',ah,N,bk,rfl,A1,k,kE]:=h;let us:=A1.R.use;show#[_,%[Rk,hr,Q,cs,bD,a,cy,y,1,h,an,w,T,gL,e,r,l,T,gE,e,av,dH,ca,gF,dh|9],?_]
 show#[56];show gc (lo:=0) (n:=24) (λi σ H'=>RA λ(v1:Option V)(U:BS)(bi:ic)=>tD (σ=[some (.ref a),v1]) (NR c CN H' a b U ah (lM N i) bi i) (cY b s' H U H')) #[2,bk,rfl,A1<*Ox us,#[131,λ_ h=>.inl h]] ?_ ?_
 .rintro i σ H' hi ⟨v1,U,bi,rfl,G,ab⟩;let#[dy,hy]:=G.O.ob;let e0:(0:Int)+(i:Int)=(i:Int):=ak;let same:∀L,aG H' L->cY b s' H U L:=λL I=>#[λx u e z=>I _ _ (ab.1 x u e z),ab.2];show#[0,a,dy,0,hy,9,?_];rw[e0];let hN:=Aj N i;let up:∀{H' s b'},NR c CN H' a b s ah (lM N i) b' i->NR c CN H' a b s ah (lM N i) b' (i+1):=λA=>#[A.O,A.R,RM A.d];cases Y:N (i:Int)with
  |none =>
   rw[Y]at hN;rw[tK (eB Y<*Y)];show G.Mj hN ak ak λL I=>#[rfl,94];let A2:=G.same I;show#[0,a,dy,0,I _ _ hy,9,A2.Q4 hN ak ak λZ s3 A3 ac=>#[2,0,up A3,(same L I).trans ac]]
  |some nd =>
   rw[Y]at hN;show G.links hN λL I=>#[11];let A2:=G.same I;cases l0:nd.ln=0
   .rw[Ja (show V.int nd.ln=V.int 0 by rw[l0]),Fp (gZ Y l0)];show de #[0,a,dy,0,I _ _ hy,9,A2.RZ ak ak λZ s3 A3 ac=>#[2,0,A3,(same L I).trans ac]]
   .rw[ck (show ¬ V.int nd.ln=V.int 0 from λz=>l0 (V.int.inj z)),tK (fZ Y l0<*Y)];show cO #[2,0,up A2,same L I]
 .rintro σ H' ⟨v1,U,bi,rfl,G,ab⟩;let#[dy,hy]:=G.O.ob;rw[Jg us]at G;show#[0,a,dy,0,hy,bq ax ax,a,b,U,ah,(24),bD N,bi,rfl,G,az,λZ s3 A4 hD ad=>k Z s3 _ A4 hD (ab.trans ad),λZ fl=>kE H' U bi 24 Z G ab fl]
inductive XA(c:DA)(p bl:ZX)(fl:Bool)(cs:JS)(ah:Nat)(A:NS->Prop)(H H':Hp):Prop
 |mk(d:Int)(uf:V)(cs1:JS)(bs:iu)(N:NS)(bk:ic)(_:bg c.C H' p bl d uf false cs1 bs)(_:PH fl uf)(_:bs.9=48+ah)(_:bs[0]?^mL)(_:Rep (rd bs) ah N bk)(_:A (bD N))(_:iR cs H cs1)(_:Q5 (fS p bl cs) H H')
variable{bl:ZX}
def Hv{p:ZX}(o:Q5 (Wr p bl) H J):Q5 (fS p bl cs) H J:=o.mono λ_ z=>z.elim .inl λz=>.inr (.inl z)
def UU:aA ["disk"] ["disk"] (ao Wq):=L2.bo
theorem DT{fF:ZX}{fdF:C6}(F:bV K "mount" "mount" Wq f fd)(bx:!Df 4 "recover" (oq c.C CX))(bB:!Df 8 "end_nameless" (Dz c CX CN))(MN:Mk K CN fN)(a5:-aO 3 fN su "self disk".1 (wz c CN))(Ly:mg "Nodes" = some (.ref CN))(a4:Nl K su "self disk".1 [])(MF:Mk K CF fF)(bz:-aO 5 fF fdF "self disk".1 (NT c CX CN CF))(bd:mg "DiskFiles" = some (.ref CF))(bi:Nl K fdF "self disk".1 []):!aO 9 f fd ["disk"] (HS c CX CN CF):=by
 show F.dQ UU ?_;intros;let#[p,bl,d,uf,fl,cs,bs,ah,A,rfl,D,hu,ht,T,k,kE]:=h;let hb:=T.len;let fz:uf≠.bu->fl:=λq=>by
  cases e:fl with
  |true=>rfl
  |false=>show D9 (hu.2 e) q
 show#[_,%[0,0,A,dv,bx,s,A,dv,bB,a,bP,MN,a5,aw,Ly,a4,s,al,c,bP,MF,bz,aw,bd,bi,s|9],?_]
 show yD (λσ H'=>σ=[some (.ref p)]/\XA c p bl fl cs ah A H H') (λu' jt=>?_) ?_
 .show#[65,d,uf,cs,bs,48+ah,rfl,D,hu.1,ak,ak,?_];rcases T with⟨N,bk,l,z0,R,a⟩|⟨old,aK,ns,N,bk,p0,R,a⟩
  .show .inl #[λj=>bs[j]?,#[l,z0,λ_ _=>rfl],λH1 Z=>jt _ _ #[rfl,d,uf,cs,bs,N,bk,D.same Z,hu,l,z0,R,a,λx hx=>.inl hx,Q5.of Z]]
  .show .inr #[old,aK,ns,p0,λH1 d1 u1 am ad D1 o1 n1 C1 f1 w1=>jt _ _ #[rfl,d1,u1,am,ad,N,bk,D1,#[o1,λq=>n1 (hu.2 q)],C1.len,C1.b0,Calm.rep C1 R,a,f1,Hv w1],λhz H1 d1 u1 am ad D1 o1 P1 f1 w1=>?_];show kE (fz hz) H1 #[d1,u1,am,ad,o1,D1,.pend old aK ns N bk P1 R a,f1,Hv w1]
 .rintro σ H0 ⟨rfl,d0,u0,ab,L,N,bk,D0,aY,l0,z0,R0,a0,f0,o0⟩;show#[0,λna dz f1 a3 ne=>?_];let Z:aG H0 (QZ (QZ H0 dz (.own na)) na (.ins CN dz [])):=(aj a3).trans (aj (f1<*au (oR ne)));show#[na,dz,p,bl,d0,u0,fl,aY,ab,L,45,D0.same Z,ak,z0,λH2 dr dd O2 o2 aX be=>#[3]];let et:L.9-48=ah:=ak;rw[et]at O2;let A2:NR c CN H2 na #[68,L,fl] #[dd,ab,L,[]] ah N bk 0:=#[O2,R0<*zz,BY _];let aN:H0 dr=none:=aR Z aX;let bc:H0 dd=none:=aR Z be;let ac:∀{x u},H x^u->¬ fS p bl cs x->H0 x^u:=λe z=>o0 _ _ e z;let nw:∀x,¬ fS p bl cs x->H x≠none->¬ jm #[68,L,fl] #[dd,ab,L,[]] x/\¬ x=na:=λx hx al=>by
   let ar:H0 x≠none:=by
    cases e:H x with
    |none=>show D9 e al
    |some u=>rw[ac e hx];nofun
   show#[λz=>?_,λz=>ar (f1<*z)];obtain z|z|z|z|z|⟨y,hy,z⟩:=z
   .show ar (aN<*z)
   .show hx (.inl z)
   .show hx (.inr (.inl z))
   .show ar (bc<*z)
   .show(f0 x z).elim (λz=>hx (.inr (.inr z))) al
   .cases hy
  let oJ:∀{G I},cY #[68,L,fl] #[dd,ab,L,[]] H2 G I->Q5 (fS p bl cs) H I:=λST x u e z=>by
   let#[w1,w2]:=nw x z (by rw[e];nofun);show ST.1 x u (o2 x u (Z _ _ (ac e z)) w2) w1
  let aB:∀{G:BS}{I:Hp},cY #[68,L,fl] #[dd,ab,L,[]] H2 G I->(∃d4 u4 fa,bg c.C I p bl d4 u4 fa G.cs G.bs)->iR cs H G.cs:=λ{G I} ST U x hx=>by
   let#[d4,u4,fa,U]:=U;cases hc:x∈cs
   .show .inl hc
   .cases e:H x with
    |none=>show .inr rfl
    |some u =>
     exfalso;let al:H x≠none:=(by rw[e];nofun);cases hp:x=p\/x=bl
     .let#[ns,q1,q2]:=gA U.hc _ hx;let#[bK,h4]:=U.ob;obtain hp|hp:=hp
      .rw[hp,show I p=_ from h4]at q1;cases q1
      .rw[hp,show I bl=_ from U.hb]at q1;show uU q1 q2
     .let nd:¬ fS p bl cs x:=λz=>z.elim (λz=>hp (.inl z)) λz=>z.elim (λz=>hp (.inr z)) hc;let#[w1,w2]:=nw x nd al;rcases ST.2 x (.inr (.inr (.inr (.inr (.inl hx)))))with z|z
      .show w1 z
      .rw[o2 x u (Z _ _ (ac e nd)) w2]at z;cases z
  show#[na,#[68,L,fl],_,ah,N,bk,rfl,A2,λI G b3 Y hD ST=>?_,λI G b3 d3 J4 Y ST fe=>?_]
  .let#[d4,u4,as,U]:=Y.O.B.dk;let o3:=oJ ST;let c3:=aB ST #[d4,u4,_,U];let live:∀x,I x=none->fS p bl cs x\/H x=none:=λx hx=>by
    cases hd:fS p bl cs x
    .show .inl hd
    .cases e:H x with
     |none=>show .inr rfl
     |some u=>rwa[o3 x u e hd]at hx
   show#[0,λfa ap g1 g2 a7=>?_];let s5:aG I (QZ (QZ I ap (.own fa)) fa (.ins CF ap [])):=(aj g2).trans (aj (g1<*au (oR a7)));show#[fa,ap,p,bl,d4,u4,fl,as,G.cs,G.bs,bD N,b3,45,U.same s5,by have:=Y.O.tt;lia,Y.O.B.z0,?_,λH6 z m ez e1 e2 ay aT a6 bv o6=>#[3]]
   .rw[<-RX hD,show G.bs.9-48=ah by have:=Y.O.tt;lia];show Y.R
   rw[show G.bs.9-48=ah by have:=Y.O.tt;lia]at ay;subst ez;show k H6 z (bD N) m a0 (λn nd q=>(iH q).2) e1 e2 ay (λx hx=>?_) (live _ g1) (live _ (aR s5 a6)) (live _ (aR s5 bv)) λx u e w=>o6 x u (s5 _ _ (o3 x u e w)) λq=>(live x (g1<*q)).elim w λq2=>(e*>q2);obtain w|w:=aT x hx
   .rcases w with w|w|w
    .show .inl (.inl w)
    .show .inl (.inr (.inl w))
    .show(c3 x w).imp (λw=>.inr (.inr w)) id
   .show live _ (aR s5 w)
  .let#[#[d5,u5,bb,bn,bm,D5,m5,f5],o5,q5]:=fe;let e3:G.bs=L:=Y.O.B.g0;let#[d4,u4,as,U]:=Y.O.B.dk;let c3:=aB ST #[d4,u4,_,U];let o3:=oJ ST;let o6:Q5 (fS p bl cs) H J4:=λx u e z=>o5 x u (o3 x u e z) λq=>by
    obtain q|q:=ST.2 x q
    .show(nw x z (by rw[e];nofun)).1 q
    .let#[w1,w2]:=nw x z (by rw[e];nofun);rwa[o2 x u (Z _ _ (ac e z)) w2]at q
   show kE q5 J4 #[d5,u5,bb,bn,bm,D5,?_,123,o6]
   .rw[e3,l0]at m5;show m5.tell (M0:=N) (M1:=bD N) #[bk,R0.lb λj hj=>?_] #[b3,Y.R.lb λj hj=>?_] a0 (a0<*Qn)
    .rfl
    .change lb G ((j.5:Nat):Int)=lb G j;rw[ZT ak]
   .rcases f5 x hx with q|q
    .show c3 x q
    .cases hd:fS p bl cs x
     .rcases hd with hd|hd|hd
      .let#[ns,r1,r2]:=gA D5.hc _ hx;let#[bF,h5]:=D5.ob;rwa[hd,show J4 p=_ from h5]at r1
      .let#[ns,r1,r2]:=gA D5.hc _ hx;rw[hd,show J4 bl=_ from D5.hb]at r1;show(uU r1 r2).elim
      .show .inl hd
     .cases e:H x with
      |none=>show .inr rfl
      |some u=>rwa[o3 x u e hd]at q
inductive Dd
 |make(kd:Bool)(p:Str)
 |unlink(p:Str)
 |rmdir(p:Str)
 |hold(n:Int)
 |loose(n:Int)
 |link(p q:Str)
 |move(p q:Str)
 |cut(n a:Int)
 |write(n a:Int)(cs:N4)
inductive Rs
 |bu
 |int(i:Int)
def fw(H:Hp)(t:ZX)(d:Dd):Prop:=match d with
 |.make kd p=>H t|||[.str (if kd then "make_dir" else "make"),.str p]
 |.unlink p=>H t|||[.str "unlink",.str p]
 |.rmdir p=>H t|||[.str "remove_dir",.str p]
 |.hold n=>H t|||[.str "hold",.int n]
 |.loose n=>H t|||[.str "loose",.int n]
 |.link p q=>H t|||[.str "link",.str p,.str q]
 |.move p q=>H t|||[.str "move",.str p,.str q]
 |.cut n a=>H t|||[.str "cut",.int n,.int a]
 |.write n a cs=>∃l,H t|||[.str "write_at",.int n,.int a,.ref l]/\H l%cs.17
abbrev sm(n:Int):Prop:=n.12<=1000000
def gH(d:Dd):Prop:=match d with
 |.make _ p=>bS p
 |.unlink p=>bS p
 |.rmdir p=>bS p
 |.hold n=>sm n
 |.loose n=>sm n
 |.link p q=>bS p/\bS q
 |.move p q=>bS p/\bS q
 |.cut n a=>sm n/\sm a
 |.write n a cs=>sm n/\sm a/\cs.9<=1000
abbrev Og:=Rs×NS×SS×HT
noncomputable def vP(ah:Nat)(N:NS)(S:SS)(h:HT)(d:Dd):Except Er Og:=match d with
 |.make kd p=>(lC ah N S p kd).map λx=>(.int x.1,x.2.1,x.2.2,h)
 |.unlink p=>(jP N S h p).map λx=>(.bu,x.1,x.2,h)
 |.rmdir p=>(jG N S p).map λx=>(.bu,x.1,x.2,h)
 |.hold n=>(qR N h n).map λh'=>(.bu,N,S,h')
 |.loose n=>(ir N h n).map λx=>(.bu,x.1,S,x.2)
 |.link p q=>(rG ah N S p q).map λx=>(.bu,x.1,x.2,h)
 |.move p q=>(pq ah N S p q).map λx=>(.bu,x.1,x.2,h)
 |.cut n a=>(CW ah N n a).map λN'=>(.bu,N',S,h)
 |.write n a cs=>(nV ah N n a cs).map λN'=>(.int cs.9,N',S,h)
def bC{α β:Type}{f:α->β}{x:Except Er α}{b:β}(h:x.map f=.ok b):∃a,x=.ok a/\f a=b:=by
 cases x with
 |error e=>cases h
 |ok a=>cases h;show#[a,1]
variable{d:Dd}{S':SS}{h':HT}
theorem QA{r:Rs}(F:Fz N S)(ok:gH d)(e:vP ah N S h d=.ok (r,N',S',h')):Fz N' S':=by
 cases d with
 |make kd p=>let#[x,q,e]:=bC e;cases e;show JZ F ok q
 |unlink p=>let#[x,q,e]:=bC e;cases e;show BL F q
 |rmdir p=>let#[x,q,e]:=bC e;cases e;show Ck F q
 |hold n=>let#[x,q,e]:=bC e;cases e;show F
 |loose n=>let#[x,q,e]:=bC e;cases e;show Eo F q
 |link p p2=>let#[x,q,e]:=bC e;cases e;show Kv F ok.1 ok.2 q
 |move p p2=>let#[x,q,e]:=bC e;cases e;show Aq F ok.1 ok.2 q
 |cut n a=>let#[x,q,e]:=bC e;cases e;show(vc q).fz F
 |write n a cs=>let#[x,q,e]:=bC e;cases e;show(nY q).fz F
def Tf:Rs->V
 |.bu=>.bu
 |.int i=>.int i
variable{x:Str}{A rest:pB}{D:Ends}{R:XR}{σ:St}{t:ZX}
def B3{w:Str}(h1:σ[1]?^some (.ref t))(F:H t|||(.str w::xs))(ne:¬ w=x)(k:rest D R σ H):pA (Iu (E2 (Li Vy (Li (pH K) (xV 1) (tC (.int 0))) (tC (.str x)))) A uI) rest D R σ H:=by
 show#[_,h1,t,_,(0),.str w,1,eM.of F,118,11];rw[ck (show ¬ V.str w=V.str x from λz=>ne (V.str.inj z))];show cO k
def HL(h1:σ[1]?^some (.ref t))(F:H t|||(.str x::xs))(k:A { D with nx:=rest D R } R σ H):pA (Iu (E2 (Li Vy (Li (pH K) (xV 1) (tC (.int 0))) (tC (.str x)))) A uI) rest D R σ H:=by
 show#[_,h1,t,_,(0),.str x,1,eM.of F,118,11];rw[Ja rfl];show de k
inductive JE(M:b7)(CF:ZX)(X:Er->ZX)(v:vl)(H:Hp)(Q:VK)(e3:XK):Prop
 |mk(z:FA)(m:M.St)(ah:Nat)(N:NS)(S:SS)(h:HT)(t:ZX)(d:Dd)(_:v=[.ref z.a,.ref t])(_:cI M CF H z m ah N h 0)(_:Fz N S)(_:fw H t d)(_:gH d)(_:∀e,vP ah N S h d=.error e->∀J,aG H J->e3 (.ref (X e)) none J)(_:∀r N' S' h',vP ah N S h d=.ok (r,N',S',h')->(∀(J:Hp)(m':M.St),cI M.uW CF J z m' ah N' h' 0->cH M z m H m' J->Q (Tf r) J)/\∀J,jT M z m H ah N' J->e3 (.ref M.X0) none J)
abbrev UM:Yv:=top 88
def dI{α β:Type}{f:α->β}{x:Except Er α}{a:α}(h:x=.ok a):x.map f=.ok (f a):=by rw[h];rfl
def jd{α β:Type}{f:α->β}{x:Except Er α}(h:x=.error e):x.map f=.error e:=by rw[h];rfl
def Pd:aA "_law_files _law_deed_here _law_handed _law_found".1 "_law_files _law_deed_here".1 (ao UM):=L2.bo
theorem Kq(F:bV K "_law_done" "_law_done" UM f fd)(T:l9 K mg X)(TF:fI K CF)(O:M.Ok P w K mg base)(aN:!Md 12 CF "make" (Du false M CF X))(ac:!Md 12 CF "make_dir" (Du true M CF X))(ar:!Md 10 CF "unlink" (Nk M CF X))(aX:!Md 10 CF "remove_dir" (OP M CF X))(aY:!Md 10 CF "hold" (NG M CF X))(aB:!Md 9 CF "loose" (Hm M CF X))(ap:!Md 11 CF "link" (Ol M CF X))(as:!Md 11 CF "move" (Mm M CF X))(ay:!Md 11 CF "cut" (Oe M CF X))(ad:!Md 10 CF "read_at" (KR M CF X))(am:!Md 11 CF "write_at" (Pa M CF X))(aK:-Md 9 CF "free" (BU M CF)):!aO 13 f fd "_law_files _law_deed_here".1 (JE M CF X):=by
 show F.dQ Pd ?_;intros;let#[z,m,ah,N,S,h,t,d,rfl,Y,Z,G,ok,kE,I]:=h;let#[dy,U]:=Y.ob;show#[_,%[Pd,0,aI,o,O,bk,aL,aN,a,o,aI,o,O,bk,aL,ac,a,o,aI,o,O,bk,aL,ar,a,o,aI,o,O,bk,aL,aX,a,o,aI,o,O,bk,aL,aY,a,o,aI,o,O,bk,aL,aB,a,o,aI,o,O,bk,aL,ap,b,o,a,o,aI,o,O,bk,aL,as,b,o,a,o,aI,o,O,bk,aL,ay,b,o,a,o,aI,o,O,bk,aL,ad,b,o,b,o,a,o,aI,o,O,G,2,bI,a,o,au,3,aL,am,b,o,b,o,g,al,f,M,bg,ZK,ZL,jo,2,aF,f,cU,ai,dk,2,ai,set_list,c,3,al,c,dy,cD,aK,hr,aC|9],?_]
 let a0:cH M z m H m H:=cH.of (b7.sm (aG.refl H));cases d with
 |make kd p =>
  cases kd with
  |false =>
  let G:H t|||[.str "make",.str p]:=G
  repeat (show B3 rfl G ax ?_)
  show HL rfl G ?_;show#[48,λu N' S' hk=>#[117]]
  |true =>
  let G:H t|||[.str "make_dir",.str p]:=G
  repeat (show B3 rfl G ax ?_)
  show HL rfl G ?_;show#[48,λu N' S' hk=>#[117]]
 |unlink p =>
  let G:H t|||[.str "unlink",.str p]:=G
  repeat (show B3 rfl G ax ?_)
  show HL rfl G ?_;show#[48,λN' S' hk=>#[117]]
 |rmdir p =>
  let G:H t|||[.str "remove_dir",.str p]:=G
  repeat (show B3 rfl G ax ?_)
  show HL rfl G ?_;show#[48,λN' S' hk=>#[117]]
 |hold n =>
  let G:H t|||[.str "hold",.int n]:=G
  repeat (show B3 rfl G ax ?_)
  show HL rfl G ?_;show#[12,U,41,37,h,n,rfl,Y,ok,125,λh' hk J A' st=>(I _ _ _ _ (dI hk)).1 J m (A'.af O) st]
 |loose n =>
  let G:H t|||[.str "loose",.int n]:=G
  repeat (show B3 rfl G ax ?_)
  show HL rfl G ?_;show#[12,U,41,37,h,n,rfl,Y,ok,125,λN' h' hk=>#[λJ m' A' st=>(I _ _ _ _ (dI hk)).1 J m' A' st,(I _ _ _ _ (dI hk)).2]]
 |link p p2 =>
  let G:H t|||[.str "link",.str p,.str p2]:=G
  repeat (show B3 rfl G ax ?_)
  show HL rfl G ?_;show#[18,0,t,_,(2),.str p2,142,37,S,h,p,p2,rfl,Y,Z,ok.1,ok.2,125,λN' S' hk=>#[117]]
 |move p p2 =>
  let G:H t|||[.str "move",.str p,.str p2]:=G
  repeat (show B3 rfl G ax ?_)
  show HL rfl G ?_;show#[18,0,t,_,(2),.str p2,142,37,S,h,p,p2,rfl,Y,Z,ok.1,ok.2,125,λN' S' hk=>#[117]]
 |cut n a =>
  let G:H t|||[.str "cut",.int n,.int a]:=G
  repeat (show B3 rfl G ax ?_)
  show HL rfl G ?_;show#[12,U,41,0,t,_,(2),.int a,142,37,h,n,a,rfl,Y,ok,125,λN' hk=>#[117]]
 |write n a cs =>
  let#[l,G,hl]:=(show ∃l,H t|||[.str "write_at",.int n,.int a,.ref l]/\H l%cs.17from G)
  repeat (show B3 rfl G ax ?_)
  show HL rfl G ?_;let hs:=HC;show#[0,t,_,(3),.ref l,1,eM.of G,aJ (j:=3) rfl,92,λg fg=>?_];let#[s1,e1]:=gI (X:=.lst cs.17) fg;generalize QZ _ _ (.lst cs.17)=H1 at *;let A1:=Y.same O s1;let ng:¬ M.own m g:=λw=>O.live Y.A w fg;let G:=s1 _ _ G;show#[12,s1 _ _ U,41,0,t,_,(2),.int a,142,0,37,h,n,a,g,cs,rfl,A1,ok,e1,ng,λe L J s'=>kE e (jd L) J (s1.trans s'),λN' hk=>#[λJ m' A' st=>?_,λJ fe=>(I _ _ _ _ (dI hk)).2 J (fe.pre s1)]];let e2:=st.1 _ _ e1 ng;let ab:¬ M.own m' g:=λw=>by
   obtain w|w:=st.2 _ w
   .show ng w
   .rw[w]at e1;cases e1
  let na:¬ z.a=g:=λw=>(U*>[w,fg]);let nn:¬ z.na=g:=λw=>by
   let#[dx,kX,ho,_]:=O.ob Y.A;rwa[w,fg]at ho
  let nh:¬ z.hd=g:=λw=>by
   have:=Y.hh;rwa[w,fg]at this
  let l3:=ok.2.2;show#[0,.inl #[5,bh.of e2],g,_,.int 7,1,e2,129,?_];let o3:Q5 (· = g) J (QZ J g (.lst (cs.map V.int++[V.int 7]))):=λy u e w=>(e<*au w);let A3:=A'.yY O o3 (λy U w=>ab (w▸U)) na nn nh;let e3:QZ J g (.lst (cs.map V.int++[V.int 7])) g%(cs.map V.int++[V.int 7]):=ag;let oH:Q5 (λy=>M.own m y\/y=z.hd) H (QZ J g (.lst (cs.map V.int++[V.int 7]))):=λy u e w=>o3 _ _ (st.1 _ _ (s1 _ _ e) λq=>w (.inl q)) λq=>(e*>[q,fg]);generalize QZ J g (.lst (cs.map V.int++[V.int 7]))=H3 at *;let aT:Cb (cs.map V.int++[V.int 7]).length 0^0:=by
   unfold Cb;rw[C' az,C' (by rw[tp,Yq];lia)];rfl
  show#[0,g,_,61,1,e3,aT,?_];let o4:Q5 (· = g) H3 (QZ H3 g (.lst ((cs.map V.int++[V.int 7]).set 0 (V.int 9)))):=λy u e w=>(e<*au w);let A4:=A3.yY O o4 (λy U w=>ab (w▸U)) na nn nh;show#[0,(I _ _ _ _ (dI hk)).1 _ m' A4 #[λy u e w=>o4 _ _ (oH _ _ e w) λq=>(e*>[q,fg]),λy w=>?_]];obtain w|w:=st.2 y w
  .show .inl w
  .show .inr (aR s1 w)
def QU:YY "ValueError" = some (.type "ValueError"):=ax
def bX(e:Er):Nat:=match e with
 |.badName=>0
 |.noName=>1
 |.notDir=>2
 |.isDir=>3
 |.notEmpty=>4
 |.inside=>5
 |.noNode=>6
 |.noSpace=>7
 |.tooMany=>8
 |.tooBig=>9
 |.notHeld=>10
 |.notAllowed=>11
 |.taken=>12
 |.fallen=>13
structure vA(K:Yi)(mg:j5)(X:Er->ZX):Prop where
 pX:mg "isinstance" = none
 ve:mg "ValueError" = none
 list:mg "list" = none
 tuple:mg "tuple" = none
 int:mg "int" = none
 str:mg "str" = none
 bool:mg "bool" = none
 len:mg "len" = none
 all:mg "all" = none
 zip:mg "zip" = none
 abs:mg "abs" = none
 min:mg "min" = none
 range:mg "range" = none
 xc:∀e,PySem.W.xU K (X e)
 xk:∀e e',YT K (.ref (X e)) (.ref (X e'))^decide (bX e=bX e')
 xv:∀e,YT K (.ref (X e)) (.type "ValueError")^true
def l9.xg(T:l9 K mg X)(e:Er):∃u,mg (Dm e)^u/\zH (.ref (X e)) u:=#[_,T.xm e,rfl]
def kH(K:Yi):List V->Hp->VK->Prop:=λxs H Q=>∃(e C:ZX)(c:V)(F:xr)(b:Bool),xs=[.ref e,c]/\((∃D,c=.ref D/\F=.ref D)\/∃n,c=.ty n/\F=.type n)/\PySem.W.xU K C/\H e^xo e (.ref C)/\YT K (.ref C) F^b/\Q (.bl b) H
noncomputable def PK(e:Er):List V:=[.bl (decide (bX e=bX .badName)),.bl (decide (bX e=bX .noName)),.bl (decide (bX e=bX .notDir))]
noncomputable def Py(e:Er):List V:=PK e++[.bl (decide (bX e=bX .isDir)),.bl (decide (bX e=bX .notEmpty))]
noncomputable def Pt(e:Er):List V:=Py e++[.bl (decide (bX e=bX .inside)),.bl (decide (bX e=bX .noNode)),.bl (decide (bX e=bX .noSpace))]
noncomputable def B5(e:Er):List V:=Pt e++[.bl (decide (bX e=bX .tooMany)),.bl (decide (bX e=bX .tooBig))]
noncomputable def C9(e:Er):List V:=B5 e++[.bl (decide (bX e=bX .notHeld)),.bl (decide (bX e=bX .notAllowed))]
noncomputable def BF(e:Er):List V:=C9 e++[.bl (decide (bX e=bX .taken)),.bl (decide (bX e=bX .fallen))]
def Nh(e:Er):List Bool:=(YQ 14).map λi=>decide (bX e=i)
def Qo(e:Er):BF e=(Nh e).map V.bl:=rfl
def Nz(e:Er):(Nh e).countP id=1:=by cases e<;>rfl
def PL(e:Er):(Nh e)[bX e]?^true:=by cases e<;>rfl
def PQ(e:Er)(i:Nat)(h:i<bX e):(Nh e)[i]?^false:=by
 let h2:bX e<14:=(by cases e<;>decide);unfold Nh;rw[IF,List.getElem?_range ak];show Ur some (ck ak)
noncomputable def Bs:List Str:="BadName NoName NotDir IsDir NotEmpty Inside NoNode".1
noncomputable def DR:List Str:="NoSpace TooMany TooBig NotHeld NotAllowed Taken Fallen".1
def Xe:Txt.split "BadName NoName NotDir IsDir NotEmpty Inside NoNode" " " = Bs:=ax
def V6:Txt.split "NoSpace TooMany TooBig NotHeld NotAllowed Taken Fallen" " " = DR:=ax
def Qf(e:Er):((Bs++DR).map V.str)[bX e]?^.str (Dm e):=by cases e<;>rfl
inductive M9(X:Er->ZX)(v:vl)(H:Hp)(Q:VK)(e3:XK):Prop
 |mk(x:ZX)(e:Er)(_:v=[.ref x])(_:H x^xo x (.ref (X e)))(_:∀J,aG H J->Q (.str (Dm e)) J)
abbrev VM:Yv:=top 87
variable{x:ZX}
def mX(L:vA K mg X)(I:σ[0]?^some (.ref x))(G:H x^xo x (.ref (X e)))(F:Er)(q:Q (.bl (decide (bX e=bX F))) H):V7 (kH K) (wN (xV 0) (wN (tC (.ref (X F))) wV)) σ H Q :=
 #[_,I,x,X e,2,0,.inl #[0,rfl],L.xc e,G,L.xk e F,q]
def uT:aA "_law_error _law_asked _law_words".1 ["_law_error"] (ao VM):=L2.bo
theorem Iw(F:bV K "_law_kind" "_law_kind" VM f fd)(T:l9 K mg X)(L:vA K mg X):-aO 1 f fd ["_law_error"] (M9 X):=by
 show F.dZ uT ?_;intros;let#[x,e,rfl,G,k]:=h;show#[_,%[uT,0,aR,aQ,q,aM,aZ,cN,b,q,aM,aZ,.noName,a,q,aM,aZ,.notDir,aR,B,1,aQ,q,aM,aZ,.isDir,a,q,aM,aZ,.notEmpty,aR,B,1,aQ,q,aM,aZ,.inside,b,q,aM,aZ,cP,a,q,aM,aZ,.noSpace,aR,B,1,aQ,q,aM,aZ,.tooMany,a,q,aM,aZ,.tooBig,aR,B,1,aQ,q,aM,aZ,.notHeld,a,q,aM,aZ,cQ,aR,B,1,aQ,q,aM,aZ,cO,a,q,aM,aZ,.fallen,aH,du,aE,ak,aH,B,2,du,aE,ak,D,bT,cG,i,ud,bg,acZ,PySem.F.type_list_count,IV,1,a,jq,r,cH,cJ,bH,q,aM,co,bt,(gv (v:=.ty "ValueError")),W,L.ve,QU,rfl,c,aE,c,p,2,bg,RJ,ac0,MU,1,a,jq|9],?_]
 show mX L rfl G .badName (mX L rfl G .noName (mX L rfl G .notDir #[eW,λa1 f1=>?_]));let s1:=aj (X:=.lst (PK e)) f1;let e1:QZ H a1 (.lst (PK e)) a1%(PK e):=ag;change kJ _ _ _ #v[.ref x,.ref a1,none] (QZ H a1 (.lst (PK e)));generalize QZ H a1 (.lst (PK e))=H1 at *;let h1:=s1 _ _ G;show#[0,mX L rfl h1 .isDir (mX L rfl h1 .notEmpty #[eW,λb2 f2=>?_])];let t2:=aj (X:=.lst [V.bl (decide (bX e=bX .isDir)),V.bl (decide (bX e=bX .notEmpty))]) f2;show#[a1,b2,7,t2 _ _ e1,ag,eW,λa2 g2=>?_];let u2:=aj (X:=.lst (Py e)) g2;let e2:QZ (QZ H1 b2 (.lst [V.bl (decide (bX e=bX .isDir)),V.bl (decide (bX e=bX .notEmpty))])) a2 (.lst (Py e)) a2%(Py e):=ag;let s2:=s1.trans (t2.trans u2);change kJ _ _ _ #v[.ref x,.ref a2,none] (QZ (QZ H1 b2 (.lst [V.bl (decide (bX e=bX .isDir)),V.bl (decide (bX e=bX .notEmpty))])) a2 (.lst (Py e)));generalize QZ (QZ H1 b2 (.lst [V.bl (decide (bX e=bX .isDir)),V.bl (decide (bX e=bX .notEmpty))])) a2 (.lst (Py e))=H2 at *;let h2:=s2 _ _ G;show#[0,mX L rfl h2 .inside (mX L rfl h2 .noNode (mX L rfl h2 .noSpace #[eW,λb3 f3=>?_]))];let t3:=aj (X:=.lst [V.bl (decide (bX e=bX .inside)),V.bl (decide (bX e=bX .noNode)),V.bl (decide (bX e=bX .noSpace))]) f3;show#[a2,b3,7,t3 _ _ e2,ag,eW,λa3 g3=>?_];let u3:=aj (X:=.lst (Pt e)) g3;let e3:QZ (QZ H2 b3 (.lst [V.bl (decide (bX e=bX .inside)),V.bl (decide (bX e=bX .noNode)),V.bl (decide (bX e=bX .noSpace))])) a3 (.lst (Pt e)) a3%(Pt e):=ag;let s3:=s2.trans (t3.trans u3);change kJ _ _ _ #v[.ref x,.ref a3,none] (QZ (QZ H2 b3 (.lst [V.bl (decide (bX e=bX .inside)),V.bl (decide (bX e=bX .noNode)),V.bl (decide (bX e=bX .noSpace))])) a3 (.lst (Pt e)));generalize QZ (QZ H2 b3 (.lst [V.bl (decide (bX e=bX .inside)),V.bl (decide (bX e=bX .noNode)),V.bl (decide (bX e=bX .noSpace))])) a3 (.lst (Pt e))=H3 at *;let h3:=s3 _ _ G;show#[0,mX L rfl h3 .tooMany (mX L rfl h3 .tooBig #[eW,λb4 f4=>?_])];let t4:=aj (X:=.lst [V.bl (decide (bX e=bX .tooMany)),V.bl (decide (bX e=bX .tooBig))]) f4;show#[a3,b4,7,t4 _ _ e3,ag,eW,λY g4=>?_];let u4:=aj (X:=.lst (B5 e)) g4;let e4:QZ (QZ H3 b4 (.lst [V.bl (decide (bX e=bX .tooMany)),V.bl (decide (bX e=bX .tooBig))])) Y (.lst (B5 e)) Y%(B5 e):=ag;let s4:=s3.trans (t4.trans u4);change kJ _ _ _ #v[.ref x,.ref Y,none] (QZ (QZ H3 b4 (.lst [V.bl (decide (bX e=bX .tooMany)),V.bl (decide (bX e=bX .tooBig))])) Y (.lst (B5 e)));generalize QZ (QZ H3 b4 (.lst [V.bl (decide (bX e=bX .tooMany)),V.bl (decide (bX e=bX .tooBig))])) Y (.lst (B5 e))=H4 at *;let h4:=s4 _ _ G;show#[0,mX L rfl h4 .notHeld (mX L rfl h4 .notAllowed #[eW,λb5 f5=>?_])];let t5:=aj (X:=.lst [V.bl (decide (bX e=bX .notHeld)),V.bl (decide (bX e=bX .notAllowed))]) f5;show#[Y,b5,7,t5 _ _ e4,ag,eW,λU g5=>?_];let u5:=aj (X:=.lst (C9 e)) g5;let e5:QZ (QZ H4 b5 (.lst [V.bl (decide (bX e=bX .notHeld)),V.bl (decide (bX e=bX .notAllowed))])) U (.lst (C9 e)) U%(C9 e):=ag;let s5:=s4.trans (t5.trans u5);change kJ _ _ _ #v[.ref x,.ref U,none] (QZ (QZ H4 b5 (.lst [V.bl (decide (bX e=bX .notHeld)),V.bl (decide (bX e=bX .notAllowed))])) U (.lst (C9 e)));generalize QZ (QZ H4 b5 (.lst [V.bl (decide (bX e=bX .notHeld)),V.bl (decide (bX e=bX .notAllowed))])) U (.lst (C9 e))=H5 at *;let h5:=s5 _ _ G;show#[0,mX L rfl h5 .taken (mX L rfl h5 .fallen #[eW,λab aB=>?_])];let ac:=aj (X:=.lst [V.bl (decide (bX e=bX .taken)),V.bl (decide (bX e=bX .fallen))]) aB;show#[U,ab,7,ac _ _ e5,ag,eW,λI as=>?_];let ay:=aj (X:=.lst (BF e)) as;let ar:QZ (QZ H5 ab (.lst [V.bl (decide (bX e=bX .taken)),V.bl (decide (bX e=bX .fallen))])) I (.lst (BF e)) I%(BF e):=ag;let am:=s5.trans (ac.trans ay);change kJ _ _ _ #v[.ref x,.ref I,none] (QZ (QZ H5 ab (.lst [V.bl (decide (bX e=bX .taken)),V.bl (decide (bX e=bX .fallen))])) I (.lst (BF e)));generalize QZ (QZ H5 ab (.lst [V.bl (decide (bX e=bX .taken)),V.bl (decide (bX e=bX .fallen))])) I (.lst (BF e))=X4 at *;let aK:=am _ _ G;show#[5,0,1,ax,λZ f6=>?_];rw[Xe];let s6:=aj (X:=.lst (Bs.map V.str)) f6;let e6:QZ X4 Z (.lst (Bs.map V.str)) Z%(Bs.map V.str):=ag;change kJ _ _ _ #v[.ref x,.ref I,.ref Z] (QZ X4 Z (.lst (Bs.map V.str)));generalize QZ X4 Z (.lst (Bs.map V.str))=H6 at *;show#[0,5,0,1,ax,λw2 f7=>?_];rw[V6];let#[s7,e7]:=gI (X:=.lst (DR.map V.str)) f7;generalize QZ _ _ (.lst (DR.map V.str))=H7 at *;show#[Z,w2,7,s7 _ _ e6,e7,eW,λw3 f8=>?_];rw[<-DD];let s8:=aj (X:=.lst ((Bs++DR).map V.str)) f8;let e8:QZ H7 w3 (.lst ((Bs++DR).map V.str)) w3%((Bs++DR).map V.str):=ag;change kJ _ _ _ #v[.ref x,.ref I,.ref w3] (QZ H7 w3 (.lst ((Bs++DR).map V.str)));generalize QZ H7 w3 (.lst ((Bs++DR).map V.str))=H8 at *;let ad:=s6.trans (s7.trans s8);let ap:=am.trans ad;let ea:=ad _ _ ar;rw[Qo]at ea;show#[0,.inl #[5,bh.of ea],I,Nh e,1,ea,11];rw[Nz];show cO #[0,#[x,X e,2,0,.inr #[0,rfl],L.xc e,ap _ _ G,L.xv e,?_]];show#[111];show#[0,0,.inl #[5,bh.of ea],I,Nh e,bX e,1,ea,PL e,PQ e,w3,2,.str (Dm e),1,bh.of e8,aJ (Qf e),k H8 ap]
def Bx(H:Hp)(l:ZX):=∃v:Int,H l% [.int v]
structure Lf(l:ZX)(H J:Hp):Prop where
 off:Q5 (· = l) H J
 bx:Bx J l
theorem Lf.trans(a:Lf l H H1)(b:Lf l H1 H2):Lf l H H2:=#[a.off.trans b.off,b.bx]
def Lf.same(a:Lf l H H1)(s:aG H1 H2):Lf l H H2:=#[a.off.trans (Q5.of s),by let#[v,e]:=a.bx;show#[v,s _ _ e]]
theorem Lf.nn(a:Lf l H J)(h:J x=none):H x=none:=Q5.nn a.off (λz=>by let#[v,e]:=a.bx;rwa[z,e]at h) h
def Lf.keep{o:HO}(a:Lf l H1 H2)(h:H1 x^o)(f:x≠l):H2 x^o:=a.off _ _ h f
inductive Ih(vs:vl)(H:Hp)(Q:VK)(e:XK):Prop
 |mk(c j:Int)(_:vs=[.int c,.int j])(_:0<=j)(_:j<=1000)(_:∀v:Int,Q (.int v) H)
inductive yi(v:vl)(H:Hp)(Q:VK)(e:XK):Prop
 |mk(l:ZX)(n:Int)(_:v=[.ref l,.int n])(_:Bx H l)(_:0<n)(_:n<=1000)(_:∀(r:Int)(J:Hp),0<=r->r<n->Lf l H J->Q (.int r) J)
inductive L4(K:Yi)(v:vl)(H:Hp)(Q:VK)(e:XK):Prop
 |mk(a:ZX)(ns:N4)(j:Nat)(_:v=[.ref a,.int (j:Int)])(_:bh K H a ns.17)(_:j<ns.9)(_:j<=63)(_:∀(J:Hp)(l:ZX),aG H J->H l=none->Bx J l->Q (.ref l) J)
abbrev U9:Yv:=top 83
abbrev UO:Yv:=top 84
abbrev U3:Yv:=top 85
def PY:aA "_law_cell _law_k _law_once".1 "_law_cell _law_k".1 (ao U9):=L2.bo
def Qy:aA "_law_left_here _law_many _law_told_here".1 "_law_left_here _law_many".1 (ao UO):=L2.bo
def IS:aA "_law_script _law_k _law_left_here _law_j".1 "_law_script _law_k".1 (ao U3):=L2.bo
theorem Hu(F:bV K "_law_mixed" "_law_mixed" U9 f fd):-aO 1 f fd "_law_cell _law_k".1 Ih:=by
 show F.dZ PY ?_;intros;let#[c,j,rfl,I,h1,k]:=h;show#[_,%[PY,0,aH,aP,bq,k,k,aP,0,ai,bq,ai,1,cE,ai,c,aP,bq,2,k,k,aP,2,ai,1,cE|9],?_]
 show#[0,7,(Ao 1000000006),0,133,_,0,5,0,5,0,rfl,.inr #[az,az],7,(Ao 2147483646),?_];let L:=Kp ((c%1000000007+7*j+1)*48271) (show(2147483647:Int)≠0 by decide);let G:=aeB ((c%1000000007+7*j+1)*48271) (show(0:Int)<2147483647 by decide);generalize (c%1000000007+7*j+1)*48271%2147483647=o at *;show#[0,0,7,(Ao 1008),0,_,0,5,0,5,0,rfl,.inl #[ak,ak],7,(Ao 998244352),k _]
theorem Gd(F:bV K "_law_digit" "_law_digit" UO f fd):-aO 1 f fd "_law_left_here _law_many".1 yi:=by
 show F.dZ Qy ?_;intros;let#[l,n,rfl,#[v,G],I,h1,k]:=h;show#[_,%[Qy,0,aH,aP,af,0,1,f,cU,bZ,af,0,1,dk,0,ai,set_list,c,2|9],?_]
 show#[0,l,_,(0),.int v,1,bh.of G,118,0,7,I,?_];show#[0,l,_,(0),.int v,1,bh.of G,118,0,7,#[I,ak],?_];show#[0,l,[.int v],61,1,G,3];show#[0,k _ _ (Kp _ ak) (aeB _ I) #[λb o e nb=>e<*au nb,_,ag]]
theorem JR(F:bV K "_law_left" "_law_left" U3 f fd)(T:vA K mg X)(I:-Df 1 "_law_mixed" Ih):-aO 2 f fd "_law_script _law_k".1 (L4 K):=by
 show F.dZ IS ?_;intros;let#[a,ns,j,rfl,G,U,Z,k]:=h;let L:lJ ns.17 (j:Int)^.int ns[j]:=aJ (by rw[IF,vu U];rfl);show#[_,%[IS,hr,D,w,aP,t,s,ai,r,c,x,a,q,abr,T.abs,afa,a,p,0,1,aH,ai,bf,bD,aF,y,3,h,cg,2,k,bq,2,ai,d,I,b,k,d,I,b,p,0,1,a,k,ai,1,3,a,k,ai,3,c,x,g|9],?_]
 show#[0,a,0,.inl G,7,zC3,11];show fH (λ_=>?_) (λ_=>?_)
 .show#[0,0,a,2,0,rfl,G,L,0,eW,λl fl=>?_];show k _ l (aj fl) fl #[_,ag]
 .show#[0,az,az,?_];show gc (lo:=0) (n:=(4:Int).5) (λi σ H'=>Dh λ(v:Int)(o:Option V)=>σ=#v[.ref a,.int (j:Int),.int v,o]/\H'=H) #[(0),none,1] ?_ ?_
  .rintro i σ H' hi ⟨v,o,rfl,rfl⟩;show#[0,7,.inr #[az,az],?_];show#[0,0,a,2,0,rfl,G,L,0,7,ns[j],131+(j:Int),rfl,ak,ak,λu=>?_];show#[0,7,0,7,u+(0+(i:Int)),200+(0+(i:Int)),rfl,ak,ak,λY=>?_];show#[_,0,5,0,rfl]
  .rintro σ H' ⟨v,o,rfl,rfl⟩;show#[0,eW,λl fl=>k _ l (aj fl) fl #[_,ag]]
inductive yB(M:b7)(CF:ZX)(X:Er->ZX)(v:vl)(H:Hp)(Q:VK)(e3:XK):Prop
 |mk(z:FA)(m:M.St)(ah:Nat)(N:NS)(S:SS)(h:HT)(t:ZX)(d:Dd)(_:v=[.ref z.a,.ref t])(_:cI M CF H z m ah N h 0)(_:Fz N S)(_:fw H t d)(_:gH d)(_:∀e,vP ah N S h d=.error e->∀(J:Hp)(q:ZX),aG H J->H q=none->J q% [.str "refused",.str (Dm e)]->Q (.ref q) J)(_:∀r N' S' h',vP ah N S h d=.ok (r,N',S',h')->(∀(J:Hp)(m':M.St)(q:ZX),cI M.uW CF J z m' ah N' h' 0->cH M z m H m' J->(M.own m q\/H q=none)->J q% [.str "told",Tf r]->Q (.ref q) J)/\∀(H1 J:Hp)(q:ZX),jT M z m H ah N' H1->aG H1 J->H1 q=none->J q% [.str "refused",.str "Fallen"]->Q (.ref q) J)
variable{m m':M.St}
def cH.post{z:FA}{pE:Hp}(st:cH M z m H m' J)(s:aG J pE):cH M z m H m' pE:=#[λb o e n=>s _ _ (st.off b o e n),st.own]
def cH.fr{z:FA}(st:cH M z m H m' J)(F:J z.hd≠none){q:ZX}(G:J q=none):M.own m q\/H q=none:=by
 cases hx:M.own m q
 .show .inl hx
 .cases e:H q with
  |none=>show .inr rfl
  |some u =>
   cases c:q=z.hd
   .rw[c]at G;show D9 G F
   .rw[st.off q u e λw=>w.elim hx c]at G;cases G
abbrev UH:Yv:=top 89
def BN:aA "_law_files _law_deed_here _law_caught _law_found _law_error".1 "_law_files _law_deed_here".1 (ao UH):=L2.bo
theorem z9{CK:ZX}(hM:∀{m:M.St}{ah:Nat}{N':NS}{H J:Hp},M.Wy m ah N' H J->M.X0=X .fallen)(F:bV K "_law_told" "_law_told" UH f fd)(O:M.Ok P w K mg base)(ad:mg "KernelError" = some (.ref CK))(hX:∀e,BK K (.ref (X e)) (.ref CK)^true)(ap:!Df 13 "_law_done" (JE M CF X))(am:-Df 1 "_law_kind" (M9 X)):-aO 14 f fd "_law_files _law_deed_here".1 (yB M CF X):=by
 show F.dZ BN ?_;intros;let#[z,m,ah,N,S,h,t,d,rfl,A0,Z,ht,ok,kE,kQ]:=h;show#[_,%[BN,hr,aH,cS,ba,cS,f,dX,(abF (i:=4)),b1,b1,ad,cT,b1,aO,dQ,3,m,ap,aD,e,dY,h,cg,2,4,D,i,jF,2,a1,c,aQ,aE,aj,am,g,c,aQ,aE,H'|9],?_]
 show#[0,0,37,S,h,t,d,rfl,A0,Z,ht,ok,λe U H1 s1=>?_,λr N' S' h' U=>#[λH1 m1 A1 ab=>?_,λH1 fe=>?_]]
 .show#[hX e,λx fx=>?_];let#[I,Y]:=gI (X:=xo x (.ref (X e))) fx;generalize QZ _ _ (xo x (.ref (X e)))=H2 at *;let ac:=s1.trans I;show#[0,?_];show#[0,rfl,94];show#[0,x,e,rfl,Y,λH3 L=>#[eW,λq G=>?_]];show kE e U _ q ((ac.trans L).trans (aj G)) (aR (ac.trans L) G) ag
 .show#[0,rfl,111];show#[0,eW,λq G=>?_];let I:=aj (X:=.lst [.str "told",Tf r]) G;show(kQ r N' S' h' U).1 _ m1 q (A1.yY O (B:=λ_=>False) (Q5.of I) (λ_ _=>id) id id id) (ab.post I) (ab.fr (by rw[A1.hh];nofun) G) ag
 .rw[show M.X0=X .fallen by let#[_,_,_,q]:=fe;show hM q];show#[hX .fallen,λx fx=>?_];let#[I,Y]:=gI (X:=xo x (.ref (X .fallen))) fx;generalize QZ _ _ (xo x (.ref (X .fallen)))=H2 at *;show#[0,?_];show#[0,rfl,94];show#[0,x,.fallen,rfl,Y,λH3 L=>#[eW,λq G=>?_]];show(kQ r N' S' h' U).2 H1 _ q fe ((I.trans L).trans (aj G)) (aR (I.trans L) G) ag
def E4:YY "str" = some (.type "str"):=ax
inductive uC(H:Hp)(R:V->V->Bool->Prop):V->V->Bool->Prop
 |bu:uC H R .bu .bu true
 |int(i j:Int):uC H R (.int i) (.int j) (decide (i=j))
 |str(s t:Str):uC H R (.str s) (.str t) (decide (s=t))
 |seq(t:Bool)(a b:ZX)(xs ys:vl)(c:List Bool)(_:H a^cond t (.tup xs) (.lst xs))(_:H b^cond t (.tup ys) (.lst ys))(_:xs.9<=1000)(_:ys.9<=1000)(_:xs.9=ys.9->c.9=xs.9/\∀(i:Nat)(u v:V)(z:Bool),xs[i]?^u->ys[i]?^v->c[i]?^z->R u v z):uC H R (.ref a) (.ref b) (decide (xs.9=ys.9)&&c.all id)
def zv(H:Hp):Nat->V->V->Bool->Prop
 |0=>λ_ _ _=>False
 |n+1=>uC H (zv H n)
theorem zv.same(s:aG H J):∀(n:Nat){x y:V}{z:Bool},zv H n x y z->zv J n x y z
 |0,_,_,_,h=>h
 |n+1,_,_,_,h=>by
  obtain _|⟨i,j⟩|⟨i,j⟩|⟨t,a,b,xs,ys,c,h1,h2,l,l2,r⟩:=h
  .show .bu
  .show .int i j
  .show .str i j
  .show .seq t a b xs ys c (s _ _ h1) (s _ _ h2) l l2 λe=>#[(r e).1,λi u v z F g2 G=>((r e).2 i u v z F g2 G).same s n]
inductive xF(n:Nat)(v:vl)(H:Hp)(Q:VK)(e:XK):Prop
 |mk(x y:V)(z:Bool)(_:v=[x,y])(_:zv H n x y z)(_:∀J,aG H J->Q (.bl z) J)
abbrev Vn:Yv:=top 86
def PR(t:Bool):YT K (.type (cond t "tuple" "list")) (.type "list")^(!t):=by cases t<;>with_unfolding_all rfl
def RN(t:Bool):YT K (.type (cond t "tuple" "list")) (.type "tuple")^t:=by cases t<;>with_unfolding_all rfl
def tyB{t:Bool}(h:H a^cond t (.tup xs) (.lst xs)):ny K H (.ref a) (.type (cond t "tuple" "list")):=by
 cases t
 .show .lst h
 .show .tup h
def RK:YT K (.type "str") (.type "str")^true:=rfl
def k_is:YT K (.type "int") (.type "str")^false:=by with_unfolding_all rfl
def VA:aA "_law_found _law_due".1 "_law_found _law_due".1 (ao Vn):=L2.bo
theorem BZ(F:bV K "_law_alike" "_law_alike" Vn f fd)(L:vA K mg X)(n:Nat)(ab:-Df n "_law_alike" (xF n)):-aO (n+1) f fd "_law_found _law_due".1 (xF (n+1)):=by
 show F.dZ VA ?_;intros;let#[x,y,z,rfl,ha,k]:=h;let hs:=HC;show#[_,%[0,0,D,bH,q,Cp,cK,z,a,bn,FX,b,bt,(gv (v:=.ty "list")),W,L.list,fG,rfl,a,bt,(gv (v:=.ty "tuple")),W,L.tuple,rh,rfl,D,bT,cG,i,ud,b3,co,bt,(gv (v:=.ty "list")),W,L.list,fG,rfl,b3,cK,z,a,bt,(gv (v:=.ty "list")),W,L.list,fG,rfl,F,cH,i,ud,b3,co,bt,(gv (v:=.ty "tuple")),W,L.tuple,rh,rfl,b3,cK,z,a,bt,(gv (v:=.ty "tuple")),W,L.tuple,rh,rfl,F,c,jq,D,i,ud,dc,L.len,dd,s,dc,L.len,dd,e,F,c,jq,c,q,dL,rfl,L.all,Hn,a,c6,(acD (t:=("_law_one","_law_other")) (cl:=[]) (sI:=[])),#[rfl,ax,ax,by kernel_rfl,by intro p Y;simp at Y,by kernel_rfl,by intro p Y;simp at Y,ax],rfl,cv,Ic,W,L.zip,aD,e,u,(show PG _ _ (g2 K)from vq rfl (ik (qz (i:=0) (show(xB ("_law_one","_law_other") []).4 by decide +kernel) rfl (CH (ZO rfl)) (.inr (ZO rfl))) (ik (qz (i:=1) (show(xB ("_law_one","_law_other") []).4 by decide +kernel) rfl (CH (ZO rfl)) (.inr (ZO rfl))) qq))),bv,u,(pc ab hr aC (aa (pv 0) (aa (pv 1) ae)) (hk:=BY n)),D,i,nE,1,a1,c,dN,nE,0,a1,D,bH,b3,cK,z,a,bt,(gv (v:=.ty "str")),W,L.str,E4,rfl,c,cB,b3,co,bt,(gv (v:=.ty "str")),W,L.str,E4,rfl,cI,dB,0,1,F,c,cB,b3,co,bt,(gv (v:=.ty "int")),W,L.int,ae1,rfl,cB,bn,adg,b3,co,bt,(gv (v:=.ty "bool")),W,L.bool,ae8,rfl,cI,dB,0,1,F|9],?_]
 obtain _|⟨i,j⟩|⟨i,t⟩|⟨t,a,b,xs,ys,c,h1,h2,l,l2,r⟩:=ha
 .show#[0,rfl,λp fp=>#[.bu,p,false,45,.bu,111]];show#[0,rfl,94];show#[0,rfl,k _ (aj fp)]
 .show#[0,rfl,λp fp=>#[.int j,p,false,45,.int j,111]];show#[0,rfl,111];show#[95,.int j,k_is,111];show#[95,.int i,aaR K,94];show#[95,.int i,aeu K,0,94];show#[0,0,3];rw[show decide (V.int i=V.int j)=decide (i=j)from decide_eq_decide.mpr #[V.int.inj,Ur _]];show k _ (aj fp)
 .show#[0,rfl,λp fp=>#[.str t,p,false,45,.str t,111]];show#[0,rfl,111];show#[95,.str t,RK,94];show#[95,.str i,RK,94];show#[0,0,3];rw[show decide (V.str i=V.str t)=decide (i=t)from decide_eq_decide.mpr #[V.str.inj,Ur _]];show k _ (aj fp)
 .show#[0,rfl,λp fp=>#[.ref b,p,true,45,by
   let h3:QZ H p (xt p) b^cond t (.tup ys) (.lst ys):=(h2<*au (ba h2 fp));cases t
   .show .lst h3
   .show .tup h3,94]]
  let#[U,_]:=gI (X:=xt p) fp;generalize QZ _ _ (xt p)=H1 at *;let I:=U _ _ h1;let g2:=U _ _ h2;show#[95,tyB I,PR t,95,tyB g2,PR t,11];rw[Ja rfl];show cO #[95,tyB I,RN t,95,tyB g2,RN t,11];rw[Ja rfl];show cO ?_;let q1:bh K H1 a xs\/eM K H1 a xs:=by
   cases t
   .show .inl (bh.of I)
   .show .inr (eM.of I)
  let q2:bh K H1 b ys\/eM K H1 b ys:=by
   cases t
   .show .inl (bh.of g2)
   .show .inr (eM.of g2)
  show#[0,a,0,q1,0,b,0,q2,11];cases e:xs.9=ys.9
  case neg =>
   rw[show decide (V.int (xs.9:Int)=V.int (ys.9:Int))=false from ck λq=>e (Int.ofNat.inj (V.int.inj q))];rw[ck e]at k;show de (k _ U)
  rw[Ja e]at k;let#[lc,r]:=r e;rw[e,Ja rfl];show cO ?_;show#[t,#[0,0,a,b,rfl,#[_,vQ.of I],#[_,vQ.of g2],?_]];show zg (t:=t) (K:=K) (a:=a) (b:=b) (xs:=xs) (ys:=ys) (λi zs H2=>zs=(c.take i).map V.bl/\aG H1 H2) #[rfl,aG.refl H1] e (λi zs H2 _ ⟨_,G⟩=>#[vQ.of (G _ _ I),vQ.of (G _ _ g2)]) ?_ ?_
  .rintro i u v zs H2 T2 hx hy hT ⟨rfl,G⟩;let hi:i<xs.9:=(wh.mp hx).1;let Z:=G.trans (aj (X:=.tup [u,v]) hT);let hc:c[i]?=some c[i]:=vu ak;show#[0,0,u,v,c[i],rfl,(r i u v _ hx hy hc).same (U.trans Z) n,λH3 s3=>#[4,Z.trans s3]]
   .rw[si,Nx];lia
   .rw[Y9,hc,DD];rfl
  .rintro zs H2 ⟨rfl,G⟩ q hq;show#[q,c.take xs.9,rfl,49,?_];rw[show c.take xs.9=c by rw[<-lc,Zo]];show k _ (U.trans (G.trans (aj hq)))
variable{ps:gq}
def Q8:-aO 0 f fd ps (xF 0):=#[λ_ _ _ _ h=>by let#[_,_,_,_,h,_]:=h;show h.elim,λ_ _ _ _ _ _ _ _ _ _ _ _ _ h=>by let#[_,_,_,_,h,_]:=h;show h.elim]
structure jK(n:Nat)(t:Str):Prop where
 len:t.9<=n
 cps:∀c∈t.cps.7,c<128
instance (n:Nat) (t:Str):Decidable (jK n t):=decidable_of_iff (t.9<=n/\∀c∈t.cps.7,c<128) #[λh=>#[h.1,h.2],λh=>#[h.1,h.2]]
variable{t:Str}
def jK.path(h:jK n t)(l:n<=20000):bS t:=#[Oi h.len l,h.cps]
variable{m:Nat}
def jK.mono(h:jK n t)(l:n<=m):jK m t:=#[Oi h.len l,h.cps]
def jK.app{a b:Str}(x:jK n a)(y:jK m b):jK (n+m) (a++b):=by
 show#[?_,λc F=>?_]
 .change(a.cps++b.cps).3<=_;rw[aeO];show IP x.len y.len
 .let F:c∈(a.cps++b.cps).7:=F;rw[Zh,Yh]at F;show F.elim (x.cps c) (y.cps c)
variable{i:Int}
theorem DZ{xs:gq}(G:0<=i)(h1:i<xs.9):∃p,lJ (xs.map V.str) i^.str p/\p∈xs:=by
 obtain⟨j,rfl⟩:∃j:Nat,i=j:=#[i.5,ak];let F:j<xs.9:=ak;show#[xs[j],aJ (by rw[IF,vu F];rfl),Zr F]
theorem oO{xs:N4}(G:0<=i)(h1:i<xs.9):∃p,lJ xs.17 i^.int p/\p∈xs:=by
 obtain⟨j,rfl⟩:∃j:Nat,i=j:=#[i.5,ak];let F:j<xs.9:=ak;show#[xs[j],aJ (by rw[IF,vu F];rfl),Zr F]
noncomputable def G9:List Str:=["","a","/A","//","/a/","/abcdefg","/a b","a/b","/1","/a//b","/a.b"]
def Ju:∀p∈G9,jK 100 p:=ax
noncomputable def Ru:List Str:="a b cc zzzzzz".1
def Fo:∀p∈Ru,jK 6 p:=ax
inductive Mh(v:vl)(H:Hp)(Q:VK)(e:XK):Prop
 |mk(l:ZX)(_:v=[.ref l])(_:Bx H l)(_:∀(p:Str)(J:Hp),jK 1000 p->Lf l H J->Q (.str p) J)
inductive OC(v:vl)(H:Hp)(Q:VK)(e:XK):Prop
 |mk(l:ZX)(_:v=[.ref l])(_:Bx H l)(_:∀(n:Int)(J:Hp),sm n->Lf l H J->Q (.int n) J)
abbrev U2:Yv:=top 90
abbrev Xa:Yv:=top 91
def Ci:aA "_law_left_here _law_how _law_bad _law_text _law_k".1 ["_law_left_here"] (ao U2):=L2.bo
def QD:aA ["_law_left_here"] ["_law_left_here"] (ao Xa):=L2.bo
theorem HV(F:bV K "_law_path" "_law_path" U2 f fd)(T:vA K mg X)(ab:-Df 1 "_law_digit" yi):-aO 2 f fd ["_law_left_here"] Mh:=by
 show F.dZ Ci ?_;intros;let#[l,rfl,b0,k]:=h;let hs:=HC;show#[_,%[Ci,hr,aR,d,ab,aD,V,f,c6,(L8 (i:=2)),w,1,r,cT,rfl,c1,c,bw,aW,2,d,ab,aD,V,iV,bp,D,w,1,r,c,aE,ba,aE,bf,bD,a,bw,aW,x,bl,bl,bl,bl,bl,V,d,ab,aD,V,iV,y,4,h,cg,3,aU,gO,aU,gO,3,aE,bw,aW,x,Z,Z,Z,Z,ae,d,ab,aD,V,iV,c,3|9],?_]
 show#[0,l,(24),rfl,b0,az,az,λr1 H1 a1 c1 L=>?_];show#[0,11];show fH (λ_=>?_) (λ_=>?_)
 .show#[eW,λq U=>?_];let s2:=aj (X:=.lst (G9.map V.str)) U;let e2:QZ H1 q (.lst (G9.map V.str)) q%(G9.map V.str):=ag;let I:=L.same s2;let nq:q≠l:=λz=>(by let#[v,e]:=L.bx;rwa[<-z,U]at e);show#[0,0,l,(11),rfl,I.bx,az,az,λr3 H3 a3 c3 Y=>?_];let#[p,ep,hp]:=DZ (xs:=G9) a3 c3;show#[q,_,r3,0,rfl,bh.of (Lf.keep Y e2 nq),ep,k p H3 ((Ju p hp).mono az) (I.trans Y)]
 show#[0,11];show fH (λ_=>?_) (λ_=>?_)
 .show k _ H1 ax L
 show#[eW,λq U=>?_];let s2:=aj (X:=.lst (([1,1,1,2,2,3]:N4).map V.int)) U;let e2:QZ H1 q (.lst (([1,1,1,2,2,3]:N4).map V.int)) q%(([1,1,1,2,2,3]:N4).map V.int):=ag;let I:=L.same s2;let nq:q≠l:=λz=>(by let#[v,e]:=L.bx;rwa[<-z,U]at e);show#[0,l,(6),rfl,I.bx,az,az,λr3 H3 a3 c3 Y=>?_];let#[n,en,hn]:=oO (xs:=[1,1,1,2,2,3]) a3 c3;let am:0<=n/\n<=3:=(show ∀n∈([1,1,1,2,2,3]:N4),0<=n/\n<=3 by decide) n hn;show#[q,_,r3,0,rfl,bh.of (Lf.keep Y e2 nq),en,0,ak,ak,?_];show gc (lo:=0) (n:=n.5) (λi σ H'=>Dh λ(t:Str)(o:Option V)=>tD (σ=#v[.ref l,.int r1,none,.str t,o]) (jK (10*i) t) (Lf l H H')) #[_,0,ax,I.trans Y] ?_ ?_
 .rintro i σ H' hi ⟨t,o,rfl,G,Z⟩;let l1:=G.len;show#[0,7,by change _+1<=yr;lia,?_];show#[eW,λq4 ac=>?_];let s4:=aj (X:=.lst (Ru.map V.str)) ac;let e4:QZ H' q4 (.lst (Ru.map V.str)) q4%(Ru.map V.str):=ag;let F4:=Z.same s4;let ad:q4≠l:=λz=>(by let#[v,e]:=Z.bx;rwa[<-z,ac]at e);show#[0,l,(4),rfl,F4.bx,az,az,λr5 H5 a5 c5 F5=>?_];let#[p,ep,hp]:=DZ (xs:=Ru) a5 c5;let op:=(G.app (show jK 1 "/" by decide +kernel)).app (Fo p hp);show#[q4,_,r5,0,rfl,bh.of (Lf.keep F5 e4 ad),ep,_,0,3,?_]
  .have:=(G.app (show jK 1 "/" by decide +kernel)).len;have:=(Fo p hp).len;lia
  .show#[_,0,op.mono ak,F4.trans F5]
 .rintro σ H' ⟨t,o,rfl,G,Z⟩;show#[0,k _ _ (G.mono ak) Z]
theorem KP(F:bV K "_law_node" "_law_node" Xa f fd)(L:-Df 1 "_law_digit" yi):-aO 2 f fd ["_law_left_here"] OC:=by
 show F.dZ QD ?_;intros;let#[l,rfl,Z,k]:=h;show#[_,%[0,hr,D,w,d,L,aS,ai,r,c,a2,d,L,aS,cE,c,d,L,aS,ai|9],?_]
 show#[0,l,(6),rfl,Z,az,az,λr1 H1 a1 c1 G=>#[11]];show fH (λ_=>?_) (λ_=>?_)
 .show#[0,l,(27),rfl,G.bx,az,az,λU H2 a2 Y I=>#[7,k _ _ (by change(_:Int).12<=_;lia) (G.trans I)]]
 .show#[0,l,(5),rfl,G.bx,az,az,λU H2 a2 Y I=>k _ _ (by change(_:Int).12<=_;lia) (G.trans I)]
def Nw(H J pE:Hp):=∀x o,H x=none->J x^o->pE x^o
def Xn(H:Hp)(t:ZX)(d:Dd)(J:Hp):=∀pE,Nw H J pE->fw pE t d
inductive L6(v:vl)(H:Hp)(Q:VK)(e:XK):Prop
 |mk(l:ZX)(_:v=[.ref l])(_:Bx H l)(_:∀(t:ZX)(d:Dd)(J:Hp),gH d->Lf l H J->H t=none->Xn H t d J->Q (.ref t) J)
noncomputable def w7:List Str:="make make_dir make unlink remove_dir link move".1
def w3:List Str:="hold hold loose".1
variable{r:Int}
def Sl(G:0<=r)(h1:r<7):∃w,lJ (w7.map V.str) r^.str w/\(¬ 4<r->∀p,bS p->∃d,gH d/\∀(H:Hp)(t:ZX),H t|||[.str w,.str p]->fw H t d)/\(4<r->∀p q,bS p->bS q->∃d,gH d/\∀(H:Hp)(t:ZX),H t|||[.str w,.str p,.str q]->fw H t d):=by
 obtain rfl|rfl|rfl|rfl|rfl|rfl|rfl:r=0\/r=1\/r=2\/r=3\/r=4\/r=5\/r=6:=ak
 .show#[0,λ_ p o=>#[.make false p,141],λh=>D9 h az]
 .show#[0,λ_ p o=>#[.make true p,141],λh=>D9 h az]
 .show#[0,λ_ p o=>#[.make false p,141],λh=>D9 h az]
 .show#[0,λ_ p o=>#[.unlink p,141],λh=>D9 h az]
 .show#[0,λ_ p o=>#[.rmdir p,141],λh=>D9 h az]
 .show#[0,λh=>D9 az h,λ_ p q o F=>#[.link p q,#[o,F],λ_ _ h=>h]]
 .show#[0,λh=>D9 az h,λ_ p q o F=>#[.move p q,#[o,F],λ_ _ h=>h]]
def QB(F:0<=r)(h1:r<3):∃w,lJ (w3.map V.str) r^.str w/\∀n,sm n->∃d,gH d/\∀(H:Hp)(t:ZX),H t|||[.str w,.int n]->fw H t d:=by
 obtain rfl|rfl|rfl:r=0\/r=1\/r=2:=ak
 .show#[0,λn o=>#[.hold n,141]]
 .show#[0,λn o=>#[.hold n,141]]
 .show#[0,λn o=>#[.loose n,141]]
def Ib(n:Nat)(x:Int):(Yl n [V.int x]).11=(Yl n x).map V.int:=by
 induction n with
 |zero=>rfl
 |succ n F=>rw[ZM,ZM,ZV,F];rfl
variable{H':Hp}
def uB{t:ZX}(g:∀(H:Hp)(t:ZX),H t|||xs->fw H t d)(h:H t=none):Xn H t d (QZ H' t (.tup xs)):=λpE n=>g pE t (n t _ h ag)
abbrev Wj:Yv:=top 92
def yy:aA "_law_left_here _law_sort _law_words _law_deed_here _law_node_here _law_at".1 ["_law_left_here"] (ao Wj):=L2.bo
theorem JY(F:bV K "_law_deed" "_law_deed" Wj f fd)(Y:-Df 1 "_law_digit" yi)(aT:-Df 2 "_law_path" Mh)(bz:-Df 2 "_law_node" OC):-aO 3 f fd ["_law_left_here"] L6:=by
 show F.dZ yy ?_;intros;let#[l,rfl,b0,k]:=h;let hs:=HC;show#[_,%[yy,hr,aR,d,Y,aD,V,D,i,tT,1,r,aH,x,Z,Z,Z,Z,Z,Z,Z,ae,ba,aA,b,p,2,1,aj,aT,s,D,bE,1,r,h,cg,3,aU,aaU,3,aA,aj,aT,s,c,3,ah,4,d,bz,s,D,i,tT,1,r,ah,5,bw,aW,x,bl,b,bq,ai,d,Y,aD,V,aj,Y,aD,V,d,Y,aD,V,iV,c,aA,Z,b,4,b,5,a,bV,x,a,k,ai,d,Y,aD,V,bw,aW,x,bl,bl,V,d,Y,aD,V,iV,D,i,tT,1,r,c,aA,Z,b,4,a,bw,aW,x,bl,b,d,Y,aD,V,bl,V,d,Y,aD,V,iV,c,aA,b,p,x,Z,Z,Z,ae,a2,1,ai,az|9],?_]
 show#[0,l,(16),rfl,b0,az,az,λr1 H1 a1 c1 F1=>?_];let ac:∀{H':Hp}{q:ZX},Lf l H H'->H' q=none->q≠l:=λFJ I z=>(by let#[v,e]:=FJ.bx;rwa[<-z,I]at e);show#[0,32];show fH (λg1=>?_) (λg1=>?_)
 .let a0:r1<7:=‹g1›;let#[wd,ew,kw,bv]:=Sl a1 a0;show#[eW,λq I=>?_];let s2:=aj (X:=.lst (w7.map V.str)) I;let e2:QZ H1 q (.lst (w7.map V.str)) q%(w7.map V.str):=ag;let F2:=F1.same s2;show#[0,0,q,_,r1,0,rfl,bh.of e2,ew,62,F2.bx,λp H3 op F3=>#[eW,λt G=>?_]];let ad:=F2.trans F3;show#[0,32];show fH (λg2=>?_) (λg2=>?_)
  .obtain aX:=ad.same (aj (X:=.tup [.str wd,.str p]) G);let e4:QZ H3 t (.tup [.str wd,.str p]) t|||[.str wd,.str p]:=ag;show#[0,62,aX.bx,λp5 H5 bi F5=>#[eW,λt6 bm=>?_]];let bn:=aX.trans F5;let s6:=aj (X:=.tup [.str p5]) bm;let ay:=bn.same s6;show#[t,t6,7,eM.of (s6 _ _ (F5.keep e4 (ac ad G))),eM.of ag,nofun,eW,nofun,λ_ t7 aK=>#[0,?_]];let#[d,od,gd]:=bv ‹g2› p p5 (op.path az) (bi.path az);show k t7 d _ od (ay.same (aj aK)) (ay.nn aK) (uB gd (ay.nn aK))
  .let#[d,od,gd]:=kw (λz=>g2 (Ja z)) p (op.path az);show#[0,k t d _ od (ad.same (aj G)) (ad.nn G) (uB gd (ad.nn G))]
 let a0:¬ r1<7:=λz=>(by simp[z]at g1);show#[62,F1.bx,λn H2 on F2=>?_];let ap:=F1.trans F2;show#[0,32];show fH (λg3=>?_) (λg3=>?_)
 .show#[0,l,(20),rfl,ap.bx,az,az,λr3 H3 a3 c3 F3=>#[133,0,l,(320),rfl,F3.bx,az,az,λL H4 a4 c4 F4=>#[eW,λq I=>?_]]];let ar:=(ap.trans F3).trans F4;let s5:=aj (X:=.lst (([0,16*r3,L]:N4).map V.int)) I;let e5:QZ H4 q (.lst (([0,16*r3,L]:N4).map V.int)) q%(([0,16*r3,L]:N4).map V.int):=ag;let am:=ar.same s5;show#[0,l,(3),rfl,am.bx,az,az,λr6 H6 a6 c6 F6=>?_];let Z:=am.trans F6;let#[pl,ep,hp]:=oO (xs:=[0,16*r3,L]) a6 c6;let aN:sm pl:=by
   simp only[Yu,xy,or_false]at hp;change pl.12<=_;lia
  show#[q,_,r6,0,rfl,bh.of (F6.keep e5 (ac ar I)),ep,?_];show#[0,0,0,l,(255),rfl,Z.bx,az,az,λU H7 a7 c7 F7=>#[7,eW,λq8 be=>#[eW,λq9 aY=>?_]]];let bb:=Z.trans F7;let e8:QZ H7 q8 (.lst [V.int (1+U)]) q8% [V.int (1+U)]:=ag;let a5:=bb.same (aj (X:=.lst [V.int (1+U)]) be);let s9:=aj (X:=.lst (([1,7,32]:N4).map V.int)) aY;let e9:QZ (QZ H7 q8 (.lst [V.int (1+U)])) q9 (.lst (([1,7,32]:N4).map V.int)) q9%(([1,7,32]:N4).map V.int):=ag;let bd:=a5.same s9;show#[0,l,(3),rfl,bd.bx,az,az,λrb Hb ab cb Fb=>?_];let#[c,ec,hc]:=oO (xs:=[1,7,32]) ab cb;let bF:0<=c/\c<=32:=(show ∀n∈([1,7,32]:N4),0<=n/\n<=32 by decide) c hc;let bc:=bd.trans Fb;show#[q9,_,rb,0,rfl,bh.of (Fb.keep e9 (ac a5 aY)),ec,q8,c,0,rfl,Fb.keep (s9 _ _ e8) (ac bb be),ak,ak,by change 1*c.5<=yr;lia,λp fp=>#[eW,λt G=>?_]];let sc:=aj (X:=.lst (Yl c.5 [V.int (1+U)]).11) fp;let ec:QZ Hb p (.lst (Yl c.5 [V.int (1+U)]).11) p^.lst (Yl c.5 [V.int (1+U)]).11:=ag;let as:=bc.same sc;let sd:=aj (X:=.tup [.str "write_at",.int n,.int pl,.ref p]) G;show k t (.write n pl (Yl c.5 (1+U))) _ #[on,aN,by rw[Zg];lia] (as.same sd) (as.nn G) λpE nw=>#[p,nw t _ (as.nn G) ag,?_];rw[<-Ib];show nw p _ (bc.nn fp) (sd _ _ ec)
 show#[0,32];show fH (λg4=>?_) (λg4=>?_)
 .show#[0,0,l,(321),rfl,ap.bx,az,az,λL H4 a4 c4 F4=>#[eW,λq I=>?_]];let ar:=ap.trans F4;let e5:QZ H4 q (.lst (([0,L,64,65]:N4).map V.int)) q%(([0,L,64,65]:N4).map V.int):=ag;let am:=ar.same (aj (X:=.lst (([0,L,64,65]:N4).map V.int)) I);show#[0,l,(4),rfl,am.bx,az,az,λr6 H6 a6 c6 F6=>?_];let Z:=am.trans F6;let#[pl,ep,hp]:=oO (xs:=[0,L,64,65]) a6 c6;let aN:sm pl:=by
   simp only[Yu,xy,or_false]at hp;change pl.12<=_;lia
  show#[q,_,r6,0,rfl,bh.of (F6.keep e5 (ac ar I)),ep,eW,λt G=>?_];show k t (.cut n pl) _ #[on,aN] (Z.same (aj G)) (Z.nn G) (uB (λ_ _ h=>h) (Z.nn G))
 let bK:¬ r1<11:=λz=>(by simp[z]at g3);let bB:¬ r1<13:=λz=>(by simp[z]at g4);let#[wd,ew,kw]:=QB (r:=r1-13) ak ak;show#[eW,λq I=>?_];let s3:=aj (X:=.lst (w3.map V.str)) I;let e3:QZ H2 q (.lst (w3.map V.str)) q%(w3.map V.str):=ag;let aB:=ap.same s3;show#[0,7,q,2,0,rfl,40,ew,0,eW,λt G=>?_];let#[d,od,gd]:=kw n on;show k t d _ od (aB.same (aj G)) (aB.nn G) (uB gd (aB.nn G))
inductive At(D:Int->Bool)(S:SS):Str->Int->Prop
 |root:At D S "" 0
 |step {p:Str}{d:Int}{nm:Str}{k:Int}(_:At D S p d) (_:D d) (_:fX (S d) nm^k):At D S (p++SL++nm) k
def M6(S:SS):=∀d nm k,fX (S d) nm^k->okN nm
def yw{n:Str}(e:("" : Str)=p++SL++n):False:=by
 have:("" : Str).cps.7=(p++SL++n).cps.7:=(by rw[e]);rw[iX,iX,show SL.cps.7=[47]by decide +kernel,show("" : Str).cps.7=[]by decide +kernel]at this;simp at this
variable{D:Int->Bool}{d:Int}
def At.inv(ok:M6 S)(o:okN nm)(h:At D S (p++SL++nm) k):∃d,At D S p d/\D d/\fX (S d) nm^k:=by
 generalize e:p++SL++nm=x at h;cases h with
 |root=>show(yw e.6).elim
 |step a b c =>
  let#[rfl,rfl]:=p8 o (ok _ _ _ c) e;show#[_,a,b,c]
variable{k':Int}
def At.fn(ok:M6 S)(h:At D S p k):∀{k'},At D S p k'->k=k':=by
 induction h with
 |root =>
  intro k' h;generalize e:("" : Str)=x at h;cases h with
  |root=>rfl
  |step a b c=>show(yw e).elim
 |step a b c F =>
  intro k' h;let#[d,G,L,I]:=h.inv ok (ok _ _ _ c);cases F G;show OR (c.symm.trans I)
def At.mono{D':Int->Bool}(I:∀d,D d->D' d)(G:∀d nm k,D d->fX (S d) nm^k->fX (S' d) nm^k)(h:At D S p k):At D' S' p k:=by
 induction h with
 |root=>show .root
 |step _ b c F=>show .step F (I _ b) (G _ _ _ b c)
theorem yM{n:Str}{k:Int}:∀{ss:List Slot},some (n,k)∈ss->(eZ ss).4->fX ss n^k
 |s::ss,h,nd=>by
  rw[d8];rw[dg]at nd;obtain h|h:=Yu.mp h
  .rw[<-h,C' (show pW n (some (n,k))from Ja rfl)];rfl
  .let F:=yM h (YJ.mp nd).2.1;let mem:n∈eZ ss:=ZH λz=>(F*>(jL ss n).mpr z);cases s with
   |none=>show F
   |some q =>
    rw[vr (λz=>by
     let e:q.1=n:=cL z;show(YJ.mp nd).2.2 q.1 (z4.mpr rfl) n mem e)]
    show F
theorem uG{n:Str}{k:Int}:∀{ss:List Slot},fX ss n^k->some (n,k)∈ss
 | [],h=>by cases h
 |s::ss,h=>by
  rw[d8]at h;cases z:pW n s
  .rw[C' z]at h;cases s with
   |none=>cases z
   |some q =>
    cases h;let e:q.1=n:=cL z;rw[<-e];show Yn
  .rw[vr z]at h;show Yp _ (uG h)
def Fz.IK(F:Fz N S):M6 S:=λd _ _ h=>F.ok d _ (uG h) _ rfl
variable{x:iz}
def EN{y:iz}:y∈yU x ss↔∃n,y.1=x.1++SL++n/\some (n,y.2)∈ss:=by
 unfold yU;rw[Z2];constructor
 .rintro⟨s,hs,e⟩;let#[q,rfl,rfl]:=NC.mp e;show#[q.1,rfl,hs]
 .rintro⟨n,e,h⟩;show#[_,h,Ur some (LP e.symm rfl)]
structure Wc(N:NS)(S:SS)(i:Nat)(pv met ahead:List iz):Prop where
 W:Wk N S i pv met ahead
 z:(("" : Str),(0:Int))∈pv++ahead
 c:∀y∈met,bL N y.2->y∈pv++ahead
 s:∀y∈pv++ahead,At (bL N) S y.1 y.2
def Fz.Od(F:Fz N S){y:iz}(a:At (bL N) S x.1 x.2)(d:bL N x.2)(h:y∈j8 S x):At (bL N) S y.1 y.2:=by
 let#[n,e,m]:=EN.mp h;rw[e];show .step a d (yM m (F.nd _))
theorem Fu(F:Fz N S):∀(k i:Nat){pv met ahead:List iz},k+i=24->Wc N S i pv met ahead->∃i pv met,Wc N S i pv met []
 |0,i,pv,met,ahead,h,W=>by
  have:=W.W.lt F;have:ahead=[]:=Yz.mp ak;show#[i,pv,met,this▸W]
 |k+1,i,pv,met,ahead,h,W=>by
  cases c:ahead=[]
  .show#[i,pv,met,c▸W]
  .obtain⟨b,x,rfl⟩:∃b x,ahead=b++[x]:=#[2,(YG c).6];let hx:x∈pv++(b++[x]):=DO _ (DO _ (z4.mpr rfl));let I:∀{y},y∈pv++(b++[x])->y∈(pv++[x])++(b++(j8 S x).filter λq=>bL N q.2):=λh=>by
    simp only[Yh,z4]at h ⊢;obtain h|h|h:=h
    .show .inl (.inl h)
    .show .inr (.inl h)
    .show .inl (.inr h)
   show Fu F k (i+1) ak #[W.W.next F,I W.z,λy G hd=>?_,λy G=>?_]
   .rcases Yh.mp G with G|G
    .show I (W.c y G hd)
    .show DO _ (DO _ (YN.mpr #[G,hd]))
   .let h:y∈pv++(b++[x])\/y∈j8 S x:=by
     simp only[Yh,z4]at G ⊢;rcases G with(h|h)|h|h
     .show .inl (.inl h)
     .show .inl (.inr (.inr h))
     .show .inl (.inr (.inl h))
     .show .inr (YN.mp h).1
    obtain h|h:=h
    .show W.s y h
    .show F.Od (W.s x hx) (W.W.dn x hx) h
def Hf(F:Fz N S)(o:okN nm):(p++SL++nm,k)∈nO N S↔At (bL N) S (p++SL++nm) k:=by
 let#[i,pv,met,W]:=Fu F 24 0 rfl #[F.SW,z4.mpr rfl,λy h=>(by cases h),λy h=>.root<*z4.mp h];rw[<-W.W.done F];constructor
 .intro h;rw[W.W.mt]at h;let#[l,I,hx]:=Kt.mp h;let#[y,L,rfl]:=Yj.mp I;let G:=YC [] L;show F.Od (W.s y G) (W.W.dn y G) hx
 .let all:∀{p k},At (bL N) S p k->(p = "" /\ k=0)\/(p,k)∈met:=λh=>by
   induction h with
   |root=>show .inl #[1]
   | @step p d nm k a b c U =>
    let hd:(p,d)∈pv++[]:=by
     rcases U with⟨rfl,rfl⟩|h
     .show W.z
     .show W.c _ h b
    rw[Yw]at hd;show .inr ?_;rw[W.W.mt];show Kt.mpr #[_,Yj.mpr #[_,hd,rfl],EN.mpr #[nm,rfl,uG c]]
  show λh=>(all h).elim (λq=>(yw q.1.6).elim) id
theorem qk(nm x:Str):∀ss:List Slot,fX (dS ss nm) x=if x=nm then none else fX ss x
 | []=>by split<;>rfl
 |s::ss=>by
  let F:=qk nm x ss;rw[iJ,d8,d8,F];cases s with
  |none=>show(by split<;>rfl)
  |some p =>
   cases a:p.1=nm
   .rw[C' (show pW nm (some p)from Ja a),vr (show ¬ pW x none=true by nofun)];cases b:x=nm
    .rw[C' b,C' b]
    .rw[vr b,vr b,vr (show ¬ pW x (some p)from λz=>b ((cL z).symm.trans a))]
   .rw[vr (show ¬ pW nm (some p)from λz=>a (cL z))];cases b:x=nm
    .rw[C' b,C' b,vr (show ¬ pW x (some p)from λz=>a ((cL z).trans b))]
    .rw[vr b,vr b]
def En(p:Str×Int)(x:Str):pW x (some p)=decide (p.1=x):=rfl
theorem mZ{nm:Str}(k:Int)(x:Str):∀{ss:List Slot},nm∉eZ ss->fX (dh ss nm k) x=if x=nm then some k else fX ss x
 | [],_=>by
  rw[zR,d8,En];cases b:x=nm
  .rw[C' b,C' (Ja b.6)];rfl
  .rw[vr b,vr (λz=>b (cL z).6)]
 |none::ss,h=>by
  rw[uo,d8,d8,En];cases b:x=nm
  .rw[C' b,C' (Ja b.6)];rfl
  .rw[vr b,vr (λz=>b (cL z).6)];rfl
 |some p::ss,h=>by
  rw[dg]at h;let h1:¬ p.1=nm:=λz=>h (YC _ (z4.mpr z.6));rw[rT,d8,d8,mZ k x λz=>h (DO _ z),En];cases b:x=nm
  .rw[C' b,C' b,vr (λz=>h1 ((cL z).trans b))]
  .rw[vr b,vr b]
theorem vd(nm:Str)(c:Int):∀{ss:List Slot},(eZ ss).4->cn (dS ss nm) c+(if fX ss nm^c then 1 else 0)=cn ss c
 | [],_=>rfl
 |s::ss,nd=>by
  rw[dg]at nd;let F:=vd nm c (YJ.mp nd).2.1;rw[iJ,fO,fO,d8];cases z:pW nm s
  .rw[C' z,C' z,vr (show ¬ mU c none=true by nofun)];cases s with
   |none=>cases z
   |some p =>
    let e:p.1=nm:=cL z;let no:fX ss nm=none:=(jL ss nm).mpr λm=>(YJ.mp nd).2.2 p.1 (z4.mpr rfl) nm m e;rw[no,vr nofun]at F;rw[show mU c (some p)=decide (p.2=c)from rfl,show(some p:Slot).map (·.2)^p.2 from rfl];cases y:p.2=c
    .rw[C' (Ja y),C' (Ur some y)];lia
    .rw[vr (λz=>y (cL z)),vr (λz=>y (OR z))];lia
  .rw[vr z,vr z];lia
def Su(h:eZ ss=[])(c:Int):cn ss c=0:=by
 show ZJ λz=>?_;let#[s,hs,e]:=aeh.mp z;cases s with
 |none=>cases e
 |some p =>
  have:p.1∈eZ ss:=Z2.mpr #[_,hs,rfl];rwa[h]at this
def Hl{c:Int}(h:1<=refs S c):∃n,1<=cn (S n) c:=by
 let g:∀m,1<=II S c m->∃n,1<=cn (S n) c:=λm=>by
  induction m with
  |zero=>show λh=>D9 h (Nat.not_succ_le_zero 0)
  |succ m F =>
   rw[kg];intro h;cases z:1<=cn (S m) c
   .show#[_,z]
   .show F ak
 show g 24 h
structure Gz(N:NS)(S:SS):Prop where
 F:Fz N S
 re:∀n,(refs S n:Int)+(if n=0 then 1 else 0)=lk N n
 rc:∀n,1<=lk N n->∃p,At (bL N) S p n
def Jn(N:NS)(S:SS)(N':NS)(S':SS):=∃p nm k,okN nm/\((At (bL N) S (p++SL++nm) k/\∀j,¬ At (bL N') S' (p++SL++nm) j)\/(At (bL N') S' (p++SL++nm) k/\∀j,¬ At (bL N) S (p++SL++nm) j))
def Gz.dir(G:Gz N S)(h:bL N d):∃p,At (bL N) S p d:=by
 let#[nd,e,q]:=bM h;show G.rc d ?_;rw[gy e,G.F.dl _ _ e q];decide
theorem Gz.add(G:Gz N S)(F':Fz N' S')(o:okN nm)(hd:bL N d)(I:nm∉eZ (S d))(L:S'=kW S d (dh (S d) nm k))(eD:∀m,bL N m->bL N' m)(eL:∀m,lk N' m=lk N m+(if k=m then 1 else 0)):Gz N' S'/\Jn N S N' S':=by
 let#[d0,d1]:=G.F.oz hd;let kp:∀e x j,fX (S e) x^j->fX (S' e) x^j:=λe x j h=>by
  rw[L];cases c:e=d
  .rw[c,ja,mZ k x I];rw[c]at h;cases Z:x=nm
   .rw[Z,(jL _ _).mpr I]at h;cases h
   .rw[vr Z];show h
  .rw[gr c];show h
 let mo:∀{p n},At (bL N) S p n->At (bL N') S' p n:=λh=>h.mono eD λe x j _ q=>kp e x j q;let#[p,U]:=G.dir hd;let ab:fX (S' d) nm^k:=(by rw[L,ja,mZ k nm I,C' rfl]);let Y:At (bL N') S' (p++SL++nm) k:=.step (mo U) (eD d hd) ab;show#[#[F',λn=>?_,λn h=>?_],p,nm,k,o,.inr #[Y,λj h=>?_]]
 .let a:=eV S (dh (S d) nm k) n d0 d1;rw[nR]at a;let b:=G.re n;rw[L,eL n];cases c:k=n
  .rw[C' c]at a ⊢;lia
  .rw[vr c]at a ⊢;lia
 .rw[eL n]at h;cases c:k=n
  .rw[<-c];show#[_,Y]
  .rw[vr c]at h;let#[q,hq]:=G.rc n ak;show#[q,mo hq]
 .let#[e,a,b,c]:=h.inv G.F.IK o;cases U.fn G.F.IK a;rwa[(jL _ _).mpr I]at c
theorem Gz.drop(G:Gz N S)(U:Fz N' S')(hd:bL N d)(I:fX (S d) nm^k)(k0:¬ k=0)(em:eZ (S k)=[])(eS:S'=kW (kW S d (dS (S d) nm)) k [])(eK:bL N' k=false)(eD:∀m,¬ m=k->bL N' m=bL N m)(eL:∀m,lk N' m=lk N m-(if k=m then 1 else 0)):Gz N' S'/\Jn N S N' S':=by
 let#[d0,d1]:=G.F.oz hd;let#[nd,hk]:=G.F.use hd I;let#[r0,r1]:=G.F.so _ _ hk;let ab:∀x,fX (S k) x=none:=λx=>(jL _ _).mpr ((nofun)<*em);let dk:¬ d=k:=λz=>(I*>[z,ab]);let sE:∀e x,¬ e=k->fX (S' e) x=if e=d/\x=nm then none else fX (S e) x:=λe x h=>by
  rw[eS,gr h];cases c:e=d
  .rw[c,ja,qk];cases Z:x=nm
   .rw[C' Z,C' #[rfl,Z]]
   .rw[vr Z,vr (λz=>Z z.2)]
  .rw[gr c,vr (λz=>c z.1)]
 let sK:∀x,fX (S' k) x=none:=λx=>(by rw[eS,ja];rfl);let kp:∀{p n},At (bL N) S p n->¬ n=k->At (bL N') S' p n:=λh=>by
  induction h with
  |root=>show λ_=>.root
  | @step p e x n a b c ih =>
   intro z;let L:¬ e=k:=λw=>(c*>[w,ab]);show .step (ih L) (b<*eD e L) ?_;rw[sE e x L,vr]
   .show c
   .rintro⟨rfl,rfl⟩;rwa[I]at c;show z rfl
 let ac:∀n,(refs S' n:Int)+(if n=0 then 1 else 0)=lk N' n:=λn=>by
  let a:=eV S (dS (S d) nm) n d0 d1;let a2:=eV (kW S d (dS (S d) nm)) [] n r0 r1;rw[gr (oR dk),Su em n,show cn [] n=0 from rfl, <-eS]at a2;let b:=G.re n;let e:=vd nm n (G.F.nd d);rw[eL n];cases c:k=n
  .rw[C' c];rw[C' (by rw[I,c])]at e;lia
  .rw[vr c];rw[vr ((λz=>c (OR z))<*I)]at e;lia
 let#[p,hp]:=G.dir hd;show#[#[U,ac,λn h=>?_],p,nm,k,G.F.IK _ _ _ I,.inl #[.step hp hd I,λj h=>?_]]
 .cases c:n=k
  .let r:=ac n;rw[vr (k0<*c)]at r;let#[e,he]:=Hl (S:=S') (c:=n) ak;let#[s,hs,le]:=aeh.mp he;cases s with
   |none=>cases le
   |some q =>
    let eq:q.2=n:=cL le;let Y:=yM (show some (q.1,q.2)∈S' e from hs) (U.nd e);let L:¬ e=k:=λw=>(Y*>[w,sK]);let De:bL N' e:=by
     cases w:bL N' e with
     |true=>rfl
     |false=>rwa[U.bu e w]at hs
    let#[p2,h2]:=G.dir (d:=e) (by rw[<-eD e L];show De);rw[eq]at Y;show#[_,.step (kp h2 L) De Y]
  .rw[eL n,vr (oR c)]at h;let#[q,hq]:=G.rc n ak;show#[q,kp hq c]
 .let#[e,a,b,c]:=h.inv U.IK (G.F.IK _ _ _ I);let L:¬ e=k:=λw=>(c*>[w,sK]);let a2:At (bL N) S p e:=a.mono (λm hm=>by
   cases w:m=k
   .rw[w,eK]at hm;cases hm
   .rw[<-eD m w];show hm) λm x j _ hx=>by
    let mk:¬ m=k:=λw=>(hx*>[w,sK]);rw[sE m x mk]at hx;split at hx
    .cases hx
    .show hx
  cases hp.fn G.F.IK a2;rwa[sE d nm L,C' #[1]]at c
def Gz.move{i8:Str}(G:Gz N S)(F':Fz N' S')(o:okN i8)(hu:bL N u)(hn:fX (S d) nm^k)(nw:fX (S u) i8=none)(Z:∀e x j,fX (S e) x^j->¬ (e=d/\x=nm)->fX (S' e) x^j)(e2:fX (S' u) i8^k)(er:∀c,refs S' c=refs S c)(I:bL N'=bL N)(Y:lk N'=lk N)(wy:∃p,At (bL N) S p u/\At (bL N) S' p u):Gz N' S'/\Jn N S N' S':=by
 let#[p,h1,h2]:=wy;rw[<-I]at h2;let L:At (bL N') S' (p++SL++i8) k:=.step h2 (hu<*I) e2;let all:∀{q n},At (bL N) S q n->∃U,At (bL N') S' U n:=λh=>by
  induction h with
  |root=>show#[_,.root]
  | @step q e x n a b c ih =>
   cases z:e=d/\x=nm
   .rw[z.1,z.2,hn]at c;cases c;show#[_,L]
   .let#[U,h']:=ih;show#[_,.step h' (b<*I) (Z e x n c z)]
 show#[#[F',λn=>G.re n<*[er,Y],λn h=>?_],p,i8,k,o,.inr #[L,λj h=>?_]]
 .rw[Y]at h;let#[q,hq]:=G.rc n h;show all hq
 .let#[e,a,b,c]:=h.inv G.F.IK o;cases h1.fn G.F.IK a;rwa[nw]at c
def Gz.iW(G:Gz N S)(L:Fz N' S)(I:bL N'=bL N)(F:lk N'=lk N):Gz N' S:=#[L,λn=>G.re n<*F,λn h=>by rw[F]at h;rw[I];show G.rc n h]
def Ge(hk:∀e x j,fX (S e) x^j->¬ j=k->fX (S' e) x^j)(ns:gq):∀{w:N4},fY N S ns=.ok w->k∉w->∃p,At (bL N) S p (lst w)/\At (bL N) S' p (lst w):=by
 show kG (P:=λns=>∀{w:N4},fY N S ns=.ok w->k∉w->∃p,At (bL N) S p (lst w)/\At (bL N) S' p (lst w)) ?_ (λns nm G=>?_) ns
 .intro w h _;cases h;show#[_,.root,.root]
 .intro w h F;rw[j3]at h;cases e:fY N S ns with
  |error r=>rwa[e]at h
  |ok v =>
   rw[e]at h;unfold lD at h;dsimp only at h;cases dd:bL N (lst v)
   .rw[C' dd]at h;cases q:fX (S (lst v)) nm with
    |none=>rwa[q]at h
    |some j =>
     rwa[q]at h;let#[p,h1,h2]:=G e λz=>F (YC _ z);rw[lst_snoc];show#[_,.step h1 dd q,.step h2 dd (hk _ _ _ q λz=>F (DO _ (z4.mpr z.6)))]
   .rw[vr dd]at h;cases h
def mp(N:NS)(n:Int):Option (Bool×Int):=(N n).map λx=>(x.dir,x.ln)
variable{n:Int}
def jE(F:N n^nd)(cs:N4):mp (cA N n (some { nd with cs:=cs }))=mp N:=funext λm=>by
 unfold mp cA;cases c:m=n
 .rw[C' c,c,F];rfl
 .rw[vr c]
def LX(h:mp N'=mp N):bL N'=bL N/\lk N'=lk N:=by
 show#[funext λm=>?_,funext λm=>?_]
 all_goals
  let e:=congrFun h m;unfold mp at e
  first|unfold bL|unfold lk
  rcases a:N m with _|_<;>rcases b:N' m with _|_<;>rw[a,b]at e<;>first|rfl|cases e|(injection e with e;injection e)
def AH(F:N n^nd)(cs:N4):bL (cA N n (some { nd with cs:=cs }))=bL N:=GH F rfl
theorem zp.go{x:Node}(G:Gz N S)(U:Fz N' S')(h:zp N S k x N' S')(L:bL N k->x.dir)(Y:x.ln=lk N k+1):Gz N' S'/\Jn N S N' S':=by
 let#[d,nm,nd,hd,F,Z,o,ne,rfl,rfl,_,_]:=h;show G.add U o hd Z rfl (λm I=>?_) λm=>?_
 .rw[zm,AH F];cases c:m=k
  .rw[C' c];show L (c▸I)
  .rw[vr c];show I
 .rw[Bp,i3 F];cases c:m=k
  .rw[C' c,C' c.6,Y,c]
  .rw[vr c,vr (oR c)];lia
theorem rS.go{x:Option Node}(G:Gz N S)(Y:Fz N' S')(h:rS N S k x N' S')(L:∀y,x^y->y.dir=false)(Z:lk N' k=lk N k-1):Gz N' S'/\Jn N S N' S':=by
 let#[d,nm,nd,hd,F,hk,I,k0,rfl,rfl]:=h;show G.drop Y hd hk k0 I rfl ?_ (λm U=>?_) λm=>?_
 .unfold bL;rw[lZ];cases x with
  |none=>rfl
  |some y=>show L y rfl
 .rw[<-AH F (bt (dS (S d) nm))];unfold bL;rw[fb U]
 .cases c:m=k
  .rw[C' c.6,c];show Z
  .rw[vr (oR c), <-i3 F (bt (dS (S d) nm))];unfold lk;rw[fb c];lia
theorem DY{q:Str}(G:Gz N S)(F':Fz N' S')(hq:bS q)(h:pq ah N S p q=.ok (N',S')):mp N'=mp N/\Gz N' S'/\Jn N S N' S':=by
 let F:=G.F;let#[d,u,k,nm,i8,no,nd,ms,w,dd,ac,hd,ab,hk,Z,ap,wy,lw,kw,o]:=wM F hq h;let#[o0,o1]:=F.oz dd;let#[u0,u1]:=F.oz hd;let nw:fX (S u) i8=none:=(jL _ _).mpr Z;let fin:mp N'=mp N->(∀e x,fX (S' e) x=if e=u/\x=i8 then some k else if e=d/\x=nm then none else fX (S e) x)->(∀c,refs S' c=refs S c)->mp N'=mp N/\Gz N' S'/\Jn N S N' S':=λem eN er=>by
  let#[eD,eL]:=LX em;let kp:∀e x j,fX (S e) x^j->¬ (e=d/\x=nm)->fX (S' e) x^j:=λe x j U z=>by
   rw[eN,vr (λw=>by rwa[w.1,w.2,nw]at U),vr z];show U
  show#[em,G.move F' ap hd hk nw kp (by rw[eN,C' #[1]]) er eD eL (lw▸Ge (k:=k) (λe x j U z=>kp e x j U ?_) _ wy kw)];rintro⟨rfl,rfl⟩;rwa[hk]at U;show z rfl
 let cE:∀m,cn (dS (S d) nm) m+(if k=m then 1 else 0)=cn (S d) m:=λm=>by
  let e:=vd nm m (F.nd d);cases z:k=m
  .rw[C' (by rw[hk,z])]at e;rw[C' z];show e
  .rw[vr ((λy=>z (OR y))<*hk)]at e;rw[vr z];show e
 rcases o with⟨rfl,_,rfl,rfl⟩|⟨c,_,rfl,rfl⟩
 .let ad:i8∉eZ (dS (S u) nm):=λz=>by
   rw[qi]at z;show Z (YN.mp z).1
  show fin (jE ab _) (λe x=>?_) λm=>?_
  .cases d:e=u
   .rw[d,ja,mZ _ x ad,qk];cases I:x=i8
    .rw[C' I,C' #[rfl,I]]
    .rw[vr I,vr (show ¬ (u=u/\x=i8)from λz=>I z.2)];cases L:x=nm
     .rw[C' L,C' #[rfl,L]]
     .rw[vr L,vr (λz=>L z.2)]
   .rw[gr d,vr (λz=>d z.1),vr (λz=>d z.1)]
  .let a:=eV S (dh (dS (S u) nm) i8 k) m u0 u1;rw[nR]at a;have:=cE m;lia
 .let am:cA N u (some { nd with cs:=bt (dh (S u) i8 k) }) d=some no:=(ac<*fb (oR c));show fin (by rw[jE am,jE ab]) (λe x=>?_) λm=>?_
  .cases z:e=d
   .rw[z,ja,qk,vr (show ¬ (d=u/\x=i8)from λz=>c z.1.6)];cases L:x=nm
    .rw[C' L,C' #[rfl,L]]
    .rw[vr L,vr (λz=>L z.2)]
   .rw[gr z,vr (show ¬ (e=d/\x=nm)from λy=>z y.1)];cases Y:e=u
    .rw[Y,ja,mZ _ x Z];cases I:x=i8
     .rw[C' I,C' #[rfl,I]]
     .rw[vr I,vr (λz=>I z.2)]
    .rw[gr Y,vr (λz=>Y z.1)]
  .let a:=eV S (dh (S u) i8 k) m u0 u1;rw[nR]at a;let a2:=eV (kW S u (dh (S u) i8 k)) (dS (S d) nm) m o0 o1;rw[gr (oR c)]at a2;have:=cE m;lia
structure n9(N1:NS)(S1:SS)(N2:NS)(S2:SS):Prop where
 ln:(iD (nO N1 S1)).9=(iD (nO N2 S2)).9
 at_:∀(i:Nat)(x y:iz)(nd nd':Node),(iD (nO N1 S1))[i]?^x->(iD (nO N2 S2))[i]?^y->N1 x.2^nd->N2 y.2^nd'->x.1=y.1/\pL nd=pL nd'
variable{l:List iz}
def GJ(h:x∈l):∃i:Nat,(iD l)[i]?^x:=by
 let#[i,hi,e]:=Y8.mp ((ZP l Ie).mem_iff.mpr h);show#[i,by rw[<-e];show vu hi]
def EI{i:Nat}(h:(iD l)[i]?^x):x∈l:=(ZP l Ie).mem_iff.mp (Yk h)
variable{N1 N2:NS}{S1 S2:SS}
def n9.symm(T:n9 N1 S1 N2 S2):n9 N2 S2 N1 S1:=#[T.ln.6,λi x y a b h1 h2 G F=>(T.at_ i y x b a h2 h1 F G).imp EL EL]
def n9.to(T:n9 N1 S1 N2 S2)(G:Fz N1 S1)(I:Fz N2 S2)(o:okN nm)(h:At (bL N1) S1 (p++SL++nm) k):∃j,At (bL N2) S2 (p++SL++nm) j:=by
 let h:=(Hf G o).mpr h;let#[i,hi]:=GJ h;let l:=(wh.mp hi).1;rw[T.ln]at l;let F:=vu l;generalize (iD (nO N2 S2))[i]=y at F;let#[a,U]:=Fe G h;let#[b,L]:=Fe I (EI F);let e:=(T.at_ i _ y a b hi F U L).1;let m:=EI F;rw[show y=(p++SL++nm,y.2)from LP e.symm rfl]at m;show#[_,(Hf I o).mp m]
theorem Fz.lz(G:Gz N S)(n:Int):0<=lk N n:=by
 have:=G.re n;have:(0:Int)<=(if n=0 then 1 else 0):=(by split<;>decide);lia
theorem jz(F:Fz N S):bL (bD N)=bL N:=funext λn=>by
 cases e:N n with
 |none=>unfold bL;rw[e,eB e]
 |some nd =>
  cases l:nd.ln=0
  .unfold bL;rw[gZ e l,e];cases d:nd.dir with
   |false=>show d.6
   |true=>have:=F.dl _ _ e d;lia
  .unfold bL;rw[fZ e l,e]
def Ah:lk (bD N)=lk N:=funext λn=>by
 cases e:N n with
 |none=>unfold lk;rw[e,eB e]
 |some nd =>
  cases l:nd.ln=0
  .unfold lk;rw[gZ e l,e];show l.6
  .unfold lk;rw[fZ e l,e]
theorem Gz.bD(G:Gz N S):Gz (bD N) S:=by
 let F:=G.F;let I:=jz F;show G.iW #[F.root<*I,λn nd h=>F.enc n nd (iH h).1,F.len,F.ok,F.nd,λn h=>F.bu n (by rw[<-I];show h),λn=>F.rf n<*Ah,λn nd h=>F.dl n nd (iH h).1,λn nd h=>F.so n nd (iH h).1] I Ah
def RS(h:bL N'=bL N):nO N' S=nO N S:=by
 let e:∀i,HB N' S i=HB N S i:=λi=>by
  induction i with
  |zero=>rfl
  |succ i F =>
   change j0 N' S _=j0 N S _;rw[F];unfold j0;rw[h]
 unfold nO;rw[e]
def ME(G:Gz N S)(I:Gz N' S')(d:Jn N S N' S')(T:n9 (bD N) S (bD N') S'):False:=by
 let#[p,nm,k,o,d]:=d;rw[<-jz G.F, <-jz I.F]at d;rcases d with⟨a,b⟩|⟨a,b⟩
 .let#[j,h]:=T.to G.bD.F I.bD.F o a;show b j h
 .let#[j,h]:=T.symm.to I.bD.F G.bD.F o a;show b j h
theorem Ny(G:Gz N S)(Y:Fz N' S)(U:bL N'=bL N)(L:lk N'=lk N)(T:n9 (bD N) S (bD N') S):bD N'=bD N:=funext λn=>by
 cases e:N n with
 |none =>
  rw[eB e];cases I:N' n with
  |none=>show eB I
  |some x=>show gZ I (by rw[<-gy I,L];unfold lk;rw[e])
 |some nd =>
  cases l:nd.ln=0
  .rw[gZ e l];cases I:N' n with
   |none=>show eB I
   |some x=>show gZ I (by rw[<-gy I,L,gy e,l])
  .let l1:1<=lk N n:=by
    have:=Fz.lz G n;rw[gy e]at this ⊢;lia
   let#[x,I]:=yR (show 1<=lk N' n by rw[L];show l1);let lx:x.ln=nd.ln:=(by rw[<-gy I, <-gy e,L]);let dx:x.dir=nd.dir:=(by rw[<-dU I, <-dU e,U]);rw[fZ e l,fZ I (l<*lx)];let cx:x.cs=nd.cs:=by
    cases d:nd.dir
    .rw[Y.enc _ _ I (d<*dx),G.F.enc _ _ e d]
    .let#[p,Z]:=G.rc n l1;let ab:(p,n)∈nO (Fs.bD N) S:=by
      cases Z with
      |root=>show D9 G.F.root (d<*dU e)
      |step a b c=>show(Hf G.bD.F (G.F.IK _ _ _ c)).mpr (.step a b c<*jz G.F)
     let#[i,hi]:=GJ ab;let q:=(T.at_ i _ _ nd x hi (hi<*RS (show bL (Fs.bD N')=bL (Fs.bD N)by rw[jz Y,jz G.F,U])) (fZ e l) (fZ I (l<*lx))).2;unfold pL at q;rw[vr d,vr (d<*dx)]at q;show q.6
   cases x;cases nd;cases lx;cases dx;cases cx;rfl
theorem NW.mp(h:NW N N'):mp N'=mp N:=by
 obtain rfl|⟨n,nd,cs,F,hd,rfl⟩:=h
 .rfl
 .show jE F _
def Gv(F:Fz N S)(q:ir N h n=.ok (N',h')):bL N'=bL N/\lk N'=lk N:=by
 obtain⟨nd,v,e,_,_,⟨rfl,_⟩|⟨rfl,l,_⟩⟩:=gM q
 .show#[1]
 .show Br F e l
variable{d:Dd}{r:Rs}
theorem Sh(G:Gz N S)(ok:gH d)(e:vP ah N S h d=.ok (r,N',S',h')):Gz N' S'/\(n9 (bD N) S (bD N') S'->bD N'=bD N/\S'=S):=by
 let I:=QA G.F ok e;let dd:Gz N' S'/\Jn N S N' S'->Gz N' S'/\(n9 (bD N) S (bD N') S'->bD N'=bD N/\S'=S):=λq=>#[q.1,λT=>(ME G q.1 q.2 T).elim];let ss:S'=S->bL N'=bL N/\lk N'=lk N->Gz N' S'/\(n9 (bD N) S (bD N') S'->bD N'=bD N/\S'=S):=λes q=>by
  subst es;show#[G.iW I q.1 q.2,λT=>#[Ny G I q.1 q.2 T,rfl]]
 cases d with
 |make kd p =>
  let#[x,q,e]:=bC e;cases e;let#[Y,A]:=qG G.F ok q;show dd (A.go G I (λz=>by unfold bL at z;rwa[Y]at z) (by unfold lk;rw[Y];rfl))
 |unlink p =>
  let#[x,q,e]:=bC e;cases e;let#[k,x,y,hx,dx,A,c]:=lW G.F q;show dd (A.go G I (λz L=>?_) ?_)
  .rcases c with⟨c,_⟩|⟨c,_⟩
   .rw[c]at L;cases L
   .rw[c]at L;cases L;show dx
  .let#[d,nm,nd,_,_,_,_,_,U,_]:=A;rw[U,gy hx];unfold lk;rw[lZ];rcases c with⟨c,Z,_⟩|⟨c,_⟩
   .rw[c,Z];rfl
   .rw[c];change x.ln + -1=x.ln-1;lia
 |rmdir p =>
  let#[x,q,e]:=bC e;cases e;let#[k,hk,A]:=lQ G.F q;show dd (A.go G I (λz L=>by cases L) ?_);let#[nd,h1,h2]:=bM hk;let#[d,nm,nd,_,_,_,_,_,U,_]:=A;rw[U,gy h1,G.F.dl _ _ h1 h2];unfold lk;rw[lZ];rfl
 |hold n=>let#[x,q,e]:=bC e;cases e;show ss rfl #[1]
 |loose n=>let#[x,q,e]:=bC e;cases e;show ss rfl (Gv G.F q)
 |link p p2 =>
  let#[x,q,e]:=bC e;cases e;let#[k,x,hx,dx,A]:=rW G.F ok.2 q;show dd (A.go G I (λz=>by rw[dU hx]at z;show z) (by rw[gy hx]))
 |move p p2=>let#[x,q,e]:=bC e;cases e;show dd (DY G I ok.2 q).2
 |cut n a=>let#[x,q,e]:=bC e;cases e;show ss rfl (LX (vc q).mp)
 |write n a cs=>let#[x,q,e]:=bC e;cases e;show ss rfl (LX (nY q).mp)
structure Hz(N:NS)(h:HT):Prop where
 nl:∀n nd,N n^nd->nd.ln=0->look h n≠none
 us:∀n v,look h n^v->1<=v/\∃nd,N n^nd/\nd.dir=false
def Hz.map(Z:Hz N h)(e:mp N'=mp N):Hz N' h:=by
 show#[λn nd L l=>?_,λn v U=>?_]
 .let q:=congrFun e n;unfold mp at q;rw[L]at q;let#[x,hx,q]:=NC.mp q.6;injection q with F G;show Z.nl n x hx (G.trans l)
 .let#[Y,x,hx,dx]:=Z.us n v U;let q:=congrFun e n;unfold mp at q;rw[hx]at q;let#[y,I,q]:=NC.mp q;injection q with F G;show#[Y,y,I,F.trans dx]
def Hz.row{x:Option Node}(Z:Hz N h)(h1:∀y,x^y->y.ln=0->look h k≠none)(h2:look h k≠none->∃y,x^y/\y.dir=false):Hz (cA N k x) h:=by
 show#[λn nd F l=>?_,λn v G=>?_]
 .unfold cA at F;cases c:n=k
  .rw[C' c]at F;rw[c];show h1 nd F l
  .rw[vr c]at F;show Z.nl n nd F l
 .show#[(Z.us n v G).1,?_];unfold cA;cases c:n=k
  .rw[C' c];show h2 (by rw[<-c,G];nofun)
  .rw[vr c];show(Z.us n v G).2
theorem vT{v:Int}(e:look h n^v)(j:Int):look (Dv h n v) j=if j=n then(if v=1 then none else some (v-1))else look h j:=by
 unfold Dv;cases c:v-1=0
 .rw[C' c,xu,h9 j e,C' (show v=1 by lia)];cases z:j=n
  .rw[C' z,C' z]
  .rw[vr z,vr z,vr z]
 .rw[vr c,h9 j e,vr (show ¬ v=1 by lia)]
def Cu(q:ir N h n=.ok (N',h')):bD N'=bD N:=by
 obtain⟨nd,v,e,_,_,⟨rfl,_⟩|⟨rfl,l,_⟩⟩:=gM q
 .rfl
 .funext m;cases c:m=n
  .rw[c,gZ e l,eB lZ]
  .unfold bD;rw[fb c]
theorem Hz.loose(Z:Hz N h)(q:ir N h n=.ok (N',h')):Hz N' h':=by
 let#[nd,v,e,I,rfl,c]:=gM q;let lo:=vT I;let ln:look (Dv h n v) n=if v=1 then none else some (v-1):=by rw[lo,C' rfl]
 let G:∀m,¬ m=n->look (Dv h n v) m=look h m:=λm z=>(by rw[lo,vr z]);let U:=(Z.us n v I).1;rcases c with⟨rfl,c⟩|⟨rfl,l,c⟩
 .show#[λm x hx l=>?_,λm w F=>?_]
  .cases z:m=n
   .rw[z]at hx ⊢;rwa[e]at hx;show λy=>c #[l,y]
   .rw[G m z];show Z.nl m x hx l
  .cases z:m=n
   .rw[z,ln]at F;rw[z];show#[?_,(Z.us n v I).2];split at F
    .cases F
    .cases F;lia
   .rw[G m z]at F;show Z.us m w F
 .show#[λm x hx l=>?_,λm w F=>?_]
  .unfold cA at hx;cases z:m=n
   .rw[C' z]at hx;cases hx
   .rw[vr z]at hx;rw[G m z];show Z.nl m x hx l
  .cases z:m=n
   .rw[z,c]at F;cases F
   .rw[G m z]at F;let#[L,x,hx,dx]:=Z.us m w F;show#[L,x,hx<*fb z,dx]
def xq(q:qR N h n=.ok h'):(∃nd,N n^nd/\nd.dir=false)/\∀j,look h' j=if j=n then some ((look h n).getD 0+1)else look h j:=by
 unfold qR at q;cases e:yg N n with
 |some r=>rwa[e]at q
 |none =>
  rw[e]at q;dsimp only at q;show#[lR e,λj=>?_];cases F:look h n with
  |none=>rwa[F]at q;show ky j F
  |some v=>rwa[F]at q;show h9 j F
theorem Hz.hold(Z:Hz N h)(q:qR N h n=.ok h'):Hz N h':=by
 let#[f,lo]:=xq q;show#[λm x hx l=>?_,λm w F=>?_]
 .rw[lo];cases z:m=n
  .rw[C' z];nofun
  .rw[vr z];show Z.nl m x hx l
 .rw[lo]at F;cases z:m=n
  .rw[C' z]at F;cases F;rw[z];show#[?_,f];cases e:look h n with
   |none=>decide
   |some v=>have:=(Z.us n v e).1;change 1<=v+1;lia
  .rw[vr z]at F;show Z.us m w F
variable{dd:Dd}
theorem Va(G:Gz N S)(Z:Hz N h)(ok:gH dd)(L:vP ah N S h dd=.ok (r,N',S',h')):Hz N' h':=by
 let dir:∀{k},bL N k->look h k≠none->False:=λ{k} hk z=>by
  cases w:look h k with
  |none=>show z w
  |some v =>
   let#[_,x,hx,dx]:=Z.us k v w;rwa[dU hx,dx]at hk
 cases dd with
 |make kd p =>
  let#[x,q,e]:=bC L;cases e;let#[hu,d,nm,nd,hd,U,_,_,_,Y,_]:=qG G.F ok q;rw[Y];show(Z.map (jE U _)).row (λy I l=>by cases I;cases l) λz=>?_;cases w:look h x.1 with
  |none=>show D9 w z
  |some v =>
   let#[_,y,I,_]:=Z.us _ v w;rwa[hu]at I
 |unlink p =>
  let#[x,q,e]:=bC L;cases e;let#[k,x,y,hx,dx,#[d,nm,nd,_,U,_,_,_,Y,_],c]:=lW G.F q;rw[Y];rcases c with⟨rfl,c⟩|⟨rfl,c⟩
  .show(Z.map (jE U _)).row (λy I=>by cases I) λz=>D9 c.2 z
  .show(Z.map (jE U _)).row (λy I l=>by cases I;show λz=>c #[by have:x.ln + -1=0:=l;lia,z]) λ_=>#[0,dx]
 |rmdir p =>
  let#[x,q,e]:=bC L;cases e;let#[k,hk,d,nm,nd,_,U,_,_,_,Y,_]:=lQ G.F q;rw[Y];show(Z.map (jE U _)).row (λy I=>by cases I) λz=>(dir hk z).elim
 |hold n=>let#[x,q,e]:=bC L;cases e;show Z.hold q
 |loose n=>let#[x,q,e]:=bC L;cases e;show Z.loose q
 |link p p2 =>
  let#[x,q,e]:=bC L;cases e;let#[k,x,hx,dx,d,nm,nd,_,U,_,_,_,Y,_]:=rW G.F ok.2 q;rw[Y];show(Z.map (jE U _)).row (λy I l=>by
   cases I;let l:x.ln+1=0:=l;have:=Fz.lz G k;rw[gy hx]at this;lia) λ_=>#[0,dx]
 |move p p2=>let#[x,q,e]:=bC L;cases e;show Z.map (DY G (Aq G.F ok.1 ok.2 q) ok.2 q).1
 |cut n a=>let#[x,q,e]:=bC L;cases e;show Z.map (vc q).mp
 |write n a cs=>let#[x,q,e]:=bC L;cases e;show Z.map (nY q).mp
def zx(hs:N4):Dd->List Int
 |.hold n=>hs++[n]
 |.loose n=>hs.erase n
 |_=>hs
def Hs(h:HT)(hs:N4):=∀n,(hs.count n:Int)=(look h n).getD 0
variable{hs:N4}
theorem QW(Z:Hz N h)(F:vP ah N S h dd=.ok (r,N',S',h'))(H:Hs h hs):Hs h' (zx hs dd):=by
 cases dd with
 |hold n =>
  let#[x,q,e]:=bC F;cases e;intro j;let a:=H j;rw[(xq q).2 j];change((hs++[n]).count j:Int)=_;rw[aeY,List.count_singleton];cases z:j=n
  .rw[C' z,C' (beq_self_eq_true n<*z)];rw[z]at a ⊢;change _=(look h n).getD 0+1;lia
  .rw[vr z,vr (λw=>z (yE w).6)];lia
 |loose n =>
  let#[x,q,e]:=bC F;cases e;let#[nd,v,_,G,I,_]:=gM q;intro j;let a:=H j;let b:=H n;let L:=(Z.us n v G).1;rw[I,vT G];change((hs.erase n).count j:Int)=_;rw[G]at b;let b:(hs.count n:Int)=v:=b;cases z:j=n
  .rw[C' z,z,List.count_erase_self];cases c:v=1
   .rw[C' c];change _=(0:Int);lia
   .rw[vr c];change _=v-1;lia
  .rw[vr z,List.count_erase_of_ne z];show a
 |make _ _=>let#[x,q,e]:=bC F;cases e;show H
 |unlink _=>let#[x,q,e]:=bC F;cases e;show H
 |rmdir _=>let#[x,q,e]:=bC F;cases e;show H
 |link _ _=>let#[x,q,e]:=bC F;cases e;show H
 |move _ _=>let#[x,q,e]:=bC F;cases e;show H
 |cut _ _=>let#[x,q,e]:=bC F;cases e;show H
 |write _ _ _=>let#[x,q,e]:=bC F;cases e;show H
abbrev Zs:=NS×SS×HT×List Int
noncomputable def Od(ah:Nat)(a:Option Zs)(d:Dd):Option Zs:=a.bind λz=>match vP ah z.1 z.2.1 z.2.2.1 d with
 |.ok x=>some (x.2.1,x.2.2.1,x.2.2.2,zx z.2.2.2 d)
 |.error _=>none
noncomputable def run(ah:Nat)(ds:List Dd):Option Zs:=ds.foldl (Od ah) (some (N0,λ_=>[],[],[]))
theorem xD(ah:Nat)(ds:List Dd)(d:Dd):run ah (ds++[d])=Od ah (run ah ds) d:=by unfold run;rw[P6];rfl
variable{ds:List Dd}
theorem yj(e:run ah ds^(N,S,h,hs))(q:vP ah N S h d=.ok (r,N',S',h')):run ah (ds++[d])^(N',S',h',zx hs d):=by
 rw[xD,e];unfold Od;rw[MV];dsimp only;rw[q]
theorem vj{z:Zs}(e:run ah (ds++[d])^z):∃N S h hs r,run ah ds^(N,S,h,hs)/\vP ah N S h d=.ok (r,z.1,z.2.1,z.2.2.1)/\z.2.2.2=zx hs d:=by
 rw[xD]at e;unfold Od at e;cases q:run ah ds with
 |none=>rwa[q]at e
 |some a =>
  rw[q,MV]at e;cases F:vP ah a.1 a.2.1 a.2.2.1 d with
  |error y=>rwa[F]at e
  |ok x =>
   rwa[F]at e;show#[a.1,a.2.1,a.2.2.1,a.2.2.2,x.1,rfl,F,rfl]
theorem Ka:∀{es:List Dd}{z:Zs},run ah (ds++es)^z->∃y,run ah ds^y:=λ{es}=>by
 show kG (P:=λes=>∀{z:Zs},run ah (ds++es)^z->∃y,run ah ds^y) ?_ (λl d F=>?_) es
 .intro z e;rw[Yw]at e;show#[z,e]
 .intro z e;rw[<-YA]at e;let#[N,S,h,hs,r,e,_]:=vj e;show F e
structure Rn(N:NS)(S:SS)(h:HT)(hs:N4):Prop where
 G:Gz N S
 Z:Hz N h
 H:Hs h hs
theorem P0:Gz N0 (λ_=>[]):=by
 let z:∀n,refs (λ_=>[]) n=0:=λn=>by
  have:∀m,II (λ_=>[]) n m=0:=λm=>by
   induction m with
   |zero=>rfl
   |succ m F=>rw[kg,F];rfl
  show this 24
 let e:∀n,lk N0 n=if n=0 then 1 else 0:=λn=>by
  unfold lk N0 cA;cases c:n=0
  .rw[C' c,C' c]
  .rw[vr c,vr c]
 show#[QR,λn=>by rw[z,e];change(0:Int)+_=_;lia,λn h=>?_];rw[e]at h;cases c:n=0
 .rw[c];show#[_,.root]
 .rw[vr c]at h;show D9 h az
def Sg:Hz N0 []:=#[λn nd e l=>by
 let#[_,rfl]:=jB e;show D9 l az,λn v h=>(by cases h)]
theorem oa:∀{N S h hs},(∀d∈ds,gH d)->run ah ds^(N,S,h,hs)->Rn N S h hs:=by
 show kG (P:=λds=>∀{N S h hs},(∀d∈ds,gH d)->run ah ds^(N,S,h,hs)->Rn N S h hs) ?_ (λl d I=>?_) ds
 .intro N S h hs _ e;cases e;show#[P0,Sg,λ_=>rfl]
 .intro N S h hs ok e;let#[N1,S1,h1,L,r,F,q,rfl]:=vj e;let R:=I (λd hd=>ok d (YC _ hd)) F;let od:=ok d (DO _ (z4.mpr rfl));show#[(Sh R.G od q).1,Va R.G R.Z od q,QW R.Z q R.H]
theorem Sd(Z:Hz N h)(H:Hs h []):h=[]/\bD N=N:=by
 let no:∀n,look h n=none:=λn=>by
  cases e:look h n with
  |none=>rfl
  |some v =>
   let a:=H n;rw[e]at a;let a:(0:Int)=v:=a;have:=(Z.us n v e).1;lia
 show#[?_,mS λn nd e l=>Z.nl n nd e l (no n)];cases h with
 |nil=>rfl
 |cons x l=>show D9 (Yn) (kC (no x.1))
theorem Hs.some(Z:Hz N h)(H:Hs h hs)(F:n∈hs):∃N' h',ir N h n=.ok (N',h'):=by
 let a:=H n;let c:=Ra.mpr F;cases e:look h n with
 |none =>
  rw[e]at a;let a:(hs.count n:Int)=0:=a;lia
 |some v =>
  let#[_,nd,hx,_]:=Z.us n v e;unfold ir;rw[hx];dsimp only;rw[e];show#[_,0]
structure Fr(A:eE)(H:Hp)(A':eE)(J:Hp):Prop where
 off:Q5 A H J
 own:∀x,A' x->A x\/H x=none
def gk(A:eE)(H:Hp)(P:Hp->Prop):=∀H',Q5 A H H'->P H'
def FO(M:b7)(z:FA)(m:M.St)(x:ZX):Prop:=M.own m x\/x=z.hd\/x=z.a\/x=z.na
end
section
variable{A:eE}
mutual
def Fr.refl:Fr A H A H:=#[131,λ_ h=>.inl h]
variable{A' xh:eE}{pE:Hp}
def Fr.trans(a:Fr A H A' J)(b:Fr A' J xh pE):Fr A H xh pE:=by
 show#[λx o e n=>b.off x o (a.off x o e n) λh=>?_,λx h=>?_]
 .rcases a.own x h with q|q
  .show n q
  .rw[e]at q;cases q
 .rcases b.own x h with q|q
  .show a.own x q
  .cases c:A x
   .show .inl c
   .cases e:H x with
    |none=>show .inr rfl
    |some o=>rwa[a.off x o e c]at q
def Fr.post(a:Fr A H A' J)(s:aG J pE):Fr A H A' pE:=#[a.off.trans (Q5.of s),a.own]
def Fr.same(s:aG H J):Fr A H A J:=#[Q5.of s,λ_ h=>.inl h]
def Fr.or(a:Fr A H A' J):Fr (λx=>A x\/B x) H (λx=>A' x\/B x) J:=#[a.off.mono λ_=>.inl,λx h=>h.elim (λh=>(a.own x h).imp .inl id) λh=>.inl (.inr h)]
theorem Fr.mono(a:Fr A H A' J)(h1:∀x,A x->B x)(h2:∀x,xh x->A' x\/B x):Fr B H xh J:=#[a.off.mono h1,λx h=>(h2 x h).elim (λh=>(a.own x h).imp (h1 x) id) .inl]
variable{P:Hp->Prop}
def gk.now(s:gk A H P):P H:=s H λ_ _ e _=>e
def gk.step{A A':eE}{H J:Hp}{P:Hp->Prop}(s:gk A H P)(a:Fr A H A' J):gk A' J P:=λH' o=>s H' λx u e n=>o x u (a.off x u e n) λh=>by
 obtain q|q:=a.own x h
 .show n q
 .rw[e]at q;cases q
def gk.less(s:gk A H P)(h:∀x,B x->A x):gk B H P:=λH' o=>s H' (o.mono h)
theorem gk.same(s:gk A H P)(q:aG H J):gk A J P:=s.step (Fr.same q)
variable{o:HO}
def gk.no(s:gk A H λH'=>H' a^o):¬ A a:=λh=>by
 let e:=s (λx=>if x=a then none else H x) λx u e n=>by
  change(if x=a then none else H x)=_;rw[vr (show ¬ x=a from λz=>n (z▸h))];show e
 let e:(if a=a then none else H a)^o:=e;rwa[C' rfl]at e
def gk.of(e:H a^o)(n:¬ A a):gk A H λH'=>H' a^o:=λ_ q=>q _ _ e n
variable{P:By}{M:b7}{C:ZX}{z:FA}{m m':M.St}{ah d:Nat}{N N':NS}{h h':HT}
def FO.step{H J:Hp}{M:b7}{z:FA}{m m':M.St}(s:cH M z m H m' J):Fr (FO M z m) H (FO M z m') J:=#[s.off.mono λ_ q=>q.elim .inl λq=>.inr (.inl q),λx q=>by
 obtain q|q:=q
 .show(s.own x q).imp .inl id
 .show .inl (.inr q)]
variable{x:ZX}
theorem cI.al(O:M.Ok P w K mg base)(F:cI M C H z m ah N h d)(b:FO M z m x):H x≠none:=by
 obtain b|b|b|b:=b
 .show O.live F.A b
 .rw[b,F.hh];nofun
 .let#[dx,e]:=F.ob;rw[b,e];nofun
 .let#[dx,fs,e,_]:=O.ob F.A;rw[b,e];nofun
theorem cI.fr(O:M.Ok P w K mg base)(F:cI M C H z m ah N h d)(a:Fr A H A' J)(n:∀x,A x->¬ FO M z m x):cI M C J z m ah N h d:=F.off O a.off (λx hx q=>n x q (.inl hx)) (λq=>n _ q (.inr (.inr (.inl rfl)))) (λq=>n _ q (.inr (.inr (.inr rfl)))) λq=>n _ q (.inr (.inl rfl))
theorem cI.sep(O:M.Ok P w K mg base)(F:cI M C H z m ah N h d)(a:Fr A H A' J)(n:∀x,A x->¬ FO M z m x):∀x,A' x->¬ FO M z m x:=λx hx q=>(a.own x hx).elim (λy=>n x y q) (F.al O q)
def dO(z:FA)(m:BA×BS×(Int->List Int))(x:ZX):Prop:=jm m.1 m.2.1 x\/x=z.hd\/x=z.a\/x=z.na
variable{m:BA×BS×(Int->List Int)}{pp:ZX×ZX}
theorem L7(F:cI (j7 c CX CN N pp).uW C H z m ah N' h 0):cI (j7 c CX CN N' pp) C H z m ah N' h 0:=by
 obtain⟨A,e⟩:NR c CN H z.na m.1 m.2.1 ah N' m.2.2 0/\(m.1.p,m.1.bl)=pp:=F.A;show#[F.ob,F.hh,F.nd,#[A,?_,e],57];show#[m.2.2,A.R.lb λj I=>?_];rw[<-A.O.B.g0];let G:(m.2.1.D.filter (qg m.2.1))=[]:=Yz.mp (Q6.mp A.d);unfold lb;cases e:look m.2.1.D j with
 |none=>rfl
 |some x =>
  let q:¬ qg m.2.1 (j,x):=λz=>by
   have:=YN.mpr #[gw e,z];rwa[G]at this
  rw[DK,some_or];show O4.mp λw=>q (Ja w)
theorem cI.LU(F:cI (j7 c CX CN N pp) C H z m ah N h 0):∃d G,bg c.C H m.1.p m.1.bl d G false m.2.1.cs m.2.1.bs:=by
 let#[d,G,_,D]:=F.A.1.O.B.dk;show#[d,G,D]
variable{p dx E:ZX}{d:Int}{F:Bool}
def TQ{dy:ZX}{G:V}(e:H x^o)(D:H p^.ins E dx (eX bl d G F))(n:¬ o=.ins E dx (eX bl d G F)):¬ x=p:=λz=>by
 rw[z,D]at e;show n (OR e).6
def Eb{a b:Str}{u:V}{G dy:ZX}{I:V}(h:¬ a=b:=by decide +kernel):¬ HO.ins E dx (f2 a b u v)=.ins G dy (eX bl d I F):=λz=>by
 let z:=(HO.ins.inj z).2.2;rwa[eU,jV h]at z
theorem cI.rise{d':Int}{L:V}(F:cI (j7 c CX CN N pp) C H z m ah N h 0)(D':bg c.C J m.1.p m.1.bl d' L false m.2.1.cs m.2.1.bs)(u:jI L)(o:Q5 (· = m.1.p) H J):cI (j7 c CX CN N pp) C J z ({ m.1 with fl:=true },m.2) ah N h 0:=by
 let#[A,cm]:=F.A;let#[d,Z,_,D]:=A.O.B.dk;let#[I,ep]:=D.ob;let#[dx,e1]:=F.ob;let#[dy,e2]:=A.O.ob;let#[dw,e3]:=A.O.B.ob;let G:∀{x o},H x^o->¬ o=.ins c.C I (eX m.1.bl d Z false)->J x^o:=λe n=>o _ _ e (TQ (dx:=I) (dy:=I) e ep n);show#[#[dx,G e1 Eb],G F.hh nofun,F.nd,#[#[#[#[dy,G e2 Eb],#[#[dw,G e3 Eb],#[d',L,#[u,nofun],D'],G A.O.B.hd nofun,123,A.O.B.nd,A.O.B.rg,A.O.B.ln,A.O.B.z0,A.O.B.g0],A.O.tt],A.R,A.d],cm],57];let#[U,Y]:=A.O.B.hr x hx;show#[G U nofun,Y]
variable{d:Nat}
theorem jT.tell(F:jT (j7 c CX CN N (p,bl)) z m H ah N' J):∃d G cs bs,jI G/\bg c.C J p bl d G true cs bs/\oi bs ah (λM=>M=bD N\/M=bD N')/\Fr (dO z m) H (fS p bl cs) J:=by
 let#[I,H2,st,#[#[d,G,cs,bs,Z,D,L,fr],off,_],ln,cm,e,bk,R]:=F;injection e with Y U;rw[ln]at L;rw[Y,U]at D;show#[d,G,cs,bs,Z,D,L.tell cm #[bk,R.lb λj hj=>?_] (.inl rfl) (.inr rfl),Fr.trans (show Fr (dO z m) H (dO z I) H2 from FO.step st) #[off.mono λ_ q=>.inl q,λx q=>?_]]
 .change lb I.2.1 ((j.5:Nat):Int)=lb I.2.1 j;rw[ZT ak]
 .rcases q with q|q|q
  .show .inl (.inl (.inr (.inl (q.trans Y.6))))
  .show .inl (.inl (.inr (.inr (.inl (q.trans U.6)))))
  .show(fr x q).imp (λq=>.inl (.inr (.inr (.inr (.inr (.inl q)))))) id
theorem cI.tell{A:NS->Prop}(F:cI (j7 c CX CN N (p,bl)) C H z m ah N h 0)(a:A (bD N)):∃d I cs bs,bg c.C H p bl d I false cs bs/\oi bs ah A/\∀x,fS p bl cs x->dO z m x:=by
 let#[G,#[bk,R],e]:=F.A;let#[d,I,_,D]:=G.O.B.dk;injection e with U L;rw[U,L]at D;show#[d,I,2,D,.calm N bk G.O.tt G.O.B.z0 (R<*G.O.B.g0) a,λx q=>.inl ?_];obtain q|q|q:=q
 .show .inr (.inl (q.trans U.6))
 .show .inr (.inr (.inl (q.trans L.6)))
 .show .inr (.inr (.inr (.inr (.inl q))))
end
end
mutual
theorem zw{α:Type}[DecidableEq α]:∀F R2:List α,(decide (F.9=R2.9)&&(List.zipWith (λa b=>decide (a=b)) F R2).all id)=decide (F=R2)
 | [],[]=>rfl
 | [],_::_=>rfl
 |_::_,[]=>rfl
 |a::F,b::R2=>by
  let G:=zw F R2;rw[Lm]at G ⊢;simp only[YU,List.zipWith_cons_cons,RF,wx,decide_eq_true_eq,id,List.cons.injEq,Nat.add_right_cancel_iff]at G ⊢;rw[<-G];constructor
  .rintro⟨h1,h2,I⟩;show#[h2,h1,I]
  .rintro⟨h1,h2,I⟩;show#[h2,h1,I]
variable{n:Nat}{b:ZX}{ys:vl}
theorem Lx{α:Type}[DecidableEq α]{F R2:List α}(Y:H a%xs)(U:H b%ys)(l1:xs.9=F.9)(l2:ys.9=R2.9)(m1:F.9<=1000)(Z:R2.9<=1000)(h:∀(i:Nat)(u v:V)(x y:α),xs[i]?^u->ys[i]?^v->F[i]?^x->R2[i]?^y->zv H (n+1) u v (decide (x=y))):zv H (n+2) (.ref a) (.ref b) (decide (F=R2)):=by
 let g:uC H (zv H (n+1)) (.ref a) (.ref b) _:=.seq false a b xs ys (List.zipWith (λa b=>decide (a=b)) F R2) Y U ak ak λe=>#[by rw[List.length_zipWith];lia,λi u v z h1 h2 I=>by
  let L:i<F.9:=(by rw[<-l1];show(wh.mp h1).1);let G:i<R2.9:=(by rw[<-l2];show(wh.mp h2).1);rwa[List.getElem?_zipWith,vu L,vu G]at I;show h i u v _ _ h1 h2 (vu L) (vu G)]
 rw[l1,l2,zw]at g;show g
def So{l F:N4}(Y:H a%l.17)(L:H b%F.17)(I:l.9<=1000)(G:F.9<=1000):zv H (n+2) (.ref a) (.ref b) (decide (l=F)):=by
 show Lx Y L (si ..) (si ..) I G λi u v x y h1 h2 U Z=>?_;rw[IF,U]at h1;rw[IF,Z]at h2;cases h1;cases h2;show .int x y
noncomputable def F8(N:NS)(x:iz):Str×Str×Int×List Int:=match N x.2 with
 |some nd=>(x.1,pF nd.dir,nd.ln,pL nd)
 |none=>("","",0,[])
noncomputable def HK(N:NS)(S:SS):List (Str×Str×Int×List Int):=(iD (nO N S)).map (F8 N)
def KA{a1 L a2 U:Str}{Z b3:Int}{I Y:N4}:(decide (4=4)&&[decide (a1=L),decide (a2=U),decide (Z=b3),decide (I=Y)].all id)=decide ((a1,a2,Z,I)=(L,U,b3,Y)):=by
 rw[Lm];simp only[RF,List.all_nil,wx,decide_eq_true_eq,id,Prod.mk.injEq];constructor
 .rintro⟨_,h1,h2,G,F,_⟩;show#[h1,h2,G,F]
 .rintro⟨h1,h2,G,F⟩;show#[trivial,h1,h2,G,F,trivial]
theorem wO{n:Int}(ok:HA ah N1)(e:N1 n^nd):(pL nd).9<=1000:=by
 have:=ok.xI _ _ e;unfold pL;split
 .show Zy _
 .omega
theorem M7{Y:vl}(A:HI H N1 ws (iD (nO N1 S1)))(B:HI H N2 Y (iD (nO N2 S2)))(ha:H a%ws)(hb:H b%Y)(l1:(iD (nO N1 S1)).9<=960)(l2:(iD (nO N2 S2)).9<=960)(ad:HA ah N1)(ab:HA ah N2):zv H 4 (.ref a) (.ref b) (decide (HK N1 S1=HK N2 S2)):=by
 let e1:(HK N1 S1).9=(iD (nO N1 S1)).9:=si ..;let e2:(HK N2 S2).9=(iD (nO N2 S2)).9:=si ..;show Lx ha hb (by rw[A.ln,e1]) (by rw[B.ln,e2]) ak ak λi u v x y h1 h2 U I=>?_;let#[p,ep,nd,t,cl,Z,rfl,q1,q2]:=A.at_ i u h1;let#[p',ac,L,t',am,n2,rfl,q3,q4]:=B.at_ i v h2;unfold HK at U I;rw[IF,ep]at U;rw[IF,ac]at I;cases U;cases I;unfold F8;rw[Z,n2];let g:uC H (zv H 2) (.ref t) (.ref t') _:=.seq true t t' _ _ [decide (p.1=p'.1),decide (pF nd.dir=pF L.dir),decide (nd.ln=L.ln),decide (pL nd=pL L)] q1 q3 (by change 4<=1000;decide) (by change 4<=1000;decide) λ_=>#[rfl,λj u v z F g2 G=>?_]
 .dsimp only;rw[<-KA];show g
 match j,F,g2,G with
 |0,F,g2,G=>cases F;cases g2;cases G;show .str _ _
 |1,F,g2,G=>cases F;cases g2;cases G;show .str _ _
 |2,F,g2,G=>cases F;cases g2;cases G;show .int _ _
 |3,F,g2,G=>cases F;cases g2;cases G;show So q2 q4 (wO ad Z) (wO ab n2)
 |j+4,F,g2,G=>cases F
def P4(L:Fz N1 S1)(U:Fz N2 S2)(h:HK N1 S1=HK N2 S2):n9 N1 S1 N2 S2:=by
 let l:=Ur YL h;unfold HK at l h;rw[si,si]at l;show#[l,λi x y nd Y h1 h2 I G=>?_];let e:((iD (nO N1 S1)).map (F8 N1))[i]?=((iD (nO N2 S2)).map (F8 N2))[i]?:=(by rw[h]);rw[IF,IF,h1,h2]at e;let e:=OR e;unfold F8 at e;rw[I,G]at e;injection e with F e;injection e with _ e;injection e with _ e;show#[F,e]
variable{q:ZX}
def Sr{U:ZX}{j L I:Int}(h:H q|||[.int i,.int j])(h':H U|||[.int L,.int I]):∃z,zv H (n+2) (.ref q) (.ref U) z/\(i=L->j=I->z):=by
 show#[_,.seq true q U _ _ [decide (i=L),decide (j=I)] h h' (by change 2<=1000;decide) (by change 2<=1000;decide) λ_=>#[rfl,λk u v z F g2 G=>?_],λY Z=>by rw[Ja Y,Ja Z];rfl]
 match k,F,g2,G with
 |0,F,g2,G=>cases F;cases g2;cases G;show .int _ _
 |1,F,g2,G=>cases F;cases g2;cases G;show .int _ _
 |k+2,F,g2,G=>cases F
abbrev Um:Yv:=top 95
inductive F0(M1 M2:b7)(C1 C2:ZX)(v:vl)(H:Hp)(Q:VK)(e:XK):Prop
 |mk(z1 z2:FA)(m1:M1.St)(m2:M2.St)(ah:Nat)(N1 N2:NS)(S1 S2:SS)(h1 h2:HT)(_:v=[.ref z1.a,.ref z2.a])(_:cI M1 C1 H z1 m1 ah N1 h1 0)(_:cI M2 C2 H z2 m2 ah N2 h2 0)(_:Fz N1 S1)(_:Fz N2 S2)(_:∀(b:Bool)(J:Hp),aG H J->(b=true->n9 N1 S1 N2 S2)->(N1=N2->S1=S2->b)->Q (.bl b) J)
def Vz:aA "_law_files _law_plain".1 "_law_files _law_plain".1 (ao Um):=L2.bo
variable{C1 C2:ZX}
theorem xX{M1 M2:b7}(F:bV K "_law_alike_all" "_law_alike_all" Um f fd)(ap:fI K C1)(as:fI K C2)(O1:M1.Ok P w K mg base)(I:M2.Ok P w K mg base)(am:-Df 12 "tree" (Gi M1 C1))(ad:-Df 12 "tree" (Gi M2 C2))(ar:-Md 9 C1 "free" (BU M1 C1))(aB:-Md 9 C2 "free" (BU M2 C2))(ay:-Df 4 "_law_alike" (xF 4))(aK:-Df 2 "_law_alike" (xF 2)):-aO 13 f fd "_law_files _law_plain".1 (F0 M1 M2 C1 C2):=by
 show F.dZ Vz ?_;intros;let#[Y,z2,m1,m2,ah,N1,N2,S1,S2,h1,h2,rfl,U,A2,Z1,Z,k]:=h;show#[_,%[0,hr,c,cB,d,ay,b,d,am,s,aj,ad,e,cI,d,aK,b,cA,0,ap.cl,ar,a,cA,1,as.cl,aB|9],?_];show#[0,Y,m1,ah,(0),N1,S1,h1,rfl,U,Z1,λJ6 q6 aN s6 f6 e6 t6=>?_];show#[0,z2,m2,ah,(0),N2,S2,h2,rfl,A2.same I s6,Z,λJ7 q7 aT s7 f7 e7 t7=>?_];show#[2,0,M7 (t6.same s7) t7 (s7 _ _ e6) e7 (zG Z1) (zG Z) (O1.ok U.A) (I.ok A2.A),λJ8 s8=>#[0,?_]];let L:=(s6.trans s7).trans s8;cases c:HK N1 S1=HK N2 S2
 case neg =>
  rw[ck c];show cO (k false J8 L nofun λG e2=>D9 (by rw[G,e2]) c)
 rw[Ja c];show de ?_;let ac:=U.same O1 L;let ab:=A2.same I L;let#[dx,hx]:=ac.ob;show#[0,Y.a,dx,0,hx,bq ax ax,Y,m1,ah,(0),N1,h1,rfl,ac,λJ9 q9 s9 f9 e9=>?_];let#[dy,hy]:=ab.ob;show#[0,z2.a,dy,0,s9 _ _ hy,bq ax ax,z2,m2,ah,(0),N2,h2,rfl,ab.same I s9,λzA1 qa sa fa ea=>?_];let#[b,hb,kb]:=Sr (n:=0) (sa _ _ e9) ea;show#[2,b,rfl,hb,λJb sb=>k b Jb (((L.trans s9).trans sa).trans sb) (λ_=>P4 Z1 Z c) λG e2=>kb (by rw[G]) (by rw[G])]
inductive MM(c:DA)(CX CN CF:ZX)(v:vl)(H:Hp)(Q:VK)(e:XK):Prop
 |mk(p bl l:ZX)(d:Int)(cs:JS)(bs:iu)(ah:Nat)(A:NS->Prop)(_:v=[.ref p,.ref l])(_:bg c.C H p bl d .bu false cs bs)(_:1<=ah/\ah<=252)(_:oi bs ah A)(_:Bx H l)(_:¬ fS p bl cs l)
  (_:∀(J:Hp)(z:FA)(N:NS)(m:BA×BS×(Int->List Int)),A N->bD N=N->cI (j7 c CX CN N (p,bl)) CF J z m ah N [] 0->Fr (λx=>fS p bl cs x\/x=l) H (λx=>dO z m x\/x=l) J->Bx J l->¬ dO z m l->Q (.ref z.a) J):MM c CX CN CF v H Q e
inductive Xu(c:DA)(p bl l:ZX)(cs:JS)(ah:Nat)(A:NS->Prop)(H H':Hp):Prop
 |mk (d:Int) (jC:JS) (bs:iu) (_:bg c.C H' p bl d .bu false jC bs) (_:oi bs ah A) (_:Bx H' l) (_:¬ fS p bl jC l) (_:Fr (λx=>fS p bl cs x\/x=l) H (λx=>fS p bl jC x\/x=l) H'):Xu c p bl l cs ah A H H'
inductive Xs(c:DA)(p bl l:ZX)(cs:JS)(ah:Nat)(A:NS->Prop)(H H':Hp):Prop
 |mk (d:Int) (uf:V) (fa:Bool) (jC:JS) (bs:iu) (_:bg c.C H' p bl d uf fa jC bs) (_:oi bs ah A) (_:Bx H' l) (_:¬ fS p bl jC l) (_:Fr (λx=>fS p bl cs x\/x=l) H (λx=>fS p bl jC x\/x=l) H'):Xs c p bl l cs ah A H H'
def lO{D:Ends}{t r:TS}(Pr:St->Hp->Prop)(h:∀σ H,Pr σ H->r D σ H)(mk:∀F:St->Hp->Prop,(∀σ H,Pr σ H->F σ H)->t { D with nx:=F } σ H):kJ t r D σ H:=mk (r D) h
abbrev Ub:Yv:=top 94
variable{C p l:ZX}{I:V}
def Gu{d:Int}{G:Bool}(D:bg C H p bl d I G cs bs)(o:Q5 (· = l) H J)(n:¬ fS p bl cs l)(b:Bx H l):bg C J p bl d I G cs bs:=D.off o (λz=>n (.inl z.6)) (λz=>n (.inr (.inl z.6))) λa ns r z=>by
 let#[v,e]:=b;let#[F,L]:=r;rw[z,e]at F;let e:=Ur YL (HO.lst.inj (OR F));rwa[si,L]at e
def Se:aA "_law_disk _law_left_here _law_turn".1 "_law_disk _law_left_here".1 (ao Ub):=L2.bo
theorem zy(F:bV K "_law_mounted" "_law_mounted" Ub f fd)(T:vA K mg X)(TC:Txt K mg c.C)(aK:mg "Fallen" = some (.ref CX))(hX:BK K (.ref CX) (.ref CX)^true)(ay:-Df 1 "_law_digit" yi)(aY:-Md 1 c.C "fall" (y9 c.C))(aB:-Md 1 c.C "rise" (lS c.C))(a0:Tz P w K mg base 1 c.C "rise" (lS c.C))(as:!Df 9 "mount" (HS c CX CN CF)):-aO 10 f fd "_law_disk _law_left_here".1 (MM c CX CN CF):=by
 show F.dZ Se ?_;intros;let#[p,bl,l,d,cs,bs,ah,A,rfl,D,ht,Te,bx,nl,k]:=h;show#[_,%[Se,hr,bf,bD,aF,y,2,h,an,w,d,ay,z,aF,r,f,M,E,0,b4,aY,aj,ay,z,aF,f,c6,fill,b1,rfl,aK,av,m,as,s,(λe=>(aw (a9 (UE (pv 0) TC.cl a0 (hr.hand e |>.mono az))))),l,cA,0,b4,aB,c,dz,as,s|9],?_]
 let ac:∀{m:Str}{d:Int}{uf:V}{fa:Bool},¬ m = "fallen" -> ¬ m = "until_fall" -> ¬ m = "done" -> ¬ m = "blocks" -> (eX bl d uf fa).lookup m=none:=λh1 h2 h3 h4=>eQ _ _ _ _ h1 h2 h3 h4;let lf:∀{H' J':Hp}{Y:JS},Fr (λx=>fS p bl cs x\/x=l) H (λx=>fS p bl Y x\/x=l) H'->Lf l H' J'->Fr (λx=>fS p bl cs x\/x=l) H (λx=>fS p bl Y x\/x=l) J':=λa b=>a.trans #[b.off.mono λ_=>.inr,122];let ad:∀{H' J':Hp}{Y:JS},Fr (λx=>fS p bl cs x\/x=l) H (λx=>fS p bl Y x\/x=l) H'->Q5 (· = p) H' J'->Fr (λx=>fS p bl cs x\/x=l) H (λx=>fS p bl Y x\/x=l) J':=λa b=>a.trans #[b.mono λ_ q=>.inl (.inl q),122];let am:∀{H' J':Hp}{Y:JS},Bx H' l->¬ fS p bl Y l->Q5 (· = p) H' J'->Bx J' l:=λ⟨v,e⟩ n o=>#[v,o _ _ e λz=>n (.inl z)];show#[(2),rfl,az,az,?_];show gc (lo:=0) (n:=2) (λ_ σ H'=>∃v2:Option V,σ=#v[.ref p,.ref l,v2]/\Xu c p bl l cs ah A H H') #[0,d,cs,bs,D,Te,bx,nl,Fr.refl] ?_ ?_
 .rintro i σ H' hi ⟨v2,rfl,d1,L,ab,D1,T1,b1,G,f1⟩;show#[0,l,(3),rfl,b1,az,az,λr2 J2 a2 c2 F2=>#[11]];let D2:=Gu D1 F2.off G b1;let f2:=lf f1 F2;show fH (λ_=>?_) (λ_=>#[0,d1,L,ab,D2,T1,F2.bx,G,f2]);let#[a5,h2]:=D2.ob;show#[0,p,a5,0,h2,ac ax ax ax ax,0,l,(30),rfl,F2.bx,az,az,λr3 J3 a3 c3 F3=>?_];let D3:=Gu D2 F3.off G F2.bx;show#[p,bl,d1,.bu,false,L,ab,r3,rfl,D3,λJ4 D4 o4=>?_];let f4:=ad (lf f2 F3) o4;let b4:=am F3.bx G o4;let aX:jI (.int r3):=.inr #[r3,rfl];dsimp only;show lO (λσ H'=>σ=#v[.ref p,.ref l,.int (0+(i:Int))]/\Xs c p bl l cs ah A H H') ?_ ?_
  .rintro σ J5 ⟨rfl,d5,u5,fa,I,ar,U,T5,b5,Z,f5⟩;let#[ap,h5]:=U.ob;show#[0,p,ap,0,h5,ac ax ax ax ax,p,bl,2,2,0,U,λJ6 D6 o6=>#[0,2,_,D6,T5,am b5 Z o6,Z,ad f5 o6]]
  .intro r kr;show#[65,d1,.int r3,true,L,ab,ah,A,rfl,D4,#[aX,nofun],ht,T1,λJ5 z N m aN nn e1 e2 FA ow za zn zh o5=>?_,λ_ J5 T5=>#[hX,?_]]
   .let#[d5,u5,I,ar,U,T5,aT]:=FA.tell (A:=A) (aN<*mS nn);let lo:∀x,fS p bl I x->fS p bl L x\/J4 x=none:=λx q=>by
     obtain q|q|q|q:=aT x q
     .show ow x q
     .rw[q];show zh
     .rw[q];show za
     .rw[q];show zn
    let Z:¬ fS p bl I l:=λq=>(lo l q).elim G λq=>(by let#[v,e]:=b4;rwa[e]at q);show kr _ _ #[rfl,d5,u5,_,I,ar,U,T5,by let#[v,e]:=b4;show#[v,o5 _ _ e G],Z,f4.trans #[o5.mono λ_=>.inl,λx q=>?_]];obtain q|q:=q
    .show(lo x q).imp .inl id
    .show .inl (.inr q)
   .let#[d5,u5,I,ar,a6,U,T5,a4,o5]:=T5;let#[ap,h5]:=U.ob;let lo:∀x,fS p bl I x->fS p bl L x\/J4 x=none:=λx q=>by
     obtain q|q|q:=q
     .show .inl (.inl q)
     .show .inl (.inr (.inl q))
     .show(a4 x q).imp (λq=>.inr (.inr q)) id
    let Z:¬ fS p bl I l:=λq=>(lo l q).elim G λq=>(by let#[v,e]:=b4;rwa[e]at q);let b5:Bx J5 l:=(by let#[v,e]:=b4;show#[v,o5 _ _ e G]);let f5:Fr (λx=>fS p bl cs x\/x=l) H (λx=>fS p bl I x\/x=l) J5:=f4.trans #[o5.mono λ_=>.inl,λx q=>by
     obtain q|q:=q
     .show(lo x q).imp .inl id
     .show .inl (.inr q)]
    show#[0,p,ap,0,h5,ac ax ax ax ax,p,bl,2,2,0,U,λJ6 D6 o6=>kr _ _ #[rfl,2,2,_,D6,T5,am b5 Z o6,Z,ad f5 o6]]
 .rintro σ H' ⟨v2,rfl,d1,L,ab,D1,T1,b1,G,f1⟩;show#[65,d1,.bu,false,L,ab,ah,A,rfl,D1,#[.inl rfl,λ_=>rfl],ht,T1,λJ2 z N m aN nn e1 e2 FA ow za zn zh o2=>?_,λz=>by cases z];let lo:∀x,dO z m x->fS p bl L x\/H' x=none:=λx q=>by
   obtain q|q|q|q:=q
   .show ow x q
   .rw[q];show zh
   .rw[q];show za
   .rw[q];show zn
  let n2:¬ dO z m l:=λq=>(lo l q).elim G λq=>(by let#[v,e]:=b1;rwa[e]at q);show k J2 z N m aN (mS nn) FA (f1.trans #[o2.mono λ_=>.inl,λx q=>?_]) (by let#[v,e]:=b1;show#[v,o2 _ _ e G]) n2;obtain q|q:=q
  .show(lo x q).imp .inl id
  .show .inl (.inr q)
def pO(z:FA)(m:PS)(x:ZX):Prop:=ya m x\/x=z.hd\/x=z.a\/x=z.na
variable{m:PS}
theorem Oj{z:FA}(F:cI (hV CP).uW C H z m ah N h 0):cI (hV CP) C H z m ah N h 0:=#[F.ob,F.hh,F.nd,F.A,57]
variable{t:ZX}
def fw.same(a:fw H t d)(s:aG H J):fw J t d:=by
 cases d with
 |write n b cs=>let#[l,h1,h2]:=a;show#[l,s _ _ h1,s _ _ h2]
 |_=>show s _ _ a
noncomputable def dW:Dd->Str
 |.make kd _=>if kd then "make_dir" else "make"
 |.unlink _ => "unlink"
 |.rmdir _ => "remove_dir"
 |.hold _ => "hold"
 |.loose _ => "loose"
 |.link _ _ => "link"
 |.move _ _ => "move"
 |.cut _ _ => "cut"
 |.write _ _ _ => "write_at"
def Wi(a:fw H t d):∃xs,H t|||(.str (dW d)::xs):=by
 cases d with
 |write n b cs=>let#[l,h1,h2]:=a;show#[_,h1]
 |_=>show#[_,a]
def QP(h1:¬ dW d = "hold")(h2:¬ dW d = "loose")(hs:N4):zx hs d=hs:=by
 cases d with
 |hold n=>show D9 rfl h1
 |loose n=>show D9 rfl h2
 |_=>rfl
def Kd(h:dW d = "hold"):∃n,d=.hold n:=by
 cases d with
 |hold n=>show#[n,rfl]
 |make kd p=>cases kd<;>show D9 h (by dsimp only[dW];decide +kernel)
 |_=>show D9 h (by dsimp only[dW];decide +kernel)
def Gj(h:dW d = "loose"):∃n,d=.loose n:=by
 cases d with
 |loose n=>show#[n,rfl]
 |make kd p=>cases kd<;>show D9 h (by dsimp only[dW];decide +kernel)
 |_=>show D9 h (by dsimp only[dW];decide +kernel)
theorem Ni:∀{N S h hs},run ah ds^(N,S,h,hs)->hs.9<=ds.9:=by
 show kG (P:=λds=>∀{N S h hs},run ah ds^(N,S,h,hs)->hs.9<=ds.9) ?_ (λl d I=>?_) ds
 .intro N S h hs e;cases e;show BY _
 .intro N S h hs e;let#[N1,S1,h1,F,r,G,_,rfl]:=vj e;have:=I G;rw[tp,Yq];cases d with
  |hold n=>change(F++[n]).9<=_;rw[tp,Yq];lia
  |loose n=>change(F.erase n).9<=_;have:=Gb (a:=n) (l:=F);lia
  |_=>change F.9<=_;lia
abbrev j4(ts:List (ZX×Dd)):List V:=ts.map λx=>.ref x.1
abbrev p6(ts:List (ZX×Dd)):List Dd:=ts.map (·.2)
inductive MJ(CP C2:ZX)(v:vl)(H:Hp)(Q:VK)(e:XK):Prop
 |mk(ah:Nat)(dl:ZX)(ts:List (ZX×Dd))(N:NS)(S:SS)(h:HT)(hs:N4)(_:v=[.int ah,.ref dl])(_:ah<=252)(_:H dl%(j4 ts))(_:∀x∈ts,gH x.2/\fw H x.1 x.2)(_:run ah (p6 ts)^(N,S,h,hs))(_:ts.9+hs.9<=5000)
  (_:∀(J:Hp)(z:FA)(m:PS)(q lt:ZX)(Iz:List (ZX×Dd)),aG H J->cI (hV CP) C2 J z m ah (bD N) [] 0->(∀x,pO z m x->H x=none)->J q|||[.ref z.a,.ref lt]->H q=none->H lt=none->gk (pO z m) J (λH'=>H' lt%(j4 Iz))->(∀x∈Iz,gH x.2/\(gk (λy=>pO z m y\/y=lt) J λH'=>fw H' x.1 x.2)/\(x∈ts\/(H x.1=none/\∃n,x.2=.loose n)))->run ah (p6 Iz)^(bD N,S,[],[])->Iz.9=ts.9+hs.9->Q (.ref q) J):MJ CP C2 v H Q e
inductive Tq(CP C2:ZX)(H:Hp)(z:FA)(hl:ZX)(ah:Nat)(ds:List Dd)(H':Hp):Prop
 |mk (m:PS) (N:NS) (S:SS) (h:HT) (hs:N4) (_:run ah ds^(N,S,h,hs)) (_:cI (hV CP) C2 H' z m ah N h 0) (_:aG H H') (_:∀x,pO z m x->H x=none) (_:gk (pO z m) H' λH'=>H' hl%hs.17):Tq CP C2 H z hl ah ds H'
inductive T8(CP C2:ZX)(H:Hp)(z:FA)(hl lt:ZX)(ah:Nat)(ts:List (ZX×Dd))(N:NS)(S:SS)(hs:N4)(j:Nat)(H':Hp):Prop
 |mk (m:PS) (Nj:NS) (hj:HT) (nw:List (ZX×Dd)) (_:run ah (p6 (ts++nw))^(Nj,S,hj,hs.drop j)) (_:bD Nj=bD N) (_:cI (hV CP) C2 H' z m ah Nj hj 0) (_:aG H H') (_:∀x,pO z m x->H x=none) (_:gk (pO z m) H' λH'=>H' hl%hs.17) (_:gk (pO z m) H' λH'=>H' lt%(j4 (ts++nw))) (_:nw.9=j) (_:∀x∈nw,gH x.2/\(gk (λy=>pO z m y\/y=lt) H' λH'=>fw H' x.1 x.2)/\H x.1=none/\∃n,x.2=.loose n):T8 CP C2 H z hl lt ah ts N S hs j H'
abbrev T7:Yv:=top 93
variable{i:Nat}
def gn{k:St->Hp->Prop}(h:k (σ.set i (some v)) H):iZ i v σ H k:=h
variable{J':Hp}
def LM{z:FA}{m':PS}(s:aG H H')(fr:∀x,pO z m x->H x=none)(st:Fr (pO z m) H' (pO z m') J'):aG H J'/\∀x,pO z m' x->H x=none:=#[λx o e=>st.off x o (s _ _ e) λq=>(e*>fr x q),λx q=>(st.own x q).elim (fr x) (aR s)]
def BP:aA "_law_room _law_deeds _law_plain _law_holds _law_deed_here _law_later _law_node_here".1 "_law_room _law_deeds".1 (ao T7):=L2.bo
variable{dP:C6}
theorem zk(F:bV K "_law_rebuilt" "_law_rebuilt" T7 f fd)(T:vA K mg X)(TF:fI K C2)(O:(hV CP).Ok P w K mg base)(bK:-Df 14 "_law_told" (yB (hV CP) C2 X))(bc:!Md 9 C2 "loose" (Hm (hV CP) C2 X))
  (bR:Mk K C2 fP) (bm:-aO 3 fP dP "self blocks".1 (Kn CP C2)) (bY:mg "PlainFiles" = some (.ref C2)) (bN:Nl K dP "self blocks".1 []):-aO 15 f fd "_law_room _law_deeds".1 (MJ CP C2):=by
 show F.dZ BP ?_;intros;let#[ah,dl,ts,N,S,h,hs,rfl,ht,hd,ok,R,ln,k]:=h;let hsz:yr=16777216:=HC;show#[_,%[BP,hr,aH,bP,bR,bm,da,bY,bN,s,ba,bA,bf,bo,1,y,4,f,M,d,bK,b,2,az,D,w,bh,4,O,l,bg,ZK,ZL,jo,3,a,bh,4,h,an,w,bh,4,O,l,bg,acK,PySem.F.type_list_remove,Co,3,a,bh,4,ah,5,bI,e,bf,bo,3,y,6,f,M,bg,ZK,ZL,jo,5,a,aA,b,aE,a,6,l,dx,2,bc,a,6,c,aA,b,2,a,5|9],?_]
 show#[0,λpa dy f3 f4 bB=>?_];let s5:aG H (QZ (QZ H dy (.own pa)) pa (.ins C2 dy [])):=(aj f4).trans (aj (f3<*au (oR bB)));show#[pa,dy,ah,45,ht,λH6 z m za F2 ow zn zh o6=>#[3]];subst za;let aT:aG H H6:=λb o e=>o6 b o (s5 _ _ e) λq=>(e*>[q,f3]);let a3:∀x,pO z m x->H x=none:=λx q=>by
  obtain q|q|q|q:=q
  .show aR s5 (ow x q)
  .rw[q];show aR s5 zh
  .rw[q];show f3
  .rw[q];show aR s5 zn
 show#[eW,λI fh=>?_];let bi:H I=none:=aR aT fh;let nh:¬ pO z m I:=λq=>F2.al O (show FO (hV CP) z m I from q) fh;let I0:Tq CP C2 H z I ah [] (QZ H6 I (.lst [])):=#[m,N0,2,0,F2.same O (aj fh),aT.trans (aj fh),a3,gk.of ag nh];show#[0,dl,rfl,#[_,bh.of ((aT.trans (aj fh)) _ _ hd)],?_];clear F2 ow o6 a3;generalize QZ H6 I (.lst [])=H7 at *;show fL (K:=K) (a:=dl) (xs:=j4 ts) (λi σ H'=>∃v4 v5 v6:Option V,σ=#v[.int (ah:Int),.ref dl,.ref z.a,.ref I,v4,v5,v6]/\Tq CP C2 H z I ah (p6 (ts.take i)) H') #[2,0,I0] ?_ ?_ ?_
 .rintro i σ H' _ ⟨_,_,_,_,m,N,S,h,hs,_,_,s,_⟩;show bh.of (s _ _ hd)
 .rintro i x σ H' hx ⟨v4,v5,v6,rfl,m,N1,S1,h1,ab,R1,F1,s1,ap,ac⟩;rw[IF]at hx;let#[y,ey,rfl]:=NC.mp hx;let my:=Yk ey;let#[oy,ay]:=ok y my;let tk:p6 (ts.take (i+1))=p6 (ts.take i)++[y.2]:=(by unfold p6;rw[Y9,ey,DD];rfl);obtain⟨w8,e8⟩:∃w8,run ah (p6 (ts.take (i+1)))^w8:=by
   have:=R;rw[show p6 ts=p6 (ts.take (i+1))++p6 (ts.drop (i+1))by unfold p6;rw[<-DD,YM]]at this;show Ka this
  rw[tk]at e8 ⊢;let#[N2,S2,h2,b2,r2,e2,q2,e3]:=vj e8;rwa[R1]at e2;let#[N',S',h',bx]:=w8;let rn:=oa (λd hd=>by
   let#[z,hz,rfl]:=Yj.mp hd;show(ok z (Zf hz)).1) R1
  let e3:bx=zx ab y.2:=e3;show gn ?_;show lO (λσ Y=>σ=#v[.int (ah:Int),.ref dl,.ref z.a,.ref I,.ref y.1,v5,v6]/\∃m2:PS,cI (hV CP) C2 Y z m2 ah N' h' 0/\Fr (pO z m) H' (pO z m2) Y) ?_ ?_
  .rintro σ Y ⟨rfl,m2,F2,fs⟩;let#[s2,bd]:=LM s1 ap fs;let aK:=ac.step fs;let ad:=ay.same s2;let#[xs,hw]:=Wi ad;let eh:=aK.now;let keep:∀{l:N4}{J3:Hp},Q5 (· = I) Y J3->J3 I%l.17->l=zx ab y.2->Tq CP C2 H z I ah (p6 (ts.take i)++[y.2]) J3:=λ{l J3} o e el=>by
    show#[m2,N',S',h',l,by rw[el, <-e3];show e8,F2.fr O (A':=λx=>x=I) #[o,122] (λx q z=>aK.no (q▸z)),λx u e=>o x u (s2 _ _ e) λq=>?_,bd,gk.of e aK.no];rwa[q,bi]at e
   let l1:ab.9<=5000:=by
    have:=Ni R1;rw[si,Nx]at this;lia
   cases c1:dW y.2 = "hold"
   .let#[n,en]:=Kd c1;let ht:Y y.1|||[.str "hold",.int n]:=(by rw[en]at ad;show ad);show#[0,y.1,_,(0),.str "hold",107,118,11];rw[Ja rfl];show de #[0,.inl #[5,bh.of eh],0,y.1,_,(1),.int n,107,119,I,7,eh,129,?_];let e4:QZ Y I (.lst (ab.map V.int++[.int n])) I%((ab++[n]).map V.int):=(by rw[ag,DD];rfl);let o4:Q5 (· = I) Y (QZ Y I (.lst (ab.map V.int++[.int n]))):=λx u e q=>(e<*au q);let bW:=o4 _ _ ht λq=>(ht*>[q,eh]);generalize QZ Y I (.lst (ab.map V.int++[.int n]))=L at *;show#[0,y.1,_,(0),.str "hold",1,eM.of bW,118,11];rw[ck (show ¬ V.str "hold" = V.str "loose" from λz=>D9 (V.str.inj z) ax)];show cO #[2,0,keep o4 e4 (by rw[en];rfl)]
   .show#[0,y.1,_,(0),.str (dW y.2),1,eM.of hw,118,11];rw[ck (show ¬ V.str (dW y.2)=V.str "hold" from λz=>c1 (V.str.inj z))];show cO ?_;cases c2:dW y.2 = "loose"
    .let#[n,en]:=Gj c2;let ht:Y y.1|||[.str "loose",.int n]:=(by rw[en]at ad;show ad);show#[0,y.1,_,(0),.str "loose",107,118,11];rw[Ja rfl];let mem:n∈ab:=by
      rw[en]at q2;let#[x,q2,_]:=bC q2;let#[nd,v,_,lv,_,_]:=gM q2;let a:=rn.H n;rw[lv]at a;let a:(ab.count n:Int)=v:=a;have:=(rn.Z.us n v lv).1;show Ra.mp ak
     show de #[0,.inl #[5,bh.of eh],0,y.1,_,(1),.int n,107,119,I,ab,n,1,eh,mem,?_];show#[2,0,keep (λx u e q=>e<*au q) ag (by rw[en];rfl)]
    .show#[0,y.1,_,(0),.str (dW y.2),1,eM.of hw,118,11];rw[ck (show ¬ V.str (dW y.2)=V.str "loose" from λz=>c2 (V.str.inj z))];show cO #[2,0,keep (λ_ _ e _=>e) eh (QP c1 c2 ab).6]
  .intro r8 kr;show#[0,0,z,m,ah,N1,S1,h1,y.1,y.2,rfl,F1,rn.G.F,ay.same s1,oy,λe he=>(he*>q2),λr b1 b4 b3 he=>#[λY m2 q F2 bz fq eq=>kr _ _ #[rfl,m2,?_,FO.step bz],λY J3 q fl=>by let#[_,_,_,fl]:=fl;show fl.elim]];rwa[q2]at he;show Oj F2
 .rintro σ H' ⟨v4,v5,v6,rfl,m,N1,S1,h1,ab,R1,F1,s1,ap,ac⟩;rwa[si,Zo,R]at R1;show#[0,dl,0,.inl (bh.of (s1 _ _ hd)),λlt aB=>?_];let s2:=aj (X:=.lst (j4 ts)) aB;let be:¬ pO z m lt:=λq=>F1.al O (show FO (hV CP) z m lt from q) aB;let ne:¬ I=lt:=λq=>(by have:=ac.now;rwa[q,aB]at this);let I0:T8 CP C2 H z I lt ah ts N S hs 0 (QZ H' lt (.lst (j4 ts))):=#[m,N,h,[],R<*Yw,rfl,F1.same O s2,s1.trans s2,ap,ac.same s2,gk.of ag be<*Yw,rfl,λx hx=>by cases hx];let aN:H lt=none:=aR s1 aB;let bb:QZ H' lt (.lst (j4 ts)) I%hs.17:=s2 _ _ ac.now;clear ac F1 ap;generalize QZ H' lt (.lst (j4 ts))=Y at *;show#[0,I,rfl,#[_,bh.of bb],?_];show fL (K:=K) (a:=I) (xs:=hs.map V.int) (λj σ H'=>∃v6:Option V,σ=#v[.int (ah:Int),.ref dl,.ref z.a,.ref I,v4,.ref lt,v6]/\T8 CP C2 H z I lt ah ts N S hs j H') #[0,I0] ?_ ?_ ?_
  .rintro j σ J3 _ ⟨_,_,m,Nj,hj,nw,_,_,_,_,_,sh,_⟩;show bh.of sh.now
  .rintro j x σ J3 hx ⟨v6,rfl,m,Nj,hj,nw,Rj,ej,Fj,sj,ar,a6,as,lj,nj⟩;rw[IF]at hx;let#[n,en,rfl]:=NC.mp hx;let jl:=(wh.mp en).1;let dr:hs.drop j=n::hs.drop (j+1):=by
    rw[ZN jl];rw[vu jl]at en;rw[OR en]
   let aX:∀d∈p6 (ts++nw),gH d:=λd hd=>by
    let#[y,U,rfl]:=Yj.mp hd;obtain U|U:=Yh.mp U
    .show(ok y U).1
    .show(nj y U).1
   let rn:=oa aX Rj;rw[dr]at Rj;let mem:n∈hs.drop j:=(Yn<*dr);let#[N',h',lo]:=Hs.some rn.Z rn.H mem;let sn:sm n:=by
    let#[nd,v,e,_]:=gM lo;have:=rn.G.F.so _ _ e;change n.12<=_;lia
   let dn:vP ah Nj S hj (.loose n)=.ok (.bu,N',S,h'):=dI lo;show gn ?_;show lO (λσ L=>σ=#v[.int (ah:Int),.ref dl,.ref z.a,.ref I,v4,.ref lt,.int n]/\∃t:ZX,H t=none/\cI (hV CP) C2 L z m ah Nj hj 0/\aG H L/\gk (pO z m) L (λH'=>H' I%hs.17)/\gk (pO z m) L (λH'=>H' lt%(j4 (ts++(nw++[(t,.loose n)]))))/\∀x∈nw++[(t,.loose n)],gH x.2/\(gk (λy=>pO z m y\/y=lt) L λH'=>fw H' x.1 x.2)/\H x.1=none/\∃n,x.2=.loose n) ?_ ?_
   .rintro σ L ⟨rfl,t,ft,F4,s4,am,bv,n4⟩;let#[dy,U]:=F4.ob;show#[12,U,9,z,m,ah,Nj,hj,n,rfl,F4,sn,λe he=>(he*>lo),λN2 h2 he=>#[λJ5 m5 F5 a7=>?_,λJ5 fl=>by let#[_,_,_,fl]:=fl;show fl.elim]];rwa[lo]at he;let fs:Fr (pO z m) L (pO z m5) J5:=FO.step a7;let#[s5,bn]:=LM s4 ar fs;show#[0,m5,N',h',nw++[(t,.loose n)],?_,(Cu lo).trans ej,Oj F5,s5,bn,am.step fs,bv.step fs,by rw[tp,lj];rfl,λx hx=>#[(n4 x hx).1,(n4 x hx).2.1.step fs.or,(n4 x hx).2.2]];unfold p6;rw[<-YA,DD];have:=yj Rj dn;rw[show zx (n::hs.drop (j+1)) (.loose n)=hs.drop (j+1)from List.erase_cons_head ..]at this;show this
   .intro r kr;let el:=as.now;show#[0,.inl #[5,bh.of el],0,eW,λt ft=>?_];let#[s4,e4]:=gI (X:=.tup [.str "loose",.int n]) ft;generalize QZ _ _ (.tup [.str "loose",.int n])=L at *;let b0:=s4 _ _ el;let F4:=Fj.same O s4;let nt:¬ pO z m t:=λq=>Fj.al O (show FO (hV CP) z m t from q) ft;let a0:¬ t=lt:=λq=>(ft*>[q,el]);let am:=a6.same s4;let aY:∀x∈nw,gH x.2/\(gk (λy=>pO z m y\/y=lt) L λH'=>fw H' x.1 x.2)/\H x.1=none/\∃n,x.2=.loose n:=λx hx=>#[(nj x hx).1,(nj x hx).2.1.same s4,(nj x hx).2.2];let bF:=sj.trans s4;let a4:H t=none:=aR sj ft;let a5:¬ pO z m lt:=as.no;show#[lt,7,b0,4]
    .rw[si,tp,lj];lia
    let o5:Q5 (· = lt) L (QZ L lt (.lst (j4 (ts++nw)++[.ref t]))):=λx u e q=>(e<*au q);let f5:Fr (λy=>pO z m y\/y=lt) L (λy=>pO z m y\/y=lt) (QZ L lt (.lst (j4 (ts++nw)++[.ref t]))):=#[o5.mono λ_=>.inr,122];show kr _ _ #[rfl,t,a4,F4.fr O (A':=λx=>x=lt) #[o5,122] (λx q z=>a5 (q▸z)),λx u e=>o5 x u (bF _ _ e) λq=>(e*>[q,aN]),gk.of (o5 _ _ am.now ne) am.no,gk.of ?_ a5,123]
    .rw[ag, <-YA];unfold j4;rw[DD (l₁:=ts++nw)];rfl
    .rcases Yh.mp hx with hx|hx
     .show#[(aY x hx).1,(aY x hx).2.1.step f5,(aY x hx).2.2]
     .rw[z4.mp hx];show#[sn,gk.of (o5 _ _ e4 a0) λq=>q.elim nt a0,a4,n,rfl]
  .rintro σ J3 ⟨v6,rfl,m,Nj,hj,nw,Rj,ej,Fj,sj,ar,a6,as,lj,nj⟩;rw[si]at Rj lj;rw[List.drop_length]at Rj;let aX:∀d∈p6 (ts++nw),gH d:=λd hd=>by
    let#[y,U,rfl]:=Yj.mp hd;obtain U|U:=Yh.mp U
    .show(ok y U).1
    .show(nj y U).1
   let rn:=oa aX Rj;let#[eh,en]:=Sd rn.Z rn.H;rw[en]at ej;rw[eh,ej]at Rj Fj;show#[0,0,eW,λq fq=>?_];let s5:=aj (X:=.tup [.ref z.a,.ref lt]) fq;show k _ z m q lt (ts++nw) (sj.trans s5) (Fj.same O s5) ar ag (aR sj fq) aN (as.same s5) (λx hx=>?_) Rj (by rw[tp,lj]);obtain hx|hx:=Yh.mp hx
   .show#[(ok x hx).1,λK2 o=>(ok x hx).2.same λy u e=>o y u ((sj.trans s5) _ _ e) λq=>?_,.inl hx];obtain q|q:=q
    .rw[ar y q]at e;cases e
    .rw[q,aN]at e;cases e
   .show#[(nj x hx).1,(nj x hx).2.1.same s5,.inr (nj x hx).2.2]
def SG{α:Type}(sp:α->Sp):Sp:=λvs H Q E=>∃a,sp a vs H Q E
def aO.ex{α:Type}{sp:α->Sp}{CX:pJ}{k:Nat}(h:∀a,aO P w K mg base CX k f fd ps (sp a)):aO P w K mg base CX k f fd ps (SG sp):=#[λvs H Q E ⟨a,q⟩=>(h a).len vs H Q E q,λA outer s H args us vs Q E G F I r ⟨a,q⟩=>(h a).run A outer s H args us vs Q E G F I r q]
noncomputable def wK(ah:Nat)(dl a1 a2:ZX):List (Key×V):=[(.inr "room",.int ah),(.inr "deeds",.ref dl),(.inr "files",.ref a1),(.inr "plain",.ref a2)]
end
section
variable{ah:Nat}{dl a1 a2 a:ZX}
theorem U8:jc (wK ah dl a1 a2) (.inr "room")^.int ah:=by rfl
theorem MZ:jc (wK ah dl a1 a2) (.inr "deeds")^.ref dl:=by rfl
theorem Q2:jc (wK ah dl a1 a2) (.inr "files")^.ref a1:=by rfl
theorem R6:jc (wK ah dl a1 a2) (.inr "plain")^.ref a2:=by rfl
theorem Qx:putK (wK ah dl a1 a2) (.inr "files") (.ref a)=wK ah dl a a2:=by rfl
theorem Qw:putK (wK ah dl a1 a2) (.inr "plain") (.ref a)=wK ah dl a1 a:=by rfl
theorem RE:putK (wK ah dl a1 a2) (.inr "deeds") (.ref a)=wK ah a a1 a2:=by rfl
end
mutual
structure Wg where
 z1:FA
 z2:FA
 m1:BA×BS×(Int->List Int)
 m2:PS
 dl:ZX
 ts:List (ZX×Dd)
 N:NS
 S:SS
 h:HT
 hs:List Int
def Wg.fo(g:Wg)(x:ZX):Prop:=dO g.z1 g.m1 x\/pO g.z2 g.m2 x
def Wg.ow(g:Wg)(wa l x:ZX):Prop:=g.fo x\/x=wa\/x=g.dl\/x=l
structure WA(c:DA)(CX CN CP C1 C2 p bl wa l:ZX)(ah b:Nat)(g:Wg)(H:Hp):Prop where
 f1:cI (j7 c CX CN g.N (p,bl)) C1 H g.z1 g.m1 ah g.N g.h 0
 f2:cI (hV CP) C2 H g.z2 g.m2 ah g.N g.h 0
 sep:∀x,dO g.z1 g.m1 x->¬ pO g.z2 g.m2 x
 wd:H wa^^^(wK ah g.dl g.z1.a g.z2.a)
 wn:¬ g.fo wa
 dl:H g.dl%(j4 g.ts)
 dn:¬ g.fo g.dl
 bx:Bx H l
 bn:¬ g.fo l
 ds:∀x∈g.ts,gH x.2/\gk (g.ow wa l) H λH'=>fw H' x.1 x.2
 rn:run ah (p6 g.ts)^(g.N,g.S,g.h,g.hs)
 ln:g.ts.9+g.hs.9<=b
def Lr{ts:List (ZX×Dd)}(b:Bx H l)(e:H a%(j4 ts)):¬ l=a:=λz=>by
 let#[v,q]:=b;rw[z,e]at q;cases ts with
 |nil=>cases q
 |cons x r=>cases q
variable{k:nI}
def AM(b:Bx H l)(e:H a^^^k):¬ l=a:=λz=>by
 let#[v,q]:=b;rwa[z,e]at q
structure WF(c:DA)(p bl wa l:ZX)(ah b:Nat)(g:Wg)(t:ZX)(d:Dd)(N':NS)(S':SS)(cs:JS)(H:Hp):Prop where
 dk:∃n uf bs,bg c.C H p bl n uf true cs bs/\oi bs ah λM=>M=bD g.N\/M=bD N'
 to:1<=ah/\ah<=252
 wd:H wa^^^(wK ah g.dl g.z1.a g.z2.a)
 wn:¬ fS p bl cs wa
 dl:gk (λx=>fS p bl cs x\/x=l\/x=wa) H λH'=>H' g.dl%(j4 g.ts)
 bx:Bx H l
 bn:¬ fS p bl cs l
 ds:∀x∈g.ts++[(t,d)],gH x.2/\gk (λx=>fS p bl cs x\/x=l\/x=wa) H λH'=>fw H' x.1 x.2
 rn:run ah (p6 g.ts)^(g.N,g.S,g.h,g.hs)
 dp:∃r h',vP ah g.N g.S g.h d=.ok (r,N',S',h')
 ln:g.ts.9+g.hs.9<=b
 lb:b<=2000
inductive MY(c:DA)(CX CN CP C1 C2:ZX)(v:vl)(H:Hp)(Q:VK)(e:XK):Prop
 |mk(p bl wa l:ZX)(ah b:Nat)(g:Wg)(t:ZX)(d:Dd)(N':NS)(S':SS)(cs:JS)(_:v=[.ref wa,.ref p,.ref t,.ref l])(_:WF c p bl wa l ah b g t d N' S' cs H)
  (_:∀(J:Hp)(g':Wg),WA c CX CN CP C1 C2 p bl wa l ah (b+2) g' J->Fr (λx=>fS p bl cs x\/x=l\/x=wa) H (g'.ow wa l) J->Q (.bl true) J):MY c CX CN CP C1 C2 v H Q e
variable{A:eE}
def K6(a:gk A H λH'=>fw H' t d)(b:gk B H λH'=>fw H' t d):gk (λx=>A x\/B x) H λH'=>fw H' t d:=by
 cases d with
 |write n c cs =>
  let#[l,h1,h2]:=a.now;let tl:¬ t=l:=λz=>(h1*>[z,h2]);let no:∀{C:eE},(gk C H λH'=>fw H' t (.write n c cs))->¬ C t/\¬ C l:=λ{C} s=>by
   let cut:∀{x:ZX},C x->fw (λy=>if y=x then none else H y) t (.write n c cs):=λ{x} hx=>s _ λy u e q=>by
    change(if y=x then none else H y)=_;rw[vr (show ¬ y=x from λz=>q (z▸hx))];show e
   show#[λq=>?_,λq=>?_]
   .let#[I,F,_]:=cut q;let F:(if t=t then none else H t)=_:=F;rwa[C' rfl]at F
   .let#[I,F,G]:=cut q;let F:(if t=l then none else H t)=_:=F;let G:(if I=l then none else H I)=_:=G;rwa[vr tl,h1]at F;rwa[C' rfl]at G
  let#[a1,a2]:=no a;let#[L,U]:=no b;show λH' o=>#[l,o _ _ h1 λq=>q.elim a1 L,o _ _ h2 λq=>q.elim a2 U]
 |_=>show gk.of a.now λq=>q.elim a.no b.no
variable{n:Int}
def M8(a:fw H t (.loose n))(b:¬ A t):gk A H λH'=>fw H' t (.loose n):=gk.of a b
abbrev Wb:Yv:=top 96
def KY{x:Str}(e:H a^^^k)(q:jc k (.inr x)^v):gj H a (.str x) (some v):=by
 have:=gj.k (k:=.inr x) e;rw[q]at this;show this
structure Qs(c:DA)(CX CN C1 p bl wa l:ZX)(ah:Nat)(g:Wg)(t:ZX)(d:Dd)(N1:NS)(z:FA)(m:BA×BS×(Int->List Int))(cs:JS)(dl2 q0:ZX)(H H':Hp):Prop where
 f1:cI (j7 c CX CN N1 (p,bl)) C1 H' z m ah N1 [] 0
 fr:Fr (λx=>fS p bl cs x\/x=l\/x=wa) H (λx=>dO z m x\/x=l\/x=wa) H'
 wd:H' wa^^^(wK ah g.dl g.z1.a g.z2.a)
 wn:¬ dO z m wa
 bx:Bx H' l
 bn:¬ dO z m l
 d1:H' g.dl%(j4 g.ts)
 d2:H' dl2%(j4 (g.ts++[(t,d)]))
 q0:H' q0% [.ref g.dl,.ref dl2]
 ds:∀x∈g.ts++[(t,d)],gH x.2/\gk (λx=>dO z m x\/x=l\/x=wa) H' λH'=>fw H' x.1 x.2
variable{wa:ZX}{g:Wg}
theorem Qs.same{z:FA}{m:BA×BS×(Int->List Int)}{G F:ZX}(O:(j7 c CX CN N1 (p,bl)).Ok P w K mg base)(A:Qs c CX CN C1 p bl wa l ah g t d N1 z m cs G F H H')(s:aG H' J'):Qs c CX CN C1 p bl wa l ah g t d N1 z m cs G F H J' :=
 #[A.f1.same O s,A.fr.post s,s _ _ A.wd,A.wn,by let#[v,e]:=A.bx;show#[v,s _ _ e],A.bn,s _ _ A.d1,s _ _ A.d2,s _ _ A.q0,λx hx=>#[(A.ds x hx).1,(A.ds x hx).2.same s]]
def Fq:aA "_law_world _law_disk _law_deed_here _law_left_here _law_files _law_deeds _law_plain _law_later".1 "_law_world _law_disk _law_deed_here _law_left_here".1 (ao Wb):=L2.bo
theorem va(F:bV K "_law_fallen" "_law_fallen" Wb f fd)(TC:Txt K mg c.C)(O1:∀N pp,(j7 c CX CN N pp).Ok P w K mg base)(O2:(hV CP).Ok P w K mg base)(a7:-Md 1 c.C "rise" (lS c.C))(a5:-Df 10 "_law_mounted" (MM c CX CN C1))(bc:-Df 15 "_law_rebuilt" (MJ CP C2))(be:-Df 13 "_law_alike_all" (SG λa:NS×ZX×ZX=>F0 (j7 c CX CN a.1 a.2) (hV CP) C1 C2)):-aO 16 f fd "_law_world _law_disk _law_deed_here _law_left_here".1 (MY c CX CN CP C1 C2):=by
 show F.dZ Fq ?_;intros;let#[p,bl,wa,l,ah,b,g,t,d,N',S',cs,rfl,W,k]:=h;let hsz:yr=16777216:=HC;let#[n,uf,bs,D,Te]:=W.dk;let#[dx,hp]:=D.ob;let rn:=oa (λy Y=>by
  let#[x,hx,rfl]:=Yj.mp Y;show(W.ds x (YC _ hx)).1) W.rn
 let od:gH d:=(W.ds (t,d) (DO _ (z4.mpr rfl))).1;let#[r,h',dp]:=W.dp;let#[G',tq]:=Sh rn.G od dp;let R2:run ah (p6 (g.ts++[(t,d)]))^(N',S',h',zx g.hs d):=by
  unfold p6;rw[DD];show yj W.rn dp
 let l2:(zx g.hs d).9<=g.hs.9+1:=by
  cases d with
  |hold n=>change(g.hs++[n]).9<=_;rw[tp,Yq];lia
  |loose n=>change(g.hs.erase n).9<=_;have:=Gb (a:=n) (l:=g.hs);lia
  |_=>show uO _
 let bK:=W.ln;let lb:=W.lb;show#[_,%[Fq,hr,f,M,cA,1,b4,a7,ah,4,d,a5,z,H',bf,bo,aQ,ax,K,bQ,a,B,ax,K,bQ,x,g,y,5,f,cU,d,bc,b,ax,K,bQ,a,5,dl,ct,y,6,ct,y,7,qq,h,an,bH,d,be,b,4,a,6,f,bs,K,bQ,4,f,bs,K,bQ,6,f,bs,K,bQ,7,c,jq,c,jq|9],?_]
 show#[63,hp,20,p,bl,n,uf,true,83,D,λH1 D1 o1=>?_];let f1:Fr (λx=>fS p bl cs x\/x=l\/x=wa) H (λx=>fS p bl cs x\/x=l\/x=wa) H1:=#[o1.mono λ_ q=>.inl (.inl q),122];let b1:Bx H1 l:=(by let#[v,e]:=W.bx;show#[v,o1 _ _ e λz=>W.bn (.inl z)]);show#[0,65,l,n,cs,bs,ah,0,D1,W.to,Te,b1,W.bn,λH2 z N1 m aN eN F2 f2 b2 n2=>?_];let a0:Fr (λx=>fS p bl cs x\/x=l\/x=wa) H1 (λx=>dO z m x\/x=l\/x=wa) H2:=f2.mono (λx q=>q.imp id .inl) λx q=>by
  obtain q|q|q:=q
  .show .inl (.inl q)
  .show .inl (.inr q)
  .show .inr (.inr (.inr q))
 let ad:=f1.trans a0;let aY:¬ wa=l:=oR (AM W.bx W.wd);let ap:H2 wa^^^(wK ah g.dl g.z1.a g.z2.a):=f2.off _ _ (o1 _ _ W.wd λq=>W.wn (.inl q)) λq=>q.elim W.wn aY;let bz:¬ dO z m wa:=λq=>by
  rcases f2.own wa (.inl q)with q|q
  .show q.elim W.wn aY
  .rw[o1 _ _ W.wd λq=>W.wn (.inl q)]at q;cases q
 let ay:=W.dl.step ad;let ac:∀x∈g.ts++[(t,d)],gH x.2/\gk (λx=>dO z m x\/x=l\/x=wa) H2 λH'=>fw H' x.1 x.2:=λx hx=>#[132,(W.ds x hx).2.step ad];clear f1 f2 a0 b1 D1 o1;show#[104,KY ap MZ,104,KY ap MZ,0,eW,λu0 bd=>?_];let U:=aj (X:=.lst [.ref t]) bd;show#[g.dl,u0,7,U _ _ ay.now,ag,?_,λd2 bB=>#[eW,λq0 a4=>?_]]
 .rw[si];change g.ts.9+1<=_;lia
 let s4:=aj (X:=.lst (j4 g.ts++[.ref t])) bB;let#[s5,e5]:=gI (X:=.lst [.ref g.dl,.ref d2]) a4;generalize QZ _ _ (.lst [.ref g.dl,.ref d2])=zC0 at *;let ab:=(U.trans s4).trans s5;let I0:Qs c CX CN C1 p bl wa l ah g t d N1 z m cs d2 q0 H _:=#[F2.same (O1 _ _) ab,ad.post ab,ab _ _ ap,bz,by let#[v,e]:=b2;show#[v,ab _ _ e],n2,ab _ _ ay.now,s5 _ _ (by rw[ag];unfold j4;rw[DD];rfl),e5,λx hx=>#[(ac x hx).1,(ac x hx).2.same ab]];clear F2 ad ap ay ac ab s5 s4 U;show#[q0,rfl,#[_,bh.of I0.q0],?_];let a6:=W.to;show fL (K:=K) (a:=q0) (xs:=[V.ref g.dl,V.ref d2]) (λi σ H'=>∃v5 v6 v7:Option V,σ=#v[.ref wa,.ref p,.ref t,.ref l,.ref z.a,v5,v6,v7]/\Qs c CX CN C1 p bl wa l ah g t d N1 z m cs d2 q0 H H'/\i<2/\(1<=i->N1=bD N')) #[2,0,I0,az,λq=>D9 q az] ?_ ?_ ?_
 .rintro i σ H' _ ⟨_,_,_,_,I,_⟩;show bh.of I.q0
 .rintro i x σ H' hx ⟨v5,v6,v7,rfl,I,_,hi⟩;obtain⟨dx,tx,Z,Sx,bm,ar,S1,rfl,ed,sub,Rx,lx,Z1,Gx,kT,kF⟩:∃dx tx Z Sx hx ar S1,x=.ref dx/\H' dx%(j4 tx)/\(∀y∈tx,y∈g.ts++[(t,d)])/\run ah (p6 tx)^(Z,Sx,hx,ar)/\tx.9+ar.9<=b+2/\Fz N1 S1/\Gz (bD Z) Sx/\(n9 N1 S1 (bD Z) Sx->N1=bD Z)/\(¬ (N1=bD Z/\S1=Sx)->i+1<2/\N1=bD N'):=by
   match i,hx,hi with
   |0,hx,_ =>
    cases hx;cases e:N1=bD g.N
    .show#[35,g.S,rfl,I.d1,λy Y=>YC _ Y,W.rn,ak,rn.G.bD.F<*e,rn.G.bD,λ_=>e,λq=>D9 #[e,rfl] q]
    .let e':=aN.resolve_left e;show#[35,S',rfl,I.d1,λy Y=>YC _ Y,W.rn,ak,G'.bD.F<*e',rn.G.bD,λT=>by rw[e']at T ⊢;show(tq T.6).1,λ_=>#[az,e']]
   |1,hx,hi =>
    cases hx;let e':=hi (BY 1);show#[d2,_,N',S',h',zx g.hs d,S',rfl,I.d2,λy Y=>Y,R2,by rw[tp,Yq];lia,G'.bD.F<*e',G'.bD,λ_=>e',λq=>D9 #[e',rfl] q]
   |i+2,hx,_=>cases hx
  show gn ?_;show#[104,KY I.wd U8,0,ah,dx,tx,Z,Sx,bm,ar,rfl,a6.2,ed,λy Y=>#[(I.ds y (sub y Y)).1,(I.ds y (sub y Y)).2.now],Rx,ak,λJ2 L m2 q lt aT s2 F2 am eq fq aK aX ac R3 bN=>?_];show#[q,0,eM.of eq,5,0,gn #[_,0,gn #[3]]];let I2:=I.same (O1 _ _) s2;show#[0,0,(N1,p,bl),z,L,m,m2,ah,N1,bD Z,S1,Sx,[],[],rfl,I2.f1,F2,Z1,Gx.F,λbb J3 U k1 k2=>#[0,?_]];let I3:=I2.same (O1 _ _) U;cases bb with
  |false =>
   show cO ?_;let#[i2,e']:=kF λq=>by
    have:=k2 q.1 q.2;cases this
   show#[2,0,I3,i2,λ_=>e']
  |true =>
   show de ?_;let en:=kT (k1 rfl);let p1:=jX.k (k:=.inr "files") (v:=.ref z.a) I3.wd (by change 4<yr;lia);rw[Qx]at p1;show#[0,104,p1,?_];let p2:=jX.k (H:=QZ J3 wa (.dK (wK ah g.dl z.a g.z2.a))) (a:=wa) (k:=.inr "plain") (v:=.ref L.a) ag (by change 4<yr;lia);rw[Qw]at p2;show#[0,104,p2,?_];let p3:=jX.k (H:=QZ (QZ J3 wa (.dK (wK ah g.dl z.a g.z2.a))) wa (.dK (wK ah g.dl z.a L.a))) (a:=wa) (k:=.inr "deeds") (v:=.ref lt) ag (by change 4<yr;lia);rw[RE]at p3;show#[0,104,p3,?_];clear p1 p2 p3;let o4:Q5 (· = wa) J3 (QZ (QZ (QZ J3 wa (.dK (wK ah g.dl z.a g.z2.a))) wa (.dK (wK ah g.dl z.a L.a))) wa (.dK (wK ah lt z.a L.a))):=λx u e q=>(e<*[au q,au q,au q]);let e4:QZ (QZ (QZ J3 wa (.dK (wK ah g.dl z.a g.z2.a))) wa (.dK (wK ah g.dl z.a L.a))) wa (.dK (wK ah lt z.a L.a)) wa^^^(wK ah lt z.a L.a):=ag;generalize QZ (QZ (QZ J3 wa (.dK (wK ah g.dl z.a g.z2.a))) wa (.dK (wK ah g.dl z.a L.a))) wa (.dK (wK ah lt z.a L.a))=J4 at *;let as:H' wa≠none:=(by rw[I.wd];nofun);let a3:H' l≠none:=(by let#[v,e]:=I.bx;rw[e];nofun);let aB:∀{x},dO z m x->H' x≠none:=λ{x} q=>I.f1.al (O1 _ _) (show FO (j7 c CX CN N1 (p,bl)) z m x from q);let pw:¬ pO L m2 wa:=λq=>as (am _ q);let bF:=s2.trans U;let F3:=F2.same O2 U;let F4:=F3.fr O2 (A':=λx=>x=wa) #[o4,122] λx q z=>pw (q▸z);let G4:=I3.f1.fr (O1 _ _) (A':=λx=>x=wa) #[o4,122] λx q z=>I.wn (q▸z);let bv:=aX.same U;let bi:¬ lt=wa:=λq=>as (q▸aK);rw[en]at G4;show k J4 #[z,L,m,m2,lt,aT,bD Z,Sx,[],[]] #[G4,F4,λx a b=>aB a (am x b),e4,λq=>q.elim I.wn pw,o4 _ _ bv.now bi,λq=>q.elim (λq=>aB q aK) aX.no,?_,λq=>q.elim I.bn λq=>a3 (am _ q),123,R3,?_] ?_
   .let#[v,e]:=I3.bx;show#[v,o4 _ _ e (oR (λq=>AM I3.bx I3.wd q.6))]
   .let#[ox,sx,cx]:=ac x hx;show#[ox,?_];let big:gk (λy=>(pO L m2 y\/y=lt)\/dO z m y\/y=l\/y=wa) J3 λH'=>fw H' x.1 x.2:=by
     obtain cx|⟨cx,n,en⟩:=cx
     .show K6 (sx.same U) (I3.ds x (sub x cx)).2
     .rw[en]at sx ⊢;show K6 (sx.same U) (M8 (sx.same U).now λq=>?_);obtain q|q|q:=q
      .show aB q cx
      .show a3 (q▸cx)
      .show as (q▸cx)
    show(big.step (A':=λy=>(pO L m2 y\/y=lt)\/dO z m y\/y=l\/y=wa) #[o4.mono λ_ q=>.inr (.inr (.inr q)),122]).less λy q=>?_;rcases q with(q|q)|q|q|q
    .show .inr (.inl q)
    .show .inl (.inl q)
    .show .inr (.inr (.inr q))
    .show .inl (.inr q)
    .show .inr (.inr (.inl q))
   .change aT.9+0<=b+2;lia
   .show I.fr.trans #[((Q5.of bF).trans o4).mono λ_ q=>.inr (.inr q),λx q=>?_];rcases q with(q|q)|q|q|q
    .show .inl (.inl q)
    .show .inr (am x q)
    .show .inl (.inr (.inr q))
    .show .inr (q▸aK)
    .show .inl (.inr (.inl q))
 .rintro σ H' ⟨_,_,_,_,_,q,_⟩;show D9 q (Z8 2)
def NF{α:Type}(x:Except Er α):Prop:=¬ x=.error .fallen
end
section
variable{α β:Type}{x:Except Er α}{f:α->Except Er β}{o:Option α}{a b:Except Er β}{g:α->Except Er β}
def NB(h:NF x)(k:∀a,NF (f a)):NF (Except.casesOn (motive:=λ_=>Except Er β) x .error f):=by
 cases x with
 |error e=>show λz=>h (by cases z;rfl)
 |ok v=>show k v
def RB(h:NF a)(k:∀v,o^v->NF (g v)):NF (Option.casesOn (motive:=λ_=>Except Er β) o a g):=by
 cases o with
 |none=>show h
 |some v=>show k v rfl
def xN{c:Prop}[d:Decidable c](h:NF a)(k:NF b):NF (if c then a else b):=by
 cases d with
 |isTrue z=>show h
 |isFalse z=>show k
def Wv{l:List α}{g:α->List α->Except Er β}(h:NF a)(k:∀v r,NF (g v r)):NF (List.casesOn (motive:=λ_=>Except Er β) l a g):=by
 cases l with
 |nil=>show h
 |cons v r=>show k v r
def Vl{f:α->β}(h:NF x):NF (x.map f):=by
 cases x with
 |error e=>show λz=>h (by cases z;rfl)
 |ok v=>nofun
end
set_option smartUnfolding false
def Mn{p:Str}:NF (tu p):=xN nofun (xN (xN nofun nofun) nofun)
def Ga(ns:gq):NF (fY N S ns):=by
 show kG (P:=λns=>NF (fY N S ns)) nofun (λns nm F=>?_) ns;change NF _;rw[j3];show NB F λ_=>xN (RB nofun λ_ _=>nofun) nofun
def ON:NF (pM N S ns):=xN nofun (NB (Ga _) λ_=>xN (xN nofun nofun) nofun)
def Mz(h:yg N n^e):¬ e=.fallen:=by
 unfold yg at h
 repeat' split at h
 all_goals first|(cases h;done)|(cases h;intro z;cases z;done)
theorem QK(q:vP ah N S h d=.error e):¬ e=.fallen:=by
 rintro rfl;revert q;change NF _;cases d<;>show Vl ?_
 case' make=>unfold lC;generalize AR N 24=l
 all_goals repeat' first|(intro z;cases z;done)|with_reducible show Mn|with_reducible show Ga _|with_reducible show ON|(intro z;show Mz (by assumption) (by cases z;rfl))|show xN ?_ ?_|show NB ?_ λ_=>?_|show RB ?_ λ_ _=>?_|show Wv ?_ λ_ _=>?_
set_option smartUnfolding true
mutual
inductive Res(ah:Nat)(N:NS)(S:SS)(h:HT)(d:Dd):Str->V->NS->SS->HT->Prop
 |er(e:Er)(_:vP ah N S h d=.error e):Res ah N S h d "refused" (.str (Dm e)) N S h
 |ok(r:Rs)(N':NS)(S':SS)(h':HT)(_:vP ah N S h d=.ok (r,N',S',h')):Res ah N S h d "told" (Tf r) N' S' h'
variable{w:Str}
theorem Res.X7(R:Res ah N S h d w v N' S' h'){n:Nat}:zv H (n+1) v v true:=by
 rcases R with⟨e,q⟩|⟨r,_,_,_,q⟩
 .let g:uC H (zv H n) (.str (Dm e)) (.str (Dm e)) (decide (Dm e=Dm e)):=.str _ _;rw[Ja rfl]at g;show g
 .cases r with
  |bu=>show .bu
  |int i =>
   let g:uC H (zv H n) (.int i) (.int i) (decide (i=i)):=.int _ _;rw[Ja rfl]at g;show g
theorem Res.ne(R:Res ah N S h d w v N' S' h'):kM [.str w,v] [.str "refused",.str "Fallen"]=false:=by
 rcases R with⟨e,q⟩|⟨r,_,_,_,q⟩
 .have:=QK q;cases e with
  |fallen=>show D9 rfl this
  |_=>decide +kernel
 .cases r<;>rfl
theorem Res.fl(R:Res ah N S h d w v N' S' h'):[V.str w,v].all gg=true:=by
 rcases R with⟨e,q⟩|⟨r,_,_,_,q⟩
 .rfl
 .cases r<;>rfl
theorem Res.fn{h2:HT}{w2:Str}{v2:V}(R:Res ah N S h d w v N' S' h')(R2:Res ah N S h d w2 v2 N2 S2 h2):w2=w/\v2=v/\N2=N'/\S2=S'/\h2=h':=by
 rcases R with⟨e,q⟩|⟨r,_,_,_,q⟩
 .rcases R2 with⟨I,F⟩|⟨G,_,_,_,F⟩
  .rw[q]at F;cases F;show#[1,1,rfl]
  .rw[q]at F;cases F
 .rcases R2 with⟨I,F⟩|⟨G,_,_,_,F⟩
  .rw[q]at F;cases F
  .rw[q]at F;cases F;show#[1,1,rfl]
variable{w:L3}
theorem DS{z:FA}{m:M.St}{E:XK}(O:M.Ok P w K mg base)(F:cI M C H z m ah N h 0)(Z:Fz N S)(a:fw H t d)(ok:gH d)
  (I:∀(w:Str)(v:V)(N':NS)(S':SS)(h':HT)(J:Hp)(m':M.St)(q:ZX),Res ah N S h d w v N' S' h'->cI M.uW C J z m' ah N' h' 0->cH M z m H m' J->(M.own m q\/H q=none)->J q% [.str w,v]->Q (.ref q) J)
  (Y:∀(r:Rs)(N':NS)(S':SS)(h':HT),vP ah N S h d=.ok (r,N',S',h')->∀(H1 J:Hp)(q:ZX),jT M z m H ah N' H1->aG H1 J->H1 q=none->J q% [.str "refused",.str "Fallen"]->Q (.ref q) J):yB M C X [.ref z.a,.ref t] H Q E :=
 #[37,S,h,t,d,rfl,F,Z,a,ok,λe G J q s fq U=>I _ _ N S h J m q (.er e G) ((F.same O s).af O) (cH.of (b7.sm s)) (.inr fq) U,λr N' S' h' G=>#[λJ m' q L st w e=>I _ _ N' S' h' J m' q (.ok r N' S' h' G) L st w e,Y r N' S' h' G]]
inductive O8(c:DA)(CX CN CP C1 C2:ZX)(v:vl)(H:Hp)(Q:VK)(e:XK):Prop
 |mk (p bl wa l:ZX) (ah b:Nat) (g:Wg) (t:ZX) (d:Dd) (_:v=[.ref wa,.ref p,.ref t,.ref l]) (_:WA c CX CN CP C1 C2 p bl wa l ah b g H) (_:1<=ah/\ah<=252) (_:b<=2000) (_:gH d) (_:gk (g.ow wa l) H λH'=>fw H' t d)
  (_:∀(J:Hp)(g':Wg),WA c CX CN CP C1 C2 p bl wa l ah (b+2) g' J->Fr (g.ow wa l) H (g'.ow wa l) J->Q (.bl true) J):O8 c CX CN CP C1 C2 v H Q e
abbrev UW:Yv:=top 97
def N5:aA "_law_world _law_disk _law_deed_here _law_left_here _law_found _law_due".1 "_law_world _law_disk _law_deed_here _law_left_here".1 (ao UW):=L2.bo
theorem Ip(F:bV K "_law_step" "_law_step" UW f fd)(TC:Txt K mg c.C)(O1:∀N pp,(j7 c CX CN N pp).Ok P w K mg base)(O2:(hV CP).Ok P w K mg base)(bm:-Md 1 c.C "rise" (lS c.C))(bd:-Df 14 "_law_told" (SG λa:NS×ZX×ZX=>yB (j7 c CX CN a.1 a.2) C1 X))(bB:-Df 14 "_law_told" (yB (hV CP) C2 X))(bz:-Df 16 "_law_fallen" (MY c CX CN CP C1 C2))(bF:-Df 2 "_law_alike" (xF 2)):-aO 17 f fd "_law_world _law_disk _law_deed_here _law_left_here".1 (O8 c CX CN CP C1 C2):=by
 show F.dZ N5 ?_;intros;let#[p,bl,wa,l,ah,b,g,t,d,rfl,W,to,lb,od,sd,k]:=h;let hsz:yr=16777216:=HC;let rn:=oa (λy hy=>by
  let#[x,hx,rfl]:=Yj.mp hy;show(W.ds x hx).1) W.rn
 let a0:=W.ln;let bR:¬ wa=l:=oR (AM W.bx W.wd);let aY:¬ g.dl=l:=oR (Lr W.bx W.dl);let a3:¬ g.dl=wa:=λq=>(by let e:=W.dl;rwa[q,W.wd]at e);show#[_,%[N5,hr,ah,4,d,bd,b,ax,K,bQ,g,D,i,bn,aas,hr.ET,4,aQ,aE,a,O,c,d,bz,aD,z,b,2,H',f,M,cA,1,b4,bm,ah,5,d,bB,b,ax,K,bQ,g,D,w,af,5,O,l,bg,ZK,ZL,jo,ax,K,bQ,g,c,cB,dB,af,4,af,5,F,cI,d,bF,b,af,4,a,af,5|9],?_]
 show#[104,KY W.wd Q2,0,(g.N,p,bl),DS (O1 _ _) W.f1 rn.G.F sd.now od (λw v N' S' h' H1 I Y R F1 bK w1 e1=>?_) λr N' S' h' he H1 H2 Y fe s2 fq eq=>?_]
 .show#[0,eW,λu fu=>#[Y,u,7,bh.of (aj fu _ _ e1),49,R.fl,11]];rw[show kM [V.str w,v] [V.str "refused",V.str "Fallen"]=false from R.ne];show cO ?_;let#[s2,_]:=gI (X:=.lst [.str "refused",.str "Fallen"]) fu;generalize QZ _ _ (.lst [.str "refused",.str "Fallen"])=H2 at *;let aN:=(L7 F1).same (O1 _ _) s2;let e2:=s2 _ _ e1;let#[dn,uf,D]:=aN.LU;let bv:=aN.A.2.2;injection bv with ep eb;let Dp:=D;rw[ep,eb]at Dp;let#[dx,hp]:=Dp.ob;show#[63,hp,20,p,bl,dn,uf,false,_,0,Dp,λH3 D3 o3=>?_];let F3:=aN.rise (D3<*[ep,eb]) (.inl rfl) (o3<*ep);let fA:Fr (dO g.z1 g.m1) H (dO g.z1 I) H3:=Fr.trans (Fr.post (show Fr (dO g.z1 g.m1) H (dO g.z1 I) H1 from FO.step bK) s2) #[o3.mono λx q=>.inl (.inr (.inl (q.trans ep.6))),122];let F2:=W.f2.fr O2 fA W.sep;let a4:∀x,dO g.z1 I x->¬ pO g.z2 g.m2 x:=W.f2.sep O2 fA W.sep;let am:=fA.off _ _ W.wd λq=>W.wn (.inl q);let bi:fw H3 t d:=sd H3 (fA.off.mono λ_ q=>.inl (.inl q));let e3:=o3 _ _ e2 λq=>(e2*>[q,hp]);show#[104,KY am R6,0,DS O2 F2 rn.G.F bi od (λw2 v2 N2 S2 h2 U Z q2 R2 F4 be adV e4=>?_) λ_ _ _ _ _ _ _ _ fl=>by let#[_,_,_,fl]:=fl;show fl.elim];let#[rfl,rfl,rfl,rfl,rfl]:=R.fn R2;let bb:=Oj F4;let fB:Fr (pO g.z2 g.m2) H3 (pO g.z2 Z) U:=FO.step be;let G4:=F3.fr (O1 _ _) fB λx a b=>a4 x b a;let a5:∀x,dO g.z1 I x->¬ pO g.z2 Z x:=λx a b=>F3.sep (O1 _ _) fB (λx a b=>a4 x b a) x b a;let ab:Fr g.fo H (λx=>dO g.z1 I x\/pO g.z2 Z x) U:=Fr.trans (show Fr g.fo H (λx=>dO g.z1 I x\/pO g.z2 g.m2 x) H3 from fA.or) (fB.mono (λ_=>.inr) λx q=>q.elim (λq=>.inr (.inl q)) .inl);let al:∀{x:ZX},H x≠none->¬ g.fo x->¬ (dO g.z1 I x\/pO g.z2 Z x):=λa n q=>(ab.own _ q).elim n a;let aK:=ab.off _ _ W.wd W.wn;let ad:=ab.off _ _ W.dl W.dn;let a6:Bx U l:=(by let#[y,e]:=W.bx;show#[y,ab.off _ _ e W.bn]);let a7:=al (by rw[W.wd];nofun) W.wn;let ac:=al (by rw[W.dl];nofun) W.dn;let aX:=al (by let#[y,e]:=W.bx;rw[e];nofun) W.bn;let aB:=fB.off _ _ e3 λq=>by
   obtain w1|w1:=w1
   .show W.sep Y (.inl w1) q
   .show W.f2.al O2 (show FO (hV CP) g.z2 g.m2 Y from q) w1
  dsimp only;show lO (λσ H'=>σ=#v[.ref wa,.ref p,.ref t,.ref l,.ref Y,.ref q2]/\∃g':Wg,WA c CX CN CP C1 C2 p bl wa l ah (b+2) g' H'/\Fr (g.ow wa l) H (g'.ow wa l) H'/\H' Y% [.str w2,v2]/\H' q2% [.str w2,v2]) ?_ ?_
  .rintro σ H' ⟨rfl,g',L,f',bc,aT⟩;show#[0,Y,_,(0),0,rfl,bh.of bc,118,0,q2,_,(0),0,rfl,bh.of aT,118,11];rw[Ja rfl];show de #[0,Y,_,(1),0,rfl,bh.of bc,119,0,q2,_,(1),0,rfl,bh.of aT,119,2,true,rfl,R.X7,λJ' sJ=>?_];show k J' g' #[L.f1.same (O1 _ _) sJ,L.f2.same O2 sJ,L.sep,sJ _ _ L.wd,L.wn,sJ _ _ L.dl,L.dn,by let#[y,e]:=L.bx;show#[y,sJ _ _ e],L.bn,λx hx=>#[(L.ds x hx).1,(L.ds x hx).2.same sJ],L.rn,L.ln] (f'.post sJ)
  .intro r kr;show#[0,q2,_,(0),0,rfl,bh.of e4,118,11];rcases R with⟨e,he⟩|⟨rr,N',S',h',he⟩
   .rw[ck (show ¬ V.str "refused" = V.str "told" from λz=>D9 (V.str.inj z) ax)];let f4:Fr (g.ow wa l) H (Wg.ow #[126,35] wa l) U:=ab.mono (λ_=>.inl) λx q=>q.imp id .inr;show cO (kr _ _ #[rfl,#[126,35],#[G4,bb,a5,aK,a7,ad,ac,a6,aX,λx hx=>#[132,(W.ds x hx).2.step f4],W.rn,NM a0],f4,aB,e4])
   .rw[Ja rfl];show de #[104,KY aK MZ,.inl #[5,bh.of ad],0,g.dl,7,ad,129,?_];let o5:Q5 (· = g.dl) U (QZ U g.dl (.lst (j4 g.ts++[.ref t]))):=λx y e q=>(e<*au q);let e5:QZ U g.dl (.lst (j4 g.ts++[.ref t])) g.dl%(j4 (g.ts++[(t,d)])):=by
     rw[ag];unfold j4;rw[DD];rfl
    generalize QZ U g.dl (.lst (j4 g.ts++[.ref t]))=H5 at *;let l2:(zx g.hs d).9<=g.hs.9+1:=by
     cases d with
     |hold n=>change(g.hs++[n]).9<=_;rw[tp,Yq];lia
     |loose n=>change(g.hs.erase n).9<=_;have:=Gb (a:=n) (l:=g.hs);lia
     |_=>show uO _
    let f5:Fr (g.ow wa l) H (Wg.ow #[126,g.dl,g.ts++[(t,d)],N2,S2,h2,zx g.hs d] wa l) H5:=Fr.trans (ab.mono (λ_=>.inl) λx q=>q.imp id .inr) #[o5.mono λ_ q=>.inr (.inr (.inl q)),122];let nq:∀{q:ZX}{xs:vl},U q%(.str "told" :: xs)->¬ q=g.dl:=λ{q xs} e z=>by
     rw[z,ad]at e;cases h:g.ts with
     |nil=>rwa[h]at e
     |cons x r=>rwa[h]at e
    show kr _ _ #[rfl,#[126,g.dl,g.ts++[(t,d)],N2,S2,h2,zx g.hs d],#[G4.fr (O1 _ _) (A':=λx=>x=g.dl) #[o5,122] (λx q z=>ac (.inl (q▸z))),bb.fr O2 (A':=λx=>x=g.dl) #[o5,122] (λx q z=>ac (.inr (q▸z))),a5,o5 _ _ aK (oR a3),a7,e5,ac,?_,aX,123,4],f5,o5 _ _ aB (nq aB),o5 _ _ e4 (nq e4)]
    .let#[y,e]:=a6;show#[y,o5 _ _ e (oR aY)]
    .rcases Yh.mp hx with hx|hx
     .show#[132,(W.ds x hx).2.step f5]
     .rw[z4.mp hx];show#[od,sd.step f5]
    .change run ah (p6 (g.ts++[(t,d)]))=_;unfold p6;rw[DD];show yj W.rn he
    .change(g.ts++[(t,d)]).9+(zx g.hs d).9<=_;rw[tp,Yq];lia
 .let#[dn,uf,cs,bs,hu,D,Te,ay]:=fe.tell;show#[0,eW,λu fu=>#[Y,u,7,bh.of (aj fu _ _ eq),49,1,0,?_]];rw[show kM [V.str "refused",V.str "Fallen"] [V.str "refused",V.str "Fallen"]=true by decide +kernel];show de ?_;let#[sN,_]:=gI (X:=.lst [.str "refused",.str "Fallen"]) fu;generalize QZ _ _ (.lst [.str "refused",.str "Fallen"])=H3 at *;let ar:=s2.trans sN;let ap:Fr (g.ow wa l) H (λx=>fS p bl cs x\/x=l\/x=wa) H3:=Fr.post (ay.mono (λ_ q=>.inl (.inl q)) λx q=>by
   obtain q|q|q:=q
   .show .inl q
   .show .inr (.inr (.inr (.inr q)))
   .show .inr (.inr (.inl q))) ar
  let as:=ay.post ar;let no:∀{x:ZX},H x≠none->¬ g.fo x->¬ fS p bl cs x:=λa n q=>(ay.own _ q).elim (λq=>n (.inl q)) a;let am:=as.off _ _ W.wd λq=>W.wn (.inl q);let bN:=as.off _ _ W.dl λq=>W.dn (.inl q);show#[0,0,0,65,wa,l,ah,b,g,t,d,N',S',cs,rfl,#[#[dn,uf,bs,D.same ar,Te],to,am,no (by rw[W.wd];nofun) W.wn,gk.of bN ?_,?_,no (by let#[y,e]:=W.bx;rw[e];nofun) W.bn,123,W.rn,#[r,h',he],a0,lb],λJ g' L f'=>k J g' L (ap.trans f')]
  .intro q;obtain q|q|q:=q
   .show no (by rw[W.dl];nofun) W.dn q
   .show aY q
   .show a3 q
  .let#[y,e]:=W.bx;show#[y,as.off _ _ e λq=>W.bn (.inl q)]
  .rcases Yh.mp hx with hx|hx
   .show#[132,(W.ds x hx).2.step ap]
   .rw[z4.mp hx];show#[od,sd.step ap]
def S0(H:Hp)(i:Nat)(ys:vl)(H2:Hp):=∃cs:List ZX,ys=cs.map V.ref/\cs.9=i/\Rows H2 cs (Yl i (Yl 16 0))/\aG H H2/\∀x∈cs,H x=none
def S0.next{X:HO}(z:S0 H i ys H2)(I:H2 l=none)(F:H2 q=none)(ne:q≠l):S0 H (i+1) (ys++[.ref q]) (QZ (QZ H2 l X) q (.lst (Yl 16 (V.int 0)))):=by
 let#[cs,rfl,L,R,s,fr]:=z;let G:aG H2 (QZ (QZ H2 l X) q (.lst (Yl 16 (V.int 0)))):=λb o e=>(e<*[au (ba e F),au (ba e I)]);show#[cs++[q],by rw[DD];rfl,by rw[tp,L];rfl,?_,s.trans G,123]
 .rw[<-G2 (Yl 16 (0:Int)) i];show pf #[?_,Zg] (R.same G);rw[ag,Lc]
 .rcases Yh.mp hx with hx|hx
  .show fr x hx
  .rw[z4.mp hx];show s.free F
inductive FL(C:ZX)(v:vl)(H:Hp)(Q:VK)(e:XK):Prop
 |mk(p dx:ZX)(n:Nat)(_:v=[.ref p,.int n])(_:n<=300)(_:H p^.ins C dx [])(_:∀(bl:ZX)(cs:JS)(J:Hp),H bl=none->(∀x∈cs,H x=none)->bg C J p bl 0 .bu false cs (jy n)->Q5 (· = p) H J->Q .bu J)
theorem FF(F:bV K "__init__" "Disk.__init__" FN f fd)(T:Txt K mg C):-aO 1 f fd "self many".1 (FL C):=by
 let#[am,ab,ad]:=T.bn;show F.dZ XU ?_;intros;let#[p,dx,n,rfl,hn,hp,k]:=h;let hs:=HC;show#[_,%[0,0,f,X,S,cr,bS,rfl,bD,e,bv,u,bV,x,aF,cd,ab,ad,f,X,ai,f,X,cS,h,X,jq|9],?_]
 show#[76,ak,ak,?_];show oW (lo:=0) (n:=((n:Nat):Int).5) (S0 H) #[[],1,.nil,aG.refl H,λx hx=>(by cases hx)] ?_ ?_
 .intro i ys H2 hi z;show#[az,λl1 ac=>#[l1,(16),0,45,ak,ak,by rw[Yq];lia,λq L=>?_]];let ql:q≠l1:=λe=>(L*>[e,ag]);rw[au ql]at L;show#[?_,z.next ac L ql];let#[cs,rfl,hc,_]:=z;rw[si];lia
 .rintro ys H2 ⟨cs,rfl,hc,R,U,fr⟩ bl I;rw[show((n:Nat):Int).5=n from Xd n]at R;let h2:=U _ _ hp;let G:p≠bl:=ba h2 I;show#[31,[],rfl,h2<*au G,T.cl,T.nB,az,?_];show#[31,0,ag,24,134];show#[31,0,ag,84,by change 2<1000;decide,?_];show#[106,by change 3<1000;decide,?_];show k bl cs _ (U.free I) fr #[#[dx,ag],4] λb o e hb=>?_
  .rw[au (oR G),au (oR G),au (oR G),au (oR G),ag]
  .show Paired.sv R λa ns q=>#[?_,q.2];let Y:a≠p:=oR (cX h2 q.1);rw[au Y,au Y,au Y,au Y,au (ba q.1 I)];show q.1
  .let Z:b≠p:=hb;rw[au Z,au Z,au Z,au Z,au (ba (U _ _ e) I)];show U _ _ e
def Wg.o3(g:Wg)(wa x:ZX):Prop:=g.fo x\/x=wa\/x=g.dl
structure WB(c:DA)(CX CN CP C1 C2 p bl wa:ZX)(ah b:Nat)(g:Wg)(H:Hp):Prop where
 f1:cI (j7 c CX CN g.N (p,bl)) C1 H g.z1 g.m1 ah g.N g.h 0
 f2:cI (hV CP) C2 H g.z2 g.m2 ah g.N g.h 0
 sep:∀x,dO g.z1 g.m1 x->¬ pO g.z2 g.m2 x
 wd:H wa^^^(wK ah g.dl g.z1.a g.z2.a)
 wn:¬ g.fo wa
 dl:H g.dl%(j4 g.ts)
 dn:¬ g.fo g.dl
 ds:∀x∈g.ts,gH x.2/\gk (g.o3 wa) H λH'=>fw H' x.1 x.2
 rn:run ah (p6 g.ts)^(g.N,g.S,g.h,g.hs)
 ln:g.ts.9+g.hs.9<=b
inductive LJ(c:DA)(CX CN CP C1 C2 p bl wa:ZX)(ah b:Nat)(H:Hp)(g:Wg)(H':Hp):Prop
 |mk(W:WB c CX CN CP C1 C2 p bl wa ah b g H')(s:aG H H')(fr:∀x,g.o3 wa x->H x=none)
variable{x:ZX}
def HE:g.ow wa l x↔g.o3 wa x\/x=l:=by
 unfold Wg.ow Wg.o3;constructor
 .rintro(q|q|q|q)
  .show .inl (.inl q)
  .show .inl (.inr (.inl q))
  .show .inl (.inr (.inr q))
  .show .inr q
 .rintro((q|q|q)|q)
  .show .inl q
  .show .inr (.inl q)
  .show .inr (.inr (.inl q))
  .show .inr (.inr (.inr q))
def gk.box{P:Hp->Prop}(s:gk A H' P)(f:H' l=none)(q:aG H' J'):gk (λx=>A x\/x=l) J' P:=λK o=>s K λx u e n=>o x u (q _ _ e) λz=>z.elim n λz=>by rwa[z,f]at e
variable{b:Nat}
theorem WB.al(G:∀N pp,(j7 c CX CN N pp).Ok P w K mg base)(F:(hV CP).Ok P w K mg base)(W:WB c CX CN CP C1 C2 p bl wa ah b g H')(q:g.o3 wa x):H' x≠none:=by
 rcases q with(q|q)|q|q
 .show W.f1.al (G _ _) (show FO (j7 c CX CN g.N (p,bl)) g.z1 g.m1 x from q)
 .show W.f2.al F (show FO (hV CP) g.z2 g.m2 x from q)
 .rw[q,W.wd];nofun
 .rw[q,W.dl];nofun
theorem WB.box(G:∀N pp,(j7 c CX CN N pp).Ok P w K mg base)(F:(hV CP).Ok P w K mg base)(W:WB c CX CN CP C1 C2 p bl wa ah b g H')(s:aG H' J')(f:H' l=none)(I:Bx J' l):WA c CX CN CP C1 C2 p bl wa l ah b g J' :=
 #[22,I,λq=>W.al G F (.inl q) f,λx hx=>#[132,((W.ds x hx).2.box f s).less λy q=>HE.mp q],105]
theorem WB.same(G:∀N pp,(j7 c CX CN N pp).Ok P w K mg base)(F:(hV CP).Ok P w K mg base)(W:WB c CX CN CP C1 C2 p bl wa ah b g H')(s:aG H' J'):WB c CX CN CP C1 C2 p bl wa ah b g J' :=
 #[22,λx hx=>#[132,(W.ds x hx).2.same s],105]
variable{g':Wg}
def gk.Xv{P:Hp->Prop}{F:Hp}(s:gk (g.o3 wa) H' P)(f:H' l=none)(q:aG H' J')(fr:Fr (g.ow wa l) J' (g'.ow wa l) F):gk (g'.o3 wa) F P:=(((s.box f q).less λ_ z=>HE.mp z).step fr).less λ_ z=>HE.mpr (.inl z)
theorem WA.un(W:WA c CX CN CP C1 C2 p bl wa l ah b g H'):WB c CX CN CP C1 C2 p bl wa ah b g H' :=
 #[W.f1,W.f2,W.sep,W.wd,W.wn,W.dl,W.dn,λx hx=>#[132,(W.ds x hx).2.less λy q=>HE.mpr (.inl q)],105]
theorem WA.off(I:∀N pp,(j7 c CX CN N pp).Ok P w K mg base)(G:(hV CP).Ok P w K mg base)(W:WA c CX CN CP C1 C2 p bl wa l ah b g H')(F:Lf l H' J'):WA c CX CN CP C1 C2 p bl wa l ah b g J' :=
 #[W.f1.fr (I _ _) (A':=λx=>x=l) #[F.off,122] (λx q z=>W.bn (.inl (q▸z))),W.f2.fr G (A':=λx=>x=l) #[F.off,122] (λx q z=>W.bn (.inr (q▸z))),W.sep,F.off _ _ W.wd (oR (AM W.bx W.wd)),W.wn,F.off _ _ W.dl (oR (Lr W.bx W.dl)),W.dn,F.bx,W.bn,λx hx=>#[132,(W.ds x hx).2.step #[F.off.mono λ_ q=>HE.mpr (.inr q),122]],105]
theorem WA.same(G:∀N pp,(j7 c CX CN N pp).Ok P w K mg base)(F:(hV CP).Ok P w K mg base)(W:WA c CX CN CP C1 C2 p bl wa l ah b g H')(s:aG H' J'):WA c CX CN CP C1 C2 p bl wa l ah b g J' :=
 #[22,by let#[y,e]:=W.bx;show#[y,s _ _ e],W.bn,λx hx=>#[132,(W.ds x hx).2.same s],105]
noncomputable abbrev Wg.fl(g:Wg):Wg:=#[g.z1,g.z2,({ g.m1.1 with fl:=true },g.m1.2),g.m2,35]
theorem WA.B3(W:WA c CX CN CP C1 C2 p bl wa l ah b g H'):∃d F,bg c.C H' p bl d F false g.m1.2.1.cs g.m1.2.1.bs:=by
 let#[d,F,D]:=W.f1.LU;let e:=W.f1.A.2.2;injection e with G I;rw[G,I]at D;show#[d,F,D]
theorem WA.UY{d:Int}(L:(hV CP).Ok P w K mg base)(W:WA c CX CN CP C1 C2 p bl wa l ah b g H')(D:bg c.C J' p bl d I false g.m1.2.1.cs g.m1.2.1.bs)(u:jI I)(o:Q5 (· = p) H' J'):WA c CX CN CP C1 C2 p bl wa l ah b g.fl J'/\Fr (g.ow wa l) H' (g.fl.ow wa l) J':=by
 let e:=W.f1.A.2.2;injection e with F U;let G:g.fo p:=.inl (.inl (.inr (.inl F.6)));let fr:Fr (g.ow wa l) H' (g.fl.ow wa l) J':=#[o.mono λ_ q=>.inl (q▸G),122];show#[#[W.f1.rise (D<*[F,U]) u (o<*F),W.f2.fr L (A':=λx=>x=p) #[o,122] (λx q z=>W.sep p (.inl (.inr (.inl F.6))) (q▸z)),W.sep,o _ _ W.wd (λq=>W.wn (q▸G)),W.wn,o _ _ W.dl (λq=>W.dn (q▸G)),W.dn,?_,W.bn,λx hx=>#[132,(W.ds x hx).2.step fr],105],fr];let#[y,e]:=W.bx;show#[y,o _ _ e λq=>W.bn (q▸G)]
theorem LJ.step{CX CN CP C1 C2 p bl wa l:ZX}{c:DA}{ah b:Nat}{g g':Wg}{H H' U F:Hp}{I:Nat}(L:LJ c CX CN CP C1 C2 p bl wa ah b H g H')(f:H' l=none)(Y:aG H U)(Z:WA c CX CN CP C1 C2 p bl wa l ah I g' F)(fr:Fr (g.ow wa l) U (g'.ow wa l) F):LJ c CX CN CP C1 C2 p bl wa ah I H g' F:=by
 let#[W,s,n]:=L;let G:∀x,g.ow wa l x->H x=none:=λx q=>(HE.mp q).elim (n x) λq=>(aR s f<*q);show#[Z.un,λx u e=>fr.off x u (Y _ _ e) λq=>(e*>G x q),λx q=>(fr.own x (HE.mpr (.inl q))).elim (G x) (aR Y)]
def vV(h:bh K H a xs)(s:aG H J):bh K J a xs:=by
 rcases h with(h|⟨o,h⟩)|h
 .show .inl (.inl (s _ _ h))
 .show .inl (.inr #[o,s _ _ h])
 .show .inr h
def AS(K:Yi):Sp:=λvs H Q _=>∃(a:ZX)(ns:N4),vs=[.ref a]/\bh K H a ns.17/\ns.9<=63/\∀J,Q (.bl true) J
def Lf.sm{I G:Hp}(s:aG H' I)(f:H' l=none)(F:Lf l I G):aG H' G:=λb o e=>F.off b o (s _ _ e) λz=>by rwa[z,f]at e
def SN:Str := "abcdefghijklmnopqrstuvwxyz"
def XY:Str := "xy"
theorem EW{t:Str}(hs:∀c∈t.cps.7,c<128){i:Int}(I:0<=i)(h1:i<t.cps.toList.length):∃c,lJ t.cps.7 i^c/\jK 1 #[([c].8)]:=by
 obtain⟨j,rfl⟩:∃j:Nat,i=j:=#[i.5,ak];let F:j<t.cps.toList.length:=ak;show#[t.cps.7[j],aJ (vu F),BY 1,λc G=>?_];have:c=t.cps.7[j]:=‹G›;rw[this];show hs _ (Zr F)
inductive XG(H':Hp)(i:Nat)(ys:vl)(J':Hp):Prop
 |mk(L:gq)(_:ys=L.map V.str)(_:L.9=i)(_:∀x∈L,jK 4 x)(_:J'=H')
inductive Xw(H':Hp)(i:Nat)(ys:vl)(J':Hp):Prop
 |mk(tl:List (ZX×Dd))(_:ys=j4 tl)(_:tl.9=i)(_:aG H' J')(_:∀x∈tl,gH x.2/\H' x.1=none/\∃nm,x.2=.link "/q" nm/\J' x.1|||[.str "link",.str "/q",.str nm])
abbrev WO:Yv:=top 98
def sD:aA "_law_script _law_first _law_room _law_disk _law_world _law_names _law_deed_here _law_k _law_left_here".1 ["_law_script"] (ao WO):=L2.bo
theorem MK{dD:C6}(F:bV K "law" "law" WO f fd)(L:vA K mg X)(dV:mg "sum" = none)(TC:Txt K mg c.C)(I:∀N pp,(j7 c CX CN N pp).Ok P w K mg base)(U:(hV CP).Ok P w K mg base)
  (cC:-Df 1 "_law_mixed" Ih) (d5:-Df 2 "_law_left" (L4 K)) (aX:-Df 1 "_law_digit" yi) (cc:-Df 3 "_law_deed" L6)
  (bB:-Df 17 "_law_step" (O8 c CX CN CP C1 C2)) (cx:-Df 13 "_law_alike_all" (SG λa:NS×ZX×ZX=>F0 (j7 c CX CN a.1 a.2) (hV CP) C1 C2)) (dp:-Df 8 "format_disk" (Ob c)) (db:!Df 9 "mount" (HS c CX CN C1)) (ci:-Md 1 c.C "fall" (y9 c.C))
  (dA:Mk K c.C fD) (d0:-aO 1 fD dD "self many".1 (FL c.C)) (c5:mg "Disk" = some (.ref c.C)) (b5:Nl K dD "self many".1 [])
  (ek:Mk K C2 fP) (dM:-aO 3 fP dP "self blocks".1 (Kn CP C2)) (c7:mg "PlainFiles" = some (.ref C2)) (cR:Nl K dP "self blocks".1 []) :
  -aO 18 f fd ["_law_script"] (AS K):=by
 show F.ok sD (λvs H Q E h=>?_) (λwL A outer s H vs Q E hr h=>?_)
 .let#[a,ns,rfl,_]:=h;rfl
 .let#[sc,ns,rfl,aB,eu,k]:=h;let hs:=HC;intros;show#[_,%[sD,hr,aR,d,cC,b,q,dI,rfl,dV,Ff,a,C,0,a9,ai,V,aH,p,aQ,k,ai,aP,bZ,1,cE,bl,V,aP,1,ai,ba,bP,dA,d0,da,c5,b5,a,k,2,ai,f,M,d,dp,H',ah,4,S,pZ,cn,aE,2,cn,aE,bA,cn,aE,dz,db,H',cn,aE,bP,ek,dM,da,c7,cR,g,qv,b1,c8,c9,D,w,aP,bZ,1,cE,r,f,dr,(uz (i:=5) (cl:=[]) (sI:=[])),cT,rfl,c1,bS,rfl,dR,W,L.range,a,k,ai,aP,bZ,1,cE,bv,u,aU,gO,aU,gO,aE,bw,ze,aE,aP,0,ai,cq,bw,ze,aE,bZ,0,ai,cq,h,cs,bo,B,x,a,aA,Z,Z,ae,S,cr,bS,bJ,5,bv,u,aA,Z,Z,s,y,6,h,an,cJ,bH,d,bB,b,4,b,3,b,6,a,x,V,c,jq,bf,dR,W,L.range,a,q,bn,ae6,rfl,L.min,afI,bl,a,dc,L.len,dd,s,y,7,ah,8,d,d5,aS,7,ah,6,d,cc,a,8,D,w,aP,7,ai,r,l,E,3,b4,ci,a,bw,aW,aQ,d,aX,b,8,V,aj,aX,b,8,V,d,aX,b,8,V,iV,h,an,cJ,bH,d,bB,b,4,b,3,b,6,a,8,c,jq,c,d,cx,b,ax,K,4,aE,a,ax,K,4,aE|9],?_]
  let em:dJ ns.17 none (some 1)=(ns.take 1).map V.int:=jb (s:=1);show#[0,26,sc,0,aB,λqs ca=>#[qs,ns.take 1,rfl,bh.of (by rw[ag,em]),_,26,az,az,λv=>?_]];let#[ss,_]:=gI (X:=.lst (dJ ns.17 none (some 1))) ca;generalize QZ _ _ (.lst (dJ ns.17 none (some 1)))=Hs at *;show#[0,7,#[az,az],7,(Ao 11),7,eW,λq0 b3=>?_];let#[rm,er,mr]:=oO (xs:=[1+v/3%12,30,60]) (i:=v%3) ak (by change v%3<3;lia);let ep:1<=rm/\rm<=60:=by
   simp only[Yu,xy,or_false]at mr;lia
  obtain⟨ah,rfl⟩:∃ah:Nat,rm=ah:=#[rm.5,ak];let s0:=ss.trans (aj (X:=.lst [V.int (1+v/3%12),V.int 30,V.int 60]) b3);show#[0,7,qa6,q0,2,0,rfl,49,er,?_];generalize QZ Hs q0 (.lst [V.int (1+v/3%12),V.int 30,V.int 60])=H1 at *;show#[0,7,λp dz f1 f2 ne=>?_];let s1:aG H1 (QZ (QZ H1 dz (.own p)) p (.ins c.C dz [])):=(aj f2).trans (aj (f1<*au (oR ne)));show#[p,dz,48+ah,by rw[show((48+ah:Nat):Int)=(ah:Int)+48 by lia];rfl,ak,ag,λbl cs H2 dr el D2 o2=>#[3]];let aY:=s0.trans s1;let a7:H p=none:=aR s0 f1;let b1:aG H H2:=λb o e=>o2 b o (aY _ _ e) λz=>(e*>[z,a7]);let bN:H bl=none:=aR aY dr;let bR:∀x∈cs,H x=none:=λx hx=>aR aY (el x hx);show#[65,(0),cs,ah,rfl,D2,#[ak,ak],λH3 d3 as eg cr D3 b4 z3 R3 dF o3=>?_];let dw:∀x,fS p bl cs x->H x=none:=λx hx=>by
   obtain hx|hx|hx:=hx
   .rw[hx];show a7
   .rw[hx];show bN
   .show bR x hx
  let a5:aG H H3:=λb o e=>o3 b o (b1 _ _ e) λz=>(e*>dw b z);let bv:∀x,fS p bl as x->H x=none:=λx hx=>by
   obtain hx|hx|hx:=hx
   .rw[hx];show a7
   .rw[hx];show bN
   .rcases dF x hx with q|q
    .show bR x q
    .show aR b1 q
  dsimp only;show lO (λσ H'=>∃(wa:ZX)(g:Wg),σ=#v[.ref sc,.int v,.int (ah:Int),.ref p,.ref wa,none,none,none,none]/\LJ c CX CN CP C1 C2 p bl wa ah 0 H g H') ?_ ?_
  .rintro σ H' ⟨wa,g,rfl,L0⟩;let ap:jK 2 "/q" := (by decide +kernel);show lO (λσ H'=>∃(v5 Z:Option V)(g:Wg)(b:Nat),σ=#v[.ref sc,.int v,.int (ah:Int),.ref p,.ref wa,v5,Z,none,none]/\LJ c CX CN CP C1 C2 p bl wa ah b H g H'/\b<=100) ?_ ?_
   .rintro σ H' ⟨v5,Z,g,b,rfl,L,hb⟩;let L':=L;let#[W,sH,ac]:=L';let dL:0<=(if ((ns.map V.int).9:Nat)<(60:Int)then(((ns.map V.int).9:Nat):Int)else(60:Int))/\(if ((ns.map V.int).9:Nat)<(60:Int)then(((ns.map V.int).9:Nat):Int)else(60:Int))<=ns.9/\(if ((ns.map V.int).9:Nat)<(60:Int)then(((ns.map V.int).9:Nat):Int)else(60:Int))<=60:=by
     rw[si];split<;>lia
    show#[0,sc,0,.inl (vV aB sH),_,0,0,ak,ak,?_];generalize (if ((ns.map V.int).9:Nat)<(60:Int)then(((ns.map V.int).9:Nat):Int)else(60:Int))=mm at dL ⊢;clear W sH ac;show gc (lo:=0) (n:=mm.5) (λi σ H'=>∃(v5 Z v7 v8:Option V)(g:Wg)(b:Nat),σ=#v[.ref sc,.int v,.int (ah:Int),.ref p,.ref wa,v5,Z,v7,v8]/\LJ c CX CN CP C1 C2 p bl wa ah b H g H'/\b<=100+2*i) #[2,2,g,b,rfl,L,ak] ?_ ?_
    .rintro i σ H' hi ⟨v5,Z,v7,v8,g,b,rfl,L,hb⟩;let L':=L;let#[W,sH,ac]:=L';rw[show(0+(i:Int))=(i:Int)by lia];show gn ?_;show#[0,0,sc,ns,i,rfl,vV aB sH,ak,ak,λJ1 l s1 fl bx=>?_];show#[62,bx,λt d J2 od F2 ft ds=>?_];let W2:=(W.box I U s1 fl bx).off I U F2;let ej:=sH.trans (F2.sm s1 fl);let lv:∀{x:ZX},g.ow wa l x->J1 x≠none:=λq e=>(HE.mp q).elim (λq=>W.al I U q (aR s1 e)) λq=>(by let#[y,z]:=bx;rwa[<-q,e]at z);let dd:∀{g4:Wg}{J4:Hp},Fr (g.ow wa l) J2 (g4.ow wa l) J4->gk (g4.ow wa l) J4 λH'=>fw H' t d:=λfr=>gk.step (A:=g.ow wa l) (H:=J2) (λK2 o=>ds K2 λx u a e=>o x u e λq=>lv q a) fr;dsimp only;show lO (λσ J4=>σ=#v[.ref sc,.int v,.int (ah:Int),.ref p,.ref wa,v5,.ref t,.int (i:Int),.ref l]/\∃g4:Wg,WA c CX CN CP C1 C2 p bl wa l ah b g4 J4/\Fr (g.ow wa l) J2 (g4.ow wa l) J4) ?_ ?_
     .rintro σ J4 ⟨rfl,g4,W4,b2⟩;show#[0,0,0,65,wa,l,ah,b,g4,t,d,rfl,W4,#[ak,ak],ak,od,dd b2,λJ5 g5 W5 dN=>#[0,cO #[2,2,g5,b+2,rfl,L.step fl ej W5 (b2.trans dN),ak]]]
     .intro r kr;show#[0,7,(Ao 4),11];show fH (λ_=>?_) (λ_=>kr _ _ #[rfl,g,W2,Fr.refl]);let#[d2,u2,ee]:=W2.B3;let#[eo,h2]:=ee.ob;show#[0,p,eo,0,h2,20,0,l,(8),rfl,W2.bx,az,az,λr3 J3 a3 c3 F3=>#[0,l,(61),rfl,F3.bx,az,az,λr4 J4 a4 c4 F4=>#[eW,λq fq=>?_]]];let W4:=(W2.off I U F3).off I U F4;let s5:=aj (X:=.lst (([r3,r4]:N4).map V.int)) fq;let e5:QZ J4 q (.lst (([r3,r4]:N4).map V.int)) q%(([r3,r4]:N4).map V.int):=ag;let W5:=W4.same I U s5;let eh:q≠l:=λz=>(by let#[y,e]:=W4.bx;rwa[<-z,fq]at e);show#[0,l,(2),rfl,W5.bx,az,az,λr6 J6 a6 c6 F6=>?_];let W6:=W5.off I U F6;let#[a,ea,_]:=oO (xs:=[r3,r4]) a6 c6;let#[d6,u6,D6]:=W6.B3;show#[q,_,r6,0,rfl,bh.of (F6.keep e5 eh),ea,p,bl,d6,u6,false,2,a,rfl,D6,λJ7 D7 o7=>?_];let#[W7,cv]:=W6.UY U D7 (.inr #[a,rfl]) o7;let lf:∀{H' J':Hp},Lf l H' J'->Fr (g.ow wa l) H' (g.ow wa l) J':=λF=>#[F.off.mono λ_ q=>HE.mpr (.inr q),122];show kr _ _ #[rfl,g.fl,W7,(((lf F3).trans (lf F4)).post s5).trans ((lf F6).trans cv)]
    .rintro σ H' ⟨v5,Z,v7,v8,g,b,rfl,L,hb⟩;let#[W,sH,ac]:=L;let rn:=oa (λy hy=>by
      let#[x,hx,rfl]:=Yj.mp hy;show(W.ds x hx).1) W.rn
     show#[104,KY W.wd Q2,104,KY W.wd R6,(g.N,p,bl),g.z1,g.z2,g.m1,g.m2,ah,g.N,g.N,g.S,g.S,g.h,g.h,rfl,W.f1,W.f2,rn.G.F,rn.G.F,λbb J2 _ _ k2=>?_];rw[k2 rfl rfl];show k J2
   .intro r kr;show#[0,7,#[az,az],7,(Ao 11),11];show fH (λ_=>?_) (λ_=>kr _ _ #[2,g,(0),rfl,L0,az]);let hn:0<=v/432%33/\v/432%33<33:=ak;show#[0,7,#[az,az],7,(Ao 32),7,0,ak,ak,?_];generalize v/432%33=vn at hn ⊢;show oW (lo:=0) (n:=(8+vn).5) (XG H') #[[],1,λx hx=>(by cases hx),rfl] ?_ ?_
    .rintro i ys J1 hi ⟨Ls,rfl,ll,tx,rfl⟩;let et:i<41:=ak;let#[c1,e1,t1]:=EW (t:=SN) ax (i:=(0+(i:Int))%26) ak (by rw[show SN.cps.toList.length=26 by decide +kernel];lia);let#[c2,e2,t2]:=EW (t:=XY) ax (i:=(0+(i:Int))/26) ak (by rw[show XY.cps.toList.length=2 by decide +kernel];lia);let o1:=ap.app t1;let o2:=o1.app t2;let hz:SN.9<=yr:=(by rw[hs];decide +kernel);let cE:XY.9<=yr:=(by rw[hs];decide +kernel);show#[0,7,(Ao 25),SN,_,c1,1,hz,e1,_,0,3,0,7,#[az,az],XY,_,c2,1,cE,e2,_,0,3,?_,Ls++[("/q" : Str)++#[([c1].8)]++#[([c2].8)]],4,97]
     .have:=ap.len;have:=t1.len;lia
     .have:=o1.len;have:=t2.len;lia
     .rw[si];lia
     .rw[DD];rfl
     .rw[tp,ll];rfl
     .intro x hx;obtain hx|hx:=Yh.mp hx
      .show tx x hx
      .rw[z4.mp hx];show o2
    .rintro ys J1 ⟨Ls,rfl,ll,tx,rfl⟩ q5 f5;let#[s5,e5]:=gI (X:=.lst (Ls.map V.str)) f5;generalize QZ _ _ (.lst (Ls.map V.str))=J5 at *;show gn ?_;show#[eW,λt0 bF=>#[eW,λa0 cB=>?_]];let#[s6,e6]:=gI (X:=.tup [.str "make",.str "/q"]) bF;generalize QZ _ _ (.tup [.str "make",.str "/q"])=J6 at *;let#[s7,e7]:=gI (X:=.lst [.ref t0]) cB;generalize QZ _ _ (.lst [.ref t0])=J7 at *;let cm:=s7 _ _ e6;let aK:=s5.trans (s6.trans s7);show#[0,q5,rfl,#[_,bh.of (s7 _ _ (s6 _ _ e5))],?_];let dX:=s7 _ _ (s6 _ _ e5);show iS (K:=K) (a:=q5) (xs:=Ls.map V.str) (Xw J7) #[[],1,aG.refl _,λx hx=>(by cases hx)] ?_ ?_ ?_
     .rintro i ys J8 _ ⟨tl,_,_,s8,_⟩;show bh.of (s8 _ _ dX)
     .rintro i x ys J8 hx ⟨tl,rfl,lt,s8,ht⟩;let hi:=(wh.mp hx).1;rw[si]at hi;rw[IF]at hx;let#[nm,en,rfl]:=NC.mp hx;show#[0,eW,λt ft=>#[129,tl++[(t,.link "/q" nm)],?_,by rw[tp,lt];rfl,s8.trans (aj ft),123]]
      .unfold j4;rw[DD];rfl
      .rcases Yh.mp hx with hx|hx
       .let#[h1,h2,i8,h3,h4]:=ht x hx;show#[h1,h2,i8,h3,aj ft _ _ h4]
       .rw[z4.mp hx];show#[#[ap.path az,(tx nm (Yk en)).path az],aR s8 ft,nm,45]
     .rintro ys J8 ⟨tl,rfl,lt,s8,ht⟩ a1 cP;rw[si]at lt;let#[s9,e9]:=gI (X:=.lst (j4 tl)) cP;generalize QZ _ _ (.lst (j4 tl))=J9 at *;show#[a0,a1,7,s9 _ _ (s8 _ _ e7),e9,by rw[si];change 1+tl.9<=_;lia,λdq bm=>?_];let#[sA,eq]:=gI (X:=.lst ([.ref t0]++j4 tl)) bm;generalize QZ _ _ (.lst ([.ref t0]++j4 tl))=JA at *;let eq:JA dq%(j4 ((t0,.make false "/q")::tl)):=eq;let bc:=s8.trans (s9.trans sA);let bK:=aK.trans bc;let#[W0,ei,ce]:=L0;let nw:∀{x:ZX},J1 x=none->¬ g.o3 wa x:=λe q=>W0.al I U q e;show#[dq,rfl,#[_,bh.of eq],?_];show fL (K:=K) (a:=dq) (xs:=j4 ((t0,.make false "/q")::tl)) (λi σ J'=>∃(Z:Option V)(g:Wg)(b:Nat),σ=#v[.ref sc,.int v,.int (ah:Int),.ref p,.ref wa,.ref q5,Z,none,none]/\LJ c CX CN CP C1 C2 p bl wa ah b H g J'/\b<=2*i/\gk (g.o3 wa) J' (λH'=>H' dq%(j4 ((t0,.make false "/q")::tl)))/\∀x∈(t0,Dd.make false "/q")::tl,gH x.2/\gk (g.o3 wa) J' λH'=>fw H' x.1 x.2) #[_,g,(0),rfl,#[W0.same I U bK,ei.trans bK,ce],ak,gk.of eq (nw (aR (aK.trans (s8.trans s9)) bm)),123] ?_ ?_ ?_
      .rcases Yu.mp hx with hx|hx
       .rw[hx];show#[ap.path az,gk.of (bc _ _ cm) (nw (aR s5 bF))]
       .let#[h1,h2,i8,h3,h4]:=ht x hx;show#[h1,?_];rw[h3];show gk.of ((s9.trans sA) _ _ h4) (nw (aR aK h2))
      .rintro i σ J' _ ⟨_,g,b,_,_,_,sq,_⟩;show bh.of sq.now
      .rintro i x σ J' hx ⟨Z,g,b,rfl,L,hb,sq,st⟩;let hi:=(wh.mp hx).1;rw[si,YU]at hi;rw[IF]at hx;let#[y,ey,rfl]:=NC.mp hx;let my:=Yk ey;let L':=L;let#[W,sH,ac]:=L';show gn ?_;show#[0,0,0,eW,λl fl=>?_];let sl:=aj (X:=.lst [.int 0]) fl;show#[p,bl,wa,l,ah,b,g,y.1,y.2,rfl,W.box I U sl fl #[(0),ag],#[ak,ak],ak,(st y my).1,((st y my).2.box fl sl).less λ_ q=>HE.mp q,λJ2 g2 W2 ab=>#[0,cO #[_,g2,b+2,rfl,L.step fl (sH.trans sl) W2 ab,ak,sq.Xv fl sl ab,λx hx=>#[(st x hx).1,(st x hx).2.Xv fl sl ab]]]]
      .rintro σ J' ⟨Z,g,b,rfl,L,hb,_,_⟩;rw[si,YU]at hb;show kr _ _ #[2,g,b,rfl,L,ak]
  .intro r kr wa ad;let#[sa,ea]:=gI (X:=.dK []) ad;generalize QZ _ _ (.dK [])=Ha at *;show#[0,eW,λdl am=>?_];let#[sb,ed]:=gI (X:=.lst []) am;generalize QZ _ _ (.lst [])=Hb at *;let eb:=sb _ _ ea;let aT:H3 dl=none:=aR sa am;let co:¬ dl=wa:=λq=>(am*>[q,ea]);let bz:=sa.trans sb;show#[65,d3,.bu,false,as,eg,ah,(λM=>M=N0),rfl,D3.same bz,#[.inl rfl,λ_=>rfl],#[ak,ak],.calm N0 cr b4 z3 R3 (mS λn nd e=>by let#[_,rfl]:=jB e;show(by decide:¬ (1:Int)=0)),λH4 Y N m1 aN nn e1 e2 F1 cg cN dT cD o4=>?_,λz=>by cases z];subst aN;let ar:∀{x},H3 x=none->¬ fS p bl as x:=λ{x} e q=>by
    obtain q|q|q:=q
    .rw[q]at e;show D3.np e
    .rw[q]at e;show D3.nb e
    .let#[y,q1,_]:=gA D3.hc _ q;rwa[q1]at e
   let b0:=a5.trans bz;let lo1:∀x,dO Y m1 x->fS p bl as x\/Hb x=none:=λx q=>by
    obtain q|q|q|q:=q
    .show cg x q
    .rw[q];show cD
    .rw[q];show cN
    .rw[q];show dT
   let dR:∀x,dO Y m1 x->H x=none:=λx q=>(lo1 x q).elim (bv x) (aR b0);let bd:aG H H4:=λb o e=>o4 b o (b0 _ _ e) λz=>(e*>bv b z);let bi:¬ dO Y m1 wa:=λq=>(lo1 _ q).elim (ar ad) λq=>(q*>eb);let c0:¬ dO Y m1 dl:=λq=>(lo1 _ q).elim (ar aT) λq=>(q*>ed);let be:=o4 _ _ eb (ar ad);let bW:=o4 _ _ ed (ar aT);show#[0,λpa dy f3 f4 ef=>?_];let s5:aG H4 (QZ (QZ H4 dy (.own pa)) pa (.ins C2 dy [])):=(aj f4).trans (aj (f3<*au (oR ef)));show#[pa,dy,ah,45,ak,λH6 z2 m2 d4 F2 d1 da dv o6=>#[3]];subst d4;let ab:∀x,pO z2 m2 x->H4 x=none:=λx q=>by
    obtain q|q|q|q:=q
    .show aR s5 (d1 x q)
    .rw[q];show aR s5 dv
    .rw[q];show f3
    .rw[q];show aR s5 da
   let ay:aG H4 H6:=λb o e=>o6 b o (s5 _ _ e) λq=>(e*>[q,f3]);let ec:=ay _ _ be;let dB:=ay _ _ bW;show#[ec,[(.inr "room",.int ah),(.inr "deeds",.ref dl),(.inr "files",.ref Y.a),(.inr "plain",.ref z2.a)],rfl,by change 4<=15;decide,kr _ _ #[wa,#[Y,z2,m1,m2,dl,[],N0,λ_=>[],[],[]],3]];let ew:QZ H6 wa (.dK (eI [] [(.inr "room",.int ah),(.inr "deeds",.ref dl),(.inr "files",.ref Y.a),(.inr "plain",.ref z2.a)])) wa^^^(wK ah dl Y.a z2.a):=ag;let o7:Q5 (· = wa) H6 (QZ H6 wa (.dK (eI [] [(.inr "room",.int ah),(.inr "deeds",.ref dl),(.inr "files",.ref Y.a),(.inr "plain",.ref z2.a)]))):=λx u e q=>(e<*au q);generalize QZ H6 wa (.dK (eI [] [(.inr "room",.int ah),(.inr "deeds",.ref dl),(.inr "files",.ref Y.a),(.inr "plain",.ref z2.a)]))=H7 at *;let bY:¬ pO z2 m2 wa:=λq=>(by have:=ab _ q;rwa[be]at this);let dY:¬ pO z2 m2 dl:=λq=>(by have:=ab _ q;rwa[bW]at this);let bn:H wa=none:=aR a5 ad;show#[#[(F1.same (I _ _) ay).fr (I _ _) (A':=λx=>x=wa) #[o7,122] (λx q z=>bi (q▸z)),F2.fr U (A':=λx=>x=wa) #[o7,122] (λx q z=>bY (q▸z)),λx a b=>F1.al (I _ _) (show FO (j7 c CX CN N0 (p,bl)) Y m1 x from a) (ab x b),ew,λq=>q.elim bi bY,o7 _ _ dB co,λq=>q.elim c0 dY,λx hx=>(by cases hx),rfl,BY 0],λb o e=>o7 b o (ay _ _ (bd _ _ e)) λq=>(e*>[q,bn]),λx q=>?_];rcases q with(q|q)|q|q
   .show dR x q
   .show aR bd (ab x q)
   .rw[q];show bn
   .rw[q];show aR a5 aT
end
end Fs
namespace Fs
open PySem L2 Dk Tb C8
mutual
def Al:Nat->(List xr->Prop)->Prop
 |0,p=>p []
 |n+1,p=>∀a,Al n λl=>p (a::l)
theorem al:∀{n:Nat}{p:List xr->Prop},Al n p->∀us:List xr,us.length=n->p us
 |0,_,h,us,e=>by cases G6 e;exact h
 |n+1,_,h,us,e=>by
  cases us with
  |nil=>cases e
  |cons a us=>exact al (h a) us (afC e)
inductive MI (K:Yi) (C:Addr) (m q:Str) (st:Yv) (ps:List Str):Prop
 |mk (f:Addr) (fd:C6) (_:bV K m q st f fd) (_:Nl K fd ps []) (_:Meth K C m f):MI K C m q st ps
inductive DI (K:Yi) (x:Str) (st:Yv) (ps:List Str):Prop
 |mk (f:Addr) (fd:C6) (_:bV K x x st f fd) (_:Nl K fd ps []) (_:nsIn K YF x^some (.ref f)):DI K x st ps
variable{K:Yi}{C f:Addr}{m q:Str}{st:Yv}{ps:List Str}{od an:Option Addr}{sl:Array (Option xr)}{oc kV dc pm cd ct:xr}
def MI.of (a:Y4 K (.ref C) m^some (.ref f)) (i:isFn K (.ref f)) (l:K.lookup f=some ⟨oc,od,.func (fnOf m q (hU st) (du st) (ao st) .none kV dc pm an cd ct),sl⟩) (c:P5 K cd q) (k:Zk K (.ref f))
  (b:∀kV G pm an F ct,Al ps.length λus=>EC (fnOf m q (hU st) (du st) (ao st) .none kV G pm an F ct) ⟨us,[]⟩=pure (ps.zip us)):MI K C m q st ps :=
 ⟨_,_,oE l c k,(oE l c k).binds λ_ _ _ _ _ _=>al (b _ _ _ _ _ _),a,i,k⟩
def DI.of (a:nsIn K YF m^some (.ref f)) (l:K.lookup f=some ⟨oc,od,.func (fnOf m m (hU st) (du st) (ao st) .none kV dc pm an cd ct),sl⟩) (c:P5 K cd m) (k:Zk K (.ref f))
  (b:∀kV G pm an F ct,Al ps.length λus=>EC (fnOf m m (hU st) (du st) (ao st) .none kV G pm an F ct) ⟨us,[]⟩=pure (ps.zip us)):DI K m st ps :=
 ⟨_,_,oE l c k,(oE l c k).binds λ_ _ _ _ _ _=>al (b _ _ _ _ _ _),a⟩
inductive CI (K:Yi) (C:Addr) (x:Str):Prop
 |mk (_:nsIn K YF x^some (.ref C)) (_:ph K C) (_:makesIn K C) (_:Zk K (.ref C)):CI K C x
inductive BI (K:Yi) (C:Addr) (x q:Str) (st:Yv) (ps:List Str):Prop
 |mk (f:Addr) (fd:C6) (_:bV K "__init__" q st f fd) (_:Nl K fd ps []) (_:nsIn K YF x^some (.ref C)) (_:PySem.W.Gy K C f):BI K C x q st ps
variable{x:Str}
def BI.of(n:nsIn K YF x^some (.ref C)) (t:Sz K (.ref C)^.type "type") (r:PySem.W.readsIn K C (.type "type")) (a:PySem.W.findCls K (.ref C) (.type "type") "__init__" = some (.val (.ref f))) (l:K.lookup f=some ⟨oc,od,.func (fnOf "__init__" q (hU st) (du st) (ao st) .none kV dc pm an cd ct),sl⟩) (c:P5 K cd q) (k:Zk K (.ref f))
  (b:∀kV G pm an F ct,Al ps.length λus=>EC (fnOf "__init__" q (hU st) (du st) (ao st) .none kV G pm an F ct) ⟨us,[]⟩=pure (ps.zip us)):BI K C x q st ps :=
 ⟨_,_,oE l c k,(oE l c k).binds λ_ _ _ _ _ _=>al (b _ _ _ _ _ _),n,⟨t,r,a,k⟩⟩
def y6 (xs:List Addr) (e:Er):Addr:=xs.getD (bX e) 0
def KL (K:Yi) (C:Addr):List Addr->Nat->Prop
 | [],_=>True
 |a::l,0=>YT K (.ref C) (.ref a)^true/\KL K C l 1000
 |a::l,n+1=>YT K (.ref C) (.ref a)^false/\KL K C l n
theorem yn {K:Yi}{C:Addr}:∀{l:List Addr}{n:Nat},KL K C l n->l.length<=500->∀(j:Nat) (a:Addr),l[j]?^a->YT K (.ref C) (.ref a)^decide (n=j)
 | [],_,_,_,j,a,e=>by simp at e
 |b::l,0,h,F,0,a,e=>by cases e;exact h.1
 |b::l,0,h,F,j+1,a,e=>by
  have I:j<l.length:=(wh.mp (show l[j]?^a from e)).1;have G:l.length+1<=500:=F;rw[yn h.2 (XW F) j a e,decide_eq_false ak,decide_eq_false ak]
 |b::l,n+1,h,F,0,a,e=>by cases e;rw[decide_eq_false ak];exact h.1
 |b::l,n+1,h,F,j+1,a,e=>by
  rw[yn h.2 (XW F) j a e];by_cases c:n=j
  .rw[decide_eq_true c,decide_eq_true ak]
  .rw[decide_eq_false c,decide_eq_false ak]
inductive XI (K:Yi) (C k:Addr) (l:List Addr) (i:Nat):Prop
 |mk (_:excIn K C tQ "ValueError.__new__" = true) (_:PySem.W.xU K C) (_:BK K (.ref C) (.ref k)^true) (_:YT K (.ref C) (.type "ValueError")^true) (_:KL K C l i):XI K C k l i
def XL (K:Yi) (k:Addr) (l:List Addr):List Addr->Nat->Prop
 | [],_=>True
 |a::r,i=>XI K a k l i/\XL K k l r (i+1)
theorem Fd {K:Yi}{k:Addr}{l:List Addr}:∀{r:List Addr}{i:Nat},XL K k l r i->∀(j:Nat) (a:Addr),r[j]?^a->XI K a k l (i+j)
 | [],_,_,j,a,e=>by simp at e
 |b::r,i,h,0,a,e=>by cases e;exact h.1
 |b::r,i,h,j+1,a,e=>by
  rw[show i+(j+1)=i+1+j by lia];exact Fd h.2 j a e
def YI (K:Yi):List Str->List Addr->Prop
 |n::ns,x::xs=>nsIn K YF n^some (.ref x)/\YI K ns xs
 |_,_=>True
theorem Fm {K:Yi}:∀{ns:List Str}{xs:List Addr},YI K ns xs->∀(j:Nat) (n:Str) (x:Addr),ns[j]?^n->xs[j]?^x->nsIn K YF n^some (.ref x)
 | [],_,_,j,n,x,e,_=>by simp at e
 |_::_,[],_,j,n,x,_,e=>by simp at e
 |m::ns,y::xs,h,0,n,x,F,G=>by cases F;cases G;exact h.1
 |m::ns,y::xs,h,j+1,n,x,F,G=>Fm h.2 j n x F G
variable{mg:Str->Option xr}
def Qe{I:Heap}{xs:List Addr}{k:Addr}(U:K.In I) (L:I.Ns YF mg) (y:YI K (Bs++DR) xs) (v:XL K k xs xs 0) (Y:xs.length=14) :
  (∀e,mg (Dm e)^.ref (y6 xs e))/\(∀e,excIn K (y6 xs e) tQ "ValueError.__new__" = true)/\(∀e,PySem.W.xU K (y6 xs e))/\(∀e,BK K (.ref (y6 xs e)) (.ref k)^true)/\(∀e F,YT K (.ref (y6 xs e)) (.ref (y6 xs F))^decide (bX e=bX F))/\∀e,YT K (.ref (y6 xs e)) (.type "ValueError")^true:=by
 have G:∀e,xs[bX e]?^y6 xs e:=λe=>by
  have h:bX e<xs.length:=(by rw[Y];cases e<;>decide);unfold y6;rw[List.getD_eq_getElem?_getD,vu h];rfl
 have g:∀e,XI K (y6 xs e) k xs (bX e):=λe=>by
  have:=Fd v _ _ (G e)
  rw[Ec]at this;exact this
 refine⟨λe=>a8 U L (Fm y _ _ _ (by cases e<;>rfl) (G e)),λe=>?_,λe=>?_,λe=>?_,λe F=>?_,λe=>?_⟩<;>obtain⟨a,b,c,d,f⟩:=g e
 .exact a
 .exact b
 .exact c
 .exact yn f ak _ _ (G F)
 .exact d
variable{P:By}{w:L3}{base:Heap}{CX:pJ}{n:Nat}{sp:Sp}
def MI.md(h:MI K C m q st ps) (k:∀{f fd},bV K m q st f fd->aO P w K mg base CX n f fd ps sp):Md P w K mg base CX n C m sp:=by
 obtain⟨f,fd,F,b,M⟩:=h;exact Md.mk _ _ _ (k F) b M
def DI.df{H:Heap}(h:DI K x st ps) (X:K.In H) (G:H.Ns YF mg) (k:∀{f fd},bV K x x st f fd->aO P w K mg base CX n f fd ps sp):Df P w K mg base CX n x sp:=by
 obtain⟨f,fd,F,b,a⟩:=h;exact Df.mk _ _ _ (k F) b (a8 X G a) F.kp
def NI (K:Yi):List Str->Prop
 | []=>True
 |x::l=>nsIn K YF x^none/\NI K l
def AI (K:Yi) (C:Addr):List Str->Prop
 | []=>True
 |x::l=>Y4 K (.ref C) x^none/\AI K C l
def NJ (mg:Str->Option xr):List Str->Prop
 | []=>True
 |x::l=>mg x=none/\NJ mg l
theorem LC {K:Yi}{G:Heap}{mg:Str->Option xr}(F:K.In G) (I:G.Ns YF mg):∀{l:List Str},NI K l->NJ mg l
 | [],_=>trivial
 |_::_,h=>⟨PySem.W.mg_none_of F I h.1,LC F I h.2⟩
def QI (K:Yi):List (Str×Int)->Prop
 | []=>True
 |(x,v)::l=>(∃t,nsIn K YF x^some (.int v t))/\QI K l
def QJ (mg:Str->Option xr):List (Str×Int)->Prop
 | []=>True
 |(x,v)::l=>(∃u,mg x^u/\zH (.int v) u)/\QJ mg l
theorem qi_mg {K:Yi}{G:Heap}{mg:Str->Option xr}(F:K.In G) (I:G.Ns YF mg):∀{l:List (Str×Int)},QI K l->QJ mg l
 | [],_=>trivial
 |(_,_)::_,⟨⟨_,h⟩,k⟩=>⟨⟨_,a8 F I h,⟨_,rfl⟩⟩,qi_mg F I k⟩
inductive FM (K:Yi) (C:Addr):Prop
 |mk (_:MI K C "refuse_no_node" "Files.refuse_no_node" T9 "self node".1) (_:MI K C "refuse_dir" "Files.refuse_dir" MR "self node".1) (_:MI K C "refuse_no_file" "Files.refuse_no_file" Wu "self node".1) (_:MI K C "refuse_no_space" "Files.refuse_no_space" VS "self node size".1) (_:MI K C "put_name" "Files.put_name" Uv "self parent slots name node".1) (_:MI K C "drop_name" "Files.drop_name" UI "self parent name".1) (_:MI K C "put_whole" "Files.put_whole" VE "self node cells".1) (_:MI K C "end_left" "Files.end_left" WC "self node".1) (_:MI K C "find" "Files.find" WK "self path".1) (_:MI K C "make_node" "Files.make_node" UX "self path kind".1) (_:MI K C "make" "Files.make" V5 "self path".1) (_:MI K C "make_dir" "Files.make_dir" Uc "self path".1) (_:MI K C "names" "Files.names" MA "self path".1) (_:MI K C "free" "Files.free" Ut ["self"]) (_:MI K C "stat" "Files.stat" Vp "self node".1) (_:MI K C "read_at" "Files.read_at" Vf "self node at many".1) (_:MI K C "cut" "Files.cut" Uk "self node size".1) (_:MI K C "write_at" "Files.write_at" Vh "self node at cells".1) (_:MI K C "hold" "Files.hold" UP "self node".1) (_:MI K C "loose" "Files.loose" UB "self node".1) (_:MI K C "link" "Files.link" UT "self path new".1) (_:MI K C "unlink" "Files.unlink" US "self path".1) (_:MI K C "remove_dir" "Files.remove_dir" Vr "self path".1) (_:MI K C "move" "Files.move" VG "self path new".1):FM K C
variable{l:C0}
theorem all_mk{h0:Heap}{fa cD cR cN c1 cP c2 cB as ap am aT aX ar aY aN ay ad a3 a4 a0 ab b3 dq aK:Addr}{iO:Tok}{ea:Value}{ei:Option Addr}{e5:Array (Option Value)}{bR:Array Value}{nK:Nat}(L:K.In h0) (I:h0.Ns YF mg) (SV:mg "law" = some (.ref fa)) :
  CI K cD "Disk" -> AI K cD "blocks done until_fall fallen".1->CI K cR "Draft" -> AI K cR "disk drafted".1->CI K cN "Nodes" -> AI K cN "draft total".1->CI K c1 "DiskFiles" -> AI K c1 "nodes holds".1->CI K cP "PlainNodes" -> AI K cP "total kinds links lists".1->CI K c2 "PlainFiles" -> AI K c2 "nodes holds".1->MI K cD "refuse_no_block" "Disk.refuse_no_block" Dk.qI "self n".1->MI K cD "refuse_fallen" "Disk.refuse_fallen" Dk.vm ["self"]->MI K cD "read" "Disk.read" Dk.Fx "self n".1->MI K cD "write" "Disk.write" Dk.zt "self n numbers".1->MI K cD "image" "Disk.image" Dk.yQ ["self"]->DI K "forget" Dk.vp ["disk"]->DI K "recover" Dk.rM ["disk"]->DI K "commit" Dk.u7 "disk changes".1->MI K cD "fall" "Disk.fall" Dk.DL "self after".1->MI K cD "rise" "Disk.rise" Dk.Bl ["self"]->MI K cR "__init__" "Draft.__init__" VL "self disk".1->MI K cR "read" "Draft.read" UC "self n".1->MI K cR "write" "Draft.write" TK "self n numbers".1->MI K cR "finish" "Draft.finish" UZ ["self"]->MI K cN "block_of_row" "Nodes.block_of_row" WE "self n".1->DI K "filled" VI "numbers many".1->MI K cN "row_of" "Nodes.row_of" Ue "self n".1->MI K cN "put_row" "Nodes.put_row" WJ "self n kind links size blocks".1->MI K cN "kind_of" "Nodes.kind_of" WT "self n".1->MI K cN "links_of" "Nodes.links_of" Uo "self n".1->MI K cN "size_of" "Nodes.size_of" Vd "self n".1->MI K cN "end_node" "Nodes.end_node" Wo "self n".1->MI K cN "put_links" "Nodes.put_links" TZ "self n links".1->DI K "blocks_for" Ul ["size"]->MI K cN "cell_blocks" "Nodes.cell_blocks" Vu "self blocks".1->MI K cN "blocks_of" "Nodes.blocks_of" Wx "self n".1->MI K cN "cells_of" "Nodes.cells_of" UL "self n".1->MI K cN "finish" "Nodes.finish" Wd ["self"]->MI K cN "unused_blocks" "Nodes.unused_blocks" Wl ["self"]->MI K cN "put_cells" "Nodes.put_cells" Xc "self n cells".1->MI K cN "begin_node" "Nodes.begin_node" We "self n kind".1->MI K cP "kind_of" "PlainNodes.kind_of" V0 "self n".1->MI K cP "links_of" "PlainNodes.links_of" L5 "self n".1->MI K cP "size_of" "PlainNodes.size_of" N7 "self n".1->MI K cP "cells_of" "PlainNodes.cells_of" ND "self n".1->MI K cP "finish" "PlainNodes.finish" MT ["self"]->MI K cP "put_links" "PlainNodes.put_links" Oh "self n links".1->MI K cP "put_cells" "PlainNodes.put_cells" Ma "self n cells".1->MI K cP "begin_node" "PlainNodes.begin_node" Mo "self n kind".1->MI K cP "end_node" "PlainNodes.end_node" Oo "self n".1->DI K "free_nodes" U0 ["nodes"]->DI K "free_blocks" UG ["nodes"]->DI K "node_named" W8 "slots name".1->DI K "slots_without" V9 "slots name".1->DI K "cells_of_slot" Tr ["slot"]->DI K "slot_in" TR ["cells"]->DI K "put_slots" Vq "nodes n slots".1->DI K "slots_of" N6 "nodes n".1->DI K "lengthened" UK "cells size".1->DI K "is_name" Vt ["text"]->DI K "names_of" Vb ["path"]->DI K "names_in" Mu ["slots"]->DI K "refuse_full" Ud ["slots"]->DI K "slots_with" Mq "slots name node".1->DI K "refuse_no_dir" Uu "nodes n".1->DI K "way_along" Ua "nodes names".1->DI K "way_to_new" VB "nodes names".1->DI K "refuse_no_place" UR ["at"]->DI K "steps_within" Mp "nodes step".1->DI K "walk" V1 ["nodes"]->DI K "tree_row" Ui "files path node".1->DI K "tree" TB ["files"]->BI K cB "Files" "Files.__init__" VT "self nodes".1->MI K cN "__init__" "Nodes.__init__" V8 "self disk".1->MI K cP "__init__" "PlainNodes.__init__" MB "self total".1->MI K c1 "__init__" "DiskFiles.__init__" Vj "self disk".1->MI K c2 "__init__" "PlainFiles.__init__" W3 "self blocks".1->DI K "format_disk" Wf ["disk"]->DI K "end_nameless" Wt ["nodes"]->DI K "mount" Wq ["disk"]->DI K "_law_done" UM "_law_files _law_deed_here".1->DI K "_law_kind" VM ["_law_error"]->DI K "_law_told" UH "_law_files _law_deed_here".1->DI K "_law_alike" Vn "_law_found _law_due".1->DI K "_law_mixed" U9 "_law_cell _law_k".1->DI K "_law_digit" UO "_law_left_here _law_many".1->DI K "_law_left" U3 "_law_script _law_k".1->DI K "_law_path" U2 ["_law_left_here"]->DI K "_law_node" Xa ["_law_left_here"]->DI K "_law_deed" Wj ["_law_left_here"]->DI K "_law_alike_all" Um "_law_files _law_plain".1->DI K "_law_mounted" Ub "_law_disk _law_left_here".1->DI K "_law_rebuilt" T7 "_law_room _law_deeds".1->DI K "_law_fallen" Wb "_law_world _law_disk _law_deed_here _law_left_here".1->DI K "_law_step" UW "_law_world _law_disk _law_deed_here _law_left_here".1->MI K cD "__init__" "Disk.__init__" FN "self many".1->DI K "law" WO ["_law_script"]->FM K c1->FM K c2->QI K [("BLOCK_NUMBERS",16),("FIRST_LIST",2),("NODES",24),("FIRST_ROWS",28),("FIRST_CONTENTS",48),("ROW_NUMBERS",8),("ROW_BLOCKS",5),("NEAR_BLOCKS",4),("SLOT_CELLS",8),("NAME_LETTERS",6),("DIR_SLOTS",40),("NODE_CELLS",320),("ROOT",0)]->nsIn K YF "LETTERS" = some (some (.str uV iO))->NI K "len list range sorted enumerate all isinstance ValueError tuple int str bool zip abs min sum".1->nsIn K YF "NoBlock" = some (some (.ref b3))->nsIn K YF "KernelError" = some (some (.ref dq))->YI K (Bs++DR) [as,ap,am,aT,aX,ar,aY,aN,ay,ad,a3,a4,a0,ab]->XL K dq [as,ap,am,aT,aX,ar,aY,aN,ay,ad,a3,a4,a0,ab] [as,ap,am,aT,aX,ar,aY,aN,ay,ad,a3,a4,a0,ab] 0->excIn K b3 tQ "ValueError.__new__" = true->BK K (.ref ab) (.ref ab)=some true->nsIn K YF "KINDS" = some (some (.ref aK))->K.lookup aK=some #[ea,ei,.seq bR nK,e5]->ea=.type "tuple" -> ei=none->Si [V.bu,V.str "file",V.str "dir"] bR.toList->bR.size<=3 ->
  ∃fd:C6,(∀(s:ti) (v:Value),Uz s fd #[[v],[]] [("_law_script",v)])/\∀base:Heap,K.In base->base.Ns YF mg->aO l.prog w K mg base bj 18 fa fd ["_law_script"] (AS K):=by
 intro ia gX h3 e9 h4 i6 nh nS ge l3 m8 ms gY nt fR nB e6 fv l6 ii j2 ed j1 i0 nz ll je gb k7 m9 e8 lv it i1 h5 m4 ma n7 nj g3 oA mR hn n0 h6 f9 gE hL io hw m5 hM oo kS hJ ov gS gp f0 l0 lc oJ iF l5 e2 hc ly nL n1 lw g4 h8 gB hp iN ln fm nu kv op l4 lB ob kw dT ee g7 l2 k9 ip mN lp gK h7 i4 gC n2 n3 l7 c3 bK hQ ey hN kQ d4 yX vX vB lh yK lK oK dK vK wK;let#[hC,mo,gi,f1]:=ia;let#[ng,m6,lX,hg,_]:=gX;let#[ml,eY,e1,ox]:=h3;let#[fy,lf,_]:=e9;let#[co,gt,b1,cC]:=h4;let#[hT,nl,_]:=i6;let#[hh,e4,hk,oB]:=nh;let#[lj,g1,_]:=nS;let#[ns,gP,iv,mt]:=ge;let#[hy,mW,ji,n6,_]:=l3;let#[dp,hH,d6,eh]:=m8;let#[lm,kF,_]:=ms;let#[a5,bm,bv,eF,eS,d0,mr,hY,nT,nU,f6,hA,mF,n5,hq,eK,_]:=LC L I hN;let#[c6,m1,mb,fx,oe,m2,lY,fe,ef,eg,lg,hr,k0,_]:=qi_mg L I hQ;let#[fB,dB,FB,bB,aB,iB]:=iN;let#[o5,pd,gs,nq,d2]:=id n3;let#[o9,qa,ld,hl,db]:=id j1;let#[o8,pi,g9,ci,bc]:=id ln;let#[pr,py,hz,f7,em]:=id nu;let#[pT,pX,oH,fq,d5]:=id fm;let#[p4,oY,hS,ev,bn]:=id kv;let#[oV,zA3,lA,cg,c4]:=id fR;let#[po,o6,hj,b0,b4]:=id nB;let#[o4,pw,g8,en,dy]:=id gY;let#[pu,oX,f8,eb,dR]:=id nt;let#[pb,pn,cr,et,el]:=id fv;let#[oT,pa,c0,dv,ep]:=id l6;let#[p3,oL,eN,hK,hf]:=id ii;let#[o2,g0,ew,o0,im]:=id l7;let e:=SV.symm.trans (a8 L I im);cases e;refine#[g0,λs v=>?_,λbase _ _=>?_]
 .let#[oc,od,kV,p5,pm,an,pV,ct,o1,rfl,lk,p0]:=ew.ex;show .of_eq rfl
 let TC:Dk.Txt K mg cD:=#[mo,ng,m6,lX,hg,a5,bm,bv,c6];let JT:Dk.Jo mg:=#[c6,m1,eF,eS,a5,bv];let TD:Dr K mg #[cD,cR]:=#[eY,fy,lf,bm,a5];let KT:∀a,(∃u,mg "KINDS" = some u/\zH (.ref a) u)->∃o,K.lookup a=some o/\o.cls=.type "tuple" /\ o.dict=none:=λa ⟨u,hu,r⟩=>by
  let e:=hu.symm.trans (a8 L I yK);cases e;cases r;show#[_,lK,oK,dK]
 let U:mY K mg cN:=#[gt,hT,nl,c6,mb,fx,oe,m2,lY,fe,#[aK,#[_,a8 L I yK,rfl],.inr #[_,bR,nK,lK,oK,rfl,Oi wK az,vK]],KT,a5,bv,eS];let TP:Di K mg cP:=#[gP,hy,mW,ji,n6,a5,bm];let TL:SU K mg:=#[#[_,a8 L I ey,#[_,rfl]],ef,eg];let#[x1,x2,x3,x4,x5,x6]:=Qe L I yX vX rfl;let Y:l9 K mg (y6 [as,ap,am,aT,aX,ar,aY,aN,ay,ad,a3,a4,a0,ab]):=#[x1,x2,#[_,a8 L I ey,#[_,rfl]],eg,ef,lg,hr,k0,a5,d0,bm,eF];let LW:vA K mg (y6 [as,ap,am,aT,aX,ar,aY,aN,ay,ad,a3,a4,a0,ab]):=#[mr,hY,bm,nT,nU,f6,hA,a5,d0,mF,n5,hq,bv,x3,x5,x6];let bi:fI K c1:=#[e4,lj,g1];let a6:fI K c2:=#[hH,lm,kF];let XT:Dk.Kf K mg "NoBlock" b3:=#[a8 L I kQ,vB];let XF:Dk.Kf K mg "Fallen" ab:=#[x1 .fallen,x2 .fallen];let dD:∀{CX:pJ}{n:Nat}{x:Str}{st:Yv}{ps:List Str}{sp:Sp},DI K x st ps->(∀{f fd},bV K x x st f fd->aO l.prog w K mg base CX n f fd ps sp)->Df l.prog w K mg base CX n x sp:=λh k=>h.df L I k;let G:∀{CX:pJ}{n:Nat}{C:Addr}{m q:Str}{st:Yv}{ps:List Str}{sp:Sp},MI K C m q st ps->(∀{f fd},bV K m q st f fd->aO l.prog w K mg base CX n f fd ps sp)->Md l.prog w K mg base CX n C m sp:=λh k=>h.md k;let gN:=Dk.y8 (P:=l.prog) (w:=w) (base:=base) g8 TC XT;let gF:=Dk.B7 (P:=l.prog) (w:=w) (base:=base) f8 TC XF;let gR:=Dk.HP lA TC gN en dy gF eb dR;let gW:=Dk.FQ hj TC gN en dy gF eb dR;let dN:=Dk.CJ cr JT TC gW b0 b4;let gV:=Dk.yS c0 JT TC gR cg c4 gW b0 b4 dN #[a8 L I el,cr.kp,et];let nf:=Dk.Cf eN JT TC gR cg c4 gW b0 b4 gV #[a8 L I ep,c0.kp,dv];let on:=Df.mk _ _ _ dN et (a8 L I el) cr.kp;let nF:=Df.mk _ _ _ gV dv (a8 L I ep) c0.kp;let fh:=Df.mk _ _ _ nf hK (a8 L I hf) eN.kp;let d1:=Md.mk _ _ _ gR cg c4;let gd:=G e6 λF=>Dk.GY F TC;let hO:=Ht (P:=l.prog) (w:=w) (base:=base) ld TD;let bz:=G i0 λF=>Hi F TD TC d1;let dw:=G nz λF=>BO F TD;let jj:=G ll λF=>yO F TD TC d1 fh;let eq:=G je λF=>KD F U;let dr:=dD gb λF=>KJ F U;let bd:=G k7 λF=>EA F U TD eq bz;let bY:=G m9 λF=>Cq F U TD eq bz dw dr;let f3:=G e8 λF=>BD F U bd;let dz:=G lv λF=>yH F U bd;let ez:=G it λF=>CL F U bd;let c5:=G i1 λF=>yV F U bY;let iy:=G h5 λF=>xa F U bd bY;let bN:=dD m4 λF=>um F U;let eA:=G ma λF=>sM F U;let cm:=G n7 λF=>xO F U TD bd bN bz;let hb:=G nj λF=>yP F U TD cm eA bz ez;let cc:=G g3 λF=>yW F U TD jj;let fc:=G oA λF=>CM F U cm;let hD:=G mR λF=>xQ F U TD cm fc bN eA dw dr bd bY;let eC:=G hn λF=>vN F U bY;let O1:=Nq (CF:=ab) U f3 dz ez hb eC c5 iy hD cc;let kE:=G n0 λF=>Dw F TP;let oy:=G h6 λF=>Ct F TP;let ij:=G f9 λF=>Gw F TP;let n8:=G gE λF=>Cd F TP;let lu:=G hL λF=>Jv F TP;let nr:=G io λF=>Eg F TP;let li:=G hw λF=>Ei F TP;let mm:=G m5 λF=>Bz F TP;let nw:=G hM λF=>JM F TP;let O2:=ML TP kE oy ij n8 mm nw nr li lu;let kT:=dD hJ λF=>vE F;let eo:=dD ov λF=>pG F;let g5:=dD gS λF=>rY F U TL;let nH:=dD gp λF=>BC F U TL;let eu:=dD lc λF=>sP F U;let kk:=dD oJ λF=>CG F Y;let bb:=dD iF λF=>yu F Y kk;let bF:=dD l5 λF=>yo F Y;let c7:=dD e2 λF=>sr F Y bF;let k8:=dD hc λF=>vM F Y;let ca:=dD lw λF=>nP F Y;let hG:=xP (P:=l.prog) (w:=w) (base:=base) (mg:=mg) FB bi;let n4:=xP (P:=l.prog) (w:=w) (base:=base) (mg:=mg) FB a6;let cv:=uD g9 U TC #[e1,db.at_,db.fn,ox] hO (a8 L I ml) hl gd;let kN:=uL (P:=l.prog) (w:=w) (base:=base) oH TP Y;let g6:=u9 (CX:=ab) hz #[_,a8 L I aB,rfl] iB hG bB #[b1,bc.at_,bc.fn,cC] cv (a8 L I co) ci;let eJ:=sF hS #[_,a8 L I aB,rfl] iB n4 bB #[iv,d5.at_,d5.fn,mt] kN (a8 L I ns) fq;let i2:=dD op λF=>BQ F U Y on #[b1,bc.at_,bc.fn,cC] cv (a8 L I co) ci c5 eC cc;let hZ:=dD l4 λF=>qS F U dz c5 cc;let ej:=dD lB λF=>DT F nF hZ #[b1,bc.at_,bc.fn,cC] cv (a8 L I co) ci #[hk,em.at_,em.fn,oB] g6 (a8 L I hh) f7;let eH:=dD kw λF=>Iw F Y LW;let AF:∀{M:b7}{C:Addr},M.Ok l.prog w K mg base->fI K C->FM K C->Df l.prog w K mg base (bO l.prog w) 13 "_law_done" (JE M C (y6 [as,ap,am,aT,aX,ar,aY,aN,ay,ad,a3,a4,a0,ab]))/\Md l.prog w K mg base bj 9 C "free" (BU M C)/\Df l.prog w K mg base bj 12 "tree" (Gi M C)/\Md l.prog w K mg base (bO l.prog w) 9 C "loose" (Hm M C (y6 [as,ap,am,aT,aX,ar,aY,aN,ay,ad,a3,a4,a0,ab])):=by
  intro M C O Z hF;let#[m3,jt,nD,my,il,la,f4,fu,ib,ol,fg,hm,hv,fi,fA,l8,hP,ls,jx,hX,jl,oD,ha,ho]:=hF;let ek:=dD oo λF=>uM F U O;let dd:=dD kS λF=>sQ F U (eK) O bN;let b5:=dD f0 λF=>xp F U O g5;let ac:=dD l0 λF=>yT F U TL O nH;let bW:=dD ly λF=>qC F Y O;let a7:=dD nL λF=>wR F Y O bW kT ac;let ce:=dD n1 λF=>xf F Y O a7 bW bF ac;let da:=G m3 λF=>pQ F Y Z O;let b2:=G jt λF=>vJ F Y Z O;let bx:=G nD λF=>pR F Y Z O da b2;let eD:=G my λF=>nX F Y Z O bN dd;let cE:=G il λF=>yq F Y Z O k8 eD b5;let dL:=G la λF=>yb F Z O eo ac b5;let eP:=G f4 λF=>wj F Y Z O eD;let eL:=G fu λF=>yt F Z O;let mK:=G ib λF=>Jl F Z O bb a7;let dY:=G ol λF=>wH F Y Z O bb ce ac c7 ek cE;let hE:=G fg λF=>Ke F Z dY;let e7:=G hm λF=>zr F Z dY;let pD:=G hv λF=>E1 F Z O mK bW bF ac;let d3:=G fi λF=>Jx F Y Z O ek dd;let hW:=G fA λF=>KG F Y Z O da;let er:=G l8 λF=>Cg F Z O bx ca;let ih:=G hP λF=>OW F Z O bx ca eu eP;let ft:=G ls λF=>yJ F Y Z O bx ca eu eP;let m7:=G jx λF=>IX F Z O bx;let dA:=G hX λF=>EM F Y Z O da eL;let hR:=G jl λF=>KQ F Z O bb a7 b2 ce ac c7 cE;let jr:=G oD λF=>Cc F Z O bb a7 b2 dL eL;let lr:=G ha λF=>vF F Y Z O bb a7 bW bF ac dL;let ht:=G ho λF=>IB F Y Z O bb a7 ce ac eo c7 cE b5;let hI:=dD g4 λF=>rD F O ac;let kj:=dD h8 λF=>Jt F Y O hI;let nN:=dD gB λF=>zA F Z O hW er;let he:=dD hp λF=>HW F Z O kj nN;let mu:=dD ob λF=>Kq F Y Z O hE e7 jr lr m7 dA hR ht ih er ft d3;show#[mu,d3,he,dA]
 let eT:=dD dT λF=>aO.ex (sp:=λa:NS×Addr×Addr=>yB (j7 #[cD,cR] ab cN a.1 a.2) c1 (y6 [as,ap,am,aT,aX,ar,aY,aN,ay,ad,a3,a4,a0,ab])) λa=>z9 (λ_=>rfl) F (O1 a.1 a.2) (a8 L I d4) x4 (AF (O1 a.1 a.2) bi c3).1 eH;let dV:=dD dT λF=>z9 (M:=hV cP) (λq=>Zc q) F O2 (a8 L I d4) x4 (AF O2 a6 bK).1 eH;let ec:=G j2 λF=>Dk.IY F TC;let cx:=G ed λF=>Dk.Il F TC;let#[o7,p1,gL,f5,mc]:=id ed;let m0:Tz l.prog w K mg base 1 cD "rise" (Dk.lS cD):=#[_,_,_,mc,f5,λhx=>Dk.Hh gL TC];let GA:∀n,Df l.prog w K mg base bj n "_law_alike" (xF n):=λn=>by
  induction n with
  |zero=>show dD ee λF=>Q8
  |succ n h=>show dD ee λF=>BZ F LW n h
 let dF:=dD g7 λF=>Hu F;let be:=dD l2 λF=>Gd F;let hB:=dD k9 λF=>JR F LW dF;let hd:=dD ip λF=>HV F LW be;let ga:=dD mN λF=>KP F be;let fV:=dD lp λF=>JY F be hd ga;let dX:=dD gK λF=>aO.ex (sp:=λa:NS×Addr×Addr=>F0 (j7 #[cD,cR] ab cN a.1 a.2) (hV cP) c1 c2) λa=>xX F bi a6 (O1 a.1 a.2) O2 (AF (O1 a.1 a.2) bi c3).2.2.1 (AF O2 a6 bK).2.2.1 (AF (O1 a.1 a.2) bi c3).2.1 (AF O2 a6 bK).2.1 (GA 4) (GA 2);let e0:=dD h7 λF=>zy F LW TC (x1 .fallen) lh be ec cx m0 ej;let fW:=dD i4 λF=>zk F LW a6 O2 dV (AF O2 a6 bK).2.2.2 #[d6,bn.at_,bn.fn,eh] eJ (a8 L I dp) ev;let gm:=dD gC λF=>va F TC O1 O2 cx e0 fW dX;let jp:=dD n2 λF=>Ip F TC O1 O2 cx eT dV gm (GA 2);let kb:=FF (P:=l.prog) (w:=w) (base:=base) gs TC;show MK ew LW (eK) TC O1 O2 dF hB be fV jp dX i2 ej ec #[gi,d2.at_,d2.fn,f1] kb (a8 L I hC) nq #[d6,bn.at_,bn.fn,eh] eJ (a8 L I dp) ev
theorem walk{q:By}{loose:List Str}{XP:(Str->Option Value)->Heap->Prop}{G:L3->Heap->Prop}{d:DefRec}{K:Params->Yi}(U:l.most=some 63) (Y:d.params.defaults=[])
  (hY:∀(w:L3) (h:Heap),G w h->(K w.params).In h)
  (F:∀(w:L3) (mg:Str->Option Value) (I:Addr) (h:Heap),(K w.params).In h->h.Ns YF mg->mg d.name=some (.ref I) ->
   ∃fd:C6,(∀(s:ti) (u:Value),Uz s fd #[[u],[]] [("_law_script",u)])/\∀base:Heap,(K w.params).In base->base.Ns YF mg->aO l.prog w (K w.params) mg base bj 18 I fd ["_law_script"] (AS (K w.params))) :
  Rq q loose XP G l.row.toRowW d [] (λf vs=>Sq f vs):=
 L2.Ku (n:=63) (k:=18) (x := "_law_script") (CX:=λ_=>bj) (sp:=λw=>AS (K w.params)) U az Y #[rfl,az,az] hY F (λ_ _ a ns L _ Z=>#[a,ns,rfl,Z,L,λ_=>rfl]) λ_ _ _ _ _ z=>z
end
end Fs
end
open PySem PySem.W PyProof.Rows
theorem PySem.Challenge.cw_ownroom_k94_whole_files_behind_falls_holds : PySem.Challenge.rw_ownroom_k94_whole_files_behind_falls.Holds := by
 refine Hd.top2 ?_
 k_fill
 refine Fs.walk (l:=PySem.Challenge.rw_ownroom_k94_whole_files_behind_falls) rfl rfl (λw h Y=>PySem.W.kIn_of Y) ?F
 case F =>
  intro w mg fa h KX G hmg;apply Fs.all_mk KX G hmg
  all_goals try apply Fs.FM.mk
  all_goals first
   |(apply Fs.MI.of<;>first|k_is|(first|exact λ_ _ _ _ _ _ _=>rfl|exact λ_ _ _ _ _ _ _ _=>rfl|exact λ_ _ _ _ _ _ _ _ _=>rfl|exact λ_ _ _ _ _ _ _ _ _ _=>rfl|exact λ_ _ _ _ _ _ _ _ _ _ _=>rfl|exact λ_ _ _ _ _ _ _ _ _ _ _ _=>rfl))
   |(apply Fs.DI.of<;>first|k_is|(first|exact λ_ _ _ _ _ _ _=>rfl|exact λ_ _ _ _ _ _ _ _=>rfl|exact λ_ _ _ _ _ _ _ _ _=>rfl|exact λ_ _ _ _ _ _ _ _ _ _=>rfl|exact λ_ _ _ _ _ _ _ _ _ _ _=>rfl|exact λ_ _ _ _ _ _ _ _ _ _ _ _=>rfl))
   |(apply Fs.CI.mk;k_is;(constructor<;>k_is);k_is;k_is)
   |(unfold Fs.NI;repeat' first|apply And.intro|exact trivial|k_is|unfold Fs.NI)
   |(unfold Fs.AI;repeat' first|apply And.intro|exact trivial|k_is|unfold Fs.AI)
   |(apply Fs.BI.of<;>first|k_is|(first|exact λ_ _ _ _ _ _ _=>rfl|exact λ_ _ _ _ _ _ _ _=>rfl))
   |k_is|rfl|k_exc|exact .cons rfl (.cons ⟨_,rfl⟩ (.cons ⟨_,rfl⟩ .nil))|exact le_refl 3
   |(repeat' first|exact trivial|refine And.intro ?_ ?_|apply Fs.XI.mk|refine Exists.intro _ ?_|k_exc|kts_exm|kit_is|k_is|(constructor<;>k_is))
