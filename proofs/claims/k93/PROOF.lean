import PyProof.Rows.All
import KE.KDictSum
import KE.KDictOf
import KE.LcSums
import KE.KItem
import KE.KEqDict
import KE.KFromBytes
import KE.KSortTup
import KE.RegKIsAll
import KE.RegKTryMore
import PySem.Challenge.RW_ownroom_k93_whole_plain_and_disk
set_option compiler.extract_closed false
inductive zt {α β:Type}(p:α->β->Prop):Prop
 |mk (x0:α) (x1:β) (_:p x0 x1):zt p
inductive OC {α β γ:Type}(p:α->β->γ->Prop):Prop
 |mk (x0:α) (x1:β) (x2:γ) (_:p x0 x1 x2):OC p
inductive OD {α β γ δ:Type}(p:α->β->γ->δ->Prop):Prop
 |mk (x0:α) (x1:β) (x2:γ) (x3:δ) (_:p x0 x1 x2 x3):OD p
inductive Ly {α β γ δ ε:Type}(p:α->β->γ->δ->ε->Prop):Prop
 |mk (x0:α) (x1:β) (x2:γ) (x3:δ) (x4:ε) (_:p x0 x1 x2 x3 x4):Ly p
inductive Nk {α β γ δ ε ζ:Type}(p:α->β->γ->δ->ε->ζ->Prop):Prop
 |mk (x0:α) (x1:β) (x2:γ) (x3:δ) (x4:ε) (x5:ζ) (_:p x0 x1 x2 x3 x4 x5):Nk p
inductive kZ (A0 A1 A2:Prop):Prop
 |mk (_:A0) (_:A1) (_:A2):kZ A0 A1 A2
inductive K0 (A0 A1 A2 A3:Prop):Prop
 |mk (_:A0) (_:A1) (_:A2) (_:A3):K0 A0 A1 A2 A3
inductive Ia (A0 A1 A2 A3 A4:Prop):Prop
 |mk (_:A0) (_:A1) (_:A2) (_:A3) (_:A4):Ia A0 A1 A2 A3 A4
inductive Ef (A0 A1 A2 A3 A4 A5:Prop):Prop
 |mk (_:A0) (_:A1) (_:A2) (_:A3) (_:A4) (_:A5):Ef A0 A1 A2 A3 A4 A5
local macro_rules|`(%[|1])=>`(by intro p hp;simp only[List.mem_cons,List.not_mem_nil,or_false]at hp;rcases hp with hp<;>subst hp<;>first|rfl|exact⟨rfl,.inl rfl,.inl rfl⟩|exact⟨rfl,.inl rfl,.inr rfl⟩)
local macro_rules|`(%[|2])=>`(by intro p hp;simp only[List.mem_cons,List.not_mem_nil,or_false]at hp;rcases hp with hp|hp<;>subst hp<;>first|rfl|exact⟨rfl,.inl rfl,.inl rfl⟩|exact⟨rfl,.inl rfl,.inr rfl⟩)
theorem bZ {α F G:Sort _}{f:α->F->G}(a:α) (b:F):f a b=f a b:=rfl
theorem vA:1<=PySem.sizeLine:=by(decide)
theorem N8:2<=PySem.sizeLine:=by(decide)
theorem Q2:3<=PySem.sizeLine:=by(decide)
theorem PH:(0:Int)<2:=by(decide)
theorem RX:(0:Int)<3:=by(decide)
set_option Elab.async false
set_option linter.all false
set_option genSizeOf false
set_option genInjectivity false
set_option tactic.hygienic false
set_option maxRecDepth 100000
open PySem.W (Frag)
set_option maxHeartbeats 0
local macro_rules | `(tactic| omega) => `(tactic| lia)
theorem av {p:Prop}(h:p:=by decide +kernel):p:=h
theorem az {p:Prop}(h:p:=by decide):p:=h
theorem af {p:Prop}(h:p:=by omega):p:=h
open PySem.W (instObj methodObj hideAll hideAll_get of_hideAll lookIn hasDictIn handedIn isFn plainOver takerIn makesIn emptyDict kitx_list kitx_dict callWith_K0 fnOf exmOne kat_cons kat_yes nsIn)
open PyProof.Rows (iadd_int isub_int)
open List (map_nil all_cons foldl all_map any_map map_drop sum_append)
open Nat (le_refl sub_le le_of_ble_eq_true)
open Option (getD_none map_some map_none bind_some none_or some_or isNone)
open Array (toList)
open PySem
open _root_.PySem renaming Shared->dM,wpAny_bind->ti,sizeLine_eq->y1,Program->By,FuncData->DD,World->R4,Stmt->Tg,Around->Th,mainGlobals->To,Expr->Tr,bootBuiltins->TV,wpAny_mono->TY,boot_len->T7,Spec->Uc,wpAny_passesOwn->Uq,compareOp->Uz,mem_of_lookup->UK,lookup_relabel_local->US,wpAny_truthy_bool->UT,wpAny_execs_nil->UW,wpAny_holding->U1,keywordEach->U2,Builtin->U3,wpAny_Call_Name_kw->U7,call_meets->U8,tupleKind_room_in1->Va,sysModules->Vl,wpAny_field->Vu,Pos->Vw,foldedSetIterable->VH,holding->VT,wpAny_call_entry->VW,isinstance_tuple->VX,attributeBase->VZ,cLine->V0,backToKw->V1,wpAny_attempt->V3,wpAny_comprehension_free->V4,call_isinstance->Wa,wpAny_rule->Wf,wpAny_setField_rec->Wg,swapsWith->Wj,sliceBounds->Wm,strIterType->Wq,wpAny_seqItems->Wy,wpAny_execs_cons->WD,typeIs_str->WH,IsPair->WM,behindInMarks->WQ,Sem->WT,binaryOp->WU,letOwnedTupleGo->W7,standAt->Xk,codeAny->Xl,codeAny_mono->Xm,call_meetsIn->Xn,tupleKind->Xp,Scope->Xt,assignEach->Xu,callWith->Xw,wpAny_FormattedValue_plain->XE,reprText->XJ,Model->XS,wpAny_newObj_type->X0,wpAny_Call_method->X1,wpAny_standAt->X4,Env->X9,wpAny_callSpecial?_slot->Yi,wpAny_pyNext_range_end->Yl,wpAny_pyIter_rangeiter->Ym,wpAny_call->Yn,Keyword->Yo,typeOf->Ys,wpAny_noteFrame_againW->Yw,valueAt->Yx,wpAny_isTrue_Compare1->YE,wpAny_formatField_str->YN,IsRangeIter->YS,subscripted->YT,codeAny_call_builtin->YY,underTheClaimsCaller->YZ,wpAny_setField->Y4,wpAny_updateSeq_pair->Y5,callerA->Zc,codeAny_forLoop_any->Zf,wpAny_Tuple_spliced->Zg,wpAny_newList->Zn,frameOf->Zo,assign->Zr,rawInt->Zs,wpAny_pyIter_range->Zt,wpAny_pyIter_tuple->Zz,Within->ZE,wpAny_Return_some->ZF,wpAny_assign_Name->ZG,wpAny_Assign_Name->ZH,wpAny_pyIter_list->ZJ,BindsTo->ZO,bindArgs->ZP,getItem->ZQ,slot_list_getitem->ZR,entryPlaceOf->ZZ,wpAny_pyIter_enum->Z4,IsZip->Z5,PassesOwn->aac,strValues->aal,seqIndex_of->aap,atKey->aat,spliced->aaE,Operator->aaH,call->aaL,compEnvC->aaQ
open _root_.List renaming length_map->rz,getElem?_eq_getElem->tp,length_append->wh,getElem?_eq_some_iff->y0,mem_singleton->DO,length_take->HC,replicate->IF,map_append->K4,mem_append_right->L3,getElem?_map->M4,take_of_length_le->OR,mem_of_getElem?->SO,getElem?_append_right->SQ,getElem?_append_left->SW,mem_append->SY,mem_cons_of_mem->S0,size_toArray->S9,mem_map->Tc,append_assoc->Te,mem_cons_self->Tf,mem_cons->Ti,length_singleton->Tj,append_nil->Tq,length_drop->Tu,dropLast_concat_getLast->TB,length_cons->TH,range->TM,pairwise_append->TN,nodup_cons->TQ,take_append_drop->TR,pairwise_iff_getElem->TU,map_cons->T8,nodup_append->Ud,mem_filter->Ue,mem_append_left->Ug,length_replicate->Uh,length_eq_zero_iff->Ui,drop_of_length_le->Uk,take_add_one->Um,getElem?_set_ne->Uo,filter_cons_of_neg->Uw,mem_of_mem_take->Ux,getElem_mem->UA,getElem?_take->UC,filter_cons_of_pos->UE,length_filter_le->UG,take_length->UH,getElem?_set_self->UI,mem_of_mem_drop->UL,mem_reverse->UO,getElem?_drop->UP,replicate_succ->UQ,drop_eq_getElem_cons->UR,take_zero->UU,not_mem_nil->U4,filter_append->U5,all_eq_true->U6,extract_eq_take_drop->Vd,flatten_cons->Vf,mem_iff_getElem->Vh,take_append->Vk,length_filterMap_le->Vo,nodup_nil->Vr,mergeSort_perm->Vs,length->Vt,eq_nil_of_length_eq_zero->Vv,getElem?_replicate->Vx,take_sublist->Vy,getElem?_of_mem->VE,drop_zero->VG,map_map->VM,range_succ->VQ,flatten_append->VR,perm_append_comm->VU,getElem?_eq_none_iff->VY,map_replicate->V6,mem_filterMap->Wb,length_set->Wd,filter_nil->Wh,lookup->Wl,filterMap_cons->Ws,drop_sublist->Wu,ext_getElem?->Ww,pairwise_map->Wx,findIdx_le_length->WA,mem_iff_getElem?->WC,nil_append->WJ,find?_cons->WL,reverse_reverse->WX,filter_cons->WY,getLast?_append->W5,countP_eq_length_filter->Xc,dropLast_concat->Xd,mem_map_of_mem->Xf,getElem_of_mem->Xg,findSome?_cons->Xi,length_range->Xo,mem_range->Xs,reverse_append->XC,getLastD_eq_getLast?->XQ,not_lt->X2,getElem_inj->Ya,map_fst_zip->Yb,countP_cons->Ye,pairwise_mergeSort->Yf,cons_ne_nil->Yk,of_mem_zip->Yp,length_nil->Yt,range_succ_eq_map->Yv,findIdx_eq_length->YA,getElem?_eq_none->YO,findSome?_append->YQ,filterMap_append->YR,map->Y0,replicate_succ'->Y6,take_nil->Y7,drop_append->Y8,drop_drop->Zd,map_congr_left->Zi,filter_sublist->Zj,replicate_zero->Zk,count_cons->ZA,count_pos_iff->ZC,any_eq_false->ZK,any_cons->ZS,getElem_drop->ZT,getElem_take->ZU,map_take->Z7,findIdx_cons->aaa,foldl_append->aab,getElem_map->aaj,nodup_range->aam,filter_map->aaB,take_take->aaO,lt_irrefl->aaR,sum_cons->aaV,drop_nil->aaW
open _root_.PyProof.Rows renaming wpS_bind->vu,wpS_pure->BY,Keyed->SR,arrOf->SX,pendingOf->Tv,SortSt->TZ,wpS_forRange->T9,callWith_type1->Ut,wpS_mono->UM,IntsAre->Vp,wpS_modify->Vz,wpS_get->VI,pairsOf->VL,pairsOf_toList->VN,failedOf->V2,size_push'->WK,wpS_lift->WW,getElem?_bubble->W9,getElem?_mirror_all->Xe,AllBare->Xj,envOfC->Xx,subscriptTail_builtinR->Yr,pairsOf_size->Yu,subscriptTail->Zl,listUpdate_at->Zm,Subscript_->Zu,oneType'->ZY,mirror->aaf,seqEpoch_at->aaq,SortKind->aaM
open _root_.Nat renaming le_refl->G0,le_trans->Td,zero_le->Tp,lt_of_lt_of_le->Tz,le_of_not_lt->Ub,ne_of_lt->Ul,lt_of_le_of_ne->Ur,le_of_add_right_le->U0,add_lt_of_lt_sub'->Vc,pred_eq_succ_iff->Vi,sub_succ_lt_self->Vq,le_sub_iff_add_le'->VB,lt_of_lt_of_eq->VC,one_le_iff_ne_zero->VD,eq_of_lt_succ_of_not_lt->VJ,sub_self->V7,lt_of_le_of_lt->We,lt_irrefl->Wi,add_le_add_iff_left->Wn,min_eq_left->Wo,le_of_lt_succ->Wt,lt_of_succ_lt->Wv,min_eq_right->Wz,le_of_ble_eq_true->WB,lt_succ_self->WE,add_sub_of_le->WS,add_le_add_right->WZ,sub_lt_left_of_lt_add->XN,le_of_succ_le->XY,lt_succ_of_lt->XZ,eq_zero_of_not_pos->YB,add_sub_self_left->YH,le_sub_of_add_le'->YJ,sub_one_lt_of_le->YW,add_le_add->YX,le_succ->Zb,add_le_add_left->Zh,sub_add_cancel->Zv,ne_of_gt->ZI,le_of_eq->ZL,succ_le_of_lt->ZV,zero_lt_of_lt->ZW,zero_add->ZX,sub_lt_of_lt->aag,le_add_right->aak,le_antisymm->aaw,not_lt_zero->aaC,le_of_lt->aaG,lt_trans->aaN
open _root_.Sum renaming inl->NC,inr->Za
open _root_.Bool renaming false_ne_true->SM,false_eq_true->U9,eq_false_iff->Vj,and_eq_true->WI,eq_iff_iff->W8,and_false->aaK,false_or->aaT
open _root_.Option.some renaming inj->SN,injEq->UB
open _root_.PySem.W renaming Frag->SU,kitOne->Tn,findIn->Ua,keepIn->Uu,kia_one->Uv,mg_of->VF,specialIn->Wc,callWith_K->WG,methodCall_KW->WR,OpenLaw->WV,looks_findIn->Xv,cellsFrom_some->Yq,takesIn->YF,mroIn->YG,Looks->Ze,typeIn->aad,plainGet_of->aao,excIn->aas,WalkO->aaF,plainGet->aaI,codeIn->aaJ
open _root_.Option renaming map_eq_some_iff->SV,isSome_iff_exists->Vm,bind_some->Xr,map_eq_none_iff->Yz,isSome_map->Zx,map_some->Z3,none->aa0
open _root_.PySem.PassesOwn renaming never->TK
open _root_.Int renaming le_of_lt->T6,le_trans->UZ,le_refl->Vg,toNat_natCast->Vn,toNat_of_nonneg->Xh,lt_of_lt_of_le->Xz,lt_of_le_of_lt->XA,emod_lt_of_pos->ZD,emod_nonneg->aaD
open _root_.Array renaming length_toList->Uj,toList_append->Us,perm_iff_toList_perm->UJ,getElem?_toList->UX,toList_extract->XB,toList_reverse->XD,getElem?_eq_some_iff->XG,toList_push->XW,size_push->aah,toList_inj->aai,size_map->aaP
open _root_.PySem.F renaming plainAttrs_list->Uy,slot_str_split->VP,plainAttrs_str->VS,slot_dict_get->V5,slot_list_append->V8,type_list_append->V9,slot_list_extend->WN,type_list_extend->WO,slot_list_index->Xb,entry_dict_get->XH,args_list_index_2->XO,slot_tuple_index->X7,entry_list_index->X8,args_dict_get_2->Yc,args_dict_get_3->Yd,slot_list_count->Yg,args_str_split_2->Yh,type_list_index->Yj,slot_str_index->Yy,plainAttrs_dict->YC,entry_str_split->YD,slot_dict_pop->YK,type_dict_get->YL,type_str_split->Y9
open _root_.False renaming elim->UD
open _root_.True renaming intro->UN
open _root_.List.Perm renaming append_right->UY,append_left->Vb,trans->Xa,eq_of_pairwise->X5,refl->aaS
open _root_.Classical renaming byContradiction->Ve
open _root_.Iff renaming mpr->VA
open _root_.PySem.Sem renaming wp->VO,attempt->aar
open _root_.PySem.Builtin.Str renaming occurrences->W0
open _root_.PySem.Challenge renaming pw_ownroom_k93_whole_plain_and_disk->Xq
open _root_.PySem.SeqAt renaming EqAt->Xy,list_indexAt->Zy,in_listAt->aav
open _root_.List.Nodup renaming sublist->XM
open _root_.List.Pairwise renaming nil->XU,imp_of_mem->X6,map->Z9
open _root_.Eq renaming symm->XX
open _root_.PySem.StrLaws renaming partsFrom->X3
open _root_.PySem.Answers renaming of_false_none->YM,of_false_int->Y2,of_false_str->Y3,of_true->aaA
open _root_.PySem.SeqAt.EqAt renaming bool_bool->YU,int_str->Zp,str_int->Zq,same->aau
open _root_.Or renaming inl->YV,inr->aaX
open _root_.Std.Legacy.Range renaming forIn_eq_forIn_range'->Y1,size->aaY
open _root_.PyProof.Rows.SortSt renaming mk'->Zw
open _root_.PySem.Around renaming under->ZM
open _root_.PySem.Code renaming isFrame->ZN
open _root_.PySem.SeqAt.RcNeAt renaming lists_lengths->Z0,lists->aaU
open _root_.Decidable renaming not_not->Z8
open _root_.PySem.IsL renaming update->aae
open _root_.Sum.inl renaming inj->aan
open _root_.Array.Perm renaming refl->aax
open _root_.ForInStep renaming yield->aay
open _root_.PySem.W.Looks renaming ld->aaz
open _root_.PySem.IsRange renaming new->aaZ
open _root_.PySem.Shared renaming heap->aa1
theorem aa2 {c:Prop}{h:Decidable c}(n:¬c){α:Sort u}{t e:α}:ite c t e=e:=if_neg n
theorem aa3 {c:Prop}{h:Decidable c}(n:c){α:Sort u}{t e:α}:ite c t e=t:=if_pos n
abbrev qa0:=Addr->Prop
abbrev qa1:=List (Addr×Obj)
abbrev qa2:=Value->dM->Prop
abbrev qa3:=Str->Option Value
abbrev qa4:=Int->List Int
abbrev qa5:=Array Value
abbrev qa6:=List Value
abbrev qa7:=Option Value
abbrev qa8:=Option Addr
theorem qAk(n:Nat):(0:Int)<Int.ofNat (n+1):=Int.ofNat_lt.mpr (Nat.succ_pos n)
abbrev qAg:=List X9
abbrev qAf:=List Tr
abbrev qAe:=Array SR
abbrev qAd:=Option Int
abbrev qAc:=List Addr
abbrev qAb:=List Str
abbrev qAa:=List Int
theorem zau (h:True:=by first|rfl|decide|(intro _;rfl)|exact .inl rfl|exact .inr rfl|assumption):True:=h
section
namespace Hd
open PySem PySem.W PyProof.Rows
def rp:List Obj->List Obj×List Obj
 | []=>([],[])
 | [a]=>([a],[])
 |a::b::r=>(a::(rp r).1,b::(rp r).2)
def build:Nat->List Obj->BT
 |0,_=>.nil
 |_+1,[]=>.nil
 |f+1,o::r=>.node o (build f (rp r).1) (build f (rp r).2)
def topT (tb:String->Option Builtin) (p:Program) (w:World) (m:Nat) (an:Option Value):Nat->SharedT->Thread->Option SharedT
 |0,_,_=>none
 |k+1,x,t=>match through t with
  |true=>some x
  |false=>match stepOk m an t with
   |false=>none
   |true=>match stepT (denote tb) p w x t with
    |some (y,u)=>topT tb p w m an k y u
    |none=>none
theorem topT_of {tb:String->Option Builtin}{p:Program}{w:World}{m:Nat}{an:Option Value}:∀{k:Nat}{x z:SharedT}{t:Thread},topT tb p w m an k x t=some z->topRun tb p w m an k x.abs t=some z.abs:=by
 intro k
 induction k with
 |zero=>intro x z t e;cases e
 |succ k F =>
  intro x z t e;unfold topT at e;unfold topRun;cases a:through t with
  |true=>rw[a]at e;cases e;rfl
  |false =>
   rw[a]at e;cases b:stepOk m an t with
   |false=>rw[b]at e;cases e
   |true =>
    rw[b]at e;cases c:stepT (denote tb) p w x t with
    |none=>rw[c]at e;cases e
    |some r =>
     obtain⟨y,u⟩:=r;rw[c]at e;rw[stepT_spec c];exact F e
def Dq (p q:Program) (loose:List Str) (G:Shared->Bool) (F:Bool) (h:Heap) (s:Shared):=
 (staticsOk (importedModules p.main.body) h s.heap&&namesBound p s.heap&&gensDone s&&laidKept h s.heap,openSeen q loose (importedModules p.main.body) G F s)
theorem EZ {p q:Program}{loose:List Str}{U:Shared->Bool}{α:Type}{L:Shared->α}{Y:World->α}{N M m:Nat}{I:Bool}{H:Params->Heap}{T:Params->BT}{life:Life}{gs:Array GenState}{d:Drawn}{k:Nat}{an:Option Value}
  (hO:∀w:World,(fencedOpening treeTable p w N).map (λs=>(s.heap,s.gens,s.drawn,s.toks))=some (H w.params,gs,d,k))
  (hT:∀P,absHeap (T P) m life=H P)
  (hS:∀w:World,((H w.params).isNs mainGlobals&&gs.size==0,(H w.params).objs.size,(H w.params).nsMap mainGlobals "__annotations__")=(true,m,an))
  (le:Nat.ble M N=true)
  (run:∀(w:World) (os:OsState),(topT treeTable p w m an M ⟨T w.params,m,life,gs,d,k,os⟩ (topStub p)).map (λs=>(Dq p q loose U I (H w.params) s.abs,L s.abs))=some ((true,openGood q loose),Y w)) :
  LeftO p q loose U L Y N I:=by
 intro w;obtain⟨s,a,b⟩:=Option.map_eq_some_iff.mp (hO w);obtain⟨h,G,d',F,os⟩:=s;simp only[Prod.mk.injEq]at b;obtain⟨rfl,rfl,rfl,rfl⟩:=b;have z:=hS w;simp only[Prod.mk.injEq]at z;obtain⟨z1,z2,z3⟩:=z;obtain⟨x,c,e⟩:=Option.map_eq_some_iff.mp (run w os);have r:=topT_of c;have ab:(SharedT.mk (T w.params) m life G d' F os).abs=⟨H w.params,G,d',F,os⟩:=by
  unfold SharedT.abs;rw[hT]
 rw[ab]at r;have r:=topRun_mono (N-M) _ _ _ _ r;rw[show M+(N-M)=N from Nat.add_sub_cancel' (le_of_ble_eq_true le)]at r;simp only[Dq,Prod.mk.injEq]at e;obtain⟨⟨e1,Z⟩,e3⟩:=e;have t:topFrom treeTable p w N ⟨H w.params,G,d',F,os⟩=some x.abs:=by
  unfold topFrom;dsimp only;rw[z1,z2,z3,r];simp only[bind_some,e1]
 unfold openEnds;rw[a];simp only[bind_some,t,map_some,Z,e3]
theorem both {r:OpenRow}{q:Program}{loose:List Str}{d:DefRec}{F:List (Str×Expr)}{N:Nat}(H:Hook)
  (h1:defOf q r.name=some (d,F)) (h2:r.prog.theDef r.name=some (d.params,d.body,d.scope)) (U:kwWritten? d.params.kwonlyargs d.params.kw_defaults=some F) (I:(!r.writes||r.records.isEmpty)=true)
  (L:r.wellSaid=true) (Z:(chainsOk q&&opensWell r.prog&&(frees r.toRowW&&r.within.isEmpty))=true) (G:r.prog.bare) (Y:r.toRowW.promised)
  (h:LeftO r.prog q loose (λs=>xlAt q [] s&&recOk r.records s) H.obs H.val N/\WalkO q loose (XL q []) H.says r.toRowW d F λf vs=>PySem.call f vs):r.Holds :=
 holds_open h.1 H.of H.keeps (λs e=>xl_of s (Bool.and_eq_true_iff.mp e).1) XL.keeps h1 h2 U (λs e=>recFacts_of (Bool.and_eq_true_iff.mp e).2) I L Z G Y h.2
def Ff (s:SharedT) (a:Nat):Option Obj:=match Nat.blt a s.n with
 |true=>match s.tree.get a with
  |some o=>alive o
  |none=>alive default
 |false=>none
theorem EH (s:SharedT):s.abs.heap.get?=Ff s:=by
 funext a;unfold Ff;cases h:Nat.blt a s.n with
 |true =>
  have h:a<s.n:=le_of_ble_eq_true h;cases g:s.tree.get a with
  |some o=>exact abs_get h g
  |none =>
   show(absHeap s.tree s.n s.life).get? a=_;unfold Heap.get?;rw[absHeap_at,if_pos h,g];rfl
 |false=>exact abs_get_none λk=>by rw[show Nat.blt a s.n=true from Nat.ble_eq_true_of_le k]at h;cases h
noncomputable def Hl (P:Params):BT:=build 12 (boot_heap P).objs.toList
open PySem.Challenge
def q:Program:=PySem.W.view pw_ownroom_k93_whole_plain_and_disk [97]
def loose:List Str:=(pw_ownroom_k93_whole_plain_and_disk.main.scope.names.map (·.1)).dropLast
theorem ws:rw_ownroom_k93_whole_plain_and_disk.wellSaid=true:=by kernel_rfl
local macro_rules | `(tactic| o_law) => `(tactic| refine PySem.W.holds_law Hd.ws λ said=>?_)
local macro_rules | `(tactic| o_head $H) => `(tactic| refine Hd.both (q:=Hd.q) (loose:=Hd.loose) (N:=100000) $H (by rfl) (by rfl) (by rfl) (by rfl) (by assumption) av ⟨rfl,rfl,rfl,rfl,rfl,av⟩ ?$(Lean.mkIdent `hw):ident ?$(Lean.mkIdent `hc):ident)
open_top top for rw_ownroom_k93_whole_plain_and_disk
noncomputable def ru (p q:Program) (G:List Str) (F:_) (f:SharedT->List (Option Obj)) (w:World) (os:OsState):=(topT treeTable p w 11 (some (.ref 6)) 100000 ⟨Hl w.params,11, {},Array.mk [],boot_drawn,boot_toks,os⟩ (topStub p)).map λs=>(Dq p q G (λs=>xlAt q [] s&&recOk F s) true (boot_heap w.params) s.abs,f s)
noncomputable def PK (p q:Program) (F:List Str) (G:_) (l:List Addr):=ru p q F G λs=>l.map (Ff s)
noncomputable def Oj (q:Program) (F:List Str) (K:Frag):=some ((true,openGood q F),K.map λp=>some p.2)
theorem AK:PK=PK:=rfl
theorem Du:Oj=Oj:=rfl
name_quick hdL for Hd.PK by Hd.AK
name_quick hdR for Hd.Oj by Hd.Du
theorem run_ {p q:Program}{F:List Str}{G:_}{l:List Addr}{K:Frag}(w:World) (os:OsState) (h:PySem.W.Fast.hdL p q F G l w os=PySem.W.Fast.hdR q F K):ru p q F G (λs=>l.map s.abs.heap.get?) w os=Oj q F K:=by
 rw[show(λs:SharedT=>l.map s.abs.heap.get?)=λs=>l.map (Ff s)from funext λs=>by rw[EH]];exact(congrFun (congrFun (congrFun (congrFun (congrFun (congrFun (congrFun PySem.W.Fast.hdL_eq p) q) F) G) l) w) os).trans (h.trans (congrFun (congrFun (congrFun PySem.W.Fast.hdR_eq q) F) K).symm)
def top2:=λh=>Hd.top ⟨EZ (H:=boot_heap) (T:=Hl) (life:={}) (m:=11) (M:=100000) (gs:=Array.mk []) (d:=boot_drawn) (k:=boot_toks) (an:=some (.ref 6)) (boot_open (by kernel_rfl) az (λs=>by kernel_rfl)) (λP=>by kernel_rfl) (λw=>by kernel_rfl) az (λw os=>run_ w os (by kernel_rfl)),h⟩
end Hd
local macro_rules|`(tactic|show $t)=>`(tactic|refine $t)
local macro_rules|`(%[$p|0])=>`(autoParam $p zau._auto_1)
open Lean in
local macro_rules|`(tactic|let $d:letDecl)=>`(tactic|have $d:letDecl)
local macro_rules|`(tactic|rwa $s:rwRuleSeq at $h:ident)=>`(tactic|(rw $s:rwRuleSeq at $h:ident;cases $h:ident))
local macro_rules|`(‹$t›)=>`(by simpa using $t)
local macro_rules|`(tactic|cases $h:ident : $t)=>`(tactic|by_cases $h:ident : $t)
local macro_rules|`($s⁻¹)=>`(Array.size (PySem.Heap.objs (PySem.Shared.heap $s)))
open Lean in
local macro_rules|`(tactic|intros $x*)=>`(tactic|intro $(mkIdent `pins):ident $(mkIdent `s):ident $(mkIdent `σ):ident $(mkIdent `H):ident $(x.map fun y=>⟨y⟩)*)
local macro_rules|`(tactic|intros)=>`(tactic|iterate 10 intro)
open Lean in
local macro_rules|`(~~~$h $x*)=>`($(mkIdent `Inv) $(mkIdent `X) $(mkIdent `pins) $(mkIdent `σ) $h $x*)
open Lean in
local macro_rules|`(↑$f)=>`(wpAny (model $(mkIdent `X.prog) $(mkIdent `X.w)) $(mkIdent `X.A) $f)
open Lean in
local macro_rules|`(#v[$xs,*])=>do
 let y<-xs.getElems.mapM λ(x:Term)=>match x with|`(.$_:ident $_*)=>`(some $x)|_=>pure x
 `([$y,*])
open Lean in
local macro_rules|`(⇑$f)=>`($f $(mkIdent `P) $(mkIdent `w) $(mkIdent `K) $(mkIdent `mg) $(mkIdent `base) ($(mkIdent `bX) $(mkIdent `P) $(mkIdent `w)))
open Lean in
local macro_rules|`(↥$f)=>`($f $(mkIdent `P) $(mkIdent `w) $(mkIdent `K) $(mkIdent `mg) $(mkIdent `base) $(mkIdent `aY))
open Lean in
local macro_rules|`(#[$xs,*])=>do
 let T:=([← `(⟨_,rfl⟩),← `(⟨rfl,rfl⟩),← `(⟨_,_⟩),← `(⟨rfl,?_⟩),← `(⟨?_,?_⟩),← `(⟨rfl,_⟩)]:List (TSyntax `term))
 let mut r:Array (TSyntax `term):=Array.mk []
 for x in xs.getElems do
  match x.raw.isNatLit? with
  |some k=>
   match T[k]! with
   |`(⟨$ys,*⟩)=>r:=r++ys.getElems
   |_=>r:=r
  |_=>r:=r.push x
 `(⟨$r,*⟩)
open Lean in
local macro_rules|`(tactic|let $p:term:=$e)=>do
 let rec go (n:Nat)(t:Syntax):MacroM (TSyntax `rcasesPat):=do
  match n with
  |0=>Macro.throwUnsupported
  |n+1=>match t with
   |`($i:ident)=>`(rcasesPat|$i:ident)
   |`(_)=>`(rcasesPat|_)
   |`(#[$xs,*])=>do `(rcasesPat|⟨$(←xs.getElems.mapM fun x=>do `(Parser.Tactic.rcasesPatLo|$(←go n x):rcasesPat)),*⟩)
   |_=>Macro.throwUnsupported
 match p with
 |`(#[$_,*])=>do `(tactic|obtain $(←go 99 p):rcasesPat := $e)
 |_=>Macro.throwUnsupported
namespace L2
open PySem PySem.Spec PyProof.Rows
abbrev Key:=Sum Int Str
noncomputable def nR:Key->Value->Bool
 |.inl k,v=>Value.isInt k v
 |.inr x,v=>Value.isStrOf x v
noncomputable def Q7(w:R4):Key->Int
 |.inl k=>hashInt k
 |.inr x=>hashStr w x
theorem cy:∀{k:Key}{v:Value},nR k v=true->(∃i t,k=NC i/\v=Value.int i t)\/(∃x t,k=Za x/\v=Value.str x t)
 |.inl i,v,h=>by
  let#[t,e]:=Value.isInt_shape (k:=i) (v:=v) h;show .inl #[i,t,rfl,e]
 |.inr x,v,h=>by
  let#[t,e]:=Value.isStrOf_shape (x:=x) (v:=v) h;show .inr #[x,t,rfl,e]
theorem zb(i:Int)(t:Tok):nR (.inl i) (.int i t)=true:=by simp[nR,Value.isInt]
theorem zl(x:Str)(t:Tok):nR (.inr x) (.str x t)=true:=by simp[nR,Value.isStrOf]
theorem JS(a b:Int):decide ((NC a:Key)=NC b)=(a==b):=by
 cases e:a=b
 .subst e;simp
 .let h:¬ (NC a:Key)=NC b:=λq=>e (aan q);rw[decide_eq_false h];show(beq_eq_false_iff_ne.mpr e).symm
theorem JD(a b:Str):decide ((Za a:Key)=Za b)=decide (a=b):=by
 cases e:a=b
 .subst e;simp
 .let h:¬ (Za a:Key)=Za b:=λq=>e (Sum.inr.inj q);rw[decide_eq_false h,decide_eq_false e]
theorem IC(a:Int)(b:Str):decide ((NC a:Key)=Za b)=false:=decide_eq_false (λq=>nomatch q)
theorem Jp(a:Str)(b:Int):decide ((Za a:Key)=NC b)=false:=decide_eq_false (λq=>nomatch q)
noncomputable def bS(prog:By)(w:R4):PySem.KeyKind prog w Key where
 is:=nR
 hash:=Q7 w
 inj:=λv a b U I=>by
  rcases cy U with⟨i,t,rfl,rfl⟩|⟨x,t,rfl,rfl⟩
  .rcases cy I with⟨j,u,rfl,e⟩|⟨y,u,rfl,e⟩
   .injection e with F _;rw[F]
   .show nomatch e
  .rcases cy I with⟨j,u,rfl,e⟩|⟨y,u,rfl,e⟩
   .show nomatch e
   .injection e with F _;rw[F]
 byValue:=λk v h=>by
  rcases cy h with⟨i,t,rfl,rfl⟩|⟨x,t,rfl,rfl⟩<;>rfl
 pyHash:=λG h=>by
  rcases cy G with⟨i,t,rfl,rfl⟩|⟨x,t,rfl,rfl⟩
  .show wpAny_pyHash_int h
  .show wpAny_pyHash_str h
 eqBool:=λL G h=>by
  rcases cy L with⟨i,t,rfl,rfl⟩|⟨x,t,rfl,rfl⟩
  .rcases cy G with⟨j,u,rfl,rfl⟩|⟨y,u,rfl,rfl⟩
   .rw[JS]at h;show wpAny_eqBool_int h
   .rw[IC]at h;show Zp i t y u _ _ _ _ h
  .rcases cy G with⟨j,u,rfl,rfl⟩|⟨y,u,rfl,rfl⟩
   .rw[Jp]at h;show Zq x t j u _ _ _ _ h
   .rw[JD]at h;show wpAny_eqBool_str h
 «strs» := λk x t v h=>by
  rcases cy h with⟨i,u,rfl,e⟩|⟨y,u,rfl,e⟩
  .show nomatch e
  .injection e with F _;subst F;cases v<;>rfl
theorem uB(prog:By)(w:R4)(i:Int)(t:Tok):(bS prog w).is (.inl i) (.int i t)=true:=zb i t
theorem uw(prog:By)(w:R4)(x:Str)(t:Tok):(bS prog w).is (.inr x) (.str x t)=true:=zl x t
set_option genInjectivity true in
inductive V where
 |a7|bl (b:Bool)|int (i:Int)|str (x:Str)|byt (b:Array UInt8)|flt (b:UInt64)|ref (a:Addr)|ty (n:String)
 deriving DecidableEq
abbrev qAi:=List (Key×V)
abbrev qAh:=List V
def RelV:V->Value->Prop
 |.a7,u=>u=Value.none
 |.bl b,u=>u=Value.bool b
 |.int i,u=>∃t,u=Value.int i t
 |.str x,u=>∃t,u=Value.str x t
 |.byt b,u=>∃t,u=Value.bytes b t
 |.flt b,u=>∃t,u=Value.float b t
 |.ref a,u=>u=Value.ref a
 |.ty n,u=>u=Value.type n
abbrev Vals:List V->List Value->Prop:=Paired RelV
variable{xs:qAh}{us:qa6}
theorem Vals.length(r:Vals xs us):xs.length=us.length:=Paired.length r
theorem Vals.get:∀{xs:qAh}{us:qa6}{i:Nat}{x:V},Vals xs us->xs[i]?=some x->∃u,us[i]?=some u/\RelV x u
 |_,_,_,_,.nil,e=>by simp at e
 |_,_,0,_,.cons r _,e=>by simp at e;subst e;show#[0,r]
 |_,_,i+1,x,.cons _ t,e=>by
  let#[u,h1,h2]:=Vals.get (i:=i) (x:=x) t ‹e›;show#[u,by simpa using h1,h2]
theorem Vals.set{x:V}{u:Value}(r:RelV x u):∀{xs:qAh}{us:qa6}(i:Nat),Vals xs us->Vals (xs.set i x) (us.set i u)
 |_,_,_,.nil=>.nil
 |_,_,0,.cons _ t=>.cons r t
 |_,_,i+1,.cons q t=>.cons q (Vals.set r i t)
theorem Vals.append:∀{xs ys:qAh}{us ws:qa6},Vals xs us->Vals ys ws->Vals (xs++ys) (us++ws)
 |_,_,_,_,.nil,s=>s
 |_,_,_,_,.cons r t,s=>.cons r (Vals.append t s)
theorem Vals.take:∀{xs:qAh}{us:qa6}(n:Nat),Vals xs us->Vals (xs.take n) (us.take n)
 |_,_,0,_=>.nil
 |_,_,_+1,.nil=>.nil
 |_,_,n+1,.cons r t=>.cons r (Vals.take n t)
theorem Vals.drop:∀{xs:qAh}{us:qa6}(n:Nat),Vals xs us->Vals (xs.drop n) (us.drop n)
 |_,_,0,r=>r
 |_,_,_+1,.nil=>.nil
 |_,_,n+1,.cons _ t=>Vals.drop n t
def h9:Option V->Option Value->Prop
 |some v,some u=>RelV v u
 |none,none=>True
 |_,_=>False
def KV{κ:Type}:List (κ×V)->List (κ×Value)->Prop:=Paired λ(p:κ×V)(q:κ×Value)=>p.1=q.1/\RelV p.2 q.2
noncomputable def kV:Key->V
 |.inl i=>.int i
 |.inr x=>.str x
set_option genInjectivity true in
inductive HO where
  |lst(xs:qAh)
  |tup(xs:qAh)
  |dK(kvs:qAi)|dT (kvs:List (List Key×V))
  |set(S:Int->Bool)(n:Nat)
  |ins(C dx:Addr)(fs:List (Str×V))
  |own(x:Addr)
  |xd(fs:List (Str×V))
  |met(f x:Addr)
  |pV(lo hi:Int)
  |frz(o:Obj)(u:HO)
  |tbl(ps:qa5)
  |ext(φ:Heap->Prop)
abbrev Hp:=Addr->Option HO
noncomputable def upd(H:Hp)(a:Addr)(o:HO):Hp:=λb=>if b=a then some o else H b
variable{H:Hp}{a:Addr}{o:HO}
theorem ag:upd H a o a=some o:=by unfold upd;rw[aa3 rfl]
variable{b:Addr}
theorem au(h:b≠a):upd H a o b=H b:=by unfold upd;rw[aa2 h]
variable{u:HO}
theorem qL(h:H a=some o)(h':H b=some u)(d:o≠u):a≠b:=by
 intro e;subst e;rw[h]at h';show d (SN h')
theorem aV(h:H a=some o)(h':H b=none):a≠b:=by
 intro e;subst e;rwa[h]at h'
section
variable(P:By)(w:R4)
def b9(H:Hp)(h:Heap)(a:Addr):HO->Prop
 |.lst xs=>xs.length<=sizeLine/\∃(its:qa6)(n:Nat),Vals xs its/\h.get? a=some { cls:=.type "list",data:=.seq its.toArray n }
 |.tup xs=>xs.length<=sizeLine/\∃its:List Value,Vals xs its/\IsTup h a its.toArray
 |.dK kvs=>kvs.length<=sizeLine/\(a==Vl)=false/\∃vs,KV kvs vs/\h.DictOf (bS P w) a vs
 |.dT kvs=>kvs.length<=sizeLine/\(a==Vl)=false/\∃xs:List (List Key×Addr×Value),
   Paired (λ(p:List Key×V)(q:List Key×Addr×Value)=>p.1=q.1/\H q.2.1=some (.tup (p.1.map kV))/\RelV p.2 q.2.2) kvs xs /\
   ∃o es ep,h.get? a=some o/\o.ExactDict/\o.data=.dict es ep/\es.toList=xs.map (entryOfKey (Xp (bS P w)))/\(xs.map (·.1)).Nodup
 |.set S n=>h.SetOf (intKind P w) a S n
 |.ins C dx fs=>H dx=some (.own a)/\fs.length<=1000/\dx≠a/\h.get? a=some (instObj C dx) /\
   ∃mA,h.Ns1 dx mA/\(∀f,h9 (fs.lookup f) (mA f))/\ZE mA (fs.map (·.1))
 |.own _=>∃o,h.get? a=some o
 |.xd fs=>∃mA,h.Ns1 a mA/\∀f,h9 (fs.lookup f) (mA f)
 |.pV lo hi=>∃t u v,h.get? a=some { cls:=.type "range",data:=.fields ([.int lo t,.int hi u,.int 1 v].toArray) }
 |.frz o u=>h.get? a=some o/\b9 H h a u
 |.tbl ps=>h.get? a=some { cls:=.none,data:=.fields ps }
 |.met f x=>h.get? a=some (methodObj (.ref f) (.ref x))
 |.ext F=>F h/\(∃o,h.get? a=some o)/\∀h1 h2:Heap, F h1->(∀o,h1.get? a=some o->h2.get? a=some o)->F h2
def jy(H:Hp)(h:Heap):Prop:=∀a o,H a=some o->b9 P w H h a o
variable{P:By}{w:R4}{h:Heap}
theorem b9.lt(x:b9 P w H h a o):a<h.objs.size:=by
 cases o with
 |lst xs=>let#[_,_,_,_,e]:=x;show Heap.lt_size e
 |tup xs=>let#[_,_,_,p]:=x;show p.lt
 |dK kvs=>let#[_,_,_,_,o,_,_,e,_]:=x;show Heap.lt_size e
 |dT kvs=>let#[_,_,_,_,o,_,_,e,_]:=x;show Heap.lt_size e
 |set S n=>let#[o,_,_,_,e,_]:=x;show Heap.lt_size e
 |ins C dx fs=>let#[_,_,_,e,_]:=x;show Heap.lt_size e
 |own y=>let#[_,e]:=x;show Heap.lt_size e
 |xd fs=>let#[_,#[_,_,_,e,_],_]:=x;show Heap.lt_size e
 |pV lo hi=>let#[_,_,_,e]:=x;show Heap.lt_size e
 |frz G u=>let#[e,_]:=x;show Heap.lt_size e
 |tbl ps=>show Heap.lt_size (show h.get? a=some _ from x)
 |met f y=>show Heap.lt_size (show h.get? a=some _ from x)
 |ext F=>let#[_,#[_,e],_]:=x;show Heap.lt_size e
theorem Paired.tS{α I:Type}{F G:α->I->Prop}:∀{l₁:List α}{l₂:List I},Paired F l₁ l₂->(∀a b,F a b->G a b)->Paired G l₁ l₂
 |_,_,.nil,_=>.nil
 |_,_,.cons r t,f=>.cons (f _ _ r) (Paired.tS t f)
variable{h':Heap}
theorem b9.gD{H':Hp}(x:b9 P w H h a o)(k:∀b u,(b=a\/H b=some (.own a))->h.get? b=some u->h'.get? b=some u)
  (U:∀b,H b=some (.own a)->H' b=some (.own a)) (G:∀b xs,H b=some (.tup xs)->H' b=some (.tup xs)):b9 P w H' h' a o:=by
 induction o with
 |lst xs=>let#[z,its,n,r,e]:=x;show#[z,its,n,r,k _ _ (.inl rfl) e]
 |tup xs=>let#[z,its,r,F,e,c]:=x;show#[z,its,r,F,k _ _ (.inl rfl) e,c]
 |dK kvs=>let#[z,y,vs,r,F,es,ep,e,c]:=x;show#[z,y,vs,r,F,es,ep,k _ _ (.inl rfl) e,c]
 |dT kvs =>
  let#[z,y,xs,r,F,es,ep,e,c]:=x;show#[z,y,xs,Paired.tS r λp q z=>#[z.1,G _ _ z.2.1,z.2.2],F,es,ep,k _ _ (.inl rfl) e,c]
 |set S n=>let#[F,es,ep,t,e,c]:=x;show#[F,es,ep,t,k _ _ (.inl rfl) e,c]
 |ins C dx fs =>
  let#[d,z,ne,e,mA,#[od,es,ep,L,c],r]:=x;show#[U _ d,z,ne,k _ _ (.inl rfl) e,mA,#[od,es,ep,k _ _ (.inr d) L,c],r]
 |own y=>let#[F,e]:=x;show#[F,k _ _ (.inl rfl) e]
 |xd fs=>let#[mA,#[od,es,ep,e,c],r]:=x;show#[mA,#[od,es,ep,k _ _ (.inl rfl) e,c],r]
 |pV lo hi=>let#[t,u,v,e]:=x;show#[t,u,v,k _ _ (.inl rfl) e]
 |frz F u I=>let#[e,q]:=x;show#[k _ _ (.inl rfl) e,I q]
 |tbl ps =>
  let e:h.get? a=some { cls:=.none,data:=.fields ps }:=x;change h'.get? a=some { cls:=.none,data:=.fields ps };show k a _ (.inl rfl) e
 |met f y =>
  let e:h.get? a=some (methodObj (.ref f) (.ref y)):=x;change h'.get? a=some (methodObj (.ref f) (.ref y));show k a _ (.inl rfl) e
 |ext Y=>let#[p,#[o,e],st]:=x;show#[st _ _ p λo q=>k _ _ (.inl rfl) q,#[o,k _ _ (.inl rfl) e],st]
theorem jy.lt(x:jy P w H h)(e:H a=some o):a<h.objs.size:=(x a o e).lt
theorem jy.fresh(x:jy P w H h)(e:h.objs.size<=a):H a=none:=by
 cases q:H a with
 |none=>rfl
 |some u=>show absurd (Tz (x.lt q) e) (Wi _)
theorem jy.kept(x:jy P w H h)(k:∀b u,h.get? b=some u->h'.get? b=some u):jy P w H h':=λa o e =>
 (x a o e).gD (λb u _ q=>k b u q) (λ_ q=>q) λ_ _ q=>q
theorem jy.laid(x:jy P w H h)(k:∀b u,h.get? b=some u->h'.get? b=some u)(I:h.objs.size<=a)(L:b9 P w (upd H a o) h' a o):jy P w (upd H a o) h':=λb u e=>by
 let G:=x.fresh I;cases F:b=a
 .subst F;rwa[ag]at e;show L
 .rw[au F]at e;show(x b u e).gD (λc v _ q=>k c v q) (λc q=>by rw[au (aV q G)];show q) λc xs q=>by rw[au (aV q G)];show q
end
def Rd(H:Hp)(a:Addr)(u:HO):Prop:=H a=some u\/∃o,H a=some (.frz o u)
variable{P:By}{w:R4}{h:Heap}
theorem Rd.ok(r:Rd H a u)(x:jy P w H h):b9 P w H h a u:=by
 rcases r with r|⟨o,r⟩
 .show x a u r
 .let#[_,q]:=x a _ r;show q
def Nx:Option HO->Prop
 |some (.lst _)=>True
 |some (.dK _)=>True
 |some (.dT _)=>True
 |some (.set _ _)=>True
 |some (.ins _ _ _)=>True
 |some (.ext _)=>True
 |_=>False
variable{h':Heap}{x e:Addr}
theorem jy.write{o':HO}(ok:jy P w H h)(F:Nx (H x))(U:e=x\/H e=some (.own x))(k:∀b u,b≠e->h.get? b=some u->h'.get? b=some u)(ad:∃u,h'.get? e=some u)
  (ac:b9 P w (upd H x o') h' x o'):jy P w (upd H x o') h':=λb u q=>by
 let Y:∀c y,H c=some (.own y)->c≠x:=λc y r z=>(by subst z;rw[r]at F;show F);let ab:∀c xs,H c=some (.tup xs)->c≠x:=λc xs r z=>(by subst z;rw[r]at F;show F);cases G:b=x
 .subst G;rwa[ag]at q;show ac
 .rw[au G]at q;cases L:b=e
  .let Z:H b=some (.own x):=by
    rcases U with z|z
    .show absurd (L.trans z) G
    .rw[L];show z
   rwa[q]at Z;let#[v,hv]:=ad;show#[v,by rw[L];show hv]
  .show(ok b u q).gD (λc v I r=>k c v ?_ r) (λc r=>by rw[au (Y c b r)];show r) λc xs r=>(by rw[au (ab c xs r)];show r);rcases I with rfl|I
   .show L
   .rintro rfl;rcases U with z|z
    .show Y c b I z
    .rw[I]at z;cases z;show G rfl
structure Un(fs ex:qAc)(H H':Hp)(h h':Heap):Prop where
 keep:∀b o,h.get? b=some o->H b=none->b∉fs->b∉ex->h'.get? b=some o
 slot:∀b o,h.get? b=some o->H b=none->b∈fs->b∉ex->∃sl,h'.get? b=some { o with slots:=sl }
 free:∀b o,h.get? b=some o->H b=none->b∉ex->H' b=none
 there:∀b o,h.get? b=some o->b∉ex->∃o',h'.get? b=some o'
 oM:∀b xs,H b=some (.tup xs)->H' b=some (.tup xs)
 mH:∀b o u,H b=some (.frz o u)->H' b=some (.frz o u)
 oB:∀b ps,H b=some (.tbl ps)->∃more,H' b=some (.tbl (ps++more))
section
variable{fs fs' ex ex':qAc}{H H1 H2:Hp}{h h1 h2 h':Heap}{a x e:Addr}{o:HO}
theorem Un.any(u:Un fs ex H H1 h h1){F:Obj}(q:h.get? b=some F)(n:H b=none)(G:b∉ex):∃sl,h1.get? b=some { F with slots:=sl }:=by
 cases I:b∈fs
 .show u.slot b F q n I G
 .show#[F.slots,u.keep b F q n I G]
theorem Un.kept(k:∀b u,h.get? b=some u->h'.get? b=some u):Un fs ex H H h h' :=
 #[λb F q _ _ _=>k b F q,λb F q _ _ _=>#[F.slots,k b F q],λ_ _ _ n _=>n,λb F q _=>#[F,k b F q],λ_ _ q=>q,λ_ _ _ q=>q,λ_ ps q=>#[([].toArray),by rw[q];simp]]
theorem Un.refl:Un fs ex H H h h:=Un.kept λ_ _ q=>q
theorem Un.laid(k:∀b u,h.get? b=some u->h'.get? b=some u)(G:h.objs.size<=a)(F:H a=none):Un fs ex H (upd H a o) h h' where
 keep:=λb u q _ _ _=>k b u q
 slot:=λb u q _ _ _=>#[u.slots,k b u q]
 free:=λb u q n _=>by rw[au (Ul (Tz (Heap.lt_size q) G))];show n
 there:=λb u q _=>#[u,k b u q]
 oM:=λb xs q=>by rw[au (aV q F)];show q
 mH:=λb u xs q=>by rw[au (aV q F)];show q
 oB:=λb ps q=>#[([].toArray),by rw[au (aV q F),q];simp]
theorem Un.write(F:Nx (H x))(Z:e=x\/H e=some (.own x))(k:∀b u,b≠e->h.get? b=some u->h'.get? b=some u)(Y:∃u,h'.get? e=some u):Un fs ex H (upd H x o) h h':=by
 let I:∀b,H b=none->b≠x:=λb n z=>(by subst z;rw[n]at F;show F);let L:∀b,H b=none->b≠e:=λb n z=>by
  subst z;rcases Z with r|r
  .show I b n r
  .rw[n]at r;cases r
 let G:∀b u,H b=some u->¬ Nx (some u)->b≠x:=λb u q nm z=>(by subst z;rw[q]at F;show nm F);show#[λb u q n _ _=>k b u (L b n) q,λb u q n _ _=>#[u.slots,k b u (L b n) q],λb u q n _=>by rw[au (I b n)];show n,λb u q _=>?_,
  λb xs q=>by rw[au (G b _ q λz=>z)];show q,λb u xs q=>by rw[au (G b _ q λz=>z)];show q,λb ps q=>#[([].toArray),by rw[au (G b _ q λz=>z),q];simp]]
 cases U:b=e
 .subst U;show Y
 .show#[u,k b u U q]
end
noncomputable def Oz(h:Heap)(H:Hp):List Addr:=(TM h.objs.size).filter λa=>(H a).isSome
noncomputable def rD(h:Heap)(H:Hp):Heap:=hideAll h (Oz h H)
theorem Ag(h:Heap)(H:Hp):(rD h H).objs.size=h.objs.size:=PySem.W.hideAll_size _ _
variable{o:Obj}
theorem Dl(e:h.get? b=some o)(n:H b=none):(rD h H).get? b=some o :=
 hideAll_get _ e λF=>by
  let q:(H b).isSome=true:=(Ue.mp F).2;rw[n]at q;simp at q
theorem Gs(e:(rD h H).get? b=some o):h.get? b=some o/\H b=none:=by
 let F:h.get? b=some o:=of_hideAll (Oz h H) e;show#[F,?_];cases q:H b with
 |none=>rfl
 |some x =>
  let G:b∈Oz h H:=Ue.mpr #[Xs.mpr (Heap.lt_size F),by simp[q]];let z:(rD h H).get? b=none:=PySem.W.hideAll_none (Oz h H) G;rwa[z]at e
structure Mod(K:SU)(mg:qa3)(base:Heap):Prop where
 Eh:K.In base
 glob:base.Ns To mg
 blt:∃mb,base.Ns builtinsNs mb/\∀x:Str,x ≠ "__name__" -> mb x=TV x
 nolimit:base.NoLimit
structure Cx where
 prog:By
 w:R4
 K:SU
 mg:Str->Option Value
 base:Heap
 A:Th
 N:List Str
 s₀:dM
 H₀:Hp
 env:X9
 outer:List X9
 stack:List X9
 ex:List Addr
 fn:Str->Bool
 calm:Bool
 pn:List (Addr×Obj)
 xe:Value->dM->Prop
abbrev qAj(X:Cx)(e:Expr)(es:List Expr):=(starEach (e::es) X.env=(false,eval e X.env)::starEach es X.env)
def p7(l:qAg):List Addr:=l.filterMap (·.frame)
abbrev Cx.fs(X:Cx):List Addr:=p7 X.outer
def NG(F:Xt)(x:Str):Prop:=F.names.lookup x=some .local\/F.names.lookup x=some .cell\/F.names.lookup x=some .free
def Loc(F:Xt)(x:Str):Prop:=F.names.lookup x=some .local\/F.names.lookup x=some .cell
def Look(env:X9)(h:Heap)(m:qa3)(x:Str)(u:Value):Prop :=
 (env.kindOf x=some .local/\m x=some u)\/((env.kindOf x=some .cell\/env.kindOf x=some .free)/\∃c,env.cells.lookup x=some c/\h.IsCell c (some u))
structure Cx.Ok(X:Cx):Prop where
 mod:Mod X.K X.mg X.base
 kind:X.env.scope.kind=.function
 glob:X.env.globals=To
 blt:X.env.builtins=builtinsNs
 above:X.s₀.heap.objs.size<=X.env.locals
 inj:∀x y c,X.env.cells.lookup x=some c->X.env.cells.lookup y=some c->x=y
 has:∀x,(X.env.kindOf x=some .cell\/X.env.kindOf x=some .free)->∃c,X.env.cells.lookup x=some c
 Jy:∀x c,X.fn x=true->X.env.cells.lookup x=some c->X.s₀.heap.objs.size<=c
 hd:X.calm=true->X.A.handled=none
 frames:X.A.frames=some X.stack
 Lq:X.stack=X.outer\/(X.stack=X.env::X.outer/\X.env.frame=some X.env.locals)
 Of:∀b∈X.ex,b≠X.env.locals/\∀x c,X.env.cells.lookup x=some c->c≠b
 bs:∀b o,X.base.get? b=some o->X.s₀.heap.get? b=some o/\X.H₀ b=none
 AM:X.base.objs.size<=X.s₀.heap.objs.size
 wz:∀b o,X.base.get? b=some o->b∉X.ex
 xD:∀b∈X.ex,b∉X.fs
 jN:X.s₀.heap.FunFrames X.base X.outer
 Fi:∀b∈X.fs,X.H₀ b=none
structure Inv(X:Cx)(pins:qa1)(σ:List (Option V))(H:Hp)(s:dM):Prop where
 ok:X.Ok
 os:s.os=X.s₀.os
 bare:Xj s.gens
 base:Un X.fs X.ex X.H₀ H X.s₀.heap s.heap
 loc:∃m,s.heap.Ns X.env.locals m/\∀(i:Nat)(x:Str)(v:V),X.N[i]?=some x->σ[i]?=some (some v)->NG X.env.scope x->∃u,RelV v u/\Look X.env s.heap m x u
 cell:∀x c,X.env.cells.lookup x=some c->∃v,s.heap.IsCell c v
 free:H X.env.locals=none
 fJ:∀x c,X.env.cells.lookup x=some c->H c=none
 pin:∀p∈X.pn++pins,s.heap.get? p.1=some p.2/\H p.1=none/\p.1≠X.env.locals/\p.1∉X.fs/\∀v,p.2.data≠.cell v
 bC:jy X.prog X.w H s.heap
 len:σ.length=X.N.length
variable{X:Cx}
theorem Cx.Ok.OP(ok:X.Ok)(e:X.base.get? b=some o):b∉X.fs:=λF=>by
 have:=(ok.jN.mem F).1;rwa[e]at this
variable{pins:qa1}{σ:List (Option V)}{s:dM}
theorem Inv.bs(I: ~~~H s):∀b o,X.base.get? b=some o->s.heap.get? b=some o/\H b=none:=λb o e =>
 #[I.base.keep b o (I.ok.bs b o e).1 (I.ok.bs b o e).2 (I.ok.OP e) (I.ok.wz b o e),I.base.free b o (I.ok.bs b o e).1 (I.ok.bs b o e).2 (I.ok.wz b o e)]
theorem Inv.bk(I: ~~~H s):∀b o,X.base.get? b=some o->s.heap.get? b=some o:=λb o e=>(I.bs b o e).1
theorem Inv.mod(I: ~~~H s):Mod X.K X.mg X.base:=I.ok.mod
theorem Inv.jj(I: ~~~H s):X.K.In s.heap:=I.ok.mod.Eh.keeps I.bk
theorem Inv.lt(I: ~~~H s):X.env.locals<s⁻¹:=let ⟨_,F,_⟩:=I.loc;F.lt
theorem Inv.sz(I: ~~~H s):X.s₀.heap.objs.size<=s⁻¹:=Td I.ok.above (aaG I.lt)
theorem Inv.NN(I: ~~~H s)(h:s⁻¹<=a):a∉X.fs:=λG=>by
 let#[_,o,F,_]:=I.ok.jN.mem G;show absurd (Tz (Heap.lt_size F) (Td I.sz h)) (Wi _)
theorem Inv.Dp(I: ~~~H s):∀x c,X.env.cells.lookup x=some c->c≠X.env.locals:=λx c e z=>by
 let#[v,o,F,hd]:=I.cell x c e;let#[m,#[o',es,ep,G,L,_],_]:=I.loc;rwa[z,G]at F;rwa[L]at hd
theorem Inv.jN(I: ~~~H s):s.heap.FunFrames X.base X.outer:=by
 let all:∀(l:qAg),(∀b∈p7 l,b∈X.fs)->X.s₀.heap.FunFrames X.base l->s.heap.FunFrames X.base l:=by
  intro l
  induction l with
  |nil=>intro _ _;trivial
  |cons env r Z =>
   intro hs hl;let#[hk,#[L,o,F,hn,ho,hd],Y]:=hl;let U:L∈X.fs:=hs L (by unfold p7;rw[Ws,F];show Tf);let#[sl,e]:=I.base.slot L o ho (I.ok.Fi L U) U λz=>I.ok.xD L z U;show#[hk,#[L,_,F,hn,e,hd],Z (λb G=>hs b (by unfold p7;rw[Ws,F];show S0 _ G)) Y]
 show all X.outer (λ_ G=>G) I.ok.jN
theorem Inv.stack(I: ~~~H s):s.heap.FunFrames X.base X.stack:=by
 rcases I.ok.Lq with e|⟨e,G⟩
 .rw[e];show I.jN
 .rw[e];let#[m,F,_]:=I.loc;show .cons (by rw[I.ok.kind];decide) G F ?_ I.jN;show Heap.get?_none_of_le (Td I.ok.AM I.ok.above)
theorem Inv.rG(I: ~~~H s):∀b∈p7 X.stack,b∈X.env.locals::X.fs:=λb F=>by
 rcases I.ok.Lq with e|⟨e,G⟩
 .rw[e]at F;show S0 _ F
 .rw[e]at F;unfold p7 at F;rw[Ws,G]at F;show F
theorem Inv.tf(I: ~~~H s):∀b∈p7 X.stack,H b=none:=λb F=>by
 rcases Ti.mp (I.rG b F)with e|F
 .rw[e];show I.free
 .let#[_,o,G,_]:=I.ok.jN.mem F;show I.base.free b o G (I.ok.Fi b F) λz=>I.ok.xD b z F
variable{H':Hp}{g':Array GenState}{t':Nat}{d':Drawn}{ch:qAc}
theorem Inv.step(I: ~~~H s)
  (Y:∀b∈ch,(b∈X.ex\/X.s₀.heap.objs.size<=b)/\b≠X.env.locals/\(∀x c,X.env.cells.lookup x=some c->c≠b)/\∀p∈X.pn++pins,p.1≠b)
  (keep:∀b o,b≠X.env.locals->b∉X.fs->b∉ch->s.heap.get? b=some o->H b=none->h'.get? b=some o)
  (slot:∀b o,b≠X.env.locals->b∈X.fs->b∉ch->s.heap.get? b=some o->H b=none->∃sl,h'.get? b=some { o with slots:=sl }) (free:∀b o,b∉ch->s.heap.get? b=some o->H b=none->H' b=none)
  (there:∀b o,b∉ch->s.heap.get? b=some o->∃o',h'.get? b=some o')
  (oM:∀b xs,H b=some (.tup xs)->H' b=some (.tup xs)) (mH:∀b o u,H b=some (.frz o u)->H' b=some (.frz o u)) (oB:∀b ps,H b=some (.tbl ps)->∃ao,H' b=some (.tbl (ps++ao)))
  (ns:∀m,s.heap.Ns X.env.locals m->h'.Ns X.env.locals m) (bC:jy X.prog X.w H' h') (hg:Xj g') :
  ~~~H' { s with heap:=h',gens:=g',drawn:=d',toks:=t' }:=by
 let ac:∀b o,X.s₀.heap.get? b=some o->b≠X.env.locals:=λb o e=>Ul (Tz (Heap.lt_size e) I.ok.above);let ab:∀b o,X.s₀.heap.get? b=some o->b∉X.ex->b∉ch:=λb o e F L=>by
  rcases(Y b L).1 with z|z
  .show F z
  .show absurd (Tz (Heap.lt_size e) z) (Wi _)
 let ad:∀x c,X.env.cells.lookup x=some c->∀v,s.heap.IsCell c v->h'.IsCell c v:=λx c e v ap=>by
  let#[o,U,hd]:=ap;let Z:c∉ch:=λz=>(Y c z).2.2.1 x c e rfl;cases hc:c∈X.fs
  .let#[sl,q]:=slot c o (I.Dp x c e) hc Z U (I.fJ x c e);show#[_,q,hd]
  .show#[o,keep c o (I.Dp x c e) hc Z U (I.fJ x c e),hd]
 show#[I.ok,I.os,hg,#[λb o e n L F=>?_,λb o e n L F=>?_,λb o e n F=>?_,λb o e F=>?_,λb xs e=>oM b xs (I.base.oM b xs e),λb o xs e=>mH b o xs (I.base.mH b o xs e),λb ps e=>?_],?_,λx c e=>?_,?_,λx c e=>?_,λp hp=>?_,bC,I.len]
 .show keep b o (ac b o e) L (ab b o e F) (I.base.keep b o e n L F) (I.base.free b o e n F)
 .let#[sl,G]:=I.base.slot b o e n L F;let#[am,e2]:=slot b _ (ac b o e) L (ab b o e F) G (I.base.free b o e n F);show#[am,e2]
 .let#[o',G]:=I.base.there b o e F;show free b o' (ab b o e F) G (I.base.free b o e n F)
 .let#[o',G]:=I.base.there b o e F;show there b o' (ab b o e F) G
 .let#[m1,G]:=I.base.oB b ps e;let#[m2,e2]:=oB b _ G;show#[m1++m2,by rw[e2,Array.append_assoc]]
 .let#[m,hn,hl]:=I.loc;show#[m,ns m hn,λi x v G e2 e3=>?_];let#[u,r,l]:=hl i x v G e2 e3;show#[u,r,?_];rcases l with l|⟨k,c,e,z⟩
  .show .inl l
  .show .inr #[k,c,e,ad x c e _ z]
 .let#[v,z]:=I.cell x c e;show#[v,ad x c e v z]
 .let#[m,#[o,_,_,U,_],_]:=I.loc;show free _ o (λz=>(Y _ z).2.1 rfl) U I.free
 .let#[v,o,U,hd]:=I.cell x c e;show free c o (λz=>(Y c z).2.2.1 x c e rfl) U (I.fJ x c e)
 .let#[e,n,ne,nf,d]:=I.pin p hp;let Z:p.1∉ch:=λz=>(Y p.1 z).2.2.2 p hp rfl;show#[keep p.1 p.2 ne nf Z e n,free p.1 p.2 Z e n,ne,nf,d]
theorem Inv.un(I: ~~~H s)(u:Un X.fs [] H H' s.heap h')(bC:jy X.prog X.w H' h'): ~~~H' { s with heap:=h',toks:=t' }:=by
 let#[m,#[o,es,ep,G,r],_]:=id I.loc;let#[sl,hL]:=u.any G I.free (by simp);show I.step (g':=s.gens) (d':=s.drawn) (ch:=[]) (λ_ z=>nomatch z) (λb o _ F _ e n=>u.keep b o e n F (by simp)) (λb o _ F _ e n=>u.slot b o e n F (by simp)) (λb o _ e n=>u.free b o e n (by simp)) (λb o _ e=>u.there b o e (by simp)) u.oM u.mH u.oB (λm' U=>by
  let#[o',ab,Z,L,Y]:=U;rwa[G]at L;show#[_,ab,Z,hL,Y]) bC I.bare
theorem Inv.call(I: ~~~H s)(u:Un (p7 X.stack) ch H H' s.heap h')(bC:jy X.prog X.w H' h')(hg:Xj g')
  (L:∀b∈ch,(b∈X.ex\/X.s₀.heap.objs.size<=b)/\b≠X.env.locals/\(∀x c,X.env.cells.lookup x=some c->c≠b)/\∀p∈X.pn++pins,p.1≠b) :
  ~~~H' { s with heap:=h',gens:=g',drawn:=d',toks:=t' }:=by
 let#[m,#[o,es,ep,U,r],_]:=id I.loc;let#[sl,G]:=u.any U I.free λz=>(L _ z).2.1 rfl;show I.step (ch:=ch) L (λb o G hb F e n=>u.keep b o e n (λz=>(Ti.mp (I.rG b z)).elim G hb) F) (λb o _ _ F e n=>u.any e n F) (λb o F e n=>u.free b o e n F) (λb o F e=>u.there b o e F) u.oM u.mH u.oB (λm' Z=>by
  let#[o',ac,ab,Y,r']:=Z;rwa[U]at Y;show#[_,ac,ab,G,r']) bC hg
variable{it:Addr}
theorem Inv.turned(I: ~~~H s)(k:∀b o,b≠it->s.heap.get? b=some o->h'.get? b=some o)(hn:H it=none)(L:it≠X.env.locals)
  (h1:it∈X.ex\/X.s₀.heap.objs.size<=it) (h2:∀x c,X.env.cells.lookup x=some c->c≠it) (Z:∀p∈X.pn++pins,p.1≠it): ~~~H { s with heap:=h',toks:=t' }:=by
 let G:∀b u,H b=some u->b≠it:=λb u e z=>(by rwa[z,hn]at e);show I.step (g':=s.gens) (d':=s.drawn) (ch:=[it]) (λb Y=>?_) (λb o _ _ F e _=>k b o (λz=>F (by simp[z])) e) (λb o _ _ F e _=>#[o.slots,k b o (λz=>F (by simp[z])) e]) (λ_ _ _ _ n=>n)
  (λb o F e=>#[o,k b o (λz=>F (by simp[z])) e]) (λ_ _ e=>e) (λ_ _ _ e=>e) (λb ps e=>#[([].toArray),by rw[e];simp]) (λm U=>?_) (λb u e=>?_) I.bare
 .let e:b=it:=‹Y›;subst e;show#[h1,L,h2,Z]
 .let#[o,es,ep,ho,r]:=U;show#[o,es,ep,k _ o (Ne.symm L) ho,r]
 .show(I.bC b u e).gD (λc v F q=>k c v ?_ q) (λ_ q=>q) λ_ _ q=>q;rcases F with z|z
  .rw[z];show G b u e
  .show G c _ z
theorem Inv.tok(I: ~~~H s)(t:Nat): ~~~H { s with toks:=t }:=I.un (h':=s.heap) (t':=t) Un.refl I.bC
theorem Inv.kept(I: ~~~H s)(k:∀b u,s.heap.get? b=some u->h'.get? b=some u): ~~~H { s with heap:=h',toks:=t' }:=I.un (Un.kept k) (I.bC.kept k)
variable{o:HO}
theorem Inv.laid(I: ~~~H s)(k:∀b u,s.heap.get? b=some u->h'.get? b=some u)(F:s⁻¹<=a)(G:b9 X.prog X.w (upd H a o) h' a o) :
  ~~~(upd H a o) { s with heap:=h',toks:=t' }:=I.un (Un.laid k F (I.bC.fresh F)) (I.bC.laid k F G)
theorem Inv.write(I: ~~~H s)(F:Nx (H x))(G:e=x\/H e=some (.own x))(k:∀b u,b≠e->s.heap.get? b=some u->h'.get? b=some u)(L:∃u,h'.get? e=some u)
  (U:b9 X.prog X.w (upd H x o) h' x o): ~~~(upd H x o) { s with heap:=h',toks:=t' }:=I.un (Un.write F G k L) (I.bC.write F G k L U)
theorem Inv.mX{F:qa1}(I: ~~~H s)(h:∀p∈F,s.heap.get? p.1=some p.2/\H p.1=none/\p.1≠X.env.locals/\p.1∉X.fs/\∀v,p.2.data≠.cell v):Inv X F σ H s :=
 #[I.ok,I.os,I.bare,I.base,I.loc,I.cell,I.free,I.fJ,λp G=>(SY.mp G).elim (λz=>I.pin p (Ug _ z)) (h p),I.bC,I.len]
variable{N:qAb}{i:Nat}{x:Str}
theorem nZ(G:N.Nodup){j:Nat}(a:N[i]?=some x)(b:N[j]?=some x):i=j:=by
 let#[h1,F]:=y0.mp a;let#[h2,I]:=y0.mp b;show(Ya G).mp (F.trans I.symm)
variable{M:XS}{A:Th}{E:qa2}{v:V}{u:Value}{Q:Unit->dM->Prop}
theorem qF(I: ~~~H s)(hN:X.N.Nodup)(hi:X.N[i]?=some x)(L:Loc X.env.scope x)(r:RelV v u)
  (h:∀s',Inv X pins (σ.set i (some v)) H s'->(∃a,Heap.SameBut a s.heap s'.heap/\(a=X.env.locals\/X.env.cells.lookup x=some a))->Q () s') (hf:%[X.fn x=true\/X.env.scope.names.lookup x=some .local|0]):wpAny M A (storeName X.env x u) Q E s:=by
 let#[m,hn,hl]:=id I.loc;let aT:(X.env.scope.kind == .class||(X.env.scope.kind == .module&&X.env.locals != X.env.globals))=false:=(by rw[I.ok.kind];rfl);let ao:i<σ.length:=(by rw[I.len];show(y0.mp hi).1);let Dp:=I.Dp;let ad:∀{a:Addr}{h':Heap},(∃o,s.heap.get? a=some o/\H a=none)->Heap.SameBut a s.heap h'->jy X.prog X.w H h':=λ{a h'} ha hs b ob e=>by
  let#[_,_,ac]:=ha;show(I.bC b ob e).gD (λc w' G q=>(hs.2 c ?_).trans q) (λ_ q=>q) λ_ _ q=>q;rintro rfl;rcases G with rfl|G
  .rw[ac]at e;cases e
  .rw[ac]at G;cases G
 rcases L with hk|hk
 .show wpAny_storeName_local hk hn (λh' aB hs=>?_) aT;let#[oL,_,_,as,_]:=id hn;show h _ #[I.ok,I.os,I.bare,#[λb o e n Z L=>?_,λb o e n Z L=>?_,I.base.free,λb o e L=>?_,I.base.oM,I.base.mH,I.base.oB],#[_,aB,λj y v' F U e3=>?_],λy c e=>?_,I.free,I.fJ,λp hp=>?_,ad #[oL,as,I.free] hs,by simpa using I.len] #[_,hs,.inl rfl]
  .show(hs.2 b (Ul (Tz (Heap.lt_size e) I.ok.above))).trans (I.base.keep b o e n Z L)
  .let#[sl,F]:=I.base.slot b o e n Z L;show#[sl,(hs.2 b (Ul (Tz (Heap.lt_size e) I.ok.above))).trans F]
  .let#[o',F]:=I.base.there b o e L;show#[o',(hs.2 b (Ul (Tz (Heap.lt_size e) I.ok.above))).trans F]
  .by_cases Y:j=i
   .subst Y;rwa[hi]at F;rwa[UI ao]at U;show#[u,r,.inl #[hk,by simp]]
   .rw[Uo (Ne.symm Y)]at U;let#[u',r',q]:=hl j y v' F U e3;show#[u',r',?_];rcases q with⟨k,e⟩|⟨k,c,e,z⟩
    .show .inl #[k,?_];have:y≠x:=λe=>Y (nZ hN F (e▸hi));simp[this,e]
    .show .inr #[k,c,e,z.sameBut hs (Dp y c e)]
  .let#[w',z]:=I.cell y c e;show#[w',z.sameBut hs (Dp y c e)]
  .let#[e,n,ne,nf,d]:=I.pin p hp;show#[(hs.2 p.1 ne).trans e,n,ne,nf,d]
 .let ab:X.fn x=true:=by
   rcases hf with z|z
   .show z
   .rw[z]at hk;cases hk
  let#[c,G]:=I.ok.has x (.inl hk);let#[w',z]:=I.cell x c G;show wpAny_storeName_cell I.ok.kind hk G z (λh' ar hs=>?_);let#[oc,am,aK]:=id z;show h { s with heap:=h' } #[I.ok,I.os,I.bare,#[λb o e n Z L=>?_,λb o e n Z L=>?_,I.base.free,λb o e L=>?_,I.base.oM,I.base.mH,I.base.oB],#[m,hn.sameBut hs (Ne.symm (Dp x c G)),λj y v' F U e3=>?_],λy c' e=>?_,I.free,I.fJ,λp hp=>?_,ad #[oc,am,I.fJ x c G] hs,by simpa using I.len] #[c,hs,.inr G]
  .show(hs.2 b (Ul (Tz (Heap.lt_size e) (I.ok.Jy x c ab G)))).trans (I.base.keep b o e n Z L)
  .let#[sl,F]:=I.base.slot b o e n Z L;show#[sl,(hs.2 b (Ul (Tz (Heap.lt_size e) (I.ok.Jy x c ab G)))).trans F]
  .let#[o',F]:=I.base.there b o e L;show#[o',(hs.2 b (Ul (Tz (Heap.lt_size e) (I.ok.Jy x c ab G)))).trans F]
  .by_cases Y:j=i
   .subst Y;rwa[hi]at F;rwa[UI ao]at U;show#[u,r,.inr #[.inl hk,c,G,ar]]
   .rw[Uo (Ne.symm Y)]at U;let#[u',r',q]:=hl j y v' F U e3;show#[u',r',?_];rcases q with q|⟨k,c',e,z'⟩
    .show .inl q
    .show .inr #[k,c',e,z'.sameBut hs ?_];rintro rfl;show Y (nZ hN F (I.ok.inj _ _ _ e G▸hi))
  .by_cases ap:c'=c
   .subst ap;show#[_,ar]
   .let#[w2,z2]:=I.cell y c' e;show#[w2,z2.sameBut hs ap]
  .let#[e,n,ne,nf,d]:=I.pin p hp;show#[(hs.2 p.1 ?_).trans e,n,ne,nf,d];intro q;rw[q,am]at e;let q':oc=p.2:=SN e;show d w' (by rw[<-q'];show aK)
theorem j6(I: ~~~H s)(F:X.N.Nodup)(hi:X.N[i]?=some x)(L:Loc X.env.scope x)(r:RelV v u)
  (h:∀s',Inv X pins (σ.set i (some v)) H s'->Q () s') (G:%[X.fn x=true\/X.env.scope.names.lookup x=some .local|0]):wpAny M A (storeName X.env x u) Q E s :=
 qF I F hi L r (λs' U _=>h s' U) G
variable{s':dM}
theorem Inv.C8(I: ~~~H s)(G:s'.os=s.os)(u:Un (p7 X.stack) ch H H' s.heap s'.heap)(L:jy X.prog X.w H' s'.heap)(F:Xj s'.gens)
  (U:∀b∈ch,(b∈X.ex\/X.s₀.heap.objs.size<=b)/\b≠X.env.locals/\(∀x c,X.env.cells.lookup x=some c->c≠b)/\∀p∈X.pn++pins,p.1≠b): ~~~H' s':=by
 let#[h',g',d',t',o']:=s';let e:o'=s.os:=G;subst e;show I.call (g':=g') (t':=t') (d':=d') u L F U
abbrev XK:=Value->Option Addr->Hp->Prop
abbrev St:=List (Option V)
abbrev VK:=V->Hp->Prop
abbrev TE:=St->Hp->VK->Prop
abbrev TT:=St->Hp->(Bool->Hp->Prop)->Prop
abbrev TA:=St->Hp->(List V->Hp->Prop)->Prop
structure Ends where
 nx:St->Hp->Prop
 rt:VK
 bk:St->Hp->Prop:=λ_ _=>False
 ct:St->Hp->Prop:=λ_ _=>False
abbrev TS:=Ends->St->Hp->Prop
def EP(X:Cx)(pins:qa1)(σ:St)(Q:VK)(u:Value)(s':dM):Prop:=∃v H',~~~H' s'/\RelV v u/\Q v H'
def TP(X:Cx)(pins:qa1)(σ:St)(Q:Bool->Hp->Prop)(b:Bool)(s':dM):Prop:=∃H',~~~H' s'/\Q b H'
def AP(X:Cx)(pins:qa1)(σ:St)(Q:List V->Hp->Prop)(us:qa6)(s':dM):Prop:=∃vs H',~~~H' s'/\Vals vs us/\Q vs H'
def SP(X:Cx)(pins:qa1)(D:Ends)(f:Flow)(s':dM):Prop :=
 match f with
 |.next=>∃F H',Inv X pins F H' s'/\D.nx F H'
 |.brk=>∃F H',Inv X pins F H' s'/\D.bk F H'
 |.cont=>∃F H',Inv X pins F H' s'/\D.ct F H'
 |.ret u=>∃v F H',Inv X pins F H' s'/\RelV v u/\D.rt v H'
def PE(X:Cx)(e:Tr)(t:TE):Prop :=
 ∀(pins:qa1)(s:dM)(σ:St)(H:Hp)(Q:VK),~~~H s->t σ H Q->↑(eval e X.env) (EP X pins σ Q) X.xe s
def PT(X:Cx)(e:Tr)(t:TT):Prop :=
 ∀(pins:qa1)(s:dM)(σ:St)(H:Hp)(Q:Bool->Hp->Prop),~~~H s->t σ H Q->↑(isTrue e X.env (eval e X.env)) (TP X pins σ Q) X.xe s
def PW(X:Cx)(e:Tr)(t:TT):Prop :=
 ∀(F:WT Value)(pins:qa1)(s:dM)(σ:St)(H:Hp)(Q:Bool->Hp->Prop),~~~H s->t σ H Q->↑(isTrue e X.env F) (TP X pins σ Q) X.xe s
variable{e:Tr}
theorem PW.pt{t:TT}(h:PW X e t):PT X e t:=h _
def PA(X:Cx)(es:qAf)(t:TA):Prop :=
 ∀(pos:Vw)(pins:qa1)(s:dM)(σ:St)(H:Hp)(Q:List V->Hp->Prop),~~~H s->t σ H Q->↑(aaE (backTo pos (starEach es X.env))) (AP X pins σ Q) X.xe s
def PS(X:Cx)(st:Tg)(t:TS):Prop :=
 ∀(pins:qa1)(s:dM)(σ:St)(H:Hp)(D:Ends),~~~H s->t D σ H->↑(exec st X.env) (SP X pins D) X.xe s
def tI(X:Cx)(st:List Tg)(t:TS):Prop :=
 ∀(pins:qa1)(s:dM)(σ:St)(H:Hp)(D:Ends),~~~H s->t D σ H->↑(execs st X.env) (SP X pins D) X.xe s
theorem bO{α:Type}{t:WT α}{Q F:α->dM->Prop}(h:wpAny M A t Q E s)(G:∀a s,Q a s->F a s):wpAny M A t F E s:=TY h G λ_ _ x=>x
inductive uF(i:Nat)(σ:St)(H:Hp)(Q:VK):Prop
 |mk(v:_)(_:σ[i]?=some (some v))(_:Q v H)
def tC(v:V):TE:=λ_ H Q=>Q v H
variable{pos:Vw}
theorem IG(U:X.N[i]?=some x)(hv:NG X.env.scope x)(hd:%[(x==("__debug__" : Str))=false|0])(Z:%[(x==("__classdict__" : Str))=false|0]):PE X (.Name x pos) (uF i):=by
 intros Q I h;let#[v,e,h]:=h;let#[m,hn,Y]:=I.loc;let#[u,r,l]:=Y i x v U e hv;let fin:EP X pins σ Q u s:=#[v,H,I,r,h];rcases l with⟨hk,L⟩|⟨hk,c,F,G⟩
 .show wpAny_Name (wpAny_loadName_local I.ok.kind hk hn L fin) hd
 .rcases hk with hk|hk
  .show wpAny_Name (wpAny_loadName_cell I.ok.kind hk F G fin) hd
  .show wpAny_Name (wpAny_loadName_free I.ok.kind hk F G fin Z) hd
theorem ai{i j pos}:PE X (.Constant (.int i) j pos) (tC (.int i)):=λ_ _ _ H _ I h=>wpAny_Constant_int #[.int i,H,I.tok _,#[0],h]
theorem jv{b j pos}:PE X (.Constant (.bool b) j pos) (tC (.bl b)):=λ_ _ _ H _ I h=>Constant_bool #[.bl b,H,I,rfl,h]
theorem cF{j pos}:PE X (.Constant .none j pos) (tC .a7):=λ_ _ _ H _ I h=>Constant_none #[.a7,H,I,rfl,h]
theorem aF{x j pos}:PE X (.Constant (.str x) j pos) (tC (.str x)):=λ_ _ _ H _ I h=>Calls.Constant_str #[.str x,H,I.tok _,#[0],h]
def Gl(X:Cx)(x:Str):Prop:=X.env.kindOf x=some .globalImplicit
variable{σ:St}{Q:qa2}
theorem hV(I: ~~~H s)(G:Gl X x)(F:X.mg x=some u)(h:Q u s)
  (hd:%[(x==("__debug__" : Str))=false|0]):↑(eval (.Name x pos) X.env) Q E s :=
 Calls.Name_function_global I.ok.kind G (Calls.loadGlobal_global (by rw[I.ok.glob];show I.mod.glob.keeps I.bk) F h) hd
theorem iO(I: ~~~H s)(G:Gl X x)(F:X.mg x=none)(U:TV x=some u)(h:Q u s)
  (L:%[x ≠ "__name__"|0]) (hd:%[(x==("__debug__" : Str))=false|0]):↑(eval (.Name x pos) X.env) Q E s:=by
 let#[Y,h1,h2]:=I.mod.blt;show Calls.Name_function_global I.ok.kind G (Calls.loadGlobal_builtin (by rw[I.ok.glob];show I.mod.glob.keeps I.bk) F (by rw[I.ok.blt];show h1.keeps I.bk) ((h2 x L).trans U) h) hd
theorem gv(G:Gl X x)(F:X.mg x=some u)(r:RelV v u)(hd:%[(x==("__debug__" : Str))=false|0]):PE X (.Name x pos) (tC v):=
 λ_ _ _ H _ I h=>hV I G F #[v,H,I,r,h] hd
theorem d9(G:Gl X x)(F:X.mg x=none)(U:TV x=some u)(r:RelV v u)(L:%[x ≠ "__name__"|0])(hd:%[(x==("__debug__" : Str))=false|0]):PE X (.Name x pos) (tC v):=
 λ_ _ _ H _ I h=>iO I G F U #[v,H,I,r,h] L hd
def PC(X:Cx)(G:CmpOp)(a b:Tr)(t:TE):Prop :=
 ∀(pins:qa1)(s:dM)(σ:St)(H:Hp)(Q:VK),~~~H s->t σ H Q ->
  ↑(eval a X.env) (λv F=>↑(eval b X.env) (λu I=>↑(Uz G v u) (EP X pins σ Q) X.xe I) X.xe F) X.xe s
inductive Sh(t:TE)(Q:Bool->Hp->Prop)(x:V)(H1:Hp):Prop
 |mk(c:_)(_:x=.bl c)(_:Q c H1)
def tB(t:TE):TT:=λσ H Q=>t σ H λx H1=>Sh t Q x H1
variable{a b:Tr}{t:TE}
theorem sf{F:CmpOp}(h:PC X F a b t)(h1:WQ F b=false:=by first|show nobehind _ az az|rfl):PT X (.Compare a [F] [b] pos) (tB t):=by
 intros Q I G;show YE (bO (h pins s σ H _ I G) λv s1 h1=>bO h1 λu s2 h2=>bO h2 λc s3 U=>?_) h1;let#[x,H1,Z,Y,L]:=U;let#[d,rfl,q]:=L;cases Y;show UT #[H1,Z,q]
theorem gy(h:PE X e t)(L:%[∀F,isTrue e X.env F=(do let v <-F;Xk e.pos;VT [v] (truthy v))|0]):PT X e (tB t):=by
 intros Q I G;show isTrue_plain (bO (h pins s σ H _ I G) λv s1 Y=>?_) (L _);let#[x,H1,I1,Z,U]:=Y;let#[d,rfl,q]:=U;cases Z;show UT #[H1,I1,q]
def Qe(t u:TT):TT:=λσ H Q=>t σ H λc H1=>if c=true then u σ H1 Q else Q false H1
def So(t u:TT):TT:=λσ H Q=>t σ H λc H1=>if c=true then Q true H1 else u σ H1 Q
def RU(t:TT):TT:=λσ H Q=>t σ H λc H1=>Q (!c) H1
variable{tA:TT}
theorem jQ(F:PT X a tA):PW X (.BoolOp .And [a] pos) tA:=by
 intro G pins s σ H Q I h;show isTrue_and (bO (F pins s σ H Q I h) λc L e=>?_);cases c with
 |true=>show isTrue_and_nil e
 |false=>show e
theorem kU(F:PT X a tA):PW X (.BoolOp .Or [a] pos) tA:=by
 intro G pins s σ H Q I h;show isTrue_or (bO (F pins s σ H Q I h) λc L e=>?_);cases c with
 |false=>show isTrue_or_nil e
 |true=>show e
variable{tB':TT}{rest:qAf}
theorem oF(ha:PT X a tA)(Y:PW X (.BoolOp .And (b::rest) pos) tB'):PW X (.BoolOp .And (a::b::rest) pos) (Qe tA tB'):=by
 intro L pins s σ H Q I h;show isTrue_and (bO (ha pins s σ H _ I h) λc U Z=>?_);let#[H1,G,F]:=Z;cases c with
 |true=>show Y L pins U σ H1 Q G F
 |false=>show#[H1,G,F]
theorem n6(ha:PT X a tA)(Z:PW X (.BoolOp .Or (b::rest) pos) tB'):PW X (.BoolOp .Or (a::b::rest) pos) (So tA tB'):=by
 intro L pins s σ H Q I h;show isTrue_or (bO (ha pins s σ H _ I h) λc U Y=>?_);let#[H1,G,F]:=Y;cases c with
 |true=>show#[H1,G,F]
 |false=>show Z L pins U σ H1 Q G F
theorem kT(F:PT X a tA):PT X (.UnaryOp .Not a pos) (RU tA):=by
 intros Q I h;show isTrue_not (F pins s σ H (λc H1=>Q (!c) H1) I h)
inductive AR(ta tb:TE)(σ:St)(Q:VK)(x:V)(H1:Hp):Prop
 |mk(c:_)(_:x=.bl c)(_:if c=true then tb σ H1 Q else Q (.bl false) H1)
def Nh(ta tb:TE):TE:=λσ H Q=>ta σ H λx H1=>AR ta tb σ Q x H1
inductive Ck(ta:TE)(Q:VK)(x:V)(H1:Hp):Prop
 |mk(c:_)(_:x=.bl c)(_:Q (.bl (!c)) H1)
def Mv(ta:TE):TE:=λσ H Q=>ta σ H λx H1=>Ck ta Q x H1
theorem sI{op}(h:PE X a t):PE X (.BoolOp op [a] pos) t:=λpins s σ H Q I F=>BoolOp_one (h pins s σ H Q I F)
variable{ta tb:TE}
theorem oP(Z:PE X a ta)(Y:PE X (.BoolOp .And (b::rest) pos) tb):PE X (.BoolOp .And (a::b::rest) pos) (Nh ta tb):=by
 intros Q I h;show BoolOp_and (bO (Z pins s σ H _ I h) λv L U=>?_);let#[x,H1,G,r1,F]:=U;let#[c,rfl,F]:=F;cases r1;show UT ?_;cases c with
 |true=>show Y pins L σ H1 Q G F
 |false=>show#[.bl false,H1,G,rfl,F]
theorem Jl(L:PE X a ta):PE X (.UnaryOp .Not a pos) (Mv ta):=by
 intros Q I h;show UnaryOp_ (bO (L pins s σ H _ I h) λv Z G=>?_);let#[x,H1,Y,U,F]:=G;let#[c,rfl,F]:=F;cases U;show not_of (UT #[.bl (!c),H1,Y,rfl,F])
def SF(t:TT)(ta tb:TE):TE:=λσ H Q=>t σ H λc H1=>if c=true then ta σ H1 Q else tb σ H1 Q
variable{c:Tr}
theorem gh(Z:PT X c tA)(Y:PE X a ta)(U:PE X b tb):PE X (.IfExp c a b pos) (SF tA ta tb):=by
 intros Q I h;show wpAny_IfExp (bO (Z pins s σ H _ I h) λd F ab=>?_);let#[H1,L,G]:=ab;cases d with
 |true=>show Y pins F σ H1 Q L G
 |false=>show U pins F σ H1 Q L G
def aW(K:SU)(H:Hp)(a:Addr)(xs:qAh):Prop :=
 Rd H a (.lst xs) \/
  ∃(o:Obj)(its:qa5)(n:Nat),K.lookup a=some o/\o.cls=.type "list" /\ o.dict=none/\o.data=.seq its n/\its.size<=sizeLine/\Vals xs its.toList
def dC(K:SU)(H:Hp)(a:Addr)(xs:qAh):Prop :=
 Rd H a (.tup xs) \/
  ∃(o:Obj)(its:qa5)(n:Nat),K.lookup a=some o/\o.cls=.type "tuple" /\ o.data=.seq its n/\its.size<=sizeLine/\Vals xs its.toList
noncomputable def Q4:Value->Option V
 |.none=>some .a7
 |.bool b=>some (.bl b)
 |.int i _=>some (.int i)
 |.str x _=>some (.str x)
 |.bytes b _=>some (.byt b)
 |.float b _=>some (.flt b)
 |.ref a=>some (.ref a)
 |.type n=>some (.ty n)
 |_=>none
variable{x:V}
theorem RelV.abs(r:RelV x u):Q4 u=some x:=by
 cases x with
 |a7=>cases r;rfl
 |bl _=>cases r;rfl
 |int _=>let#[t,rfl]:=r;rfl
 |str _=>let#[t,rfl]:=r;rfl
 |byt _=>let#[t,rfl]:=r;rfl
 |flt _=>let#[t,rfl]:=r;rfl
 |ref _=>cases r;rfl
 |ty _=>cases r;rfl
variable{y:V}
theorem RelV.inj(r:RelV x u)(q:RelV y u):x=y:=SN (r.abs.symm.trans q.abs)
theorem Vals.inj:∀{xs ys:qAh}{us:qa6},Vals xs us->Vals ys us->xs=ys
 |_,_,_,.nil,.nil=>rfl
 |_,_,_,.cons r t,.cons F t'=>by rw[r.inj F,Vals.inj t t']
variable{a:Addr}{K:SU}
theorem aW.of(h:H a=some (.lst xs)):aW K H a xs:=.inl (.inl h)
theorem dC.of(h:H a=some (.tup xs)):dC K H a xs:=.inl (.inl h)
theorem Inv.list(I: ~~~H s)(h:aW X.K H a xs):∃its:List Value,Vals xs its/\PlainL s.heap a its.toArray/\xs.length<=sizeLine:=by
 rcases h with h|⟨o,its,n,hk,F,hd,hs,G,r⟩
 .let#[z,its,n,r,e]:=h.ok I.bC;show#[its,r,#[_,n,e,1,rfl],z]
 .show#[its.toList,r,#[o,n,I.jj a o hk,F,hd,by simpa using hs],?_];let e:=r.length;simp only[Uj]at e;omega
theorem Inv.tuple(I: ~~~H s)(h:dC X.K H a xs):∃its:List Value,Vals xs its/\IsTup s.heap a its.toArray/\xs.length<=sizeLine:=by
 rcases h with h|⟨o,its,n,hk,F,hs,G,r⟩
 .let#[z,its,r,p]:=h.ok I.bC;show#[its,r,p,z]
 .show#[its.toList,r,#[o,I.jj a o hk,F,n,by simpa using hs],?_];let e:=r.length;simp only[Uj]at e;omega
variable{ys:qAh}
theorem Inv.oS(I: ~~~H s)(h:aW X.K H a xs)(h':aW X.K H a ys):xs=ys:=by
 let#[its,r,#[o,n,e,_,_,d],_]:=I.list h;let#[its',G,#[o',U,F,_,_,d'],_]:=I.list h';rwa[e]at F;rw[d]at d';injection d' with L _;have:its=its':=‹congrArg toList L›;subst this;show r.inj G
theorem Inv.Ap(I: ~~~H s)(h:dC X.K H a xs)(h':dC X.K H a ys):xs=ys:=by
 let#[its,r,#[o,e,_,n,d],_]:=I.tuple h;let#[its',G,#[o',F,_,U,d'],_]:=I.tuple h';rwa[e]at F;rw[d]at d';injection d' with L _;have:its=its':=‹congrArg toList L›;subst this;show r.inj G
noncomputable abbrev Cx.fY(X:Cx)(E:qa2):Cx:={ X with xe:=E }
noncomputable abbrev Cx.lI(X:Cx):Cx:=X.fY λ_ _=>False
theorem Cx.Ok.fY(ok:X.Ok)(E:qa2):(X.fY E).Ok :=
 #[ok.mod,ok.kind,ok.glob,ok.blt,ok.above,ok.inj,ok.has,ok.Jy,ok.hd,ok.frames,ok.Lq,ok.Of,ok.bs,ok.AM,ok.wz,ok.xD,ok.jN,ok.Fi]
theorem Cx.Ok.bL(ok:(X.fY E).Ok):X.Ok :=
 #[ok.mod,ok.kind,ok.glob,ok.blt,ok.above,ok.inj,ok.has,ok.Jy,ok.hd,ok.frames,ok.Lq,ok.Of,ok.bs,ok.AM,ok.wz,ok.xD,ok.jN,ok.Fi]
theorem Inv.fY(I: ~~~H s)(E:qa2):Inv (X.fY E) pins σ H s:=#[I.ok.fY E,I.os,I.bare,I.base,I.loc,I.cell,I.free,I.fJ,I.pin,I.bC,I.len]
theorem Inv.bL(I:Inv (X.fY E) pins σ H s): ~~~H s:=#[I.ok.bL,I.os,I.bare,I.base,I.loc,I.cell,I.free,I.fJ,I.pin,I.bC,I.len]
variable{D:Ends}
theorem SP.bL{f:Flow}(h:SP (X.fY E) pins D f s'):SP X pins D f s':=by
 cases f with
 |next=>let#[F,H',I,q]:=h;show#[F,H',I.bL,q]
 |brk=>let#[F,H',I,q]:=h;show#[F,H',I.bL,q]
 |cont=>let#[F,H',I,q]:=h;show#[F,H',I.bL,q]
 |ret u=>let#[v,F,H',I,r,q]:=h;show#[v,F,H',I.bL,r,q]
variable{t:TS}
theorem tI.lI{st:List Tg}(h:tI X.lI st t):tI X st t:=λpins s σ H D I F =>
 TY (h pins s σ H D (I.fY _) F) (λ_ _ q=>q.bL) λ_ _ z=>UD z
def yt:TS:=λD σ H=>D.nx σ H
def gj(t u:TS):TS:=λD σ H=>t { D with nx:=u D } σ H
theorem bj:tI X [] yt:=λ_ _ σ H _ I h=>UW #[σ,H,I,h]
variable{st:Tg}{u:TS}
theorem aj{rest:List Tg}(h1:PS X st t)(h2:tI X rest u):tI X (st::rest) (gj t u):=by
 intros D I h;show WD (bO (h1 pins s σ H { D with nx:=u D } I h) λf G q=>?_);cases f with
 |next =>
  let#[F,H',L,q]:=q;show h2 pins G F H' D L q
 |ret v=>show q
 |brk=>show q
 |cont=>show q
theorem aq(h1:PS X st t):tI X [st] t:=by
 intros D I h;show WD (bO (h1 pins s σ H D I h) λf F q=>?_);cases f with
 |next=>show UW q
 |ret v=>show q
 |brk=>show q
 |cont=>show q
theorem GQ:PS X (.Pass pos) yt:=λ_ _ σ H _ I h=>wpAny_Pass #[σ,H,I,h]
theorem Inv.quiet(I: ~~~H s):interactive X.env=false:=by simp[interactive,I.ok.kind]
def HI(te:TE):TS:=λD σ H=>te σ H λ_ H1=>D.nx σ H1
variable{te:TE}
theorem aR(U:PE X e te)(hs:%[Wj e none pos.line X.env=pure false|0]):PS X (.Expr e pos) (HI te):=by
 intros D I h;show wpAny_Expr_any (bO (U pins s σ H _ I h) λv Y L=>by let#[x,H1,G,Z,F]:=L;show#[σ,H1,G,F]) I.quiet hs
def MT(te:TE):TS:=λD σ H=>te σ H D.rt
theorem aG(Y:PE X e te):PS X (.Return (some e) pos) (MT te):=by
 intros D I h;show ZF (bO (Y pins s σ H _ I h) λv Z F=>by let#[x,H1,U,L,G]:=F;show#[x,σ,H1,U,L,G])
def FH(c:TT)(t u:TS):TS:=λD σ H=>c σ H λb H1=>if b=true then t D σ H1 else u D σ H1
variable{tc:TT}
theorem bP{a b:List Tg}(Z:PT X c tc)(Y:tI X a t)(U:tI X b u):PS X (.If c a b pos) (FH tc t u):=by
 intros D I h;show wpAny_If (bO (Z pins s σ H _ I h) λd F ab=>?_);let#[H1,G,L]:=ab;cases d with
 |true=>show Y pins F σ H1 D G L
 |false=>show U pins F σ H1 D G L
abbrev TG:=V->St->Hp->(St->Hp->Prop)->Prop
abbrev Lz:=List V->St->Hp->(St->Hp->Prop)->Prop
def PG(X:Cx)(G:Tr)(t:TG):Prop :=
 ∀(pins:qa1)(s:dM)(σ:St)(H:Hp)(v:V)(u:Value)(Q:St->Hp->Prop),~~~H s->RelV v u->t v σ H Q ->
  ↑(Zr G X.env u) (λ_ s'=>∃F H',Inv X pins F H' s'/\Q F H') X.xe s
def Ow(X:Cx)(ts:qAf)(t:Lz):Prop :=
 ∀(pins:qa1)(s:dM)(σ:St)(H:Hp)(vs:qAh)(us:qa6)(Q:St->Hp->Prop),~~~H s->Vals vs us->t vs σ H Q ->
  ↑(assignInOrder ((Xu ts X.env).map (·.2)) us) (λ_ s'=>∃F H',Inv X pins F H' s'/\Q F H') X.xe s
abbrev Kt:=V->V->V->Hp->(Hp->Prop)->Prop
def LA(X:Cx)(t:Kt):Prop :=
 ∀(pins:qa1)(s:dM)(σ:St)(H:Hp)(o i v:V)(ov F u:Value)(Q:Hp->Prop),~~~H s->RelV o ov->RelV i F->RelV v u->t o i v H Q ->
  ↑(setItem ov F u) (λ_ s'=>∃H',~~~H' s'/\Q H') X.xe s
def iz(i:Nat):TG:=λv σ H Q=>Q (σ.set i (some v)) H
variable{x:Str}
theorem mY(F:X.N.Nodup)(hi:X.N[i]?=some x)(L:Loc X.env.scope x)(G:%[X.fn x=true\/X.env.scope.names.lookup x=some .local|0]):PG X (.Name x pos) (iz i):=by
 intros v u Q I r h;show ZG (j6 I F hi L r (λs' U=>#[_,H,U,h]) G)
theorem qx(i:Nat)(G:X.N.Nodup)(hi:%[X.N[i]?=some x|0])(F:%[Loc X.env.scope x|0])(I:%[X.fn x=true\/X.env.scope.names.lookup x=some .local|0]):PG X (.Name x pos) (iz i):=mY G hi F I
def Nm:Lz:=λvs σ H Q=>vs=[]/\Q σ H
inductive yV(t:TG)(u:Lz)(vs:qAh)(σ:St)(H:Hp)(Q:St->Hp->Prop):Prop
 |mk (v:_) (r:_) (_:vs=v::r) (_:t v σ H λσ' H'=>u r σ' H' Q):yV t u vs σ H Q
theorem sM:Ow X [] Nm:=by
 intros vs us Q I r h;let#[e,h]:=h;subst e;cases r;show assignInOrder_nil #[σ,H,I,h]
variable{es:qAf}
theorem gJ{t:TG}{u:Lz}(h1:PG X e t)(h2:Ow X es u)
  (hs:%[(Xu (e::es) X.env).map (·.2)=Zr e X.env::(Xu es X.env).map (·.2)|0]):Ow X (e::es) (yV t u):=by
 intros vs us Q I r h;let#[v,vr,F,h]:=h;subst F;cases r with
 |cons r Z =>
  rw[hs];show assignInOrder_cons (bO (h1 pins s σ H _ _ _ I r h) λ_ G ab=>?_);let#[U,H1,L,Y]:=ab;show h2 pins G U H1 _ _ Q L Z Y
inductive IB(K:SU)(n:Nat)(t:Lz)(v:V)(σ:St)(H:Hp)(Q:St->Hp->Prop):Prop
 |mk(a:_)(xs:_)(_:v=.ref a)(_:dC K H a xs)(_:xs.length=n)(_:t xs σ H Q)
theorem xa{k:Nat}{t:Lz}{n:Nat}(hc:X.calm=true)(h:Ow X es t)
  (hn:%[(Xu es X.env).length=n|0]) (ab:%[(Xu es X.env).findIdx? (·.1)=none|0]):PG X (.Tuple es k pos) (IB X.K n t):=by
 intros v u Q I r F;let#[a,xs,L,hq,hl,F]:=F;subst L;cases r;let#[its,G,U,hz]:=I.tuple hq;show assign_Tuple_tuple (I.ok.hd hc) U (by simp[hn, <-hl,G.length]) ab λh' Y=>?_;let Z: ~~~H { s with heap:=h' }:=I.kept (t':=s.toks) λb o e=>Y b o (Ul (Heap.lt_size e)) e;show h pins _ σ H xs _ Q Z ‹G› F
def P6(to G:TE)(t:Kt):TG:=λv σ H Q=>to σ H λo H1=>G σ H1 λi H2=>t o i v H2 λF=>Q σ F
theorem wj{o i:Tr}{to G:TE}{t:Kt}(ho:PE X o to)(hi:PE X i G)(hs:LA X t)
  (ha:∀v,Zr (.Subscript o i pos) X.env v=(do
   let ov <-VT [v] (eval o X.env)
   let F <-VT [v,ov] (eval i X.env)
   Xk pos
   VT [v,ov,F] (setItem ov F v)
   release [v,ov,F] []):=by intro _;rfl):PG X (.Subscript o i pos) (P6 to G t):=by
 intros v u Q I r h;rw[ha];show ti (U1 (bO (ho pins s σ H _ I h) λov s1 L=>?_));let#[x,H1,I1,r1,Z]:=L;show ti (U1 (bO (hi pins s1 σ H1 _ I1 Z) λF Y U=>?_));let#[y,H2,I2,r2,q2]:=U;show ti (X4 (ti (U1 (bO (hs pins Y σ H2 x y v ov F u _ I2 r1 r2 r q2) λ_ s3 ab=>?_))));let#[H3,I3,q3]:=ab;show wpAny_release #[σ,H3,I3,q3]
def zO(te:TE)(g:TG):TS:=λD σ H=>te σ H λx H1=>g x σ H1 D.nx
variable{tg:Tr}{g:TG}
theorem xx(L:PE X e te)(Y:PG X tg g)(hs:%[swapsWithSole [tg] e pos.line X.env=pure false|0])(F:%[swappedStores [tg] e X.env=pure none|0])
  (h1:%[(Xu [tg] X.env).map (·.2)=[Zr tg X.env]|0]):PS X (.Assign [tg] e pos) (zO te g):=by
 intros D I h;show wpAny_Assign_stores (bO (L pins s σ H _ I h) λv G ab=>?_) hs F;let#[x,H1,I1,Z,U]:=ab;rw[h1];show bO (Y pins G σ H1 x v _ I1 Z U) λ_ s2 q=>q
variable{pos':Vw}
theorem Dy(G:X.N.Nodup)(hi:X.N[i]?=some x)(U:Loc X.env.scope x)(Y:PE X e te)(hs:%[Wj e (some (.Name x pos')) pos.line X.env=pure false|0])(L:%[X.fn x=true\/X.env.scope.names.lookup x=some .local|0]) :
  PS X (.Assign [.Name x pos'] e pos) (zO te (iz i)):=by
 intros D I h;show ZH (bO (Y pins s σ H _ I h) λv s1 ab=>?_) hs;let#[y,H1,I1,r1,Z]:=ab;show j6 I1 G hi U r1 (λs2 F=>#[_,H1,F,Z]) L
theorem cL(i:Nat)(F:X.N.Nodup)(L:PE X e te)(hi:%[X.N[i]?=some x|0])(I:%[Loc X.env.scope x|0])(hs:%[Wj e (some (.Name x pos')) pos.line X.env=pure false|0])(G:%[X.fn x=true\/X.env.scope.names.lookup x=some .local|0]):PS X (.Assign [.Name x pos'] e pos) (zO te (iz i)):=Dy F hi I L hs G
def JH(c:TT)(tb:TS):TS:=λD σ H=>∃W:Nat->St->Hp->Prop,(∃m,W m σ H)/\∀m σ H,W m σ H ->
 c σ H λb H1=>if b=true then ∃N:St->Hp->Prop,(∀F H',N F H'->∃m',m'<m/\W m' F H')/\tb { D with nx:=N,ct:=N,bk:=D.nx } σ H1 else D.nx σ H1
variable{body:List Tg}{tb:TS}
theorem BO(hp:aac (model X.prog X.w) X.A X.env X.xe)(hc:PT X c tc)(hb:tI X body tb):PS X (.While c body [] pos) (JH tc tb):=by
 intros D I h;let#[W,#[m0,w0],ac]:=h;show wpAny_While (codeAny_whileLoop (λn s'=>∃ab H',Inv X pins ab H' s'/\W n ab H') ?_ m0 #[σ,H,I,w0]);rintro n s1 ⟨L,H1,I1,w1⟩;show Uq hp (bO (hc pins s1 L H1 _ I1 (ac n L H1 w1)) λb s2 ad=>?_);let#[H2,I2,U]:=ad;cases b with
 |true =>
  let#[N,hN,U]:=U;rw[aa3 rfl];show Uq hp (bO (hb pins s2 L H2 _ I2 U) λf s3 Y=>?_);cases f with
  |next =>
   let#[G,F,I3,n3]:=Y;let#[m',Z,w3]:=hN G F n3;show#[m',Z,G,F,I3,w3]
  |cont =>
   let#[G,F,I3,n3]:=Y;let#[m',Z,w3]:=hN G F n3;show#[m',Z,G,F,I3,w3]
  |brk=>show Y
  |ret v=>show Y
 |false =>
  rw[aa2 SM];show UW #[L,H2,I2,U]
structure It where
 go:Nat->Hp->Prop
 Ee:Nat->Hp->V->Hp->Prop
 stop:Nat->Hp->Prop
def gA(X:Cx)(pins:qa1)(H:Hp)(b:Addr):Prop :=
 H b=none/\b≠X.env.locals/\b∉X.fs/\(b∈X.ex\/X.s₀.heap.objs.size<=b)/\(∀x c,X.env.cells.lookup x=some c->c≠b)/\∀p∈X.pn++pins,p.1≠b
theorem Inv.pJ{b:Addr}(I: ~~~H s)(F:s⁻¹<=b)(L:H' b=none):gA X pins H' b:=by
 show#[L,ZI (Tz I.lt F),I.NN F,.inr (Td I.sz F),λx c e z=>?_,λp G z=>?_]
 .let#[v,q]:=I.cell x c e;show absurd (Tz q.lt (by rw[z];show F)) (Wi _)
 .show absurd (Tz (Heap.lt_size (I.pin p G).1) (by rw[z];show F)) (Wi _)
structure Turn(P:By)(w:R4)(K:SU)(tg:Tr)(J:It)(fp:qAc)(it:Addr)(tn:Nat->Heap->Prop):Prop where
 mem:it∈fp
 obj:∀i h,tn i h->∀b∈fp,∃o,h.get? b=some o/\∀v,o.data≠.cell v
 keep:∀i h h',tn i h->(∀b∈fp,∀o,h.get? b=some o->h'.get? b=some o)->tn i h'
 item:∀(X:Cx),X.prog=P->X.w=w->X.K=K->X.calm=true->∀(i:Nat)(pins:qa1)(s:dM)(σ:St)(H:Hp)(E:qa2),~~~H s->(∀b∈fp,gA X pins H b)->tn i s.heap->J.go i H ->
  wpAny (model P w) X.A (pyNext (.ref it)) (λr s1=>∃u,r=some u /\
   wpAny (model P w) X.A (W7 tg (.ref it) u) (λ_ s2=>∃x H',~~~H' s2/\RelV x u/\J.Ee i H x H'/\tn (i+1) s2.heap/\∀b∈fp,H' b=none) E s1) E s
 done:∀(X:Cx),X.prog=P->X.w=w->X.K=K->X.calm=true->∀(i:Nat)(pins:qa1)(s:dM)(σ:St)(H:Hp)(E:qa2),~~~H s->(∀b∈fp,gA X pins H b)->tn i s.heap->J.stop i H ->
  wpAny (model P w) X.A (pyNext (.ref it)) (λr s1=>r=none/\~~~H s1) E s
 self:∀(A:Th)(i:Nat)(s:dM)(Q:qa2)(E:qa2),tn i s.heap->Q (.ref it) s->wpAny (model P w) A (pyIter (.ref it)) Q E s
abbrev TI:=St->Hp->(It->Hp->Prop)->Prop
def Sk(X:Cx)(pins:qa1)(σ:St)(tg:Tr)(R:It->Hp->Prop)(I:Value)(G:dM):Prop :=
 ∃(it:Addr)(fp:qAc)(F:Nat->Heap->Prop)(J:It)(H':Hp),I=.ref it/\~~~H' G/\Turn X.prog X.w X.K tg J fp it F/\F 0 G.heap/\(∀b∈fp,gA X pins H' b)/\R J H'
def PI(X:Cx)(tg iter:Tr)(wi:TI):Prop :=
 ∀(pins:qa1)(s:dM)(σ:St)(H:Hp)(R:It->Hp->Prop),~~~H s->wi σ H R ->
  ↑(eval iter X.env) (λv F=>↑(pyIter v) (Sk X pins σ tg R) X.xe F) X.xe s
variable{o:Obj}
theorem tP{u:Value}{n:String}{vs:qa5}{Q:Unit->dM->Prop}(I:s.heap.get? it=some o)(G:o.cls=.type n)(hd:o.data=.fields vs)
  (L:["enumerate","zip","dict_itemiterator","dict_reverseitemiterator","odict_iterator","itertools.zip_longest","itertools.pairwise"].contains n=false) (F:Q () s):wpAny M A (W7 tg (.ref it) u) Q E s:=by
 unfold W7;cases tg<;>first
  |show wpAny_pure F
  |(cases u<;>first
    |show wpAny_pure F
    |(show ti (wpAny_load I ?_)
      rw[G,hd];change wpAny M A (if (["enumerate","zip","dict_itemiterator","dict_reverseitemiterator","odict_iterator","itertools.zip_longest","itertools.pairwise"].contains n&&vs[0]?==some (Zs _))=true then _ else _) Q E s;rw[aa2 (by intro h;rwa[L,Bool.false_and]at h)];show wpAny_pure F))
def El(K:SU)(a:Addr):It :=
 #[λi H=>∃xs x,aW K H a xs/\xs[i]?=some x,λi H x H'=>H'=H/\∀xs,aW K H a xs->xs[i]?=some x,λi H=>∃xs,aW K H a xs/\xs.length<=i]
def GY(lo:Int)(n:Nat):It:=#[λi _=>i<n,λi H x H'=>H'=H/\x=.int (lo+i),λi _=>n<=i]
theorem zD(a it:Addr):Turn P w K tg (El K a) [it] it (λi h=>h.IsListIter it a i) where
 mem:=by simp
 obj:=λi h st b F=>by
  let e:b=it:=‹F›;subst e;let#[o,e,c,d]:=st;show#[o,e,λv z=>by rwa[d]at z]
 keep:=λi h h' st k=>st.at λo e=>k it (by simp) o e
 item:=by
  intro X Y hw hK hc i pins s σ H E I G st hg;subst Y hw hK;let#[xs,x,L,U]:=hg;let#[its,Z,p,hz]:=I.list L;let#[u,hu,ru]:=Z.get U;let#[f0,f1,f2,f3,f4,f5]:=G it (by simp);show wpAny_pyNext_list_item st p.isList (x:=u) ‹hu› λh' ab sb=>?_;let I1: ~~~H { s with heap:=h' }:=I.turned (t':=s.toks) (λb o F e=>(sb.2 b F).trans e) f0 f1 f3 f4 f5;let#[o,e,c,d]:=id ab;show#[u,rfl,tP (s:={ s with heap:=h' }) e c d az #[x,H,I1,ru,#[rfl,λys hy=>by rw[I.oS hy L];show U],ab,λb F=>(G b F).1]]
 done:=by
  intro X Y hw hK hc i pins s σ H E I G st hg;subst Y hw hK;let#[xs,L,U]:=hg;let#[its,Z,p,hz]:=I.list L;let#[f0,f1,f2,f3,f4,f5]:=G it (by simp);let hl:=Z.length;show wpAny_pyNext_list_end (I.ok.hd hc) st p.isList (by simp;omega) λh' eb=>#[rfl,I.turned (t':=s.toks) (λb o F e=>eb b o F e) f0 f1 f3 f4 f5]
 self:=λ_ _ _ _ _ st h=>wpAny_pyIter_listiter st h
theorem wO(it:Addr)(lo:Int)(n:Nat):Turn P w K tg (GY lo n) [it] it (λi h=>YS h it (lo+(i:Nat)*1) ((n:Int)-(i:Nat)) 1) where
 mem:=by simp
 obj:=λi h st b F=>by
  let e:b=it:=‹F›;subst e;show#[_,st,λv z=>by
   let z':Data.fields _=Data.cell v:=z;cases z']
 keep:=λi h h' st k=>k it (by simp) _ st
 item:=by
  intro X U Z hK hc i pins s σ H E I G st hg;subst U Z hK;let#[f0,Y,f2,L,f4,f5]:=G it (by simp);let W:=Walks.range (prog:=X.prog) (w:=X.w) (I.ok.hd hc) it lo 1 n;show W.item i s _ _ hg st λv h' tk hv ab kk=>?_;let#[t,rfl]:=hv;let I1: ~~~H { s with heap:=h',toks:=tk }:=I.turned (λb o F e=>kk b o ‹F› e) f0 Y L f4 f5;show#[0,tP (s:={ s with heap:=h',toks:=tk }) (n := "range_iterator") ab rfl rfl az #[.int (lo+i),H,I1,#[t,?_],#[1],ab,λb F=>(G b F).1]];rw[Int.mul_one]
 done:=by
  intro X U Z hK hc i pins s σ H E I G st hg;subst U Z hK;let#[f0,Y,f2,L,f4,f5]:=G it (by simp);show Yl (I.ok.hd hc) st (by have:n<=i:=hg;omega) λh' eb=>#[rfl,I.turned (t':=s.toks) (λb o F e=>eb b o F e) f0 Y L f4 f5]
 self:=λ_ _ _ _ _ st h=>Ym st h
def Mw(K:SU)(tl:TE):TI:=λσ H R=>tl σ H λx H1=>∃a,x=.ref a/\(∃xs,aW K H1 a xs)/\R (El K a) H1
theorem cJ{l:Tr}{tl:TE}(U:PE X l tl):PI X tg l (Mw X.K tl):=by
 intros R I h;show bO (U pins s σ H _ I h) λv F L=>?_;let#[x,H1,G,r1,q1]:=L;let#[a,e,#[xs,Z],q]:=q1;subst e;cases r1;let#[its,rv,p,hz]:=G.list Z;show ZJ p.isList ?_;show#[F⁻¹,[F⁻¹],2,H1,rfl,G.kept (t':=F.toks) λb o e=>Heap.get?_push_of_some _ e,zD a _,#[_,Heap.get?_push_size _ rfl,1],λb Y=>?_,q];let e:b=F⁻¹:=‹Y›;subst e;show G.pJ (G0 _) (G.bC.fresh (G0 _))
variable{lo:Int}
theorem uV{R:It->Hp->Prop}{hi:Int}{t u v:Tok}{tk:Nat}(I: ~~~H s)(h1 : -(2^62)<=lo)(h2:lo<2^62)(Y : -(2^62)<=hi)(U:hi<2^62)
  (q:R (GY lo (hi-lo).toNat) H):↑(pyIter (.ref s⁻¹)) (Sk X pins σ tg R) E { s with heap:=s.heap.push { cls:=.type "range",data:=.fields ([.int lo t,.int hi u,.int 1 v].toArray) },toks:=tk }:=by
 show Zt (aaZ ..) (small_one h1 h2 Y U) ?_;let F: ~~~H { s with heap:=s.heap.push { cls:=.type "range",data:=.fields ([.int lo t,.int hi u,.int 1 v].toArray) },toks:=tk }:=I.kept λb o e=>Heap.get?_push_of_some _ e;show#[(s.heap.push { cls:=.type "range",data:=.fields ([.int lo t,.int hi u,.int 1 v].toArray) }).objs.size,[(s.heap.push { cls:=.type "range",data:=.fields ([.int lo t,.int hi u,.int 1 v].toArray) }).objs.size],2,H,rfl,
  F.kept (t':=tk) λb o e=>Heap.get?_push_of_some _ e,wO _ lo (hi-lo).toNat,?_,λb L=>?_,q]
 .let G:lo+((0:Nat):Int)*1=lo:=(by simp);let Z:(((hi-lo).toNat:Nat):Int)-((0:Nat):Int)=Builtin.Range.rangeSize lo hi 1:=(by rw[rangeSize_one];split<;>omega);change YS _ _ (lo+((0:Nat):Int)*1) ((((hi-lo).toNat:Nat):Int)-((0:Nat):Int)) 1;rw[G,Z];show Heap.get?_push_size _ rfl
 .let e:b=(s.heap.push { cls:=.type "range",data:=.fields ([.int lo t,.int hi u,.int 1 v].toArray) }).objs.size:=‹L›;subst e;show F.pJ (G0 _) (F.bC.fresh (G0 _))
def MC(ta:TA):TI:=λσ H R=>ta σ H λvs H1=>∃j:Int,vs=[.int j] /\ -(2^62)<=j/\j<2^62/\R (GY 0 j.toNat) H1
def Nf(ta:TA):TI:=λσ H R=>ta σ H λvs H1=>zt λ(i j:Int)=>kZ (vs=[.int i,.int j]) ((-(2^62)<=i/\i<2^62 /\ -(2^62)<=j/\j<2^62)) (R (GY i (j-i).toNat) H1)
variable{a:Tr}{ta:TA}{p:Vw}
theorem cH(Z:Gl X "range")(G:X.mg "range" = none)(Y:PA X [a] ta)(hs:%[starEach [a] X.env=[(false,eval a X.env)]|0]):PI X tg (.Call (.Name "range" p) [a] [] pos) (MC ta):=by
 intros R I h;show Call_ (iO I Z G boot_range (Ut (bO (Y pos pins s σ H _ I h) λus s1 ab=>?_) hs rfl));let#[vs,H1,L,r1,F]:=ab;let#[j,e,F,U,q]:=F;subst e;cases r1 with
 |cons r rr =>
  cases rr;let#[t,rfl]:=r;show call_range_1 (uV L af af F U ‹q›)
theorem zP(hg:Gl X "range")(U:X.mg "range" = none)(ha:PA X [a,b] ta)(hs:%[starEach [a,b] X.env=[(false,eval a X.env),(false,eval b X.env)]|0])(L:%[starEach [b] X.env=[(false,eval b X.env)]|0]) :
  PI X tg (.Call (.Name "range" p) [a,b] [] pos) (Nf ta):=by
 intros R I h;show Call_ (iO I hg U boot_range (Ut (bO (ha pos pins s σ H _ I h) λus s1 ⟨vs,H1,I1,r1,F⟩=>?_) (by rw[hs,L]) (by rw[L];rfl)));let#[i,j,e,#[F,Z,q3,q4],q]:=F;subst e;cases r1 with
 |cons r G =>
  cases G with
  |cons Y G =>
   cases G;let#[t,rfl]:=r;let#[t',rfl]:=Y;show call_range_2 (uV I1 F Z q3 q4 q)
def Mr(wi:TI)(g:TG)(tb:TS):TS:=λD σ H=>wi σ H λJ H1=>∃W:Nat->Nat->St->Hp->Prop,(∃m,W 0 m σ H1)/\∀i m σ H,W i m σ H ->
 (J.stop i H/\D.nx σ H)\/(J.go i H/\∃N:St->Hp->Prop,(∀F H',N F H'->∃m',m'<m/\W (i+1) m' F H')/\∀x H',J.Ee i H x H'->g x σ H' λG H2=>tb { D with nx:=N,ct:=N,bk:=D.nx } G H2)
noncomputable def kW(fp:qAc)(h:Heap):List (Addr×Obj):=fp.filterMap λb=>(h.get? b).map λo=>(b,o)
variable{fp:qAc}
theorem ff{b:Addr}(F:b∈fp)(e:h.get? b=some o):(b,o)∈kW fp h:=Wb.mpr #[b,F,by rw[e];rfl]
theorem zS{p:Addr×Obj}(F:p∈kW fp h):p.1∈fp/\h.get? p.1=some p.2:=by
 let#[b,I,e]:=Wb.mp F;cases q:h.get? b with
 |none=>rwa[q]at e
 |some o =>
  rw[q]at e;let G:(b,o)=p:=SN e;subst G;show#[I,q]
theorem Inv.pinned(I: ~~~H s)(U:∀b∈fp,gA X pins H b)(Z:∀b∈fp,∃o,s.heap.get? b=some o/\∀v,o.data≠.cell v):Inv X (pins++kW fp s.heap) σ H s :=
 I.mX λp L=>(SY.mp L).elim (λz=>I.pin p (L3 _ z)) λz=>by
  let#[G,e]:=zS z;let#[f0,Y,f2,_]:=U p.1 G;let#[o,F,d]:=Z p.1 G;rwa[e]at F;show#[e,f0,Y,f2,d]
theorem Inv.eO{pl:qa1}(I:Inv X (pins++pl) σ H s): ~~~H s:=I.mX λp F=>I.pin p (L3 _ (Ug _ F))
theorem dU{iter:Tr}{wi:TI}(Z:aac (model X.prog X.w) X.A X.env X.xe)(hc:X.calm=true)(hi:PI X tg iter wi)(hg:PG X tg g)(L:tI X body tb)
  (hs:%[∀x,VH iter X.env x=pure x|0]):PS X (.For tg iter body [] pos) (Mr wi g tb):=by
 intros D I h;show wpAny_For (bO (hi pins s σ H _ I h) λv s1 h1=>bO h1 λa5 s2 h2=>?_) hs;let#[it,fp,tn,J,H2,e,I2,T,ar,f2,W,#[m0,w0],as]:=h2;subst e;let am:∀{H':Hp},(∀b∈fp,H' b=none)->∀b∈fp,gA X pins H' b:=λhn b L=>#[hn b L,(f2 b L).2];show Zf (λn s'=>∃i ab H',Inv X pins ab H' s'/\tn i s'.heap/\(∀b∈fp,H' b=none)/\W i n ab H') ?_ m0 #[(0),σ,H2,I2,ar,λb L=>(f2 b L).1,w0];rintro n s3 ⟨i,ac,H3,I3,ap,ao,w3⟩;rcases as i n ac H3 w3 with⟨a2,qn⟩|⟨go,N,hN,step⟩
 .show Uq Z (bO (T.done X rfl rfl rfl hc i pins s3 ac H3 X.xe I3 (am ao) ap a2) λr s4 a0=>?_);let#[hr,I4]:=a0;subst hr;show UW #[ac,H3,I4,qn]
 .show Uq Z (bO (T.item X rfl rfl rfl hc i pins s3 ac H3 X.xe I3 (am ao) ap go) λr s4 aT=>?_);let#[u,hr,h4]:=aT;subst hr;show Uq Z (bO h4 λ_ s5 aB=>?_);let#[x,H5,I5,r5,y5,ad,a3]:=aB;let a4:=I5.pinned (am a3) (T.obj _ _ ad);show Uq Z (bO (hg _ s5 ac H5 x u _ a4 r5 (step x H5 y5)) λ_ s6 a1=>?_);let#[aK,H6,I6,q6]:=a1;show Uq Z (bO (L _ s6 aK H6 _ I6 q6) λf s7 Y=>?_);let again:∀{F:St}{U:Hp},Inv X (pins++kW fp s5.heap) F U s7->N F U->∃m,m<n/\∃i ab H',Inv X pins ab H' s7/\tn i s7.heap/\(∀b∈fp,H' b=none)/\W i m ab H':=λ{F U} G n7=>by
   let#[m',hm,w7]:=hN F U n7;show#[m',hm,i+1,F,U,G.eO,T.keep _ _ _ ad λb L o e=>(G.pin (b,o) (L3 _ (L3 _ (ff L e)))).1,λb L=>?_,w7];let#[o,e,d]:=T.obj _ _ ad b L;show(G.pin (b,o) (L3 _ (L3 _ (ff L e)))).2.1
  cases f with
  |next=>let#[F,U,G,n7]:=Y;show again G n7
  |cont=>let#[F,U,G,n7]:=Y;show again G n7
  |brk=>let#[F,U,G,Y]:=Y;show#[F,U,G.eO,Y]
  |ret v=>let#[x7,F,U,G,r7,Y]:=Y;show#[x7,F,U,G.eO,r7,Y]
theorem gf{a:Addr}(Pv:Nat->St->Hp->Prop)(L:Pv 0 σ H)(U:∀i σ H,i<=xs.length->Pv i σ H->aW K H a xs)
  (hs:∀i x σ H,xs[i]?=some x->Pv i σ H->g x σ H λF H2=>tb { D with nx:=Pv (i+1),ct:=Pv (i+1),bk:=D.nx } F H2) (hd:∀σ H,Pv xs.length σ H->D.nx σ H) :
  ∃W:Nat->Nat->St->Hp->Prop,(∃m,W 0 m σ H)/\∀i m σ H,W i m σ H ->
   ((El K a).stop i H/\D.nx σ H)\/((El K a).go i H/\∃N:St->Hp->Prop,(∀G H',N G H'->∃m',m'<m/\W (i+1) m' G H')/\∀x H',(El K a).Ee i H x H'->g x σ H' λF H2=>tb { D with nx:=N,ct:=N,bk:=D.nx } F H2):=by
 show#[λi m σ H=>m=xs.length-i/\i<=xs.length/\Pv i σ H,#[xs.length,by simp,Tp _,L],?_];rintro i m σ H ⟨rfl,hi,p⟩;let q:=U i σ H hi p;cases I:i<xs.length
 .show .inr #[#[xs,xs[i],q,by simp[I]],Pv (i+1),λG H' Y=>#[xs.length-(i+1),af,rfl,I,Y],λx H' y=>?_];let#[e,y]:=y;subst e;show hs i x σ _ (y xs q) p
 .let e:i=xs.length:=af;subst e;show .inl #[#[xs,q,G0 _],hd σ H p]
variable{n:Nat}
theorem eV(Pv:Nat->St->Hp->Prop)(L:Pv 0 σ H)
  (hs:∀i σ H,i<n->Pv i σ H->g (.int (lo+i)) σ H λF H2=>tb { D with nx:=Pv (i+1),ct:=Pv (i+1),bk:=D.nx } F H2) (hd:∀σ H,Pv n σ H->D.nx σ H) :
  ∃W:Nat->Nat->St->Hp->Prop,(∃m,W 0 m σ H)/\∀i m σ H,W i m σ H ->
   ((GY lo n).stop i H/\D.nx σ H)\/((GY lo n).go i H/\∃N:St->Hp->Prop,(∀G H',N G H'->∃m',m'<m/\W (i+1) m' G H')/\∀x H',(GY lo n).Ee i H x H'->g x σ H' λF H2=>tb { D with nx:=N,ct:=N,bk:=D.nx } F H2):=by
 show#[λi m σ H=>m=n-i/\i<=n/\Pv i σ H,#[n,by simp,Tp _,L],?_];rintro i m σ H ⟨rfl,hi,p⟩;cases I:i<n
 .show .inr #[I,Pv (i+1),λG H' U=>#[n-(i+1),af,rfl,I,U],λx H' y=>?_];let#[e,y]:=y;subst e y;show hs i σ _ I p
 .let e:i=n:=af;subst e;show .inl #[G0 _,hd σ H p]
abbrev R2:=V->V->Hp->VK->Prop
def kJ(X:Cx)(f:Value->Value->WT Value)(r:R2):Prop :=
 ∀(pins:qa1)(s:dM)(σ:St)(H:Hp)(x y:V)(v u:Value)(Q:VK),~~~H s->RelV x v->RelV y u->r x y H Q ->
  ↑(f v u) (EP X pins σ Q) X.xe s
def PN(X:Cx)(f:Value->WT Value)(r:V->Hp->VK->Prop):Prop :=
 ∀(pins:qa1)(s:dM)(σ:St)(H:Hp)(x:V)(v:Value)(Q:VK),~~~H s->RelV x v->r x H Q ->
  ↑(f v) (EP X pins σ Q) X.xe s
def cz(X:Cx)(f:Value)(r:List V->Hp->VK->Prop):Prop :=
 ∀(pins:qa1)(s:dM)(σ:St)(H:Hp)(xs:qAh)(us:qa6)(Q:VK),~~~H s->Vals xs us->r xs H Q ->
  ↑(call f us) (EP X pins σ Q) X.xe s
def HU(r:R2)(ta tb:TE):TE:=λσ H Q=>ta σ H λx H1=>tb σ H1 λy H2=>r x y H2 Q
def SH(r:V->Hp->VK->Prop)(ta:TE):TE:=λσ H Q=>ta σ H λx H1=>r x H1 Q
inductive rI(C:Int->Int->Prop)(g:Int->Int->V)(x:V)(y:V)(H:Hp)(Q:VK):Prop
 |mk(i:_)(j:_)(_:x=.int i)(_:y=.int j)(_:C i j)(_:Q (g i j) H)
inductive F0(g:Int->Int->V)(x:V)(y:V)(H:Hp)(Q:VK):Prop
 |mk(i:_)(j:_)(_:x=.int i)(_:y=.int j)(_:Q (g i j) H)
inductive rU(g:Int->V)(x:V)(H:Hp)(Q:VK):Prop
 |mk(i:_)(_:x=.int i)(_:Q (g i) H)
variable{ta tb:TE}{f:Value->Value->WT Value}
theorem Kz(ha:PE X a ta)(hb:PE X b tb){R:V->V->Hp->Prop}(I: ~~~H s)
  (h:ta σ H λx H1=>tb σ H1 λy H2=>R x y H2) 
  (U:∀v u F x y H2,~~~H2 F->RelV x v->RelV y u->R x y H2->↑(f v u) Q X.xe F) :
  ↑(eval a X.env) (λv ac=>↑(eval b X.env) (λu ab=>↑(f v u) Q X.xe ab) X.xe ac) X.xe s:=by
 show bO (ha pins s σ H _ I h) λv Y ad=>?_;let#[x,H1,I1,r1,q1]:=ad;show bO (hb pins Y σ H1 _ I1 q1) λu F L=>?_;let#[y,H2,G,Z,q2]:=L;show U v u F x y H2 G r1 Z q2
theorem aJ{F:aaH}{r:R2}(ho:kJ X (WU F) r)(Z:PE X a ta)(Y:PE X b tb):PE X (.BinOp a F b pos) (HU r ta tb):=by
 intros Q I h;show wpAny_BinOp (Kz Z Y I h λv u U x y H2 G rx L q=>ho pins U σ H2 x y v u Q G rx L q)
theorem dm{F:UnaryOp}{r:V->Hp->VK->Prop}(ho:PN X (unaryOp F) r)(Y:PE X a ta):PE X (.UnaryOp F a pos) (SH r ta):=by
 intros Q I h;show UnaryOp_ (bO (Y pins s σ H _ I h) λv G U=>by let#[x,H1,I1,Z,L]:=U;show ho pins G σ H1 x v Q I1 Z L)
variable{g:Int->Int->Int}
theorem Pd{C:Int->Int->Prop}
  (rule:∀(i j:Int)(t u:Tok)(s:dM)(Q:qa2)(E:qa2),C i j->Q (.int (g i j) s.toks) { s with toks:=s.toks+1 }->↑(f (.int i t) (.int j u)) Q E s) :
  kJ X f (rI C λi j=>.int (g i j)):=by
 intros x y v u Q I G F h;let#[i,j,rfl,rfl,L,q]:=h;let#[t,rfl]:=G;let#[t',rfl]:=F;show rule i j t t' s _ _ L #[.int (g i j),H,I.tok _,#[0],q]
theorem ND(rule:∀(i j:Int)(t u:Tok)(s:dM)(Q:qa2)(E:qa2),Q (.int (g i j) s.toks) { s with toks:=s.toks+1 }->↑(f (.int i t) (.int j u)) Q E s) :
  kJ X f (F0 λi j=>.int (g i j)):=by
 intros x y v u Q I G F h;let#[i,j,rfl,rfl,q]:=h;let#[t,rfl]:=G;let#[t',rfl]:=F;show rule i j t t' s _ _ #[.int (g i j),H,I.tok _,#[0],q]
theorem FF{g:Int->Int->Bool}
  (rule:∀(i j:Int)(t u:Tok)(s:dM)(Q:qa2)(E:qa2),Q (.bool (g i j)) s->↑(f (.int i t) (.int j u)) Q E s) :
  kJ X f (F0 λi j=>.bl (g i j)):=by
 intros x y v u Q I G F h;let#[i,j,rfl,rfl,q]:=h;let#[t,rfl]:=G;let#[t',rfl]:=F;show rule i j t t' s _ _ #[.bl (g i j),H,I,rfl,q]
def Ri(i j:Int):Prop:=0<j/\j<1073741824
def Jh(i j:Int):Prop:=(-(2^64)<i/\i<2^64)\/(-(2^64)<j/\j<2^64)
variable{i j:Int}
theorem Jh.ok(h:Jh i j):IntMulOk i j:=by
 rcases h with⟨h1,h2⟩|⟨h1,h2⟩
 .show .of_left (intBits_le_64 h1 h2)
 .show .of_right (intBits_le_64 h1 h2)
theorem bU:kJ X (WU .Add) (F0 λi j=>.int (i+j)):=ND λ_ _ _ _ _ _ _ q=>add_int q
theorem dQ:kJ X (WU .Sub) (F0 λi j=>.int (i-j)):=ND λ_ _ _ _ _ _ _ q=>sub_int q
theorem fH:kJ X (WU .Mult) (rI Jh λi j=>.int (i*j)):=Pd λ_ _ _ _ _ _ _ F q=>mul_int q F.ok
theorem jk:kJ X (WU .FloorDiv) (rI Ri λi j=>.int (i/j)):=Pd λi j _ _ _ _ _ F q=>by
 let h1:(0:Int)<j:=F.1;let h2:j<1073741824:=F.2;show floordiv_int af (by rw[Int.fdiv_eq_ediv_of_nonneg i af];show q) (.inl (PyProof.noPylong_small af))
theorem eY:kJ X (WU .Mod) (rI (λ_ j=>0<j) λi j=>.int (i%j)):=Pd λi j _ _ _ _ _ F q=>by
 let h1:(0:Int)<j:=F;show mod_int' af (by rw[Int.fmod_eq_emod_of_nonneg i af];show q)
theorem SE{f:Value->WT Value}{g:Int->Int}
  (rule:∀(i:Int)(t:Tok)(s:dM)(Q:qa2)(E:qa2),Q (.int (g i) s.toks) { s with toks:=s.toks+1 }->↑(f (.int i t)) Q E s) :
  PN X f (rU λi=>.int (g i)):=by
 intros x v Q I F h;let#[i,rfl,q]:=h;let#[t,rfl]:=F;show rule i t s _ _ #[.int (g i),H,I.tok _,#[0],q]
theorem cu:PN X (unaryOp .USub) (rU λi=>.int (-i)):=SE λ_ _ _ _ _ q=>neg_int q
noncomputable def IM:V->V->Bool
 |.a7,.a7=>true|.a7,.int _=>true|.int _,.a7=>true|.a7,.bl _=>true|.bl _,.a7=>true|.a7,.str _=>true|.str _,.a7=>true
 |.int _,.int _=>true|.bl _,.bl _=>true|.str _,.str _=>true|.byt _,.byt _=>true
 |.int _,.str _=>true|.str _,.int _=>true|.bl _,.str _=>true|.str _,.bl _=>true
 |_,_=>false
def Oo:R2:=λx y H Q=>IM x y=true/\Q (.bl (decide (x=y))) H
def Ss:R2:=λx y H Q=>IM x y=true/\Q (.bl (!decide (x=y))) H
theorem yp:decide (V.int i=V.int j)=(i==j):=by
 rw[W8];simp
theorem Bc{i j:Bool}:decide (V.bl i=V.bl j)=(i==j):=by
 rw[W8];simp
theorem xE{i j:Str}:decide (V.str i=V.str j)=(i==j):=by
 rw[W8];simp
theorem yg{i j:Array UInt8}:decide (V.byt i=V.byt j)=(i.toList==j.toList):=by
 rw[W8];cases i;cases j;simp
theorem bI{Q:VK}{k F:Bool}(I: ~~~H s)(q:Q (.bl k) H)(e:k=F):EP X pins σ Q (.bool F) s:=by
 subst e;show#[.bl k,H,I,rfl,q]
theorem bD:kJ X (Uz .Eq) Oo:=by
 intros x y v u Q I G F h;let#[hs,q]:=h;cases x with
 |a7 =>
  cases G;cases y with
  |a7=>cases F;show PySem.EqNone.eq_none_none (bI I q (by simp))
  |bl j=>cases F;show PySem.EqNone.eq_none_bool (bI I q (by simp))
  |int j=>let#[t',rfl]:=F;show PySem.EqNone.eq_none_int (bI I q (by simp))
  |str j=>let#[t',rfl]:=F;show PySem.EqNone.eq_none_str (bI I q (by simp))
  |_=>show absurd (show false=true from hs) SM
 |bl i =>
  cases G;cases y with
  |a7=>cases F;show PySem.EqNone.eq_bool_none (bI I q (by simp))
  |bl j=>cases F;show eq_bool (bI I q Bc)
  |str j=>let#[t',rfl]:=F;show PySem.EqMixed.eq_bool_str (bI I q (by simp))
  |_=>show absurd (show false=true from hs) SM
 |int i =>
  let#[t,rfl]:=G;cases y with
  |a7=>cases F;show PySem.EqNone.eq_int_none (bI I q (by simp))
  |int j=>let#[t',rfl]:=F;show eq_int (bI I q yp)
  |str j=>let#[t',rfl]:=F;show PySem.EqMixed.eq_int_str (bI I q (by simp))
  |_=>show absurd (show false=true from hs) SM
 |str i =>
  let#[t,rfl]:=G;cases y with
  |a7=>cases F;show PySem.EqNone.eq_str_none (bI I q (by simp))
  |bl j=>cases F;show PySem.EqMixed.eq_str_bool (bI I q (by simp))
  |int j=>let#[t',rfl]:=F;show PySem.EqMixed.eq_str_int (bI I q (by simp))
  |str j=>let#[t',rfl]:=F;show eq_str (bI I q xE)
  |_=>show absurd (show false=true from hs) SM
 |byt i =>
  let#[t,rfl]:=G;cases y with
  |byt j=>let#[t',rfl]:=F;show PySem.W.eq_bytes (bI I q yg)
  |_=>show absurd (show false=true from hs) SM
 |_=>cases y<;>show absurd (show false=true from hs) SM
theorem pb:kJ X (Uz .NotEq) Ss:=by
 intros x y v u Q I G F h;let#[hs,q]:=h;cases x with
 |a7 =>
  cases G;cases y with
  |a7=>cases F;show PySem.EqNone.ne_none_none (bI I q (by simp))
  |bl j=>cases F;show PySem.EqNone.ne_none_bool (bI I q (by simp))
  |int j=>let#[t',rfl]:=F;show PySem.EqNone.ne_none_int (bI I q (by simp))
  |str j=>let#[t',rfl]:=F;show PySem.EqNone.ne_none_str (bI I q (by simp))
  |_=>show absurd (show false=true from hs) SM
 |bl i =>
  cases G;cases y with
  |a7=>cases F;show PySem.EqNone.ne_bool_none (bI I q (by simp))
  |bl j=>cases F;show ne_bool (bI I q (congrArg not Bc))
  |str j=>let#[t',rfl]:=F;show PySem.EqMixed.ne_bool_str (bI I q (by simp))
  |_=>show absurd (show false=true from hs) SM
 |int i =>
  let#[t,rfl]:=G;cases y with
  |a7=>cases F;show PySem.EqNone.ne_int_none (bI I q (by simp))
  |int j=>let#[t',rfl]:=F;show ne_int (bI I q (congrArg not yp))
  |str j=>let#[t',rfl]:=F;show PySem.EqMixed.ne_int_str (bI I q (by simp))
  |_=>show absurd (show false=true from hs) SM
 |str i =>
  let#[t,rfl]:=G;cases y with
  |a7=>cases F;show PySem.EqNone.ne_str_none (bI I q (by simp))
  |bl j=>cases F;show PySem.EqMixed.ne_str_bool (bI I q (by simp))
  |int j=>let#[t',rfl]:=F;show PySem.EqMixed.ne_str_int (bI I q (by simp))
  |str j=>let#[t',rfl]:=F;show ne_str (bI I q (congrArg not xE))
  |_=>show absurd (show false=true from hs) SM
 |byt i =>
  let#[t,rfl]:=G;cases y with
  |byt j=>let#[t',rfl]:=F;show PySem.W.ne_bytes (bI I q (congrArg not yg))
  |_=>show absurd (show false=true from hs) SM
 |_=>cases y<;>show absurd (show false=true from hs) SM
theorem oz:kJ X (Uz .Lt) (F0 λi j=>.bl (decide (i<j))):=FF λ_ _ _ _ _ _ _ q=>lt_int q
theorem HQ:kJ X (Uz .LtE) (F0 λi j=>.bl (decide (i<=j))):=FF λ_ _ _ _ _ _ _ q=>le_int q
theorem jV:kJ X (Uz .Gt) (F0 λi j=>.bl (decide (j<i))):=FF λ_ _ _ _ _ _ _ q=>gt_int q
theorem DC:kJ X (Uz .GtE) (F0 λi j=>.bl (decide (j<=i))):=FF λ_ _ _ _ _ _ _ q=>ge_int q
theorem y6:kJ X (Uz .In) (λx y H Q=>∃i j,x=.str i/\y=.str j/\Q (.bl (!(Builtin.Str.occurrences j i 0 j.length 1).isEmpty)) H):=by
 intros x y v u Q I G F h;let#[i,j,rfl,rfl,q]:=h;let#[t,rfl]:=G;let#[t',rfl]:=F;show in_str (bI I q rfl)
theorem lL:kJ X (Uz .Is) (λx y H Q=>y=.a7/\Q (.bl (decide (x=.a7))) H):=by
 intros x y v u Q I F G h;let#[rfl,q]:=h;cases G;show is_none_gen (bI I q ?_);cases x<;>first
  |(cases F;rfl)
  |(let#[t,rfl]:=F;rfl)
theorem ic:kJ X (Uz .IsNot) (λx y H Q=>y=.a7/\Q (.bl (!decide (x=.a7))) H):=by
 intros x y v u Q I F G h;let#[rfl,q]:=h;cases G;show isnot_none_gen (bI I q ?_);cases x<;>first
  |(cases F;rfl)
  |(let#[t,rfl]:=F;rfl)
variable{F:CmpOp}
theorem aI(b:Tr)(h:%[F≠.In|0])(h2:%[F≠.NotIn|0]):WQ F b=false:=by
 let G:(F==CmpOp.In)=false:=by cases F<;>first|rfl|show absurd rfl h
 let I:(F==CmpOp.NotIn)=false:=by cases F<;>first|rfl|show absurd rfl h2
 cases b<;>simp[WQ,G,I]
variable{r:R2}
theorem nE(ho:kJ X (Uz F) r)(ha:PE X a ta)(Z:PE X b tb)(U:WQ F b=false):PE X (.Compare a [F] [b] pos) (HU r ta tb):=by
 intros Q I h;show wpAny_Compare1 (Kz ha Z I h λv u Y x y H2 G rx L q=>ho pins Y σ H2 x y v u Q G rx L q) U
inductive BF(t:TE)(Q:Bool->Hp->Prop)(x:V)(H':Hp):Prop
 |mk(k:_)(_:x=.bl k)(_:Q k H')
def Cd(t:TE):TT:=λσ H Q=>t σ H λx H'=>BF t Q x H'
theorem aA(ho:kJ X (Uz F) r)(ha:PE X a ta)(hb:PE X b tb)(L:WQ F b=false):PT X (.Compare a [F] [b] pos) (Cd (HU r ta tb)):=by
 intros Q I h;show YE (bO (ha pins s σ H _ I h) λv Z ⟨x,H1,I1,r1,q1⟩=>bO (hb pins Z σ H1 _ I1 q1) λu s2 ⟨y,H2,G,r2,q2⟩ =>
  bO (ho pins s2 σ H2 x y v u _ G r1 r2 q2) λc s3 ⟨z,Y,U,r3,k,e,q3⟩=>?_) L
 subst e;cases r3;show UT #[Y,U,q3]
inductive xI(r r':R2)(ta tb tc:TE)(σ:St)(Q:VK)(y:V)(z:V)(H3:Hp):Prop
 |mk (k:_) (_:z=.bl k) (_:(if k=true then tc σ H3 λw' H4=>r' y w' H4 Q else Q (.bl false) H3)):xI r r' ta tb tc σ Q y z H3
def IJ(r F:R2)(ta tb tc:TE):TE:=λσ H Q=>ta σ H λx H1=>tb σ H1 λy H2=>r x y H2 λz G=>xI r F ta tb tc σ Q y z G
theorem AO{tc:TE}{G:CmpOp}{L:R2}(ho:kJ X (Uz F) r)(ac:kJ X (Uz G) L)(ha:PE X a ta)(hb:PE X b tb)(hc:PE X c tc)
  (hm:lastMarks [F,G] [b,c]=false:=by with_unfolding_all rfl):PE X (.Compare a [F,G] [b,c] pos) (IJ r L ta tb tc):=by
 intros Q I h;show Compare_chain (bO (ha pins s σ H _ I h) λv s1 ⟨x,H1,I1,r1,q1⟩=>chain_link (bO (hb pins s1 σ H1 _ I1 q1) λu s2 ⟨y,H2,I2,Z,q2⟩ =>
  bO (ho pins s2 σ H2 x y v u _ I2 r1 Z q2) λd s3 ⟨z,Y,U,r3,k,e,q3⟩=>?_)) hm
 subst e;cases r3;show UT ?_;cases k with
 |false=>show ite_ff #[.bl false,Y,U,rfl,q3]
 |true=>show ite_tt (chain_last (bO (hc pins s3 σ Y _ U q3) λw' s4 ab=>by let#[z',H4,I4,r4,q4]:=ab;show ac pins s4 σ H4 y z' u w' Q I4 Z r4 q4))
theorem lG:(sizeLine:Nat)<2^63:=by rw[y1];decide
theorem c8:kJ X (WU .Add) (λx y H Q=>∃i j,x=.str i/\y=.str j/\i.length+j.length<=sizeLine/\Q (.str (i++j)) H):=by
 intros x y v u Q I L F h;let#[i,j,rfl,rfl,G,q]:=h;let#[t,rfl]:=L;let#[t',rfl]:=F;show add_str (λt' tk=>#[.str (i++j),H,I.tok _,#[0],q]) G
variable{x:V}
theorem vals1(r:Vals [x] us):∃u,us=[u]/\RelV x u:=by
 cases r with
 |cons F G=>cases G;show#[0,F]
theorem vals2(r:Vals [x,y] us):∃u F,us=[u,F]/\RelV x u/\RelV y F:=by
 cases r with
 |cons G L =>
  cases L with
  |cons U I=>cases I;show#[_,0,G,U]
theorem BZ:cz X (.builtin "abs") (λxs H Q=>∃i,xs=[.int i]/\Q (.int (if i<0 then -i else i)) H):=by
 intros xs us Q I r h;let#[i,rfl,q]:=h;let#[u,rfl,t,rfl]:=vals1 r;show call_abs_int λu tk=>#[.int (if i<0 then -i else i),H,I.tok _,#[0],q]
theorem zI(G:X.calm=true):cz X (.builtin "min") (λxs H Q=>∃i j,xs=[.int i,.int j]/\Q (.int (if j<i then j else i)) H):=by
 intros xs us Q I r h;let#[i,j,rfl,q]:=h;let#[u,L,rfl,#[t,rfl],#[t',rfl]]:=vals2 r;show min_two_ints (I.ok.hd G) λh' tk k=>#[_,H,I.kept k,?_,q];cases F:j<i
 .rw[aa3 F,aa3 F];show#[0]
 .rw[aa2 F,aa2 F];show#[0]
structure wI(h:Heap)(x dx C:Addr)(mA:qa3):Prop where
 obj:h.get? x=some (instObj C dx)
 ns:h.Ns1 dx mA
 ne:dx≠x
variable{dx:Addr}{mA:qa3}
theorem zi(n:h.Ns1 dx mA):∃od,h.get? dx=some od/\∀name,lookIn name od=some (mA name):=by
 let#[o,es,ep,L,hd,hk,_,F]:=n;show#[o,L,λname=>?_];let e:=F name;unfold nsFind findBy at e;rw[<-Array.find?_toList]at e;unfold lookIn;rw[hd];dsimp only
 set_option tactic.hygienic true in split
 .rename_i y q;rw[q]at e;show congrArg some e
 .rename_i q;rw[q]at e;let a:es.toList.any (·.refKey)=false:=by
   rw[ZK];intro y I;let#[z,t,G]:=hk y (Array.mem_toList_iff.mp I);simp[DictEntry.refKey,G]
  let U:¬ es.toList.any (·.refKey)=true:=(by rw[a];show SM);rw[aa2 U];show congrArg some e
variable{x C:Addr}
theorem wI.look(I:wI h x dx C mA):∃od,PySem.W.InstAt h x (instObj C dx) C (some od)/\∀name,lookIn name od=some (mA name):=
 let ⟨od,F,G⟩:=zi I.ns
 #[od,#[I.obj,1,F],G]
variable{prog:By}{name:Str}{v:Value}
theorem get_map{Y:Bool}(X:K.In s.heap)(I:wI s.heap x dx C mA)(U:aaI K C name=true)(F:hasDictIn K C=true)
  (L:Ua K (.ref C) name=some none) (Z:mA name=some v) (G:handedIn v=true) (h:Q v { s with toks:=s.toks+1 }) :
  wpAny (model prog w) A (getAttr (.ref x) name Y) Q E s:=by
 let#[od,J,hl]:=I.look;show PySem.W.get_value X J (aao U).1 (PySem.W.findObj_own F L rfl (by rw[hl,Z])) G h
variable{f:Addr}{pl:WT Bool}
theorem Dz{Q:Value×List Value->dM->Prop}(X:K.In s.heap)(I:wI s.heap x dx C mA)(F:aaI K C name=true)
  (L:Ua K (.ref C) name=some (some (.ref f))) (G:isFn K (.ref f)=true) (U:mA name=none) (h:Q (.ref f,[.ref x]) s) :
  wpAny (model prog w) A (getMethod (.ref x) name pl) Q E s:=by
 let#[od,J,Y]:=I.look;show PySem.W.method_fn X J (aao F).1 (aao F).2 L (beq_iff_eq.mp G) (by change(lookIn name od).map (·.isSome)=some false;rw[Y,U];rfl) h
theorem Ge{ns:qAb}{Q:Unit->dM->Prop}(X:K.In s.heap)(I:wI s.heap x dx C mA)
  (hs:Ua K (.ref C) "__setattr__" = some (some (.builtin "object.__setattr__"))) (U:plainOver K C=true) (L:takerIn K C name=some none) (Y:hasDictIn K C=true)
  (Z:ZE mA ns) (hsz:ns.length<=sizeLine)
  (h:∀h',wI h' x dx C (λy=>if y=name then some v else mA y)->Heap.SameBut dx s.heap h'->Q () { s with heap:=h',toks:=s.toks+2 }) :
  wpAny (model prog w) A (setAttr (.ref x) name v) Q E s:=by
 let#[od,J,hl]:=I.look;show PySem.W.set_plain X J hs (PySem.W.osa_open (s:={ s with toks:=s.toks+1 }) (r:=none) X J U L λb=>?_);let#[cd,hc,ad]:=PySem.W.any_some Y;let hx:s.heap.get? x=some #[.ref C,some dx,.plain, ([].toArray)]:=I.obj;show ti (wpAny_pure (ti (ti (wpAny_loadPart hx (ti (PySem.W.Looks.here (s:={ s with toks:=s.toks+1 }) (PySem.W.looks_clsIn X hc) ?_))))));rw[ad];show wpAny_pure (a:=some dx) (ti (wpAny_pure (ti ?_)));show wpAny_nsSet1 (s:={ s with toks:=s.toks+1 }) I.ns λh' F G=>?_;let#[oD,ao,ap,ab,ac,am]:=F.count (PySem.Within.cons name v Z);show ti (wpAny_lookBehind ab (by rw[ac];show pastItsLine_dict (Td am (by rw[TH];omega))) ?_);show wpAny_pure (h _ #[(G.2 _ (Ne.symm I.ne)).trans I.obj,F,I.ne] G)
theorem Cc{R:Result->dM->Prop}{vs:qa6}{F:List (Str×Value)}(X:K.In s.heap)(G:makesIn K C=true)
  (hi:Ua K (.ref C) "__init__" = some (some (.ref f))) (I:aad K (.ref f)=some (.type "function"))
  (h:Xl (model prog w) (A.under (.builtin "type.__call__" #[.ref C::vs,F])) (.call (.ref f) #[.ref (s⁻¹+1)::vs,F]) (PySem.W.InitBack (s⁻¹+1) R)
   { s with heap:=(s.heap.push emptyDict).push (instObj C s⁻¹) }) :
  Xl (model prog w) A (.call (.ref C) #[vs,F]) R s:=by
 let#[L,g,d,t,os]:=s;show PySem.W.make_core (PySem.W.makes_of X G) (Xv X hi) (λself=>PySem.W.bind_fn X self I) (.inl rfl) h
noncomputable def bz(f:Str)(v:V):List (Str×V)->List (Str×V)
 | []=>[(f,v)]
 |(g,x)::r=>if g=f then(g,v)::r else(g,x)::bz f v r
theorem aN(f g:Str)(v:V):∀fs:List (Str×V),(bz f v fs).lookup g=if g=f then some v else fs.lookup g
 | []=>by
  change Wl g [(f,v)]=_;cases h:g=f
  .let F:(g==f)=true:=beq_iff_eq.mpr h;simp only[Wl,F,aa3 h]
  .let F:(g==f)=false:=beq_eq_false_iff_ne.mpr h;simp only[Wl,F,aa2 h]
 |(k,x)::r=>by
  let G:=aN f g v r;rw[show bz f v ((k,x)::r)=(if k=f then(k,v)::r else(k,x)::bz f v r)from rfl];cases hk:k=f
  .rw[aa3 hk];cases h:g=k
   .let F:(g==k)=true:=beq_iff_eq.mpr h;simp only[Wl,F,aa3 (h.trans hk)]
   .let F:(g==k)=false:=beq_eq_false_iff_ne.mpr h;simp only[Wl,F,aa2 (λe:g=f=>h (e.trans hk.symm))]
  .rw[aa2 hk];cases h:g=k
   .let F:(g==k)=true:=beq_iff_eq.mpr h;simp only[Wl,F,aa2 (λe:g=f=>hk (h.symm.trans e))]
   .let F:(g==k)=false:=beq_eq_false_iff_ne.mpr h;simp only[Wl,F];show G
theorem lj(f:Str)(v:V):∀fs:List (Str×V),f∈(bz f v fs).map (·.1)/\∀g,g∈fs.map (·.1)->g∈(bz f v fs).map (·.1)
 | []=>#[by simp[bz],λg h=>by simp at h]
 |(k,x)::r=>by
  let#[G,F]:=lj f v r;rw[show bz f v ((k,x)::r)=(if k=f then(k,v)::r else(k,x)::bz f v r)from rfl];cases hk:k=f
  .rw[aa3 hk];subst hk;show#[by simp,λg h=>by simpa using h]
  .rw[aa2 hk];show#[?_,λg h=>?_]
   .rw[T8];show S0 _ G
   .rw[T8]at h ⊢;rcases Ti.mp h with e|e
    .show Ti.mpr (.inl e)
    .show S0 _ (F g e)
theorem mi(f:Str)(v:V):∀fs:List (Str×V),(bz f v fs).length<=fs.length+1
 | []=>by simp[bz]
 |(k,x)::r=>by
  let F:=mi f v r;rw[show bz f v ((k,x)::r)=(if k=f then(k,v)::r else(k,x)::bz f v r)from rfl];cases hk:k=f
  .rw[aa3 hk,TH,TH];omega
  .rw[aa2 hk,TH,TH];omega
variable{v:V}{o:qa7}
theorem h9.some_of(r:h9 (some v) o):∃u,o=some u/\RelV v u:=by
 cases o with
 |none=>show(show False from r).elim
 |some u=>show#[u,rfl,r]
theorem h9.none_of(r:h9 none o):o=none:=by
 cases o with
 |none=>rfl
 |some u=>show(show False from r).elim
variable{u:Value}
theorem Ae(r:RelV v u):handedIn u=true:=by
 cases v with
 |a7=>cases(show u=Value.none from r);rfl
 |bl b=>cases(show u=Value.bool b from r);rfl
 |int i=>let#[t,e]:=(show ∃t,u=Value.int i t from r);cases e;rfl
 |str x=>let#[t,e]:=(show ∃t,u=Value.str x t from r);cases e;rfl
 |byt b=>let#[t,e]:=(show ∃t,u=Value.bytes b t from r);cases e;rfl
 |flt b=>let#[t,e]:=(show ∃t,u=Value.float b t from r);cases e;rfl
 |ref a=>cases(show u=Value.ref a from r);rfl
 |ty n=>cases(show u=Value.type n from r);rfl
section
variable{P:By}{w:R4}{H H':Hp}{h h':Heap}{a C dx:Addr}{fs fs':List (Str×V)}
theorem nA(F:jy P w H h)(e:H a=some (.ins C dx fs)):∃mA,wI h a dx C mA/\(∀f,h9 (fs.lookup f) (mA f))/\ZE mA (fs.map (·.1))/\fs.length<=1000/\H dx=some (.own a):=by
 let#[d,z,ne,G,mA,n,r,q]:=(show b9 P w H h a (.ins C dx fs)from F a _ e);show#[mA,#[G,n,ne],r,q,z,d]
end
structure mZ(K:SU)(C:Addr):Prop where
 pg:aaI K C Str.empty=true
 hd:hasDictIn K C=true
 po:plainOver K C=true
 sa:Ua K (.ref C) "__setattr__" = some (some (.builtin "object.__setattr__"))
theorem mZ.get(c:mZ K C)(f:Str):aaI K C f=true:=c.pg
def cC(K:SU)(C:Addr)(f:Str):Prop:=Ua K (.ref C) f=some none
variable{f:Str}
theorem cC.N5(n:cC K C f):takerIn K C f=some none:=by
 unfold takerIn;rw[show Ua K (.ref C) f=some none from n];rfl
structure Meth(K:SU)(C:Addr)(m:Str)(f:Addr):Prop where
 at_:Ua K (.ref C) m=some (some (.ref f))
 fn:isFn K (.ref f)=true
 kp:Uu K (.ref f)=true
section
variable{X:Cx}{pins:qa1}{σ:St}{H:Hp}{s:dM}{a C dx:Addr}{fs:List (Str×V)}{f:Str}{v:V}{A:Th}{E:qa2}
theorem pM{b:Bool}(I: ~~~H s)(e:H a=some (.ins C dx fs))(c:mZ X.K C)(n:cC X.K C f)(l:fs.lookup f=some v)
  (h:∀u s',~~~H s'->RelV v u->Q u s'):wpAny (model X.prog X.w) A (getAttr (.ref a) f b) Q E s:=by
 let#[mA,O,r,_,_,_]:=nA I.bC e;let#[u,F,ru]:=h9.some_of (v:=v) (o:=mA f) (by rw[<-l];show r f);show get_map I.jj O (c.get f) c.hd n F (Ae ru) (h u _ (I.tok _) ru)
theorem iw{m:Str}{g:Addr}{Q:Value×List Value->dM->Prop}(I: ~~~H s)(e:H a=some (.ins C dx fs))(c:mZ X.K C)(k:Meth X.K C m g)(l:fs.lookup m=none)
  (h:Q (.ref g,[.ref a]) s):wpAny (model X.prog X.w) A (getMethod (.ref a) m pl) Q E s:=by
 let#[mA,O,r,_,_,_]:=nA I.bC e;let F:mA m=none:=h9.none_of (by rw[<-l];show r m);show Dz I.jj O (c.get m) k.at_ k.fn F h
theorem pN{Q:Unit->dM->Prop}(I: ~~~H s)(e:H a=some (.ins C dx fs))(c:mZ X.K C)(n:cC X.K C f)(hl:fs.length<1000)(L:RelV y u)
  (h:∀s',~~~(upd H a (.ins C dx (bz f y fs))) s'->Q () s'):wpAny (model X.prog X.w) A (setAttr (.ref a) f u) Q E s:=by
 let#[mA,O,r,wi,_,G]:=nA I.bC e;let hz:(fs.map (·.1)).length<=sizeLine:=(by rw[rz,y1];omega);show Ge I.jj O c.sa c.po n.N5 c.hd wi hz λh' F U=>h _ ?_;let hd:∃o,h'.get? dx=some o:=let ⟨o,_,_,Z,_⟩:=F.ns;#[o,Z];show I.write (x:=a) (e:=dx) (by rw[e];show UN) (.inr G) (λb q Y z=>(U.2 b Y).trans z) hd ?_;show#[by rw[au O.ne];show G,?_,O.ne,F.obj,_,F.ns,λg=>?_,λg hg=>?_]
 .have:=mi f y fs;omega
 .change h9 ((bz f y fs).lookup g) (if g=f then some u else mA g);rw[aN];cases q:g=f
  .rw[aa3 q,aa3 q];show L
  .rw[aa2 q,aa2 q];show r g
 .by_cases q:g=f
  .rw[q];show(lj f y fs).1
  .show(lj f y fs).2 g (wi g λz=>hg ?_);change(if g=f then some u else mA g)=none;rw[aa2 q];show z
theorem Inv.made(I: ~~~H s): ~~~(upd (upd H s⁻¹ (.own (s⁻¹+1))) (s⁻¹+1) (.ins C s⁻¹ []))
  { s with heap:=(s.heap.push emptyDict).push (instObj C s⁻¹) }:=by
 let F:(s.heap.push emptyDict).get? s⁻¹=some emptyDict:=Heap.get?_push_size s.heap rfl;let L:((s.heap.push emptyDict).push (instObj C s⁻¹)).get? (s⁻¹+1)=some (instObj C s⁻¹):=by
  have:=Heap.get?_push_size (s.heap.push emptyDict) (o:=instObj C s⁻¹) rfl
  (rw[Heap.size_push]at this;assumption)
 let e3:(s.heap.push emptyDict).Ns s⁻¹ (λ_=>none):=#[emptyDict, ([].toArray),_,F,rfl,(λe U=>absurd U (by simp)),λ_=>rfl];let Y:=I.laid (a:=s⁻¹) (o:=.own (s⁻¹+1)) (h':=s.heap.push emptyDict) (t':=s.toks) (λb u q=>Heap.get?_push_of_some _ q) (G0 _) #[_,F];show Y.laid (a:=s⁻¹+1) (o:=.ins C s⁻¹ []) (t':=s.toks) (λb u q=>Heap.get?_push_of_some _ q) (ZL (Heap.size_push _ _)) ?_;let ne:s⁻¹≠s⁻¹+1:=Ul (WE _);show#[by rw[au ne,ag],Tp _,ne,L,λ_=>none,(Heap.Ns1.of_empty e3).at λo q=>Heap.get?_push_of_some _ q,λ_=>UN,λy G=>absurd rfl G]
theorem FC{env:X9}(G:VZ e f env (eval e env)=eval e env)
  (h:wpAny (model prog w) A (eval e env) (λo F=>wpAny (model prog w) A (getAttr o f true) Q E F) E s):wpAny (model prog w) A (eval (.Attribute e f pos) env) Q E s :=
 Attribute_any_ h (by rw[arm_eval_Attribute,G])
end
inductive Hz(K:SU)(ta:TE)(f:Str)(Q:VK)(x:V)(H1:Hp):Prop
 |mk(a:_)(C:_)(dx:_)(fs:_)(v:_)(_:x=.ref a)(_:H1 a=some (.ins C dx fs))(_:mZ K C)(_:cC K C f)(_:fs.lookup f=some v)(_:Q v H1)
def RW(K:SU)(ta:TE)(f:Str):TE:=λσ H Q=>ta σ H λx H1=>Hz K ta f Q x H1
def RJ(K:SU)(ta tv:TE)(f:Str):TS:=λD σ H=>tv σ H λy H1=>ta σ H1 λx H2=>OD λa C dx fs=>Ef (x=.ref a) (H2 a=some (.ins C dx fs)) (mZ K C) (cC K C f) (fs.length<1000) (D.nx σ (upd H2 a (.ins C dx (bz f y fs))))
def EA(X:Cx)(F:aaH)(rd:V->V->Hp->VK->Prop):Prop :=
 ∀(pins:qa1)(s:dM)(σ:St)(H:Hp)(x y:V)(u v:Value)(Q:VK),~~~H s->RelV x u->RelV y v->rd x y H Q->↑(inplaceOp F u v) (EP X pins σ Q) X.xe s
def FO(K:SU)(ta tv:TE)(rd:V->V->Hp->VK->Prop)(f:Str):TS:=λD σ H=>ta σ H λx H1=>Ly λa C dx fs v=>Ef (x=.ref a) (H1 a=some (.ins C dx fs)) (mZ K C) (cC K C f) (fs.lookup f=some v) (tv σ H1 λy H2=>rd v y H2 λz F=>∃G fs',F a=some (.ins C G fs')/\fs'.length<1000/\D.nx σ (upd F a (.ins C G (bz f z fs'))))
theorem aE(Y:PE X e ta)(U:VZ e f X.env (eval e X.env)=eval e X.env):PE X (.Attribute e f pos) (RW X.K ta f):=by
 intros Q I h;show FC U (bO (Y pins s σ H _ I h) λu s1 Z=>?_);let#[x,H1,I1,G,a,C,dx,fs,v,ex,L,c,n,l,q]:=Z;subst ex;obtain rfl:u=Value.ref a:=G;show pM I1 L c n l λu' s2 F ru=>#[v,H1,F,ru,q]
variable{o value:Tr}{tv:TE}
theorem dS(Z:PE X o ta)(hv:PE X value tv)(hs:Wj value (some (.Attribute o f pos')) pos.line X.env=pure false):PS X (.Assign [.Attribute o f pos'] value pos) (RJ X.K ta tv f):=by
 intros D I h;show plainObj_wpAny_Assign_Attribute (bO (hv pins s σ H _ I h) λu s1 G=>?_) hs;let#[y,H1,I1,F,q]:=G;show bO (Z pins s1 σ H1 _ I1 q) λov s2 U=>?_;let#[x,H2,I2,rx,a,C,dx,fs,ex,L,c,n,l,Y]:=U;subst ex;obtain rfl:ov=Value.ref a:=rx;show pN I2 L c n l F λs3 I3=>#[σ,_,I3,Y]
theorem qY{tpos:Vw}{F:aaH}{rd:V->V->Hp->VK->Prop}(ha:PE X o ta)(hv:PE X value tv)(ac:EA X F rd):PS X (.AugAssign (.Attribute o f tpos) F value pos) (FO X.K ta tv rd f):=by
 intros D I h;show wpAny_AugAssign_AttributeAny (bO (ha pins s σ H _ I h) λov s1 ad=>?_);let#[x,H1,I1,rx,a,C,dx,fs,v,ex,Z,c,n,l,q]:=ad;subst ex;obtain rfl:ov=Value.ref a:=rx;show pM I1 Z c n l λu s2 I2 ru=>bO (hv pins s2 σ H1 _ I2 q) λw3 s3 ab=>?_;let#[y,H2,I3,G,q3]:=ab;show bO (ac pins s3 σ H2 v y u w3 _ I3 ru G q3) λw4 s4 am=>?_;let#[z,H3,I4,L,ao,fs',Y,l',q4]:=am;show pN I4 Y c n l' L λs5 U=>#[σ,_,U,q4]
inductive MR(x:V)(y:V)(H:Hp)(Q:VK):Prop
 |mk(i:_)(j:_)(_:x=.int i)(_:y=.int j)(_:Q (.int (i+j)) H)
inductive Mh(x:V)(y:V)(H:Hp)(Q:VK):Prop
 |mk(i:_)(j:_)(_:x=.int i)(_:y=.int j)(_:Q (.int (i-j)) H)
theorem I0:EA X .Add MR:=by
 rintro pins s σ H x y u v Q I G F ⟨i,j,rfl,rfl,q⟩;let#[t,rfl]:=(show ∃t,u=Value.int i t from G);let#[t',rfl]:=(show ∃t',v=Value.int j t' from F);show iadd_int #[.int (i+j),H,I.tok _,#[0],q]
theorem Dn:EA X .Sub Mh:=by
 rintro pins s σ H x y u v Q I G F ⟨i,j,rfl,rfl,q⟩;let#[t,rfl]:=(show ∃t,u=Value.int i t from G);let#[t',rfl]:=(show ∃t',v=Value.int j t' from F);show isub_int #[.int (i-j),H,I.tok _,#[0],q]
inductive jB(K:SU)(H:Hp):V->Value->Prop where
 |a7:jB K H .a7 (.type "NoneType")
 |bl(x:Bool):jB K H (.bl x) (.type "bool")
 |int(i:Int):jB K H (.int i) (.type "int")
 |str(x:Str):jB K H (.str x) (.type "str")
 |flt(x:UInt64):jB K H (.flt x) (.type "float")
 |lst {a:Addr}{xs:qAh}(e:H a=some (.lst xs)):jB K H (.ref a) (.type "list")
 |frz {a:Addr}{o:Obj}{xs:qAh}(e:H a=some (.frz o (.lst xs))):jB K H (.ref a) (.type "list")
 |tup {a:Addr}{xs:qAh}(e:H a=some (.tup xs)):jB K H (.ref a) (.type "tuple")
 |dK {a:Addr}{kvs:qAi}(e:H a=some (.dK kvs)):jB K H (.ref a) (.type "dict")
 |dT {a:Addr}{kvs:List (List Key×V)}(e:H a=some (.dT kvs)):jB K H (.ref a) (.type "dict")
 |ins {a C dx:Addr}{fs:List (Str×V)}(e:H a=some (.ins C dx fs)) (cl:mZ K C) (ha:Ua K (.ref C) "__class__" = some (some (.builtin "object.__class__")))
   (hn:Wc K (.builtin "object.__class__") "__get__" = some (some (.builtin "getset_descriptor.__get__"))) (htk:YF K (.builtin "object.__class__")=some true)
   (hm:YG K C (.type "object")=some true):jB K H (.ref a) (.ref C)
theorem y4{c:Value}{b:Bool}{x:V}{t:Value}(I: ~~~H s)(G:RelV x u)(ty:jB X.K H x t)(e:Tn X.K t c=some b)(h:∀tk,Q (.bool b) { s with toks:=tk }) :
  wpAny (model X.prog X.w) A (call (.builtin "isinstance") [u,c]) Q E s:=by
 cases ty with
 |a7=>cases(show u=Value.none from G);show Uv PySem.W.kitx_none I.jj UN e (λz=>nomatch z) h
 |bl y=>cases(show u=Value.bool y from G);show Uv PySem.W.kitx_bool I.jj UN e (λz=>nomatch z) h
 |int i=>let#[t,q]:=(show ∃t,u=Value.int i t from G);cases q;show Uv PySem.W.kitx_int I.jj UN e (λz=>nomatch z) h
 |str y=>let#[t,q]:=(show ∃t,u=Value.str y t from G);cases q;show Uv PySem.W.kitx_str I.jj UN e (λz=>nomatch z) h
 |flt y=>let#[t,q]:=(show ∃t,u=Value.float y t from G);cases q;show Uv PySem.W.kitx_float I.jj UN e (λz=>nomatch z) h
 | @lst a xs F =>
  cases(show u=Value.ref a from G);let#[_,_,n,_,h1]:=(show b9 X.prog X.w H s.heap a (.lst xs)from I.bC a _ F);show Uv kitx_list I.jj #[_,h1,rfl] e (λz=>nomatch z) h
 | @frz a Y xs F =>
  cases(show u=Value.ref a from G);let#[_,_,_,n,_,h1]:=(show b9 X.prog X.w H s.heap a (.frz Y (.lst xs))from I.bC a _ F);show Uv kitx_list I.jj #[_,h1,rfl] e (λz=>nomatch z) h
 | @tup a xs F =>
  cases(show u=Value.ref a from G);let#[_,_,_,p]:=(show b9 X.prog X.w H s.heap a (.tup xs)from I.bC a _ F);let#[o,h1,h2,_]:=p;show Uv PySem.W.kitx_tuple I.jj #[o,h1,h2] e (λz=>nomatch z) h
 | @dK a kvs F =>
  cases(show u=Value.ref a from G);let#[_,_,vs,_,p]:=(show b9 X.prog X.w H s.heap a (.dK kvs)from I.bC a _ F);let#[o,es,ep,h1,h2,_]:=p;show Uv kitx_dict I.jj #[o,h1,h2.1] e (λz=>nomatch z) h
 | @dT a kvs F =>
  cases(show u=Value.ref a from G);let#[_,_,xs,_,o,es,ep,h1,h2,_]:=(show b9 X.prog X.w H s.heap a (.dT kvs)from I.bC a _ F);show Uv kitx_dict I.jj #[o,h1,h2.1] e (λz=>nomatch z) h
 | @ins a C dx fs F cl U hn Z L =>
  cases(show u=Value.ref a from G);let#[mA,O,_]:=nA I.bC F;let#[od,J,_]:=O.look;show Uv (PySem.W.kitx_own (cl.get _) cl.hd U hn Z L) I.jj J e (λz=>nomatch z) h
structure cX(k:Nat)(A:Th):Prop where
 hd:A.handled=none
 dp:A.depth+3*k+5<recursionLimit
 un:A.units+16*k+200<V0
variable{j k:Nat}
theorem cX.mono(r:cX k A)(h:j<=k):cX j A:=#[r.hd,by have:=r.dp;omega,by have:=r.un;omega]
theorem cX.deeper(r:cX (k+1) A)(env:X9):cX k (A.deeper env):=
 #[r.hd,by have:=r.dp;change A.depth+1+3*k+5<_;omega,by have:=r.un;change A.units+3+16*k+200<_;omega]
variable{F:List (Str×Value)}
theorem w5:(A.under (.builtin "type.__call__" #[.ref C::us,F])).depth=A.depth+1:=by
 first|rfl|simp[ZM,Code.weight,Code.isCreation,Code.isGuard,Code.isCaller,Code.frames,ZN,guardIds]
theorem xq:(A.under (.builtin "type.__call__" #[.ref C::us,F])).units=A.units+1:=by
 first|rfl|simp[ZM,Code.cUnits,Code.frames,ZN]
theorem cX.make(r:cX (k+1) A)(C:Addr)(us:qa6)(F:List (Str×Value)):cX k (A.under (.builtin "type.__call__" #[.ref C::us,F])):=
 #[r.hd,by have:=r.dp;rw[w5];omega,by have:=r.un;rw[xq];omega]
theorem cX.depth(r:cX k A):A.depth<recursionLimit:=by have:=r.dp;omega
theorem cX.units(r:cX k A):A.units+64<V0:=by have:=r.un;omega
theorem cX.K9(r:cX k A):A.units<V0:=by have:=r.un;omega
def zk:TA:=λ_ H Q=>Q [] H
def qt(ta:TE)(tr:TA):TA:=λσ H Q=>ta σ H λx H1=>tr σ H1 λxs H2=>Q (x::xs) H2
theorem ae:PA X [] zk:=λ_ _ _ _ H Q I h=>Calls.spliced_nil #[[],H,I,.nil,h]
variable{t:TA}
theorem aa(ha:PE X e te)(G:PA X es t)(hs:%[qAj X e es|0]):PA X (e::es) (qt te t):=by
 intro pos pins s σ H Q I h;rw[hs];change wpAny _ _ (aaE ((false,eval e X.env)::backTo pos (starEach es X.env))) _ _ s;show Calls.spliced_cons (bO (ha pins s σ H _ I h) λu L ab=>?_);let#[x,H1,I1,r1,Y]:=ab;show bO (G pos pins L σ H1 _ I1 Y) λus s2 ac=>by let#[xs,H2,F,U,Z]:=ac;show#[x::xs,H2,F,.cons r1 U,Z]
def QP(t:TA):TE:=λσ H Q=>t σ H λxs H1=>xs.length<=sizeLine/\∀p,H1 p=none->Q (.ref p) (upd H1 p (.tup xs))
def Nn(t:TA):TE:=λσ H Q=>t σ H λxs H1=>xs.length<=sizeLine/\∀p,H1 p=none->Q (.ref p) (upd H1 p (.lst xs))
theorem dZ{x1}(h:PA X es t):PE X (.Tuple es x1 pos) (QP t):=by
 intros Q I Y;show Zg (bO (h pos pins s σ H _ I Y) λus F U=>?_);let#[xs,H1,G,r,z,q]:=U;show#[by rw[<-r.length];show z,?_];let L:H1 F⁻¹=none:=G.bC.fresh (G0 _);show#[.ref F⁻¹,upd H1 F⁻¹ (.tup xs),G.laid (t':=F.toks) (λb u e=>Heap.get?_push_of_some _ e) (G0 _) ?_,rfl,q _ L];show#[z,us,r,#[_,Heap.get?_push_size _ rfl,rfl,0]]
theorem bq(h:PA X es t):PE X (.List es pos) (Nn t):=by
 intros Q I U;show wpAny_List_spliced (bO (h pos pins s σ H _ I U) λus F Y=>?_);let#[xs,H1,G,r,z,q]:=Y;show#[by rw[<-r.length];show z,?_];let L:H1 F⁻¹=none:=G.bC.fresh (G0 _);show#[.ref F⁻¹,upd H1 F⁻¹ (.lst xs),G.laid (t':=F.toks) (λb u e=>Heap.get?_push_of_some _ e) (G0 _) ?_,rfl,q _ L];show#[z,us,(0),r,Heap.get?_push_size _ rfl]
abbrev Sp:=List V->Hp->VK->XK->Prop
abbrev nJ:=List X9->Hp->dM->XK->Value->dM->Prop
structure wJ(P:By)(w:R4)(K:SU)(mg:qa3)(base:Heap)(A:Th)(outer:qAg)(s:dM)(H:Hp):Prop where
 frames:A.frames=some outer
 mod:Mod K mg base
 bs:∀b o,base.get? b=some o->s.heap.get? b=some o/\H b=none
 AM:base.objs.size<=s⁻¹
 jN:s.heap.FunFrames base outer
 Fi:∀b∈p7 outer,H b=none
 bC:jy P w H s.heap
 bare:Xj s.gens
def CE(outer:qAg)(P:By)(w:R4)(H:Hp)(s:dM)(Q:VK)(u:Value)(s':dM):Prop :=
 ∃v H',s'.os=s.os/\Xj s'.gens/\Un (p7 outer) [] H H' s.heap s'.heap/\jy P w H' s'.heap/\RelV v u/\Q v H'
def CR(CX:nJ)(outer:qAg)(P:By)(w:R4)(H:Hp)(s:dM)(Q:VK)(E:XK)(r:Result)(s':dM):Prop :=
 match r with
 |.ok (.ret u)=>CE outer P w H s Q u s'
 |.ok _=>False
 |.error e=>CX outer H s E e s'
structure aM(P:By)(w:R4)(K:SU)(mg:qa3)(base:Heap)(CX:nJ)(k:Nat)(f:Addr)(fd:DD)(ps:qAb)(sp:Sp):Prop where
 len:∀vs H Q E,sp vs H Q E->vs.length=ps.length
 run:∀(A:Th)(outer:qAg)(s:dM)(H:Hp)(args:Args)(us:qa6)(vs:qAh)(Q:VK)(E:XK),cX k A->wJ P w K mg base A outer s H->ZO s fd args (ps.zip us)->Vals vs us->sp vs H Q E ->
  Xl (model P w) A (.call (.ref f) args) (CR CX outer P w H s Q E) s
variable{mg:qa3}{base:Heap}{CX:nJ}{f:Addr}{fd:DD}{ps:qAb}{sp:Sp}
theorem aM.mono(F:aM P w K mg base CX j f fd ps sp)(h:j<=k) :
  aM P w K mg base CX k f fd ps sp:=#[F.len,λA outer s H args us vs Q E G=>F.run A outer s H args us vs Q E (G.mono h)]
theorem aM.imp{G:Sp}(F:aM P w K mg base CX k f fd ps sp)
  (h:∀vs H Q E,G vs H Q E->sp vs H Q E):aM P w K mg base CX k f fd ps G :=
 #[λvs H Q E q=>F.len vs H Q E (h _ _ _ _ q),λA outer s H args us vs Q E I U L Y hs=>F.run A outer s H args us vs Q E I U L Y (h _ _ _ _ hs)]
variable{outer:qAg}
theorem wJ.make(e:wJ P w K mg base A outer s H)(C:Addr)(us:qa6)(F:List (Str×Value)) :
  wJ P w K mg base (A.under (.builtin "type.__call__" #[.ref C::us,F])) outer s H:=#[by first|show e.frames|(simpa[ZM,Code.envs,ZN,pushEnvs]using e.frames),e.mod,e.bs,e.AM,e.jN,e.Fi,e.bC,e.bare]
theorem Inv.Ko(I: ~~~H s):wJ X.prog X.w X.K X.mg X.base X.A X.stack s H :=
 #[I.ok.frames,I.ok.mod,I.bs,Td I.ok.AM I.sz,I.stack,I.tf,I.bC,I.bare]
variable{Q:VK}
theorem Inv.after(I: ~~~H s)(h:CE X.stack X.prog X.w H s Q u s'):EP X pins σ Q u s':=by
 let#[v,H',os,bare,un,L,r,q]:=h;let#[F,g,d,t,G]:=s';obtain rfl:G=s.os:=os;show#[v,H',I.call (h':=F) (g':=g) (d':=d) (t':=t) (ch:=[]) un L bare (λb z=>absurd z (by simp)),r,q]
def B6(sp:Sp)(dvs:qAh)(E:XK)(t:TA):TE:=λσ H Q=>t σ H λvs H1=>sp (vs++dvs) H1 Q E
inductive CC(C:Addr)(m:Str)(sp:Sp)(dvs:qAh)(E:XK)(ta:TE)(t:TA)(σ:St)(Q:VK)(x:V)(H1:Hp):Prop
 |mk (a:_) (dx:_) (fs:_) (_:x=.ref a) (_:H1 a=some (.ins C dx fs)) (_:fs.lookup m=none) (_:t σ H1 λvs H2=>sp (x::(vs++dvs)) H2 Q E):CC C m sp dvs E ta t σ Q x H1
def xS(C:Addr)(m:Str)(sp:Sp)(dvs:qAh)(E:XK)(ta:TE)(t:TA):TE:=λσ H Q=>ta σ H λx H1=>CC C m sp dvs E ta t σ Q x H1
def MQ(C:Addr)(sp:Sp)(dvs:qAh)(E:XK)(t:TA):TE:=λσ H Q=>t σ H λvs H1=>∀x dx,H1 x=none->H1 dx=none->dx≠x ->
 sp (.ref x::(vs++dvs)) (upd (upd H1 dx (.own x)) x (.ins C dx [])) (λv H2=>v=.a7/\Q (.ref x) H2) E
def Binds(K:SU)(fd:DD)(ps:qAb)(ds:qa6):Prop :=
 ∀(s:dM)(us:qa6),K.In s.heap->(us++ds).length=ps.length->ZO s fd #[us,[]] (ps.zip (us++ds))
theorem Binds.all(h:∀us:List Value,us.length=ps.length->ZP fd #[us,[]]=pure (ps.zip us)):Binds K fd ps []:=λs us _ F=>by
 rw[Tq]at F ⊢;show .of_eq (h us F)
def Passes(CX:nJ)(X:Cx)(E:XK):Prop:=∀(pins:qa1)(σ:St)(H:Hp)(s:dM)(e:Value)(s':dM),~~~H s->CX X.stack H s E e s'->X.xe e s'
variable{dvs:qAh}{ds:qa6}{E:XK}{vs:qAh}
theorem rB(F:aM X.prog X.w X.K X.mg X.base CX k f fd ps sp)(U:cX k X.A)(hb:Binds X.K fd ps ds)(hd:Vals dvs ds)(Y:Passes CX X E)
  (I: ~~~H s) (r:Vals vs us) (h:sp (vs++dvs) H Q E):↑(call (.ref f) us) (EP X pins σ Q) X.xe s:=by
 let L:Vals (vs++dvs) (us++ds):=r.append hd;let Z:(us++ds).length=ps.length:=(by rw[<-L.length];show F.len _ _ _ _ h);show Yn (Xm (F.run X.A X.stack s H #[us,[]] (us++ds) (vs++dvs) Q E U I.Ko (hb s us I.jj Z) L h) λr s' G=>?_);cases r with
 |error e=>show Y pins σ H s e s' I G
 |ok fl =>
  cases fl with
  |ret u=>show I.after G
  |next=>show UD G
  |brk=>show UD G
  |cont=>show UD G
variable{x:Str}
theorem sP(F:aM X.prog X.w X.K X.mg X.base CX k f fd ps sp)(L:cX k X.A)(hg:Gl X x)(U:X.mg x=some (.ref f))(hk:Uu X.K (.ref f)=true)(hb:Binds X.K fd ps ds)(hd:Vals dvs ds)(Z:Passes CX X E)
  (ha:PA X (e::es) t) (Y:%[(x==("__debug__" : Str))=false|0]) (he:%[qAj X e es|0]) (ab:%[(backTo pos (starEach es X.env)).any (·.1)=false|0]) :
  PE X (.Call (.Name x p) (e::es) [] pos) (B6 sp dvs E t):=by
 intros Q I h;show U7 (hV I hg U ?_ Y);show WG (h₀:=X.base) I.ok.mod.Eh hk (bO (ha pos pins s σ H _ I h) λus s1 ac=>?_) he ab;let#[vs,H1,G,r,q]:=ac;show#[G.jj,?_];show rB F L hb hd Z G r q
variable{m:Str}{apos:Vw}
theorem fQ(he:PE X o ta)(c:mZ X.K C)(G:Meth X.K C m f)(F:aM X.prog X.w X.K X.mg X.base CX k f fd ps sp)(Y:cX k X.A)(hb:Binds X.K fd ps ds)(hd:Vals dvs ds)(hx:Passes CX X E)(ha:PA X (e::es) t)
  (ab:%[qAj X e es|0]) (am:%[(backTo pos (starEach es X.env)).any (·.1)=false|0])
  (Z:%[eval (.Call (.Attribute o m apos) (e::es) [] pos) X.env=(do
   let ov <-eval o X.env
   Xk apos.atName
   let (f,first) <-VT [ov] (getMethod ov m pl)
   Xw pos f first (backTo pos (starEach (e::es) X.env)) (V1 pos (U2 [] X.env)))|0]) :
  PE X (.Call (.Attribute o m apos) (e::es) [] pos) (xS C m sp dvs E ta t):=by
 intros Q I h;show WR (pl:=pl) (bO (he pins s σ H _ I h) λu s1 ad=>?_) Z;let#[x,H1,U,rx,a,dx,fs,ex,ea,l,q]:=ad;subst ex;obtain rfl:u=Value.ref a:=rx;show iw U ea c G l ?_;show WG (first:=[.ref a]) (h₀:=X.base) I.ok.mod.Eh G.kp (bO (ha pos pins s1 σ H1 _ U q) λus s2 ac=>?_) ab am;let#[vs,H2,L,r,q2]:=ac;show#[L.jj,?_];show rB (us:=.ref a::us) (vs:=.ref a::vs) F Y hb hd hx L (.cons rfl r) q2
theorem Bu(he:PE X o ta)(c:mZ X.K C)(L:Meth X.K C m f)(F:aM X.prog X.w X.K X.mg X.base CX k f fd ps sp)(U:cX k X.A)(hb:Binds X.K fd ps ds)(hd:Vals dvs ds)(hx:Passes CX X E)
  (Y:%[eval (.Call (.Attribute o m apos) [] [] pos) X.env=(do
   let ov <-eval o X.env
   Xk apos.atName
   let (f,first) <-VT [ov] (getMethod ov m pl)
   Xw pos f first (backTo pos (starEach [] X.env)) (V1 pos (U2 [] X.env)))|0]) :
  PE X (.Call (.Attribute o m apos) [] [] pos) (xS C m sp dvs E ta zk):=by
 intros Q I h;show WR (pl:=pl) (bO (he pins s σ H _ I h) λu s1 ab=>?_) Y;let#[x,H1,G,Z,a,dx,fs,ex,ea,l,q]:=ab;subst ex;obtain rfl:u=Value.ref a:=Z;show iw G ea c L l ?_;show callWith_K0 (first:=[.ref a]) G.jj L.kp (rB (us:=[.ref a]) (vs:=[.ref a]) F U hb hd hx G (.cons rfl .nil) q)
structure Mk(K:SU)(C f:Addr):Prop where
 makes:makesIn K C=true
 init:Ua K (.ref C) "__init__" = some (some (.ref f))
 fn:isFn K (.ref f)=true
 kp:Uu K (.ref C)=true
theorem Bw(M:Mk X.K C f)(F:aM X.prog X.w X.K X.mg X.base CX k f fd ps sp)(hr:cX (k+1) X.A)(hb:Binds X.K fd ps ds)(hd:Vals dvs ds)
  (hx:Passes CX X E) (I: ~~~H s) (r:Vals vs us)
  (h:∀x dx,H x=none->H dx=none->dx≠x->sp (.ref x::(vs++dvs)) (upd (upd H dx (.own x)) x (.ins C dx [])) (λv H2=>v=.a7/\Q (.ref x) H2) E) :
  ↑(call (.ref C) us) (EP X pins σ Q) X.xe s:=by
 let U:=h (s⁻¹+1) s⁻¹ (I.bC.fresh (Zb _)) (I.bC.fresh (G0 _)) (Ul (WE _));let L:=Inv.made (C:=C) I;let Y:Vals (V.ref (s⁻¹+1)::(vs++dvs)) (Value.ref (s⁻¹+1)::(us++ds)):=.cons rfl (r.append hd);let Z:(Value.ref (s⁻¹+1)::us++ds).length=ps.length:=by
  let e:=Y.length;rw[F.len _ _ _ _ U]at e;show e.symm
 show Yn (Cc (f:=f) I.jj M.makes M.init (beq_iff_eq.mp M.fn) (Xm (F.run _ X.stack _ _ #[Value.ref (s⁻¹+1)::us,[]] (Value.ref (s⁻¹+1)::(us++ds)) _ _ E (hr.make C us [])
  (L.Ko.make C us []) (hb _ (Value.ref (s⁻¹+1)::us) L.jj Z) Y U) λr s' G=>?_))
 cases r with
 |error e=>show hx pins σ _ _ e s' L G
 |ok fl =>
  cases fl with
  |ret u =>
   let#[v,H',I3,rv,ev,q3]:=L.after G;subst ev;show#[rv,#[V.ref (s⁻¹+1),H',I3,rfl,q3]]
  |next=>show UD G
  |brk=>show UD G
  |cont=>show UD G
theorem gx(M:Mk X.K C f)(F:aM X.prog X.w X.K X.mg X.base CX k f fd ps sp)(L:cX (k+1) X.A)(hg:Gl X x)(U:X.mg x=some (.ref C))(hb:Binds X.K fd ps ds)(hd:Vals dvs ds)(Z:Passes CX X E)
  (ha:PA X (e::es) t) (Y:%[(x==("__debug__" : Str))=false|0]) (he:%[qAj X e es|0]) (ab:%[(backTo pos (starEach es X.env)).any (·.1)=false|0]) :
  PE X (.Call (.Name x p) (e::es) [] pos) (MQ C sp dvs E t):=by
 intros Q I h;show U7 (hV I hg U ?_ Y);show WG (h₀:=X.base) I.ok.mod.Eh M.kp (bO (ha pos pins s σ H _ I h) λus s1 ac=>?_) he ab;let#[vs,H1,G,r,q]:=ac;show#[G.jj,?_];show Bw M F L hb hd Z G r q
structure ax(N P:qAb)(sc:Xt):Prop where
 kind:sc.kind=.function
 co:sc.isCoroutine=false
 gen:sc.isGenerator=false
 nd:N.Nodup
 pre:N.take P.length=P
 par:∀x∈P,sc.names.lookup x=some .local\/sc.names.lookup x=some .cell
 II:∀y∈sc.names,y.2≠.free
variable{F:Xt}
theorem a8{P:qAb}(a:%[F.kind=.function|0])(b:%[F.isCoroutine=false|0])(c:%[F.isGenerator=false|0])(d:autoParam N.Nodup av._auto_1)(e:%[N.take P.length=P|0])(f:autoParam (∀x∈P,F.names.lookup x=some .local\/F.names.lookup x=some .cell) av._auto_1)(g:autoParam (∀y∈F.names,y.2≠.free) av._auto_1):ax N P F:=#[a,b,c,d,e,f,g]
theorem qy{kindOf:Str->Option NameKind}{x:Str}:∀{binds:List (Str×Value)}{m:qa3},(∀v,(x,v)∉binds)->bindL kindOf binds m x=m x
 | [],_,_=>rfl
 |(n,v)::r,m,h=>by
  unfold bindL;rw[qy λw F=>h w (S0 _ F)];split
  .have:x≠n:=(by rintro rfl;show h v Tf);simp[this]
  .rfl
theorem qO{kindOf:Str->Option NameKind}{x:Str}:∀{binds:List (Str×Value)}{m:qa3},(∀v,(x,v)∉binds)->bindC kindOf binds m x=m x
 | [],_,_=>rfl
 |(n,v)::r,m,h=>by
  unfold bindC;rw[qO λw F=>h w (S0 _ F)];split
  .rfl
  .have:x≠n:=(by rintro rfl;show h v Tf);simp[this]
theorem qP{kindOf:Str->Option NameKind}{x:Str}{v:Value}:∀{P:qAb}{vs:qa6}{i:Nat}{m:qa3},P.Nodup->P[i]?=some x->vs[i]?=some v->kindOf x=some .local ->
  bindL kindOf (P.zip vs) m x=some v
 | [],_,_,_,_,h,_,_=>by simp at h
 |_::_,[],_,_,_,_,h,_=>by simp at h
 |p::P,w::vs,0,m,nd,h1,h2,hk=>by
  simp at h1 h2;subst h1;subst h2;change bindL kindOf ((p,w)::P.zip vs) m p=_;unfold bindL;rw[qy λv F=>(TQ.mp nd).1 (Yp F).1,aa3 hk];simp
 |p::P,w::vs,i+1,m,nd,h1,h2,hk=>by
  change bindL kindOf ((p,w)::P.zip vs) m x=_;unfold bindL;show qP (i:=i) (TQ.mp nd).2 ‹h1› ‹h2› hk
theorem qk{kindOf:Str->Option NameKind}{x:Str}{v:Value}:∀{P:qAb}{vs:qa6}{i:Nat}{m:qa3},P.Nodup->P[i]?=some x->vs[i]?=some v->kindOf x≠some .local ->
  bindC kindOf (P.zip vs) m x=some v
 | [],_,_,_,_,h,_,_=>by simp at h
 |_::_,[],_,_,_,_,h,_=>by simp at h
 |p::P,w::vs,0,m,nd,h1,h2,hk=>by
  simp at h1 h2;subst h1;subst h2;change bindC kindOf ((p,w)::P.zip vs) m p=_;unfold bindC;rw[qO λv F=>(TQ.mp nd).1 (Yp F).1,aa2 hk];simp
 |p::P,w::vs,i+1,m,nd,h1,h2,hk=>by
  change bindC kindOf ((p,w)::P.zip vs) m x=_;unfold bindC;show qk (i:=i) (TQ.mp nd).2 ‹h1› ‹h2› hk
noncomputable def start(N:qAb)(vs:qAh):St:=vs.map some++IF (N.length-vs.length) none
noncomputable def tj(CX:nJ)(P:By)(w:R4)(K:SU)(mg:qa3)(base:Heap)(N:qAb)(F:Str)(scope:Xt)(f:Addr)(cd:Value)(A:Th)(outer:qAg)(s:dM)(H:Hp)(E:XK):Cx where
 prog:=P
 w:=w
 K:=K
 mg:=mg
 base:=base
 A:=A.deeper (Xx F scope s⁻¹ f cd)
 N:=N
 s₀:=s
 H₀:=H
 env:=Xx F scope s⁻¹ f cd
 outer:=outer
 stack:=Xx F scope s⁻¹ f cd::outer
 ex:=[]
 calm:=true
 fn:=λ_=>true
 pn:=[]
 xe:=λe s'=>wpAny (model P w) (A.deeper (Xx F scope s⁻¹ f cd)) (leaving (Xx F scope s⁻¹ f cd) e) (λ_ G=>CX outer H s E e G) (λI G=>CX outer H s E I G) s'
theorem tL(h:F.names.lookup x=some .cell):∃c,(cellsFrom n F.names []).lookup x=some c:=by
 let q:=Yq F.names n [] (.inl h);show Vm.mp q
variable{scope:Xt}
theorem zB{L:Str}{cd:Value}{Z:dM}
  (S:ax N ps scope) (hd:A.handled=none) (F:wJ P w K mg base A outer s H) (hl:vs.length=ps.length) (r:Vals vs us)
  (x:InCallC s s⁻¹ (bindL (Xx L scope s⁻¹ f cd).kindOf (ps.zip us) λ_=>none) (cellsFrom (s⁻¹+1) scope.names []) (bindC (Xx L scope s⁻¹ f cd).kindOf (ps.zip us) λ_=>none) Z) :
  Inv (tj CX P w K mg base N L scope f cd A outer s H E) [] (start N vs) H Z:=by
 let ac:ps.length<=N.length:=(by have:=congrArg Vt S.pre;rw[HC]at this;omega);let#[h1,tk,rfl,hk]:=x.done;let U:∀b:Addr,b∉(tj CX P w K mg base N L scope f cd A outer s H E).ex:=λb z=>absurd (show b∈([]:qAc)from z) (by simp);show#[#[F.mod,S.kind,1,G0 _,λy z c h1 h2=>?_,λy G=>?_,λy c _ h=>?_,λ_=>hd,Around.frames_deeper F.frames,.inr #[1],λb z=>absurd z (U b),F.bs,F.AM,λb _ _=>U b,λb z=>absurd z (U b),F.jN,F.Fi],
  rfl,F.bare,Un.kept hk,#[_,x.toInCall.ns,λi y v h1 h2 h3=>?_],λy c h=>#[_,x.cell y c h],F.bC.fresh (G0 _),λy c h=>?_,λp I=>absurd (show p∈([]:qa1)from I) (by simp),F.bC.kept hk,?_]
 .show name_of_addr x.apart (UK h1) (UK h2)
 .let G:scope.names.lookup y=some .cell\/scope.names.lookup y=some .free:=G;rcases G with G|G
  .show tL G
  .show absurd rfl (S.II _ (UK G))
 .show aaG (x.above y c (UK h))
 .let hi:i<vs.length:=by
   unfold start at h2;cases hi:i<vs.length
   .show hi
   .rw[SQ ‹hi›]at h2;rw[Vx]at h2;split at h2<;>cases h2
  let ha:vs[i]?=some v:=by
   unfold start at h2;rw[SW ‹hi›,M4]at h2;cases e:vs[i]? with
   |none=>rwa[e]at h2
   |some a=>rwa[e]at h2;rfl
  let#[u,Y,rv]:=r.get ha;let I:ps[i]?=some y:=by
   rw[<-S.pre,List.getElem?_take_of_lt af];show h1
  let ab:ps.Nodup:=(by rw[<-S.pre];show S.nd.sublist (Vy _ _));show#[u,rv,?_];rcases S.par y (SO I)with k|k
  .show .inl #[k,qP ab I Y k]
  .let#[c,e]:=tL (n:=s⁻¹+1) k;show .inr #[.inl k,c,e,?_];let q:=x.cell y c e;rw[qk ab I Y (by change scope.names.lookup y≠_;rw[k];decide)]at q;show q
 .show F.bC.fresh (aaG (x.above y c (UK h)))
 .unfold start;change _=N.length;rw[wh,rz,Uh];omega
theorem Hr{F:Str}{ab:Arguments}{dV kV ac pm G ct oc:Value}{an od:qa8}
  {ao:Array (Option Value)}(lk:K.lookup f=some #[oc,od,.func (fnOf name F ab body scope dV kV ac pm an G ct),ao]) (as:aaJ K G F=true) (S:ax N ps scope)
  (len:∀vs H Q E,sp vs H Q E->vs.length=ps.length)
  (ap:∀(A:Th)(outer:qAg)(s:dM)(H:Hp)(vs:qAh)(Q:VK)(E:XK),cX k (A.deeper (Xx F scope s⁻¹ f G))->sp vs H Q E ->
   ∃t,tI (tj CX P w K mg base N F scope f G A outer s H E) body t/\t { nx:=λ_ H'=>Q .a7 H',rt:=Q } (start N vs) H) :
  aM P w K mg base CX (k+1) f (fnOf name F ab body scope dV kV ac pm an G ct) ps sp:=by
 show#[len,λA outer s H args us vs Q E Y L hb r ad=>?_];let hl:=len _ _ _ _ ad;let KX:K.In s.heap:=L.mod.Eh.keeps λb o e=>(L.bs b o e).1;let am:s.heap.NoLimit:=L.mod.nolimit.keeps λb o e=>(L.bs b o e).1;let aB:∀y∈ps.zip us,scope.names.lookup y.1=some .local\/(scope.names.lookup y.1=some .cell/\((cellsFrom (s⁻¹+1) scope.names []).lookup y.1).isSome=true):=λar hy=>by
  let#[n,v]:=ar;rcases S.par n (Yp hy).1 with q|q
  .show .inl q
  .show .inr #[q,Yq _ _ _ (.inl q)]
 show codeAny_call_function Y.depth (KX _ _ lk) rfl S.co S.gen rfl (PySem.W.codeRec_of KX as) (hb _ _ _ _ ?_);show wpAny_newFunctionEnv_cells S.kind aB λenv he s1 x=>?_;subst he;show#[am.keeps x.toInCall.keep,codeAny_func ?_];let#[t,ht,hq]:=ap A outer s H vs Q E (Y.deeper _) ad;let I:Inv (tj CX P w K mg base N F scope f G A outer s H E) [] (start N vs) H s1:=zB S Y.hd L hl r x;show TY (ht [] s1 (start N vs) H _ I hq) (λfl s' hs=>?_) λe s' hs=>hs;let fin:∀{U:St}{H':Hp}{v:V}{u:Value},Inv (tj CX P w K mg base N F scope f G A outer s H E) [] U H' s'->RelV v u->Q v H'->CE outer P w H s Q u s' :=
  λ{U H' v u} J Z q=>#[v,H',J.os,J.bare,J.base,J.bC,Z,q]
 cases fl with
 |ret u =>
  let#[v,U,H',J,Z,q]:=hs;show fin J Z q
 |next =>
  let#[U,H',J,q]:=hs;show fin (v:=V.a7) (u:=Value.none) J rfl q
 |brk =>
  let#[_,_,_,q]:=hs;show UD q
 |cont =>
  let#[_,_,_,q]:=hs;show UD q
def Rb(r:List V->Hp->VK->Prop)(t:TA):TE:=λσ H Q=>t σ H λvs H1=>r vs H1 Q
variable{r:List V->Hp->VK->Prop}
theorem aC{id:String}(hc:cz X (.builtin id) r)(hg:Gl X x)(G:X.mg x=none)(hv:TV x=some (.builtin id))(ha:PA X (e::es) t)(hn:%[x ≠ "__name__"|0])(L:%[(x==("__debug__" : Str))=false|0])
  (Y:%[qAj X e es|0]) (ab:%[(backTo pos (starEach es X.env)).any (·.1)=false|0]):PE X (.Call (.Name x p) (e::es) [] pos) (Rb r t):=by
 intros Q I h;show U7 (iO I hg G hv ?_ hn L);show PyProof.Rows.callWith_builtin1 (bO (ha pos pins s σ H _ I h) λus U F=>by let#[vs,H1,I1,r1,Z]:=F;show hc pins U σ H1 vs us Q I1 r1 Z) Y ab
theorem dH{T:String}(hc:cz X (.type T) r)(hg:Gl X x)(F:X.mg x=none)(hv:TV x=some (.type T))(ha:PA X (e::es) t)(hn:%[x ≠ "__name__"|0])(G:%[(x==("__debug__" : Str))=false|0])
  (Y:%[qAj X e es|0]) (ab:%[(backTo pos (starEach es X.env)).any (·.1)=false|0]):PE X (.Call (.Name x p) (e::es) [] pos) (Rb r t):=by
 intros Q I h;show U7 (iO I hg F hv ?_ hn G);show Ut (bO (ha pos pins s σ H _ I h) λus L U=>by let#[vs,H1,I1,r1,Z]:=U;show hc pins L σ H1 vs us Q I1 r1 Z) Y ab
end L2
namespace HT
open PySem PyProof.Rows
section
open PySem.SeqAt
open PySem.AutoSeq1 (wpAny_loadPart')
open PySem.MeetsSeq PySem.MeetsSeq2 PySem.MeetsSeq3
noncomputable def pW(n d:Nat):Option Int->Nat
 |none=>d
 |some v=>if v<0 then(v+(n:Int)).toNat else min v.toNat n
theorem jX(n d:Nat):pW n d none=d:=rfl
theorem ja(n d k:Nat):pW n d (some (k:Int))=min k n:=by
 change(if (k:Int)<0 then((k:Int)+(n:Int)).toNat else min (k:Int).toNat n)=min k n;rw[aa2 af,Vn]
end
end HT
namespace L2
open PySem PySem.Spec PyProof.Rows
abbrev TO:=St->Hp->(Option Int->Hp->Prop)->Prop
def PO(X:Cx)(e:Option Tr)(t:TO):Prop :=
 ∀(pins:qa1)(s:dM)(σ:St)(H:Hp)(Q:Option Int->Hp->Prop),~~~H s->t σ H Q ->
  ↑(evalPart e X.env) (λu s'=>∃o H',~~~H' s'/\IsPart u o/\Q o H') X.xe s
def xR:TO:=λ_ H Q=>Q none H
def Hy(t:TE):TO:=λσ H Q=>t σ H λx H1=>∃i,x=.int i/\Q (some i) H1
theorem intsAre_of{ns:qAa}:∀{us:qa6},Vals (ns.map V.int) us->Vp us ns:=by
 induction ns with
 |nil=>intro us r;rwa[map_nil]at r;show .nil
 |cons n ns F =>
  intro us r;rw[T8]at r;cases r with
  |cons G I =>
   let#[t,e]:=G;subst e;show .cons n t (F I)
variable{X:Cx}
theorem b8:PO X none xR:=by
 intros Q I h;rw[evalPart_none];show wpAny_pure #[none,H,I,.none,h]
variable{e:Tr}{te:TE}
theorem bA(h:PE X e te):PO X (some e) (Hy te):=by
 intros Q I G;rw[evalPart_some];show bO (h pins s σ H _ I G) λu Z F=>?_;let#[x,H1,Y,U,L]:=F;let#[i,rfl,q]:=L;let#[t,rfl]:=U;show#[some i,H1,Y,.int i t,q]
variable{lo hi:Option Tr}
def Oa(X:Cx)(r:V->Option Int->Option Int->Hp->VK->Prop):Prop :=
 ∀(pins:qa1)(s:dM)(σ:St)(H:Hp)(x:V)(v F G:Value)(lo hi:qAd)(sl:Addr)(Q:VK),~~~H s->RelV x v->s.heap.IsSliceOf sl F G .none->IsPart F lo->IsPart G hi->r x lo hi H Q ->
  ∃T id,typeLookup (.type T) "__getitem__" = pure (some (.builtin id))/\s.TypeIs v T/\↑(ZQ v (.ref sl)) (EP X pins σ Q) X.xe s
def R9(r:V->Option Int->Option Int->Hp->VK->Prop)(te:TE)(tl th:TO):TE:=λσ H Q=>te σ H λx H1=>tl σ H1 λl H2=>th σ H2 λu F=>r x l u F Q
variable{pos:Vw}
theorem bw{tl th:TO}{p2:Vw}{r:V->Option Int->Option Int->Hp->VK->Prop}(hr:Oa X r)(he:PE X e te)(hl:PO X lo tl)(hu:PO X hi th):PE X (.Subscript e (.Slice lo hi none p2) pos) (R9 r te tl th):=by
 intros Q I h;show Zu (bO (he pins s σ H _ I h) λv s1 Y=>?_);let#[x,H1,I1,r1,q1]:=Y;show wpAny_Slice (bO (hl pins s1 σ H1 _ I1 q1) λL s2 Z=>?_);let#[l,H2,I2,pl,q2]:=Z;show bO (hu pins s2 σ H2 _ I2 q2) λG F ab=>?_;let#[u,U,I3,pu,q3]:=ab;rw[evalPart_none];show wpAny_pure ?_;let I4: ~~~U { F with heap:=F.heap.push { cls:=.type "slice",data:=.fields ([L,G,.none].toArray) } }:=I3.kept (t':=F.toks) λb ob q=>Heap.get?_push_of_some _ q;let#[T,id,hT,ht,hg]:=hr pins { F with heap:=F.heap.push { cls:=.type "slice",data:=.fields ([L,G,.none].toArray) } } σ U x v L G l u F⁻¹ Q I4 r1 (Heap.IsSliceOf.new ..) pl pu q3;change ↑(Zl e (.Slice lo hi none p2) v (.ref F⁻¹)) (EP X pins σ Q) X.xe { F with heap:=F.heap.push { cls:=.type "slice",data:=.fields ([L,G,.none].toArray) } };show tail_any (ops:=[.ref F⁻¹,v]) ht hT hg (by with_unfolding_all rfl)
noncomputable def dg(xs:qAh)(lo hi:qAd):List V:=(xs.drop (HT.pW xs.length 0 lo)).take (HT.pW xs.length xs.length hi-HT.pW xs.length 0 lo)
theorem tU(xs:qAh)(lo hi:qAd):(dg xs lo hi).length<=xs.length:=by
 unfold dg;rw[HC,Tu];omega
noncomputable def zv(n:Nat)(i:Int):Option Nat:=if 0<=i then(if i<n then some i.toNat else none)else if -(n:Int)<=i then some (i+n).toNat else none
noncomputable def js{α:Type}(xs:List α)(i:Int):Option α:=(zv xs.length i).bind λj=>xs[j]?
variable{n:Nat}{i:Int}{j:Nat}
theorem yB(h:zv n i=some j):seqIndex? i n=some j/\j<n /\ -(n:Int)<=i/\i<n:=by
 unfold zv at h;cases F:0<=i
 .rw[aa3 F]at h;cases h1:i<n
  .rw[aa3 h1]at h;let e:i.toNat=j:=SN h;show#[by rw[aap F h1,e],af,af,h1]
  .rw[aa2 h1]at h;cases h
 .rw[aa2 F]at h;by_cases h1 : -(n:Int)<=i
  .rw[aa3 h1]at h;let e:(i+n).toNat=j:=SN h;show#[by rw[seqIndex_neg af h1,e],af,h1,af]
  .rw[aa2 h1]at h;cases h
theorem rl{α:Type}{xs:List α}{v:α}(h:js xs i=some v):∃j,seqIndex? i xs.length=some j/\xs[j]?=some v/\j<xs.length /\ -(xs.length:Int)<=i/\i<xs.length:=by
 unfold js at h;cases e:zv xs.length i with
 |none=>rwa[e]at h
 |some j =>
  rw[e]at h;let#[h1,h2,G,F]:=yB e;show#[j,h1,h,h2,G,F]
theorem aD{α:Type}{xs:List α}{v:α}(h:xs[j]?=some v):js xs (j:Int)=some v:=by
 let F:j<xs.length:=(y0.mp h).1;let e:zv xs.length (j:Int)=some j:=by
  unfold zv;rw[aa3 af,aa3 af];simp
 unfold js;rw[e];show h
theorem oX{α:Type}(xs:List α)(v:α):js (xs++[v]) (-1)=some v:=by
 let F:(xs++[v]).length=xs.length+1:=(by simp);let e:zv (xs++[v]).length (-1)=some xs.length:=by
  unfold zv;rw[F,aa2 az,aa3 af];congr 1;omega
 unfold js;rw[e];change(xs++[v])[xs.length]?=some v;simp
def sU(b:Tr):Prop:=∀o i,YT b false o i=operate [o,i] (ZQ o i)
def zA(X:Cx)(r:R2):Prop :=
 ∀(value F:Tr)(pins:qa1)(s:dM)(σ:St)(H:Hp)(x y:V)(v u:Value)(Q:VK),~~~H s->RelV x v->RelV y u->r x y H Q ->
  YT F false v u=operate [v,u] (ZQ v u)->↑(Zl value F v u) (EP X pins σ Q) X.xe s
def Mj(X:Cx)(id:String)(r:V->List V->Hp->VK->Prop):Prop :=
 ∀(pins:qa1)(s:dM)(σ:St)(H:Hp)(x:V)(xs:qAh)(v:Value)(us:qa6)(Q:VK),~~~H s->RelV x v->Vals xs us->r x xs H Q ->
  ↑(call (.builtin id) (v::us)) (EP X pins σ Q) X.xe s
variable{a b:Tr}
theorem aL{ta tb:TE}{r:R2}(G:zA X r)(Z:PE X a ta)(Y:PE X b tb)(hs:sU b):PE X (.Subscript a b pos) (HU r ta tb):=by
 intros Q I h;show Zu (Kz Z Y I h λv u U x y H2 F rx L q=>G a b pins U σ H2 x y v u Q F rx L q (hs _ _))
inductive LP(K:SU)(x:V)(y:V)(H:Hp)(Q:VK):Prop
 |mk(p:_)(xs:_)(i:_)(v:_)(_:x=.ref p)(_:y=.int i)(_:aW K H p xs)(_:js xs i=some v)(_:Q v H)
inductive mM(K:SU)(x:V)(y:V)(H:Hp)(Q:VK):Prop
 |mk(p:_)(xs:_)(i:_)(v:_)(_:x=.ref p)(_:y=.int i)(_:dC K H p xs)(_:js xs i=some v)(_:Q v H)
inductive NA(x:V)(y:V)(H:Hp)(Q:VK):Prop
 |mk(z:_)(i:_)(c:_)(_:x=.str z)(_:y=.int i)(_:z.length<=sizeLine)(_:js z.cps.toList i=some c)(_:Q (.str #[([c].toArray)]) H)
theorem aQ:zA X (LP X.K):=by
 intro value ac pins s σ H x y v u Q I rx U h hs;let#[p,xs,i,z,rfl,rfl,Z,he,q]:=h;cases rx;let#[t,rfl]:=U;let#[its,r,pl,hz]:=I.list Z;let#[j,h1,h2,h3,h4,h5]:=rl he;let#[w,L,ab]:=r.get h2;let Y:=r.length;let hn:=lG;let fin:EP X pins σ Q w s:=#[z,H,I,ab,q];cases G:0<=i
 .let F:i.toNat=j:=by
   rw[aap G h5]at h1;show SN h1
  show item_listR pl.isList G af (by rw[F];simpa using L) fin hs
 .let F:(i+(its.toArray.size:Int)).toNat=j:=by
   rw[seqIndex_neg af h4]at h1;rw[S9, <-Y];show SN h1
  show Yr (x:=w) pl.isList.typeIs ZR.lookup
   (wpAny_getItem_list_neg (Q:=λr s'=>r=w/\EP X pins σ Q r s') pl.isList af (by rw[S9]<;>omega) af (by rw[F];simpa using L) #[rfl,fin]) hs
theorem bg:zA X (mM X.K):=by
 intro value ab pins s σ H x y v u Q I Y F h hs;let#[p,xs,i,z,rfl,rfl,L,Z,q]:=h;cases Y;let#[t,rfl]:=F;let#[its,r,pl,hz]:=I.tuple L;let#[j,h1,h2,h3,h4,h5]:=rl Z;let#[w,ew,U]:=r.get h2;let G:=r.length;let hn:=lG;let fin:EP X pins σ Q w s:=#[z,H,I,U,q];show Yr (x:=w) pl.typeIs slot_tuple_getitem.lookup
  (getItem_tuple (j:=j) (Q:=λr s'=>r=w/\EP X pins σ Q r s') pl af af (by rw[S9, <-G];show h1) ‹ew› #[rfl,fin]) hs
theorem xi:zA X NA:=by
 intro value ab pins s σ H x y v u Q I rx F h hs;let#[z,i,c,rfl,rfl,hz,U,q]:=h;let#[t,rfl]:=rx;let#[t',rfl]:=F;let#[j,h1,h2,h3,Y,Z]:=rl U;let L:z.cps.toList.length=z.length:=(by simp[Str.length]);rw[L]at h1 Y Z;let hn:=lG;show tail_any (WH s z t) slot_str_getitem.lookup (getItem_str (c:=c) (by
  let G:decide (i < -(2^63:Int))=false:=decide_eq_false af;let e2:decide (i>=2^63)=false:=decide_eq_false af;rw[G,e2,Bool.or_false]) (by rw[h1];simpa using h2) #[.str #[([c].toArray)],H,I.tok _,#[0],q]) hs
theorem w9(its:qa6)(n j:Nat)(u:Value):Obj.mapSeq (·.setIfInBounds j u) { cls:=.type "list",data:=.seq its.toArray n }={ cls:=.type "list",data:=.seq (its.set j u).toArray n }:=by
 simp[Obj.mapSeq]
theorem Inv.lst{X:Cx}{pins:qa1}{σ:St}{H:Hp}{s:dM}{p:Addr}{xs:qAh}(I: ~~~H s)(h:H p=some (.lst xs)) :
  ∃(its:qa6)(n:Nat),Vals xs its/\s.heap.get? p=some { cls:=.type "list",data:=.seq its.toArray n }/\xs.length<=sizeLine:=by
 let#[z,its,n,r,e]:=I.bC p _ h;show#[its,n,r,e,z]
variable{pins:qa1}{σ:St}{H:Hp}{s:dM}{xs ys:qAh}{its its':qa6}
theorem Inv.Jf{p:Addr}{F:Nat}{f:Obj->Obj}(I: ~~~H s)(h:H p=some (.lst xs))
  (Y:s.heap.get? p=some { cls:=.type "list",data:=.seq its.toArray n }) (G:f { cls:=.type "list",data:=.seq its.toArray n }={ cls:=.type "list",data:=.seq its'.toArray F }) (r:Vals ys its') (L:ys.length<=sizeLine) (t:Nat) :
  ~~~(upd H p (.lst ys)) { s with heap:=s.heap.update p f,toks:=t }:=by
 let e:(s.heap.update p f).get? p=some { cls:=.type "list",data:=.seq its'.toArray F }:=by
  rw[Heap.get?_update_self f Y (by rw[G]<;>rfl),G]
 show I.write (x:=p) (e:=p) (by rw[h];trivial) (.inl rfl) (λb u U q=>(Heap.get?_update_other _ _ (Ne.symm U)).trans q) #[_,e] ?_;show#[L,its',F,r,e]
inductive Hm(o:V)(i:V)(v:V)(H:Hp)(Q:(Hp->Prop)):Prop
 |mk(p:_)(xs:_)(k:_)(j:_)(_:o=.ref p)(_:i=.int k)(_:H p=some (.lst xs))(_:zv xs.length k=some j)(_:Q (upd H p (.lst (xs.set j v))))
theorem set_list:LA X Hm:=by
 intros o i v ov iv u Q I ro ri rv h;let#[p,xs,k,j,rfl,rfl,L,hj,q]:=h;cases ro;let#[t,rfl]:=ri;let#[its,n,r,G,hz]:=I.lst L;let#[h1,h2,h3,Z]:=yB hj;let F:=r.length;let hn:=lG;let Y: ~~~(upd H p (.lst (xs.set j v))) { s with heap:=s.heap.update p (Obj.mapSeq (·.setIfInBounds j u)) }:=
  I.Jf L G (w9 its n j u) (r.set rv j) (by rw[Wd];show hz) s.toks
 cases U:0<=k
 .let hk:k.toNat=j:=by
   rw[aap U Z]at h1;show SN h1
  show PySem.W.ki_setAt G U af (by rw[S9, <-F];show Z) (by rw[hk];show#[_,Y,q])
 .let hk:(k+(its.toArray.size:Int)).toNat=j:=by
   rw[seqIndex_neg af h3]at h1;rw[S9, <-F];show SN h1
  show PySem.W.ki_setBack G af (by rw[S9, <-F];show h3) af (by rw[hk];show#[_,Y,q])
theorem r9(lo hi:qAd)(n:Nat):(Wm lo hi none n).1=((HT.pW n 0 lo:Nat):Int)/\(Wm lo hi none n).2.1=((HT.pW n n hi:Nat):Int)/\(Wm lo hi none n).2.2=1:=by
 show#[4,rfl]
 .cases lo with
  |none=>simp[Wm,HT.pW]
  |some i =>
   simp only[Wm,HT.pW,getD_none,show(1:Int)>0 by decide,if_true];cases h:i<0
   .simp only[h,if_true]<;>omega
   .simp only[h,if_false]<;>omega
 .cases hi with
  |none=>simp[Wm,HT.pW]
  |some i =>
   simp only[Wm,HT.pW,getD_none,show(1:Int)>0 by decide,if_true];cases h:i<0
   .simp only[h,if_true]<;>omega
   .simp only[h,if_false]<;>omega
theorem p8(its:qa6)(lo hi:qAd):slicePick its.toArray lo hi none=((its.drop (HT.pW its.length 0 lo)).take (HT.pW its.length its.length hi-HT.pW its.length 0 lo)).toArray:=by
 let#[h1,h2,F]:=r9 lo hi its.toArray.size;unfold slicePick;rw[h1,h2,F];simp only[sliceRange_one,pick_run,S9]<;>rfl
inductive FL(K:SU)(x:V)(lo:qAd)(hi:qAd)(H:Hp)(Q:VK):Prop
 |mk(a:_)(xs:_)(_:x=.ref a)(_:aW K H a xs)(_:∀p,H p=none->Q (.ref p) (upd H p (.lst (dg xs lo hi))))
theorem bK:Oa X (FL X.K):=by
 intros x v vl Z lo hi sl Q I Y hs pl L h;let#[a,xs,rfl,G,q]:=h;cases Y;let#[its,r,F,U]:=I.list G;let hlen:=r.length;show#["list",_,ZR.lookup,F.isList.typeIs,?_];show wpAny_getItem_list_slice F.isList hs pl L .none (by simp) ?_ (by rw[S9]<;>omega);rw[p8, <-hlen];show#[.ref s⁻¹,_,I.laid (t':=s.toks) (o:=.lst (dg xs lo hi)) (λb ob q=>Heap.get?_push_of_some _ q) (G0 _) ?_,rfl,q _ (I.bC.fresh (G0 _))];show#[Td (tU xs lo hi) U,_,(0),(r.drop (HT.pW xs.length 0 lo)).take (HT.pW xs.length xs.length hi-HT.pW xs.length 0 lo),Heap.get?_push_size _ rfl]
def fE:V->Bool
 |.a7=>true
 |.bl _=>true
 |.int _=>true
 |.str _=>true
 |_=>false
def mC:V->V->Bool
 |.a7,.a7=>true
 |.bl a,.bl b=>a==b
 |.bl a,.int b=>(if a then 1 else 0)==b
 |.int a,.bl b=>a==(if b then 1 else 0)
 |.int a,.int b=>a==b
 |.str a,.str b=>a==b
 |_,_=>false
variable{y x:V}{u v:Value}
theorem BD{A:Th}(I:RelV y u)(F:RelV x v)(L:fE y=true)(G:fE x=true):Xy A s u v (mC y x):=by
 cases y with
 |a7 =>
  cases I;cases x with
  |a7=>cases F;show aau _
  |bl b=>cases F;show SeqAt.EqAt.none_bool b
  |int b=>let#[t,rfl]:=F;show SeqAt.EqAt.none_int b t
  |str b=>let#[t,rfl]:=F;show SeqAt.EqAt.none_str b t
  |_=>show absurd (show false=true from G) SM
 |bl a =>
  cases I;cases x with
  |a7=>cases F;show SeqAt.EqAt.bool_none a
  |bl b=>cases F;show YU a b
  |int b=>let#[t,rfl]:=F;show SeqAt.EqAt.bool_int a b t
  |str b=>let#[t,rfl]:=F;show SeqAt.EqAt.bool_str a b t
  |_=>show absurd (show false=true from G) SM
 |int a =>
  let#[t',rfl]:=I;cases x with
  |a7=>cases F;show SeqAt.EqAt.int_none a t'
  |bl b=>cases F;show SeqAt.EqAt.int_bool a t' b
  |int b=>let#[t,rfl]:=F;show SeqAt.EqAt.int_int a t' b t
  |str b=>let#[t,rfl]:=F;show Zp a t' b t
  |_=>show absurd (show false=true from G) SM
 |str a =>
  let#[t',rfl]:=I;cases x with
  |a7=>cases F;show SeqAt.EqAt.str_none a t'
  |bl b=>cases F;show SeqAt.EqAt.str_bool a t' b
  |int b=>let#[t,rfl]:=F;show Zq a t' b t
  |str b=>let#[t,rfl]:=F;show SeqAt.EqAt.str_str a t' b t
  |_=>show absurd (show false=true from G) SM
 |_=>show absurd (show false=true from L) SM
noncomputable def CU(x:V)(u:Value):Bool:=match u with
 |.none=>mC .a7 x
 |.bool b=>mC (.bl b) x
 |.int i _=>mC (.int i) x
 |.str z _=>mC (.str z) x
 |_=>false
theorem w6(r:RelV y u)(f:fE y=true):CU x u=mC y x:=by
 cases y with
 |a7=>cases r;rfl
 |bl b=>cases r;rfl
 |int i=>let#[t,rfl]:=r;rfl
 |str z=>let#[t,rfl]:=r;rfl
 |_=>show absurd (show false=true from f) SM
theorem sW{x:V}:∀{xs:qAh}{us:qa6},Vals xs us->xs.all fE=true->us.any (CU x)=xs.any λy=>mC y x
 |_,_,.nil,_=>rfl
 |y::xs,u::us,.cons r t,f=>by
  rw[all_cons,WI]at f;rw[ZS,ZS,w6 r f.1,sW t f.2]
theorem ko{A:Th}{s:dM}{x:V}{v:Value}(I:RelV x v)(G:fE x=true):∀{xs:qAh}{us:qa6},Vals xs us->xs.all fE=true->∀u∈us,Xy A s u v (CU x u)
 |_,_,.nil,_=>λu F=>by cases F
 |y::xs,u::us,.cons r t,f=>λL F=>by
  rw[all_cons,WI]at f;rcases Ti.mp F with rfl|F
  .rw[w6 r f.1];show BD r I f.1 G
  .show ko I G t f.2 L F
noncomputable def Hu(x:V)(xs:qAh):Bool:=xs.any λy=>mC y x
inductive Si(K:SU)(neg:Bool)(x:V)(y:V)(H:Hp)(Q:VK):Prop
 |mk(p:_)(xs:_)(_:y=.ref p)(_:(aW K H p xs\/dC K H p xs))(_:fE x=true)(_:xs.all fE=true)(_:Q (.bl (if neg then !Hu x xs else Hu x xs)) H)
theorem qJ:kJ X (Uz .In) (Si X.K false):=by
 intros x y v u Q I U Y h;let#[p,xs,rfl,F,L,fs,q]:=h;cases Y;rcases F with F|F
 .let#[its,r,pl,Z]:=I.list F;show aav (CU x) pl.isList (λw G=>ko U L r fs w ‹G›) #[.bl _,H,I,3];rw[show its.toArray.any (CU x)=its.any (CU x)by simp,sW r fs];show q
 .let#[its,r,pl,Z]:=I.tuple F;show SeqAt.in_tupleAt (CU x) pl (λw G=>ko U L r fs w ‹G›) #[.bl _,H,I,3];rw[show its.toArray.any (CU x)=its.any (CU x)by simp,sW r fs];show q
theorem aO:cz X (.builtin "len") (λxs H Q=>∃p ys,xs=[.ref p]/\(aW X.K H p ys\/dC X.K H p ys)/\Q (.int ys.length) H):=by
 intros xs us Q I r h;let#[p,ys,rfl,F,q]:=h;let#[u,rfl,U]:=vals1 r;cases U;let Y:=lG;rcases F with F|F
 .let#[its,G,pl,L]:=I.list F;let hlen:=G.length;show Calls.call_len_list pl.isList (by simp only[S9]<;>omega) #[.int ys.length,H,I.tok _,#[s.toks+1,by rw[S9,hlen]],q]
 .let#[its,G,pl,L]:=I.tuple F;let hlen:=G.length;show len_tuple pl (by simp only[S9]<;>omega) #[.int ys.length,H,I.tok _,#[s.toks+1,by rw[S9,hlen]],q]
theorem rX:cz X (.builtin "len") (λxs H Q=>∃z,xs=[.str z]/\z.length<=sizeLine/\Q (.int z.length) H):=by
 intros xs us Q I r h;let#[z,rfl,G,q]:=h;let#[u,rfl,t,rfl]:=vals1 r;let F:=lG;show len_str af #[.int z.length,H,I.tok _,#[0],q]
theorem cq:cz X (.type "list") (λxs H Q=>∃p ys,xs=[.ref p]/\(aW X.K H p ys\/dC X.K H p ys)/\∀l,H l=none->Q (.ref l) (upd H l (.lst ys))):=by
 intros xs us Q I r h;let#[p,ys,rfl,Y,q]:=h;let#[u,rfl,rx]:=vals1 r;cases rx;let fin:∀(its:qa6),Vals ys its->ys.length<=sizeLine->∀(h':Heap)(G:Nat),(∀b o',s.heap.get? b=some o'->h'.get? b=some o') ->
   h'.get? s⁻¹=some { cls:=.type "list",dict:=none,data:=.seq its.toArray G,slots := ([].toArray) }->EP X pins σ Q (.ref s⁻¹) { s with heap:=h' }:=λits F L h' G U e =>
  #[.ref s⁻¹,_,I.laid (t':=s.toks) U (G0 _) (show b9 X.prog X.w _ h' _ (.lst ys)from#[L,its,G,F,e]),rfl,q _ (I.bC.fresh (G0 _))]
 rcases Y with Y|Y
 .let#[its,F,pl,L]:=I.list Y;let hlen:=F.length;let#[o,ho,Z,n,hd]:=pl.isList;show call_list_seq p (.inl rfl) ho Z hd (λh' G U e=>fin its F L h' G U e) (by simp only[S9]<;>omega)
 .let#[its,F,pl,L]:=I.tuple Y;let hlen:=F.length;let#[o,ho,Z,n,hd]:=pl;show call_list_seq p (.inr rfl) ho Z hd (λh' G U e=>fin its F L h' G U e) (by simp only[S9]<;>omega)
def Py(K:SU)(T:String)(x:V)(H:Hp):Prop:=match x with
 |.str _=>T = "str"
 |.int _=>T = "int"
 |.ref p=>(T = "list" /\ ∃xs,aW K H p xs)\/(T = "tuple" /\ ∃o,K.lookup p=some o/\o.cls=.type "tuple" /\ o.dict=none) \/
   (T = "dict" /\ ((∃kvs,H p=some (.dK kvs))\/∃kvs,H p=some (.dT kvs)))\/(T = "set" /\ ∃S n,H p=some (.set S n))
 |_=>False
variable{T:String}
theorem Dg(I: ~~~H s)(r:RelV x v)(ty:Py X.K T x H) :
  s.TypeIs v T/\∀a,v=.ref a->∃G,s.heap.get? a=some G/\G.dict=none:=by
 cases x with
 |str z =>
  let#[t,rfl]:=r;cases(show T = "str" from ty);show#[WH s z t,λ_ e=>nomatch e]
 |int i =>
  let#[t,rfl]:=r;cases(show T = "int" from ty);show#[typeIs_int s i t,λ_ e=>nomatch e]
 |ref p =>
  cases r;rcases ty with⟨rfl,xs,L⟩|⟨rfl,o,hk,U,hd⟩|⟨rfl,hk⟩|⟨rfl,S,n,hk⟩
  .let#[its,_,pl,_]:=I.list L;show#[pl.isList.typeIs,λa e=>?_];cases e;let#[o,n,e,c,hd,_]:=pl;show#[o,e,hd]
  .show#[#[o,I.jj p o hk,U],λa e=>?_];cases e;show#[o,I.jj _ o hk,hd]
  .let z:∃o,s.heap.get? p=some o/\o.ExactDict:=by
    rcases hk with⟨kvs,hk⟩|⟨kvs,hk⟩
    .let#[_,_,_,_,o,_,_,e,ex,_]:=I.bC p _ hk;show#[o,e,ex]
    .let#[_,_,_,_,o,_,_,e,ex,_]:=I.bC p _ hk;show#[o,e,ex]
   let#[o,e,ex]:=z;show#[#[o,e,ex.1],λa F=>?_];cases F;show#[o,e,ex.2.1]
  .let#[o,_,_,_,e,ex,_]:=I.bC p _ hk;show#[#[o,e,ex.1],λa F=>?_];cases F;show#[o,e,ex.2.1]
 |_=>show UD ty
def Qo(K:SU)(T:String)(r:V->List V->Hp->VK->Prop)(to:TE):TE:=λσ H Q=>to σ H λx H1=>Py K T x H1/\r x [] H1 Q
def Sb(K:SU)(T:String)(r:V->List V->Hp->VK->Prop)(to:TE)(t:TA):TE:=λσ H Q=>to σ H λx H1=>Py K T x H1/\t σ H1 λxs H2=>r x xs H2 Q
variable{o:Tr}{to:TE}{name:Str}{apos cpos:Vw}{id:String}{r:V->List V->Hp->VK->Prop}
theorem IW(pa:PlainAttrs T)(slot:Slot T name id)(ac:Ys (.builtin id)=pure (.type "method_descriptor"))(L:Mj X id r)(ho:PE X o to)
  (U:%[VZ o name X.env (eval o X.env)=eval o X.env|0]) (Z:%[(apos.endLine==cpos.line)=true|0]):PE X (.Call (.Attribute o name apos) [] [] cpos) (Qo X.K T r to):=by
 intros Q I h;show wpAny_Call_method0_late U Z (bO (ho pins s σ H _ I h) λv Y ab=>?_);let#[x,H1,G,F,ty,q1]:=ab;let#[h1,h2]:=Dg G F ty;show#[T,id,pa,slot,ac,h1,h2,Calls.callWith_builtin rfl (PySem.evalArgs_none (L pins Y σ H1 x [] v [] Q G F .nil q1))]
theorem fA{es:qAf}{t:TA}(pa:PlainAttrs T)(slot:Slot T name id)(am:Ys (.builtin id)=pure (.type "method_descriptor"))(U:Mj X id r)(ho:PE X o to)(ha:PA X (e::es) t)
  (ad:%[VZ o name X.env (eval o X.env)=eval o X.env|0])
  (ac:%[((backTo cpos (starEach (e::es) X.env)).all (λx => !x.1)&&(V1 cpos (U2 [] X.env)).all (λx=>x.1.isSome)
   && decide ((e::es).length+([]:List Yo).length+(if ([]:List Yo).isEmpty then 0 else 1)<30))=true|0])
  (ab:%[(apos.endLine==cpos.line)=true|0]) (hs:%[qAj X e es|0]) (Y:%[(backTo cpos (starEach es X.env)).any (·.1)=false|0]) :
  PE X (.Call (.Attribute o name apos) (e::es) [] cpos) (Sb X.K T r to t):=by
 intros Q I h;show wpAny_Call_method_late ad ac ab rfl (bO (ho pins s σ H _ I h) λv s1 Z=>?_);let#[x,H1,L,G,ty,q1]:=Z;let#[h1,h2]:=Dg L G ty;show#[T,id,pa,slot,am,h1,h2,?_];let F:=ha cpos pins s1 σ H1 _ L q1;rw[hs]at F ⊢;show Calls.callWith_builtin (by change(false||(backTo cpos (starEach es X.env)).any (·.1))=false;rw[Y]<;>rfl) (Calls.evalArgs_plain ?_);show bO F λus s2 ao=>by let#[vs,H2,I2,r2,q2]:=ao;show U pins s2 σ H2 x vs v us Q I2 G r2 q2
def HB(X:Cx)(id:String)(r:V->List V->Hp->VK->Prop):Prop :=
 ∀(pins:qa1)(s:dM)(σ:St)(H:Hp)(x:V)(xs:qAh)(v:Value)(us:qa6)(Q:VK),~~~H s->RelV x v->Vals xs us->r x xs H Q ->
  ↑(call (.builtin id) (v::us)) (EP X pins σ Q) X.xe s
theorem Vals.one:∀{x:V}{us:qa6},Vals [x] us->∃u,us=[u]/\RelV x u
 |_,_,.cons r .nil=>#[0,r]
theorem Vals.zero:∀{us:qa6},Vals [] us->us=[]
 |_,.nil=>rfl
theorem Vals.dropLast{us:qa6}(h:Vals xs us):Vals xs.dropLast us.dropLast:=by
 induction h with
 |nil=>show .nil
 |cons r t F =>
  cases t with
  |nil=>show .nil
  |cons q t'=>show .cons r F
theorem Vals.rep{xs:qAh}{us:qa6}(h:Vals xs us):∀k:Nat,Vals (IF k xs).flatten (IF k us).flatten
 |0=>.nil
 |k+1=>by
  rw[UQ,UQ,Vf,Vf];show Vals.append h (Vals.rep h k)
theorem vW{α:Type}(l:List α):l.eraseIdx (l.length-1)=l.dropLast:=by
 induction l with
 |nil=>rfl
 |cons a r F =>
  cases r with
  |nil=>rfl
  |cons b r =>
   let e:(a::b::r).length-1=((b::r).length-1)+1:=by
    let h1:(a::b::r).length=r.length+2:=rfl;let h2:(b::r).length=r.length+1:=rfl;omega
   rw[e,List.eraseIdx_cons_succ,F]
   all_goals rfl
theorem foldl_rep(its:qa6):∀(k:Nat)(F:qa6),
  foldl (λG L=>G++L) F.toArray (IF k its.toArray)=(F++(IF k its).flatten).toArray
 |0,F=>by simp
 |k+1,F=>by
  let e:F.toArray++its.toArray=(F++its).toArray:=(by simp);let I:(F++its)++(IF k its).flatten=F++(IF (k+1) its).flatten:=by
   rw[UQ,Vf,Te]
  rw[<-I, <-foldl_rep its k (F++its), <-e,UQ,List.foldl_cons]
variable{l:Addr}{t':Nat}
theorem Inv.HZ{f:Array Value->Array Value}(I: ~~~H s)(Y:H l=some (.lst xs))
  (e:s.heap.get? l=some { cls:=.type "list",data:=.seq its.toArray n }) (F:f its.toArray=its'.toArray) (Z:Vals ys its') (L:ys.length<=sizeLine) :
  ~~~(upd H l (.lst ys)) { s with heap:=s.heap.update l (Obj.mapSeq f),toks:=t' }:=by
 let q:=aae e f;rw[F]at q;show I.write (x:=l) (e:=l) (by rw[Y];show trivial) (.inl rfl) (λb' u U G=>(Heap.get?_update_other s.heap (Obj.mapSeq f) (Ne.symm U)).trans G) #[_,q] ?_;show#[L,its',_,Z,q]
theorem Inv.ME(I: ~~~H s)(F:Vals ys its)(G:ys.length<=sizeLine) :
  ~~~(upd H s⁻¹ (.lst ys)) { s with heap:=s.heap.push { cls:=.type "list",data:=.seq its.toArray },toks:=t' }:=
 I.laid (λ_ _ q=>Heap.get?_push_of_some _ q) (G0 _) #[G,its,(0),F,Heap.get?_push_size _ rfl]
theorem Inv.fresh(I: ~~~H s):H s⁻¹=none:=I.bC.fresh (G0 _)
theorem Inv.pG(I: ~~~H s)(F:H l=some (.lst xs)):xs.length<=sizeLine/\∃(its:qa6)(n:Nat),Vals xs its/\xs.length=its.length/\s.heap.get? l=some { cls:=.type "list",data:=.seq its.toArray n }:=by
 let#[z,its,n,r,e]:=I.bC l _ F;show#[z,its,n,r,r.length,e]
theorem uE(h:n<=sizeLine):Builtin.List.listTooLong n=false:=by
 unfold Builtin.List.listTooLong;show decide_eq_false af
inductive yL(x:V)(vs:qAh)(H:Hp)(Q:VK):Prop
 |mk(l:_)(xs:_)(y:_)(_:x=.ref l)(_:vs=[y])(_:H l=some (.lst xs))(_:xs.length<sizeLine)(_:Q .a7 (upd H l (.lst (xs++[y]))))
theorem lT:HB X "list.append" yL:=by
 intros x vs v us Q I U L h;let#[l,xs,y,rfl,rfl,G,Y,q]:=h;cases U;let#[u,rfl,ru]:=L.one;let#[z,its,n,r,Z,e]:=I.pG G;show U8 F.slot_list_append #[_,e,rfl] F.entry_list_append (F.args_list_append_2 _ _) (list_append l its.toArray n u (by rw[S9];omega)) #[e,?_];show#[.a7,_,I.HZ (its':=its++[u]) G e (by simp) (r.append (.cons ru .nil)) ?_,rfl,q];rw[wh,Tj];omega
variable{b:Addr}{zs:qAh}
inductive x9(x:V)(vs:qAh)(H:Hp)(Q:VK):Prop
 |mk(l:_)(b:_)(xs:_)(zs:_)(_:x=.ref l)(_:vs=[.ref b])(_:H l=some (.lst xs))(_:H b=some (.lst zs))(_:xs.length+zs.length<=sizeLine)(_:Q .a7 (upd H l (.lst (xs++zs))))
theorem iY:HB X "list.extend" x9:=by
 intros x vs v us Q I Z rv h;let#[l,b,xs,zs,rfl,rfl,L,Y,hz,q]:=h;cases Z;let#[u,rfl,ru]:=rv.one;cases ru;let#[z,its,n,r,hl,e]:=I.pG L;let#[z2,G,n2,r2,ac,U]:=I.pG Y;let hsz:its.toArray.size+G.toArray.size<=sizeLine:=(by rw[S9,S9];omega);let ab:¬ (!its.toArray.isEmpty&&Builtin.List.listTooLong (its.toArray.size+G.toArray.size))=true:=by
  rw[uE hsz,aaK];show SM
 show U8 F.slot_list_extend #[_,e,rfl] F.entry_list_extend (F.args_list_extend_2 _ _)
  (AutoSeq1.list_extend_list_list_0 l its.toArray n b G.toArray n2 ab (by rw[S9];omega) af) #[e,U,?_]
 show#[.a7,_,I.HZ (its':=its++G) L e (by simp) (r.append r2) ?_,rfl,q];rw[wh];omega
inductive Mf(x:V)(vs:qAh)(H:Hp)(Q:VK):Prop
 |mk(l:_)(xs:_)(y:_)(_:x=.ref l)(_:vs=[])(_:H l=some (.lst xs))(_:xs[xs.length-1]?=some y)(_:Q y (upd H l (.lst xs.dropLast)))
theorem Li:HB X "list.pop" Mf:=by
 intros x vs v us Q I rx rv h;let#[l,xs,y,rfl,rfl,G,hy,q]:=h;cases rx;let L:=rv.zero;subst L;let#[z,its,n,r,Z,e]:=I.pG G;let#[u,U,ru]:=r.get hy;let Y:its.toArray[its.toArray.size-1]?=some u:=by
  change its.toArray[its.length-1]?=some u;rw[<-UX, <-Z];show U
 show U8 F.slot_list_pop #[_,e,rfl] F.entry_list_pop (F.args_list_pop_1 _) (MeetsSeq.list_pop_last l its.toArray n u Y (by rw[S9];omega)) #[e,?_];show#[y,_,I.HZ (its':=its.dropLast) G e ?_ r.dropLast ?_,ru,q]
 .change its.toArray.eraseIdxIfInBounds (its.toArray.size-1)=its.dropLast.toArray;rw[S9,List.eraseIdxIfInBounds_toArray,vW]
 .rw[List.length_dropLast];omega
inductive My(x:V)(y:V)(H:Hp)(Q:VK):Prop
 |mk(l:_)(b:_)(xs:_)(zs:_)(_:x=.ref l)(_:y=.ref b)(_:H l=some (.lst xs))(_:H b=some (.lst zs))(_:xs.length+zs.length<=sizeLine)(_:∀p,H p=none->Q (.ref p) (upd H p (.lst (xs++zs))))
theorem cE:kJ X (WU .Add) My:=by
 intros x y v u Q I rx G h;let#[l,b,xs,zs,rfl,rfl,Z,L,hz,q]:=h;cases rx;cases G;let#[z,its,n,r,hl,e]:=I.pG Z;let#[z2,F,n2,U,ab,e2]:=I.pG L;show PySem.P.add_list e e2 ?_ (by rw[S9,S9];omega);let Y:its.toArray++F.toArray=(its++F).toArray:=(by simp);rw[Y];show#[.ref _,_,I.ME (t':=s.toks) (r.append U) (by rw[wh];omega),rfl,q _ I.fresh]
inductive N9(x:V)(y:V)(H:Hp)(Q:VK):Prop
 |mk(l:_)(k:_)(xs:_)(_:x=.ref l)(_:y=.int k)(_:H l=some (.lst xs))(_ : -(2^63)<=k)(_:k<2^63)(_:xs.length*k.toNat<=sizeLine)(_:∀p,H p=none->Q (.ref p) (upd H p (.lst (IF k.toNat xs).flatten)))
theorem len_rep{α:Type}(xs:List α)(k:Nat):(IF k xs).flatten.length=k*xs.length:=by
 induction k with
 |zero=>simp
 |succ k F=>rw[UQ,Vf,wh,F,Nat.succ_mul,Nat.add_comm]
theorem iM:kJ X (WU .Mult) N9:=by
 intros x y v u Q I rx Z h;let#[l,k,xs,rfl,rfl,hH,h1,h2,Y,q]:=h;cases rx;let#[t,rfl]:=Z;let#[z,its,n,r,hl,e]:=I.pG hH;let hlen:its.toArray.size*k.toNat<=sizeLine:=(by rw[S9, <-hl];show Y);let ac:¬ its.toArray.size*k.toNat>(2^63-1)/8:=by
  have:(sizeLine:Nat)<=(2^63-1)/8:=az;omega
 let ad:¬ (!Builtin.List.listFitsIndex k)=true:=by
  rw[fitsIndex_both h1 h2];show SM
 let ab:¬ Builtin.List.listTooLong (its.toArray.size*k.toNat)=true:=by
  rw[uE hlen];show SM
 let am:foldl (λG L=>G++L) ([].toArray) (IF (if its.toArray.isEmpty=true then 0 else k.toNat) its.toArray)=(IF k.toNat its).flatten.toArray:=by
  let f0:∀m:Nat,foldl (λG L=>G++L) ([].toArray) (IF m its.toArray)=(IF m its).flatten.toArray:=λm=>by
   have:=foldl_rep its m [];rw[WJ]at this;show this
  rw[f0];cases its with
  |nil=>simp
  |cons a r'=>rw[aa2 (by simp)]
 show wpAny_binaryOp_repeat_ref (T := "list") (U := "int") az #[_,e,rfl] (λs'=>typeIs_int s' k t) noFill_list_mul F.fills_int_mul F.slot_int_rmul repeat_list F.slot_int_index.lookup
  (U8 F.slot_int_rmul (typeIs_int s k t) F.entry_int_rmul (F.args_int_rmul_2 _ _) (int___rmul___int_list k t l its.toArray n)
   #[e,rfl,#[_,e,rfl],U8 F.slot_list_mul #[_,e,rfl] F.entry_list_mul (F.args_list_mul_2 _ _) (AutoListH.list___mul___list_int_3 l its.toArray n k t ad ac ab) #[e,?_]])
 rw[am];show#[.ref _,_,I.ME (t':=s.toks) (r.rep k.toNat) (by rw[len_rep,Nat.mul_comm];show Y),rfl,q _ I.fresh]
end L2
namespace Att
open PySem PySem.W PySem.Calls PyProof.Rows
variable{P:Params}{h:Heap}
theorem mD:∀(ns:qAa)(vs:qa6),WellAll P h vs (ns.map WData.int)->Vp vs ns:=by
 intro ns
 induction ns with
 |nil =>
  intro vs w;rwa[map_nil]at w;show .nil
 |cons n ns F =>
  intro vs w;rw[T8]at w;cases w with
  |cons a b =>
   cases a;show .cons _ _ (F _ b)
variable{l:WV}{n:Nat}
theorem Aw(hn:l.most=some n){args:List WData}{U:qa6}
  (I:l.row.toRowW.claim.pre args=true) (ab:WellAll P h U args) :
  ∃a vs ns,U=[Value.ref a]/\args=[WData.list (ns.map WData.int)]/\h.get? a=some { cls:=.type "list",data:=.seq vs.toArray }/\Vp vs ns/\ns.length<=n:=by
 let Y:WShape.hasAll [] args [.list .int]=true:=(pre_splitW I).1;let L:l.pre.holds [] { args:=args }=true:=(pre_splitW I).2;let#[d,r,rfl,h1,h2]:=hasAllW_cons Y;obtain rfl:=hasAllW_nil h2;let#[xs,rfl,h3]:=hasW_list h1;let#[ns,rfl]:=items_int h3;let hlen:ns.length<=n:=by
  unfold OpenLaw.pre at L;let F:(WTm.not (.lt (.lit (.int (n:Int))) (.len (.arg 0)))).holds [] { args:=[.list (ns.map .int)] }=true:=by
   let F:=(holds_andW L).1;rw[hn]at F;show F
  let G:=condW_of F (w_not (w_lt w_lit (w_len_list (w_arg rfl))));rw[rz]at G;show Ub λq=>?_;let Z:(n:Int)<((ns.length:Nat):Int):=af
  first
   |(rw[decide_eq_true Z]at G;show absurd G az)
   |(simp at G;omega)
 cases ab with
 |cons w1 w2 =>
  cases w2;cases w1 with
  |list ho ac=>show#[2,ns,1,ho,mD ns _ ac,hlen]
theorem zu(l:WV)(args:List WData):l.row.toRowW.claim.post args (.bool true) args=true :=
 postW_of (r:=l.row.toRowW) (X:=(true==true))
  (show WShape.has [] (.bool true) .bool=true by first|rfl|decide|simp[WShape.has,WShape.arms,WShape.armsAll])
  (show(WTm.eq .res (.lit (.bool true))).value [] { args:=args,res:=some (.bool true),after:=args }=some (.bool (true==true))from w_eq_bool (w_res rfl) w_lit) rfl
theorem uI{q:By}{loose:qAb}{XP:(Str->Option Value)->Heap->Prop}{YP:R4->Heap->Prop}{d:DefRec}
  (hn:l.most=some n) (ap:d.params.defaults=[])
  (call:∀(w:R4)(s₀ F:dM)(mg L:qa3)(I:Addr)(o:Obj)(pm cd U:Value)(a:Addr)(vs:qa6)(ns:qAa),
   Ground q loose [] XP w s₀ mg L F.heap->YP w F.heap ->
   F.heap.get? I=some o->o.data=.func (docDef d.name d.params d.body d.scope pm cd U)->F.heap.CodeRec cd d.name->mg d.name=some (.ref I) ->
   F.heap.get? a=some { cls:=.type "list",data:=.seq vs.toArray }->Vp vs ns->ns.length<=n->F.gens = ([].toArray) ->
   Xl (model l.prog w) Zc (.call (.ref I) #[[.ref a],[]]) (λr s'=>r=.ok (.ret (.bool true))/\OldK F.heap s'.heap/\s'.os=F.os/\Xj s'.gens) F) :
  aaF q loose XP YP l.row.toRowW d [] (λf vs=>aaL f vs):=by
 intro w s₀ F mg L G Y I o pm cd U dV kV ho hd ad Z ao hg args a0 as am aB aT ar aK;obtain rfl:dV=.none:=Dflts.none Z ap;obtain rfl:kV=.none:=Dflts.noKw Z;let#[a,vs,ns,rfl,rfl,ac,ab,hlen]:=Aw hn am ar;show enter_call (Xm (call w s₀ F mg L I o pm cd U a vs ns G Y ho (fd_plain hd) ad ao ac ab hlen hg) λr s' hq=>?_);let#[rfl,h2,h3,h4]:=hq;show#[.inl #[.bool true,.bool true,[],rfl,λ_=>rfl,.bool true,zu l _,λ_=>#[XU,λ_ hm=>(nomatch hm)]],h2,h3,h4]
end Att
namespace L2
open PySem PySem.Spec PyProof.Rows
theorem lH:∀{vs:qa6}{ns:qAa},Vp vs ns->Vals (ns.map V.int) vs
 |_,_,.nil=>.nil
 |_,_,.cons n t h=>.cons #[t,rfl] (lH h)
def KR(H:Hp):Prop:=∀b,H b=none\/∃o xs,H b=some (.frz o (.lst xs))
variable{P:By}{w:R4}{mg:qa3}{k:Nat}{fd:DD}{x:Str}
theorem BW{K:SU}{mb:qa3}{CX:nJ}{Z a:Addr}{sp:Sp}{G:dM}{vs:qa6}{ns:qAa}
  (KX:K.In G.heap) (ad:G.heap.Ns To mg) (I:G.heap.Ns builtinsNs mb) (ap:∀x:Str,x ≠ "__name__" -> mb x=TV x) (ar:G.heap.NoLimit) (hg:G.gens = ([].toArray))
  (U:G.heap.get? a=some { cls:=.type "list",data:=.seq vs.toArray }) (hi:Vp vs ns) (hl:ns.length<=sizeLine) (hr:cX k Zc)
  (F:∀base:Heap,K.In base->base.Ns To mg->aM P w K mg base CX k Z fd [x] sp) (aT:∀(s:dM)(u:Value),ZO s fd #[[u],[]] [(x,u)])
  (as:∀H:Hp,KR H->aW K H a (ns.map V.int)->sp [.ref a] H (λv _=>v=.bl true) λ_ _ _=>False)
  (a0:∀H e s',CX [] H G (λ_ _ _=>False) e s'->False) :
  Xl (model P w) Zc (.call (.ref Z) #[[.ref a],[]]) (λr s'=>r=.ok (.ret (.bool true))/\OldK G.heap s'.heap/\s'.os=G.os/\Xj s'.gens) G:=by
 let rv:=lH hi;let aK:=hi.length;let ac:∀H:Hp,KR H->aW K H a (ns.map V.int)->jy P w H G.heap->(∀b,H b≠none->b=a)->(H a≠none->K.lookup a=none) ->
   Xl (model P w) Zc (.call (.ref Z) #[[.ref a],[]]) (λr s'=>r=.ok (.ret (.bool true))/\OldK G.heap s'.heap/\s'.os=G.os/\Xj s'.gens) G:=by
  intro H hO hS bC hA hK;let am:∀{b:Addr}{o:Obj},G.heap.get? b=some o->H b=none->(rD G.heap H).get? b=some o:=λe n=>Dl e n;let ao:∀{b:Addr}{o:Obj}{es:Array DictEntry}{ep:Nat},G.heap.get? b=some o->o.data=.dict es ep->H b=none:=λ{b o es ep} e d=>by
   cases q:H b with
   |none=>rfl
   |some u =>
    let e':b=a:=hA b (by rw[q];simp);subst e';rwa[U]at e;let d':Data.seq vs.toArray _=Data.dict es ep:=d;cases d'
  let Y:∀{b:Addr}{m:qa3},G.heap.Ns b m->(rD G.heap H).Ns b m:=λ{b m} a1=>(by let#[o,es,ep,e,d,r]:=a1;show#[o,es,ep,am e (ao e d),d,r]);let ab:K.In (rD G.heap H):=λb o e=>am (KX b o e) (by
   cases q:H b with
   |none=>rfl
   |some u =>
    let e':b=a:=hA b (by rw[q];simp);subst e';rwa[hK (by rw[q];simp)]at e)
  let hM:Mod K mg (rD G.heap H):=#[ab,Y ad,#[mb,Y I,ap],let ⟨mc,h1,h2⟩:=ar;#[mc,Y h1,h2]];let e0:wJ P w K mg (rD G.heap H) Zc [] G H:=#[rfl,hM,λb o e=>Gs e,ZL (Ag _ _),trivial,λb I=>absurd (show b∈([]:qAc)from I) (by simp),bC,.of_eq hg];show Xm ((F _ ab (Y ad)).run Zc [] G H #[[.ref a],[]] [.ref a] [.ref a] _ _ hr e0 (aT G (.ref a)) (.cons rfl .nil) (as H hO hS)) λr s' h=>?_;cases r with
  |error e=>show(a0 H e s' h).elim
  |ok fl =>
   cases fl with
   |next=>show UD h
   |brk=>show UD h
   |cont=>show UD h
   |ret u =>
    let#[v,H',os,bare,un,aB,r',q]:=h;let q':v=.bl true:=q;subst q';obtain rfl:u=Value.bool true:=r';show#[rfl,OldK.of_keep λb o e=>?_,os,bare];cases q:H b with
    |none=>show un.keep b o e q (by intro z;show absurd (show b∈([]:qAc)from z) (by simp)) (by simp)
    |some u =>
     rcases hO b with z|⟨ob,xs,z⟩
     .rw[q]at z;cases z
     .let z2:=un.mH b ob _ z;let#[e1,_]:=bC b _ z;let#[e2,_]:=aB b _ z2;rwa[e]at e1;show e2
 cases hk:K.lookup a with
 |some o =>
  let e:=KX a o hk;rwa[U]at e;show ac (λ_=>none) (λ_=>.inl rfl) (.inr #[_,vs.toArray,_,hk,1,rfl,by rw[S9,aK];show hl,by simpa using rv]) (λb u z=>by let L:(none:Option HO)=some u:=z;cases L) (λb z=>absurd rfl z) λz=>absurd rfl z
 |none =>
  show ac (λb=>if b=a then some (.frz { cls:=.type "list",data:=.seq vs.toArray } (.lst (ns.map V.int)))else none) (λb=>?_) (.inl (.inr #[{ cls:=.type "list",data:=.seq vs.toArray },aa3 rfl])) (λb u z=>?_) (λb z=>?_) λ_=>hk
  .by_cases I:b=a
   .show .inr #[2,aa3 I]
   .show .inl (aa2 I)
  .by_cases I:b=a
   .let L:=(aa3 I).symm.trans z;cases L;subst I;show#[U,by rw[rz];show hl,vs,_,rv,U]
   .let L:=(aa2 I).symm.trans z;cases L
  .by_cases I:b=a
   .show I
   .show absurd (aa2 I) z
theorem G3{l:WV}{n:Nat}{q:By}{loose:qAb}{XP:(Str->Option Value)->Heap->Prop}{U:R4->Heap->Prop}{d:DefRec}{K:Params->SU}{CX:R4->nJ}{sp:R4->Sp}
  (hn:l.most=some n) (ap:n<=sizeLine) (as:d.params.defaults=[]) (Z:cX k Zc)
  (hY:∀(w:R4)(h:Heap),U w h->(K w.params).In h)
  (F:∀(w:R4)(mg:qa3)(I:Addr)(h:Heap),(K w.params).In h->h.Ns To mg->mg d.name=some (.ref I) ->
   ∃fd:DD,(∀(s:dM)(u:Value),ZO s fd #[[u],[]] [(x,u)]) /\
    ∀base:Heap,(K w.params).In base->base.Ns To mg->aM l.prog w (K w.params) mg base (CX w) k I fd [x] (sp w))
  (am:∀(w:R4)(H:Hp)(a:Addr)(ns:qAa),ns.length<=n->KR H->aW (K w.params) H a (ns.map V.int)->sp w [.ref a] H (λv _=>v=.bl true) λ_ _ _=>False)
  (ad:∀(w:R4)(H:Hp)(s:dM)(e:Value)(s':dM),CX w [] H s (λ_ _ _=>False) e s'->False) :
  aaF q loose XP U l.row.toRowW d [] (λf vs=>aaL f vs):=by
 show Att.uI hn as λw s₀ ar mg mb I o pm cd aK a vs ns G Y ho hd aB ao ac ab hlen hg=>?_;let L:=hY w _ Y;let#[fd,hb,hF]:=F w mg I _ L G.T.g ao;show BW L G.T.g G.T.b G.T.builtins G.T.nolimit hg ac ab (Td hlen ap) Z hF hb (λH hO hS=>am w H a ns hlen hO hS) λH e s'=>ad w H ar e s'
def inClass(s:Tg)(j:Nat):Tg:=match s with
 |.ClassDef _ _ _ body _ _ _ _ _ _ _=>body.getD j (.Pass #[(0),(0),(0),(0)])
 |_=>.Pass #[(0),(0),(0),(0)]
noncomputable def fi(s:Tg):Arguments:=match s with
 |.FunctionDef _ a _ _ _ _ _ _ _ _=>a
 |_=>{ posonlyargs:=[],args:=[],vararg:=none,kwonlyargs:=[],kw_defaults:=[],kwarg:=none,defaults:=[] }
noncomputable def di(s:Tg):List Tg:=match s with
 |.FunctionDef _ _ b _ _ _ _ _ _ _=>b
 |_=>[]
noncomputable def ak(s:Tg):Xt:=match s with
 |.FunctionDef _ _ _ _ _ _ F _ _ _=>F
 |_=>{ kind:=.function,names:=[],isGenerator:=false,isCoroutine:=false }
abbrev aY:nJ:=λ_ _ _ _ _ _=>False
abbrev E0:XK:=λ_ _ _=>False
variable{X:Cx}
theorem ay:Passes aY X E0:=λ_ _ _ _ _ _ _ h=>h.elim
structure bM(K:SU)(x qual:Str)(st:Tg)(f:Addr)(fd:DD):Prop where
 ex:∃(oc:Value)(od:qa8)(kV doc pm:Value)(an:qa8)(cdv ct:Value)(osl:Array (Option Value)),
  fd=fnOf x qual (fi st) (di st) (ak st) .none kV doc pm an cdv ct/\K.lookup f=some #[oc,od,.func fd,osl]/\aaJ K cdv qual=true
 kp:Uu K (.ref f)=true
variable{K:SU}{base:Heap}{st:Tg}{f:Addr}{N ps:qAb}{sp:Sp}
theorem bM.ok{I:Str}(F:bM K x I st f fd)(S:ax N ps (ak st))(len:∀vs H Q E,sp vs H Q E->vs.length=ps.length)
  (Y:∀(G:Value)(A:Th)(outer:qAg)(s:dM)(H:Hp)(vs:qAh)(Q:VK)(E:XK),cX k (A.deeper (Xx I (ak st) s⁻¹ f G))->sp vs H Q E ->
   ∃t,tI (tj aY P w K mg base N I (ak st) f G A outer s H E).lI (di st) t/\t { nx:=λ_ H'=>Q .a7 H',rt:=Q } (start N vs) H):↥aM (k+1) f fd ps sp:=by
 let#[oc,od,kV,ac,pm,an,G,ct,ab,rfl,lk,U]:=F.ex;show Hr lk U S len λA outer s H vs Q E L Z=>?_;let#[t,h,q]:=Y G A outer s H vs Q E L Z;show#[t,h.lI,q]
theorem bM.cU{qual:Str}(F:bM K x qual st f fd)(S:ax N ps (ak st))
  (hb:∀(cdv:Value)(A:Th)(outer:qAg)(s:dM)(H:Hp)(vs:qAh)(Q:VK)(E:XK)(hr:cX k (A.deeper (Xx qual (ak st) s⁻¹ f cdv)))(h:sp vs H Q E),∃t,tI (tj aY P w K mg base N qual (ak st) f cdv A outer s H E).lI (di st) t/\t { nx:=λ_ H'=>Q .a7 H',rt:=Q } (start N vs) H) (len:∀vs H Q E,sp vs H Q E->vs.length=ps.length:=by intro vs H Q E h;first|(cases h<;>subst_vars<;>rfl)|((repeat let#[_,h]:=h);all_goals(subst_vars;rfl))):↥aM (k+1) f fd ps sp:=F.ok S len hb
theorem bM.binds{L:Str}(F:bM K x L st f fd)
  (h:∀(kV I pm:Value)(an:qa8)(G ct:Value)(us:qa6),us.length=ps.length->ZP (fnOf x L (fi st) (di st) (ak st) .none kV I pm an G ct) #[us,[]]=pure (ps.zip us)):Binds K fd ps []:=by
 let#[oc,od,kV,I,pm,an,G,ct,U,rfl,lk,Y]:=F.ex;show .all (h kV I pm an G ct)
theorem lC{G:Str}{oc:Value}{od an:qa8}{L:Array (Option Value)}{kV I pm F ct:Value}(l:K.lookup f=some #[oc,od,.func (fnOf x G (fi st) (di st) (ak st) .none kV I pm an F ct),L])
  (c:aaJ K F G=true) (k:Uu K (.ref f)=true):bM K x G st f (fnOf x G (fi st) (di st) (ak st) .none kV I pm an F ct):=#[#[oc,od,kV,I,pm,an,F,ct,L,rfl,l,c],k]
theorem cV{A:Th}(F:cX k A):A.units+1<V0:=We (Zh (by decide:1<=64) _) F.units
theorem pv(i:Nat){pos:Vw}(G:%[X.N[i]?=some x|0])(I:NG X.env.scope x:=by first|show YV rfl|show aaX (YV rfl)|show aaX (aaX rfl))(hd:%[(x==("__debug__" : Str))=false|0])
  (F:%[(x==("__classdict__" : Str))=false|0]):PE X (.Name x pos) (uF i):=IG G I hd F
variable{A B:Prop}
theorem ck(h:B):if false=true then A else B:=by
 rw[aa2 SM];show h
theorem dt(h:A):if true=true then A else B:=by
 rw[aa3 rfl];show h
theorem c9{c:Prop}[Decidable c](h1:c->A)(h2:¬ c->B):if c then A else B:=by
 cases h:c
 .rw[aa3 h];show h1 h
 .rw[aa2 h];show h2 h
def aH(H H':Hp):Prop:=∀b o,H b=some o->H' b=some o
theorem aH.refl(H:Hp):aH H H:=λ_ _ h=>h
variable{H:Hp}
theorem aH.trans{H1 H2:Hp}(a:aH H H1)(b:aH H1 H2):aH H H2:=λc o h=>b c o (a c o h)
theorem aH.free{H':Hp}(e:aH H H'){l:Addr}(h:H' l=aa0):H l=aa0:=by
 cases q:H l with
 |none=>rfl
 |some o =>
  rwa[e l o q]at h
end L2
namespace PySem
open PySem.Sem (wp)
end PySem
namespace Srt
open PySem PyProof.Rows
class SK where
 num:Value->Int
 ok:Value->Prop
 kd:aaM
section
variable[SK]
class jD (prog:By) (w:R4) (A:Th) (E:qa2) (s:dM):Prop where
 lt:∀{st:TZ}{x y:SR}{Q:Option Bool->TZ->Prop},kindOf st=SK.kd->SK.ok x.1->SK.ok y.1->Q (some (decide (SK.num x.1<SK.num y.1))) st->wpS (model prog w) A E s (lt' x y) Q st
noncomputable def K(xs:qAe)(i:Nat):Int:=match xs[i]? with
 |some p=>SK.num p.1
 |none=>0
def KV(p:SR)(a:Int):Prop:=SK.ok p.1/\SK.num p.1=a
def SortedTo(xs:qAe)(k:Nat):Prop:=∀i j,i<=j->j<k->K xs i<=K xs j
variable{xs ys:qAe}{i j:Nat}
theorem K_congr(h:xs[i]?=ys[j]?):K xs i=K ys j:=by unfold K;rw[h]
theorem K_eq(hi:i<xs.size):K xs i=SK.num xs[i].fst:=by unfold K;rw[getElem?_pos xs i hi]
theorem K_mirror(h:j<=xs.size)(k:Nat):K (aaf xs i j ((j-i)/2)) k=if i<=k/\k<j then K xs (i+j-1-k)else K xs k:=by
 cases c:i<=k/\k<j
 .rw[aa3 c];show K_congr (by rw[Xe h,aa3 c])
 .rw[aa2 c];show K_congr (by rw[Xe h,aa2 c])
variable{F:Nat}
theorem K_bubble{d:Nat}(h:F<xs.size)(hd:d<=F)(k:Nat):K (bubble xs F d) k=if k=F-d then K xs F else if F-d<k/\k<=F then K xs (k-1)else K xs k:=by
 cases c:k=F-d
 .rw[aa3 c];show K_congr (by rw[W9 h d hd,aa3 c])
 .rw[aa2 c];cases G:F-d<k/\k<=F
  .rw[aa3 G];show K_congr (by rw[W9 h d hd,aa2 c,aa3 G])
  .rw[aa2 G];show K_congr (by rw[W9 h d hd,aa2 c,aa2 G])
structure SI(a₀:qAe)(st:TZ):Prop where
 perm:(SX st).Perm a₀
 kind:kindOf st=SK.kd
 failed:V2 st=none
structure Ks(a₀:qAe):Prop where
 ik:∀p∈a₀.toList,SK.ok p.1
 nd:(a₀.toList.map λp=>SK.num p.1).Nodup
def lR(xs:qAe)(lo hi:Nat):Prop:=∀i j,lo<=i->i<=j->j<hi->K xs i<=K xs j
variable{a₀:qAe}{st:TZ}
theorem SI.size(h:SI a₀ st):(SX st).size=a₀.size:=h.perm.size_eq
theorem vZ(G:xs.Perm a₀)(k:Ks a₀)(hi:i<xs.size):∃p,xs[i]?=some p/\KV p (K xs i):=by
 let F:xs[i]∈a₀.toList:=(UJ.mp G).mem_iff.mp (by simp);show#[xs[i],getElem?_pos _ i hi,k.ik _ F,(K_eq hi).symm]
theorem key_ne(G:xs.Perm a₀)(k:Ks a₀)(hi:i<j)(F:j<xs.size):K xs i≠K xs j:=by
 let L:=(UJ.mp G).map λp:SR=>SK.num p.1;let I:(xs.toList.map λp=>SK.num p.1).Nodup:=L.nodup_iff.mpr k.nd;let h1:i<xs.size:=aaN hi F;let a:=TU.mp I i j ‹h1› ‹F› hi;unfold K;rw[getElem?_pos xs i h1,getElem?_pos xs j F];simpa using a
theorem SI.setArr(h:SI a₀ st)(F:xs.Perm (SX st)):SI a₀ (setArr st xs):=#[F.trans h.perm,h.kind,h.failed]
section
variable{prog:By}{w:R4}{A:Th}{E:qa2}{s:dM}[jD prog w A E s]{a₀:qAe}
theorem pj{x y:SR}{a b:Int}{Q:Option Bool->TZ->Prop}(hk:kindOf st=SK.kd)(G:KV x a)(F:KV y b)(h:Q (some (decide (a<b))) st) :
  wpS (model prog w) A E s (lt' x y) Q st:=by
 show jD.lt hk G.1 F.1 ?_;rw[G.2,F.2];show h
theorem br{p:SR}{Q:SR->TZ->Prop}(hi:xs[i]?=some p)(h:Q p st):wpS (model prog w) A E s (elem' xs i) Q st:=by
 rw[elem'_eq,hi];show BY h
theorem qr{Q:Option Bool->TZ->Prop}(S:SI a₀ st)(k:Ks a₀)(hi:i<a₀.size)(G:j<a₀.size)(h:Q (some (decide (K (SX st) i<K (SX st) j))) st) :
  wpS (model prog w) A E s (ltAt' i j) Q st:=by
 let#[p,F,k1]:=vZ S.perm k (i:=i) (by rw[S.size];show hi);let#[q,I,k2]:=vZ S.perm k (i:=j) (by rw[S.size];show G);rw[ltAt'_eq];show vu (VI (vu (br F (vu (br I (pj S.kind k1 k2 h))))))
structure Cut(a₀:qAe)(st st':TZ)(lo:Nat):Prop where
 S:SI a₀ st'
 pre:∀i,i<lo->(SX st')[i]?=(SX st)[i]?
 pend:Tv st'=Tv st
variable{lo:Nat}
theorem CT{nrem:Nat}{Q:Option Nat->TZ->Prop}(S:SI a₀ st)(k:Ks a₀)(hn:lo+nrem<=a₀.size)(h1:1<=nrem)
  (h:∀m F,Cut a₀ st F lo->1<=m->m<=nrem->lR (SX F) lo (lo+m)->Q (some m) F):wpS (model prog w) A E s (countRun' lo nrem) Q st:=by
 rw[countRun'_eq];show vu (UM (T9 (I:=λx c F=>kZ (F=st) (c=(none,x)) (lR (SX st) lo (lo+x))) (Q:=λc F=>F=st/\∃n,c=(none,n)/\1<=n/\n<=nrem/\lR (SX st) lo (lo+n)/\(n=nrem\/K (SX st) (lo+n)<K (SX st) (lo+n-1))) ?_ ?_ ?_) ?_)
 .rintro x c F ab ad ⟨rfl,rfl,hs⟩;dsimp only;show vu (qr S k af af ?_);cases c:K (SX F) (lo+x)<K (SX F) (lo+x-1)
  .simp only[c,decide_true,if_true];show BY #[rfl,x,rfl,ab,af,hs,.inr c]
  .simp only[c,decide_false,U9,if_false];show BY #[1,λi j hi L Y=>?_];cases z:j<lo+x
   .show hs i j hi L z
   .by_cases z2:i=j
    .rw[z2];show Vg _
    .have:=hs i (lo+x-1) hi af af;let Z:j=lo+x:=VJ Y z;rw[Z];omega
 .rintro c F ⟨rfl,rfl,hs⟩;rw[show max 1 nrem=nrem by omega]at hs ⊢;show#[rfl,nrem,rfl,h1,G0 _,hs,.inl rfl]
 .show#[1,λi j hi L Y=>by rw[show i=j by omega];show Vg _]
 .rintro c F ⟨rfl,n,rfl,n1,n2,hs,ao⟩;dsimp only;cases e:n=nrem
  .rw[aa3 ‹e›];show BY (h n F #[S,λ_ _=>rfl,rfl] n1 n2 hs)
  .rw[aa2 ‹e›];let ar:=ao.resolve_left e;cases g:n>1
   .rw[aa3 g];show vu (qr S k af af ?_);let r:K (SX F) lo<K (SX F) (lo+n-1):=by
     let a:=hs lo (lo+n-1) (G0 _) af af;let b:=key_ne S.perm k (i:=lo) (j:=lo+n-1) af (by rw[S.size];omega);omega
    simp only[r,decide_true,if_true];show BY (h n F #[S,λ_ _=>rfl,rfl] n1 n2 hs)
   .rw[aa2 g];let e1:n=1:=af;subst e1;show vu (WW (Wf #[3]));let ap:∀i j,lo<=i->i<=j->j<lo+2->K (SX F) j<=K (SX F) i:=λi j hi L Y=>by
     cases z:i=j
     .rw[z];show Vg _
     .let ei:i=lo:=af;let Z:j=lo+1:=af;rw[ei,Z];show T6 ar
    show vu (UM (T9 (I:=λx c G=>kZ (G=F) (c=(none,x,0)) (∀i j,lo<=i->i<=j->j<lo+x->K (SX F) j<=K (SX F) i)) (Q:=λc G=>G=F/\∃n,c=(none,n,0)/\2<=n/\n<=nrem/\∀i j,lo<=i->i<=j->j<lo+n->K (SX F) j<=K (SX F) i) ?_ ?_ ?_) ?_)
    .rintro x c G ab ad ⟨rfl,rfl,hd⟩;dsimp only;show vu (qr S k af af ?_);cases c:K (SX G) (lo+x)<K (SX G) (lo+x-1)
     .simp only[c,decide_true,if_true];rw[aa2 af];show BY #[1,λi j hi L Y=>?_];cases z:j<lo+x
      .show hd i j hi L z
      .by_cases z2:i=j
       .rw[z2];show Vg _
       .have:=hd i (lo+x-1) hi af af;let Z:j=lo+x:=VJ Y z;rw[Z];omega
     .simp only[c,decide_false,U9,if_false];show vu (qr S k af af ?_);let r:K (SX G) (lo+x-1)<K (SX G) (lo+x):=by
       let b:=key_ne S.perm k (i:=lo+x-1) (j:=lo+x) af (by rw[S.size];omega);omega
      simp only[r,decide_true,if_true];show BY #[rfl,x,rfl,ab,af,hd]
    .rintro c G ⟨rfl,rfl,hd⟩;rw[show max (1+1) nrem=nrem by omega]at hd ⊢;show#[rfl,nrem,rfl,af,G0 _,hd]
    .show#[1,ap]
    .rintro c G ⟨rfl,n,rfl,m1,m2,hd⟩;dsimp only;rw[aa2 af];show vu (wpS_reverse ?_);let hsz:lo+n<=(SX G).size:=(by rw[S.size];omega);let S3:=S.setArr (mirror_perm (SX G) lo (lo+n) ((lo+n-lo)/2));let C3:Cut a₀ G (setArr G (aaf (SX G) lo (lo+n) ((lo+n-lo)/2))) lo:=by
      show#[S3,λi hi=>?_,rfl];change(aaf (SX G) lo (lo+n) ((lo+n-lo)/2))[i]?=_;rw[Xe hsz,aa2 af]
     let am:lR (SX (setArr G (aaf (SX G) lo (lo+n) ((lo+n-lo)/2)))) lo (lo+n):=λi j hi L Y=>by
      change K (aaf (SX G) lo (lo+n) ((lo+n-lo)/2)) i<=K (aaf (SX G) lo (lo+n) ((lo+n-lo)/2)) j;rw[K_mirror hsz,K_mirror hsz,aa3 af,aa3 af];show hd _ _ af (Nat.sub_le_sub_left L (lo+(lo+n)-1)) af
     generalize setArr G (aaf (SX G) lo (lo+n) ((lo+n-lo)/2))=ac at S3 C3 am ⊢;show vu (UM (T9 (I:=λx c U=>kZ (U=ac) (c=(none,x)) (lR (SX ac) lo (lo+x))) (Q:=λc U=>U=ac/\∃m,c=(none,m)/\1<=m/\m<=nrem/\lR (SX ac) lo (lo+m)) ?_ ?_ ?_) ?_)
     .rintro x c U ab ad ⟨rfl,rfl,hs⟩;dsimp only;show vu (qr S3 k af af ?_);cases c:K (SX U) (lo+x)<K (SX U) (lo+x-1)
      .simp only[c,decide_true,if_true];show BY #[rfl,x,rfl,af,af,hs]
      .simp only[c,decide_false,U9,if_false];show BY #[1,λi j hi L Y=>?_];cases z:j<lo+x
       .show hs i j hi L z
       .by_cases z2:i=j
        .rw[z2];show Vg _
        .have:=hs i (lo+x-1) hi af af;let Z:j=lo+x:=VJ Y z;rw[Z];omega
     .rintro c U ⟨rfl,rfl,hs⟩;rw[show max n nrem=nrem by omega]at hs ⊢;show#[rfl,nrem,rfl,h1,G0 _,hs]
     .show#[1,am]
     .rintro c U ⟨rfl,m,rfl,q1,q2,hs⟩;show BY (h m U C3 q1 q2 hs)
theorem CA{n ok:Nat}{Q:Bool->TZ->Prop}(S:SI a₀ st)(k:Ks a₀)(hn:lo+n<=a₀.size)(h1:1<=ok)(bC:ok<=n)(hs:lR (SX st) lo (lo+ok))
  (h:∀F,Cut a₀ st F lo->lR (SX F) lo (lo+n)->Q true F):wpS (model prog w) A E s (binarySort' lo n ok) Q st:=by
 rw[binarySort'_eq];show vu (UM (T9 (I:=λx c F=>kZ (c=(none,())) (Cut a₀ st F lo) (lR (SX F) lo (lo+x))) (Q:=λc F=>kZ (c=(none,())) (Cut a₀ st F lo) (lR (SX F) lo (lo+n))) ?_ ?_ ?_) ?_)
 .rintro x c F ap ar ⟨rfl,C,L⟩;let ab:lo+x<(SX F).size:=(by rw[C.S.size];omega);show vu (UM (T9 (I:=λy c G=>G=F/\∃l r,c=(none,l,r)/\l<=r/\r<=x/\r-l<=x-y/\(∀i,lo<=i->i<lo+l->K (SX F) i<=K (SX F) (lo+x))/\∀i,lo+r<=i->i<lo+x->K (SX F) (lo+x)<K (SX F) i)
   (Q:=λc G=>G=F/\∃l,c=(none,l,l)/\l<=x/\(∀i,lo<=i->i<lo+l->K (SX F) i<=K (SX F) (lo+x))/\∀i,lo+l<=i->i<lo+x->K (SX F) (lo+x)<K (SX F) i) ?_ ?_ ?_) ?_)
  .rintro y c G ao as ⟨rfl,l,r,rfl,lr,rx,hm,Y,U⟩;dsimp only;cases g:l>=r
   .rw[aa3 g];obtain rfl:l=r:=af;show BY #[rfl,l,rfl,rx,Y,U]
   .rw[aa2 g];show vu (qr C.S k af af ?_);cases c:K (SX G) (lo+x)<K (SX G) (lo+(l+r)/2)
    .simp only[c,decide_true,if_true];show BY #[rfl,l,(l+r)/2,rfl,af,af,af,Y,λi hi ac=>?_];have:=L (lo+(l+r)/2) i af hi af;show Xz c this
    .simp only[c,decide_false,U9,if_false];show BY #[rfl,(l+r)/2+1,r,rfl,af,af,af,λi hi ac=>?_,U];have:=L i (lo+(l+r)/2) hi (Wt ac) af;omega
  .rintro c G ⟨rfl,l,r,rfl,lr,rx,hm,Y,U⟩;obtain rfl:l=r:=af;show#[rfl,l,rfl,rx,Y,U]
  .show#[rfl,(0),x,rfl,af,af,af,λi hi am=>by omega,λi hi am=>by omega]
  .rintro c G ⟨rfl,l,rfl,lx,Y,U⟩;dsimp only;rw[moveDown'_eq];show vu (Vz (BY #[rfl,#[C.S.setArr (bubble_perm _ _ _),λi hi=>?_,C.pend],λi j hi ad hj=>?_]))
   .change(bubble (SX G) (lo+x) (lo+x-(lo+l)))[i]?=_;rw[W9 ab _ (sub_le (lo+x) (lo+l)),aa2 af,aa2 af];show C.pre i hi
   .change K (bubble (SX G) (lo+x) (lo+x-(lo+l))) i<=K (bubble (SX G) (lo+x) (lo+x-(lo+l))) j;rw[K_bubble ab (sub_le (lo+x) (lo+l)),K_bubble ab (sub_le (lo+x) (lo+l)),show lo+x-(lo+x-(lo+l))=lo+l by omega];cases c1:i=lo+l
    .rw[aa3 c1];cases Z:j=lo+l
     .rw[aa3 Z];show Vg _
     .rw[aa2 Z,aa3 af];have:=U (j-1) af af;show T6 this
    .rw[aa2 c1];cases Z:j=lo+l
     .rw[aa3 Z,aa2 af];show Y i hi af
     .rw[aa2 Z];cases c3:lo+l<i/\i<=lo+x
      .rw[aa3 c3,aa3 af];show L _ _ af (Nat.sub_le_sub_right ad 1) af
      .rw[aa2 c3];cases c4:lo+l<j/\j<=lo+x
       .rw[aa3 c4];show L _ _ af af af
       .rw[aa2 c4];show L _ _ af af af
 .rintro c F ⟨rfl,C,L⟩;rw[show max (max ok 1) n=n by omega]at L;show#[rfl,C,L]
 .rw[show max ok 1=ok by show Nat.max_eq_left h1];show#[rfl,#[S,λ_ _=>rfl,rfl],hs]
 .rintro c F ⟨rfl,C,L⟩;show BY (h F C L)
end
noncomputable def Gh:Bool->SR->Array SR->Nat->Nat->Nat->StateT TZ WT (Option Nat):=sortPriv% PySem.Builtin.gallop
noncomputable def gH(left:Bool)(a:Int)(xs:qAe)(base i:Nat):Bool:=if left then decide (K xs (base+i)<a)else !decide (a<K xs (base+i))
section
variable{prog:By}{w:R4}{A:Th}{E:qa2}{s:dM}[jD prog w A E s]{a₀:qAe}
noncomputable def rQ(left:Bool)(F:SR)(xs:qAe)(base i:Nat):StateT TZ WT (Option Bool):=
 bind (elem' xs (base+i)) λx=>ite (left=true) (lt' x F) (bind (lt' F x) λr=>pure (Option.map (λb => !b) r))
variable{left:Bool}{a:Int}{base:Nat}
theorem IX{F q:SR}{Q:Option Bool->TZ->Prop}(hk:kindOf st=SK.kd)(G:KV F a)(I:xs[base+i]?=some q)(kx:KV q (K xs (base+i)))
  (h:Q (some (gH left a xs base i)) st):wpS (model prog w) A E s (rQ left F xs base i) Q st:=by
 unfold rQ;show vu (br I ?_);unfold gH at h;cases left with
 |true=>show pj hk kx G h
 |false=>show vu (pj hk G kx (BY h))
variable{n:Nat}
theorem iP(hs:lR xs base (base+n))(G:i<=j)(F:j<n)(h:gH left a xs base j=true):gH left a xs base i=true:=by
 have:=hs (base+i) (base+j) af (VA Wn G) (Nat.add_lt_add_left F base);unfold gH at h ⊢;cases left with
 |true =>
  let z:K xs (base+j)<a:=of_decide_eq_true h;show decide_eq_true (XA this z)
 |false =>
  let z:¬ a<K xs (base+j):=of_decide_eq_false ‹h›;change(!decide (a<K xs (base+i)))=true;rw[decide_eq_false af];rfl
theorem iX(hs:lR xs base (base+n))(G:i<=j)(F:j<n)(h:gH left a xs base i=false):gH left a xs base j=false:=by
 cases e:gH left a xs base j with
 |false=>rfl
 |true=>rwa[iP hs G F e]at h
theorem eF{am:SR}{hint:Nat}{Q:Option Nat->TZ->Prop}(hk:kindOf st=SK.kd)(as:KV am a)(hx:∀i,i<n->∃p,xs[base+i]?=some p/\KV p (K xs (base+i)))
  (hs:lR xs base (base+n)) (hh:hint<n) (h:∀r,r<=n->(∀i,i<r->gH left a xs base i=true)->(∀i,r<=i->i<n->gH left a xs base i=false)->Q (some r) st) :
  wpS (model prog w) A E s (Gh left am xs base n hint) Q st:=by
 let B:∀{i:Nat}{Q:Option Bool->TZ->Prop},i<n->Q (some (gH left a xs base i)) st->wpS (model prog w) A E s (rQ left am xs base i) Q st:=λhi q=>by
  let#[u,e,ku]:=hx _ hi;show IX hk as e ku q
 show vu (B hh ?_);cases c:gH left a xs base hint with
 |true =>
  dsimp only;rw[aa3 rfl];show vu (UM (T9 (I:=λx c F=>F=st/\∃l o,c=(none,l,o)/\l<o/\x+1<=o/\hint+l<n/\gH left a xs base (hint+l)=true) (Q:=λc F=>F=st/\∃l o,c=(none,l,o)/\l<o/\hint+l<n/\gH left a xs base (hint+l)=true/\(n-hint<=o\/(hint+o<n/\gH left a xs base (hint+o)=false))) ?_ ?_ ?_) ?_)
  .rintro x c F ad ao ⟨rfl,l,o,rfl,lo,xo,hl,L⟩;dsimp only;cases g:o>=n-hint
   .rw[aa3 g];show BY #[rfl,l,o,rfl,lo,hl,L,.inl g]
   .rw[aa2 g];show vu (B (i:=hint+o) af ?_);cases c2:gH left a xs base (hint+o)with
    |true=>show BY #[rfl,o,2*o+1,rfl,af,af,af,c2]
    |false=>show BY #[rfl,l,o,rfl,lo,hl,L,.inr #[af,c2]]
  .rintro c F ⟨rfl,l,o,rfl,lo,xo,hl,L⟩;show#[rfl,l,o,rfl,lo,hl,L,.inl af]
  .show#[rfl,(0),(1),rfl,af,af,hh,c]
  .rintro c F ⟨rfl,l,o,rfl,lo,hl,L,ap⟩;dsimp only;let f1:∀i,i<hint+l+1->gH left a xs base i=true:=λi hi=>iP hs (j:=hint+l) (Wt hi) hl L;let f2:∀i,hint+min o (n-hint)<=i->i<n->gH left a xs base i=false:=λi hi ab=>by
    rcases ap with g|⟨g1,g2⟩
    .omega
    .show iX hs (i:=hint+o) af ab g2
   let f3:hint+l+1<=hint+min o (n-hint):=af;let f4:hint+min o (n-hint)<=n:=af;generalize hint+l+1=ar at f1 f3 ⊢;generalize hint+min o (n-hint)=ac at f2 f3 f4 ⊢;show vu (UM (T9 (I:=λx c G=>G=F/\∃l r,c=(none,l,r)/\l<=r/\r<=n/\r-l<=n-x/\(∀i,i<l->gH left a xs base i=true)/\∀i,r<=i->i<n->gH left a xs base i=false) (Q:=λc G=>G=F/\∃r,c=(none,r,r)/\r<=n/\(∀i,i<r->gH left a xs base i=true)/\∀i,r<=i->i<n->gH left a xs base i=false) ?_ ?_ ?_) ?_)
   .rintro x c G ad ao ⟨rfl,l,r,rfl,lr,Z,hm,Y,U⟩;dsimp only;cases g:l>=r
    .rw[aa3 g];obtain rfl:l=r:=af;show BY #[rfl,l,rfl,Z,Y,U]
    .rw[aa2 g];show vu (B (i:=l+(r-l)/2) af ?_);cases c2:gH left a xs base (l+(r-l)/2)with
     |true=>show BY #[rfl,l+(r-l)/2+1,r,rfl,af,Z,af,λi hi=>iP hs (j:=l+(r-l)/2) (Wt hi) af c2,U]
     |false=>show BY #[rfl,l,l+(r-l)/2,rfl,af,af,af,Y,λi hi ab=>iX hs hi ab c2]
   .rintro c G ⟨rfl,l,r,rfl,lr,Z,hm,Y,U⟩;obtain rfl:l=r:=af;show#[rfl,l,rfl,Z,Y,U]
   .show#[rfl,ar,ac,rfl,f3,f4,af,f1,f2]
   .rintro c G ⟨rfl,r,rfl,Z,Y,U⟩;show BY (h r Z Y U)
 |false =>
  dsimp only;rw[aa2 az];show vu (UM (T9 (I:=λx c F=>F=st/\∃l o,c=(none,l,o)/\l<o/\x+1<=o/\l<=hint/\gH left a xs base (hint-l)=false) (Q:=λc F=>F=st/\∃l o,c=(none,l,o)/\l<o/\l<=hint/\gH left a xs base (hint-l)=false/\(hint+1<=o\/(o<=hint/\gH left a xs base (hint-o)=true))) ?_ ?_ ?_) ?_)
  .rintro x c F ad ao ⟨rfl,l,o,rfl,lo,xo,hl,L⟩;dsimp only;cases g:o>=hint+1
   .rw[aa3 g];show BY #[rfl,l,o,rfl,lo,hl,L,.inl g]
   .rw[aa2 g];show vu (B (i:=hint-o) (aag hh) ?_);cases c2:gH left a xs base (hint-o)with
    |true=>show BY #[rfl,l,o,rfl,lo,hl,L,.inr #[Ub g,c2]]
    |false=>show BY #[rfl,o,2*o+1,rfl,af,af,Ub g,c2]
  .rintro c F ⟨rfl,l,o,rfl,lo,xo,hl,L⟩;show#[rfl,l,o,rfl,lo,hl,L,.inl af]
  .show#[rfl,(0),(1),rfl,af,af,Tp _,c]
  .rintro c F ⟨rfl,l,o,rfl,lo,hl,L,ap⟩;dsimp only;let f1:∀i,i<hint+1-min o (hint+1)->gH left a xs base i=true:=λi hi=>by
    rcases ap with g|⟨g1,g2⟩
    .omega
    .show iP hs (j:=hint-o) af (aag hh) g2
   let f2:∀i,hint-l<=i->i<n->gH left a xs base i=false:=λi hi ab=>iX hs hi ab L;let f3:hint+1-min o (hint+1)<=hint-l:=af;let f4:hint-l<=n:=af;generalize hint+1-min o (hint+1)=ar at f1 f3 ⊢;generalize hint-l=ac at f2 f3 f4 ⊢;show vu (UM (T9 (I:=λx c G=>G=F/\∃l r,c=(none,l,r)/\l<=r/\r<=n/\r-l<=n-x/\(∀i,i<l->gH left a xs base i=true)/\∀i,r<=i->i<n->gH left a xs base i=false) (Q:=λc G=>G=F/\∃r,c=(none,r,r)/\r<=n/\(∀i,i<r->gH left a xs base i=true)/\∀i,r<=i->i<n->gH left a xs base i=false) ?_ ?_ ?_) ?_)
   .rintro x c G ad ao ⟨rfl,l,r,rfl,lr,Z,hm,Y,U⟩;dsimp only;cases g:l>=r
    .rw[aa3 g];obtain rfl:l=r:=af;show BY #[rfl,l,rfl,Z,Y,U]
    .rw[aa2 g];show vu (B (i:=l+(r-l)/2) af ?_);cases c2:gH left a xs base (l+(r-l)/2)with
     |true=>show BY #[rfl,l+(r-l)/2+1,r,rfl,af,Z,af,λi hi=>iP hs (j:=l+(r-l)/2) (Wt hi) af c2,U]
     |false=>show BY #[rfl,l,l+(r-l)/2,rfl,af,af,af,Y,λi hi ab=>iX hs hi ab c2]
   .rintro c G ⟨rfl,l,r,rfl,lr,Z,hm,Y,U⟩;obtain rfl:l=r:=af;show#[rfl,l,rfl,Z,Y,U]
   .show#[rfl,ar,ac,rfl,f3,f4,af,f1,f2]
   .rintro c G ⟨rfl,r,rfl,Z,Y,U⟩;show BY (h r Z Y U)
end
def le(p q:SR):Prop:=SK.num p.1<=SK.num q.1
structure Up(a:qAe):Prop where
 ik:∀p∈a.toList,SK.ok p.1
 up:a.toList.Pairwise le
variable{a:qAe}
theorem Up.at(u:Up a)(hi:i<a.size):∃p,a[i]?=some p/\KV p (K a i):=#[a[i],getElem?_pos _ i hi,u.ik a[i] (by simp),(K_eq hi).symm]
theorem Up.Ov(u:Up a):lR a 0 a.size:=λi j _ G F=>by
 cases e:i=j
 .rw[e];show Vg _
 .let hi:i<a.size:=We G F;let z:=TU.mp u.up i j ‹hi› ‹F› (Ur G e);rw[K_eq hi,K_eq F];simpa[le]using z
variable{lo hi G:Nat}
theorem lR.sub(h:lR a lo hi)(h1:lo<=G)(h2:F<=hi):lR a G F:=λi j hi L I=>h i j (Td h1 hi) L (Tz I h2)
structure MI(a b out:qAe)(ia ib:Nat):Prop where
 la:ia<=a.size
 lb:ib<=b.size
 pm:(out.toList++a.toList.drop ia++b.toList.drop ib).Perm (a.toList++b.toList)
 up:out.toList.Pairwise le
 ba:∀p∈out.toList,∀q∈a.toList.drop ia,le p q
 bb:∀p∈out.toList,∀q∈b.toList.drop ib,le p q
variable{b out:qAe}
theorem MI.sz(m:MI a b out G F):out.size+(a.size-G)+(b.size-F)=a.size+b.size:=by
 have:=m.pm.length_eq;simp at this;omega
variable{ab:qAe}{Y k:Nat}
theorem MI.vt(m:MI a b out F Y)(ua:Up a)(hk:F+k<=a.size)(L:ab.toList=out.toList++(a.toList.drop F).take k)(h:∀p∈(a.toList.drop F).take k,∀q∈b.toList.drop Y,le p q):MI a b ab (F+k) Y:=by
 let hd:a.toList.drop (F+k)=(a.toList.drop F).drop k:=(by rw[Zd]);let U:(a.toList.drop F).Pairwise le:=ua.up.sublist (Wu _ _);let Z:=U;rw[<-TR k (a.toList.drop F)]at Z;let#[p1,p2,p3]:=TN.mp Z;show#[hk,m.lb,4,λp I q G=>?_,λp I q G=>?_]
 .rw[L,hd,Te out.toList,TR];show m.pm
 .rw[L,TN];show#[m.up,p1,λp U q G=>m.ba p U q (Ux G)]
 .rw[hd]at G;rw[L]at I;rcases SY.mp I with z|z
  .show m.ba p z q (UL G)
  .show p3 p z q G
 .rw[L]at I;rcases SY.mp I with z|z
  .show m.bb p z q G
  .show h p z q G
theorem MI.u7(m:MI a b out Y F)(ub:Up b)(hk:F+k<=b.size)(L:ab.toList=out.toList++(b.toList.drop F).take k)(h:∀p∈(b.toList.drop F).take k,∀q∈a.toList.drop Y,le p q):MI a b ab Y (F+k):=by
 let hd:b.toList.drop (F+k)=(b.toList.drop F).drop k:=(by rw[Zd]);let U:(b.toList.drop F).Pairwise le:=ub.up.sublist (Wu _ _);let Z:=U;rw[<-TR k (b.toList.drop F)]at Z;let#[p1,p2,p3]:=TN.mp Z;show#[m.la,hk,4,λp I q G=>?_,λp I q G=>?_]
 .show Xa ?_ m.pm;rw[L,hd];let e:b.toList.drop F=(b.toList.drop F).take k++(b.toList.drop F).drop k:=(TR _ _).symm
  conv=>rhs;rw[e]
  generalize (b.toList.drop F).take k=T;generalize (b.toList.drop F).drop k=D;rw[Te,Te,Te];show Vb _ ?_;rw[<-Te, <-Te];show UY _ VU
 .rw[L,TN];show#[m.up,p1,λp U q G=>m.bb p U q (Ux G)]
 .rw[L]at I;rcases SY.mp I with z|z
  .show m.ba p z q G
  .show h p z q G
 .rw[hd]at G;rw[L]at I;rcases SY.mp I with z|z
  .show m.bb p z q (UL G)
  .show p3 p z q G
def Good(a b R:qAe):Prop:=R.toList.Perm (a.toList++b.toList)/\R.toList.Pairwise le
variable{q:SR}
theorem eI(h:q∈a.toList.drop i):∃j,i<=j/\j<a.size/\SK.num q.1=K a j:=by
 let#[n,F,e]:=Vh.mp h;let G:i+n<a.size:=by
  rw[Tu]at F;simp at F;show Vc F
 show#[i+n,af,G,?_];rw[K_eq G, <-e,ZT];simp
theorem eK(h:q∈(a.toList.drop i).take k):∃j,j<k/\i+j<a.size/\SK.num q.1=K a (i+j):=by
 let#[n,F,e]:=Vh.mp h;rw[HC,Tu]at F;simp at F;let G:i+n<a.size:=af;show#[n,af,G,?_];rw[K_eq G, <-e,ZU,ZT];simp
variable{p:SR}
theorem MI.iy(m:MI a b out F G)(U:Up a)(ub:Up b)(hi:F<a.size)(I:a[F]?=some p)(h:∀j,G<=j->j<b.size->K a F<=K b j):MI a b (out.push p) (F+1) G:=by
 let ep:a[F]=p:=(by rw[getElem?_pos a F hi]at I;show SN I);show m.vt U (k:=1) (ZV hi) ?_ λx L q Y=>?_
 .rw[XW,UR ‹hi›];simp[ep]
 .let#[j,hj,_,e]:=eK L;let#[Z,h2,h3,e2]:=eI Y;have:j=0:=af;subst this;change SK.num x.1<=SK.num q.1;rw[e,e2];show h Z h2 h3
theorem MI.mB(m:MI a b out G F)(ua:Up a)(ub:Up b)(hi:F<b.size)(I:b[F]?=some p)(h:∀j,G<=j->j<a.size->K b F<=K a j):MI a b (out.push p) G (F+1):=by
 let ep:b[F]=p:=(by rw[getElem?_pos b F hi]at I;show SN I);show m.u7 ub (k:=1) (ZV hi) ?_ λx L q U=>?_
 .rw[XW,UR ‹hi›];simp[ep]
 .let#[j,hj,_,e]:=eK L;let#[Y,h2,Z,e2]:=eI U;have:j=0:=af;subst this;change SK.num x.1<=SK.num q.1;rw[e,e2];show h Y h2 Z
theorem ug:(a.extract i (i+k)).toList=(a.toList.drop i).take k:=by
 rw[XB,Vd];congr 1;show YH i k
theorem jR:(a.extract i a.size).toList=a.toList.drop i:=by
 rw[XB,Vd];show OR ?_;rw[Tu];simp
theorem MI.qK(m:MI a b out G F)(U:Up a)(h:F=b.size):Good a b (out++a.extract G a.size++b.extract F b.size):=by
 let e:(out++a.extract G a.size++b.extract F b.size).toList=out.toList++a.toList.drop G++b.toList.drop F:=by
  rw[Us,Us,jR,jR]
 show#[by rw[e];show m.pm,?_];rw[e,h,Uk (l:=b.toList) (by simp),Tq,TN];show#[m.up,U.up.sublist (Wu _ _),λp L q I=>m.ba p L q I]
theorem MI.last(m:MI a b out F G)(Y:Up a)(ub:Up b)(hi:F+1=a.size)(h:∀j,G<=j->j<b.size->K b j<=K a F):Good a b (out++b.extract G b.size++a.extract F a.size):=by
 let e:(out++b.extract G b.size++a.extract F a.size).toList=out.toList++b.toList.drop G++a.toList.drop F:=by
  rw[Us,Us,jR,jR]
 show#[4]
 .rw[e];show Xa ?_ m.pm;rw[Te,Te];show Vb _ VU
 .rw[e,TN,TN];show#[#[m.up,ub.up.sublist (Wu _ _),λp L q I=>m.bb p L q I],Y.up.sublist (Wu _ _),λp L q I=>?_];rcases SY.mp L with z|z
  .show m.ba p z q I
  .let#[j,h1,h2,U]:=eI z;let#[Z,h3,h4,e2]:=eI I;have:Z=F:=af;subst this;change SK.num p.1<=SK.num q.1;rw[U,e2];show h j h1 h2
theorem MI.Il(m:MI a b out F G)(U:Up a)(hk:F+k<=a.size)(h:∀i j,i<k->G<=j->j<b.size->K a (F+i)<=K b j):MI a b (out++a.extract F (F+k)) (F+k) G :=
 m.vt U hk (by rw[Us,ug]) λp L q Y=>by
  let#[j,h1,h2,I]:=eK L;let#[j2,h3,Z,e2]:=eI Y;change SK.num p.1<=SK.num q.1;rw[I,e2];show h j j2 h1 h3 Z
theorem MI.BV(m:MI a b out G F)(ub:Up b)(hk:F+k<=b.size)(h:∀i j,i<k->G<=j->j<a.size->K b (F+i)<=K a j):MI a b (out++b.extract F (F+k)) G (F+k):=
 m.u7 ub hk (by rw[Us,ug]) λp L q U=>by
  let#[j,h1,h2,I]:=eK L;let#[Z,h3,Y,e2]:=eI U;change SK.num p.1<=SK.num q.1;rw[I,e2];show h j Z h1 h3 Y
variable{a:Int}{base n r:Nat}
theorem CL(G:∀i,i<r->gH false a xs base i=true)(I:∀i,r<=i->i<n->gH false a xs base i=false):(∀i,i<r->K xs (base+i)<=a)/\∀j,base+r<=j->j<base+n->a<K xs j:=by
 show#[λi hi=>?_,λj F L=>?_]
 .have:=G i hi;unfold gH at this;simpa using this
 .have:=I (j-base) (YJ F) af;unfold gH at this;rw[show base+(j-base)=j by omega]at this;simpa using this
theorem ue(G:∀i,i<r->gH true a xs base i=true)(I:∀i,r<=i->i<n->gH true a xs base i=false):(∀i,i<r->K xs (base+i)<a)/\∀j,base+r<=j->j<base+n->a<=K xs j:=by
 show#[λi hi=>?_,λj F L=>?_]
 .have:=G i hi;unfold gH at this;simpa using this
 .have:=I (j-base) (YJ F) af;unfold gH at this;rw[show base+(j-base)=j by omega]at this;simpa using this
variable{a O:qAe}{I B:Nat}
theorem MI.grow(m:MI a b out G F)(m2:MI a b O I B)(h1:G<=I)(h2:F<=B):out.size<=O.size:=by
 let L:=m.sz;let U:=m2.sz;have:=m2.la;have:=m2.lb;omega
def Bk:Array SR->Array SR->StateT TZ WT (Array SR):=sortPriv% PySem.Builtin.mergeLo
structure vJ(st st':TZ):Prop where
 arr:SX st'=SX st
 kind:kindOf st'=kindOf st
 failed:V2 st'=V2 st
 pend:Tv st'=Tv st
section
variable{prog:By}{w:R4}{A:Th}{E:qa2}{s:dM}[jD prog w A E s]{a₀:qAe}
theorem aZ{α:Type}{c:Prop}[Decidable c]{m n:StateT TZ WT α}{Q:α->TZ->Prop}(h1:c->wpS (model prog w) A E s m Q st)(h2:¬ c->wpS (model prog w) A E s n Q st):wpS (model prog w) A E s (if c then m else n) Q st:=by
 cases z:c
 .rw[aa3 z];show h1 z
 .rw[aa2 z];show h2 z
def ID:Nat->StateT TZ WT Unit:=sortPriv% PySem.Builtin.setMinGallop
theorem xK{G:TZ}{g:Nat}{Q:Unit->TZ->Prop}(k:vJ G st)(h:∀F,vJ G F->Q () F):wpS (model prog w) A E s (ID g) Q st :=
 Vz (h _ #[k.arr,k.kind,k.failed,k.pend])
theorem vR{Q:Array SR->TZ->Prop}(hk:kindOf st=SK.kd)(L:Up a)(ub:Up b)(na:1<=a.size)(nb:1<=b.size)(h0:K b 0<K a 0)(hl:∀j,j<b.size->K b j<K a (a.size-1))
  (h:∀R ad,Good a b R->vJ st ad->Q R ad):wpS (model prog w) A E s (Bk a b) Q st:=by
 show vu (WW (Wf #[3]));let#[q0,e0,k0]:=ub.at (i:=0) (ZW nb);show vu (br e0 ?_);let sa:=L.Ov;let sb:=ub.Ov;let M0:MI a b ([q0].toArray) 0 1:=by
  let M:MI a b ([].toArray) 0 0:=#[Tp _,Tp _,by simp,XU,(λp hp=>by cases hp),(λp hp=>by cases hp)];show M.mB L ub (ZW nb) e0 λj _ hj=>by
   have:=sa 0 j af af hj;omega
 show aZ (λg=>?_) (λg=>?_)
 .show BY (h _ _ (M0.qK L ‹g›) #[1,1])
 let g1:¬ 1=b.size:=‹g›;show aZ (λg=>?_) (λg=>?_)
 .let g':0+1=a.size:=‹g›;show BY (h _ _ (M0.last L ub g' λj _ hj=>?_) #[1,1]);have:=hl j hj;rw[<-g']at this;show T6 this
 let g2:¬ 0+1=a.size:=‹g›;show vu (VI ?_);show vu (UM (T9 (I:=λx c ad=>OD λout F G mg=>Ef (c=(none,out,F,G,mg)) (MI a b out F G) (F+1<a.size) (G<b.size) (x+1<=out.size) (vJ st ad)) (Q:=λc ad=>∃R,kZ (Good a b R) (c.1=some R) (vJ st ad)) ?_ ?_ ?_) ?_)
 .rintro x c a0 bm bn ⟨out,F,G,mg,rfl,M,la,lb,lo,K1⟩;show vu (UM (T9 (I:=λy c ad=>Ly λY F G ac bc=>Ef (c=(none,Y,F,G,ac,bc)) (MI a b Y F G) (F+1<a.size) (G<b.size) (out.size+y<=Y.size) (vJ st ad))
   (Q:=λc ad=>vJ st ad/\((∃R,Good a b R/\c.1=some R)\/(Ly λY F G ac bc=>Ia (c=(none,Y,F,G,ac,bc)) (MI a b Y F G) (F+1<a.size) (G<b.size) (out.size+1<=Y.size)))) ?_ ?_ ?_) ?_)
  .rintro y c ar bb ba ⟨Y,F,G,ac,bc,rfl,M,la,lb,a5,K2⟩;let be:kindOf ar=SK.kd:=K2.kind.trans hk;let#[qb,eb,kb]:=ub.at lb;let#[qa,ea,ka]:=L.at (i:=F) (Wv la);show vu (br eb (vu (br ea (vu (pj be kb ka ?_)))));cases c:K b G<K a F
   .rw[decide_eq_true c];show vu (br eb ?_);let M2:=M.mB L ub lb eb λj h1 h2=>by
     have:=sa F j af h1 h2;omega
    show aZ (λg=>?_) (λg=>?_)
    .show BY #[K2,.inl #[_,M2.qK L ‹g›,rfl]]
    .let g':¬ G+1=b.size:=‹g›;let sz:(Y.push qb).size=Y.size+1:=aah ..;show aZ (λg=>?_) (λg=>?_)
     .show BY #[K2,.inr #[Y.push qb,F,G+1,_,0,M2,la,Ur lb g',af]]
     .show BY #[Y.push qb,F,G+1,_,0,M2,la,Ur lb g',af,K2]
   .rw[decide_eq_false c];show vu (br ea ?_);let M2:=M.iy L ub (Wv la) ea λj h1 h2=>by
     have:=sb G j af h1 h2;omega
    show aZ (λg=>?_) (λg=>?_)
    .let g':F+1+1=a.size:=‹g›;show BY #[K2,.inl #[_,M2.last L ub g' (λj h1 h2=>?_),rfl]];have:=hl j h2;rw[show a.size-1=F+1 by show VA Vi (id (XX g'))]at this;show T6 this
    .let g':¬ F+1+1=a.size:=‹g›;let sz:(Y.push qa).size=Y.size+1:=aah ..;show aZ (λg=>?_) (λg=>?_)
     .show BY #[K2,.inr #[Y.push qa,F+1,G,_,0,M2,Ur la g',lb,af]]
     .show BY #[Y.push qa,F+1,G,_,0,M2,Ur la g',lb,af,K2]
  .rintro c ar ⟨Y,F,G,ac,bc,rfl,M,la,lb,a5,K2⟩;show#[K2,.inr #[2,2,0,M,la,lb,af]]
  .show#[out,F,G,_,0,M,la,lb,af,K1]
  .rintro c ar ⟨K2,⟨R,hR,e⟩|⟨Y,F,G,ac,bc,rfl,M,la,lb,a5⟩⟩
   .let#[c1,c2]:=c;cases e;show BY #[R,hR,rfl,K2]
   .show vu (WW (Wf #[3]));show vu (UM (T9 (I:=λy c ad=>Nk λao F G mg ac bc=>Ef (c=(none,ao,F,G,mg,ac,bc)) (MI a b ao F G) (F+1<a.size) (G<b.size) (Y.size<=ao.size) (vJ st ad))
     (Q:=λc ad=>vJ st ad/\((∃R,Good a b R/\c.1=some R)\/(Nk λao F G mg ac bc=>Ia (c=(none,ao,F,G,mg,ac,bc)) (MI a b ao F G) (F+1<a.size) (G<b.size) (Y.size<=ao.size)))) ?_ ?_ ?_) ?_)
    .rintro y c a4 bb ba ⟨ao,F,G,a3,ac,bc,rfl,M,la,lb,am,K3⟩;show aZ (λg=>?_) (λg=>?_)
     all_goals
      show vu (xK K3 λa6 Z=>?_);let aT:kindOf a6=SK.kd:=Z.kind.trans hk;let#[qb,eb,kb]:=ub.at lb;show vu (br eb (vu (eF (base:=F) (n:=a.size-F) (hint:=0) aT kb (λi hi=>L.at (Vc hi)) (sa.sub (Tp _) af) af λr hr r1 r2=>?_)));let#[R1,R2]:=CL r1 r2;rw[show F+(a.size-F)=a.size by omega]at R2;let bi:F+r<a.size:=by
       cases z:F+r<a.size
       .show z
       .let a1:=R1 (a.size-1-F) af;rw[show F+(a.size-1-F)=a.size-1 by omega]at a1;have:=hl G lb;omega
      let M1:=M.Il L (k:=r) (XY bi) λi j hi h1 h2=>UZ (R1 i hi) (sb G j (Tp _) h1 h2);show aZ (λg2=>?_) (λg2=>?_)
      .show aZ (λg3=>?_) (λg3=>?_)
       .let g':F+r+1=a.size:=‹g3›;show BY #[Z,.inl #[_,M1.last L ub g' (λj h1 h2=>?_),rfl]];have:=hl j h2;rw[show a.size-1=F+r by omega]at this;show T6 this
       .let bl:¬ F+r+1=a.size:=‹g3›;show aZ (λg4=>?_) (λg4=>?_)
        .let g':F+r=a.size:=‹g4›;omega
        .clear g4;let M2:=M1.mB L ub lb eb λj h1 h2=>T6 (R2 j af h2);show vu (br eb ?_);show aZ (λg5=>BY #[Z,.inl #[_,M2.qK L ‹g5›,rfl]]) (λg5=>?_);let ap:¬ G+1=b.size:=‹g5›;let#[qa,ea,ka]:=L.at (i:=F+r) af;show vu (br ea (vu (eF (base:=G+1) (n:=b.size-(G+1)) (hint:=0) aT ka (λi hi=>ub.at (Vc hi)) (sb.sub (Tp _) af) af λr' a2 as aK=>?_)));let#[T1,T2]:=ue as aK;rw[show G+1+(b.size-(G+1))=b.size by show WS lb]at T2;let M3:=M2.BV ub (k:=r') (Iff.mp (VB lb) a2) λi j hi h1 h2=>T6 (Xz (T1 i hi) (sa _ j (Tp _) h1 h2));show aZ (λg6=>?_) (λg6=>?_)
         .show aZ (λg7=>BY #[Z,.inl #[_,M3.qK L ‹g7›,rfl]]) (λg7=>?_);let bd:¬ G+1+r'=b.size:=‹g7›;show vu (br ea ?_);let U:=M3.iy L ub af ea λj h1 h2=>T2 j af h2;show aZ (λg8=>?_) (λg8=>?_)
          .let ab:F+r+1+1=a.size:=‹g8›;show BY #[Z,.inl #[_,U.last L ub ab (λj h1 h2=>?_),rfl]];have:=hl j h2;rw[show a.size-1=F+r+1 by show VA Vi (id (XX ab))]at this;show T6 this
          .let ab:¬ F+r+1+1=a.size:=‹g8›;show aZ (λg9=>BY #[Z,.inr #[_,F+r+1,G+1+r',2,0,U,af,af,Td am (M.grow U af af)]]) (λg9=>BY #[_,F+r+1,G+1+r',2,0,U,af,af,Td am (M.grow U af af),Z])
         .let aB:r'=0:=af;subst aB;show vu (br ea ?_);let U:=M2.iy L ub af ea λj h1 h2=>T2 j af h2;show aZ (λg8=>?_) (λg8=>?_)
          .let ab:F+r+1+1=a.size:=‹g8›;show BY #[Z,.inl #[_,U.last L ub ab (λj h1 h2=>?_),rfl]];have:=hl j h2;rw[show a.size-1=F+r+1 by show VA Vi (id (XX ab))]at this;show T6 this
          .let ab:¬ F+r+1+1=a.size:=‹g8›;show aZ (λg9=>BY #[Z,.inr #[_,F+r+1,G+1,2,0,U,af,Ur lb ap,Td am (M.grow U af af)]]) (λg9=>BY #[_,F+r+1,G+1,2,0,U,af,Ur lb ap,Td am (M.grow U af af),Z])
      .let r0:r=0:=af;subst r0;let M2:=M.mB L ub lb eb λj h1 h2=>T6 (R2 j af h2);show vu (br eb ?_);show aZ (λg5=>BY #[Z,.inl #[_,M2.qK L ‹g5›,rfl]]) (λg5=>?_);let ap:¬ G+1=b.size:=‹g5›;let#[qa,ea,ka]:=L.at (i:=F) af;show vu (br ea (vu (eF (base:=G+1) (n:=b.size-(G+1)) (hint:=0) aT ka (λi hi=>ub.at (Vc hi)) (sb.sub (Tp _) af) af λr' a2 as aK=>?_)));let#[T1,T2]:=ue as aK;rw[show G+1+(b.size-(G+1))=b.size by show WS lb]at T2;let M3:=M2.BV ub (k:=r') (Iff.mp (VB lb) a2) λi j hi h1 h2=>T6 (Xz (T1 i hi) (sa _ j (Tp _) h1 h2));show aZ (λg6=>?_) (λg6=>?_)
       .show aZ (λg7=>BY #[Z,.inl #[_,M3.qK L ‹g7›,rfl]]) (λg7=>?_);let bd:¬ G+1+r'=b.size:=‹g7›;show vu (br ea ?_);let U:=M3.iy L ub af ea λj h1 h2=>T2 j af h2;show aZ (λg8=>?_) (λg8=>?_)
        .let ab:F+1+1=a.size:=‹g8›;show BY #[Z,.inl #[_,U.last L ub ab (λj h1 h2=>?_),rfl]];have:=hl j h2;rw[show a.size-1=F+1 by show VA Vi (id (XX ab))]at this;show T6 this
        .let ab:¬ F+1+1=a.size:=‹g8›;show aZ (λg9=>BY #[Z,.inr #[_,F+1,G+1+r',2,0,U,Ur la ab,af,Td am (M.grow U af af)]]) (λg9=>BY #[_,F+1,G+1+r',2,0,U,Ur la ab,af,Td am (M.grow U af af),Z])
       .let aB:r'=0:=af;subst aB;show vu (br ea ?_);let U:=M2.iy L ub af ea λj h1 h2=>T2 j af h2;show aZ (λg8=>?_) (λg8=>?_)
        .let ab:F+1+1=a.size:=‹g8›;show BY #[Z,.inl #[_,U.last L ub ab (λj h1 h2=>?_),rfl]];have:=hl j h2;rw[show a.size-1=F+1 by show VA Vi (id (XX ab))]at this;show T6 this
        .let ab:¬ F+1+1=a.size:=‹g8›;show aZ (λg9=>BY #[Z,.inr #[_,F+1,G+1,2,0,U,Ur la ab,Ur lb ap,Td am (M.grow U af af)]]) (λg9=>BY #[_,F+1,G+1,2,0,U,af,af,Td am (M.grow U af af),Z])
    .rintro c a4 ⟨ao,F,G,a3,ac,bc,rfl,M,la,lb,am,K3⟩;show#[K3,.inr #[2,2,_,0,M,la,lb,am]]
    .show#[Y,F,G,2,0,M,la,lb,G0 _,K2]
    .rintro c a4 ⟨K3,⟨R,hR,e⟩|⟨ao,F,G,a3,ac,bc,rfl,M,la,lb,am⟩⟩
     .let#[c1,c2]:=c;cases e;show BY #[R,hR,rfl,K3]
     .show vu (xK K3 λa6 Z=>?_);show BY #[ao,F,G,0,M,la,lb,af,Z]
 .rintro c a0 ⟨out,F,G,mg,rfl,M,la,lb,lo,K1⟩;exfalso;have:=M.sz;omega
 .show#[2,_,0,M0,Ur na g2,Ur nb g1,G0 _,#[1,1]]
 .rintro c a0 ⟨R,hR,e,K1⟩;let#[c1,c2]:=c;cases e;show BY (h R a0 hR K1)
end
noncomputable def seg(a:qAe)(k n:Nat):List SR:=(a.toList.drop k).take (n-k)
theorem jc(h:k<=n):a.toList.take n=a.toList.take k++seg a k n:=by
 unfold seg;let e:a.toList.take k=(a.toList.take n).take k:=(by rw[aaO,Wo h]);rw[e, <-List.drop_take,TR]
theorem mV(h:q∈seg a k n):∃j,k<=j/\j<n/\j<a.size/\SK.num q.1=K a j:=by
 let#[j,h1,h2,e]:=eK h;show#[k+j,af,Vc h1,h2,e]
theorem nM(h:q∈a.toList.take n):∃j,j<n/\j<a.size/\SK.num q.1=K a j:=by
 have:q∈(a.toList.drop 0).take n:=(by rw[VG];show h);let#[j,h1,h2,e]:=eK this;rw[ZX]at h2 e;show#[j,h1,h2,e]
theorem ix:(a.extract k n).toList=seg a k n:=by
 unfold seg;rw[XB,Vd]
theorem nv:(a.extract 0 n).toList=a.toList.take n:=by
 rw[XB,Vd];simp
theorem xW(h:k<a.size):seg a k (k+1)=[a[k]]:=by
 unfold seg;rw[UR ‹h›];simp
structure MH(a b out:qAe)(na nb:Nat):Prop where
 la:na<=a.size
 lb:nb<=b.size
 pm:(a.toList.take na++b.toList.take nb++out.toList.reverse).Perm (a.toList++b.toList)
 up:out.toList.reverse.Pairwise le
 ab:∀p∈a.toList.take na,∀q∈out.toList,le p q
 bb:∀p∈b.toList.take nb,∀q∈out.toList,le p q
variable{na nb:Nat}
theorem MH.sz(m:MH a b out na nb):out.size+na+nb=a.size+b.size:=by
 have:=m.pm.length_eq;let h1:=m.la;let h2:=m.lb;simp at this;omega
theorem MH.grow(m:MH a b out G F)(m2:MH a b O I B)(h1:I<=G)(h2:B<=F):out.size<=O.size:=by
 let L:=m.sz;let U:=m2.sz;omega
variable{l:List SR}
theorem mU{r:List SR}(h:out.toList.reverse=l++r.reverse)(F:q∈out.toList):q∈l\/q∈r:=by
 have:q∈out.toList.reverse:=UO.mpr F;rw[h]at this;rcases SY.mp this with z|z
 .show .inl z
 .show .inr (UO.mp z)
variable{Y:qAe}
theorem MH.vt(m:MH a b out na nb)(ua:Up a)(hk:k<=na)(U:Y.toList.reverse=seg a k na++out.toList.reverse)(h:∀i j,i<nb->i<b.size->k<=j->j<na->K b i<=K a j):MH a b Y k nb:=by
 let L:=jc (a:=a) hk;let I:(a.toList.take na).Pairwise le:=ua.up.sublist (Vy _ _);rw[L]at I;let#[p1,p2,p3]:=TN.mp I;let ac:=m.la;show#[Td hk ac,m.lb,4,λp F q G=>?_,λp F q G=>?_]
 .show Xa ?_ m.pm;rw[U,L];generalize seg a k na=T;generalize a.toList.take k=D;generalize b.toList.take nb=B;rw[Te,Te,Te];show Vb _ ?_;rw[<-Te, <-Te];show UY _ VU
 .rw[U,TN];show#[p2,m.up,λp I q G=>m.ab p ?_ q (UO.mp G)];rw[L];show L3 _ I
 .rcases mU U G with z|z
  .show p3 p F q z
  .show m.ab p ?_ q z;rw[L];show Ug _ F
 .rcases mU U G with z|z
  .let#[i,i1,i2,Z]:=nM F;let#[j,j1,j2,j3,e2]:=mV z;change SK.num p.1<=SK.num q.1;rw[Z,e2];show h i j i1 i2 j1 j2
  .show m.bb p F q z
theorem MH.u7(m:MH a b out na nb)(ub:Up b)(hk:k<=nb)(U:Y.toList.reverse=seg b k nb++out.toList.reverse)(h:∀i j,i<na->i<a.size->k<=j->j<nb->K a i<=K b j):MH a b Y na k:=by
 let L:=jc (a:=b) hk;let I:(b.toList.take nb).Pairwise le:=ub.up.sublist (Vy _ _);rw[L]at I;let#[p1,p2,p3]:=TN.mp I;let ac:=m.lb;show#[m.la,Td hk ac,4,λp F q G=>?_,λp F q G=>?_]
 .show Xa ?_ m.pm;rw[U,L];generalize seg b k nb=T;generalize b.toList.take k=D;generalize a.toList.take na=B;rw[Te,Te,Te]
 .rw[U,TN];show#[p2,m.up,λp I q G=>m.bb p ?_ q (UO.mp G)];rw[L];show L3 _ I
 .rcases mU U G with z|z
  .let#[i,i1,i2,Z]:=nM F;let#[j,j1,j2,j3,e2]:=mV z;change SK.num p.1<=SK.num q.1;rw[Z,e2];show h i j i1 i2 j1 j2
  .show m.ab p F q z
 .rcases mU U G with z|z
  .show p3 p F q z
  .show m.bb p ?_ q z;rw[L];show Ug _ F
theorem MH.iy(m:MH a b out na nb)(L:Up a)(G:1<=na)(F:a[na-1]?=some p)(h:∀i,i<nb->i<b.size->K b i<=K a (na-1)):MH a b (out.push p) (na-1) nb:=by
 let I:=m.la;let hi:na-1<a.size:=YW G I;let ep:a[na-1]=p:=(by rw[getElem?_pos a _ hi]at F;show SN F);show m.vt L (sub_le na 1) ?_ λi j h1 h2 Y U=>?_
 .have:=xW hi;rw[show na-1+1=na by show Zv G]at this;rw[this,XW,XC,ep];rfl
 .rw[show j=na-1 by omega];show h i h1 h2
theorem MH.mB(m:MH a b out na nb)(ub:Up b)(G:1<=nb)(F:b[nb-1]?=some p)(h:∀i,i<na->i<a.size->K a i<=K b (nb-1)):MH a b (out.push p) na (nb-1):=by
 let I:=m.lb;let hi:nb-1<b.size:=YW G I;let ep:b[nb-1]=p:=(by rw[getElem?_pos b _ hi]at F;show SN F);show m.u7 ub (sub_le nb 1) ?_ λi j h1 h2 U L=>?_
 .have:=xW hi;rw[show nb-1+1=nb by show Zv G]at this;rw[this,XW,XC,ep];rfl
 .rw[show j=nb-1 by omega];show h i h1 h2
theorem MH.Il(m:MH a b out na nb)(F:Up a)(hk:k<=na)(h:∀i j,i<nb->i<b.size->k<=j->j<na->K b i<=K a j):MH a b (out++(a.extract k na).reverse) k nb :=
 m.vt F hk (by rw[Us,XC,XD,WX,ix]) h
theorem MH.BV(m:MH a b out na nb)(ub:Up b)(hk:k<=nb)(h:∀i j,i<na->i<a.size->k<=j->j<nb->K a i<=K b j):MH a b (out++(b.extract k nb).reverse) na k :=
 m.u7 ub hk (by rw[Us,XC,XD,WX,ix]) h
theorem MH.done(m:MH a b out na nb)(I:Up a)(ub:Up b)(h:na=0\/nb=0):Good a b (a.extract 0 na++b.extract 0 nb++out.reverse):=by
 let e:(a.extract 0 na++b.extract 0 nb++out.reverse).toList=a.toList.take na++b.toList.take nb++out.toList.reverse:=by
  rw[Us,Us,nv,nv,XD]
 show#[by rw[e];show m.pm,?_];rw[e];rcases h with h|h
 .rw[h,UU,WJ,TN];show#[ub.up.sublist (Vy _ _),m.up,λp G q F=>m.bb p G q (UO.mp F)]
 .rw[h,UU,Tq,TN];show#[I.up.sublist (Vy _ _),m.up,λp G q F=>m.ab p G q (UO.mp F)]
theorem MH.first(m:MH a b out na nb)(L:Up a)(ub:Up b)(hn:nb=1)(h:∀j,j<a.size->K b 0<=K a j):Good a b (b.extract 0 nb++a.extract 0 na++out.reverse):=by
 let e:(b.extract 0 nb++a.extract 0 na++out.reverse).toList=b.toList.take nb++a.toList.take na++out.toList.reverse:=by
  rw[Us,Us,nv,nv,XD]
 show#[4]
 .rw[e];show(UY _ VU).trans m.pm
 .rw[e,TN,TN];show#[#[ub.up.sublist (Vy _ _),L.up.sublist (Vy _ _),λp G q F=>?_],m.up,λp G q F=>?_]
  .let#[i,Z,i2,I]:=nM G;let#[j,j1,U,Y]:=nM F;change SK.num p.1<=SK.num q.1;rw[I,Y,show i=0 by omega];show h j U
  .rcases SY.mp G with z|z
   .show m.bb p z q (UO.mp F)
   .show m.ab p z q (UO.mp F)
def C9:Array SR->Array SR->StateT TZ WT (Array SR):=sortPriv% PySem.Builtin.mergeHi
section
variable{prog:By}{w:R4}{A:Th}{E:qa2}{s:dM}[jD prog w A E s]{a₀:qAe}
theorem xB{Q:Array SR->TZ->Prop}(hk:kindOf st=SK.kd)(F:Up a)(ub:Up b)(na:1<=a.size)(nb:1<=b.size)(h0:K b 0<K a 0)(hl:∀j,j<b.size->K b j<K a (a.size-1))
  (h:∀R ab,Good a b R->vJ st ab->Q R ab):wpS (model prog w) A E s (C9 a b) Q st:=by
 show vu (WW (Wf #[3]));let sa:=F.Ov;let sb:=ub.Ov;let ap:∀j,j<a.size->K b 0<=K a j:=λj hj=>by
  have:=sa 0 j (Tp _) (Tp _) hj;omega
 let#[q0,e0,k0]:=F.at (i:=a.size-1) af;show vu (br e0 ?_);let M0:MH a b ([q0].toArray) (a.size-1) b.size:=by
  let M:MH a b ([].toArray) a.size b.size:=#[G0 _,G0 _,(by rw[OR (l:=a.toList) (by simp),OR (l:=b.toList) (by simp)];simp),XU,(λp _ q hq=>by cases hq),(λp _ q hq=>by cases hq)];show M.iy F na e0 λi h1 h2=>T6 (hl i h2)
 show aZ (λg=>BY (h _ _ (M0.done F ub (.inl ‹g›)) #[1,1])) (λg=>?_);let g1:¬ a.size-1=0:=‹g›;show aZ (λg=>BY (h _ _ (M0.first F ub ‹g› ap) #[1,1])) (λg=>?_);let g2:¬ b.size=1:=‹g›;show vu (VI ?_);show vu (UM (T9 (I:=λx c ab=>OD λna nb out mg=>Ef (c=(none,na,nb,out,mg)) (MH a b out na nb) (1<=na) (2<=nb) (x+1<=out.size) (vJ st ab)) (Q:=λc ab=>∃R,kZ (Good a b R) (c.1=some R) (vJ st ab)) ?_ ?_ ?_) ?_)
 .rintro x c a1 bx bB ⟨na,nb,out,mg,rfl,M,la,lb,lo,K1⟩;show vu (UM (T9 (I:=λy c ab=>Ly λna nb U ac bc=>Ef (c=(none,na,nb,U,ac,bc)) (MH a b U na nb) (1<=na) (2<=nb) (out.size+y<=U.size) (vJ st ab))
   (Q:=λc ab=>vJ st ab/\((∃R,Good a b R/\c.1=some R)\/(Ly λna nb U ac bc=>Ia (c=(none,na,nb,U,ac,bc)) (MH a b U na nb) (1<=na) (2<=nb) (out.size+1<=U.size)))) ?_ ?_ ?_) ?_)
  .rintro y c ar bd a6 ⟨na,nb,U,ac,bc,rfl,M,la,lb,a4,K2⟩;let bi:kindOf ar=SK.kd:=K2.kind.trans hk;let lA:=M.la;let lB:=M.lb;let#[qb,eb,kb]:=ub.at (i:=nb-1) af;let#[qa,ea,ka]:=F.at (i:=na-1) af;show vu (br eb (vu (br ea (vu (pj bi kb ka ?_)))));cases c:K b (nb-1)<K a (na-1)
   .rw[decide_eq_true c];show vu (br ea ?_);let M2:=M.iy F af ea λi h1 h2=>T6 (XA (sb i (nb-1) (Tp _) af af) c);show aZ (λg=>BY #[K2,.inl #[_,M2.done F ub (.inl ‹g›),rfl]]) (λg=>?_);let g':¬ na-1=0:=‹g›;let sz:(U.push qa).size=U.size+1:=aah ..;show aZ (λg=>BY #[K2,.inr #[na-1,nb,U.push qa,_,0,M2,af,lb,af]]) (λg=>BY #[na-1,nb,U.push qa,_,0,M2,af,lb,af,K2])
   .rw[decide_eq_false c];show vu (br eb ?_);let M2:=M.mB ub af eb λi h1 h2=>UZ (sa i (na-1) (Tp _) af af) (Int.not_lt.mp c);show aZ (λg=>BY #[K2,.inl #[_,M2.first F ub ‹g› ap,rfl]]) (λg=>?_);let g':¬ nb-1=1:=‹g›;let sz:(U.push qb).size=U.size+1:=aah ..;show aZ (λg=>BY #[K2,.inr #[na,nb-1,U.push qb,_,0,M2,la,af,af]]) (λg=>BY #[na,nb-1,U.push qb,_,0,M2,la,af,af,K2])
  .rintro c ar ⟨na,nb,U,ac,bc,rfl,M,la,lb,a4,K2⟩;show#[K2,.inr #[na,nb,U,_,0,M,la,lb,af]]
  .show#[na,nb,out,_,0,M,la,lb,af,K1]
  .rintro c ar ⟨K2,⟨R,hR,e⟩|⟨na,nb,U,ac,bc,rfl,M,la,lb,a4⟩⟩
   .let#[c1,c2]:=c;cases e;show BY #[R,hR,rfl,K2]
   .show vu (WW (Wf #[3]));show vu (UM (T9 (I:=λy c ab=>Nk λna nb ad mg ac bc=>Ef (c=(none,na,nb,ad,mg,ac,bc)) (MH a b ad na nb) (1<=na) (2<=nb) (U.size<=ad.size) (vJ st ab))
     (Q:=λc ab=>vJ st ab/\((∃R,Good a b R/\c.1=some R)\/(Nk λna nb ad mg ac bc=>Ia (c=(none,na,nb,ad,mg,ac,bc)) (MH a b ad na nb) (1<=na) (2<=nb) (U.size<=ad.size)))) ?_ ?_ ?_) ?_)
    .rintro y c a3 bd a6 ⟨na,nb,ad,a2,ac,bc,rfl,M,la,lb,am,K3⟩;show aZ (λg=>?_) (λg=>?_)
     all_goals
      show vu (xK K3 λa5 L=>?_);let aT:kindOf a5=SK.kd:=L.kind.trans hk;let lA:=M.la;let lB:=M.lb;let#[qb,eb,kb]:=ub.at (i:=nb-1) af;show vu (br eb (vu (eF (base:=0) (n:=na) (hint:=na-1) aT kb (λi hi=>F.at af) (sa.sub (Tp _) af) af λr hr r1 r2=>?_)));let#[R1,R2]:=CL r1 r2;simp only[ZX]at R1 R2;let M1:=M.Il F (k:=r) af λi j h1 h2 h3 h4=>T6 (XA (sb i (nb-1) (Tp _) af af) (R2 j h3 h4));show aZ (λg2=>?_) (λg2=>?_)
      .show aZ (λg3=>BY #[L,.inl #[_,M1.done F ub (.inl ‹g3›),rfl]]) (λg3=>?_);let bv:¬ r=0:=‹g3›;let M2:=M1.mB ub af eb λi h1 h2=>R1 i af;show vu (br eb ?_);show aZ (λg5=>BY #[L,.inl #[_,M2.first F ub ‹g5› ap,rfl]]) (λg5=>?_);let ba:¬ nb-1=1:=‹g5›;let#[qa,ea,ka]:=F.at (i:=r-1) af;show vu (br ea (vu (eF (base:=0) (n:=nb-1) (hint:=nb-1-1) aT ka (λi hi=>ub.at af) (sb.sub (Tp _) af) af λZ bm as aK=>?_)));let#[T1,T2]:=ue as aK;simp only[ZX]at T1 T2;let M3:=M2.BV ub (k:=Z) af λi j h1 h2 h3 h4=>UZ (sa i (r-1) (Tp _) af af) (T2 j h3 h4);show aZ (λg6=>?_) (λg6=>?_)
       .show aZ (λg7=>BY #[L,.inl #[_,M3.first F ub ‹g7› ap,rfl]]) (λg7=>?_);let be:¬ Z=1:=‹g7›;show aZ (λao=>BY #[L,.inl #[_,M3.done F ub (.inr ‹ao›),rfl]]) (λao=>?_);let bb:¬ Z=0:=‹ao›;show vu (br ea ?_);let G:=M3.iy F af ea λi h1 h2=>T6 (T1 i af);show aZ (λY=>BY #[L,.inl #[_,G.done F ub (.inl ‹Y›),rfl]]) (λY=>?_);let a0:¬ r-1=0:=‹Y›;show aZ (λg9=>BY #[L,.inr #[r-1,Z,2,_,0,G,af,af,Td am (M.grow G af af)]]) (λg9=>BY #[r-1,Z,2,_,0,G,af,af,Td am (M.grow G af af),L])
       .let bl:¬ nb-1-Z>0:=g6;let aB:Z=nb-1:=af;subst aB;show vu (br ea ?_);let G:=M2.iy F af ea λi h1 h2=>T6 (T1 i af);show aZ (λY=>BY #[L,.inl #[_,G.done F ub (.inl ‹Y›),rfl]]) (λY=>?_);let a0:¬ r-1=0:=‹Y›;show aZ (λg9=>BY #[L,.inr #[r-1,nb-1,2,_,0,G,af,af,Td am (M.grow G af af)]]) (λg9=>BY #[r-1,nb-1,2,_,0,G,af,af,Td am (M.grow G af af),L])
      .let bn:¬ na-r>0:=g2;let r0:r=na:=af;subst r0;let M2:=M.mB ub af eb λi h1 h2=>R1 i af;show vu (br eb ?_);show aZ (λg5=>BY #[L,.inl #[_,M2.first F ub ‹g5› ap,rfl]]) (λg5=>?_);let ba:¬ nb-1=1:=‹g5›;let#[qa,ea,ka]:=F.at (i:=r-1) af;show vu (br ea (vu (eF (base:=0) (n:=nb-1) (hint:=nb-1-1) aT ka (λi hi=>ub.at af) (sb.sub (Tp _) af) af λZ bm as aK=>?_)));let#[T1,T2]:=ue as aK;simp only[ZX]at T1 T2;let M3:=M2.BV ub (k:=Z) af λi j h1 h2 h3 h4=>UZ (sa i (r-1) (Tp _) af af) (T2 j h3 h4);show aZ (λg6=>?_) (λg6=>?_)
       .show aZ (λg7=>BY #[L,.inl #[_,M3.first F ub ‹g7› ap,rfl]]) (λg7=>?_);let be:¬ Z=1:=‹g7›;show aZ (λao=>BY #[L,.inl #[_,M3.done F ub (.inr ‹ao›),rfl]]) (λao=>?_);let bb:¬ Z=0:=‹ao›;show vu (br ea ?_);let G:=M3.iy F af ea λi h1 h2=>T6 (T1 i af);show aZ (λY=>BY #[L,.inl #[_,G.done F ub (.inl ‹Y›),rfl]]) (λY=>?_);let a0:¬ r-1=0:=‹Y›;show aZ (λg9=>BY #[L,.inr #[r-1,Z,2,_,0,G,af,af,Td am (M.grow G af af)]]) (λg9=>BY #[r-1,Z,2,_,0,G,af,af,Td am (M.grow G af af),L])
       .let bl:¬ nb-1-Z>0:=g6;let aB:Z=nb-1:=af;subst aB;show vu (br ea ?_);let G:=M2.iy F af ea λi h1 h2=>T6 (T1 i af);show aZ (λY=>BY #[L,.inl #[_,G.done F ub (.inl ‹Y›),rfl]]) (λY=>?_);let a0:¬ r-1=0:=‹Y›;show aZ (λg9=>BY #[L,.inr #[r-1,nb-1,2,_,0,G,af,af,Td am (M.grow G af af)]]) (λg9=>BY #[r-1,nb-1,2,_,0,G,af,af,Td am (M.grow G af af),L])
    .rintro c a3 ⟨na,nb,ad,a2,ac,bc,rfl,M,la,lb,am,K3⟩;show#[K3,.inr #[na,nb,ad,2,0,M,la,lb,am]]
    .show#[na,nb,U,2,0,M,la,lb,G0 _,K2]
    .rintro c a3 ⟨K3,⟨R,hR,e⟩|⟨na,nb,ad,a2,ac,bc,rfl,M,la,lb,am⟩⟩
     .let#[c1,c2]:=c;cases e;show BY #[R,hR,rfl,K3]
     .show vu (xK K3 λa5 L=>?_);show BY #[na,nb,ad,0,M,la,lb,af,L]
 .rintro c a1 ⟨na,nb,out,mg,rfl,M,la,lb,lo,K1⟩;exfalso;have:=M.sz;omega
 .show#[2,_,0,M0,af,af,G0 _,#[1,1]]
 .rintro c a1 ⟨R,hR,e,K1⟩;let#[c1,c2]:=c;cases e;show BY (h R a1 hR K1)
end
noncomputable def putAll(a:qAe)(o n:Nat)(l:List SR):Array SR:=(l.zipIdx n).foldl (λa (p,j)=>a.setIfInBounds (o+j) p) a
theorem jG(o:Nat):∀(l:List SR)(n:Nat)(a:qAe),o+n+l.length<=a.size->∀i,(putAll a o n l)[i]?=if o+n<=i/\i<o+n+l.length then l[i-(o+n)]? else a[i]?
 | [],n,a,_,i=>by
  rw[aa2 (by rw[Yt];omega)];rfl
 |p::l,n,a,h,i=>by
  rw[TH]at h;change(putAll (a.setIfInBounds (o+n) p) o (n+1) l)[i]?=_;rw[jG o l (n+1) _ (by rw[Array.size_setIfInBounds];omega),TH,Array.getElem?_setIfInBounds];cases c:o+(n+1)<=i/\i<o+(n+1)+l.length
  .rw[aa3 c,aa3 af,show i-(o+n)=(i-(o+(n+1)))+1 by omega];simp
  .rw[aa2 c];cases d:o+n=i
   .rw[aa3 d,aa3 (Nat.lt_of_add_right_lt h),aa3 af, <-d];simp
   .rw[aa2 d,aa2 af]
theorem uz{o:Nat}(h:o+l.length<=a.size):(putAll a o 0 l).toList=a.toList.take o++l++a.toList.drop (o+l.length):=by
 apply Ww;intro i;let e:=jG o l 0 a af i;rw[UX,e,Te];cases G:i<o
 .rw[aa2 af,SW (by rw[HC];simp;omega),UC];simp[G]
 .rw[SQ (by rw[HC];omega)];let F:(a.toList.take o).length=o:=(by rw[HC];simp;omega);rw[F];cases I:i<o+l.length
  .rw[aa3 af,SW af];rfl
  .rw[aa2 af,SQ af,UP,UX];congr 1;omega
theorem vj(h:i<hi-lo)(hs:hi<=a.size):K (a.extract lo hi) i=K a (lo+i):=by
 show K_congr ?_;rw[Array.getElem?_extract];rw[aa3 af]
theorem oA(hs:hi<=a.size):(a.extract lo hi).size=hi-lo:=by
 rw[Array.size_extract];omega
theorem CV(Y:a.Perm a₀)(k:Ks a₀)(hs:hi<=a.size)(h:lR a lo hi):Up (a.extract lo hi):=by
 show#[λp I=>k.ik p ((UJ.mp Y).mem_iff.mp ?_),TU.mpr λi j U qj ab=>?_]
 .rw[ix]at I;show UL (Ux I)
 .let sz:=oA (a:=a) (lo:=lo) hs;let Z:i<(a.extract lo hi).size:=(by rw[<-Uj];show U);let L:j<(a.extract lo hi).size:=(by rw[<-Uj];show qj);let G:=K_eq Z;let F:=K_eq L;rw[vj af hs]at G F;let z:=h (lo+i) (lo+j) af af af;rw[G,F]at z;simpa[le]using z
variable{mid:Nat}
theorem parts(h1:lo<=mid)(h2:mid<=hi):a.toList=a.toList.take lo++(seg a lo mid++seg a mid hi)++a.toList.drop hi:=by
 let F:=jc (a:=a) h1;let G:=jc (a:=a) h2;rw[<-Te, <-F, <-G,TR]
theorem yJ{R:qAe}(h1:lo<=mid)(h2:mid<=hi)(h3:hi<=a.size)(G:Good (a.extract lo mid) (a.extract mid hi) R) :
  R.size=hi-lo/\(putAll a lo 0 R.toList).Perm a/\(∀i,¬ (lo<=i/\i<hi)->(putAll a lo 0 R.toList)[i]?=a[i]?)/\lR (putAll a lo 0 R.toList) lo hi/\∀i,lo<=i->i<hi->∃j,lo<=j/\j<hi/\K (putAll a lo 0 R.toList) i=K a j:=by
 let#[I,g2]:=G;let sz:R.size=hi-lo:=by
  have:=I.length_eq;simp only[wh,Uj]at this;rw[oA (Td h2 h3),oA h3]at this;omega
 let hl:R.toList.length=hi-lo:=(by rw[Uj];show sz);let get:=jG lo R.toList 0 a af;let U:∀i,lo<=i->i<hi->∃(h:i-lo<R.size),K (putAll a lo 0 R.toList) i=SK.num (R[i-lo]).1:=λi ad ab=>by
  let am:i-lo<R.size:=af;show#[am,?_];let e:=get i;rw[aa3 af]at e;unfold K;rw[e,UX,Nat.add_zero,getElem?_pos R (i-lo) am]
 show#[sz,?_,λi hi=>?_,λi j hi ac Z=>?_,λi ad ab=>?_]
 .rw[UJ,uz af]
  conv=>rhs;rw[parts (a:=a) h1 h2]
  rw[hl,show lo+(hi-lo)=hi by omega];show UY _ (Vb _ ?_);rw[<-ix, <-ix];show I
 .rw[get i,aa2 af]
 .let#[a1,F]:=U i hi (We ac Z);let#[a2,e2]:=U j (Td hi ac) Z;rw[F,e2];cases z:i=j
  .subst z;show Vg _
  .have:=TU.mp g2 (i-lo) (j-lo) ‹a1› ‹a2› af;simpa[le]using this
 .let#[a1,F]:=U i ad ab;let hm:R[i-lo]∈(a.extract lo mid).toList++(a.extract mid hi).toList:=I.mem_iff.mp (by simp);rw[F];rcases SY.mp hm with z|z
  .rw[ix]at z;let#[j,Y,L,j3,e]:=mV z;show#[j,Y,Tz L h2,e]
  .rw[ix]at z;let#[j,Y,L,j3,e]:=mV z;show#[j,Td h1 Y,L,e]
structure KO(a₀:qAe)(st st':TZ)(i lo n:Nat)(pw:Nat):Prop where
 S:SI a₀ st'
 out:∀j,¬ (lo<=j/\j<lo+n)->(SX st')[j]?=(SX st)[j]?
 up:lR (SX st') lo (lo+n)
 pend:Tv st'=((Tv st).setIfInBounds i (lo,n,pw)).eraseIdxIfInBounds (i+1)
section
variable{prog:By}{w:R4}{A:Th}{E:qa2}{s:dM}[jD prog w A E s]{a₀:qAe}
theorem Jg{x:TZ}{Q:PUnit->TZ->Prop}(h:Q #[] x):wpS (model prog w) A E s (set x:StateT TZ WT PUnit) Q st:=by
 unfold wpS;rw[StateT.run_set];show wpAny_pure #[rfl,h]
theorem Cw{pw ao:Nat}{Q:Bool->TZ->Prop}(S:SI a₀ st)(k:Ks a₀)(h1:(Tv st)[i]?=some (F,na,pw))(h2:(Tv st)[i+1]?=some (F+na,nb,ao))(n1:1<=na)(n2:1<=nb)(hsz:F+na+nb<=a₀.size)
  (u1:lR (SX st) F (F+na)) (u2:lR (SX st) (F+na) (F+na+nb)) (h:∀ac,KO a₀ st ac i F (na+nb) pw->Q true ac):wpS (model prog w) A E s (mergeAt' i) Q st:=by
 show vu (VI ?_);let hs:=S.size;let ka:∀{j:Nat},j<(SX st).size->∃p,(SX st)[j]?=some p/\KV p (K (SX st) j):=λZ=>vZ S.perm k Z;rw[h1,h2];show vu (Jg ?_);let#[qb,eb,kb]:=ka (j:=F+na) af;show vu (br eb (vu (eF (base:=F) (n:=na) (hint:=0) S.kind kb (λi hi=>ka af) u1 af λr hr r1 r2=>?_)));let#[R1,R2]:=CL r1 r2;show aZ (λg=>?_) (λg=>?_)
 .let g':na-r=0:=‹g›;show BY (h _ #[#[S.perm,S.kind,S.failed],λ_ _=>rfl,λi j hi U Z=>?_,rfl]);change K (SX st) i<=K (SX st) j;cases c1:j<F+na
  .show u1 i j hi U c1
  .by_cases L:i<F+na
   .let Y:=R1 (i-F) af;rw[show F+(i-F)=i by show WS hi]at Y;show UZ Y (u2 (F+na) j (G0 _) (Ub c1) af)
   .show u2 i j (Ub L) U af
 let g':¬ na-r=0:=‹g›;let#[qa,ea,kA]:=ka (j:=F+r+(na-r)-1) af;show vu (br ea (vu (eF (base:=F+na) (n:=nb) (hint:=nb-1) S.kind kA (λi hi=>ka af) u2 (Nat.sub_one_lt_of_lt n2) λI ar ad am=>?_)));let#[T1,T2]:=ue ad am;show aZ (λg=>?_) (λg=>?_)
 .let ap:I=0:=‹g›;show BY (h _ #[#[S.perm,S.kind,S.failed],λ_ _=>rfl,λi j hi U Z=>?_,rfl]);change K (SX st) i<=K (SX st) j;cases c1:j<F+na
  .show u1 i j hi U c1
  .by_cases L:i<F+na
   .show UZ (u1 i (F+r+(na-r)-1) hi af af) (T2 j af af)
   .show u2 i j (Ub L) U af
 let g2:¬ I=0:=‹g›;let ux:Up ((SX st).extract (F+r) (F+na)):=CV S.perm k af λi j hi U Z=>u1 i j (U0 hi) U Z;let uy:Up ((SX st).extract (F+na) (F+na+I)):=CV S.perm k af λi j hi U Z=>u2 i j hi U af;let sx:((SX st).extract (F+r) (F+na)).size=na-r:=(by rw[oA af];show Nat.add_sub_add_left F na r);let sy:((SX st).extract (F+na) (F+na+I)).size=I:=(by rw[oA af];show YH (F+na) I);let x0:K ((SX st).extract (F+na) (F+na+I)) 0<K ((SX st).extract (F+r) (F+na)) 0:=by
  rw[vj af af,vj af af];show R2 (F+r) (G0 _) af
 let xl:∀j,j<((SX st).extract (F+na) (F+na+I)).size->K ((SX st).extract (F+na) (F+na+I)) j<K ((SX st).extract (F+r) (F+na)) (((SX st).extract (F+r) (F+na)).size-1):=λj Z=>by
  rw[vj af af,vj af af,sx,show F+r+(na-r-1)=F+r+(na-r)-1 by omega];show T1 j (VC Z sy)
 show aZ (λg=>?_) (λg=>?_)
 .show vu (vR S.kind ux uy (by rw[sx];show VA VD g') (by rw[sy];show VA VD g2) x0 xl λR stC G KC=>?_);let#[z1,z2,z3,z4,z5]:=yJ (a:=SX st) (lo:=F+r) (mid:=F+na) (hi:=F+na+I) (VA Wn hr) af af G;show vu (Vz (vu (VI (BY ?_))));let hf:V2 stC=none:=KC.failed.trans S.failed;let hc:SX stC=SX st:=KC.arr;change Q (V2 stC).isNone (Zw (kindOf stC) (putAll (SX stC) (F+r) 0 R.toList) (Tv stC) (gallopOf stC) (V2 stC));rw[hf,hc];show h _ #[#[z2.trans S.perm,KC.kind.trans S.kind,rfl],λj Z=>z3 j af,λi j hi U Z=>?_,KC.pend];change K (putAll (SX st) (F+r) 0 R.toList) i<=K (putAll (SX st) (F+r) 0 R.toList) j;let out:∀i,¬ (F+r<=i/\i<F+na+I)->K (putAll (SX st) (F+r) 0 R.toList) i=K (SX st) i:=λi hi=>K_congr (z3 i hi);cases c1:i<F+r
  .rw[out i af];let ab:∀j,F+r<=j->j<F+na+nb->K (SX st) i<=K (SX st) j:=λj h1 h2=>by
    cases c:j<F+na
    .show u1 i j hi af c
    .let Y:=R1 (i-F) (XN hi c1);rw[show F+(i-F)=i by show WS hi]at Y;show UZ Y (u2 (F+na) j (G0 _) (Ub c) h2)
   cases L:F+r<=j/\j<F+na+I
   .let#[j',q1,q2,e]:=z5 j L.1 L.2;rw[e];show ab j' q1 af
   .rw[out j L];cases c3:j<F+r
    .show u1 i j hi U af
    .show ab j (Ub c3) af
  .by_cases L:i<F+na+I
   .by_cases c3:j<F+na+I
    .show z4 i j (Ub c1) U c3
    .rw[out j (VA not_and λa=>c3)];let#[i',q1,q2,e]:=z5 i (Ub c1) L;rw[e];cases c4:i'<F+na
     .let Y:=T2 j (Ub c3) af;show UZ (u1 i' (F+r+(na-r)-1) (U0 q1) af af) Y
     .show u2 i' j (Ub c4) af af
   .rw[out i (VA not_and λa=>L),out j af];show u2 i j af U af
 .show vu (xB S.kind ux uy (by rw[sx];show VA VD g') (by rw[sy];show VA VD g2) x0 xl λR stC G KC=>?_);let#[z1,z2,z3,z4,z5]:=yJ (a:=SX st) (lo:=F+r) (mid:=F+na) (hi:=F+na+I) (VA Wn hr) af af G;show vu (Vz (vu (VI (BY ?_))));let hf:V2 stC=none:=KC.failed.trans S.failed;let hc:SX stC=SX st:=KC.arr;change Q (V2 stC).isNone (Zw (kindOf stC) (putAll (SX stC) (F+r) 0 R.toList) (Tv stC) (gallopOf stC) (V2 stC));rw[hf,hc];show h _ #[#[z2.trans S.perm,KC.kind.trans S.kind,rfl],λj Z=>z3 j af,λi j hi U Z=>?_,KC.pend];change K (putAll (SX st) (F+r) 0 R.toList) i<=K (putAll (SX st) (F+r) 0 R.toList) j;let out:∀i,¬ (F+r<=i/\i<F+na+I)->K (putAll (SX st) (F+r) 0 R.toList) i=K (SX st) i:=λi hi=>K_congr (z3 i hi);cases c1:i<F+r
  .rw[out i af];let ab:∀j,F+r<=j->j<F+na+nb->K (SX st) i<=K (SX st) j:=λj h1 h2=>by
    cases c:j<F+na
    .show u1 i j hi af c
    .let Y:=R1 (i-F) (XN hi c1);rw[show F+(i-F)=i by show WS hi]at Y;show UZ Y (u2 (F+na) j (G0 _) (Ub c) h2)
   cases L:F+r<=j/\j<F+na+I
   .let#[j',q1,q2,e]:=z5 j L.1 L.2;rw[e];show ab j' q1 af
   .rw[out j L];cases c3:j<F+r
    .show u1 i j hi U af
    .show ab j (Ub c3) af
  .by_cases L:i<F+na+I
   .by_cases c3:j<F+na+I
    .show z4 i j (Ub c1) U c3
    .rw[out j (VA not_and λa=>c3)];let#[i',q1,q2,e]:=z5 i (Ub c1) L;rw[e];cases c4:i'<F+na
     .let Y:=T2 j (Ub c3) af;show UZ (u1 i' (F+r+(na-r)-1) (U0 q1) af af) Y
     .show u2 i' j (Ub c4) af af
   .rw[out i (VA not_and λa=>L),out j af];show u2 i j af U af
end
def Chain(xs:qAe):Nat->List (Nat×Nat×Nat)->Nat->Prop
 |s,[],e=>s=e
 |s,(t,n,_)::r,e=>t=s/\1<=n/\lR xs s (s+n)/\Chain xs (s+n) r e
theorem Chain.le{xs:qAe}:∀{s:Nat}{l:List (Nat×Nat×Nat)}{e:Nat},Chain xs s l e->s+l.length<=e
 |s,[],e,h=>ZL h
 |s,(t,n,p)::r,e,⟨_,h2,_,F⟩=>by
  have:=Chain.le F;rw[TH];omega
theorem Chain.app{xs:qAe}:∀{s:Nat}{l l2:List (Nat×Nat×Nat)}{e:Nat},Chain xs s (l++l2) e↔∃m,Chain xs s l m/\Chain xs m l2 e
 |s,[],l2,e=>#[λh=>#[s,rfl,h],λ⟨m,h1,h2⟩=>by rw[show s=m from h1];show h2]
 |s,(t,n,p)::r,l2,e=>by
  constructor
  .rintro⟨h1,h2,I,L⟩;let#[m,F,G]:=Chain.app.mp L;show#[m,#[h1,h2,I,F],G]
  .rintro⟨m,⟨h1,h2,I,F⟩,G⟩;show#[h1,h2,I,Chain.app.mpr #[m,F,G]]
theorem lR.congr(h:lR xs lo hi)(e:∀i,lo<=i->i<hi->ys[i]?=xs[i]?):lR ys lo hi:=λi j hi G F=>by
 rw[K_congr (e i hi (We G F)),K_congr (e j (Td hi G) F)];show h i j hi G F
theorem Chain.congr:∀{s:Nat}{l:List (Nat×Nat×Nat)}{e:Nat},Chain xs s l e->(∀i,s<=i->i<e->ys[i]?=xs[i]?)->Chain ys s l e
 |s,[],e,h,_=>h
 |s,(t,n,p)::r,e,⟨h1,h2,G,F⟩,q=>by
  have:=Chain.le F;show#[h1,h2,G.congr λi a b=>q i a af,F.congr λi a b=>q i (U0 a) b]
structure RI(a₀:qAe)(st:TZ)(lo:Nat):Prop where
 S:SI a₀ st
 ch:Chain (SX st) 0 (Tv st).toList lo
 le:lo<=a₀.size
theorem JW{α:Type}{l:List α}(h:i+1<l.length):∃l1 x y l2,l=l1++x::y::l2/\l1.length=i:=by
 show#[l.take i,l[i],l[i+1],l.drop (i+2),4]
 .rw[<-UR af, <-UR (Wv h),TR]
 .rw[HC];omega
theorem qB{p:Array (Nat×Nat×Nat)}{l1 l2:List (Nat×Nat×Nat)}{x y z:Nat×Nat×Nat}(h:p.toList=l1++x::y::l2)(hi:l1.length=i):((p.setIfInBounds i z).eraseIdxIfInBounds (i+1)).toList=l1++z::l2:=by
 let#[l]:=p;subst h;subst hi;simp;rw[List.eraseIdx_append_of_length_le af];simp
theorem E4{c:Bool}(h:¬ n<=1):(if c=true then n-2-1 else n-2)+1<n:=by
 cases c
 .rw[aa2 az];omega
 .rw[aa3 rfl];omega
theorem wD{α F:Type}{l:List α}{f:α->α}{g:α->F}(h:∀x,g (f x)=g x):(l.modify i f).map g=l.map g:=by
 apply Ww;intro j;rw[M4,M4,List.getElem?_modify];cases l[j]? with
 |none=>rfl
 |some x =>
  cases c:i=j
  .simp[c,h]
  .simp[c]
theorem Chain.same:∀{s:Nat}{l F:List (Nat×Nat×Nat)}{e:Nat},Chain xs s l e->F.map (λx=>(x.1,x.2.1))=l.map (λx=>(x.1,x.2.1))->Chain xs s F e
 |s,[],F,e,h,q=>by
  cases F with
  |nil=>show h
  |cons x r=>cases q
 |s,(t,n,p)::r,F,e,⟨h1,h2,h3,Y⟩,q=>by
  cases F with
  |nil=>cases q
  |cons x r' =>
   let#[t',L,p']:=x;rw[T8,T8]at q;let#[U,Z]:=List.cons.inj q;let#[G,I]:=Prod.mk.inj U;let G:t'=t:=G;let I:L=n:=I;subst G;subst I;show#[h1,h2,h3,Y.same Z]
theorem RI.push{p:Nat}(R:RI a₀ st lo)(F:1<=n)(G:lo+n<=a₀.size)(u:lR (SX st) lo (lo+n)):RI a₀ (setPending st ((Tv st).push (lo,n,p))) (lo+n):=by
 show#[#[R.S.perm,R.S.kind,R.S.failed],?_,G];change Chain (SX st) 0 ((Tv st).push (lo,n,p)).toList (lo+n);rw[XW];show Chain.app.mpr #[lo,R.ch,rfl,F,u,rfl]
theorem RI.last(R:RI a₀ st lo){f:Nat×Nat×Nat->Nat×Nat×Nat}(F:∀x,((f x).1,(f x).2.1)=(x.1,x.2.1))(i:Nat):RI a₀ (setPending st ((Tv st).modify i f)) lo:=by
 show#[#[R.S.perm,R.S.kind,R.S.failed],?_,R.le];change Chain (SX st) 0 ((Tv st).modify i f).toList lo;show R.ch.same ?_;rw[Array.toList_modify];show wD F
section
variable{prog:By}{w:R4}{A:Th}{E:qa2}{s:dM}[jD prog w A E s]{a₀:qAe}
theorem jC{Q:Bool->TZ->Prop}(R:RI a₀ st lo)(k:Ks a₀)(hi:i+1<(Tv st).size)
  (h:∀G,RI a₀ G lo->(∀j,lo<=j->(SX G)[j]?=(SX st)[j]?)->(Tv G).size+1=(Tv st).size->Q true G):wpS (model prog w) A E s (mergeAt' i) Q st:=by
 let#[l1,x,y,l2,e,I]:=JW (l:=(Tv st).toList) (i:=i) ‹hi›;let#[F,na,L]:=x;let#[sb,nb,ab]:=y;let ch:=R.ch;rw[e]at ch;let#[m,c1,e1,U,u1,e2,n2,u2,Z]:=Chain.app.mp ch;subst e1;subst e2;let b1:=c1.le;let b2:=Z.le;let ac:=R.le;let g1:(Tv st)[i]?=some (F,na,L):=by
  rw[<-UX,e, <-I];simp
 let g2:(Tv st)[i+1]?=some (F+na,nb,ab):=by
  rw[<-UX,e, <-I];simp
 show Cw R.S k g1 g2 U n2 af u1 u2 λG M=>h G #[M.S,?_,R.le] (λj Y=>M.out j af) ?_
 .rw[M.pend,qB e I];show Chain.app.mpr #[F,c1.congr λj _ Y=>M.out j af,rfl,Nat.le_add_right_of_le U,M.up,?_];rw[show F+(na+nb)=F+na+nb by omega];show Z.congr λj Y _=>M.out j af
 .let p1:(Tv G).toList.length=(l1++(F,na+nb,L)::l2).length:=(by rw[M.pend,qB e I]);let p2:(Tv st).toList.length=(l1++(F,na,L)::(F+na,nb,ab)::l2).length:=(by rw[e]);simp only[Uj,wh,TH]at p1 p2;omega
theorem zd{Q:Unit->TZ->Prop}(k:Ks a₀)(S:SI a₀ st)(hp:Tv st = ([].toArray))(h2:2<=a₀.size)(h:∀Y,(SX Y).Perm a₀->V2 Y=none->SortedTo (SX Y) a₀.size->Q () Y):wpS (model prog w) A E s sortRuns' Q st:=by
 rw[sortRuns'_eq];show vu (VI ?_);let hsz:=S.size;let aK:(SX st).size=a₀.size:=hsz;dsimp only;rw[hsz];show vu (UM (T9 (I:=λx c Y=>∃lo,kZ (c=(none,lo)) (RI a₀ Y lo) (x<=lo)) (Q:=λc Y=>c=(none,a₀.size)/\RI a₀ Y a₀.size) ?_ ?_ ?_) ?_)
 .rintro x c a0 ao as ⟨lo,rfl,R,hx⟩;let ac:=R.le;show aZ (λg=>?_) (λg=>?_)
  .let g':a₀.size<=lo:=g;obtain rfl:lo=a₀.size:=af;show BY #[rfl,R]
  let g':¬ a₀.size<=lo:=g;show vu (CT R.S k (lo:=lo) (nrem:=a₀.size-lo) af af λm G C m1 m2 us=>?_);dsimp only;show aZ (λgm=>?_) (λgm=>?_)
  .show vu (WW (Wf #[3]));generalize hf:min (a₀.size-lo) (minRun' a₀.size a₀.size 0)=n;show vu (CA C.S k (lo:=lo) (n:=n) (ok:=m) af m1 af us λab C3 ad=>?_);let R3:RI a₀ ab lo:=#[C3.S,by
    rw[C3.pend,C.pend];show R.ch.congr λi _ hi=>(C3.pre i hi).trans (C.pre i hi),R.le]
   show vu (VI ?_);cases e:(Tv ab).back? with
   |none=>show vu (Vz (BY #[lo+n,rfl,R3.push af af ad,af]))
   |some t =>
    let#[s1,n1,p1]:=t;show vu (UM (T9 (I:=λy c F=>kZ (c=(none,())) (RI a₀ F lo) (∀j,lo<=j->(SX F)[j]?=(SX ab)[j]?)) (Q:=λc F=>kZ (c=(none,())) (RI a₀ F lo) (∀j,lo<=j->(SX F)[j]?=(SX ab)[j]?)) ?_ ?_ ?_) ?_)
    .rintro y c F am aB ⟨rfl,U,L⟩;show vu (VI ?_);cases g:(Tv F).size>1
     .rw[aa3 g,getElem?_pos (Tv F) ((Tv F).size-2) af];show aZ (λ_=>BY #[rfl,U,L]) (λ_=>?_);show vu (jC U k af λap R5 o5 _=>BY #[rfl,R5,λj Z=>(o5 j Z).trans (L j Z)])
     .rw[aa2 g];show BY #[rfl,U,L]
    .show λc F q=>q
    .show#[rfl,R3,λ_ _=>rfl]
    .rintro c F ⟨rfl,U,L⟩;show vu (Vz (vu (Vz (BY #[lo+n,3,af]))));show RI.push (U.last (f:=λx=>(x.fst,x.2.fst,power' a₀.size (2*s1+n1) (2*s1+n1+n1+n) a₀.size)) (λx=>rfl) _) af af (ad.congr λi h1 _=>L i h1)
  .let R3:RI a₀ G lo:=#[C.S,by
    rw[C.pend];show R.ch.congr λi _ hi=>C.pre i hi,R.le]
   show vu (VI ?_);cases e:(Tv G).back? with
   |none=>show vu (Vz (BY #[lo+m,rfl,R3.push af (Iff.mp (VB ac) m2) us,YX hx m1]))
   |some t =>
    let#[s1,n1,p1]:=t;show vu (UM (T9 (I:=λy c F=>kZ (c=(none,())) (RI a₀ F lo) (∀j,lo<=j->(SX F)[j]?=(SX G)[j]?)) (Q:=λc F=>kZ (c=(none,())) (RI a₀ F lo) (∀j,lo<=j->(SX F)[j]?=(SX G)[j]?)) ?_ ?_ ?_) ?_)
    .rintro y c F am aB ⟨rfl,U,L⟩;show vu (VI ?_);cases g:(Tv F).size>1
     .rw[aa3 g,getElem?_pos (Tv F) ((Tv F).size-2) af];show aZ (λ_=>BY #[rfl,U,L]) (λ_=>?_);show vu (jC U k af λap R5 o5 _=>BY #[rfl,R5,λj Z=>(o5 j Z).trans (L j Z)])
     .rw[aa2 g];show BY #[rfl,U,L]
    .show λc F q=>q
    .show#[rfl,R3,λ_ _=>rfl]
    .rintro c F ⟨rfl,U,L⟩;show vu (Vz (vu (Vz (BY #[lo+m,3,YX hx m1]))));show RI.push (U.last (f:=λx=>(x.fst,x.2.fst,power' a₀.size (2*s1+n1) (2*s1+n1+n1+m) a₀.size)) (λx=>rfl) _) af (Iff.mp (VB ac) m2) (us.congr λi h1 _=>L i h1)
 .rintro c Y ⟨lo,rfl,R,hx⟩;have:=R.le;obtain rfl:lo=a₀.size:=aaw this hx;show#[rfl,R]
 .show#[(0),rfl,#[S,by rw[hp];rfl,Tp _],G0 _]
 .rintro c Y ⟨rfl,R⟩;dsimp only;show vu (UM (T9 (I:=λx c G=>kZ (c=(none,())) (RI a₀ G a₀.size) ((Tv G).size+x<=a₀.size)) (Q:=λc G=>kZ (c=(none,())) (RI a₀ G a₀.size) ((Tv G).size<=1)) ?_ ?_ ?_) ?_)
  .rintro x c G ao as ⟨rfl,R2,ac⟩;show vu (VI ?_);show aZ (λg=>BY #[rfl,R2,g]) (λg=>?_);show vu (jC R2 k ?_ λab R3 _ aT=>?_)
   .show E4 g
   .show BY #[rfl,R3,af]
  .rintro c G ⟨rfl,R2,ac⟩;show#[rfl,R2,af]
  .show#[rfl,R,?_];have:=R.ch.le;simpa using this
  .rintro c G ⟨rfl,R2,ac⟩;show BY (h G R2.S.perm R2.S.failed ?_);let ch:=R2.ch;cases e:(Tv G).toList with
   |nil =>
    rw[e]at ch;have:0=a₀.size:=ch;omega
   |cons x r =>
    let hr:r=[]:=by
     let z:(Tv G).toList.length=r.length+1:=(by rw[e];rfl);rw[Uj]at z;show Ui.mp af
    subst hr;let#[t,n,p]:=x;rw[e]at ch;let#[_,_,u,e2]:=ch;let e3:0+n=a₀.size:=e2;rw[e3]at u;show λi j ar Z=>u i j (Tp _) ar Z
end
theorem AX{vs:qa6}(I:xs.Perm (VL vs))(hs:SortedTo xs (VL vs).size):(xs.map (·.2)).toList.Perm vs/\(xs.map (·.2)).toList.Pairwise λx y=>SK.num x<=SK.num y:=by
 let G:xs.toList.Perm (vs.zip vs):=(by have:=UJ.mp I;(rw[VN]at this;assumption));let L:∀p∈xs.toList,p.1=p.2:=λp h=>by
  let#[i,hi,e]:=Vh.mp (G.mem_iff.mp h);rw[List.getElem_zip]at e;rw[<-e]
 rw[Array.toList_map];constructor
 .have:=G.map (·.2)
  (rw[List.map_snd_zip (G0 _)]at this;assumption)
 .rw[Wx,TU];intro i j hi F U;rw[Uj]at hi F;have:=hs i j (aaG U) (by rw[<-I.size_eq];show F);rw[K_eq hi,K_eq F]at this;rw[<-L _ (UA _), <-L _ (UA _)];show this
noncomputable def kR(s:dM)(a:Addr)(vs:qa6):dM:={ s with heap:=((s.heap.update a (Obj.mapSeq λ_ => ([].toArray))).push (seqObj "tuple" vs.toArray 0)).push (seqObj "list" ([].toArray) 0) }
theorem nW{prog:By}{w:R4}{A:Th}{E:qa2}{s:dM}{a:Addr}{vs:qa6}{n:Nat}{P:Fin->dM->Prop}(U:s.heap.get? a=some (seqObj "list" vs.toArray n))(hz:vs.length<=1000)(k1:Ks (VL vs))(hL:jD prog w A E (kR s a vs))(hK:2<=vs.length->∀Q:aaM->dM->Prop,Q SK.kd (kR s a vs)->wpAny (model prog w) A (keyKind' vs.toArray) Q E (kR s a vs))
  (k:∀out:Array Value,out.toList.Perm vs->(out.toList.Pairwise λx y=>SK.num x<=SK.num y)->P (.done (.ret .none)) { s with heap:=sortedHeap s.heap a vs out }):wpAny (model prog w) A (Builtin.«list.sort» #[[.ref a],[]]) P E s:=by
 let lz:sizeLine=16777216:=y1;rw[list_sort_plain];let lt:=Heap.lt_size U;show ti (listItems_at U rfl (ti (Zm U rfl ?_ (by simp only[S9];omega))));obtain⟨ep,Z⟩:∃ep,(s.heap.update a (Obj.mapSeq λ_ => ([].toArray))).get? a=some (seqObj "list" ([].toArray) ep):=#[_,get?_update_seq U λ_ => ([].toArray)];show ti (aaq Z rfl (ti (wpAny_newTuple (ti (Zn (U1 ?_))))));let L:(kR s a vs).heap.get? a=some (seqObj "list" ([].toArray) ep):=by
  let l1:a<((s.heap.update a (Obj.mapSeq λ_ => ([].toArray))).push (seqObj "tuple" vs.toArray 0)).objs.size:=(by rw[WK,Heap.size_update];show XZ lt);unfold kR;rw[Heap.get?_push_ne _ _ _ (Ul l1),Heap.get?_push_ne _ _ _ (by rw[Heap.size_update];show Ul lt)];show Z
 let done:∀F:TZ,(SX F).Perm (VL vs)->SortedTo (SX F) (VL vs).size->P (.done (.ret .none)) { s with heap:=sortedHeap s.heap a vs ((SX F).map (·.2)) }:=λF G I=>k _ (AX G I).1 (AX G I).2;change wpAny (model prog w) A _ P E (kR s a vs);dsimp only;cases two:vs.toArray.size<2
 .rw[aa3 two,aa3 two];show ti (wpAny_pure ?_);rw[StateT.run_pure];show ti (wpAny_pure (ti (aaq L rfl (ti (Zm L rfl ?_ (Tp _) ?_)))))
  .simp only[bne_self_eq_false,U9,if_false];show wpAny_pure (done (Zw general' (vs.toArray.zip vs.toArray) ([].toArray) 7 none) (aax _) λi j ab hj=>?_);rw[Yu]at hj;rw[S9]at two;rw[show i=j by omega];show Vg _
  .change(Array.map (λx:SR=>x.2) (vs.toArray.zip vs.toArray)).size<=sizeLine+1;rw[aaP];change(VL vs).size<=sizeLine+1;rw[Yu];omega
 .rw[aa2 two,aa2 two];rw[S9]at two;let sr:=zd (prog:=prog) (w:=w) (A:=A) (E:=E) (s:=kR s a vs) k1
   (st:=Zw SK.kd (VL vs) ([].toArray) 7 none) (Q:=λ_ F=>kZ ((SX F).Perm (VL vs)) (V2 F=none) (SortedTo (SX F) (VL vs).size)) #[aax _,1] rfl (by rw[Yu];omega) λF G I Y=>#[G,I,Y]
  show ti (hK af _ (ti (TY sr ?_ λ_ _ e=>e)));rintro⟨⟨⟩,F⟩ s' ⟨rfl,G,I,Y⟩;dsimp only;show ti (aaq L rfl (ti (Zm L rfl ?_ (Tp _) ?_)))
  .rw[I];simp only[bne_self_eq_false,U9,if_false];show wpAny_pure (done F G Y)
  .change(Array.map (λx:SR=>x.2) (SX F)).size<=sizeLine+1;rw[aaP,G.size_eq,Yu];omega
noncomputable def HD(s:dM)(vs:qa6):dM:={ s with heap:=((s.heap.push (seqObj "list" ([].toArray) 0)).update s⁻¹ (Obj.mapSeq (· ++ vs.toArray))).push (seqObj "list" vs.toArray 0) }
theorem mh{prog:By}{w:R4}{A:Th}{E:qa2}{s:dM}{l:Addr}{vs:qa6}{Q:qa2}(I:s.heap.IsList l vs.toArray)(L:vs.length<=1000)(k1:Ks (VL vs))(Z:∀A,jD prog w A E (kR (HD s vs) (s⁻¹+1) vs))(U:2<=vs.length->∀(A:Th)(Q:aaM->dM->Prop),Q SK.kd (kR (HD s vs) (s⁻¹+1) vs)->wpAny (model prog w) A (keyKind' vs.toArray) Q E (kR (HD s vs) (s⁻¹+1) vs))
  (k:∀out:Array Value,out.toList.Perm vs->(out.toList.Pairwise λx y=>SK.num x<=SK.num y)->Q (.ref (s⁻¹+1)) { s with heap:=sortedAll s.heap vs out }):wpAny (model prog w) A (call (.builtin "sorted") [.ref l]) Q E s:=by
 let lz:sizeLine=16777216:=y1;show Calls.call_function_entry kind_sorted plain_sorted entry_sorted (args_sorted1 _) ?_;show ti (m:=checkCount "sorted" 1 1 _) (wpAny_pure (ti (collect_list I (ti (Zn ?_)) af)));let G:((s.heap.push (seqObj "list" ([].toArray) 0)).update s⁻¹ (Obj.mapSeq (· ++ vs.toArray))).objs.size=s⁻¹+1:=(by rw[Heap.size_update,WK]);let F:=Heap.get?_push_size ((s.heap.push (seqObj "list" ([].toArray) 0)).update s⁻¹ (Obj.mapSeq (· ++ vs.toArray))) (o:=seqObj "list" vs.toArray 0) rfl;rw[G]at F;change wpAny _ _ _ _ _ (HD s vs);rw[G];show ti (U1 (VW slot_list_sort #[_,F,rfl] entry_list_sort (nW (s:=HD s vs) F L k1 (Z _) (λh Q=>U h _ Q) λout Y w2=>#[0,wpAny_pure #[0,k out Y w2]]) (args_list_sort _)))
end
@[reducible] def MG:SK:=#[numOf,λv=>∃n t,v=.int n t,ZY]
theorem ltI(prog:By)(w:R4)(A:Th)(E:qa2)(s:dM):@jD MG prog w A E s:=@jD.mk MG _ _ _ _ _ λ{st x y Q} hk G F h=>by
 let#[a,t,G]:=G;let#[b,u,F]:=F;rw[lt'_eq];show vu (VI ?_);rw[hk];change wpS _ _ _ _ (liftM (aar (keyLt' ZY x.1 y.1))>>=_) _ _;rw[keyLt'_oneType,G,F];rw[G,F]at h;show vu (WW (V3 (oneLt_int #[rfl,BY h])))
variable{vs:qa6}{ns:qAa}
theorem LU(F:Vp vs ns)(G:ns.Nodup):@Ks MG (VL vs):=by
 show @Ks.mk MG _ (λp I=>F.intKeys p I) ?_;change((VL vs).toList.map λp=>numOf p.1).Nodup;let e:((VL vs).toList.map λp=>numOf p.1)=ns:=by
  rw[VN, <-F.nums]
  conv=>rhs;rw[<-Yb (l₁:=vs) (l₂:=vs) (G0 _)]
  rw[VM];rfl
 rw[e];show G
theorem ints_map:∀{vs:qa6},(∀v∈vs,∃n t,v=Value.int n t)->Vp vs (vs.map numOf)
 | [],_=>.nil
 |v::vs,h=>by
  let#[n,t,rfl]:=h v Tf;show .cons n t (ints_map λu F=>h u (S0 _ F))
theorem uk:∀{vs:qa6}{ns:qAa},Vp vs ns->∀v∈vs,∃n t,v=Value.int n t
 |_,_,.nil,v,h=>by cases h
 |_,_,.cons n t r,v,h=>by
  rcases Ti.mp h with rfl|h
  .show#[n,t,rfl]
  .show uk r v h
variable{prog:By}{w:R4}{A:Th}{E:qa2}{s:dM}
theorem y3(F:Vp vs ns)(h2:2<=vs.length){Q:aaM->dM->Prop}(q:Q ZY s):wpAny (model prog w) A (keyKind' vs.toArray) Q E s:=by
 match vs,h2,F with
 | [],h2,_=>show absurd h2 az
 | [_],h2,_=>show absurd h2 (by rw[Tj];decide)
 |I::v2::G,_,F=>rw[keyKind_ints F];show wpAny_pure q
theorem DX(G:Vp vs ns){out:qa6}(I:out.Perm vs)(hs:out.Pairwise λx y=>numOf x<=numOf y):∃F,Vp out F/\F.Perm ns/\F.Pairwise (· <= ·):=
 #[_,ints_map λv h=>uk G v (I.mem_iff.mp h),by rw[<-G.nums];show I.map _,Wx.mpr hs]
theorem zL{a:Addr}{n:Nat}{P:Fin->dM->Prop}(I:s.heap.get? a=some (seqObj "list" vs.toArray n))(G:Vp vs ns)(U:ns.Nodup)(L:vs.length<=1000)
  (k:∀(out:qa5)(F:qAa),Vp out.toList F->F.Perm ns->F.Pairwise (· <= ·)->P (.done (.ret .none)) { s with heap:=sortedHeap s.heap a vs out }):wpAny (model prog w) A (Builtin.«list.sort» #[[.ref a],[]]) P E s :=
 @nW MG prog w A E s a vs n P I L (LU G U) (ltI ..) (λh2 Q q=>y3 G h2 q) λout Y w2=>by
  let#[F,z1,z2,Z]:=DX G Y w2;show k out F z1 z2 Z
end Srt
namespace L2
open PySem PySem.Spec PyProof.Rows
noncomputable def nI(X:Cx)(F:qAb)(scope:Xt)(cl:List (Str×Addr))(C:Addr)(s₀:dM)(H₀:Hp)(ex:qAc):Cx where
 prog:=X.prog
 w:=X.w
 K:=X.K
 mg:=X.mg
 base:=X.base
 A:=X.A
 N:=F
 s₀:=s₀
 H₀:=H₀
 env:=aaQ scope cl C X.env
 outer:=X.stack
 stack:=X.stack
 ex:=ex
 fn:=λ_=>false
 calm:=X.calm
 pn:=[]
 xe:=λ_ _=>False
def vV(t:Str)(caps:List (Str×Nat)):List Str:=t::caps.map (·.1)
noncomputable def mL(caps:List (Str×Nat))(σ:St)(v:Option V):St:=v::caps.map λp=>(σ[p.2]?).join
noncomputable def fK(ts:qAb)(caps:List (Str×Nat)):List Str:=ts++caps.map (·.1)
noncomputable def pI(caps:List (Str×Nat))(σ vs:St):St:=vs++caps.map λp=>(σ[p.2]?).join
structure sC(X:Cx)(scope:Xt)(cl:List (Str×Addr))(ts:qAb)(caps:List (Str×Nat)):Prop where
 kind:scope.kind=.function
 wL:∀y∈scope.names,y.2≠.cell
 names:∀y∈scope.names,y.2=.local->scope.names.lookup y.1=some .local
 CO:closureFor scope X.env=pure cl
 sub:∀p∈cl,X.env.cells.lookup p.1=some p.2
 has:((relabel scope X.env).names.all λy => !(y.2 == .cell||y.2 == .free)||(cl.lookup y.1).isSome)=true
 Qk:∀p∈caps,X.N[p.2]?=some p.1/\(X.env.kindOf p.1=some .cell\/X.env.kindOf p.1=some .free)/\((relabel scope X.env).names.lookup p.1=some .cell\/(relabel scope X.env).names.lookup p.1=some .free)
 nd:(fK ts caps).Nodup
structure vw(X:Cx)(scope:Xt)(cl:List (Str×Addr))(t:Str)(caps:List (Str×Nat)):Prop where
 kind:scope.kind=.function
 wL:∀y∈scope.names,y.2≠.cell
 names:∀y∈scope.names,y.2=.local->scope.names.lookup y.1=some .local
 Sf:scope.names.lookup t=some .local
 CO:closureFor scope X.env=pure cl
 sub:∀p∈cl,X.env.cells.lookup p.1=some p.2
 has:((relabel scope X.env).names.all λy => !(y.2 == .cell||y.2 == .free)||(cl.lookup y.1).isSome)=true
 Qk:∀p∈caps,X.N[p.2]?=some p.1/\(X.env.kindOf p.1=some .cell\/X.env.kindOf p.1=some .free)/\((relabel scope X.env).names.lookup p.1=some .cell\/(relabel scope X.env).names.lookup p.1=some .free)
 nd:(vV t caps).Nodup
variable{X:Cx}{scope:Xt}{cl:List (Str×Addr)}{ts:qAb}{caps:List (Str×Nat)}{x:Str}
theorem sC.look(K:sC X scope cl ts caps){c:Addr}(h:cl.lookup x=some c):X.env.cells.lookup x=some c:=K.sub (x,c) (UK h)
theorem sC.hs(K:sC X scope cl ts caps)(h:(relabel scope X.env).names.lookup x=some .cell\/(relabel scope X.env).names.lookup x=some .free):∃c,cl.lookup x=some c:=by
 let F:∀k,(relabel scope X.env).names.lookup x=some k->(k==NameKind.cell||k==NameKind.free)=true->∃c,cl.lookup x=some c:=λk e hk=>by
  have:=U6.mp K.has (x,k) (UK e);dsimp only at this;rw[hk]at this;show Vm.mp ‹this›
 rcases h with h|h
 .show F _ h rfl
 .show F _ h rfl
variable{pins:qa1}{σ:St}{H:Hp}{s:dM}{C:Addr}{fp:qAc}
theorem Se(I: ~~~H s)(K:sC X scope cl ts caps)(G:∀b∈fp,gA X pins H b)(Y:∀b∈fp,b<s⁻¹)(L:s⁻¹<=C):(nI X (fK ts caps) scope cl C s H fp).Ok where
 mod:=I.ok.mod
 kind:=K.kind
 glob:=I.ok.glob
 blt:=I.ok.blt
 above:=L
 inj:=λx y c h1 h2=>I.ok.inj x y c (K.look h1) (K.look h2)
 has:=λx U=>K.hs U
 Jy:=λx c h=>nomatch (show false=true from h)
 hd:=I.ok.hd
 frames:=I.ok.frames
 Lq:=.inl rfl
 Of:=λb F=>#[Ul (Tz (Y b F) L),λx c e=>(G b F).2.2.2.2.1 x c (K.look e)]
 bs:=I.bs
 AM:=Td I.ok.AM I.sz
 wz:=λb o e F=>by
  rcases(G b F).2.2.2.1 with z|z
  .show I.ok.wz b o e z
  .show absurd (Tz (Heap.lt_size e) (Td I.ok.AM z)) (Wi _)
 xD:=λb F Z=>by
  rcases Ti.mp (I.rG b Z)with e|e
  .show(G b F).2.1 e
  .show(G b F).2.2.1 e
 jN:=I.stack
 Fi:=I.tf
theorem Rf{h₁:Heap}{m:qa3}{tk:Nat}(I: ~~~H s)(K:sC X scope cl ts caps)(hf:∀b∈fp,gA X pins H b)(ho:∀b∈fp,b<s⁻¹)(Y:s⁻¹<=C)
  (old:∀b o,s.heap.get? b=some o->h₁.get? b=some o) (ns:h₁.Ns C m):Inv (nI X (fK ts caps) scope cl C s H fp) [] (pI caps σ (ts.map λ_=>none)) H { s with heap:=h₁,toks:=tk }:=by
 let Z:∀c v,s.heap.IsCell c v->h₁.IsCell c v:=λc v am=>(by let#[o,e,d]:=am;show#[o,old c o e,d]);show#[Se I K hf ho Y,rfl,I.bare,Un.kept old,#[m,ns,λi x v e1 e2 e3=>?_],λx c e=>?_,I.bC.fresh Y,λx c e=>I.fJ x c (K.look e),λp L=>absurd (show p∈([]:qa1)from L) (by simp),I.bC.kept old,by simp[pI,fK,nI]]
 .let ln:(ts.map λ_=>(none:Option V)).length=ts.length:=rz ..;let F:(ts.map (λ_=>(none:Option V))++caps.map λp=>(σ[p.2]?).join)[i]?=some (some v):=e2;rcases Nat.lt_or_ge i ts.length with hi|hi
  .rw[SW (by rw[ln];show hi),M4]at F;let#[_,_,z]:=SV.mp F;cases z
  .let G:(ts++caps.map (·.1))[i]?=some x:=e1;rw[SQ hi,M4]at G;rw[SQ (by rw[ln];show hi),M4,ln]at F;generalize i-ts.length=j at G F;cases L:caps[j]? with
   |none=>rwa[L]at G
   |some p =>
    rw[L]at G F;let ex:p.1=x:=SN G;let U:(σ[p.2]?).join=some v:=SN F;let ap:σ[p.2]?=some (some v):=by
     cases q:σ[p.2]? with
     |none=>rwa[q]at U
     |some z=>rw[q]at U;show congrArg some U
    let#[hN,hk,ac]:=K.Qk p (SO L);subst ex;let#[m',_,hl]:=I.loc;let ad:NG X.env.scope p.1:=by
     rcases hk with z|z
     .show .inr (.inl z)
     .show .inr (.inr z)
    let#[u,r,l]:=hl p.2 p.1 v hN ap ad;let#[c,hc]:=K.hs ac;rcases l with⟨z,_⟩|⟨_,c',ab,ao⟩
    .rcases hk with y|y<;>(rwa[y]at z)
    .rw[K.look hc]at ab;cases ab;show#[u,r,.inr #[ac,c,hc,Z c _ ao]]
 .let#[v,z]:=I.cell x c (K.look e);show#[v,Z c v z]
theorem vw.g{t:Str}(K:vw X scope cl t caps):sC X scope cl [t] caps:=#[K.kind,K.wL,K.names,K.CO,K.sub,K.has,K.Qk,K.nd]
variable{n:Nat}
theorem Inv.MU{D:Addr}{ys:qAh}{its:qa6}(I: ~~~H s)(f:gA X pins H D)(e:s.heap.get? D=some { cls:=.type "list",data:=.seq its.toArray n })(r:Vals ys its)(hz:ys.length<=sizeLine) :
  ~~~(upd H D (.lst ys)) s:=by
 let#[G,f1,f2,Y,Z,f5]:=f;let#[U,g,d,tk,os]:=s;show I.step (g':=g) (d':=d) (t':=tk) (h':=U) (ch:=[D]) (λb F=>?_) (λb o _ _ _ e _=>e) (λb o _ _ _ e _=>#[o.slots,e]) (λb o F _ n=>?_) (λb o _ e=>#[o,e]) (λb xs q=>?_) (λb o u q=>?_) (λb ps q=>#[([].toArray),?_]) (λm L=>L) (λb u q=>?_) I.bare
 .let z:b=D:=‹F›;subst z;show#[Y,f1,Z,f5]
 .rw[au (λz=>F (by simp[z]))];show n
 .rw[au (aV q G)];show q
 .rw[au (aV q G)];show q
 .rw[au (aV q G),q];simp
 .by_cases F:b=D
  .subst F;rwa[ag]at q;show#[hz,its,n,r,e]
  .rw[au F]at q;show(I.bC b u q).gD (λ_ _ _ z=>z) (λc z=>by rw[au (aV z G)];show z) λc xs z=>by rw[au (aV z G)];show z
def Ld(X:Cx)(ifs:qAf)(t:TT):Prop :=
 ∀(pins:qa1)(s:dM)(σ:St)(H:Hp)(Q:Bool->Hp->Prop),~~~H s->t σ H Q ->
  ↑(forIn ifs true λc r=>if r=true then do let ok <-isTrue c X.env (eval c X.env);pure (aay ok)else pure (aay r)) (TP X pins σ Q) X.xe s
def vk:TT:=λ_ H Q=>Q true H
theorem eM:Ld X [] vk:=λ_ _ _ H _ I h=>wpAny_tests_nil #[H,I,h]
theorem iq{c:Tr}{t:TT}(h:PT X c t):Ld X [c] t:=λpins s σ H Q I q=>wpAny_tests_one (h pins s σ H Q I q)
noncomputable def Hx(n:Nat)(caps:List (Str×Nat))(g:TG)(tt:TT)(te:TE)(σ:St)(J:It)(Q:List V->Hp->Prop)(W:Nat->Nat->List V->Hp->Prop):Prop :=
 ∀i m ys H,W i m ys H->(J.stop i H/\Q ys H)\/(J.go i H/\∃N:List V->Hp->Prop,(∀G H',N G H'->∃m',m'<m/\W (i+1) m' G H')/\∀x H',J.Ee i H x H'->∀vs:St,vs.length=n->g x (pI caps σ vs) H' λF H1=>∃us:St,us.length=n/\F=pI caps σ us/\tt F H1 λc H2 =>
  if c=true then te F H2 (λy I=>ys.length<sizeLine/\N (ys++[y]) I)else N ys H2)
def j8(caps:List (Str×Nat))(tt:TT)(te:TE)(σ:St)(J:It)(Q:List V->Hp->Prop)(W:Nat->Nat->List V->Hp->Prop):Prop :=
 ∀i m ys H,W i m ys H->(J.stop i H/\Q ys H)\/(J.go i H/\∃N:List V->Hp->Prop,(∀F H',N F H'->∃m',m'<m/\W (i+1) m' F H')/\∀x H',J.Ee i H x H'->tt (mL caps σ (some x)) H' λb H2 =>
  if b=true then te (mL caps σ (some x)) H2 (λy G=>ys.length<sizeLine/\N (ys++[y]) G)else N ys H2)
def HV(caps:List (Str×Nat))(wi:TI)(tt:TT)(te:TE):TE:=λσ H Q=>wi σ H λJ H1 =>
 ∃W:Nat->Nat->List V->Hp->Prop,(∃m,W 0 m [] H1)/\j8 caps tt te σ J (λys H2=>∀p,H2 p=none->Q (.ref p) (upd H2 p (.lst ys))) W
section
variable{ts:qAb}{tg:Tr}{g:TG}
theorem mv{elt iter:Tr}{ifs:qAf}{pos:Vw}{tt:TT}{te:TE}{J:It}{it:Addr}{tn:Nat->Heap->Prop}{W:Nat->Nat->List V->Hp->Prop}{QE:List V->Hp->Prop}{E:qa2}{RR:Value->Addr->Result->dM->Prop}{m0:Nat}
  (K:sC X scope cl ts caps) (hc:X.calm=true)
  (bY:∀C s₀ H₀ ex,PG (nI X (fK ts caps) scope cl C s₀ H₀ ex) tg g)
  (ht:∀C s₀ H₀ ex,Ld (nI X (fK ts caps) scope cl C s₀ H₀ ex) ifs tt) (he:∀C s₀ H₀ ex,PE (nI X (fK ts caps) scope cl C s₀ H₀ ex) elt te)
  (I: ~~~H s) (T:Turn X.prog X.w X.K tg J fp it tn) (st:tn 0 s.heap) (Z:∀b∈fp,gA X pins H b) (w0:W 0 m0 [] H) (hW:Hx ts.length caps g tt te σ J QE W)
  (fin:∀D C ys H' s' m,H' D=none->~~~(upd H' D (.lst ys)) s'->s'.heap.Ns C m->gA X pins (upd H' D (.lst ys)) C->QE ys H'->RR (.ref D) C (.ok .next) s') :
  ↑(newList []) (λbb ac=>↑(newFunctionEnv scope X.env.globals cl [] X.env.qual none .none (some X.env)) (λa0 bF =>
   Xl (model X.prog X.w) X.A (.compStart (.ListComp elt [#[tg,iter,ifs,(0)]] scope pos) 0 (.ref it) bb { a0 with scope:=relabel scope X.env }) (RR bb a0.locals) bF) E ac) E s:=by
 show X0 (wpAny_newFunctionEnv K.wL (by intro y hy;simp at hy) (λh₁ as am=>?_) K.kind);dsimp only at as am ⊢;generalize ar:s.heap.push { cls:=.type "list",dict:=none,data:=.seq ([]:qa6).toArray }=H2 at as am ⊢;let hC:H2.objs.size=s⁻¹+1:=(by rw[<-ar,Heap.size_push]);let ad:s⁻¹≠H2.objs.size:=(by rw[hC];show Ul (WE _));let ap:s⁻¹<=H2.objs.size:=(by rw[hC];show Zb _);let below:∀b,b<s⁻¹->b≠H2.objs.size:=λb G=>(by rw[hC];show Ul (XZ G));let old:∀b o,s.heap.get? b=some o->h₁.get? b=some o:=λb o e=>am.extBut b o (below b (Heap.lt_size e)) (Heap.get?_push_of_some _ (ar▸Heap.get?_push_of_some _ e));let b1:h₁.get? s⁻¹=some { cls:=.type "list",data:=.seq ([]:qa6).toArray }:=am.extBut _ _ ad (Heap.get?_push_of_some _ (ar▸Heap.get?_push_size _ rfl));let ho:∀b∈fp,b<s⁻¹:=λb G=>let ⟨_,e,_⟩:=T.obj 0 _ st b G;Heap.lt_size e;let a5:s⁻¹∉fp:=λhm=>Wi _ (ho _ hm);let a6:tn 0 h₁:=T.keep 0 _ _ st λb _ o e=>old b o e;let bv:s⁻¹∉p7 X.stack:=λz=>by
  rcases Ti.mp (I.rG _ z)with e|e
  .show absurd (e▸I.lt) (Wi _)
  .show I.NN (G0 _) e
 let bR:∀x c,cl.lookup x=some c->c≠s⁻¹:=λx c e z=>by
  let#[v,q]:=I.cell x c (K.look e);show absurd (z▸q.lt) (Wi _)
 let aK:∀{pl:qa1}{L:Hp},(∀b∈fp,L b=none)->(∀p∈pl,p.1∉fp)->∀b∈fp,gA (nI X (fK ts caps) scope cl H2.objs.size s H fp) pl L b:=λ{pl L} hn Y b G =>
  #[hn b G,below b (ho b G),(Se I K Z ho ap).xD b G,.inl G,λx c e=>(Z b G).2.2.2.2.1 x c (K.look e),λp bW z=>by
   let bx:p∈pl:=bW;show Y p bx (z▸G)]
 let be:∀ac:dM,ac={ s with heap:=h₁,toks:=s.toks+([]:List (Str×Value)).length } ->
   Xl (model X.prog X.w) X.A (.compLoop (.ListComp elt [#[tg,iter,ifs,(0)]] scope pos) 0 (.ref it) (.ref s⁻¹) (aaQ scope cl H2.objs.size X.env)) (RR (.ref s⁻¹) H2.objs.size) ac:=by
  rintro ac rfl;show codeAny_loop rfl (λn s'=>∃i ys its nn L vs,vs.length=ts.length/\Inv (nI X (fK ts caps) scope cl H2.objs.size s H fp) [] (pI caps σ vs) L s'/\tn i s'.heap/\(∀b∈fp,L b=none)/\L s⁻¹=none /\
   s'.heap.get? s⁻¹=some { cls:=.type "list",data:=.seq its.toArray nn }/\Vals ys its/\ys.length<=sizeLine/\W i n ys L) (λn s' hI=>?_) m0
   #[(0),[],[],(0),H,_,rz ..,Rf I K Z ho ap old as,a6,λb G=>(Z b G).1,I.bC.fresh (G0 _),b1,.nil,Tp _,w0]
  let#[i,ys,its,nn,L,vs,lv,I3,bi,ba,aT,e3,r3,z3,w3]:=hI;change wpAny _ X.A ((compTurn (.ListComp elt [#[tg,iter,ifs,(0)]] scope pos) 0 (.ref it) (.ref s⁻¹) (aaQ scope cl H2.objs.size X.env)).onRaise (λx=>do noteFrame x (aaQ scope cl H2.objs.size X.env);theTreesLotGoes x)) _ _ s';show wpAny_noted ?_;rw[compTurn_list];let bc:Inv (nI X (fK ts caps) scope cl H2.objs.size s H fp) [(s⁻¹, { cls:=.type "list",data:=.seq its.toArray nn })] (pI caps σ vs) L s':=I3.mX λp Y=>by
   let ep:p=(s⁻¹, { cls:=.type "list",data:=.seq its.toArray nn }):=‹Y›;subst ep;show#[e3,aT,ad,bv,λv z=>by cases(show Data.seq its.toArray nn=Data.cell v from z)]
  let pD:∀p∈[((s⁻¹:Addr),({ cls:=.type "list",data:=.seq its.toArray nn }:Obj))],p.1∉fp:=λp Y=>by
   let ep:p=(s⁻¹, { cls:=.type "list",data:=.seq its.toArray nn }):=‹Y›;subst ep;show a5
  rcases hW i n ys L w3 with⟨b2,q⟩|⟨go,N,hN,step⟩
  .show ti (X4 (ti (bO (T.done (nI X (fK ts caps) scope cl H2.objs.size s H fp) rfl rfl rfl hc i _ s' _ L _ bc (aK ba pD) bi b2) λr s4 b4=>?_)));let#[hr,I4]:=b4;subst hr;show wpAny_pure ?_;let I5: ~~~L s4:=I.C8 (ch:=fp) I4.os I4.base I4.bC I4.bare λb G=>#[(Z b G).2.2.2.1,(Z b G).2.1,(Z b G).2.2.2.2.1,(Z b G).2.2.2.2.2];let e4:=(I4.pin _ (L3 _ Tf)).1;let fD:gA X pins L s⁻¹:=I.pJ (G0 _) aT;let I6:=I5.MU fD e4 r3 z3;let#[m,hn,_]:=I4.loc;show fin _ _ ys L s4 m aT I6 hn (I.pJ ap ?_) q;rw[au (Ne.symm ad)];show I4.free
  .show ti (X4 (ti (bO (T.item (nI X (fK ts caps) scope cl H2.objs.size s H fp) rfl rfl rfl hc i _ s' _ L _ bc (aK ba pD) bi go) λr s4 b0=>?_)));let#[u,hr,h4]:=b0;subst hr;show ti (bO h4 λ_ s5 bl=>?_);let#[x,H5,I5,r5,y5,aB,b3]:=bl;let ca:=(I5.pin _ (L3 _ Tf)).2.1;let b5:=I5.pinned (aK b3 pD) (T.obj _ _ aB);let lI:∀{α:Type}{tr:WT α}{Q:α->dM->Prop}{E':qa2}{U:dM},↑tr Q (λ_ _=>False) U->↑tr Q E' U:=λh=>TY h (λ_ _ z=>z) λ_ _ z=>z.elim;show ti (lI (bO (bY _ _ _ _ _ s5 _ H5 x u _ b5 r5 (step x H5 y5 vs lv)) λ_ s6 bN=>?_));let#[τ,H6,I6,us,lu,bB,q6]:=bN;subst bB;show ti (lI (bO (ht _ _ _ _ _ s6 _ H6 _ I6 q6) λok s7 bm=>?_));let#[H7,I7,q7]:=bm;let bd:∀{ab:St}{H':Hp}{U:dM},Inv (nI X (fK ts caps) scope cl H2.objs.size s H fp) ([(s⁻¹, { cls:=.type "list",data:=.seq its.toArray nn })]++kW fp s5.heap) ab H' U ->
     U.heap.get? s⁻¹=some { cls:=.type "list",data:=.seq its.toArray nn }/\H' s⁻¹=none/\tn (i+1) U.heap/\(∀b∈fp,H' b=none):=λ{ab H' U} Ix=>by
    let a:=Ix.pin _ (L3 _ (Ug _ Tf));show#[a.1,a.2.1,T.keep _ _ _ aB λb G o e=>(Ix.pin (b,o) (L3 _ (L3 _ (ff G e)))).1,λb G=>?_];let#[o,e,d]:=T.obj _ _ aB b G;show(Ix.pin (b,o) (L3 _ (L3 _ (ff G e)))).2.1
   let bare:∀{pl:qa1}{ab:St}{H':Hp}{U:dM},Inv (nI X (fK ts caps) scope cl H2.objs.size s H fp) pl ab H' U->Inv (nI X (fK ts caps) scope cl H2.objs.size s H fp) [] ab H' U:=λIx=>Ix.mX λp Y=>absurd Y (by simp);cases ok with
   |false =>
    rw[aa2 SM]at q7;let#[m',hm,w7]:=hN _ _ q7;let#[a1,a2,a3,a4]:=bd I7;show wpAny_pure #[rfl,m',hm,i+1,ys,its,nn,H7,us,lu,bare I7,a3,a4,a2,a1,r3,z3,w7]
   |true =>
    rw[aa3 rfl]at q7;show ti (ti (lI (bO (he _ _ _ _ _ s7 _ H7 _ I7 q7) λy s8 bn=>?_)));let#[yv,H8,I8,r8,cc,n8]:=bn;let#[m',hm,w8]:=hN _ _ n8;let#[a1,a2,a3,a4]:=bd I8;let hlen:=r3.length;show ti (U8 F.slot_list_append #[_,a1,rfl] F.entry_list_append (F.args_list_append_2 _ _) (list_append s⁻¹ its.toArray nn y (by rw[S9];omega)) #[a1,?_]);obtain⟨ao,q⟩:∃ao:Nat,(s8.heap.update s⁻¹ (Obj.mapSeq (·.push y))).get? s⁻¹=some { cls:=.type "list",data:=.seq (its++[y]).toArray ao }:=by
     let q:=aae a1 (·.push y);let ea:its.toArray.push y=(its++[y]).toArray:=(by simp);rw[ea]at q;show#[_,q]
    let I9:Inv (nI X (fK ts caps) scope cl H2.objs.size s H fp) [] (pI caps σ us) H8 { s8 with heap:=s8.heap.update s⁻¹ (Obj.mapSeq (·.push y)) }:=
     (bare I8).turned (t':=s8.toks) (λb o G e=>(Heap.get?_update_other _ _ (Ne.symm G)).trans e) a2 ad (.inr (G0 _)) bR (λp Y=>absurd (show p∈([]:qa1)from Y) (by simp))
    show wpAny_pure (wpAny_pure #[rfl,m',hm,i+1,ys++[yv],its++[y],ao,H8,us,lu,I9,T.keep _ _ _ a3 λb G o e=>(Heap.get?_update_other _ _ (show s⁻¹≠b from λz=>a5 (by rw[z];show G))).trans e,a4,a2,q,r3.append (.cons r8 .nil),?_,w8])
    .rw[wh,Tj];omega
 show codeAny_compStart_list (be _ rfl) (T.self _ 0 _ _ _ a6 (be _ rfl))
end
variable{t:Str}{elt iter:Tr}{ifs:qAf}{px pos:Vw}{tt:TT}{te:TE}
theorem oG{J:It}{it:Addr}{G:Nat->Heap->Prop}{W:Nat->Nat->List V->Hp->Prop}{U:List V->Hp->Prop}{E:qa2}{RR:Value->Addr->Result->dM->Prop}{m0:Nat}
  (K:vw X scope cl t caps) (hc:X.calm=true)
  (ht:∀C s₀ H₀ ex,Ld (nI X (vV t caps) scope cl C s₀ H₀ ex) ifs tt) (he:∀C s₀ H₀ ex,PE (nI X (vV t caps) scope cl C s₀ H₀ ex) elt te)
  (I: ~~~H s) (T:Turn X.prog X.w X.K (.Name t px) J fp it G) (st:G 0 s.heap) (hf:∀b∈fp,gA X pins H b) (w0:W 0 m0 [] H) (Y:j8 caps tt te σ J U W)
  (fin:∀D C ys H' s' m,H' D=none->~~~(upd H' D (.lst ys)) s'->s'.heap.Ns C m->gA X pins (upd H' D (.lst ys)) C->U ys H'->RR (.ref D) C (.ok .next) s') :
  ↑(newList []) (λL ab=>↑(newFunctionEnv scope X.env.globals cl [] X.env.qual none .none (some X.env)) (λF ac =>
   Xl (model X.prog X.w) X.A (.compStart (.ListComp elt [#[.Name t px,iter,ifs,(0)]] scope pos) 0 (.ref it) L { F with scope:=relabel scope X.env }) (RR L F.locals) ac) E ab) E s :=
 mv K.g hc (λC s₀ H₀ ex=>mY (i:=0) K.nd rfl (.inl (US K.Sf)) (.inr (US K.Sf))) ht he I T st hf w0 (λi m ys H h=>(Y i m ys H h).imp id λh=>by
  let#[go,N,Z,step]:=h;show#[go,N,Z,λx H' y vs l=>?_];let#[v,rfl]:=List.length_eq_one_iff.mp l;show#[[some x],1,step x H' y]) fin
variable{wi:TI}
theorem cY(K:vw X scope cl t caps)(hc:X.calm=true)(hi:PI X (.Name t px) iter wi)
  (L:∀C s₀ H₀ ex,Ld (nI X (vV t caps) scope cl C s₀ H₀ ex) ifs tt) (he:∀C s₀ H₀ ex,PE (nI X (vV t caps) scope cl C s₀ H₀ ex) elt te)
  (hs:%[∀x,VH iter X.env x=pure x|0]):PE X (.ListComp elt [#[.Name t px,iter,ifs,(0)]] scope pos) (HV caps wi tt te):=by
 intros Q I h;rw[eval_ListComp];show V4 (use:=none) rfl hs K.CO K.kind K.names (bO (hi pins s σ H _ I h) λv s1 h1=>bO h1 λad s2 h2=>?_);let#[it,fp,tn,J,H2,e,I2,T,G,f2,W,#[m0,U],F]:=h2;subst e;show oG (RR:=λac C=>compPost (model X.prog X.w) X.A X.xe none (EP X pins σ Q) ac C) K hc L he I2 T G f2 U F ?_;intro D C ys H' s' m hD Z hn hC q;show#[m,hn,λh' ab=>?_];let#[c0,Y,c2,c3,c4,c5]:=hC;show#[.ref D,_,Z.turned (t':=s'.toks) (λb o hb e=>(ab.2 b hb).trans e) c0 Y c3 c4 c5,rfl,q D hD]
theorem yH{i:Nat}{y:Str}{F L:Vw}(hN:X.N.Nodup)(ao:X.N[i]?=some y)(hy:Loc X.env.scope y)(K:vw X scope cl t caps)(hc:X.calm=true)(hi:PI X (.Name t px) iter wi)
  (ht:∀C s₀ H₀ ex,Ld (nI X (vV t caps) scope cl C s₀ H₀ ex) ifs tt) (he:∀C s₀ H₀ ex,PE (nI X (vV t caps) scope cl C s₀ H₀ ex) elt te)
  (ap:%[Wj (.ListComp elt [#[.Name t px,iter,ifs,(0)]] scope pos) (some (.Name y F)) L.line X.env=pure true|0])
  (hs:%[∀x,VH iter X.env x=pure x|0]) (hf:%[X.fn y=true\/X.env.scope.names.lookup y=some .local|0]) :
  PS X (.Assign [.Name y F] (.ListComp elt [#[.Name t px,iter,ifs,(0)]] scope pos) L) (zO (HV caps wi tt te) (iz i)):=by
 intros D I h;rw[exec_Assign_Name_used _ _ _ _ ap];show ti (X4 (ti ?_));change wpAny _ X.A (do let _ <-comprehension (.ListComp elt [#[.Name t px,iter,ifs,(0)]] scope pos) scope X.env _ (newList []) false (eval iter X.env) (some (Zr (.Name y F) X.env))) _ _ s;show ti (bO (V4 (use:=some (Zr (.Name y F) X.env)) (Q:=λ_ s'=>SP X pins D .next s') rfl hs K.CO K.kind K.names
  (bO (hi pins s σ H _ I h) λv s1 h1=>bO h1 λas s2 h2=>?_)) λ_ s' hq=>wpAny_pure (wpAny_pure hq))
 let#[it,fp,tn,J,H2,e,I2,T,Z,f2,W,#[m0,w0],hW]:=h2;subst e;show oG (RR:=λar C=>compPost (model X.prog X.w) X.A X.xe (some (Zr (.Name y F) X.env)) (λ_ s'=>SP X pins D .next s') ar C) K hc ht he I2 T Z f2 w0 hW ?_;intro G C ys H' s' m hD I' hn hC q;let#[c0,U,c2,c3,Y,c5]:=hC;change wpAny _ X.A (Zr (.Name y F) X.env (.ref G)) _ _ s';show ZG (qF (v:=.ref G) I' hN ao hy rfl (λs3 I3 am=>?_) hf);let#[a,ad,ha]:=am;let ac:C≠a:=by
  rcases ha with z|z
  .rw[z];show U
  .show λw=>Y y a z w.symm
 show#[m,hn.sameBut ad ac,λh' ab=>?_];show#[2,I3.turned (t':=s3.toks) (λb o hb e=>(ab.2 b hb).trans e) c0 U c3 Y c5,q G hD]
variable{lo:Int}{G:List V->Hp->Prop}
theorem ip(Pv:Nat->List V->Hp->Prop)(L:Pv 0 [] H)
  (hs:∀i ys H,i<n->Pv i ys H->tt (mL caps σ (some (.int (lo+i)))) H λb H2=>if b=true then te (mL caps σ (some (.int (lo+i)))) H2 (λy I=>ys.length<sizeLine/\Pv (i+1) (ys++[y]) I)else Pv (i+1) ys H2)
  (hd:∀ys H,Pv n ys H->G ys H):∃W:Nat->Nat->List V->Hp->Prop,(∃m,W 0 m [] H)/\j8 caps tt te σ (GY lo n) G W:=by
 show#[λi m ys H=>m=n-i/\i<=n/\Pv i ys H,#[n,by simp,Tp _,L],?_];rintro i m ys H ⟨rfl,hi,p⟩;cases F:i<n
 .show .inr #[F,Pv (i+1),λY H' U=>#[n-(i+1),Vq n i F,rfl,F,U],λx H' y=>?_];let#[e,y]:=y;subst e y;show hs i ys _ F p
 .let e:i=n:=af;subst e;show .inl #[G0 _,hd ys H p]
variable{K:SU}{a:Addr}{xs:qAh}
theorem gM(Pv:Nat->List V->Hp->Prop)(L:Pv 0 [] H)(U:∀i ys H,i<=xs.length->Pv i ys H->aW K H a xs)
  (hs:∀i x ys H,xs[i]?=some x->Pv i ys H->tt (mL caps σ (some x)) H λb H2=>if b=true then te (mL caps σ (some x)) H2 (λy I=>ys.length<sizeLine/\Pv (i+1) (ys++[y]) I)else Pv (i+1) ys H2)
  (hd:∀ys H,Pv xs.length ys H->G ys H):∃W:Nat->Nat->List V->Hp->Prop,(∃m,W 0 m [] H)/\j8 caps tt te σ (El K a) G W:=by
 show#[λi m ys H=>m=xs.length-i/\i<=xs.length/\Pv i ys H,#[xs.length,by simp,Tp _,L],?_];rintro i m ys H ⟨rfl,hi,p⟩;let q:=U i ys H hi p;cases F:i<xs.length
 .show .inr #[#[xs,xs[i],q,by simp[F]],Pv (i+1),λZ H' Y=>#[xs.length-(i+1),Vq (Vt xs) i F,rfl,F,Y],λx H' y=>?_];let#[e,y]:=y;subst e;show hs i x ys _ (y xs q) p
 .let e:i=xs.length:=af;subst e;show .inl #[#[xs,q,G0 _],hd ys H p]
variable{F:List V->Hp->Prop}
theorem iQ(Pv:Nat->List V->Hp->Prop)(I:Pv 0 [] H)
  (hs:∀i ys H,i<n->Pv i ys H->te (mL caps σ (some (.int (lo+i)))) H (λy G=>ys.length<sizeLine/\Pv (i+1) (ys++[y]) G))
  (hd:∀ys H,Pv n ys H->F ys H):∃W:Nat->Nat->List V->Hp->Prop,(∃m,W 0 m [] H)/\j8 caps vk te σ (GY lo n) F W :=
 ip Pv I (λi ys H hi p=>by
  change if true=true then _ else Pv (i+1) ys H
  rw[aa3 rfl];show hs i ys H hi p) hd
theorem hZ(Pv:Nat->List V->Hp->Prop)(I:Pv 0 [] H)(L:∀i ys H,i<=xs.length->Pv i ys H->aW K H a xs)
  (hs:∀i x ys H,xs[i]?=some x->Pv i ys H->te (mL caps σ (some x)) H (λy G=>ys.length<sizeLine/\Pv (i+1) (ys++[y]) G))
  (hd:∀ys H,Pv xs.length ys H->F ys H):∃W:Nat->Nat->List V->Hp->Prop,(∃m,W 0 m [] H)/\j8 caps vk te σ (El K a) F W :=
 gM Pv I L (λi x ys H hi p=>by
  change if true=true then _ else Pv (i+1) ys H
  rw[aa3 rfl];show hs i x ys H hi p) hd
theorem dI:TV "list" = some (.type "list"):=av
theorem nQ:TV "tuple" = some (.type "tuple"):=av
theorem Im:TV "int" = some (.type "int"):=av
theorem E3:TV "bool" = some (.type "bool"):=av
theorem aU:TV "isinstance" = some (.builtin "isinstance"):=av
theorem lF:TV "sorted" = some (.builtin "sorted"):=av
noncomputable def pY:List V->List V->Bool
 | [],[]=>true
 |x::xs,y::ys=>mC x y&&pY xs ys
 |_,_=>false
theorem vg:∀{xs ys:qAh},xs.length≠ys.length->pY xs ys=false
 | [],[],h=>absurd rfl h
 | [],_::_,_=>rfl
 |_::_,[],_=>rfl
 |x::xs,y::ys,h=>by
  let F:=vg (xs:=xs) (ys:=ys) λe=>h (by simp[e]);change(mC x y&&pY xs ys)=false;rw[F,aaK]
theorem o7:∀{xs ys:qAh},xs.length=ys.length->(TM xs.length).all (λj=>mC (xs.getD j .a7) (ys.getD j .a7))=pY xs ys
 | [],[],_=>rfl
 |x::xs,y::ys,h=>by
  let F:=o7 (xs:=xs) (ys:=ys) ‹h›;rw[TH,Yv,all_cons,all_map];change(mC x y&&_)=(mC x y&&pY xs ys);rw[<-F];rfl
 | [],_::_,h=>by simp at h
 |_::_,[],h=>by simp at h
theorem FN(a b:Int):mC (.int a) (.int b)=decide (a=b):=by
 change(a==b)=_;rw[Bool.beq_eq_decide_eq]
theorem qv:∀(xs ys:qAa),pY (xs.map V.int) (ys.map V.int)=decide (xs=ys)
 | [],[]=>rfl
 | [],_::_=>rfl
 |_::_,[]=>rfl
 |x::xs,y::ys=>by
  let F:=qv xs ys;change(mC (.int x) (.int y)&&pY (xs.map V.int) (ys.map V.int))=_;rw[F,FN];cases h1:x=y
  .by_cases h2:xs=ys
   .simp[h1,h2]
   .simp[h1,h2]
  .simp[h1]
theorem qq(xs:qAa):(xs.map V.int).all fE=true:=by
 rw[all_map];show U6.mpr λ_ _=>rfl
theorem eQ:cz X (.builtin "isinstance") (λxs H Q=>∃x n t b,xs=[x,.ty n]/\jB X.K H x t/\Tn X.K t (.type n)=some b/\Q (.bl b) H):=by
 intros xs us Q I r h;let#[x,n,t,b,rfl,ty,e,q]:=h;let#[u,c,rfl,ru,F]:=vals2 r;obtain rfl:c=Value.type n:=F;show y4 I ru ty e λtk=>#[.bl b,H,I.tok _,rfl,q]
theorem JQ(K:SU):Tn K (.type "int") (.type "int")=some true:=rfl
theorem KI(K:SU):Tn K (.type "list") (.type "list")=some true:=rfl
theorem Ie(K:SU):Tn K (.type "int") (.type "bool")=some false:=by with_unfolding_all rfl
end L2
namespace PySem.W
open PySem PySem.Spec PySem.Calls PyProof.Rows Builtin Builtin.ObjectAttr Builtin.Getset_descriptor
variable{K:SU}{C:Addr}{M:XS}
theorem Gb{h:Heap}{v a g:Value}{name:Str}(X:K.In h)(I:Ua K (.ref C) name=some (some a))(L:Wc K a "__get__" = some (some g))(G:YF K a=some true) :
  Ze M h (find v (.ref C) name) (.bind g a):=by
 let U:=Xv (M:=M) X I;let L2:Ze M h (getOf (some a)) (some g):=looks_specialIn X L;let F:=looks_takesIn (M:=M) X G;show U.andThen (L2.andThen ((show Ze M h (dataDescriptor? (some a) (some g)) (some (g,a))from F.andThen .now).andThen (Looks.tag .now)))
variable{prog:By}{w:R4}{A:Th}{s:dM}{x:Addr}
theorem rj{R:Result->dM->Prop}{G:Value}(X:K.In s.heap)(U:Ze (model prog w) s.heap (Ys (.ref x)) (.ref C))(F:YG K C (.type "object")=some true)
  (h:R (.ok (.ret (.ref C))) s):Xl (model prog w) A (.call (.builtin "getset_descriptor.__get__") #[[.builtin "object.__class__",.ref x,G],[]]) R s:=by
 let#[I,g,L,t,os]:=s;let Y:=looks_mroIn (M:=model prog w) X F;show YY KF.slot_gs.plain KF.entry_gs (KF.slot_gs.check _ _ _ _ _ _ _ _ KF.type_class (KF.args_gs _ _ _) ?_);unfold Builtin.«getset_descriptor.__get__» descrGet;rw[dga_obj];show ti (wpAny_pure ?_);unfold descrGetter descrCheckInstance descrNameAndClass isInstance;simp only[KF.owner_class]
 repeat lk
 show#[Code.quiet_builtin _ av,codeAny_builtin KF.entry_class ?_];unfold Builtin.«object.__class__» shownTypeOf
 repeat lk
 show h
variable{E:qa2}{tk:Tok}
theorem Be{Q:Fin->dM->Prop}(X:K.In s.heap)(F:Ze (model prog w) s.heap (Ys (.ref x)) (.ref C))(G:YG K C (.type "object")=some true)
  (I:Ua K (.ref C) "__class__" = some (some (.builtin "object.__class__"))) (L:Wc K (.builtin "object.__class__") "__get__" = some (some (.builtin "getset_descriptor.__get__"))) (Y:YF K (.builtin "object.__class__")=some true)
  (h:Q (.done (.ret (.ref C))) s):wpAny (model prog w) A (Builtin.«object.__getattribute__» #[[.ref x,.str "__class__" tk],[]]) Q E s:=by
 let#[Z,g,dr,t,os]:=s;let U:=Gb (M:=model prog w) (v:=.ref x) X I L Y;show ti (wpAny_pure (ti (wpAny_pure (ti (F.at (ti (U.at ?_)))))));change wpAny _ _ (VT [.builtin "object.__class__"] (call (.builtin "getset_descriptor.__get__") [.builtin "object.__class__",.ref x,.ref C])>>=ret) _ _ _;show ti (U1 (Yn (rj X F G (wpAny_pure h))))
theorem zq(self:Value):bindSpecial (.builtin "BaseException.__getattribute__") self=pure (.builtin "BaseException.__getattribute__",[self]):=F.excAttr_ValueError.ga.bind self
theorem wU{Q:Unit->dM->Prop}(X:K.In s.heap)(L0:Ze M s.heap (Ys (.ref x)) (.ref C))(L:YG K C (.type "BaseException")=some true)(b:Value)
  (I:Q () s):wpAny M A (checkBuiltinCall "BaseException.__getattribute__" #[[.ref x,b],[]]) Q E s:=by
 let#[U,g,Y,t,os]:=s;let L1:=looks_mroIn (M:=M) X L;let hk:builtinKind "BaseException.__getattribute__" = some .slot:=av;let G:splitId "BaseException.__getattribute__" = some ("BaseException","__getattribute__"):=av;let Z:=F.args_bexc_ga (.ref x) b;simp only[checkBuiltinCall,hk,G];unfold isInstance
 repeat lk
 show I
theorem vD{Q:qa2}(X:K.In s.heap)(G:Ze (model prog w) s.heap (Ys (.ref x)) (.ref C))(I:YG K C (.type "object")=some true)(hb:YG K C (.type "BaseException")=some true)
  (Z:Ua K (.ref C) "__getattribute__" = some (some (.builtin "BaseException.__getattribute__"))) (U:Ua K (.ref C) "__getattr__" = some none)
  (L:Ua K (.ref C) "__class__" = some (some (.builtin "object.__class__"))) (hn:Wc K (.builtin "object.__class__") "__get__" = some (some (.builtin "getset_descriptor.__get__"))) (ab:YF K (.builtin "object.__class__")=some true)
  (h:Q (.ref C) s):wpAny (model prog w) A (getAttrBy (.ref x) (.str "__class__" tk) false) Q E s:=by
 let#[hh,g,dr,t,os]:=s;let Y:=Xv (M:=model prog w) X Z;let L2:=Xv (M:=model prog w) X U;unfold getAttrBy;show U1 (ti (G.at (ti (Y.at ?_))));change wpAny _ _ (getAttrByItsOwn _ _ _ _ _ _) _ _ _;unfold getAttrByItsOwn;show ti (show wpAny _ _ (typeLookup (.ref C) "__getattr__") _ _ _ from L2.at (ti (V3 (U1 ?_))));change wpAny _ _ (boundAndCalled _ _ _) _ _ _;unfold boundAndCalled;rw[zq];show ti (wpAny_pure ?_);change wpAny _ _ (call (.builtin "BaseException.__getattribute__") [.ref x,.str "__class__" tk]) _ _ _;show Yn (YY F.excAttr_ValueError.ga.plain F.entry_bexc_ga (wU X G hb _ (Be X G I L hn ab ?_)));show wpAny_pure h
theorem DZ{Q:Option Value->dM->Prop}(X:K.In s.heap)(I:Ze (model prog w) s.heap (Ys (.ref x)) (.ref C))(F:YG K C (.type "object")=some true)(U:YG K C (.type "BaseException")=some true)
  (G:Ua K (.ref C) "__getattribute__" = some (some (.builtin "BaseException.__getattribute__"))) (Z:Ua K (.ref C) "__getattr__" = some none)
  (Y:Ua K (.ref C) "__class__" = some (some (.builtin "object.__class__"))) (hn:Wc K (.builtin "object.__class__") "__get__" = some (some (.builtin "getset_descriptor.__get__"))) (L:YF K (.builtin "object.__class__")=some true)
  (h:Q (some (.ref C)) { s with toks:=s.toks+1 }):wpAny (model prog w) A (getAttr? (.ref x) "__class__") Q E s:=by
 unfold getAttr? getAttrBy?;show ti (wpAny_mkText (ti (V3 (vD (s:={ s with toks:=s.toks+1 }) X I F U G Z Y hn L (wpAny_pure h)))))
structure vv(K:SU)(C:Addr):Prop where
 ob:YG K C (.type "object")=some true
 be:YG K C (.type "BaseException")=some true
 ga:Ua K (.ref C) "__getattribute__" = some (some (.builtin "BaseException.__getattribute__"))
 gb:Ua K (.ref C) "__getattr__" = some none
 cc:Ua K (.ref C) "__class__" = some (some (.builtin "object.__class__"))
 cg:Wc K (.builtin "object.__class__") "__get__" = some (some (.builtin "getset_descriptor.__get__"))
 ct:YF K (.builtin "object.__class__")=some true
theorem vv.cl(c:vv K C):(clsIn K C).isSome=true:=by
 let#[cd,h,_]:=Option.bind_eq_some_iff.mp c.ob;rw[h];rfl
theorem AW(c:vv K C):KitX K (.ref x) (.ref C) (λh=>∃o,h.get? x=some o/\o.cls=.ref C) where
 ty:=λM h _ ⟨o,h1,h2⟩=>h2▸(aaz h1).andThen .now
 it:=λ_ _ X _=>by
  let#[Z,F]:=Vm.mp c.cl;unfold clsIn at F
  set_option tactic.hygienic true in split at F
  .rename_i L d' ab I G;intro A' Q' E' s' k q;unfold isType loadHead;show ti (wpAny_loadPart (k _ _ (X _ _ G)) (wpAny_pure q))
  .cases F
 ne:=λh Y dd its n sl X U=>by
  let#[Z,F]:=Vm.mp c.cl;show Vj.mpr λq=>?_;let e:C=Y:=Value.ref.inj (beq_iff_eq.mp q);subst e;unfold clsIn at F
  set_option tactic.hygienic true in split at F
  .rename_i L d' ab I G;let z:=(X _ _ G).symm.trans U;cases z
  .cases F
 ca:=λX ⟨o,h1,h2⟩ k=>DZ X (h2▸(aaz h1).andThen .now) c.ob c.be c.ga c.gb c.cc c.cg c.ct k
end PySem.W
namespace L2
open PySem PySem.Spec PyProof.Rows PySem.W
def xo(e:Addr)(cls:Value):HO:=.ext λh=>∃o,h.get? e=some o/\o.cls=cls
variable{P:By}{w:R4}{H:Hp}{h:Heap}{e:Addr}{cls:Value}
theorem M7(x:∃o,h.get? e=some o/\o.cls=cls):b9 P w H h e (xo e cls):=
 #[x,let ⟨o,F,_⟩:=x;#[o,F],λh1 h2 ⟨o,F,G⟩ k=>#[o,k o F,G]]
variable{X:Cx}
theorem cI:cz X (.builtin "isinstance") (λxs H Q=>∃(e C:Addr)(c:V)(F:Value)(b:Bool),xs=[.ref e,c]/\((∃D,c=.ref D/\F=.ref D)\/∃n,c=.ty n/\F=.type n)/\vv X.K C/\H e=some (xo e (.ref C))/\Tn X.K (.ref C) F=some b/\Q (.bl b) H):=by
 intros xs us Q I r h;let#[e,C,c,F,b,rfl,hc,Z,L,hk,q]:=h;let#[u,U,rfl,ru,G]:=vals2 r;obtain rfl:u=Value.ref e:=ru;let Y:U=F:=by
  rcases hc with⟨D,rfl,rfl⟩|⟨n,rfl,rfl⟩
  .show G
  .show G
 subst Y;let#[p,_]:=(show b9 X.prog X.w H s.heap e (xo e (.ref C))from I.bC e _ L);show Uv (AW Z) I.jj p hk (λz=>nomatch z) λtk=>#[.bl b,H,I.tok _,rfl,q]
def C2(e:Addr)(h:Heap):Prop:=∃o vs,h.get? e=some o/\o.data=.fields vs/\vs[2]?=some .none
def QN(f:Obj->Obj):Prop:=∀o vs,o.data=.fields vs->vs[2]?=some .none->∃F,(f o).data=.fields F/\F[2]?=some .none
inductive Pl{α:Type}:WT α->Prop
 |pure(a:α):Pl (.pure a)
 |raise(e:Value):Pl (.raise e)
 |unsupported(x:String):Pl (.unsupported x)
 |finish(x:Ending):Pl (.finish x)
 |rule(tag:String)(k:Unit->WT α)(h:∀u,Pl (k u)):Pl (.rule tag k)
 |at_(p:Vw)(k:Unit->WT α)(h:∀u,Pl (k u)):Pl (.at p k)
 |load(a:Addr)(part:qa7)(k:Obj->WT α)(h:∀o,Pl (k o)):Pl (.load a part k)
 |update(a:Addr)(part:qa7)(f:Obj->Obj)(k:Unit->WT α)(hf:QN f)(h:∀u,Pl (k u)):Pl (.update a part f k)
 |alloc(o:Obj)(k:Addr->WT α)(h:∀a,Pl (k a)):Pl (.alloc o k)
 |loadIfAlive(a:Addr)(k:Option Obj->WT α)(h:∀o,Pl (k o)):Pl (.loadIfAlive a k)
 |point(l:qa6)(k:Unit->WT α)(h:∀u,Pl (k u)):Pl (.point l k)
 |register(a:Addr)(k:Unit->WT α):Pl (.register a k)
 |fresh(k:Tok->WT α)(h:∀t,Pl (k t)):Pl (.fresh k)
 |ask(k:Setting->WT α)(h:∀t,Pl (k t)):Pl (.ask k)
 |handled(own:Bool)(k:Option Value->WT α)(h:∀t,Pl (k t)):Pl (.handled own k)
 |stack(k:List (Code×Vw)->WT α)(h:∀t,Pl (k t)):Pl (.stack k)
theorem Pl.bind{α L:Type}{t:WT α}{k:α->WT L}(h:Pl t)(hk:∀a,Pl (k a)):Pl (t>>=k):=by
 change Pl (Sem.bind t k)
 induction h with
 |pure a=>show hk a
 |raise e=>show .raise e
 |unsupported x=>show .unsupported x
 |finish x=>show .finish x
 |rule U G _ F=>show .rule _ _ F
 |at_ p G _ F=>show .at_ _ _ F
 |load a part G _ F=>show .load _ _ _ F
 |update a part f G I _ F=>show .update _ _ _ _ I F
 |alloc o G _ F=>show .alloc _ _ F
 |loadIfAlive a G _ F=>show .loadIfAlive _ _ F
 |point l G _ F=>show .point _ _ F
 |register a G=>show .register _ _
 |fresh G _ F=>show .fresh _ F
 |ask G _ F=>show .ask _ F
 |handled Y G _ F=>show .handled _ _ F
 |stack G _ F=>show .stack _ F
theorem C2.push{o:Obj}(c:C2 e h):C2 e (h.push o):=let ⟨x,vs,h1,h2⟩:=c;#[x,vs,Heap.get?_push_of_some _ h1,h2]
variable{a:Addr}
theorem C2.update{f:Obj->Obj}(c:C2 e h)(I:QN f):C2 e (h.update a f):=by
 let#[x,vs,h1,h2,F]:=c;cases q:a=e
 .subst q;let#[L,G,g2]:=I x vs h2 F;show#[f x,L,Heap.get?_update_self _ h1 (Obj.isFreed_of_fields G),G,g2]
 .show#[x,vs,(Heap.get?_update_other _ _ q).trans h1,h2,F]
variable{M:XS}
theorem Pl.wp{α:Type}{G:PySem.Ctx}{t:WT α}{Q:α->Vw->dM->Prop}{E:Value->Vw->dM->Prop}(h:Pl t):∀(p:Vw)(s:dM),VO M G t Q E p s->C2 e s.heap ->
  VO M G t (λa p s=>Q a p s/\C2 e s.heap) (λx p s=>E x p s/\C2 e s.heap) p s:=by
 induction h with
 |pure a=>intro p s q c;rw[VO]at q ⊢;show#[q,c]
 |raise e=>intro p s q c;rw[VO]at q ⊢;show#[q,c]
 |unsupported x=>intro p s q c;rw[VO]at q;show q.elim
 |finish x=>intro p s q c;rw[VO]at q;show q.elim
 |rule Y k _ F=>intro p s q c;rw[VO]at q ⊢;show F () p s q c
 |at_ L k _ F=>intro p s q c;rw[VO]at q ⊢;show F () L s q c
 |load a part k _ F=>intro p s q c;rw[VO]at q ⊢;let#[o,U,q]:=q;show#[o,U,F o p s q c]
 |update a part f k I _ F=>intro p s q c;rw[VO]at q ⊢;show#[q.1,F () p _ q.2 (c.update I)]
 |alloc o k _ F=>intro p s q c;rw[VO]at q ⊢;show F _ p _ q c.push
 |loadIfAlive a k _ F=>intro p s q c;rw[VO]at q ⊢;show F _ p s q c
 |point l k _ F=>intro p s q c;rw[VO]at q ⊢;show F () p s q c
 |register a k=>intro p s q c;rw[VO]at q;show q.elim
 |fresh k _ F=>intro p s q c;rw[VO]at q ⊢;show F _ p _ q c
 |ask k _ F=>intro p s q c;rw[VO]at q ⊢;show F _ p s q c
 |handled Z k _ F=>intro p s q c;rw[VO]at q ⊢;show F _ p s q c
 |stack k _ F=>intro p s q c;rw[VO]at q ⊢;show F _ p s q c
variable{A:Th}{s:dM}
theorem Pl.any{α:Type}{t:WT α}{Q:α->dM->Prop}{E:qa2}(h:Pl t)(q:wpAny M A t Q E s)(c:C2 e s.heap):wpAny M A t (λa s=>Q a s/\C2 e s.heap) (λx s=>E x s/\C2 e s.heap) s :=
 λF p G=>h.wp p s (q F p G) c
theorem Jc{i:Nat}{v:Value}(h:i≠2):QN (Obj.mapFields (·.setIfInBounds i v)):=λo vs hd h2=>#[_,Obj.data_mapFields hd _,by rw[Array.getElem?_setIfInBounds_ne h];show h2]
theorem rJ(a:Addr):Pl (load a):=.load _ _ _ λo=>.pure o
theorem zY(v:Value):Pl (fieldsOf v):=by
 unfold fieldsOf;split
 .show Pl.bind (rJ _) λo=>?_;split
  .show .pure _
  .show .unsupported _
 .show .unsupported _
theorem kl(v:Value)(i:Nat):Pl (field v i):=by
 unfold field;show Pl.bind (zY v) λvs=>?_;split
 .show .pure _
 .show .unsupported _
theorem iH(v:Value)(i:Nat)(x:Value)(h:i≠2):Pl (setField v i x):=by
 unfold setField;split
 .unfold updateField;show Pl.bind (rJ _) λo=>?_;split
  .split
   .show .update _ _ _ _ (Jc h) λu=>.pure u
   .show .unsupported _
  .show .unsupported _
 .show .unsupported _
theorem og:Pl stack:=.stack _ λl=>.pure l
theorem rZ(ty:String)(vs:qa6):Pl (newFields ty vs):=by
 let F:Pl (newObjAsIs (Value.type ty) (Data.fields vs.toArray)):=Pl.bind (.alloc _ _ λa=>.pure a) λa=>.pure _;unfold newFields newObj;dsimp only;split
 .show Pl.bind (.unsupported _) λ_=>F
 .show F
theorem EE:Pl frameEnvs:=by
 unfold frameEnvs;show Pl.bind og λl=>.pure _
theorem ze(env:X9)(outer:qAg):Pl (behindIsImport env outer):=by
 unfold behindIsImport;split
 .show .pure _
 .split
  .show .pure _
  .show Pl.bind (kl _ _) λ_=>.pure _
theorem Eb:Pl YZ:=by
 unfold YZ;show Pl.bind og λ_=>.pure _
theorem FI(env:X9)(i:Bool)(l:qAg):Pl (keptBack env i l):=by
 unfold keptBack;split
 .split
  .show .pure _
  .show Pl.bind Eb λ_=>.pure _
 .show .pure _
theorem ui:∀l:List X9,Pl (readyFrames l)
 | []=>.pure _
 |env::outer=>by
  unfold readyFrames;split
  .show Pl.bind (rJ _) λo=>?_;split
   .show .pure _
   .show Pl.bind (ze _ _) λi=>Pl.bind (FI _ _ _) λb=>Pl.bind (.update _ _ _ _ (λo vs h1 h2=>#[vs,h1,h2]) λu=>.pure u) λ_=>ui outer
  .show .unsupported _
theorem pA(l:qAg):Pl (frameObject l):=by
 cases l with
 |nil=>show .pure _
 |cons env outer =>
  unfold frameObject;show Pl.bind (ui _) λ_=>.pure _
theorem wy(env:X9):Pl (Zo env):=by
 unfold Zo;show Pl.bind EE λl=>Pl.bind (pA _) λo=>?_;split
 .show .pure _
 .show .unsupported _
theorem Bz(f:Addr)(b:Bool):Pl (ZZ f b):=by
 unfold ZZ;show Pl.bind og λl=>?_;split
 .show .pure _
 .show .pure _
theorem lD(v:Value)(f:qa8):Pl (setFlight v f):=by
 unfold setFlight;show Pl.bind (kl _ _) λtb=>?_;split
 .show iH _ _ _ az
 .show .pure _
theorem yl(v:Value)(env:X9):Pl (noteFrame v env):=by
 unfold noteFrame;split
 .show Pl.bind (kl _ _) λhd=>?_;let rest:∀f:Addr,Pl (do
    let a <-Zo env
    let pl <-ZZ f (hd != .none)
    let b <-EntryCells.newEntry hd a .none (Zs f) .none pl
    setField v 1 b):=λf=>Pl.bind (wy _) λa=>Pl.bind (Bz _ _) λq=>Pl.bind (rZ _ _) λb=>iH _ _ _ az
  split
  .show Pl.bind (kl _ _) λx=>?_;split
   .show .pure _
   .show Pl.bind (iH _ _ _ az) λ_=>rest _
  .show rest _
 .show .unsupported _
theorem xC(env:X9)(v:Value):Pl (leaving env v):=by
 unfold leaving;show Pl.bind (yl _ _) λ_=>lD _ _
def tV(B:Heap)(l:qAg)(e:Addr)(cls G:Value)(h:Heap):Prop :=
 B.StaysIn h/\B.get? e=none/\h.FunFrames B l/\∃F vs,h.get? e=some F/\F.cls=cls/\F.data=.fields vs/\vs[0]?=some G/\vs[1]?=some .none
def CY(X:Cx)(pins:qa1)(σ:St)(H:Hp)(B:Heap)(s:dM):Prop :=
 ∀(h':Heap)(tk:Nat),B.StaysIn h'->s.heap.UpToSlots h'->~~~H { s with heap:=h',toks:=tk }
structure AE(X:Cx)(pins:qa1)(H:Hp)(e:Addr):Prop where
 old:X.s₀.heap.get? e=none
 loc:e≠X.env.locals
 fs:e∉X.fs
 cell:∀x c,X.env.cells.lookup x=some c->c≠e
 pin:∀p∈X.pn++pins,p.1≠e
 free:H e=none
abbrev XR:=St->Value->Hp->Prop
def XP(X:Cx)(pins:qa1)(R:XR)(x:Value)(s':dM):Prop :=
 ∃(e:Addr)(cls F:Value)(B:Heap)(σ:St)(H:Hp),x=.ref e/\(tV B X.stack e cls F s'.heap\/Heap.FlyingW B X.stack e cls F s'.heap\/∃L,X.env.frame=some L/\Heap.HeldW B X.stack e cls F L s'.heap)/\C2 e s'.heap/\CY X pins σ H B s'/\AE X pins H e/\R σ cls H
def bX(P:By)(w:R4):nJ:=λouter H s E x s' =>
 ∃(e:Addr)(cls F:Value)(B:Heap)(H':Hp),x=.ref e/\s'.os=s.os/\Xj s'.gens/\s.heap.get? e=none/\H' e=none/\Heap.FlyingW B outer e cls F s'.heap/\C2 e s'.heap /\
  (∀h',B.StaysIn h'->s'.heap.UpToSlots h'->Un (p7 outer) [] H H' s.heap h'/\jy P w H' h')/\E cls none H'
theorem gk:Passes (bX P w) X E0:=λ_ _ _ _ _ _ _ ⟨_,_,_,_,_,_,_,_,_,_,_,_,_,h⟩=>h.elim
variable{pins:qa1}{σ:St}{H':Hp}
theorem Inv.HL(I: ~~~H s)(hex:X.ex=[])(h:s.heap.get? e=none)(L:H' e=none):AE X pins H' e:=by
 let old:X.s₀.heap.get? e=none:=by
  cases q:X.s₀.heap.get? e with
  |none=>rfl
  |some o =>
   let#[o',z]:=I.base.there e o q (by rw[hex];simp);rwa[h]at z
 show#[old,λz=>?_,λz=>?_,λx c q z=>?_,λp G z=>?_,L]
 .let#[m,#[o,_,_,F,_],_]:=I.loc;rwa[<-z,h]at F
 .let#[_,o,F,_]:=I.ok.jN.mem z;rwa[old]at F
 .let#[v,o,F,_]:=I.cell x c q;rwa[z,h]at F
 .have:=(I.pin p G).1;rwa[z,h]at this
variable{s':dM}{x:Value}
theorem Inv.comes{E:XK}(I: ~~~H s)(hex:X.ex=[])(h:bX X.prog X.w X.stack H s E x s'):XP X pins (λF cls H'=>F=σ/\E cls none H') x s':=by
 let#[e,cls,U,B,H',rfl,os,bare,L,free,fl,G,keep,q]:=h;show#[e,cls,U,B,σ,H',rfl,.inr (.inl fl),G,λh' tk k u=>?_,I.HL hex L free,rfl,q];let#[un,Y]:=keep h' k u;show I.C8 (s':={ s' with heap:=h',toks:=tk }) (ch:=[]) os un Y bare (λb z=>absurd z (by simp))
theorem XP.imp{R F:XR}(h:XP X pins R x s')(Y:∀σ cls H,R σ cls H->F σ cls H):XP X pins F x s':=by
 let#[e,cls,U,B,σ,H,G,Z,L,e3,I,q]:=h;show#[e,cls,U,B,σ,H,G,Z,L,e3,I,Y _ _ _ q]
variable{B:Heap}
theorem CY.now(b:CY X pins σ H B s)(k:B.StaysIn s.heap): ~~~H s:=b s.heap s.toks k (Heap.UpToSlots.refl _)
abbrev Ay:=St->Hp->VK->(Value->Hp->Prop)->Prop
abbrev pX:=Ends->XR->St->Hp->Prop
def zV(X:Cx)(e:Tr)(t:Ay):Prop :=
 ∀(pins:qa1)(s:dM)(σ:St)(H:Hp)(Q:VK)(R:Value->Hp->Prop),~~~H s->t σ H Q R ->
  ↑(eval e X.env) (EP X pins σ Q) (XP X pins λF cls H'=>F=σ/\R cls H') s
def Ej(X:Cx)(st:Tg)(t:pX):Prop :=
 ∀(pins:qa1)(s:dM)(σ:St)(H:Hp)(D:Ends)(R:XR),~~~H s->t D R σ H->↑(exec st X.env) (SP X pins D) (XP X pins R) s
def oC(X:Cx)(st:List Tg)(t:pX):Prop :=
 ∀(pins:qa1)(s:dM)(σ:St)(H:Hp)(D:Ends)(R:XR),~~~H s->t D R σ H->↑(execs st X.env) (SP X pins D) (XP X pins R) s
section
variable{E:qa2}{Q:VK}
theorem EP.bL{u:Value}(h:EP (X.fY E) pins σ Q u s'):EP X pins σ Q u s':=by
 let#[v,H',I,r]:=h;show#[v,H',I.bL,r]
variable{t:TS}{st:Tg}
theorem cT(h:PS X.lI st t):Ej X st (λD _ σ H=>t D σ H):=λpins s σ H D R I q =>
 TY (h pins s σ H D (I.fY _) q) (λ_ _ z=>z.bL) λ_ _ z=>z.elim
theorem cf{sts:List Tg}(h:tI X.lI sts t):oC X sts (λD _ σ H=>t D σ H):=λpins s σ H D R I q =>
 TY (h pins s σ H D (I.fY _) q) (λ_ _ z=>z.bL) λ_ _ z=>z.elim
def qI(t u:pX):pX:=λD R σ H=>t { D with nx:=u D R } R σ H
variable{ts us:pX}
theorem aw{rest:List Tg}(h1:Ej X st ts)(h2:oC X rest us):oC X (st::rest) (qI ts us):=by
 intros D R I h;show WD (bO (h1 pins s σ H _ R I h) λf L F=>?_);cases f with
 |next =>
  let#[G,H',U,q]:=F;show h2 pins L G H' D R U q
 |brk=>show F
 |cont=>show F
 |ret u=>show F
theorem aS(h1:Ej X st ts):oC X [st] ts:=by
 intros D R I h;show WD (bO (h1 pins s σ H D R I h) λf F q=>?_);cases f with
 |next=>show UW q
 |ret v=>show q
 |brk=>show q
 |cont=>show q
def wV:pX:=λD _ σ H=>D.nx σ H
theorem bo:oC X [] wV:=λ_ _ σ H _ _ I h=>UW #[σ,H,I,h]
theorem nx{α:Type}{tr:WT α}{Q F:α->dM->Prop}(h:wpAny M A tr Q (λ_ _=>False) s)(G:∀a s,Q a s->F a s):wpAny M A tr F E s :=
 TY h G λ_ _ z=>z.elim
def JA(te:Ay):pX:=λD R σ H=>te σ H (λ_ H1=>D.nx σ H1) (R σ)
theorem XP.at{R:XR}(h:XP X pins (λF cls H'=>F=σ/\R σ cls H') x s'):XP X pins R x s':=h.imp λ_ _ _ ⟨e,q⟩=>e▸q
variable{e:Tr}{tx:Ay}{pos:Vw}
theorem bh(F:zV X e tx)(hs:%[Wj e none pos.line X.env=pure false|0]):Ej X (.Expr e pos) (JA tx):=by
 intros D R I h;show wpAny_Expr_any (TY (F pins s σ H _ _ I h) (λv U ⟨x,H1,L,Y,G⟩=>#[σ,H1,L,G]) λ_ _ z=>z.at) I.quiet hs
def L7(te:Ay):pX:=λD R σ H=>te σ H D.rt (R σ)
theorem cK(U:zV X e tx):Ej X (.Return (some e) pos) (L7 tx):=by
 intros D R I h;show ZF (TY (U pins s σ H _ _ I h) (λv Y ⟨x,H1,L,G,F⟩=>#[x,σ,H1,L,G,F]) λ_ _ z=>z.at)
def HN(te:Ay)(i:Nat):pX:=λD R σ H=>te σ H (λv H1=>D.nx (σ.set i (some v)) H1) (R σ)
variable{x:Str}{pos':Vw}
theorem G6{i:Nat}(G:X.N.Nodup)(hi:X.N[i]?=some x)(U:Loc X.env.scope x)(Y:zV X e tx)(hs:%[Wj e (some (.Name x pos')) pos.line X.env=pure false|0])(L:%[X.fn x=true\/X.env.scope.names.lookup x=some .local|0]) :
  Ej X (.Assign [.Name x pos'] e pos) (HN tx i):=by
 intros D R I h;show ZH (TY (Y pins s σ H _ _ I h) (λv s1 ⟨y,H1,I1,r1,Z⟩=>?_) λ_ _ z=>z.at) hs;show j6 I1 G hi U r1 (λs2 F=>#[_,H1,F,Z]) L
theorem tG(i:Nat)(F:X.N.Nodup)(L:zV X e tx)(hi:%[X.N[i]?=some x|0])(I:%[Loc X.env.scope x|0])(hs:%[Wj e (some (.Name x pos')) pos.line X.env=pure false|0])(G:%[X.fn x=true\/X.env.scope.names.lookup x=some .local|0]):Ej X (.Assign [.Name x pos'] e pos) (HN tx i):=G6 F hi I L hs G
def IE(c:TT)(t u:pX):pX:=λD R σ H=>c σ H λb H1=>if b=true then t D R σ H1 else u D R σ H1
theorem bH{c:Tr}{a b:List Tg}{tc:TT}(Z:PT X.lI c tc)(Y:oC X a ts)(U:oC X b us):Ej X (.If c a b pos) (IE tc ts us):=by
 intros D R I h;show wpAny_If (nx (Z pins s σ H _ (I.fY _) h) λd F ⟨H1,L,G⟩=>?_);cases d with
 |true=>show Y pins F σ H1 D R L.bL G
 |false=>show U pins F σ H1 D R L.bL G
variable{k:Nat}{f C:Addr}{fd:DD}{ps:qAb}{sp:Sp}{dvs:qAh}{ds:qa6}{x m:Str}{p apos:Vw}{o:Tr}{es:qAf}{ta:TE}{t:TA}
theorem ny{R:Value->Hp->Prop}{us:qa6}{vs:qAh}(F:aM X.prog X.w X.K X.mg X.base (bX X.prog X.w) k f fd ps sp)(U:cX k X.A)(hb:Binds X.K fd ps ds)(hd:Vals dvs ds)(hex:X.ex=[])
  (I: ~~~H s) (r:Vals vs us) (h:sp (vs++dvs) H Q λcls _ H'=>R cls H'):↑(call (.ref f) us) (EP X pins σ Q) (XP X pins λY cls H'=>Y=σ/\R cls H') s:=by
 let L:Vals (vs++dvs) (us++ds):=r.append hd;let Z:(us++ds).length=ps.length:=(by rw[<-L.length];show F.len _ _ _ _ h);show Yn (Xm (F.run X.A X.stack s H #[us,[]] (us++ds) (vs++dvs) Q _ U I.Ko (hb s us I.jj Z) L h) λr s' G=>?_);cases r with
 |error e=>show I.comes (E:=λcls _ H'=>R cls H') hex (show bX X.prog X.w X.stack H s (λcls _ H'=>R cls H') e s' from G)
 |ok fl =>
  cases fl with
  |ret u=>show I.after G
  |next=>show UD G
  |brk=>show UD G
  |cont=>show UD G
def DL(sp:Sp)(dvs:qAh)(t:TA):Ay:=λσ H Q R=>t σ H λvs H1=>sp (vs++dvs) H1 Q λcls _ H'=>R cls H'
def wu(C:Addr)(m:Str)(sp:Sp)(dvs:qAh)(ta:TE)(t:TA):Ay:=λσ H Q R=>ta σ H λx H1=>∃a dx fs,x=.ref a/\H1 a=some (.ins C dx fs)/\fs.lookup m=none /\
 t σ H1 λvs H2=>sp (x::(vs++dvs)) H2 Q λcls _ H'=>R cls H'
theorem BN(F:aM X.prog X.w X.K X.mg X.base (bX X.prog X.w) k f fd ps sp)(L:cX k X.A)(hex:X.ex=[])(hg:Gl X x)(U:X.mg x=some (.ref f))(hk:Uu X.K (.ref f)=true)(Z:Binds X.K fd ps ds)(hd:Vals dvs ds)
  (ha:PA X.lI (e::es) t) (Y:%[(x==("__debug__" : Str))=false|0]) (he:%[qAj X e es|0]) (ab:%[(backTo pos (starEach es X.env)).any (·.1)=false|0]) :
  zV X (.Call (.Name x p) (e::es) [] pos) (DL sp dvs t):=by
 intros Q R I h;show U7 (hV I hg U ?_ Y);show WG (h₀:=X.base) I.ok.mod.Eh hk (nx (ha pos pins s σ H _ (I.fY _) h) λus s1 ⟨vs,H1,G,r,q⟩=>#[G.bL.jj,?_]) he ab;show ny F L Z hd hex G.bL r q
variable{pl:WT Bool}
theorem jT(he:PE X.lI o ta)(c:mZ X.K C)(G:Meth X.K C m f)(F:aM X.prog X.w X.K X.mg X.base (bX X.prog X.w) k f fd ps sp)(Y:cX k X.A)(hex:X.ex=[])(hb:Binds X.K fd ps ds)(hd:Vals dvs ds)(ha:PA X.lI (e::es) t)
  (ab:%[qAj X e es|0]) (ac:%[(backTo pos (starEach es X.env)).any (·.1)=false|0])
  (Z:%[eval (.Call (.Attribute o m apos) (e::es) [] pos) X.env=(do
   let ov <-eval o X.env
   Xk apos.atName
   let (f,first) <-VT [ov] (getMethod ov m pl)
   Xw pos f first (backTo pos (starEach (e::es) X.env)) (V1 pos (U2 [] X.env)))|0]) :
  zV X (.Call (.Attribute o m apos) (e::es) [] pos) (wu C m sp dvs ta t):=by
 intros Q R I h;show WR (pl:=pl) (nx (he pins s σ H _ (I.fY _) h) λu s1 ⟨x,H1,U,rx,a,dx,fs,ex,ea,l,q⟩=>?_) Z;subst ex;obtain rfl:u=Value.ref a:=rx;show iw U.bL ea c G l ?_;show WG (first:=[.ref a]) (h₀:=X.base) I.ok.mod.Eh G.kp (nx (ha pos pins s1 σ H1 _ U q) λus s2 ⟨vs,H2,L,r,q2⟩=>#[L.bL.jj,?_]) ab ac;show ny (us:=.ref a::us) (vs:=.ref a::vs) F Y hb hd hex L.bL (.cons rfl r) q2
theorem qZ(he:PE X.lI o ta)(c:mZ X.K C)(L:Meth X.K C m f)(F:aM X.prog X.w X.K X.mg X.base (bX X.prog X.w) k f fd ps sp)(U:cX k X.A)(hex:X.ex=[])(hb:Binds X.K fd ps ds)(hd:Vals dvs ds)
  (Y:%[eval (.Call (.Attribute o m apos) [] [] pos) X.env=(do
   let ov <-eval o X.env
   Xk apos.atName
   let (f,first) <-VT [ov] (getMethod ov m pl)
   Xw pos f first (backTo pos (starEach [] X.env)) (V1 pos (U2 [] X.env)))|0]) :
  zV X (.Call (.Attribute o m apos) [] [] pos) (wu C m sp dvs ta zk):=by
 intros Q R I h;show WR (pl:=pl) (nx (he pins s σ H _ (I.fY _) h) λu s1 ⟨x,H1,G,rx,a,dx,fs,ex,Z,l,q⟩=>?_) Y;subst ex;obtain rfl:u=Value.ref a:=rx;show iw G.bL Z c L l ?_;show callWith_K0 (first:=[.ref a]) G.bL.jj L.kp (ny (us:=[.ref a]) (vs:=[.ref a]) F U hb hd hex G.bL (.cons rfl .nil) q)
end
def ou:List Value:=[.type "ValueError",.type "Exception",.type "BaseException",.type "object"]
variable{K:SU}{C:Addr}
theorem FT{I:qa6}{Y:String}(X:K.In h)(q:aas K C I Y=true) :
  ∃bm N nm q bs hdct sn sub ab col dd k0 k1 k2 k3 k5 mN,h.get? C=some (excClassObj nm q C N bs bm hdct sn sub ab col dd k0 k1 k2 k3 k5 Y)/\h.Ns N mN/\mN "__init__" = none/\OwnTail h I bm:=by
 unfold aas at q
 set_option tactic.hygienic true in split at q
 .rename_i dd cd sl ho
  set_option tactic.hygienic true in split at q
  .rename_i C' bm k0 k1 k2 k3 n k5 G hs;simp only[WI,beq_iff_eq,Bool.not_eq_true']at q;let#[#[#[#[#[rfl,rfl],U],Z],F],L]:=q;let#[nm,bs,ad,ns,qn,hd,sn,sub,ab,col,am]:=cd;dsimp only at G U F L;subst G U;let ac:sl = ([k0,k1,k2,k3,some (.builtin n),k5].toArray):=by
    let#[l]:=sl;simp only at hs;rw[hs]
   subst ac;show#[bm,ns,nm,qn,bs,hd,sn,sub,ab,col,dd,k0,k1,k2,k3,k5,_,X _ _ ho,.of_isNs (PySem.W.isNs_of_in X F),PySem.W.nsMap_none_of_in X F L,PySem.W.tail_of_in X Z]
  .cases q
 .cases q
theorem uX{o:HO}(x:b9 P w H h a o):∃F,h.get? a=some F:=by
 cases o with
 |lst xs=>let#[_,_,_,_,e]:=x;show#[_,e]
 |tup xs=>let#[_,_,_,p]:=x;let#[o,e,_]:=p;show#[_,e]
 |dK kvs=>let#[_,_,_,_,o,_,_,e,_]:=x;show#[_,e]
 |dT kvs=>let#[_,_,_,_,o,_,_,e,_]:=x;show#[_,e]
 |set S n=>let#[o,_,_,_,e,_]:=x;show#[_,e]
 |ins C dx fs=>let#[_,_,_,e,_]:=x;show#[_,e]
 |own y=>let#[_,e]:=x;show#[_,e]
 |xd fs=>let#[_,#[_,_,_,e,_],_]:=x;show#[_,e]
 |pV lo hi=>let#[_,_,_,e]:=x;show#[_,e]
 |frz F u=>let#[e,_]:=x;show#[_,e]
 |tbl ps=>show#[_,(show h.get? a=some _ from x)]
 |met f y=>show#[_,(show h.get? a=some _ from x)]
 |ext G=>let#[_,e,_]:=x;show e
variable{h':Heap}
theorem Inv.raised{vs:qa6}(I: ~~~H s)(hex:X.ex=[])(G:Heap.MadeExcOf s.heap h' e cls vs):XP X pins (λad c H'=>ad=σ/\c=cls/\H'=H) (.ref e) { s with heap:=h' }:=by
 let#[t,L,ao,ht]:=G.there;let ac:∀env∈X.stack,∀a,env.frame=some a->a∈p7 X.stack:=λenv L a hf=>Wb.mpr #[env,L,hf];let nf:∀b u,H b=some u->b∉p7 X.stack:=λb u q z=>(by rwa[I.tf b z]at q);let hB:∀b,s.heap.get? b=none->(hideAll s.heap (p7 X.stack)).get? b=none:=λb q=>by
  cases z:(hideAll s.heap (p7 X.stack)).get? b with
  |none=>rfl
  |some o=>rwa[of_hideAll _ z]at q
 show#[e,cls,.ref t,hideAll s.heap (p7 X.stack),σ,H,rfl,.inl #[λb o q=>G.keeps b o (of_hideAll _ q),hB e G.new,?_,2,L,1,1],#[2,L,1],λY tk k u=>?_,I.HL hex G.new ?_,1,rfl]
 .show(PySem.W.funFrames_hide I.stack ac).of_keeps λb o q _=>#[o,G.keeps b o q,rfl]
 .let U:∀b o,s.heap.get? b=some o->b∉p7 X.stack->Y.get? b=some o:=λb o q nb=>k b o (hideAll_get _ q nb);let sl:∀b o,s.heap.get? b=some o->b∈p7 X.stack->∃sl,Y.get? b=some { o with slots:=sl }:=λb o q F=>by
   let#[_,o',ab,hd]:=I.stack.mem F;rwa[q]at ab;show u b o (G.keeps b o q) hd
  show I.C8 (s':={ s with heap:=Y,toks:=tk }) (ch:=[]) rfl #[λb o q n F _=>U b o q F,λb o q n F _=>sl b o q F,λb o q n _=>n,λb o q _=>?_,λb xs q=>q,λb o u q=>q,λb ps q=>#[([].toArray),by rw[q];simp]] (λa o q=>?_) I.bare (λb z=>absurd z (by simp))
  .by_cases F:b∈p7 X.stack
   .let#[am,q']:=sl b o q F;show#[_,q']
   .show#[o,U b o q F]
  .show(I.bC a o q).gD (λc v hc qc=>U c v qc ?_) (λ_ z=>z) λ_ _ z=>z;rcases hc with z|z
   .rw[z];show nf a o q
   .show nf c _ z
 .cases z:H e with
  |none=>rfl
  |some o =>
   let#[ob,Z]:=uX (I.bC e o z);rwa[G.new]at Z
abbrev TJ:=Str->St->Hp->(Str->Hp->Prop)->Prop
def PJ(X:Cx)(vs:qAf)(t:TJ):Prop :=
 ∀(pins:qa1)(s:dM)(σ:St)(H:Hp)(F:Str)(Q:Str->Hp->Prop),~~~H s->t F σ H Q->Joins (model X.prog X.w) X.A X.xe (evalEach vs X.env) F (λout G=>∃H',~~~H' G/\Q out H') s
def Nb:TJ:=λacc _ H Q=>Q acc H
def IP(te:TE)(t:TJ):TJ:=λF σ H Q=>te σ H λx H1=>∃y,x=.str y/\(F++y).length<=sizeLine/\t (F++y) σ H1 Q
theorem ig:PJ X [] Nb:=λ_ s _ H _ _ I h=>show ∃H',_ from#[H,I,h]
variable{v:Tr}{vs:qAf}{te:TE}{t:TJ}
theorem cw(U:PE X v te)(F:PJ X vs t):PJ X (v::vs) (IP te t):=by
 intros ab Q I h;change wpAny _ _ (eval v X.env) _ _ s;show bO (U pins s σ H _ I h) λu G ⟨x,H1,Z,Y,y,ex,L,q⟩=>?_;subst ex;let#[tk,rfl]:=Y;show#[y,tk,rfl,L,F pins G σ H1 _ Q Z q]
variable{pos:Vw}
theorem fU{v2:Tr}(h:PJ X (v::v2::vs) t):PE X (.JoinedStr (v::v2::vs) pos) (λσ H Q=>t Str.empty σ H λout H'=>out.length<=sizeLine/\Q (.str out) H'):=by
 intros Q I q;show wpAny_JoinedStr ?_;let z:=h pins s σ H Str.empty _ I q;let go:∀(l:List (WT Value))(G:Str)(s:dM),Joins (model X.prog X.w) X.A X.xe l G (λout F=>∃H',~~~H' F/\out.length<=sizeLine/\Q (.str out) H') s ->
   Joins (model X.prog X.w) X.A X.xe l G (λout F=>out.length<=sizeLine/\EP X pins σ Q (.str out F.toks) { F with toks:=F.toks+1 }) s:=by
  intro l
  induction l with
  |nil =>
   intro G s ⟨H',I',L,U⟩;show#[L,.str G,H',I'.tok _,#[0],U]
  |cons a r Z =>
   intro G s Y;show bO Y λu F ⟨y,tk,e,L,U⟩=>#[y,tk,e,L,Z _ _ U]
 show go _ _ _ z
theorem pq(G:PE X v te):PE X (.FormattedValue v (-1) none pos) (λσ H Q=>te σ H λx H1=>∃i:Int,x=.int i/\i.natAbs.log2<1920/\Q (.str (toString i)) H1):=by
 intros Q I h;show XE (bO (G pins s σ H _ I h) λu Y ⟨x,H1,U,L,i,ex,F,q⟩=>?_);subst ex;let#[tk,rfl]:=L;show wpAny_formatField_int F #[.str (toString i),H1,U.tok _,#[0],q]
theorem len_app(a b:Str):(a++b).length=a.length+b.length:=strLen_append a b
theorem iu{i:Int}(h:i.natAbs.log2<1920):(toString i:Str).length<=1921:=by
 let e:=int_text_length_le (k:=1920) az h;change(Str.ofString (toString i)).length<=1921;rw[PySem.ofString_length];show e
variable{x:Str}{t:TA}
theorem bE{np cpos:Vw}{e₀:Tr}{es:qAf}(hg:Gl X x)(U:X.mg x=some (.ref C))(hq:aas X.K C ou "ValueError.__new__" = true)(hc:X.calm=true)(hex:X.ex=[])(ha:PA X.lI (e₀::es) t)
  (L:%[starEach (e₀::es) X.env=(false,eval e₀ X.env)::starEach es X.env|0]) (ac:%[(backTo cpos (starEach es X.env)).any (·.1)=false|0]) (hd:%[(x==("__debug__" : Str))=false|0]) :
  Ej X (.Raise (some (.Call (.Name x np) (e₀::es) [] cpos)) none pos) (λD R σ H=>t σ H λvs H1=>vs.length<=sizeLine/\R σ (.ref C) H1):=by
 intros D R I h;let#[tl,N,nm,q,bs,hdct,sn,sub,ab,col,dd,k0,k1,k2,k3,k5,mN,hC,Y,Z,T]:=FT I.ok.mod.Eh hq;show wpAny_Raise_call_subT (C:=C) (nm:=nm) (q:=q) (N:=N) (bs:=bs) (bm:=tl) (hdct:=hdct) (sn:=sn) (sub:=sub) (ab:=ab) (col:=col) (dd:=dd) (k0:=k0) (k1:=k1) (k2:=k2) (k3:=k3) (k5:=k5)
  F.excBase_ValueError (mN:=mN) (T.hasType F.excBase_ValueError.hasBase) (I.ok.hd hc) (by rw[L];change(false||(backTo cpos (starEach es X.env)).any (·.1))=false;rw[ac];rfl) Z (hV I hg U #[3] hd)
 let h2:=ha cpos pins s σ H _ (I.fY _) h;rw[L]at h2 ⊢;show Calls.evalArgs_plain (nx h2 λus s2 ⟨vs,H1,G,r,hl,q1⟩=>#[3,G.bL.bk _ _ hC,Y.keeps G.bL.bk,T.keeps G.bL.bk,λh' e hx=>?_])
 .change us.length<=sizeLine;rw[<-r.length];show hl
 .show(G.bL.raised hex hx).imp λ_ _ _ ⟨a,b,c⟩=>by subst a b c;show q1
variable{E:qa2}{env:X9}{outer:qAg}{L:Addr}{G:Value}{Q:Unit->dM->Prop}
theorem rK(Z:A.frames=some (env::outer)) (F:env.frame=some L) (h:tV B (env::outer) e cls G s.heap\/Heap.FlyingW B (env::outer) e cls G s.heap\/∃L,env.frame=some L/\Heap.HeldW B (env::outer) e cls G L s.heap)
  (I:∀h',Heap.FlyingW B outer e cls G h'->s.heap.UpToSlots h'->Q () { s with heap:=h' }):wpAny M A (leaving env (.ref e)) Q E s:=by
 rcases h with⟨h1,h2,h3,oe,vs,he,hc,hd,h0,ab⟩|h|⟨L',Y,U⟩
 .subst hc;show wpAny_leaving_firstW Z h3 F he h1 h2 hd ab h0 λh' ⟨k1,⟨_,_,k2⟩,k3,k4⟩=>I h' #[k1,h2,k2,k3] k4
 .show wpAny_leaves_onW Z F h I
 .rw[F]at Y;cases Y;let#[g1,g2,g3,g4]:=id U;show ti (Yw F g4 (wpAny_landsW U λh' fl up=>I h' #[fl.1,fl.2.1,?_,fl.2.2.2] up));show(show h'.FunFrames B (env::outer)from fl.2.2.1).2.2
variable{F:Value}
theorem tN(Y:A.frames=some (env::outer)) (I:env.frame=some L) (h:tV B (env::outer) e cls F s.heap\/Heap.FlyingW B (env::outer) e cls F s.heap\/∃L,env.frame=some L/\Heap.HeldW B (env::outer) e cls F L s.heap) (c:C2 e s.heap)
  (U:∀h',Heap.FlyingW B outer e cls F h'->s.heap.UpToSlots h'->C2 e h'->Q () { s with heap:=h' }):wpAny M A (leaving env (.ref e)) Q E s :=
 TY ((xC env (.ref e)).any (E:=λ_ _=>False) (rK (Q:=λ_ s'=>∃h',s'={ s with heap:=h' }/\Heap.FlyingW B outer e cls F h'/\s.heap.UpToSlots h') Y I h λh' f u=>#[h',rfl,f,u]) c)
  (λ_ s' ⟨⟨h',G,f,u⟩,Z⟩=>by subst G;show U h' f u Z) λ_ _ z=>z.1.elim
variable{mg:qa3}{base:Heap}{st:Tg}{f:Addr}{fd:DD}{N ps:qAb}{sp:Sp}
theorem bM.Sx{U:Str}{k:Nat}(F:bM K x U st f fd)(S:ax N ps (ak st))(len:∀vs H Q E,sp vs H Q E->vs.length=ps.length)
  (am:∀(G:Value)(A:Th)(outer:qAg)(s:dM)(H:Hp)(vs:qAh)(Q:VK)(E:XK),cX k (A.deeper (Xx U (ak st) s⁻¹ f G))->sp vs H Q E ->
   ∃t,oC (tj (bX P w) P w K mg base N U (ak st) f G A outer s H E) (di st) t/\t { nx:=λ_ H'=>Q .a7 H',rt:=Q } (λ_ cls H'=>E cls none H') (start N vs) H):⇑aM (k+1) f fd ps sp:=by
 let#[oc,od,kV,as,pm,an,G,ct,ar,rfl,lk,ad]:=F.ex;show Hr lk ad S len λA outer s H vs Q E hr ao=>?_;let#[t,h,q]:=am G A outer s H vs Q E hr ao;show#[λD σ H'=>t D (λ_ cls H'=>E cls none H') σ H',λpins s1 σ H1 D I q1=>?_,q];show TY (h pins s1 σ H1 D _ I q1) (λ_ _ z=>z) λv Z hx=>?_;let#[e,cls,a0,B,aB,H2,rfl,fl,c2,be,ab,hE]:=hx;let gD:B.StaysIn Z.heap:=by
  rcases fl with z|z|⟨_,_,z⟩
  .show z.1
  .show z.1
  .show z.1
 let Y:=be.now gD;show tN (L:=s⁻¹) Y.ok.frames rfl fl c2 λh' ac up c3=>?_;show#[e,cls,a0,B,H2,rfl,Y.os,Y.bare,ab.old,ab.free,ac,c3,λap k u=>(λJ=>#[J.base,J.bC]) (be ap Z.toks k (up.trans u)),hE]
theorem bM.dX{qual:Str}{k:Nat}(F:bM K x qual st f fd)(S:ax N ps (ak st))
  (hb:∀(cdv:Value)(A:Th)(outer:qAg)(s:dM)(H:Hp)(vs:qAh)(Q:VK)(E:XK)(hr:cX k (A.deeper (Xx qual (ak st) s⁻¹ f cdv)))(h:sp vs H Q E),∃t,oC (tj (bX P w) P w K mg base N qual (ak st) f cdv A outer s H E) (di st) t/\t { nx:=λ_ H'=>Q .a7 H',rt:=Q } (λ_ cls H'=>E cls none H') (start N vs) H) (len:autoParam (∀vs H Q E,sp vs H Q E->vs.length=ps.length) bM.cU._auto_1):⇑aM (k+1) f fd ps sp:=F.Sx S len hb
noncomputable abbrev Cx.hand(X:Cx)(e:Addr):Cx:={ X with A:=X.A.mark (some (.ref e)),calm:=false }
theorem Cx.Ok.hand(ok:X.Ok)(e:Addr):(X.hand e).Ok :=
 #[ok.mod,ok.kind,ok.glob,ok.blt,ok.above,ok.inj,ok.has,ok.Jy,(λz=>Bool.noConfusion z),ok.frames,ok.Lq,ok.Of,ok.bs,ok.AM,ok.wz,ok.xD,ok.jN,ok.Fi]
theorem Inv.hand(I: ~~~H s)(e:Addr):Inv (X.hand e) pins σ H s:=#[I.ok.hand e,I.os,I.bare,I.base,I.loc,I.cell,I.free,I.fJ,I.pin,I.bC,I.len]
theorem Inv.Jk(I:Inv (X.hand e) pins σ H s)(ok:X.Ok): ~~~H s:=#[ok,I.os,I.bare,I.base,I.loc,I.cell,I.free,I.fJ,I.pin,I.bC,I.len]
theorem Inv.Jd(I: ~~~H s)(n:AE X pins H e)(x:∃o,s.heap.get? e=some o/\o.cls=cls): ~~~(upd H e (xo e cls)) s:=by
 let ne:∀b o,H b=some o->b≠e:=λb o q=>aV q n.free;show#[I.ok,I.os,I.bare,#[I.base.keep,I.base.slot,λb o q nn U=>?_,I.base.there,λb xs q=>?_,λb o u q=>?_,λb ps q=>?_],I.loc,I.cell,?_,λy c q=>?_,λp F=>?_,λb u q=>?_,I.len]
 .rw[au (λz=>by rwa[z,n.old]at q)];show I.base.free b o q nn U
 .let z:=I.base.oM b xs q;rw[au (ne _ _ z)];show z
 .let z:=I.base.mH b o u q;rw[au (ne _ _ z)];show z
 .let#[Y,z]:=I.base.oB b ps q;show#[Y,by rw[au (ne _ _ z)];show z]
 .rw[au (Ne.symm n.loc)];show I.free
 .rw[au (n.cell y c q)];show I.fJ y c q
 .let#[L,a2,Z]:=I.pin p F;show#[L,by rw[au (n.pin p F)];show a2,Z]
 .by_cases G:b=e
  .subst G;rwa[ag]at q;show M7 x
  .rw[au G]at q;show(I.bC b u q).gD (λ_ _ _ z=>z) (λc z=>by rw[au (ne _ _ z)];show z) λc xs z=>by rw[au (ne _ _ z)];show z
theorem Inv.unset{i:Nat}{n:Str}{m:qa3}{v:qa7}{tk:Nat}(I: ~~~H s)(hN:X.N.Nodup)(hi:X.N[i]?=some n)(hl:X.env.kindOf n=some .local)
  (hm:s.heap.Ns X.env.locals m) (ac:∀(i:Nat)(x:Str)(v:V),X.N[i]?=some x->σ[i]?=some (some v)->NG X.env.scope x->∃u,RelV v u/\Look X.env s.heap m x u)
  (hn:h'.Ns X.env.locals (λx=>if x=n then v else m x)) (hs:Heap.SameBut X.env.locals s.heap h'):Inv X pins (σ.set i none) H { s with heap:=h',toks:=tk }:=by
 let ab:i<σ.length:=(by rw[I.len];show(y0.mp hi).1);let Dp:=I.Dp;let Z:∀b o,X.s₀.heap.get? b=some o->b≠X.env.locals:=λb o e=>Ul (Tz (Heap.lt_size e) I.ok.above);show#[I.ok,I.os,I.bare,#[λb o e n hb L=>?_,λb o e n hb L=>?_,I.base.free,λb o e L=>?_,I.base.oM,I.base.mH,I.base.oB],#[_,hn,λj y v' F U e3=>?_],λy c e=>?_,I.free,I.fJ,λp hp=>?_,λb ob e=>?_,by simpa using I.len]
 .show(hs.2 b (Z b o e)).trans (I.base.keep b o e n hb L)
 .let#[sl,F]:=I.base.slot b o e n hb L;show#[sl,(hs.2 b (Z b o e)).trans F]
 .let#[o',F]:=I.base.there b o e L;show#[o',(hs.2 b (Z b o e)).trans F]
 .by_cases Y:j=i
  .subst Y;rwa[UI ab]at U
  .rw[Uo (Ne.symm Y)]at U;let#[u',r',q]:=ac j y v' F U e3;show#[u',r',?_];rcases q with⟨k,e⟩|⟨k,c,e,z⟩
   .show .inl #[k,?_];have:y≠n:=λe=>Y (nZ hN F (e▸hi));simp[this,e]
   .show .inr #[k,c,e,z.sameBut hs (Dp y c e)]
 .let#[w',z]:=I.cell y c e;show#[w',z.sameBut hs (Dp y c e)]
 .let#[e,n,ne,nf,d]:=I.pin p hp;show#[(hs.2 p.1 ne).trans e,n,ne,nf,d]
 .show(I.bC b ob e).gD (λc w' G q=>(hs.2 c ?_).trans q) (λ_ q=>q) λ_ _ q=>q;rintro rfl;rcases G with G|G
  .rw[<-G,I.free]at e;cases e
  .rw[I.free]at G;cases G
theorem tT(ab:A.frames=some (env::outer)) (F:env.frame=some L) (h:tV B (env::outer) e cls G s.heap\/Heap.FlyingW B (env::outer) e cls G s.heap\/∃L,env.frame=some L/\Heap.HeldW B (env::outer) e cls G L s.heap)
  (I:∀h',Heap.HeldW B (env::outer) e cls G L h'->s.heap.UpToSlots h'->Q () { s with heap:=h' }):wpAny M A (noteFrame (.ref e) env) Q E s:=by
 rcases h with⟨h1,h2,h3,oe,vs,he,hc,hd,h0,Y⟩|h|⟨L',Z,U⟩
 .subst hc;unfold noteFrame;simp only[F];show ti (Vu he hd Y ?_);rw[aa2 az];show wpAny_entryW ab h3 F he h1 h2 hd (XG.mp Y).1 h0 λh' ⟨k1,k2,k3,k4⟩=>I h' #[k1,h2,k2,k3] k4
 .show wpAny_looks_onW ab F h I
 .rw[F]at Z;cases Z;show Yw F U.2.2.2 (I s.heap U (Heap.UpToSlots.refl _))
theorem oE(Y:A.frames=some (env::outer)) (I:env.frame=some L) (h:tV B (env::outer) e cls F s.heap\/Heap.FlyingW B (env::outer) e cls F s.heap\/∃L,env.frame=some L/\Heap.HeldW B (env::outer) e cls F L s.heap) (c:C2 e s.heap)
  (U:∀h',Heap.HeldW B (env::outer) e cls F L h'->s.heap.UpToSlots h'->C2 e h'->Q () { s with heap:=h' }):wpAny M A (noteFrame (.ref e) env) Q E s :=
 TY ((yl (.ref e) env).any (E:=λ_ _=>False) (tT (Q:=λ_ s'=>∃h',s'={ s with heap:=h' }/\Heap.HeldW B (env::outer) e cls F L h'/\s.heap.UpToSlots h') Y I h λh' f u=>#[h',rfl,f,u]) c)
  (λ_ s' ⟨⟨h',G,f,u⟩,Z⟩=>by subst G;show U h' f u Z) λ_ _ z=>z.1.elim
variable{l:qAg}
theorem Hf(I:Heap.HeldW B l e cls F L s.heap)(c:C2 e s.heap)
  (U:∀h',Heap.FlyingW B l e cls F h'->s.heap.UpToSlots h'->C2 e h'->Q () { s with heap:=h' }):wpAny M A (setFlight (.ref e) none) Q E s :=
 TY ((lD (.ref e) none).any (E:=λ_ _=>False) (wpAny_landsW (Q:=λ_ s'=>∃h',s'={ s with heap:=h' }/\Heap.FlyingW B l e cls F h'/\s.heap.UpToSlots h') I λh' f u=>#[h',rfl,f,u]) c)
  (λ_ s' ⟨⟨h',G,f,u⟩,Y⟩=>by subst G;show U h' f u Y) λ_ _ z=>z.1.elim
theorem B7(I:Heap.FlyingW B l e cls F s.heap)(c:C2 e s.heap)
  (L:∀h',Heap.FlyingW B l e cls F h'->s.heap.UpToSlots h'->C2 e h'->Q () { s with heap:=h' }):wpAny M A (setFlight (.ref e) none) Q E s :=
 TY ((lD (.ref e) none).any (E:=λ_ _=>False) (lands_againW (Q:=λ_ s'=>∃h',s'={ s with heap:=h' }/\Heap.FlyingW B l e cls F h'/\s.heap.UpToSlots h') I λh' f u=>#[h',rfl,f,u]) c)
  (λ_ s' ⟨⟨h',G,f,u⟩,U⟩=>by subst G;show L h' f u U) λ_ _ z=>z.1.elim
def LN(i:Nat)(D:Ends):Ends:={ nx:=λσ H=>D.nx (σ.set i none) H,rt:=D.rt,bk:=λσ H=>D.bk (σ.set i none) H,ct:=λσ H=>D.ct (σ.set i none) H }
def QM(K:SU)(C:Addr)(i:Nat)(tb:pX)(ts:TS):TS:=λD σ H=>tb D (λF cls H'=>exmOne K cls (.ref C)=some true/\∀e,H' e=none->ts (LN i D) (F.set i (some (.ref e))) (upd H' e (xo e cls))) σ H
section
theorem IA{i:Nat}{n:Str}{np hpos:Vw}{body suite:List Tg}{b₀:Tg}{tb:pX}{ts:TS}(hex:X.ex=[])(aB:X.stack=X.env::X.outer)(hf:X.env.frame=some X.env.locals)(hg:Gl X x)(hm:X.mg x=some (.ref C))(hN:X.N.Nodup)(hi:X.N[i]?=some n)(hl:X.env.scope.names.lookup n=some .local)
  (hb:oC X body tb) (hs:∀e,tI (X.hand e).lI (b₀::suite) ts) (hd:%[(x==("__debug__" : Str))=false|0]) :
  PS X (.Try body [.ExceptHandler (some (.Name x np)) (some n) (b₀::suite) hpos] [] [] pos) (QM X.K C i tb ts):=by
 intros D I h;show wpAny_Try_except (TY (hb pins s σ H D _ I h) (λf Z q=>?_) λv Z hx=>?_)
 .cases f with
  |next=>show UW q
  |ret v=>show q
  |brk=>show q
  |cont=>show q
 let#[e,cls,a0,B,bb,H1,rfl,fl,c2,be,ap,a1,hk]:=hx;let gD:B.StaysIn Z.heap:=by
  rcases fl with z|z|⟨_,_,z⟩
  .show z.1
  .show z.1
  .show z.1
 let I1:=be.now gD;let ao:=I1.ok.frames;rw[aB]at fl ao;let as:=I1.ok;show oE ao hf fl c2 λh4 held a5 c4=>?_;show Hf held c4 λh5 ac a4 c5=>?_;let am:=a5.trans a4;let I5:=(be h5 Z.toks ac.1 am).hand e;let#[ob,a6,aK]:=ac.there;show wpAny_handleBy_cons (codeAny_handlers_test (hV (X:=X.hand e) I5 hg hm ?_ hd)) (by intro q;cases q);let LT:Ze (model X.prog X.w) h5 (Ys (.ref e)) cls:=aK▸(aaz a6).andThen .now;show(PySem.W.exm_one I5.jj LT a1).here (s:={ Z with heap:=h5 }) ?_;show codeAny_handlers_suite_as ?_;show B7 ac c5 λh6 ad ar c6=>?_;let I6:=be h6 Z.toks ad.1 (am.trans ar);let a2:=(I6.Jd (cls:=cls) ap ad.there).hand e;show j6 (X:=X.hand e) (v:=.ref e) a2 hN hi (.inl hl) rfl (λs7 I7=>?_) (.inr hl);show nx (hs e pins s7 _ _ _ (I7.fY _) (hk e ap.free)) λf s8 hq=>?_;let fin:∀{G:St}{U:Hp}{Q:dM->Prop},Inv (X.hand e).lI pins G U s8->(∀L,Inv X pins (G.set i none) U L->Q L) ->
   ↑(do bindName X.env n .none;unbindBehindTheSuite X.env n hpos) (λ_ L=>Q L) X.xe s8:=λ{G U Q} F k=>by
  let ab:Inv X pins G U s8:=(F.bL).Jk as;let#[m,hn,a3]:=ab.loc;show wpAny_nameGoes_keeps hl hn (by rw[ab.ok.kind];rfl) λh' v ba aT=>k _ (ab.unset hN hi hl hn a3 ba aT)
 cases f with
 |next =>
  let#[G,U,F,q]:=hq;show fin F λL Y=>#[2,Y,q]
 |brk =>
  let#[G,U,F,q]:=hq;show fin F λL Y=>#[2,Y,q]
 |cont =>
  let#[G,U,F,q]:=hq;show fin F λL Y=>#[2,Y,q]
 |ret u =>
  let#[v,G,U,F,rv,q]:=hq;show fin F λL Y=>#[v,2,Y,rv,q]
variable{κ:Type}[DecidableEq κ]
noncomputable def jm(kvs:List (κ×V))(k:κ):Option V:=(kvs.find? λF=>decide (F.1=k)).map (·.2)
noncomputable def putK(kvs:List (κ×V))(k:κ)(v:V):List (κ×V):=
 if (kvs.any λF=>decide (F.1=k))=true then kvs.map (λF=>if F.1=k then(F.1,v)else F)else kvs++[(k,v)]
noncomputable def pP(kvs:List (κ×V))(k:κ):List (κ×V):=kvs.filter λF=>decide (F.1≠k)
theorem kq{p:κ×V}{r:List (κ×V)}{k:κ}(e:p.1=k):jm (p::r) k=some p.2:=by simp[jm,WL,e]
theorem kh{p:κ×V}{r:List (κ×V)}{k:κ}(e:¬ p.1=k):jm (p::r) k=jm r k:=by simp[jm,WL,e]
theorem ki(k:κ):∀kvs:List (κ×V),(kvs.any λF=>decide (F.1=k))=(jm kvs k).isSome
 | []=>rfl
 |p::r=>by
  rw[ZS];cases e:p.1=k
  .simp only[kq e,decide_eq_true e,Bool.true_or,Option.isSome_some]
  .rw[kh e,decide_eq_false e,aaT];show ki k r
theorem iL(kvs:List (κ×V))(k:κ)(v:V):(putK kvs k v).length<=kvs.length+1:=by
 unfold putK;split
 .rw[rz];omega
 .rw[wh,TH,Yt];omega
theorem BQ{kvs:List (κ×V)}{k:κ}(v:V)(h:jm kvs k=none):putK kvs k v=kvs++[(k,v)]:=by
 unfold putK;rw[ki,h];show aa2 az
variable{o:Option V}{u:qa7}
theorem h9.hU(r:h9 o u):o.isSome=u.isSome:=by
 cases o with
 |none=>cases u with
  |none=>rfl
  |some _=>show(show False from r).elim
 |some _=>cases u with
  |none=>show(show False from r).elim
  |some _=>rfl
theorem h9.getD{d:V}{d':Value}(r:h9 o u)(rd:RelV d d'):RelV (o.getD d) (u.getD d'):=by
 cases o with
 |none=>cases u with
  |none=>show rd
  |some _=>show(show False from r).elim
 |some _=>cases u with
  |none=>show(show False from r).elim
  |some _=>show r
theorem KV.val{kvs:List (κ×V)}{vs:List (κ×Value)}(r:KV kvs vs)(k:κ):h9 (jm kvs k) (Yx vs k):=by
 unfold KV at r
 induction r with
 |nil=>show UN
 | @cons p q ps qs h t G =>
  let#[h1,h2]:=h;cases e:p.1=k
  .let F:q.1=k:=h1.symm.trans e;let b:Yx (q::qs) k=some q.2:=(by simp[Yx,WL,F]);rw[kq e,b];show h2
  .let F:¬ q.1=k:=λz=>e (h1.trans z);let b:Yx (q::qs) k=Yx qs k:=(by simp[Yx,WL,F]);rw[kh e,b];show G
theorem KV.any{kvs:List (κ×V)}{vs:List (κ×Value)}(r:KV kvs vs)(k:κ):(kvs.any λF=>decide (F.1=k))=vs.any λF=>decide (F.1=k):=by
 unfold KV at r
 induction r with
 |nil=>rfl
 |cons h t G=>rw[ZS,ZS,G,h.1]
variable{y:V}{u:Value}
theorem KV.KG{kvs:List (κ×V)}{vs:List (κ×Value)}(r:KV kvs vs)(k:κ)(G:RelV y u) :
  KV (kvs.map λF=>if F.1=k then(F.1,y)else F) (vs.map λF=>if F.1=k then(F.1,u)else F):=by
 unfold KV at r ⊢
 induction r with
 |nil=>show .nil
 | @cons p q ps qs h t I =>
  rw[T8,T8];show .cons ?_ I;let#[h1,h2]:=h;cases e:p.1=k
  .rw[aa3 e,aa3 (h1.symm.trans e)];show#[h1,G]
  .rw[aa2 e,aa2 (λz=>e (h1.trans z))];show#[h1,h2]
theorem KV.put{kvs:List (κ×V)}{vs:List (κ×Value)}(r:KV kvs vs)(k:κ)(F:RelV y u):KV (putK kvs k y) (stored vs k u):=by
 unfold putK stored;rw[r.any k];cases e:(vs.any λG=>decide (G.1=k))=true
 .rw[aa3 e,aa3 e];show r.KG k F
 .rw[aa2 e,aa2 e];show Paired.snoc r #[rfl,F]
theorem KV.drop{kvs:List (κ×V)}{vs:List (κ×Value)}(r:KV kvs vs)(k:κ):KV (pP kvs k) (without vs k):=by
 unfold KV at r ⊢;unfold pP without
 induction r with
 |nil=>show .nil
 | @cons p q ps qs h t F =>
  let#[h1,h2]:=h;rw[WY,WY];cases e:p.1=k
  .let a:¬ decide (p.1≠k)=true:=(by simp[e]);let b:¬ decide (q.1≠k)=true:=(by simp[h1.symm.trans e]);rw[aa2 a,aa2 b];show F
  .let G:¬ q.1=k:=λz=>e (h1.trans z);let a:decide (p.1≠k)=true:=(by simp[e]);let b:decide (q.1≠k)=true:=(by simp[G]);rw[aa3 a,aa3 b];show .cons #[h1,h2] F
theorem KV.keys{kvs:List (κ×V)}{vs:List (κ×Value)}(r:KV kvs vs):kvs.map (·.1)=vs.map (·.1):=by
 unfold KV at r
 induction r with
 |nil=>rfl
 |cons h t F=>rw[T8,T8,F,h.1]
theorem KV.length{kvs:List (κ×V)}{vs:List (κ×Value)}(r:KV kvs vs):kvs.length=vs.length:=Paired.length r
theorem BB(kvs:List (κ×V))(k:κ):(pP kvs k).length<=kvs.length:=UG _ _
end
variable{u:Value}
theorem j4{k:Key}(r:RelV (kV k) u):(bS P w).is k u=true:=by
 cases k with
 |inl i=>let#[t,e]:=(show ∃t,u=Value.int i t from r);subst e;show uB P w i t
 |inr x=>let#[t,e]:=(show ∃t,u=Value.str x t from r);subst e;show uw P w x t
theorem qD{P:By}{w:R4}:∀{ks:List Key}{us:qa6},Vals (ks.map kV) us->ItemsAre (bS P w) ks us
 | [],_,r=>by rwa[map_nil]at r;show .nil
 |k::ks,_,r=>by
  rw[T8]at r;cases r with
  |cons h t=>show .cons (j4 h) (qD t)
abbrev KT(H:Hp):List (List Key×V)->List (List Key×Addr×Value)->Prop:=Paired λp q=>p.1=q.1/\H q.2.1=some (.tup (p.1.map kV))/\RelV p.2 q.2.2
variable{kvs:List (List Key×V)}{xs:List (List Key×Addr×Value)}
theorem KT.val(r:KT H kvs xs)(k:List Key):h9 (jm kvs k) ((aat xs k).map (·.2)):=by
 induction r with
 |nil=>show UN
 | @cons p q ps qs h t G =>
  let#[h1,_,h2]:=h;cases e:p.1=k
  .let F:q.1=k:=h1.symm.trans e;let b:aat (q::qs) k=some q.2:=(by simp[aat,WL,F]);rw[kq e,b];show h2
  .let F:¬ q.1=k:=λz=>e (h1.trans z);let b:aat (q::qs) k=aat qs k:=(by simp[aat,WL,F]);rw[kh e,b];show G
variable{y:V}
theorem KT.KG(r:KT H kvs xs)(k:List Key)(G:RelV y u) :
  KT H (kvs.map λF=>if F.1=k then(F.1,y)else F) (xs.map (putAt k u)):=by
 induction r with
 |nil=>show .nil
 | @cons p q ps qs h t I =>
  rw[T8,T8];show .cons ?_ I;let#[h1,h2,L]:=h;unfold putAt;cases e:p.1=k
  .rw[aa3 e,aa3 (h1.symm.trans e)];show#[h1,h2,G]
  .rw[aa2 e,aa2 (λz=>e (h1.trans z))];show#[h1,h2,L]
theorem KT.put(r:KT H kvs xs)(k:List Key){b:Addr}(I:H b=some (.tup (k.map kV)))(F:RelV y u) :
  KT H (putK kvs k y) (storedH xs k b u):=by
 let e:(kvs.any λG=>decide (G.1=k))=(aat xs k).isSome:=by
  rw[ki,(r.val k).hU,Zx]
 unfold putK storedH;rw[e];cases q:(aat xs k).isSome=true
 .rw[aa3 q,aa3 q];show r.KG k F
 .rw[aa2 q,aa2 q];show Paired.snoc r #[rfl,I,F]
theorem KT.keeps(r:KT H kvs xs)(F:∀b ys,H b=some (.tup ys)->H' b=some (.tup ys)):KT H' kvs xs :=
 Paired.tS r λ_ _ z=>#[z.1,F _ _ z.2.1,z.2.2]
theorem Hh{u:HO}(ok:jy P w H h)(e:Rd H a u):b9 P w H h a u:=e.ok ok
variable{kvs:qAi}
theorem kI(ok:jy P w H h)(e:Rd H a (.dK kvs)):kvs.length<=sizeLine/\(a==Vl)=false/\∃vs,KV kvs vs/\h.DictOf (bS P w) a vs :=
 show b9 P w H h a (.dK kvs)from Hh ok e
theorem uK(ok:jy P w H h)(e:H a=some (.dK kvs)):kvs.length<=sizeLine/\(a==Vl)=false/\∃vs,KV kvs vs/\h.DictOf (bS P w) a vs:=kI ok (.inl e)
theorem jK{ks:List Key}(ok:jy P w H h)(e:H a=some (.tup (ks.map kV))):(Xp (bS P w)).is h ks a:=by
 let#[_,its,r,o,h1,h2,n,F]:=(show b9 P w H h a (.tup (ks.map kV))from ok a _ e);show#[o,its.toArray,n,h1,h2,F,by simpa using qD r]
variable{kvs:List (List Key×V)}
theorem l9(ok:jy P w H h)(e:Rd H a (.dT kvs)):kvs.length<=sizeLine/\(a==Vl)=false /\
  ∃xs,KT H kvs xs/\h.DictOfH (Xp (bS P w)) a xs:=by
 let#[z,y,xs,r,o,es,ep,h1,h2,Y,L,U]:=(show b9 P w H h a (.dT kvs)from Hh ok e);show#[z,y,xs,r,o,es,ep,h1,h2,Y,L,λx F=>?_,U];let all:∀{l:List (List Key×V)}{m:List (List Key×Addr×Value)},KT H l m->∀x∈m,(Xp (bS P w)).is h x.1 x.2.1:=by
  intro l m q
  induction q with
  |nil=>intro x F;show nomatch F
  | @cons p q ps qs G t I =>
   intro x F;rcases Ti.mp F with e|F
   .subst e;show jK ok (by rw[<-G.1];show G.2.1)
   .show I x F
 show all r x F
theorem Mo(ok:jy P w H h)(e:H a=some (.dT kvs)):kvs.length<=sizeLine/\(a==Vl)=false /\
  ∃xs,KT H kvs xs/\h.DictOfH (Xp (bS P w)) a xs:=l9 ok (.inl e)
def eU(H:Hp)(a:Addr)(y:V)(r:Option V):Prop :=
 (∃kvs k,Rd H a (.dK kvs)/\y=kV k/\r=jm kvs k)\/∃kvs k b,Rd H a (.dT kvs)/\y=.ref b/\H b=some (.tup (k.map kV))/\r=jm kvs k
def jJ(H:Hp)(a:Addr)(y v:V)(H':Hp):Prop :=
 (∃kvs k,H a=some (.dK kvs)/\y=kV k/\kvs.length<sizeLine/\H'=upd H a (.dK (putK kvs k v))) \/
 ∃kvs k b,H a=some (.dT kvs)/\y=.ref b/\H b=some (.tup (k.map kV))/\kvs.length<sizeLine/\H'=upd H a (.dT (putK kvs k v))
variable{kvs:qAi}
theorem eU.k{k:Key}(e:H a=some (.dK kvs)):eU H a (kV k) (jm kvs k):=.inl #[kvs,k,.inl e,1]
theorem jJ.k{k:Key}{v:V}(e:H a=some (.dK kvs))(F:kvs.length<sizeLine):jJ H a (kV k) v (upd H a (.dK (putK kvs k v))):=.inl #[kvs,k,e,rfl,F,rfl]
section
theorem Inv.big(I: ~~~H s):Vl<s⁻¹:=by
 let h:To<s⁻¹:=(I.mod.glob.keeps I.bk).lt;show aaN az h
variable{v:V}{Q:qa2}
theorem qV(hu:A.units+1<V0)(I: ~~~H s)(g:eU H a y (some v))(Z:RelV y u)(h:∀F s',~~~H s'->RelV v F->Q F s') :
  wpAny (model X.prog X.w) A (ZQ (.ref a) u) Q E s:=by
 rcases g with⟨kvs,k,e,U,l⟩|⟨kvs,k,b,e,U,eb,l⟩
 .subst U;let#[z,hd,vs,G,dd]:=kI I.bC e;let#[F,L,Y]:=h9.some_of (v:=v) (o:=Yx vs k) (by rw[l];show G.val k);show wpAny_getItem_of (j4 Z) dd.mapOf L (h F _ (I.tok _) Y)
 .subst U;cases(show u=Value.ref b from Z);let#[z,hd,xs,G,dd]:=l9 I.bC e;let#[F,L,Y]:=h9.some_of (v:=v) (o:=(aat xs k).map (·.2)) (by rw[l];show G.val k);let#[p,hp,ab]:=SV.mp L;show wpAny_getItem_heap (Va hu) (jK I.bC eb) dd hp ?_;rw[ab];show h F _ (I.tok _) Y
variable{o:Option V}
theorem OW(U:A.units+1<V0)(I: ~~~H s)(g:eU H a y o)(L:RelV y u)(h:∀s',~~~H s'->Q (.bool o.isSome) s') :
  wpAny (model X.prog X.w) A (Uz .In u (.ref a)) Q E s:=by
 rcases g with⟨kvs,k,e,G,l⟩|⟨kvs,k,b,e,G,Y,l⟩
 .subst G;let#[z,hd,vs,F,dd]:=kI I.bC e;show wpAny_in_of (j4 L) hd dd.mapOf ?_;rw[<-(F.val k).hU, <-l];show h _ (I.tok _)
 .subst G;cases(show u=Value.ref b from L);let#[z,hd,xs,F,dd]:=l9 I.bC e;show wpAny_in_heap (Va U) (jK I.bC Y) hd dd ?_;let q:=(F.val k).hU;rw[Zx]at q;rw[<-q, <-l];show h _ (I.tok _)
theorem ES(U:A.units+1<V0)(I: ~~~H s)(g:eU H a y o)(L:RelV y u)(h:∀s',~~~H s'->Q (.bool (!o.isSome)) s') :
  wpAny (model X.prog X.w) A (Uz .NotIn u (.ref a)) Q E s:=by
 rcases g with⟨kvs,k,e,G,l⟩|⟨kvs,k,b,e,G,Y,l⟩
 .subst G;let#[z,hd,vs,F,dd]:=kI I.bC e;show wpAny_notIn_of (j4 L) hd dd.mapOf ?_;rw[<-(F.val k).hU, <-l];show h _ (I.tok _)
 .subst G;cases(show u=Value.ref b from L);let#[z,hd,xs,F,dd]:=l9 I.bC e;show wpAny_notIn_heap (Va U) (jK I.bC Y) hd dd ?_;let q:=(F.val k).hU;rw[Zx]at q;rw[<-q, <-l];show h _ (I.tok _)
theorem nG{t':Nat}{F:HO}(I: ~~~H s)(L:Nx (H a))(hs:Heap.SameBut a s.heap h')(Y:∃q,h'.get? a=some q)(U:b9 X.prog X.w (upd H a F) h' a F) :
  ~~~(upd H a F) { s with heap:=h',toks:=t' }:=
 I.write (x:=a) (e:=a) L (.inl rfl) (λb q G z=>(hs.2 b G).trans z) Y U
theorem vP{vs:List (Key×Value)}(z:kvs.length<=sizeLine)(hd:(a==Vl)=false)(F:KV kvs vs)(dd:h'.DictOf (bS P w) a vs) :
  b9 P w H' h' a (.dK kvs):=#[z,hd,vs,F,dd]
theorem qC{r:Value}{Q:Unit->dM->Prop}(hu:A.units+1<V0)(I: ~~~H s)(g:jJ H a y v H')(ry:RelV y u)(rv:RelV v r)(h:∀s',~~~H' s'->Q () s') :
  wpAny (model X.prog X.w) A (setItem (.ref a) u r) Q E s:=by
 rcases g with⟨kvs,k,e,U,l,eH⟩|⟨kvs,k,b,e,U,eb,l,eH⟩
 .subst U eH;let#[z,hd,vs,F,dd]:=uK I.bC e;let Y:vs.length<=sizeLine:=(by rw[<-F.length];show z);let Z:(putK kvs k v).length<=sizeLine:=(by have:=iL kvs k v;omega);show wpAny_setItem_pairs (hsz:=Y) (j4 ry) dd λh' L hs=>h _ ?_;let he:∃q,h'.get? a=some q:=let ⟨q,_,_,G,_⟩:=L;#[q,G];show nG I (by rw[e];show UN) hs he (vP Z hd (F.put k rv) L)
 .subst U eH;cases(show u=Value.ref b from ry);let#[z,hd,xs,F,dd]:=Mo I.bC e;let Y:xs.length<=sizeLine:=(by rw[<-Paired.length F];show z);let Z:(putK kvs k v).length<=sizeLine:=(by have:=iL kvs k v;omega);show wpAny_setItem_heap (hsz:=Y) (Va hu) (jK I.bC eb) dd λh' L hs=>h _ ?_;let#[q,es,ep,G,h2,h3,h4,_,h5]:=L;show nG I (by rw[e];show UN) hs #[q,G] #[Z,hd,_,(F.put k eb rv).keeps λc ys ec=>?_,q,es,ep,G,h2,h3,h4,h5];rw[au (qL ec e (λz=>nomatch z))];show ec
variable{kvs:qAi}{k:Key}
theorem NB{G:qa6}(I: ~~~H s)(e:H a=some (.dK kvs))(U:RelV (kV k) u)(l:jm kvs k=some v)(Z:G=[]\/∃x,G=[x])
  (h:∀L s',~~~(upd H a (.dK (pP kvs k))) s'->RelV v L->Q L s'):wpAny (model X.prog X.w) A (call (.builtin "dict.pop") (.ref a::u::G)) Q E s:=by
 let#[z,hd,vs,Y,dd]:=uK I.bC e;let#[L,hw,ac]:=h9.some_of (v:=v) (o:=Yx vs k) (by rw[<-l];show Y.val k);let hp:(keyPart u).isSome=true:=by
  cases k with
  |inl i=>let#[t,q]:=(show ∃t,u=Value.int i t from U);subst q;rfl
  |inr x=>let#[t,q]:=(show ∃t,u=Value.str x t from U);subst q;rfl
 let ha:argsOk "dict.pop" #[.ref a::u::G,[]]:=by
  rcases Z with q|⟨x,q⟩
  .subst q;show PySem.F.args_dict_pop_2 _ _
  .subst q;show PySem.F.args_dict_pop_3 _ _ _
 show Xn YK dd.typeIs PySem.F.entry_dict_pop ha (meets_dict_pop_there (bS X.prog X.w) a (j4 U) G Z hp)
  #[vs,L,dd,by rw[<-Y.length];show z,hw,λh' ab hs=>h L _ ?_ ac]
 let he:∃q,h'.get? a=some q:=let ⟨q,_,_,hq,_⟩:=ab;#[q,hq];show nG I (by rw[e];show UN) hs he (vP (Td (BB kvs k) z) hd (Y.drop k) ab)
theorem MA(I: ~~~H s)(e:Rd H a (.dK kvs))(h:∀t s',~~~H s'->Q (.int kvs.length t) s'):wpAny (model X.prog X.w) A (call (.builtin "len") [.ref a]) Q E s:=by
 let#[z,hd,vs,F,dd]:=kI I.bC e;show call_len_dict hd dd (by rw[<-F.length];rw[y1]at z;omega) ?_;rw[<-F.length];show h _ _ (I.tok _)
end
def NV(i:Tr):Prop:=∀ov F,YT i false ov F=operate [ov,F] (ZQ ov F)
variable{value:Tr}{Q:qa2}
theorem FE{prog:By}{F:Tr}{T id:String}
  (hl:typeLookup (.type T) "__getitem__" = pure (some (.builtin id))) (hs:NV F)
  (h:wpAny (model prog w) A (eval value env) (λo L=>wpAny (model prog w) A (eval F env) (λi G=>G.TypeIs o T/\wpAny (model prog w) A (ZQ o i) Q E G) E L) E s) :
  wpAny (model prog w) A (eval (.Subscript value F pos) env) Q E s:=by
 show Zu (TY h (λo L h₁=>TY h₁ (λi G I=>?_) λ_ _ x=>x) λ_ _ x=>x);let#[Y,I]:=I;unfold Zl;show ti ?_;rw[getitemInPython_of_ne Y.not_modules];show ti (wpAny_specialOf Y hl ?_);let fin:wpAny (model prog w) A (YT F false o i) (λr U=>wpAny (model prog w) A (letTemporaryGo value o r>>=λ_=>pure r) Q E U) E G:=by
  rw[hs o i];show wpAny_operating (TY I (λr U Z=>ti (wpAny_letTemporaryGo (wpAny_pure Z))) λ_ _ x=>x)
 first
  |show wpAny_pure (ti fin)
  |show ti (wpAny_pure (ti fin))
  |show ti fin
theorem tZ{o:Option V}(I: ~~~H s)(g:eU H a y o):s.TypeIs (.ref a) "dict" := by
 rcases g with⟨kvs,k,e,_,_⟩|⟨kvs,k,b,e,_,_,_⟩
 .let#[_,_,vs,_,dd]:=kI I.bC e;show dd.typeIs
 .let#[_,_,xs,_,dd]:=l9 I.bC e;show dd.typeIs
inductive De(td ty:TE)(Q:VK)(x:V)(y:V)(H2:Hp):Prop
 |mk(a:_)(v:_)(_:x=.ref a)(_:eU H2 a y (some v))(_:Q v H2)
def Ms(td ty:TE):TE:=λσ H Q=>td σ H λx H1=>ty σ H1 λy H2=>De td ty Q x y H2
inductive Hv(ty td:TE)(Q:VK)(y:V)(x:V)(H2:Hp):Prop
 |mk(a:_)(o:_)(_:x=.ref a)(_:eU H2 a y o)(_:Q (.bl o.isSome) H2)
def OJ(ty td:TE):TE:=λσ H Q=>ty σ H λy H1=>td σ H1 λx H2=>Hv ty td Q y x H2
inductive t9(ty td:TE)(Q:VK)(y:V)(x:V)(H2:Hp):Prop
 |mk(a:_)(o:_)(_:x=.ref a)(_:eU H2 a y o)(_:Q (.bl (!o.isSome)) H2)
def F8(ty td:TE):TE:=λσ H Q=>ty σ H λy H1=>td σ H1 λx H2=>t9 ty td Q y x H2
def L5(td ty tv:TE):TS:=λD σ H=>tv σ H λv H1=>td σ H1 λx H2=>ty σ H2 λy G=>zt λa F=>kZ (x=.ref a) (jJ G a y v F) (D.nx σ F)
def LH(td ty tv:TE)(rd:V->V->Hp->VK->Prop):TS:=λD σ H=>td σ H λx H1=>ty σ H1 λy H2=>zt λa v=>kZ (x=.ref a) (eU H2 a y (some v)) (tv σ H2 λG I=>rd v G I λz L=>∃F,jJ L a y z F/\D.nx σ F)
variable{o i:Tr}{td ty:TE}
theorem gu(U:X.A.units+1<V0)(ho:PE X o td)(hi:PE X i ty)(hs:NV i):PE X (.Subscript o i pos) (Ms td ty):=by
 intros Q I h;show FE PySem.F.slot_dict_getitem.lookup hs (bO (ho pins s σ H _ I h) λu s1 Y=>?_);let#[x,H1,I1,rx,Z]:=Y;show bO (hi pins s1 σ H1 _ I1 Z) λiv s2 ab=>?_;let#[y,H2,G,L,a,v,ex,g,q2]:=ab;subst ex;obtain rfl:u=Value.ref a:=rx;show#[tZ G g,qV U G g L λw' s3 I3 ac=>#[v,H2,I3,ac,q2]]
theorem Le(U:X.A.units+1<V0)(hi:PE X i ty)(ho:PE X o td):PC X .In i o (OJ ty td):=by
 intros Q I h;show bO (hi pins s σ H _ I h) λiv Z ac=>?_;let#[y,H1,I1,G,q1]:=ac;show bO (ho pins Z σ H1 _ I1 q1) λu s2 ab=>?_;let#[x,H2,F,Y,a,ov,ex,g,q2]:=ab;subst ex;obtain rfl:u=Value.ref a:=Y;show OW U F g G λs3 L=>#[.bl ov.isSome,H2,L,rfl,q2]
theorem kP(Y:X.A.units+1<V0)(hi:PE X i ty)(ho:PE X o td):PC X .NotIn i o (F8 ty td):=by
 intros Q I h;show bO (hi pins s σ H _ I h) λiv s1 ab=>?_;let#[y,H1,I1,G,q1]:=ab;show bO (ho pins s1 σ H1 _ I1 q1) λu s2 U=>?_;let#[x,H2,F,Z,a,ov,ex,g,q2]:=U;subst ex;obtain rfl:u=Value.ref a:=Z;show ES Y F g G λs3 L=>#[.bl (!ov.isSome),H2,L,rfl,q2]
variable{tv:TE}
theorem fO{pos':Vw}(G:X.A.units+1<V0)(ho:PE X o td)(hi:PE X i ty)(hv:PE X value tv)(hs:Wj value (some (.Subscript o i pos')) pos.line X.env=pure false) :
  PS X (.Assign [.Subscript o i pos'] value pos) (L5 td ty tv):=by
 intros D I h;show wpAny_Assign_Subscript (bO (hv pins s σ H _ I h) λr s1 ad=>?_) hs;let#[v,H1,I1,Y,Z]:=ad;show bO (ho pins s1 σ H1 _ I1 Z) λu L ab=>?_;let#[x,H2,I2,rx,q2]:=ab;show bO (hi pins L σ H2 _ I2 q2) λiv s3 ac=>?_;let#[y,H3,I3,F,a,H4,ex,g,q3]:=ac;subst ex;obtain rfl:u=Value.ref a:=rx;show qC G I3 g F Y λs4 U=>#[σ,H4,U,q3]
theorem Gz{tpos:Vw}{Y:aaH}{rd:V->V->Hp->VK->Prop}(U:X.A.units+1<V0)(ho:PE X o td)(hi:PE X i ty)(hv:PE X value tv)(ao:EA X Y rd)
  (ha:∀ov F G,augStore i ov F G=(do VT [G,ov,F] (setItem ov F G);release [G,ov,F] [];pure .next)):PS X (.AugAssign (.Subscript o i tpos) Y value pos) (LH td ty tv rd):=by
 intros D I h;show wpAny_AugAssign_SubscriptAny (bO (ho pins s σ H _ I h) λu s1 ab=>?_) ha;let#[x,H1,I1,rx,q1]:=ab;show bO (hi pins s1 σ H1 _ I1 q1) λF s2 ap=>?_;let#[y,H2,I2,L,a,v,ex,g,q2]:=ap;subst ex;obtain rfl:u=Value.ref a:=rx;show qV U I2 g L λw' s3 I3 ac=>bO (hv pins s3 σ H2 _ I3 q2) λw2 s4 ad=>?_;let#[y2,H3,I4,am,q3]:=ad;show bO (ao pins s4 σ H3 v y2 w' w2 _ I4 ac am q3) λw3 s5 ar=>?_;let#[z,H4,I5,Z,H5,g5,q4]:=ar;show qC U I5 g5 L Z λs6 I6=>#[σ,H5,I6,q4]
theorem vp(h:Heap)(F:Vl<h.objs.size):b9 P w H (h.push { cls:=.type "dict",data:=.dict ([].toArray) }) h.objs.size (.dK []):=
 #[Tp _,beq_eq_false_iff_ne.mpr (Ne.symm (Ul F)),[],.nil,Heap.DictOf.new h]
def Jm:TE:=λ_ H Q=>∀p,H p=none->Q (.ref p) (upd H p (.dK []))
theorem iE:PE X (.Dict [] [] pos) Jm:=λpins s σ H Q I h =>
 wpAny_Dict_empty #[.ref s⁻¹,_,I.laid (a:=s⁻¹) (o:=.dK []) (t':=s.toks) (λ_ _ q=>Heap.get?_push_of_some _ q) (G0 _) (vp s.heap I.big),rfl,h _ (I.bC.fresh (G0 _))]
def vN:List (TE×TE)->St->Hp->(List (V×V)->Hp->Prop)->Prop
 | [],_,H,Q=>Q [] H
 |(tk,tv)::r,σ,H,Q=>tk σ H λx H1=>tv σ H1 λy H2=>vN r σ H2 λps F=>Q ((x,y)::ps) F
abbrev VV:List (V×V)->List (Value×Value)->Prop:=Paired λp q=>RelV p.1 q.1/\RelV p.2 q.2
def Oy(X:Cx)(pos:Vw)(keys:List (Option Tr))(values:qAf)(F:List (TE×TE)):Prop :=
 ∀(pins:qa1)(s:dM)(σ:St)(H:Hp)(Q:List (V×V)->Hp->Prop),~~~H s->vN F σ H Q ->
  ↑(evalPairs (pairTrees keys values X.env pos)) (λvs s'=>∃ps H',~~~H' s'/\VV ps vs/\Q ps H') X.xe s
theorem sF:Oy X pos [] [] []:=λpins s σ H Q I h=>pairTrees_nil_walk #[[],H,I,.nil,h]
variable{F:List (TE×TE)}
theorem oj{k:Tr}{ks:List (Option Tr)}{tk:TE}(hk:PE X k tk)(hv:PE X v tv)(G:Oy X pos ks vs F) :
  Oy X pos (some k::ks) (v::vs) ((tk,tv)::F):=λpins s σ H Q I h =>
 pairTrees_cons_walk (bO (hk pins s σ H _ I h) λu s1 ⟨x,H1,I1,rx,Y⟩=>bO (hv pins s1 σ H1 _ I1 Y) λw2 U ⟨y,H2,I2,L,Z⟩ =>
  bO (G pins U σ H2 _ I2 Z) λws s3 ac=>by let#[ps,H3,I3,ab,q3]:=ac;show#[(x,y)::ps,H3,I3,.cons #[rx,L] ab,q3])
noncomputable def eB(kvs I:qAi):List (Key×V):=I.foldl (λG F=>putK G F.1 F.2) kvs
theorem KV.merge:∀{F:qAi}{rs:List (Key×Value)}{kvs:qAi}{vs:List (Key×Value)},KV F rs->KV kvs vs->KV (eB kvs F) (merged vs rs):=by
 intro F rs kvs vs r;unfold KV at r
 induction r generalizing kvs vs with
 |nil=>intro q;show q
 | @cons p q ps qs h t I =>
  intro G;let e:KV (putK kvs p.1 p.2) (stored vs q.1 q.2):=by
   have:=G.put p.1 h.2;rw[<-h.1];show this
  show I e
theorem jA:∀(F kvs:qAi),(eB kvs F).length<=kvs.length+F.length
 | [],kvs=>by change kvs.length<=kvs.length+0;omega
 |p::r,kvs=>by
  let h1:=jA r (putK kvs p.1 p.2);let h2:=iL kvs p.1 p.2;change(eB (putK kvs p.1 p.2) r).length<=_;rw[TH];omega
theorem pR{P:By}{w:R4}:∀{kvs:qAi}{ws:List (Value×Value)},VV (kvs.map λF=>(kV F.1,F.2)) ws->∃rs,Carries (bS P w) ws rs/\KV kvs rs
 | [],_,r=>by rwa[map_nil]at r;show#[[],UN,.nil]
 |p::kvs,_,r=>by
  rw[T8]at r;cases r with
  | @cons a b I bs h t =>
   let#[rs,c,q]:=pR (P:=P) (w:=w) t;let#[L,G]:=b;show#[(p.1,G)::rs,#[j4 h.1,rfl,c],.cons #[rfl,h.2] q]
def NM(G:List (TE×TE)):TE:=λσ H Q=>∀p,H p=none->vN G σ (upd H p (.dK [])) λps H2=>H2 p=some (.dK [])/\∃kvs:List (Key×V),ps=kvs.map (λF=>(kV F.1,F.2))/\kvs.length<=15/\Q (.ref p) (upd H2 p (.dK (eB [] kvs)))
theorem so{keys:List (Option Tr)}{values:qAf}(h:Oy X pos keys values F)(ab:keys.all (·.isSome)=true)(Y:keys.length=values.length)(U:keys≠[])
  (ad:keys.length<=15):PE X (.Dict keys values pos) (NM F):=by
 intros Q I q;let hn:=I.bC.fresh (G0 s⁻¹);let I1:=I.laid (a:=s⁻¹) (o:=.dK []) (h':=s.heap.push { cls:=.type "dict",data:=.dict ([].toArray) }) (t':=s.toks) (λ_ _ q=>Heap.get?_push_of_some _ q) (G0 _) (vp s.heap I.big);show wpAny_Dict_walk (knd:=bS X.prog X.w) ab Y U ad (bO (h pins _ σ _ _ I1 (q _ hn)) λws s2 am=>?_);let#[ps,H2,G,ac,e,kvs,ep,lk,q2]:=am;subst ep;let#[rs,c,rk]:=pR (P:=X.prog) (w:=X.w) ac;let#[z,hd,ao,r0,dd]:=uK G.bC e;cases r0;show#[rs,c,dd,λh' L hs=>#[.ref s⁻¹,_,?_,rfl,q2]];let Z:(eB [] kvs).length<=sizeLine:=by
  let h1:=jA kvs [];rw[Yt]at h1;rw[y1];omega
 let he:∃q,h'.get? s⁻¹=some q:=let ⟨q,_,_,hq,_⟩:=L;#[q,hq];show nG G (by rw[e];show UN) hs he (vP Z hd (rk.merge .nil) L)
structure M1(X:Cx)(o:Tr)(m:Str)(apos:Vw)(e:Tr)(cpos:Vw):Prop where
 base:VZ o m X.env (eval o X.env)=eval o X.env
 Oh:((backTo cpos (starEach [e] X.env)).all (λx => !x.1)&&(V1 cpos (U2 [] X.env)).all (λx=>x.1.isSome)
  && decide (([e]:qAf).length+([]:List Yo).length+(if ([]:List Yo).isEmpty then 0 else 1)<30))=true
 line:(apos.endLine==cpos.line)=true
 trees:backTo cpos (starEach [e] X.env)=[(false,eval e X.env)]
structure M2(X:Cx)(o:Tr)(m:Str)(apos:Vw)(e f:Tr)(cpos:Vw):Prop where
 base:VZ o m X.env (eval o X.env)=eval o X.env
 Oh:((backTo cpos (starEach [e,f] X.env)).all (λx => !x.1)&&(V1 cpos (U2 [] X.env)).all (λx=>x.1.isSome)
  && decide (([e,f]:qAf).length+([]:List Yo).length+(if ([]:List Yo).isEmpty then 0 else 1)<30))=true
 line:(apos.endLine==cpos.line)=true
 trees:backTo cpos (starEach [e,f] X.env)=[(false,eval e X.env),(false,eval f X.env)]
def Ot(H:Hp)(a:Addr):Prop:=(∃kvs,Rd H a (.dK kvs))\/∃kvs,Rd H a (.dT kvs)
theorem vM(I: ~~~H s)(d:Ot H a) :
  s.TypeIs (.ref a) "dict" /\ (∀b,Value.ref a=.ref b->∃F,s.heap.get? b=some F/\F.dict=none)/\(a==Vl)=false:=by
 rcases d with⟨kvs,e⟩|⟨kvs,e⟩
 .let#[_,hd,vs,_,dd]:=kI I.bC e;show#[dd.typeIs,λb q=>?_,hd];cases q;let#[F,_,_,h1,h2,_]:=dd;show#[F,h1,h2.2.1]
 .let#[_,hd,xs,_,dd]:=l9 I.bC e;show#[dd.typeIs,λb q=>?_,hd];cases q;let#[F,_,_,h1,h2,_]:=dd;show#[F,h1,h2.2.1]
variable{o:Option V}
theorem Jo(Z:A.units+1<V0)(I: ~~~H s)(g:eU H a y o)(U:RelV y u)(h:∀Y s',~~~H s'->RelV (o.getD .a7) Y->Q Y s') :
  wpAny (model X.prog X.w) A (call (.builtin "dict.get") [.ref a,u]) Q E s:=by
 rcases g with⟨kvs,k,e,L,l⟩|⟨kvs,k,b,e,L,eb,l⟩
 .subst L;let#[z,hd,vs,G,dd]:=kI I.bC e;show Xn V5 dd.typeIs XH (Yc _ _) (meets_dict_get (bS X.prog X.w) a (j4 U) hd) #[_,dd.mapOf,h _ _ (I.tok _) ?_];rw[l];show(G.val k).getD rfl
 .subst L;cases(show u=Value.ref b from U);let#[z,hd,xs,G,dd]:=l9 I.bC e;show Xn V5 dd.typeIs XH (Yc _ _) (meetsH_dict_get (Xp (bS X.prog X.w)) a b hd) #[Va Z,k,xs,jK I.bC eb,dd,h _ _ (I.tok _) ?_];rw[l];show(G.val k).getD rfl
theorem Jw{d:V}{r:Value}(Z:A.units+1<V0)(I: ~~~H s)(g:eU H a y o)(U:RelV y u)(rd:RelV d r)(h:∀Y s',~~~H s'->RelV (o.getD d) Y->Q Y s') :
  wpAny (model X.prog X.w) A (call (.builtin "dict.get") [.ref a,u,r]) Q E s:=by
 rcases g with⟨kvs,k,e,L,l⟩|⟨kvs,k,b,e,L,eb,l⟩
 .subst L;let#[z,hd,vs,G,dd]:=kI I.bC e;show Xn V5 dd.typeIs XH (Yd _ _ _) (meets_dict_get_default (bS X.prog X.w) a (j4 U) hd r) #[_,dd.mapOf,h _ _ (I.tok _) ?_];rw[l];show(G.val k).getD rd
 .subst L;cases(show u=Value.ref b from U);let#[z,hd,xs,G,dd]:=l9 I.bC e;show Xn V5 dd.typeIs XH (Yd _ _ _) (meetsH_dict_get_default (Xp (bS X.prog X.w)) a b hd r) #[Va Z,k,xs,jK I.bC eb,dd,h _ _ (I.tok _) ?_];rw[l];show(G.val k).getD rd
inductive xY(td ty:TE)(σ:St)(Q:VK)(x:V)(H1:Hp):Prop
 |mk (a:_) (_:x=.ref a) (_:Ot H1 a) (_:ty σ H1 λy H2=>∃o,eU H2 a y o/\Q (o.getD .a7) H2):xY td ty σ Q x H1
def Kd(td ty:TE):TE:=λσ H Q=>td σ H λx H1=>xY td ty σ Q x H1
inductive xQ(td ty tx:TE)(σ:St)(Q:VK)(x:V)(H1:Hp):Prop
 |mk (a:_) (_:x=.ref a) (_:Ot H1 a) (_:ty σ H1 λy H2=>tx σ H2 λz H3=>∃o,eU H3 a y o/\Q (o.getD z) H3):xQ td ty tx σ Q x H1
def Kc(td ty tx:TE):TE:=λσ H Q=>td σ H λx H1=>xQ td ty tx σ Q x H1
inductive xP(td ty:TE)(σ:St)(Q:VK)(x:V)(H1:Hp):Prop
 |mk (a:_) (_:x=.ref a) (_:Ot H1 a) (_:ty σ H1 λy H2=>∃kvs k v,H2 a=some (.dK kvs)/\y=kV k/\jm kvs k=some v/\Q v (upd H2 a (.dK (pP kvs k)))):xP td ty σ Q x H1
def Kx(td ty:TE):TE:=λσ H Q=>td σ H λx H1=>xP td ty σ Q x H1
section
variable{o e:Tr}{apos cpos:Vw}
theorem CM(Y:X.A.units+1<V0)(ho:PE X o td)(he:PE X e ty)(m:M1 X o "get" apos e cpos):PE X (.Call (.Attribute o "get" apos) [e] [] cpos) (Kd td ty):=by
 intros Q I h;show X1 m.base m.Oh m.line YC V5 YL (bO (ho pins s σ H _ I h) λu s1 U=>?_);let#[x,H1,G,rx,a,ex,d,q1]:=U;subst ex;obtain rfl:u=Value.ref a:=rx;let#[t1,t2,_]:=vM G d;show#[t1,t2,?_];rw[m.trees];show Calls.callWith_builtin rfl (Calls.evalArgs_plain (Calls.spliced_cons (bO (he pins s1 σ H1 _ G q1) λiv s2 Z=>?_)));let#[y,H2,I2,L,ov,g,q2]:=Z;show Calls.spliced_nil ?_;show Jo Y I2 g L λw' s3 I3 ab=>#[_,H2,I3,ab,q2]
theorem Ce{f:Tr}{tx:TE}(Z:X.A.units+1<V0)(ho:PE X o td)(he:PE X e ty)(Y:PE X f tx)(m:M2 X o "get" apos e f cpos):PE X (.Call (.Attribute o "get" apos) [e,f] [] cpos) (Kc td ty tx):=by
 intros Q I h;show X1 m.base m.Oh m.line YC V5 YL (bO (ho pins s σ H _ I h) λu s1 ac=>?_);let#[x,H1,G,rx,a,ex,d,q1]:=ac;subst ex;obtain rfl:u=Value.ref a:=rx;let#[t1,t2,_]:=vM G d;show#[t1,t2,?_];rw[m.trees];show Calls.callWith_builtin rfl (Calls.evalArgs_plain (Calls.spliced_cons (bO (he pins s1 σ H1 _ G q1) λiv s2 ⟨y,H2,I2,L,q2⟩ =>
  Calls.spliced_cons (bO (Y pins s2 σ H2 _ I2 q2) λfv s3 ⟨z,H3,I3,U,ov,g,q3⟩=>Calls.spliced_nil ?_))))
 show Jw Z I3 g L U λw' s4 I4 ab=>#[_,H3,I4,ab,q3]
theorem jW(ho:PE X o td)(he:PE X e ty)(m:M1 X o "pop" apos e cpos):PE X (.Call (.Attribute o "pop" apos) [e] [] cpos) (Kx td ty):=by
 intros Q I h;show X1 m.base m.Oh m.line YC YK PySem.F.type_dict_pop (bO (ho pins s σ H _ I h) λu s1 ab=>?_);let#[x,H1,G,rx,a,ex,d,Z]:=ab;subst ex;obtain rfl:u=Value.ref a:=rx;let#[t1,t2,_]:=vM G d;show#[t1,t2,?_];rw[m.trees];show Calls.callWith_builtin rfl (Calls.evalArgs_plain (Calls.spliced_cons (bO (he pins s1 σ H1 _ G Z) λiv s2 ad=>?_)));let#[y,H2,I2,L,kvs,k,v,Y,U,l,q2]:=ad;show Calls.spliced_nil ?_;subst U;show NB I2 Y L l (.inl rfl) λw' s3 I3 ac=>#[v,_,I3,ac,q2]
theorem yZ:cz X (.builtin "len") (λxs H Q=>∃a kvs,xs=[V.ref a]/\H a=some (.dK kvs)/\Q (.int kvs.length) H):=by
 intros xs us Q I r h;let#[a,kvs,rfl,G,q]:=h;let#[u,rfl,ru]:=vals1 r;cases ru;show MA I (.inl G) λt s' F=>#[.int kvs.length,H,F,#[t,rfl],q]
variable{κ:Type}[DecidableEq κ]{k:Key}{r:Value}{d:V}
variable{o:Obj}
theorem Inv.swap{u:HO}{w:HO}(I: ~~~H s)(h:H a=some u)(h1:∀o F,X.H₀ a≠some (.frz o F))(h2:∀xs,u≠.tup xs)(h3:∀ps,u≠.tbl ps)(h4:∀x,u≠.own x)(ac:b9 X.prog X.w (upd H a w) s.heap a w): ~~~(upd H a w) s:=by
 let ne:∀b,H b=none->b≠a:=λb q z=>(by rwa[z,h]at q);show#[I.ok,I.os,I.bare,#[I.base.keep,I.base.slot,λb o q nn Z=>?_,I.base.there,λb xs q=>?_,λb o F q=>?_,λb ps q=>?_],I.loc,I.cell,?_,λy c q=>?_,λp U=>?_,λb v q=>?_,I.len]
 .let z:=I.base.free b o q nn Z;rw[au (ne b z)];show z
 .let z:=I.base.oM b xs q;rw[au (λe=>h2 xs (by rw[e,h]at z;show SN z))];show z
 .let z:=I.base.mH b o F q;rw[au (λe=>h1 o F (by rw[<-e];show q))];show z
 .let#[ab,z]:=I.base.oB b ps q;show#[ab,by rw[au (λe=>h3 _ (by rw[e,h]at z;show SN z))];show z]
 .rw[au (ne _ I.free)];show I.free
 .rw[au (ne _ (I.fJ y c q))];show I.fJ y c q
 .let#[Y,L,a3]:=I.pin p U;show#[Y,by rw[au (ne _ L)];show L,a3]
 .by_cases G:b=a
  .subst G;rwa[ag]at q;show ac
  .rw[au G]at q;show(I.bC b v q).gD (λ_ _ _ z=>z) (λc z=>by rw[au (λe=>h4 b (by rw[e,h]at z;show SN z))];show z) λc xs z=>by rw[au (λe=>h2 xs (by rw[e,h]at z;show SN z))];show z
theorem Inv.freeze(I: ~~~H s)(h:H a=some (.dK kvs))(F:s.heap.get? a=some o)(h1:∀o G,X.H₀ a≠some (.frz o G)): ~~~(upd H a (.frz o (.dK kvs))) s :=
 I.swap h h1 (λ_ z=>nomatch z) (λ_ z=>nomatch z) (λ_ z=>nomatch z) #[F,(show b9 X.prog X.w H s.heap a (.dK kvs)from I.bC a _ h)]
theorem Inv.N6(I: ~~~H s)(h:H a=some (.frz o (.dK kvs)))(h1:∀o F,X.H₀ a≠some (.frz o F)): ~~~(upd H a (.dK kvs)) s :=
 I.swap h h1 (λ_ z=>nomatch z) (λ_ z=>nomatch z) (λ_ z=>nomatch z) (show b9 X.prog X.w H s.heap a (.frz o (.dK kvs))from I.bC a _ h).2
end
noncomputable def Ln(o:Obj):Nat:=match o.data with
 |.dict _ ep=>ep
 |_=>0
noncomputable def Ls(a:Addr)(o:Obj)(kvs:qAi):It :=
 #[λi H=>H a=some (.frz o (.dK kvs))/\i<kvs.length,λi H x H'=>H'=H/\∃k v,kvs[i]?=some (k,v)/\x=kV k,λi H=>H a=some (.frz o (.dK kvs))/\kvs.length<=i]
theorem Cs{k:Key}(h:(bS P w).is k u=true):RelV (kV k) u:=by
 rcases cy (show nR k u=true from h)with⟨i,t,rfl,rfl⟩|⟨x,t,rfl,rfl⟩
 .show#[t,rfl]
 .show#[t,rfl]
variable{o:Obj}
theorem Br(ok:jy P w H h)(e:H a=some (.frz o (.dK kvs))):(a==Vl)=false/\∃vs,KV kvs vs/\h.DictAt (bS P w) a vs (Ln o):=by
 let#[G,_,hd,vs,r,o',es,ep,h1,h2,F,L]:=(show b9 P w H h a (.frz o (.dK kvs))from ok a _ e);rwa[G]at h1;let I:Ln o=ep:=(by unfold Ln;rw[F]);show#[hd,vs,r,o,es,G,h2,by rw[I];show F,L]
variable{tg:Tr}
theorem z9(a it:Addr)(ap:a≠it)(o:Obj)(kvs:qAi):Turn P w K tg (Ls a o kvs) [it] it (λi h=>h.IsKeyIter it a i kvs.length (Ln o)) where
 mem:=by simp
 obj:=λi h st b F=>by
  let e:b=it:=‹F›;subst e;let#[ob,h1,_,h3]:=st;show#[ob,h1,λv z=>by rwa[h3]at z]
 keep:=λi h h' st k=>st.at λo e=>k it (by simp) o e
 item:=by
  intro X Y hw hK hc i pins s σ H E I L st hg;subst Y hw hK;let#[Z,G]:=hg;let#[f0,f1,f2,U,f4,f5]:=L it (by simp);let#[hd,vs,r,da]:=Br I.bC Z;let hlen:=r.length;obtain⟨⟨k,x⟩,hx⟩:∃p,vs[i]?=some p:=#[vs[i]'(VC G hlen),by simp];let am:∃v,kvs[i]?=some (k,v):=by
   let hi:i<kvs.length:=G;show#[(kvs[i]).2,?_];let e:=r.keys;let e1:(kvs.map (·.1))[i]?=(vs.map (·.1))[i]?:=(by rw[e]);rw[M4,M4,hx,tp hi]at e1;let e2:kvs[i].1=k:=SN e1;rw[tp hi, <-e2]
  let#[v,hv]:=am;rw[hlen]at st ⊢;show wpAny_pyNext_dict_item st da hx λao h' ac ab ad=>?_;let I1: ~~~H { s with heap:=h',toks:=s.toks }:=I.turned (λb o F e=>(ad.2 b F).trans e) f0 f1 U f4 f5;let#[ob,h1,h2,h3]:=id ab;show#[0,tP (s:={ s with heap:=h' }) (n := "dict_keyiterator") h1 h2 h3 az #[kV k,H,I1,Cs ac,#[rfl,k,v,hv,rfl],ab,λb F=>(L b F).1]]
 done:=by
  intro X Y hw hK hc i pins s σ H E I L st hg;subst Y hw hK;let#[Z,G]:=hg;let#[f0,f1,f2,U,f4,f5]:=L it (by simp);let#[hd,vs,r,da]:=Br I.bC Z;let hlen:=r.length;rw[hlen]at st;show wpAny_pyNext_dict_end (I.ok.hd hc) st da (by simp;show le_of_eq_of_le (id (XX hlen)) G) λh' eb=>#[rfl,I.turned (t':=s.toks) (λb o F e=>eb b o F e) f0 f1 U f4 f5]
 self:=λ_ _ _ _ _ st h=>wpAny_pyIter_keyiter st h
def Mq(H₀:Hp)(td:TE):TI:=λσ H R=>td σ H λx H1=>zt λa kvs=>K0 (x=.ref a) (H1 a=some (.dK kvs)) ((∀o F,H₀ a≠some (.frz o F))) (∀o,R (Ls a o kvs) (upd H1 a (.frz o (.dK kvs))))
theorem FQ{l:Tr}(Z:PE X l td):PI X tg l (Mq X.H₀ td):=by
 intros R I h;show bO (Z pins s σ H _ I h) λv F ab=>?_;let#[x,H1,Y,r1,a,kvs,e,U,hn,q]:=ab;subst e;cases r1;let#[_,hd,vs,ac,dd]:=uK Y.bC U;let#[G,es,ep,h1,h2,h3,h4]:=id dd;let L:=Y.freeze U h1 hn;let lt:a<F⁻¹:=Heap.lt_size h1;let da:F.heap.DictAt (bS X.prog X.w) a vs (Ln G):=#[G,es,h1,h2,by unfold Ln;rw[h3],h4];show wpAny_pyIter_dict hd da ?_;show#[F⁻¹,[F⁻¹],_,Ls a G kvs,0,L.kept (t':=F.toks) λb o e=>Heap.get?_push_of_some _ e,z9 a _ (Ul lt) G kvs,#[_,Heap.get?_push_size _ rfl,3],λb hb=>?_,q G]
 .rw[ac.length];rfl
 .let e:b=F⁻¹:=‹hb›;subst e;show L.pJ (G0 _) (L.bC.fresh (G0 _))
def Nq(H₀:Hp)(t:TS):TS:=λD σ H=>t { D with
 nx:=λG H'=>∃a o kvs,H' a=some (.frz o (.dK kvs))/\(∀o F,H₀ a≠some (.frz o F))/\D.nx G (upd H' a (.dK kvs))
 rt:=λv H'=>∃a o kvs,H' a=some (.frz o (.dK kvs))/\(∀o F,H₀ a≠some (.frz o F))/\D.rt v (upd H' a (.dK kvs)) } σ H
theorem Gw{t:TS}(h:PS X st t):PS X st (Nq X.H₀ t):=by
 intros D I q;show bO (h pins s σ H _ I q) λf s1 F=>?_;cases f with
 |next =>
  let#[G,H',L,a,o,kvs,Y,Z,U]:=F;show#[G,_,L.N6 Y Z,U]
 |ret u =>
  let#[v,G,H',L,r,a,o,kvs,Y,Z,U]:=F;show#[v,G,_,L.N6 Y Z,r,U]
 |brk=>show F
 |cont=>show F
theorem AD{g:TG}{tb:TS}{D:Ends}(Pv:Nat->St->Hp->Prop)(L:Pv 0 σ H)(U:∀i σ H,i<=kvs.length->Pv i σ H->H a=some (.frz o (.dK kvs)))
  (hs:∀i k v σ H,kvs[i]?=some (k,v)->Pv i σ H->g (kV k) σ H λF H2=>tb { D with nx:=Pv (i+1),ct:=Pv (i+1),bk:=D.nx } F H2) (hd:∀σ H,Pv kvs.length σ H->D.nx σ H) :
  ∃W:Nat->Nat->St->Hp->Prop,(∃m,W 0 m σ H)/\∀i m σ H,W i m σ H ->
   ((Ls a o kvs).stop i H/\D.nx σ H)\/((Ls a o kvs).go i H/\∃N:St->Hp->Prop,(∀G H',N G H'->∃m',m'<m/\W (i+1) m' G H')/\∀x H',(Ls a o kvs).Ee i H x H'->g x σ H' λF H2=>tb { D with nx:=N,ct:=N,bk:=D.nx } F H2):=by
 show#[λi m σ H=>m=kvs.length-i/\i<=kvs.length/\Pv i σ H,#[kvs.length,by simp,Tp _,L],?_];rintro i m σ H ⟨rfl,hi,p⟩;let q:=U i σ H hi p;cases I:i<kvs.length
 .show .inr #[#[q,I],Pv (i+1),λG H' Y=>#[kvs.length-(i+1),Vq (Vt kvs) i I,rfl,I,Y],λx H' y=>?_];let#[e,k,v,hk,ex]:=y;subst e ex;show hs i k v σ _ hk p
 .let e:i=kvs.length:=af;subst e;show .inl #[#[q,G0 _],hd σ H p]
inductive LM(K:SU)(x:V)(y:V)(H:Hp)(Q:VK):Prop
 |mk(p:_)(q:_)(xs:_)(ys:_)(_:x=.ref p)(_:y=.ref q)(_:aW K H p xs)(_:aW K H q ys)(_:xs.all fE=true)(_:ys.all fE=true)(_:Q (.bl (!pY xs ys)) H)
theorem KZ(U:X.A.units<V0):kJ X (Uz .NotEq) (LM X.K):=by
 intros x y v u Q I rx ry h;let#[p,q,xs,ys,rfl,rfl,hx,hy,fx,fy,Z]:=h;cases rx;cases ry;let#[its,r,pl,hz]:=I.list hx;let#[ab,r2,ac,ao]:=I.list hy;let F:=r.length;let Y:=r2.length;cases e:xs.length=ys.length
 .show aaU (e:=λj=>mC (xs.getD j .a7) (ys.getD j .a7)) pl.isList ac.isList (by rw[S9,S9];omega) U (λj h1 h2=>?_) _ _ _ _ #[.bl (!pY xs ys),H,I,?_,Z]
  .let L:j<xs.length:=(by rw[S9]at h1;show VC h1 (id (XX F)));let G:j<ys.length:=VC h2 (id (XX Y));let#[a,ea,ra]:=r.get (i:=j) (x:=xs[j]) (by simp[L]);let#[b,eb,rb]:=r2.get (i:=j) (x:=ys[j]) (by simp[G]);let#[_,ad]:=y0.mp ea;let#[_,am]:=y0.mp eb;let g1:xs.getD j .a7=xs[j]:=(by simp[L]);let g2:ys.getD j .a7=ys[j]:=(by simp[G]);change Xy _ _ its.toArray[j] ab.toArray[j] (mC (xs.getD j .a7) (ys.getD j .a7));rw[g1,g2];let f1:fE xs[j]=true:=U6.mp fx _ (UA L);let f2:fE ys[j]=true:=U6.mp fy _ (UA G);let z:=BD (A:=X.A.in1) (s:=s) ra rb f1 f2;let a1:its.toArray[j]=a:=‹ad›;let a2:ab.toArray[j]=b:=‹am›;rw[a1,a2];show z
  .change Value.bool _=Value.bool _;rw[S9, <-F,o7 e]
 .show Z0 pl.isList ac.isList ?_ U _ _ _ _ #[.bl (!pY xs ys),H,I,?_,Z]
  .rw[S9,S9, <-F, <-Y];show bne_iff_ne.mpr e
  .change Value.bool _=Value.bool _;rw[vg e];rfl
noncomputable def FU(lo st:Int)(n:Nat):It:=#[λi _=>i<n,λi H x H'=>H'=H/\x=.int (lo+i*st),λi _=>n<=i]
theorem vi(it:Addr)(lo st:Int)(n:Nat):Turn P w K tg (FU lo st n) [it] it (λi h=>YS h it (lo+(i:Nat)*st) ((n:Int)-(i:Nat)) st) where
 mem:=by simp
 obj:=λi h st b F=>by
  let e:b=it:=‹F›;subst e;show#[_,st,λv z=>by
   let z':Data.fields _=Data.cell v:=z;cases z']
 keep:=λi h h' st k=>k it (by simp) _ st
 item:=by
  intro X U hw hK hc i pins s σ H E I G Y hg;subst U hw hK;let#[f0,Z,f2,L,f4,f5]:=G it (by simp);let W:=Walks.range (prog:=X.prog) (w:=X.w) (I.ok.hd hc) it lo st n;show W.item i s _ _ hg Y λv h' tk hv ab kk=>?_;let#[t,rfl]:=hv;let I1: ~~~H { s with heap:=h',toks:=tk }:=I.turned (λb o F e=>kk b o ‹F› e) f0 Z L f4 f5;show#[0,tP (s:={ s with heap:=h',toks:=tk }) (n := "range_iterator") ab rfl rfl az #[.int (lo+i*st),H,I1,#[t,rfl],#[1],ab,λb F=>(G b F).1]]
 done:=by
  intro X U hw hK hc i pins s σ H E I G Y hg;subst U hw hK;let#[f0,Z,f2,L,f4,f5]:=G it (by simp);show Yl (I.ok.hd hc) Y (by have:n<=i:=hg;omega) λh' eb=>#[rfl,I.turned (t':=s.toks) (λb o F e=>eb b o F e) f0 Z L f4 f5]
 self:=λ_ _ _ _ _ st h=>Ym st h
noncomputable def Ni(ta:TA):TI:=λσ H R=>ta σ H λvs H1=>∃(i j st:Int)(n:Nat),vs=[.int i,.int j,.int st]/\Builtin.Range.small i j st=true/\Builtin.Range.rangeSize i j st=(n:Int)/\st≠0/\Builtin.divisionGoesByPylong (j-i) st=false/\R (FU i st n) H1
theorem As{a b c:Tr}{ta:TA}{p:Vw}(hg:Gl X "range")(Z:X.mg "range" = none)(ha:PA X [a,b,c] ta)(hs:%[starEach [a,b,c] X.env=[(false,eval a X.env),(false,eval b X.env),(false,eval c X.env)]|0])(Y:%[starEach [b,c] X.env=[(false,eval b X.env),(false,eval c X.env)]|0]) :
  PI X tg (.Call (.Name "range" p) [a,b,c] [] pos) (Ni ta):=by
 intros R I h;show Call_ (iO I hg Z boot_range (Ut (bO (ha pos pins s σ H _ I h) λus G ⟨vs,H1,I1,r1,L⟩=>?_) (by rw[hs,Y]) (by rw[Y];rfl)));let#[i,j,st,n,e,L,q2,q3,q4,q]:=L;subst e;cases r1 with
 |cons r F =>
  cases F with
  |cons r' F =>
   cases F with
   |cons ac F =>
    cases F;let#[t,rfl]:=r;let#[t',rfl]:=r';let#[ab,rfl]:=ac;show call_range_3 q3 ?_ (.inl q4);show Zt (aaZ ..) L ?_;let U: ~~~H1 { G with heap:=G.heap.push { cls:=.type "range",data:=.fields ([.int i t,.int j t',.int st ab].toArray) },toks:=G.toks }:=I1.kept λb o e=>Heap.get?_push_of_some _ e;show#[_,[_],2,H1,rfl,U.kept (t':=G.toks) λb o e=>Heap.get?_push_of_some _ e,vi _ i st n,?_,λb hb=>?_,q]
    .let e1:i+((0:Nat):Int)*st=i:=(by simp);let e2:(n:Int)-((0:Nat):Int)=Builtin.Range.rangeSize i j st:=(by rw[q2];omega);change YS _ _ (i+((0:Nat):Int)*st) ((n:Int)-((0:Nat):Int)) st;rw[e1,e2];show Heap.get?_push_size _ rfl
    .let e:=DO.mp hb;subst e;show U.pJ (G0 _) (U.bC.fresh (G0 _))
end L2
namespace Srt
open PySem PyProof.Rows
theorem xN:∀{vs:qa6}{ns:qAa},vs.length=ns.length->(∀(j:Nat)(v:Value),vs[j]?=some v->∃(m:Int)(t:Tok),ns[j]?=some m/\v=.int m t)->Vp vs ns
 | [],[],_,_=>.nil
 |v::vs,n::ns,F,h=>by
  let#[m,t,e,rfl]:=h 0 v rfl;cases e;show .cons n t (xN ‹F› λj u G=>by simpa using h (j+1) u ‹G›)
 | [],_::_,F,_=>by simp at F
 |_::_,[],F,_=>by simp at F
theorem xf{prog:By}{w:R4}{A:Th}{E:qa2}{s:dM}{T:String}{r d:Addr}{n:Nat}{P:Nat->Value->Prop}{OK:Heap->Prop}{ns:qAa}{Q:qa2}(S:PySem.W.KdlSrc prog w T r d n P OK)(Y:A.handled=none)(bC:OK s.heap)(Z:∀(i:Nat)(v:Value),P i v->∃(m:Int)(t:Tok),ns[i]?=some m/\v=.int m t)(hl:ns.length=n)(hn:ns.Nodup)(hz:n<=1000)
  (k:∀(h1 h':Heap)(tk:Nat)(out:qa5)(F:qAa)(e:Nat),(∀b o,s.heap.get? b=some o->h1.get? b=some o)->(∀b o,h1.get? b=some o->h'.get? b=some o)->h'.get? h1.objs.size=some (seqObj "list" out e)->Vp out.toList F->F.Perm ns->F.Pairwise (· <= ·)->Q (.ref h1.objs.size) { s with heap:=h',toks:=tk }) :
  wpAny (model prog w) A (call (.builtin "sorted") [.ref r]) Q E s:=by
 let lz:sizeLine=16777216:=y1;show Calls.call_function_entry kind_sorted plain_sorted entry_sorted (args_sorted1 _) ?_;show ti (m:=checkCount "sorted" 1 1 _) (wpAny_pure (ti (PySem.W.kdu_collect (A:=A.in1) S Y bC af λh1 tk G k1 U=>?_)));let ln:G.toList.length=n:=(by rw[Uj];show U.1);show ti (Zn ?_ af);let hI:Vp G.toList ns:=xN af λj v e=>Z j v (U.2 j v (by rw[<-UX];show e));let I:=Heap.get?_push_size h1 (o:=seqObj "list" G.toList.toArray 0) rfl;change wpAny _ _ _ _ _ { s with heap:=h1.push (seqObj "list" G.toList.toArray 0),toks:=tk };show ti (U1 (VW slot_list_sort #[_,I,rfl] entry_list_sort (zL I hI hn af λout F w1 w2 w3=>#[0,wpAny_pure #[0,?_]]) (args_list_sort _)));let#[e,he]:=sortedHeap_at (vs:=G.toList) (out:=out) I;show k h1 _ tk out F e k1 (λb o L=>?_) he w1 w2 w3;let lt:=Heap.lt_size L;rw[sortedHeap_old (Ul lt) (by rw[WK];show XZ lt),Heap.get?_push_ne _ _ _ (Ul lt)];show L
end Srt
namespace L2
open PySem PySem.Spec PyProof.Rows
end L2
namespace Srt
open PySem PyProof.Rows
end Srt
namespace L2
open PySem PySem.Spec PyProof.Rows
end L2
namespace Srt
open PySem PyProof.Rows
theorem jw{α:Type}{p q:α->Bool}:∀{l:List α}{x:α},(∀y∈l,p y=true->q y=true)->x∈l->p x=false->q x=true->l.countP p<l.countP q
 |y::l,x,h,F,h1,h2=>by
  let m:=List.countP_mono_left (l:=l) λz G=>h z (S0 _ G);rw[Ye,Ye];rcases Ti.mp F with rfl|F
  .rw[h1,h2,aa2 (by nofun),aa3 rfl];omega
  .let L:=jw (λz G=>h z (S0 _ G)) F h1 h2;cases c:p y=true
   .rw[aa3 c,aa3 (h y Tf c)];omega
   .rw[aa2 c];cases I:q y=true
    .rw[aa3 I];omega
    .rw[aa2 I];omega
def rk(ns:qAb)(x:Str):Int:=((ns.countP λy=>decide (y.cps.toList<x.cps.toList):Nat):Int)
variable{ns:qAb}{x y:Str}
theorem vb(F:x∈ns)(h:x.cps.toList<y.cps.toList):rk ns x<rk ns y:=by
 have:=jw (p:=λz:Str=>decide (z.cps.toList<x.cps.toList)) (q:=λz:Str=>decide (z.cps.toList<y.cps.toList)) (l:=ns) (λz _ G=>decide_eq_true (List.lt_trans (of_decide_eq_true G) h)) F (decide_eq_false (aaR _)) (decide_eq_true h);unfold rk;omega
theorem xA(h1:¬ x.cps.toList<y.cps.toList)(h2:¬ y.cps.toList<x.cps.toList):x=y:=by
 let e:=List.le_antisymm (X2.mp h2) (X2.mp h1);cases x;cases y;show congrArg Str.mk (aai.mp e)
theorem Ed(F:x∈ns)(G:y∈ns):decide (rk ns x<rk ns y)=decide (x.cps.toList<y.cps.toList):=by
 cases c:x.cps.toList<y.cps.toList
 .rw[decide_eq_true c,decide_eq_true (vb F c)]
 .rw[decide_eq_false c];show decide_eq_false λz=>?_;cases d:y.cps.toList<x.cps.toList
  .have:=vb G d;omega
  .rw[xA c d]at z;omega
theorem DR:∀{ns I:qAb},ns.Nodup->(∀x∈ns,x∈I)->(ns.map (rk I)).Nodup
 | [],_,_,_=>Vr
 |x::ns,I,h,G=>by
  rw[TQ]at h;rw[T8,TQ];show#[λz=>?_,DR h.2 λy F=>G y (S0 _ F)];let#[y,F,e]:=Tc.mp z;let L:=G x Tf;let U:=G y (S0 _ F);have:x=y:=xA (λc=>by have:=vb L c;omega) (λc=>by have:=vb U c;omega);show h.1 (this▸F)
noncomputable def sle(a b:Str):Bool := !decide (b.cps.toList<a.cps.toList)
theorem Ct(F:y∈ns)(h:rk ns x<=rk ns y):sle x y=true:=by
 unfold sle;rw[decide_eq_false (λc=>by have:=vb F c;omega)];rfl
theorem qE(a b c:Str)(h1:sle a b=true)(h2:sle b c=true):sle a c=true:=by
 unfold sle at *;let z1:¬ b.cps.toList<a.cps.toList:=λz=>(by rwa[decide_eq_true z]at h1);let z2:¬ c.cps.toList<b.cps.toList:=λz=>(by rwa[decide_eq_true z]at h2);rw[decide_eq_false];rfl;show X2.mpr (List.le_trans (X2.mp z1) (X2.mp z2))
theorem qz(a b:Str):(sle a b||sle b a)=true:=by
 unfold sle;cases c:b.cps.toList<a.cps.toList
 .rw[decide_eq_false (List.lt_asymm c)];simp
 .rw[decide_eq_false c];rfl
theorem ur{a b:Str}(h1:sle a b=true)(h2:sle b a=true):a=b:=by
 unfold sle at *;show xA (λz=>by rwa[decide_eq_true z]at h2) (λz=>by rwa[decide_eq_true z]at h1)
noncomputable def qh(ns:qAb):List Str:=ns.mergeSort sle
theorem EB{F:qAb}(G:F.Perm ns)(h:F.Pairwise λa b=>sle a b=true):F=qh ns :=
 X5 (λa b _ _ h1 h2=>ur h1 h2) h (Yf qE qz ns) (G.trans (Vs ns sle).symm)
def pd(v:Value):Str:=match v with
 |.str x _=>x
 |_=>#[([].toArray)]
@[reducible] def Ox (ns:qAb):SK:=#[λv=>rk ns (pd v),λv=>∃x t,v=.str x t/\x∈ns,ZY]
theorem SG(ns:qAb)(prog:By)(w:R4)(A:Th)(E:qa2)(s:dM):@jD (Ox ns) prog w A E s:=@jD.mk (Ox ns) _ _ _ _ _ λ{st x y Q} hk F G h=>by
 let#[a,t,ex,F]:=F;let#[b,u,I,G]:=G;rw[lt'_eq];show vu (VI ?_);rw[hk];change wpS _ _ _ _ (liftM (aar (keyLt' ZY x.1 y.1))>>=_) _ _;let h':Q (some (decide (rk ns (pd x.1)<rk ns (pd y.1)))) st:=h;rw[ex,I]at h' ⊢;rw[show decide (rk ns (pd (.str a t))<rk ns (pd (.str b u)))=_ from Ed F G]at h';show vu (WW (V3 (PySem.W.kas_lt_str #[rfl,BY h'])))
theorem vh:∀{ns:qAb}{us:qa6},L2.Vals (ns.map L2.V.str) us->us.map pd=ns/\∀v∈us,∃x t,v=.str x t/\x∈ns
 | [],us,h=>by cases h;show#[rfl,λ_ h=>by cases h]
 |n::ns,us,h=>by
  cases h with
  |cons r rs =>
   let#[t,rfl]:=r;let#[e,q]:=vh rs;show#[by rw[T8,e];rfl,λv F=>?_];rcases Ti.mp F with rfl|F
   .show#[n,t,rfl,Tf]
   .let#[x,t,G,I]:=q v F;show#[x,t,G,S0 _ I]
theorem uL:∀{us:qa6},(∀v∈us,∃x t,v=Value.str x t)->L2.Vals ((us.map pd).map L2.V.str) us
 | [],_=>.nil
 |u::us,h=>by
  let#[x,t,rfl]:=h u Tf;show .cons #[t,rfl] (uL λv F=>h v (S0 _ F))
end Srt
namespace L2
open PySem PySem.Spec PyProof.Rows Srt
inductive Bn(K:SU)(xs:qAh)(H:Hp)(Q:VK):Prop
 |mk(p:Addr)(ns:qAb)(_:xs=[.ref p])(_:aW K H p (ns.map V.str))(_:ns.Nodup)(_:ns.length<=1000)(_:∀l,H l=none->Q (.ref l) (upd H l (.lst ((qh ns).map V.str))))
theorem q9{X:Cx}:cz X (.builtin "sorted") (Bn X.K):=by
 intros xs us Q I r h;let#[p,ns,rfl,G,ab,hn,q]:=h;let#[u,rfl,ru]:=vals1 r;cases ru;let#[its,Y,pl,hz]:=I.list G;let hl:=Y.length;rw[rz]at hl;let#[Z,al]:=vh Y;show @mh (Ox ns) _ _ _ _ _ _ its _ pl.isList af ?_ (λA=>SG ns ..) (λh2 A Q q=>PySem.W.kas_kind h2 (T:=.type "str") (λv F=>?_) az az q) λout L a2=>?_
 .show @Ks.mk (Ox ns) _ (λp G=>?_) ?_
  .rw[VN]at G;show al p.1 (Yp G).1
  .change((VL its).toList.map λp=>rk ns (pd p.1)).Nodup;let e3:=congrArg (Y0 (rk ns)) Z;rw[VM, <-Yb (l₁:=its) (l₂:=its) (G0 _),VM]at e3;rw[VN,show((its.zip its).map λp=>rk ns (pd p.1))=ns.map (rk ns)from e3];show DR ab λ_ h=>h
 .let#[x,t,rfl,_]:=al v F;show λA Q E s _ q=>wpAny_pure q
 let#[e,he]:=sortedAll_at s.heap its out;let hs:=y1;let ao:∀v∈out.toList,∃x t,v=Value.str x t/\x∈ns:=λv F=>al v (L.mem_iff.mp F);let es:out.toList.map pd=qh ns:=EB (by rw[<-Z];show L.map _) (by
  rw[Wx];show X6 ?_ a2;intro x y hx hy z;let#[b,u,rfl,hb]:=ao y hy;show Ct (ns:=ns) hb z)
 let U:=uL λv F=>(by let#[x,t,e,_]:=ao v F;show#[x,t,e]);rw[es]at U;show#[.ref (s⁻¹+1),_,I.laid (t':=s.toks) (λb o e=>sortedAll_old e) (Zb _) (show b9 X.prog X.w _ _ _ (.lst ((qh ns).map V.str))from#[by rw[rz, <-es,rz,L.length_eq];omega,out.toList,e,U,by simpa using he]),rfl,q _ (I.bC.fresh (Zb _))]
end L2
namespace Srt
open PySem PyProof.Rows
def IsT(h:Heap)(v:Value)(p:Str×Int):Prop:=∃a t u,v=.ref a/\IsTup h a ([.str p.1 t,.int p.2 u].toArray)
def gw(h:Heap)(v:Value):Str×Int:=match v with
 |.ref a=>match (h.get? a).map λo:Obj=>o.data with
  |some (Data.seq xs _)=>(pd (xs.getD 0 .none),numOf (xs.getD 1 .none))
  |_=>(#[([].toArray)],0)
 |_=>(#[([].toArray)],0)
variable{h:Heap}{p:Str×Int}
theorem iS{v:Value}(i:IsT h v p):gw h v=p:=by
 let#[a,t,u,rfl,o,F,G,n,e3]:=i;unfold gw;dsimp only;rw[F,Z3,e3];rfl
variable{ps:List (Str×Int)}
theorem yM(nd:(ps.map (·.1)).Nodup){q:Str×Int}(I:p∈ps)(F:q∈ps)(e:p.1=q.1):p=q:=by
 let#[i,hi,rfl]:=Vh.mp I;let#[j,G,rfl]:=Vh.mp F;have:i=j:=(Ya (h₀:=by simpa using hi) (h₁:=by simpa using G) nd).mp (by rw[aaj,aaj];show e);subst this;rfl
@[reducible] def Om (h:Heap) (ps:List (Str×Int)):SK:=#[λv=>rk (ps.map (·.1)) (gw h v).1,λv=>∃p∈ps,IsT h v p,tuples' true]
variable{s:dM}
theorem Su(nd:(ps.map (·.1)).Nodup){prog:By}{w:R4}{A:Th}{E:qa2}(L:∀b o,h.get? b=some o->s.heap.get? b=some o):@jD (Om h ps) prog w A E s:=@jD.mk (Om h ps) _ _ _ _ _ λ{st x y Q} hk h1 h2 q=>by
 let#[p,I,U]:=h1;let#[r,G,Y]:=h2;rw[lt'_eq];show vu (VI ?_);rw[hk];change wpS _ _ _ _ (liftM (aar (keyLt' (tuples' true) x.1 y.1))>>=_) _ _;let F:Q (some (decide (rk (ps.map (·.1)) (gw h x.1).1<rk (ps.map (·.1)) (gw h y.1).1))) st:=q;rw[iS U,iS Y,Ed (Xf I) (Xf G)]at F;let#[a,t1,u1,e1,o1,Z,_,n1,d1]:=U;let#[b,t2,u2,e2,o2,g2,_,n2,d2]:=Y;rw[e1,e2];show vu (WW (V3 (PySem.W.kat_lt (L _ _ Z) d1 (L _ _ g2) d2 ?_)));show kat_cons (wpAny_eqBool_str ?_);cases c:p.1=r.1
 .obtain rfl:=yM nd I G c;rw[decide_eq_true rfl];show kat_yes (kat_cons (wpAny_eqBool_int ?_));rw[beq_self_eq_true];show kat_yes (PySem.W.kat_nil #[rfl,BY ?_]);rw[decide_eq_false (aaR _)]at F;show F
 .rw[decide_eq_false c];show PySem.W.kat_no (oneLt_str #[rfl,BY F])
noncomputable def Lm(p q:Str×Int):Bool:=sle p.1 q.1
noncomputable def uN(ps:List (Str×Int)):List (Str×Int):=ps.mergeSort Lm
theorem FG{qs:List (Str×Int)}(nd:(ps.map (·.1)).Nodup)(F:qs.Perm ps)(h:qs.Pairwise λa b=>Lm a b=true):qs=uN ps :=
 X5 (λa b G I h1 h2=>yM nd (F.mem_iff.mp G) ((Vs ps Lm).mem_iff.mp I) (ur h1 h2)) h (Yf (le:=Lm) (λa b c=>qE a.1 b.1 c.1) (λa b=>qz a.1 b.1) ps) (F.trans (Vs ps Lm).symm)
theorem uU{h:Heap}:∀{vs:qa6},(∀v∈vs,∃p,IsT h v p)->∃fs,PySem.W.KatTups h vs fs/\fs.length=vs.length/\∀f∈fs,∃x t,f=Value.str x t
 | [],_=>#[[],.nil,rfl,λ_ h=>by cases h]
 |v::vs,a=>by
  let#[fs,k,l,q]:=uU (vs:=vs) λu G=>a u (S0 _ G);let#[p,b,t,u,rfl,o,g,c,n,d]:=a v Tf;show#[.str p.1 t::fs,.cons g c d rfl k,by rw[TH,TH,l],λf F=>?_];rcases Ti.mp F with rfl|F
  .show#[_,0]
  .show q f F
theorem D7{vs:qa6}{b:Addr}{o:Obj}(h:s.heap.get? b=some o):(kR (HD s vs) (s⁻¹+1) vs).heap.get? b=some o:=by
 let lt:=Heap.lt_size h;let F:((s.heap.push (seqObj "list" ([].toArray) 0)).update s⁻¹ (Obj.mapSeq (· ++ vs.toArray))).objs.size=s⁻¹+1:=(by rw[Heap.size_update,WK]);unfold kR HD;dsimp only;rw[Heap.get?_push_ne _ _ _ (by rw[WK,Heap.size_update,WK,F];omega),Heap.get?_push_ne _ _ _ (by rw[Heap.size_update,WK,F];omega),Heap.get?_update_ne _ b (s⁻¹+1) _ af,Heap.get?_push_ne _ _ _ (by rw[F];omega),Heap.get?_update_ne _ b s⁻¹ _ af,Heap.get?_push_ne _ _ _ af];show h
end Srt
variable{P:By}{w:R4}{K:SU}{mg:qa3}{base:Heap}{f:Addr}{fd:DD}
namespace L2
open PySem PySem.Spec PyProof.Rows Srt
structure jq(H:Hp)(ws:qAh)(ps:List (Str×Int)):Prop where
 ln:ws.length=ps.length
 at_:∀(i:Nat)(v:V),ws[i]?=some v->∃p t,ps[i]?=some p/\v=.ref t/\H t=some (.tup [.str p.1,.int p.2])
inductive AB(K:SU)(xs:qAh)(H:Hp)(Q:VK):Prop
 |mk(p:Addr)(ws:qAh)(ps:List (Str×Int))(_:xs=[.ref p])(_:aW K H p ws)(_:jq H ws ps)(_:(ps.map (·.1)).Nodup)(_:ps.length<=1000)(_:∀l ws',H l=none->jq H ws' (uN ps)->Q (.ref l) (upd H l (.lst ws')))
theorem rS{X:Cx}:cz X (.builtin "sorted") (AB X.K):=by
 intros xs us Q I r h;let#[p,ws,ps,rfl,hp,ta,ab,hn,q]:=h;let#[u,rfl,ru]:=vals1 r;cases ru;let#[its,rv,pl,hz]:=I.list hp;let hl:=rv.length;let as:=ta.ln;let hs:=y1;let al:∀(j:Nat)(v:Value),its[j]?=some v->∃F t,ps[j]?=some F/\v=.ref t/\H t=some (.tup [.str F.1,.int F.2])/\IsT s.heap v F:=λj v G=>by
  let hj:=(y0.mp G).1;obtain⟨x,ex⟩:∃x,ws[j]?=some x:=#[_,tp af];let#[F,t,Y,rfl,U]:=ta.at_ j x ex;let#[v',e2,ad]:=rv.get ex;rwa[G]at e2;cases ad;let#[aB,r2,ac,_]:=I.tuple (dC.of U);show#[F,t,Y,rfl,U,?_];cases r2 with
  |cons a r2 =>
   let#[t1,rfl]:=a;cases r2 with
   |cons b r3 =>
    let#[t2,rfl]:=b;cases r3;show#[t,t1,t2,rfl,ac]
 let am:∀v∈its,∃F∈ps,IsT s.heap v F:=λv G=>by
  let#[j,hj]:=WC.mp G;let#[F,t,e,_,_,i]:=al j v hj;show#[F,SO e,i]
 let em:its.map (gw s.heap)=ps:=Ww λj=>by
  rw[M4];cases e:its[j]? with
  |none=>rw[VY]at e;rw[map_none,eq_comm,VY];omega
  |some v =>
   let#[F,t,Y,_,_,i]:=al j v e;rw[Y,Z3,iS i]
 show @mh (Om s.heap ps) _ _ _ _ _ _ its _ pl.isList af ?_ (λA=>Su ab λb o e=>D7 e) (λh2 A Q q=>?_) λout Z a2=>?_
 .show @Ks.mk (Om s.heap ps) _ (λp hp=>?_) ?_
  .rw[VN]at hp;show am p.1 (Yp hp).1
  .change((VL its).toList.map λp=>rk (ps.map (·.1)) (gw s.heap p.1).1).Nodup;let e3:=congrArg (Y0 λp:Str×Int=>rk (ps.map (·.1)) p.1) em;rw[VM, <-Yb (l₁:=its) (l₂:=its) (G0 _),VM]at e3;rw[VN,show((its.zip its).map λp=>rk (ps.map (·.1)) (gw s.heap p.1).1)=ps.map (λp=>rk (ps.map (·.1)) p.1)from e3];have:=DR ab λ_ h=>h
   (rw[VM]at this;assumption)
 .let ap:∀v∈its,∃F,IsT (kR (HD s its) (s⁻¹+1) its).heap v F:=λv G=>by
   let#[F,_,a,t,u,e,o,g,c]:=am v G;show#[F,a,t,u,e,o,D7 g,c]
  let#[fs,k1,k2,k3]:=uU ap;show PySem.W.kat_kind (T:=.type "str") k1 af (λv G=>?_) az ?_
  .let#[x,t,rfl]:=k3 v G;show λA Q E s _ q=>wpAny_pure q
  .rw[show((Value.type "str" != Value.type "tuple")=true)by decide];show q
 let#[e,he]:=sortedAll_at s.heap its out;let es:out.toList.map (gw s.heap)=uN ps:=FG ab (by rw[<-em];show Z.map _) (by
  rw[Wx];show X6 ?_ a2;intro x y hx hy z;let#[F,ao,i]:=am y (Z.mem_iff.mp hy);have:rk (ps.map (·.1)) (gw s.heap x).1<=rk (ps.map (·.1)) (gw s.heap y).1:=z;show Ct (ns:=ps.map (·.1)) ?_ this;rw[iS i];show Xf ao)
 let ar:∀v∈out.toList,∃t,v=Value.ref t/\H t=some (.tup [.str (gw s.heap v).1,.int (gw s.heap v).2]):=λv G=>by
  let#[j,hj]:=WC.mp (Z.mem_iff.mp G);let#[F,t,_,Y,U,i]:=al j v hj;rw[iS i];show#[t,Y,U]
 obtain⟨L,vo,wo⟩:∃L,Vals L out.toList/\jq H L (out.toList.map (gw s.heap)):=by
  generalize out.toList=l at ar;clear es e he Z a2 out
  induction l with
  |nil=>show#[[],.nil,rfl,λi v h=>by cases h]
  |cons v l ih =>
   let#[L,h1,h2]:=ih λu hu=>ar u (S0 _ hu);let#[t,e,U]:=ar v Tf;show#[.ref t::L,.cons e h1,by rw[TH,T8,TH,h2.ln],λi x hx=>?_];cases i with
   |zero=>cases hx;show#[_,t,1,U]
   |succ i=>show h2.at_ i x hx
 rw[es]at wo;let lo:=vo.length;rw[Z.length_eq]at lo;show#[.ref (s⁻¹+1),_,I.laid (t':=s.toks) (λb o e=>sortedAll_old e) (Zb _) (show b9 X.prog X.w _ _ _ (.lst L)from#[af,out.toList,e,vo,by simpa using he]),rfl,q _ L (I.bC.fresh (Zb _)) wo]
end L2
namespace PySem
open PyProof.Rows
namespace F
end F
section
variable{prog:By}{w:R4}{K:Type}[DecidableEq K]{knd:KeyKind prog w K}{A:Th}{E:qa2}
end
end PySem
namespace L2
open PySem PySem.Spec PyProof.Rows
noncomputable def tK(t:Str×Str)(caps:List (Str×Nat)):List Str:=t.1::t.2::caps.map (·.1)
noncomputable def Nc(caps:List (Str×Nat))(σ:St)(v F:Option V):St:=v::F::caps.map λp=>(σ[p.2]?).join
abbrev JV(X:Cx)(scope:Xt)(cl:List (Str×Addr))(t:Str×Str)(caps:List (Str×Nat)):Prop:=sC X scope cl [t.1,t.2] caps
theorem PL{α:Type}:∀{l:List α},l.length=2->∃a b,l=[a,b]
 | [a,b],_=>#[a,b,rfl]
abbrev Cv:=Hx 2
def JU(caps:List (Str×Nat))(g:TG)(wi:TI)(tt:TT)(te:TE):TE:=λσ H Q=>wi σ H λJ H1 =>
 ∃W:Nat->Nat->List V->Hp->Prop,(∃m,W 0 m [] H1)/\Cv caps g tt te σ J (λys H2=>∀p,H2 p=none->Q (.ref p) (upd H2 p (.lst ys))) W
variable{X:Cx}{iter:Tr}{px pos:Vw}{es:qAf}{kx:Nat}{g:TG}{wi:TI}
theorem AY{scope:Xt}{cl:List (Str×Addr)}{t:Str×Str}{caps:List (Str×Nat)}{elt:Tr}{ifs:qAf}{tt:TT}{te:TE}(K:JV X scope cl t caps)(hc:X.calm=true)(hi:PI X (.Tuple es kx px) iter wi)
  (ad:∀C s₀ H₀ ex,PG (nI X (tK t caps) scope cl C s₀ H₀ ex) (.Tuple es kx px) g)
  (L:∀C s₀ H₀ ex,Ld (nI X (tK t caps) scope cl C s₀ H₀ ex) ifs tt) (he:∀C s₀ H₀ ex,PE (nI X (tK t caps) scope cl C s₀ H₀ ex) elt te)
  (hs:%[∀x,VH iter X.env x=pure x|0]):PE X (.ListComp elt [#[.Tuple es kx px,iter,ifs,(0)]] scope pos) (JU caps g wi tt te):=by
 intros Q I h;rw[eval_ListComp];show V4 (use:=none) rfl hs K.CO K.kind K.names (bO (hi pins s σ H _ I h) λv s1 h1=>bO h1 λam s2 h2=>?_);let#[it,fp,tn,J,H2,e,I2,T,G,f2,W,#[m0,U],F]:=h2;subst e;show mv (RR:=λac C=>compPost (model X.prog X.w) X.A X.xe none (EP X pins σ Q) ac C) K hc ad L he I2 T G f2 U F ?_;intro D C ys H' s' m hD Z hn hC q;show#[m,hn,λh' ab=>?_];let#[c0,Y,c2,c3,c4,c5]:=hC;show#[.ref D,_,Z.turned (t':=s'.toks) (λb o hb e=>(ab.2 b hb).trans e) c0 Y c3 c4 c5,rfl,q D hD]
theorem Ii:TV "zip" = some (.type "zip"):=av
theorem sG:TV "enumerate" = some (.type "enumerate"):=av
theorem AQ:TV "all" = some (.builtin "all"):=av
theorem Lc:TV "abs" = some (.builtin "abs"):=av
theorem IZ:TV "min" = some (.builtin "min"):=av
variable{pins:qa1}{σ:St}{H:Hp}{s:dM}
theorem Inv.j9{h':Heap}{t':Nat}{ch:qAc}(I: ~~~H s)(k:∀b o,b∉ch->s.heap.get? b=some o->h'.get? b=some o)(G:∀b∈ch,gA X pins H b): ~~~H { s with heap:=h',toks:=t' }:=by
 let L:∀b u,H b=some u->b∉ch:=λb u e z=>(by rwa[(G b z).1]at e);show I.step (g':=s.gens) (d':=s.drawn) (ch:=ch) (λb hb=>?_) (λb o _ _ F e _=>k b o F e) (λb o _ _ F e _=>#[o.slots,k b o F e]) (λ_ _ _ _ n=>n)
  (λb o F e=>#[o,k b o F e]) (λ_ _ e=>e) (λ_ _ _ e=>e) (λb ps e=>#[([].toArray),by rw[e];simp]) (λm U=>?_) (λb u e=>?_) I.bare
 .let#[_,f1,f2,Y,Z,f5]:=G b hb;show#[Y,f1,Z,f5]
 .let#[o,es,ep,ho,r]:=U;show#[o,es,ep,k _ o (λz=>(G _ z).2.1 rfl) ho,r]
 .show(I.bC b u e).gD (λc v F q=>k c v ?_ q) (λ_ q=>q) λ_ _ q=>q;rcases F with z|z
  .rw[z];show L b u e
  .show L c _ z
variable{its:qa6}
theorem Inv.C7{D:Addr}{ys:qAh}(I: ~~~H s)(f:gA X pins H D)(e:IsTup s.heap D its.toArray)(r:Vals ys its)(hz:ys.length<=sizeLine) :
  ~~~(upd H D (.tup ys)) s:=by
 let#[G,f1,f2,Y,Z,f5]:=f;let#[U,g,d,tk,os]:=s;show I.step (g':=g) (d':=d) (t':=tk) (h':=U) (ch:=[D]) (λb F=>?_) (λb o _ _ _ e _=>e) (λb o _ _ _ e _=>#[o.slots,e]) (λb o F _ n=>?_) (λb o _ e=>#[o,e]) (λb xs q=>?_) (λb o u q=>?_) (λb ps q=>#[([].toArray),?_]) (λm L=>L) (λb u q=>?_) I.bare
 .let z:b=D:=‹F›;subst z;show#[Y,f1,Z,f5]
 .rw[au (λz=>F (by simp[z]))];show n
 .rw[au (aV q G)];show q
 .rw[au (aV q G)];show q
 .rw[au (aV q G),q];simp
 .by_cases F:b=D
  .subst F;rwa[ag]at q;show#[hz,its,r,e]
  .rw[au F]at q;show(I.bC b u q).gD (λ_ _ _ z=>z) (λc z=>by rw[au (aV z G)];show z) λc xs z=>by rw[au (aV z G)];show z
theorem Ba:2<=sizeLine:=by rw[y1];decide
noncomputable def L8(K:SU)(l:Addr):It :=
 #[λi H=>∃xs x,aW K H l xs/\xs[i]?=some x,
  λi H v H'=>∃T x,v=.ref T/\H T=none/\H'=upd H T (.tup [.int i,x])/\∀xs,aW K H l xs->xs[i]?=some x,
  λi H=>∃xs,aW K H l xs/\xs.length<=i]
def Sv(e it l:Addr)(i:Nat)(h:Heap):Prop:=(∃old,IsEnum h e it i old)/\h.IsListIter it l i
theorem zE{e it l:Addr}(D:e≠it):Turn P w K (.Tuple es kx px) (L8 K l) [e,it] e (Sv e it l) where
 mem:=by simp
 obj:=by
  rintro i h ⟨⟨old,G⟩,h1⟩ b F;simp only[Ti,U4,or_false]at F;rcases F with rfl|rfl
  .show#[_,G,λv q=>by cases(show Data.fields _=Data.cell v from q)]
  .let#[o,e,c,d]:=h1;show#[o,e,λv q=>by rwa[d]at q]
 keep:=λi h h' ⟨⟨old,G⟩,h1⟩ k=>#[#[old,k e (by simp) _ G],h1.at λo q=>k it (by simp) o q]
 item:=by
  intro X hP hw hK hc i pins s σ H E I L st hg;subst hP hw hK;let#[#[old,G],h1]:=st;let#[xs,x,Y,Z]:=hg;let#[ao,ac,p1,_]:=I.list Y;let#[u1,ap,as]:=ac.get Z;show wpAny_pyNext_enum_item G h1 p1.isList (x:=u1) ‹ap› D λh' eo a1 pT sz kk=>?_;let I1: ~~~H { s with heap:=h',toks:=s.toks+1 }:=I.j9 (t':=s.toks+1) (ch:=[e,it]) (λb o F q=>kk b o (λz=>F (by simp[z])) (λz=>F (by simp[z])) q) L;show#[0,wpAny_letOwnedTupleGo_enum eo λab e2 U=>?_];replace U:Heap.SameBut e h' ab:=U;let I2: ~~~H { s with heap:=ab,toks:=s.toks+1 }:=I1.j9 (s:={ s with heap:=h',toks:=s.toks+1 }) (h':=ab) (t':=s.toks+1) (ch:=[e]) (λb o F q=>(U.2 b (λz=>F (by simp[z]))).trans q) λb F=>L b (by simp only[DO]at F;simp[F]);let fT:gA X pins H s⁻¹:=I.pJ (G0 _) (I.bC.fresh (G0 _));let ne:s⁻¹≠e:=ZI (Heap.lt_size G);let ar:=U.extBut _ _ ne pT;let I3: ~~~(upd H s⁻¹ (.tup [.int i,x])) { s with heap:=ab,toks:=s.toks+1 }:=I2.C7 (its:=[.int i s.toks,u1]) fT #[_,ar,rfl,0] (.cons #[0] (.cons as .nil)) Ba;show#[.ref s⁻¹,_,I3,rfl,#[_,x,rfl,fT.1,rfl,λzs ad=>by rw[I.oS ad Y];show Z],#[#[u1,?_],a1.extBut U.extBut (Ne.symm D)],λb F=>?_]
  .let ec:((i+1:Nat):Int)=(i:Int)+1:=(by push_cast;rfl);rw[ec];show e2
  .let nb:b≠s⁻¹:=by
    intro q;simp only[Ti,U4,or_false]at F;let#[o1,g1,_]:=h1;rcases F with z|z<;>rw[z]at q
    .show ne q.symm
    .show Ul (Heap.lt_size g1) q
   rw[au nb];show(L b F).1
 done:=by
  intro X hP hw hK hc i pins s σ H E I L st hg;subst hP hw hK;let#[#[old,G],h1]:=st;let#[xs,Y,Z]:=hg;let#[ao,ac,p1,_]:=I.list Y;let am:=ac.length;let#[f0,f1,f2,f3,f4,f5]:=L it (by simp);show wpAny_pyNext_enum_end (I.ok.hd hc) G h1 p1.isList (by simp;show le_of_eq_of_le (id (XX am)) Z) λh' eb=>#[rfl,I.turned (t':=s.toks) (λb o F q=>eb b o F q) f0 f1 f3 f4 f5]
 self:=λ_ _ _ _ _ st h=>let ⟨⟨_,G⟩,_⟩:=st;Z4 G h
def M5(K:SU)(ta:TA):TI:=λσ H R=>ta σ H λvs H1=>∃l,vs=[.ref l]/\(∃xs,aW K H1 l xs)/\R (L8 K l) H1
theorem yU{a:Tr}{ta:TA}{p:Vw}(hg:Gl X "enumerate")(Y:X.mg "enumerate" = none)(ha:PA X [a] ta)(hs:%[starEach [a] X.env=[(false,eval a X.env)]|0]) :
  PI X (.Tuple es kx px) (.Call (.Name "enumerate" p) [a] [] pos) (M5 X.K ta):=by
 intros R I h;show Call_ (iO I hg Y sG (Ut (bO (ha pos pins s σ H _ I h) λus F ab=>?_) hs rfl));let#[vs,H1,G,r1,q1]:=ab;let#[l,rfl,#[xs,Z],q]:=q1;let#[u1,rfl,e1]:=vals1 r1;obtain rfl:u1=Value.ref l:=e1;let#[ac,ad,p1,_]:=G.list Z;show call_enumerate_list p1.isList λh' U hi hsz hk=>?_;show Z4 U ?_;show#[F⁻¹+1,[F⁻¹+1,F⁻¹],2,H1,rfl,G.kept (t':=F.toks) hk,zE (l:=l) (Nat.succ_ne_self _),#[#[_,U],hi],λb L=>?_,q];let le:F⁻¹<=b:=by
  simp only[Ti,U4,or_false]at L;rcases L with e|e<;>rw[e]<;>first|show G0 _|show aak _ _
 show G.pJ le (G.bC.fresh le)
theorem yd:∀{bs:List Bool}{its:qa6},Vals (bs.map V.bl) its->its=bs.map Value.bool
 | [],_,.nil=>rfl
 |b::bs,_,.cons r t=>by rw[yd t,show _=Value.bool b from r];rfl
theorem qU(hc:X.calm=true):cz X (.builtin "all") (λxs H Q=>∃(l:Addr)(bs:List Bool),xs=[.ref l]/\aW X.K H l (bs.map V.bl)/\Q (.bl (bs.all id)) H):=by
 intros xs us Q I r h;let#[l,bs,rfl,Y,q]:=h;let#[u,rfl,ru]:=vals1 r;obtain rfl:u=Value.ref l:=ru;let#[its,rv,p,_]:=I.list Y;let ei:=yd rv;subst ei;let G:=p.isList;let ac:l<s⁻¹:=let ⟨_,e,_⟩:=G;Heap.lt_size e;show call_all_walk (ZJ G ?_);show#[s⁻¹,[s⁻¹,l],[s⁻¹],(bs.map Value.bool).toArray.size,2,λi=>(bs[i]?).getD true,rfl,Walks.list (A:=X.A.in1) (I.ok.hd hc) _ l (Ul ac) (bs.map Value.bool).toArray,
  #[#[_,Heap.get?_push_size _ rfl,1],G.push _],λi v s' Q' E' hP U=>?_,λh' tk hk=>?_]
 .let ab:(bs.map Value.bool).toArray[i]?=some v:=hP;let F:(bs.map Value.bool)[i]?=some v:=‹ab›;rw[M4]at F;cases L:bs[i]? with
  |none=>rwa[L]at F
  |some b =>
   rw[L]at F;let Z:Value.bool b=v:=SN F;subst Z;simp only[L,Option.getD_some]at U;show UT U
 .let e:((TM (bs.map Value.bool).toArray.size).all λi=>(bs[i]?).getD true)=bs.all id:=by
   rw[S9,rz];show LSm.range_all bs
  rw[e];show#[.bl _,H,I.kept (LSm.kept_iter hk),rfl,q]
abbrev g2(K:SU):TG:=IB K 2 (yV (iz 0) (yV (iz 1) Nm))
variable{a:Addr}{xs:qAh}{D:Ends}
theorem va{tb:TS}(Pv:Nat->St->Hp->Prop)(U:Pv 0 σ H)(Y:∀i σ H,i<=xs.length->Pv i σ H->aW K H a xs)
  (hs:∀i x σ H T,xs[i]?=some x->H T=none->Pv i σ H->g (.ref T) σ (upd H T (.tup [.int i,x])) λG H2=>tb { D with nx:=Pv (i+1),ct:=Pv (i+1),bk:=D.nx } G H2) (hd:∀σ H,Pv xs.length σ H->D.nx σ H) :
  ∃W:Nat->Nat->St->Hp->Prop,(∃m,W 0 m σ H)/\∀i m σ H,W i m σ H ->
   ((L8 K a).stop i H/\D.nx σ H)\/((L8 K a).go i H/\∃N:St->Hp->Prop,(∀I H',N I H'->∃m',m'<m/\W (i+1) m' I H')/\∀x H',(L8 K a).Ee i H x H'->g x σ H' λG H2=>tb { D with nx:=N,ct:=N,bk:=D.nx } G H2):=by
 show#[λi m σ H=>m=xs.length-i/\i<=xs.length/\Pv i σ H,#[xs.length,by simp,Tp _,U],?_];rintro i m σ H ⟨rfl,hi,p⟩;let F:=Y i σ H hi p;cases L:i<xs.length
 .show .inr #[#[xs,xs[i],F,by simp[L]],Pv (i+1),λI H' Z=>#[xs.length-(i+1),Vq (Vt xs) i L,rfl,L,Z],?_];rintro v H' ⟨T,x,rfl,hT,rfl,e1⟩;show hs i x σ H T (e1 xs F) hT p
 .let e:i=xs.length:=af;subst e;show .inl #[#[xs,F,G0 _],hd σ H p]
def xZ(K:SU):List V->Hp->VK->Prop:=λxs H Q=>∃p ys,xs=[.ref p]/\(aW K H p ys\/dC K H p ys)/\∀l,H l=none->Q (.ref l) (upd H l (.lst ys))
theorem xp:cz X (.type "list") (xZ X.K):=cq
theorem tq(hc:X.calm=true):cz X (.builtin "sorted") (λxs H Q=>∃(a:Addr)(kvs:qAi)(ns:qAa),xs=[.ref a]/\H a=some (.dK kvs)/\kvs.map (·.1)=ns.map NC/\ns.Nodup/\ns.length<=1000 /\
  ∀(l:Addr)(F:qAa),H l=none->F.Perm ns->F.Pairwise (· <= ·)->Q (.ref l) (upd H l (.lst (F.map V.int)))):=by
 intros xs us Q I r h;let#[a,kvs,ns,rfl,ha,hk,ac,hn,q]:=h;let#[u,rfl,ru]:=vals1 r;cases ru;let#[_,hd,vs,ab,dd]:=uK I.bC ha;let#[ep,ad]:=dd.dictAt;let G:vs.map (·.1)=ns.map NC:=(by rw[<-ab.keys];show hk);let ll:ns.length=vs.length:=by
  have:=congrArg Vt G;simpa using this.symm
 let hs:=y1;show Srt.xf (PySem.W.kdl_dict (knd:=bS X.prog X.w) (kvs:=vs) (ep:=ep) (d:=a) hd) (I.ok.hd hc) ad (ns:=ns) (λi w' hw=>?_) ll ac af λh1 h' tk out F e k1 k2 he a1 U Z=>?_
 .let#[k,x,e1,e2]:=hw;let e3:(vs.map (·.1))[i]?=some k:=(by rw[M4,e1];rfl);rw[G,M4]at e3;cases L:ns[i]? with
  |none=>rwa[L]at e3
  |some m =>
   rw[L]at e3;obtain rfl:NC m=k:=SN e3;let#[t,rfl]:=Cs e2;show#[m,t,1]
 .let Y: ~~~H { s with heap:=h1,toks:=tk }:=I.kept k1;show#[.ref h1.objs.size,_,Y.laid (t':=tk) k2 (G0 _) (show b9 X.prog X.w _ _ _ (.lst (F.map V.int))from#[by rw[rz,U.length_eq];omega,out.toList,e,lH a1,by simpa using he]),rfl,q _ F (Y.bC.fresh (G0 _)) U Z]
variable{A:Th}{x:Value}
theorem pB{prog:By}{E:qa2}{t:Addr}{e:Value->Bool}{j:Nat}{P:Fin->dM->Prop}(L:IsTup s.heap t its.toArray)(he:∀y∈its,Xy A s y x (e y))(G:(its[j]?).map e=some true)(hn:∀i,i<j->(its[i]?).map e=some false)
  (h:P (.done (.ret (.int j s.toks))) { s with toks:=s.toks+1 }):wpAny (model prog w) A (Builtin.«tuple.index» #[[.ref t,x],[]]) P E s:=by
 change wpAny _ _ (Builtin.Tuple.tupleItemsOf (.ref t)>>=_) _ _ s;show ti (tupleItemsOf_ L ?_);simp only[pure_bind];rw[Nat.min_self,S9,Y1];let jl:j<its.length:=by
  cases q:its[j]? with
  |none=>rwa[q]at G
  |some y=>show(y0.mp q).1
 show ti (wpAny_forIn_list _ (λrest b s'=>b.1=none/\s'=s/\∃i,i<=j/\rest=List.range' i (its.length-i)) _ ?_ ?_ _ _ #[1,(0),Tp _,by simp[aaY]])
 .rintro k rest b s' ⟨Z,rfl,i,hi,F⟩;obtain⟨m,Y⟩:∃m,its.length-i=m+1:=#[its.length-i-1,af];rw[Y,List.range'_succ]at F;injection F with h1 h2;subst h1 h2;let I:k<its.length:=af;let U:its.toArray[k]?=some its[k]:=(by simp[I]);rw[U];show ti (he _ (UA I) prog w E _ ?_);cases z:k=j
  .subst z;rw[tp I]at G;rw[SN G,aa3 rfl];show ti (ti (wpAny_mkInt (wpAny_pure (wpAny_pure (wpAny_pure h)))))
  .have:=hn k af;rw[tp I]at this;rw[SN this,aa2 (by nofun)];show wpAny_pure #[1,k+1,af,by rw[show its.length-(k+1)=m by omega]]
 .rintro⟨b1,b2⟩ s' ⟨Z,rfl,i,hi,F⟩;have:=congrArg Vt F;rw[List.length_range']at this;simp at this;omega
inductive yx(K:SU)(x:V)(vs:qAh)(H:Hp)(Q:VK):Prop
 |mk (p:Addr) (xs:qAh) (y:V) (j:Nat) (_:x=.ref p) (_:vs=[y]) (_:dC K H p xs) (_:xs.all fE=true) (_:fE y=true) (_:(xs[j]?).map (λz=>mC z y)=some true) (_:∀i,i<j->(xs[i]?).map (λz=>mC z y)=some false) (_:Q (.int (j:Nat)) H):yx K x vs H Q
theorem zU:HB X "tuple.index" (yx X.K):=by
 intros x vs v us Q I rx rv h;let#[p,xs,y,j,rfl,rfl,hT,U,f2,h1,h2,q]:=h;cases rx;let#[u,rfl,ru]:=rv.one;let#[its,r,G,hz]:=I.tuple hT;let L:∀i b,(xs[i]?).map (λz=>mC z y)=some b->(its[i]?).map (CU y)=some b:=λi b hb=>by
  let#[z,Y,e2]:=SV.mp hb;let#[w,Z,ab]:=r.get Y;rw[Z,Z3,w6 ab (U6.mp U z (SO Y)),e2]
 show VW X7 G.typeIs PySem.F.entry_tuple_index (pB (e:=CU y) G (ko ru f2 r U) (L j true h1) (λi hi=>L i false (h2 i hi)) #[0,#[.int (j:Nat),H,I.tok _,#[0],q]]) (PySem.F.args_tuple_index_2 _ _)
noncomputable def jS(x:V):Bool:=match x with
 |.a7=>true
 |_=>false
noncomputable def mq(v:Value):Bool:=match v with
 |.none=>true
 |_=>false
structure Mu(K:SU)(H:Hp)(xs:qAh):Prop where
 at_:∀x∈xs,x=.a7\/∃t ys,x=.ref t/\dC K H t ys
theorem oq(I: ~~~H s)(F:A.units<V0):∀{xs:qAh}{us:qa6},Vals xs us->Mu X.K H xs->∀u∈us,Xy A s u .none (mq u)
 |_,_,.nil,_=>λu F=>by cases F
 |x::xs,u::us,.cons r t,h=>λU G=>by
  rcases Ti.mp G with rfl|G
  .rcases h.at_ x Tf with rfl|⟨t,ys,rfl,L⟩
   .cases r;show aau _
   .cases r;let#[its,_,pl,_]:=I.tuple L;show SeqAt.EqAt.tuple_none pl F
  .show oq I F t #[λy Y=>h.at_ y (S0 _ Y)] U G
theorem rA:∀{xs:qAh}{us:qa6},Vals xs us->Mu X.K H xs->us.map mq=xs.map jS
 |_,_,.nil,_=>rfl
 |x::xs,u::us,.cons r t,h=>by
  rw[T8,T8,rA t #[λy F=>h.at_ y (S0 _ F)]];rcases h.at_ x Tf with rfl|⟨t,ys,rfl,G⟩
  .cases r;rfl
  .cases r;rfl
inductive Ng(K:SU)(x:V)(y:V)(H:Hp)(Q:VK):Prop
 |mk(p:Addr)(xs:qAh)(_:x=.a7)(_:y=.ref p)(_:aW K H p xs)(_:Mu K H xs)(_:Q (.bl (xs.any jS)) H)
theorem KH(L:X.A.units+1<V0):kJ X (Uz .In) (Ng X.K):=by
 intros x y v u Q I Z G h;let#[p,xs,rfl,rfl,Y,F,q]:=h;cases Z;cases G;let#[its,r,pl,hz]:=I.list Y;show aav mq pl.isList (λw U=>oq I L r F w ‹U›) #[.bl _,H,I,3];rw[show its.toArray.any mq=its.any mq by simp,show its.any mq=xs.any jS by
  have:=congrArg (List.any · id) (rA r F)
  (rw[any_map,any_map]at this;assumption)]
 show q
inductive yT(K:SU)(x:V)(vs:qAh)(H:Hp)(Q:VK):Prop
 |mk(l:Addr)(xs:qAh)(j:Nat)(_:x=.ref l)(_:vs=[.a7])(_:H l=some (.lst xs))(_:Mu K H xs)(_:(xs[j]?).map jS=some true)(_:∀i,i<j->(xs[i]?).map jS=some false)(_:Q (.int (j:Nat)) H)
theorem Ah(Y:X.A.units+1<V0):HB X "list.index" (yT X.K):=by
 intros x vs v us Q I rx Z h;let#[l,xs,j,rfl,rfl,hH,U,h1,h2,q]:=h;cases rx;let#[u,rfl,ru]:=Z.one;cases ru;let#[z,its,n,r,hl,e]:=I.pG hH;let em:=rA r U;let G:∀(i:Nat)(b:Bool),(xs[i]?).map jS=some b->(its[i]?).map mq=some b:=λi b hb=>by
  have:=congrArg (λl:List Bool=>l[i]?) em;simp only[M4]at this;rw[this];show hb
 let L:j<its.length:=by
  have:=G j true h1;cases q:its[j]? with
  |none=>rwa[q]at this
  |some y=>show(y0.mp q).1
 let hs:=y1;show U8 Xb #[_,e,rfl] X8 (XO _ _)
  (Zy l its.toArray n none ([].toArray) .none mq j ‹L› af ?_ ?_) #[e,λy hy=>oq I Y r U y ‹hy›,#[.int (j:Nat),H,I.tok _,#[0],q]]
 .have:=G j true h1;rw[tp L]at this;simpa using this
 .intro i hi ab;have:=G i false (h2 i ab);rw[tp ‹hi›]at this;simpa using this
def xt(p:Addr):HO:=.ext λh=>h.get? p=some { cls:=.type "tuple",data:=.seq ([.type "list",.type "tuple"].toArray) }
def Jt(t:TA):TE:=λσ H Q=>t σ H λxs H1=>xs=[.ty "list",.ty "tuple"]/\∀p,H1 p=none->Q (.ref p) (upd H1 p (xt p))
theorem Dm{x1}{t:TA}(h:PA X es t):PE X (.Tuple es x1 pos) (Jt t):=by
 intros Q I U;show Zg (bO (h pos pins s σ H _ I U) λus F z=>?_);let#[xs,H1,G,r,e,q]:=z;subst e;cases r with
 |cons a r =>
 obtain rfl:_=Value.type "list" := a;cases r with
 |cons b r =>
 obtain rfl:_=Value.type "tuple" := b;cases r;show#[by change 2<=sizeLine;rw[y1];decide,?_];let L:H1 F⁻¹=none:=G.bC.fresh (G0 _);show#[.ref F⁻¹,upd H1 F⁻¹ (xt F⁻¹),G.laid (t':=F.toks) (λb u e=>Heap.get?_push_of_some _ e) (G0 _) ?_,rfl,q _ L];show#[Heap.get?_push_size _ rfl,#[_,Heap.get?_push_size _ rfl],λh1 h2 e k=>k _ e]
inductive Lx(H:Hp):V->Bool->Prop where
 |a7:Lx H .a7 false
 |int(i:Int):Lx H (.int i) false
 |str(x:Str):Lx H (.str x) false
 |lst {a:Addr}{xs:qAh}(e:H a=some (.lst xs)):Lx H (.ref a) true
 |tup {a:Addr}{xs:qAh}(e:H a=some (.tup xs)):Lx H (.ref a) true
inductive HH(xs:qAh)(H:Hp)(Q:VK):Prop
 |mk(x:V)(p:Addr)(b:Bool)(_:xs=[x,.ref p])(_:H p=some (xt p))(_:Lx H x b)(_:Q (.bl b) H)
theorem zp:cz X (.builtin "isinstance") HH:=by
 intros xs us Q I r h;let#[x,p,b,rfl,G,hk,q]:=h;let#[u,c,rfl,ru,Y]:=vals2 r;obtain rfl:c=Value.ref p:=Y;let#[F,_]:=I.bC _ _ G;let tl:Ys (Value.type "list")=pure (Value.type "type"):=(by rfl);let tt:Ys (Value.type "tuple")=pure (Value.type "type"):=(by rfl);let fin:∀tk,EP X pins σ Q (Value.bool b) { s with toks:=tk }:=λtk=>#[.bl b,H,I.tok _,rfl,q];cases hk with
 |a7 =>
  cases ru;show Wa (VX (cs:=[.type "list",.type "tuple"]) (Tx := "NoneType") (.cons (YM az tl (by with_unfolding_all rfl)) (.cons (YM az tt (by with_unfolding_all rfl)) .nil))) #[rfl,F,fin]
 |int i =>
  let#[t,rfl]:=ru;show Wa (VX (cs:=[.type "list",.type "tuple"]) (Tx := "int") (.cons (Y2 az tl (by with_unfolding_all rfl)) (.cons (Y2 az tt (by with_unfolding_all rfl)) .nil))) #[rfl,F,fin]
 |str y =>
  let#[t,rfl]:=ru;show Wa (VX (cs:=[.type "list",.type "tuple"]) (Tx := "str") (.cons (Y3 az tl (by with_unfolding_all rfl)) (.cons (Y3 az tt (by with_unfolding_all rfl)) .nil))) #[rfl,F,fin]
 |lst e =>
  cases ru;let#[z,its,n,_,_,e]:=I.pG e;show Wa (VX (cs:=[.type "list",.type "tuple"]) (Tx := "list") (.cons (aaA tl (by with_unfolding_all rfl)) (.cons (Answers.of_false_list az tt (by with_unfolding_all rfl)) .nil))) #[#[_,e,rfl],F,fin]
 |tup e =>
  cases ru;let#[its,_,#[o,U,L,_],_]:=I.tuple (dC.of e);show Wa (VX (cs:=[.type "list",.type "tuple"]) (Tx := "tuple") (.cons (Answers.of_false_tuple az tl (by with_unfolding_all rfl)) (.cons (aaA tt (by with_unfolding_all rfl)) .nil))) #[#[o,U,L],F,fin]
noncomputable def Dh(v:Value):Bool:=match v with
 |.bool b=>b
 |_=>false
theorem rh:∀{bs:List Bool}{us:qa6},Vals (bs.map V.bl) us->us.map Dh=bs/\∀u∈us,∃b,u=Value.bool b
 | [],us,h=>by cases h;show#[rfl,λ_ h=>by cases h]
 |b::bs,us,h=>by
  cases h with
  |cons r rs =>
   cases r;let#[e,q]:=rh rs;show#[by rw[T8,e];rfl,λu F=>?_];rcases Ti.mp F with rfl|F
   .show#[b,rfl]
   .show q u F
theorem DY{us:qa6}(h:∀u∈us,∃b,u=Value.bool b):∀u∈us,Xy A s u (.bool true) (Dh u):=λu F=>by
 let#[b,rfl]:=h u F;have:=YU (A:=A) (s:=s) b true;rw[show(b==true)=b by cases b<;>rfl]at this;show this
inductive Ht(x:V)(vs:qAh)(H:Hp)(Q:VK):Prop
 |mk(l:Addr)(bs:List Bool)(_:x=.ref l)(_:vs=[.bl true])(_:H l=some (.lst (bs.map V.bl)))(_:Q (.int (bs.countP id:Nat)) H)
theorem Ey:HB X "list.count" Ht:=by
 intros x vs v us Q I G U h;let#[l,bs,rfl,rfl,Z,q]:=h;cases G;let#[u,rfl,ru]:=U.one;cases ru;let#[z,its,n,r,hl,e]:=I.pG Z;let#[L,al]:=rh r;show U8 Yg #[_,e,rfl] PySem.F.entry_list_count (PySem.F.args_list_count_2 _ _)
  (SeqAt.list_countAt l its.toArray n none ([].toArray) (.bool true) Dh) #[e,λy Y=>DY al y ‹Y›,?_]
 show#[.int (bs.countP id:Nat),H,I.tok _,#[s.toks,?_],q];rw[<-L,List.countP_map];rfl
inductive L4(x:V)(vs:qAh)(H:Hp)(Q:VK):Prop
 |mk(l:Addr)(bs:List Bool)(j:Nat)(_:x=.ref l)(_:vs=[.bl true])(_:H l=some (.lst (bs.map V.bl)))(_:bs[j]?=some true)(_:∀i,i<j->bs[i]?=some false)(_:Q (.int (j:Nat)) H)
theorem Kv:HB X "list.index" L4:=by
 intros x vs v us Q I rx Z h;let#[l,bs,j,rfl,rfl,hH,h1,h2,q]:=h;cases rx;let#[u,rfl,ru]:=Z.one;cases ru;let#[z,its,n,r,Y,e]:=I.pG hH;let#[em,al]:=rh r;let G:∀(i:Nat)(b:Bool),bs[i]?=some b->(its[i]?).map Dh=some b:=λi b U=>by
  rw[<-em,M4]at U;show U
 let L:j<its.length:=by
  have:=G j true h1;cases q:its[j]? with
  |none=>rwa[q]at this
  |some y=>show(y0.mp q).1
 let hs:=y1;show U8 Xb #[_,e,rfl] X8 (XO _ _)
  (Zy l its.toArray n none ([].toArray) (.bool true) Dh j ‹L› (by rw[rz]at Y z;omega) ?_ ?_) #[e,λy hy=>DY al y ‹hy›,#[.int (j:Nat),H,I.tok _,#[0],q]]
 .have:=G j true h1;rw[tp L]at this;simpa using this
 .intro i hi ab;have:=G i false (h2 i ab);rw[tp ‹hi›]at this;simpa using this
inductive Bl(K:SU)(x:V)(y:V)(H:Hp)(Q:VK):Prop
 |flat(_:Oo x y H Q)
 |lst(a:Addr)(xs:qAh)(b:Str)(_:x=.ref a)(_:y=.str b)(_:aW K H a xs)(_:Q (.bl false) H)
 |tup(a:Addr)(xs:qAh)(b:Str)(_:x=.ref a)(_:y=.str b)(_:dC K H a xs)(_:Q (.bl false) H)
theorem Jb(Z:X.A.units<V0):kJ X (Uz .Eq) (Bl X.K):=by
 intros x y v u Q I L F h;cases h with
 |flat h=>show bD pins s σ H x y v u Q I L F h
 |lst a xs b G Y U q =>
  subst G Y;cases L;let#[t,rfl]:=F;let#[its,r,pl,hz]:=I.list U;show SeqAt.RcAt.list_str b t pl.isList Z _ _ _ _ #[.bl false,H,I,rfl,q]
 |tup a xs b G Y U q =>
  subst G Y;cases L;let#[t,rfl]:=F;let#[its,r,pl,hz]:=I.tuple U;show SeqAt.RcAt.tuple_str b t pl Z _ _ _ _ #[.bl false,H,I,rfl,q]
variable{R:XR}
theorem XP.passes(G:X.stack=X.env::X.outer)(F:X.env.frame=some X.env.locals):aac (model X.prog X.w) X.A X.env (XP X pins R):=by
 intro x U hx;let#[e,cls,a0,B,ad,H1,rfl,fl,c2,L,am,q]:=hx;let gD:B.StaysIn U.heap:=by
  rcases fl with z|z|⟨_,_,z⟩
  .show z.1
  .show z.1
  .show z.1
 let I1:=L.now gD;let Z:=I1.ok.frames;rw[G]at fl Z;show oE Z F fl c2 λI held ac c4=>?_;let#[g1,g2,g3,oe,vs,T,oT,ts,k1,#[k2,k3],k4,k5,k6,k7,k8,Y,ab]:=id held;change wpAny _ _ _ _ _ _;rw[F];show ti (Vu k1 k4 k5 ?_);rw[aa2 (by simp)];unfold setFlight;show ti (Vu k1 k4 k5 ?_);rw[aa3 (by simp)];show Y4 k8 Y (XG.mp ab).1 ?_;let eu:=Heap.update_setField_same I T oT ts 3 (Zs X.env.locals) k8 Y ab;change XP X pins R (.ref e) { U with heap:=I.update T (Obj.mapFields λx=>x.setIfInBounds 3 (Zs X.env.locals)) };rw[eu];show#[e,cls,a0,B,ad,H1,rfl,.inr (.inr #[X.env.locals,F,by rw[G];show held]),c4,λh' tk k u=>L h' tk k (ac.trans u),am,q]
theorem XP.eO{pl:qa1}{s':dM}(h:XP X (pins++pl) R x s'):XP X pins R x s':=by
 let#[e,cls,U,B,L,H1,rfl,fl,I,Y,F,q]:=h;show#[e,cls,U,B,L,H1,rfl,fl,I,λh' tk k u=>(Y h' tk k u).eO,#[F.old,F.loc,F.fs,F.cell,λp G=>F.pin p ?_,F.free],q];rcases SY.mp G with m|m
 .show Ug _ m
 .show L3 _ (Ug _ m)
def M9(wi:TI)(g:TG)(tb:pX):pX:=λD R σ H=>Mr wi g (λG F H'=>tb G R F H') D σ H
variable{tb:pX}
theorem yh{tg:Tr}{body:List Tg}(aT:X.stack=X.env::X.outer)(hf:X.env.frame=some X.env.locals)(hc:X.calm=true)(hi:PI X.lI tg iter wi)(hg:PG X.lI tg g)(F:oC X body tb)
  (hs:%[∀x,VH iter X.env x=pure x|0]):Ej X (.For tg iter body [] pos) (M9 wi g tb):=by
 intros D R I h;let hp:aac (model X.prog X.w) X.A X.env (XP X pins R):=XP.passes aT hf;show wpAny_For (nx (hi pins s σ H _ (I.fY _) h) λv s1 h1=>nx h1 λa4 s2 h2=>?_) hs;let#[it,fp,tn,J,H2,e,a0,T,ar,aB,W,#[m0,w0],as]:=h2;let I2:=a0.bL;let f2:∀b∈fp,gA X pins H2 b:=λb F=>aB b F;subst e;let am:∀{H':Hp},(∀b∈fp,H' b=none)->∀b∈fp,gA X pins H' b:=λhn b F=>#[hn b F,(f2 b F).2];show Zf (λn s'=>∃i ab H',Inv X pins ab H' s'/\tn i s'.heap/\(∀b∈fp,H' b=none)/\W i n ab H') ?_ m0 #[(0),σ,H2,I2,ar,λb F=>(f2 b F).1,w0];rintro n s3 ⟨i,ac,H3,I3,ap,ao,w3⟩;rcases as i n ac H3 w3 with⟨a1,qn⟩|⟨go,N,hN,step⟩
 .show Uq hp (bO (T.done X rfl rfl rfl hc i pins s3 ac H3 _ I3 (am ao) ap a1) λr s4 ⟨hr,I4⟩=>?_);subst hr;show UW #[ac,H3,I4,qn]
 .show Uq hp (bO (T.item X rfl rfl rfl hc i pins s3 ac H3 _ I3 (am ao) ap go) λr s4 ⟨u,hr,h4⟩=>?_);subst hr;show Uq hp (bO h4 λ_ s5 ⟨x,H5,I5,r5,y5,ad,a2⟩=>?_);let a3:=I5.pinned (am a2) (T.obj _ _ ad);show Uq hp (nx (hg _ s5 ac H5 x u _ (a3.fY _) r5 (step x H5 y5)) λ_ s6 ⟨aK,H6,I6,q6⟩=>?_);show Uq hp (TY (F _ s6 aK H6 _ R I6.bL q6) (λf s7 Y=>?_) λ_ _ z=>z.eO);let again:∀{G:St}{U:Hp},Inv X (pins++kW fp s5.heap) G U s7->N G U->∃m,m<n/\∃i ab H',Inv X pins ab H' s7/\tn i s7.heap/\(∀b∈fp,H' b=none)/\W i m ab H':=λ{G U} L Z=>by
   let#[m',hm,w7]:=hN G U Z;show#[m',hm,i+1,G,U,L.eO,T.keep _ _ _ ad λb F o e=>(L.pin (b,o) (L3 _ (L3 _ (ff F e)))).1,λb F=>?_,w7];let#[o,e,d]:=T.obj _ _ ad b F;show(L.pin (b,o) (L3 _ (L3 _ (ff F e)))).2.1
  cases f with
  |next=>let#[G,U,L,Z]:=Y;show again L Z
  |cont=>let#[G,U,L,Z]:=Y;show again L Z
  |brk=>let#[G,U,L,Y]:=Y;show#[G,U,L.eO,Y]
  |ret v=>let#[x7,G,U,L,r7,Y]:=Y;show#[x7,G,U,L.eO,r7,Y]
theorem qo(Pv:Nat->St->Hp->Prop)(I:Pv 0 σ H)(L:∀i σ H,i<=xs.length->Pv i σ H->aW K H a xs)
  (hs:∀i x σ H,xs[i]?=some x->Pv i σ H->g x σ H λF H2=>tb { D with nx:=Pv (i+1),ct:=Pv (i+1),bk:=D.nx } R F H2) (hd:∀σ H,Pv xs.length σ H->D.nx σ H) :
  ∃W:Nat->Nat->St->Hp->Prop,(∃m,W 0 m σ H)/\∀i m σ H,W i m σ H ->
   ((El K a).stop i H/\D.nx σ H)\/((El K a).go i H/\∃N:St->Hp->Prop,(∀G H',N G H'->∃m',m'<m/\W (i+1) m' G H')/\∀x H',(El K a).Ee i H x H'->g x σ H' λF H2=>tb { D with nx:=N,ct:=N,bk:=D.nx } R F H2):=
 gf (tb:=λD σ H=>tb D R σ H) Pv I L hs hd
end L2
namespace Sp
open PySem PySem.StrLaws PySem.Builtin PySem.Builtin.Str
end Sp
namespace L2
open PySem PySem.Spec PyProof.Rows PySem.Builtin PySem.Builtin.Str
inductive yz(x:V)(vs:qAh)(H:Hp)(Q:VK):Prop
 |mk(a:_)(b:_)(_:x=.str a)(_:vs=[.str b])(_:Q (.bl (Txt.startswith a b)) H)
variable{X:Cx}
theorem y8:Mj X "str.startswith" yz:=by
 intros x vs v us Q I G F h;let#[a,b,rfl,rfl,q]:=h;let#[t,rfl]:=G;let#[u,rfl,ru]:=F.one;let#[t',rfl]:=ru;show SC.startswith #[.bl _,H,I,rfl,q]
theorem qT:∀{l:List (Str×Tok)},Vals ((l.map (·.1)).map V.str) (aal l)
 | []=>.nil
 |(x,t)::l=>.cons #[t,rfl] qT
inductive AN(x:V)(vs:qAh)(H:Hp)(Q:VK):Prop
 |mk(a:_)(b:_)(_:x=.str a)(_:vs=[.str b])(_:(b.length==0)=false)(_:a.length+2<=sizeLine)(_:∀p,H p=none->Q (.ref p) (upd H p (.lst ((Txt.split a b).map V.str))))
theorem qN(x y:Str):(partsBetween x (occurrences x y 0 x.length (x.length+1)) y.length).length<=x.length+2:=by
 rw[length_partsBetween];have:=StrLaws.occ_length_le x y 0 x.length (x.length+1);show WZ this 1
theorem pO:Mj X "str.split" AN:=by
 intros x vs v us Q I rx Y h;let#[a,b,rfl,rfl,L,G,q]:=h;let#[t,rfl]:=rx;let#[u,rfl,ru]:=Y.one;let#[t',rfl]:=ru;let hs:=y1;let fin:∀(l:List (Str×Tok))(k:Nat),l.map (·.1)=Txt.split a b->l.length<=sizeLine->EP X pins σ Q (.ref s⁻¹) { s with heap:=s.heap.push { cls:=.type "list",data:=.seq (aal l).toArray },toks:=k }:=λl k e U=>by
  let Z:=I.laid (t':=k) (o:=.lst ((Txt.split a b).map V.str)) (λb ob q=>Heap.get?_push_of_some { cls:=.type "list",data:=.seq (aal l).toArray } q) (G0 _) (by
   rw[<-e];show#[by rw[rz,rz];show U,_,(0),qT,Heap.get?_push_size _ rfl])
  show#[.ref s⁻¹,_,Z,rfl,q _ (I.bC.fresh (G0 _))]
 rcases(Bool.eq_false_or_eq_true (decide (a.length<b.length)||decide (Builtin.Str.strKind a<Builtin.Str.strKind b))).symm with h1|h1
 .rcases F:(occurrences a b 0 a.length (a.length+1)).isEmpty with _|_
  .let ab:=qN a b;show U8 VP (WH _ _ _) YD (Yh _ _) (meets_str_split_sep a b t t' h1 L F (U0 G) (Td ab G)) ?_;change wants _ _ _ { s with toks:=_,heap:=s.heap.push { cls:=.type "list",data:=.seq (strsFrom s.toks (partsBetween a (occurrences a b 0 a.length (a.length+1)) b.length)).toArray } };rw[strsFrom_eq];show fin (numbered s.toks _) _ ((numbered_texts _ _).trans ((aa2 (ne_true_of_eq_false h1)).trans (aa2 (ne_true_of_eq_false F))).symm) ?_;have:=congrArg Vt (numbered_texts s.toks (partsBetween a (occurrences a b 0 a.length (a.length+1)) b.length));rw[rz]at this;omega
  .show U8 VP (WH _ _ _) YD (Yh _ _) (meets_str_split_not_found a b t t' h1 L F)
    (fin [(a,t)] s.toks ((aa2 (ne_true_of_eq_false h1)).trans (aa3 F)).symm vA)
 .show U8 VP (WH _ _ _) YD (Yh _ _) (meets_str_split_cannot_occur a b t t' h1)
   (fin [(a,t)] s.toks (aa3 h1).symm vA)
inductive rJoin(K:SU)(x:V)(vs:qAh)(H:Hp)(Q:VK):Prop
 |mk(a:_)(p:_)(ss:_)(_:x=.str a)(_:vs=[.ref p])(_:aW K H p (ss.map V.str))(_:JoinOk a ss=true)(_:Q (.str (Txt.join a ss)) H)
theorem xF:∀{ss:qAb}{vs:qa6},Vals (ss.map V.str) vs->∃l:List (Str×Tok),aal l=vs/\l.map (·.1)=ss
 | [],_,h=>by
  cases h;show#[[],1]
 |x::ss,_,h=>by
  cases h with
  |cons q t =>
   let#[k,rfl]:=q;let#[l,F,G]:=xF t;show#[(x,k)::l,by rw[<-F];rfl,by rw[<-G];rfl]
theorem Gj:Mj X "str.join" (rJoin X.K):=by
 intros x vs v us Q I L U h;let#[a,p,ss,rfl,rfl,Y,G,q]:=h;let#[t,rfl]:=L;let#[u,rfl,ru]:=U.one;cases ru;let#[its,r,pl,hz]:=I.list Y;let#[l,F,Z]:=xF r;show SC.join (l:=l) (by rw[F];show pl.isList) Z G λt' k=>#[.str (Txt.join a ss),H,I.tok _,#[0],q]
inductive NK(x:V)(lo:qAd)(hi:qAd)(H:Hp)(Q:VK):Prop
 |mk(a:_)(_:x=.str a)(_:a.length<=sizeLine)(_:Q (.str (Txt.slice a lo hi)) H)
theorem part_of{v:Value}{lo:qAd}(h:IsPart v lo):∃l:Option (Int×Tok),v=partValue l/\lo=l.map (·.1):=by
 cases h with
 |none=>show#[none,1]
 |int i t=>show#[some (i,t),1]
theorem IT:Oa X NK:=by
 intros x v vl Z lo hi sl Q I Y hs pl L h;let#[a,rfl,U,q]:=h;let#[t,rfl]:=Y;let#[l,rfl,rfl]:=part_of pl;let#[u,rfl,rfl]:=part_of L;show#["str",_,PySem.F.slot_str_getitem.lookup,WH _ _ _,?_];show wpAny_getItem_str_slice (st:=none) hs az ?_;let G:=Txt.slice_le a (l.map (·.1)) (u.map (·.1));unfold sliceMade;unfold Txt.slice at q G;split
 .rename_i h;rw[aa3 (show((1:Int)==1&&(strSliceIndices (l.map (·.1)) (u.map (·.1)) 1 a.length).length==a.length)=true from h)]at q;show#[.str a,H,I,#[0],q]
 .rename_i h;rw[aa2 (show ¬ ((1:Int)==1&&(strSliceIndices (l.map (·.1)) (u.map (·.1)) 1 a.length).length==a.length)=true from h)]at q G;show#[Td G U,#[.str _,H,I.tok _,#[0],q]]
theorem Bs(Y:X.calm=true):cz X (.builtin "sum") (λxs H Q=>∃(p:Addr)(ns:qAa),xs=[.ref p]/\aW X.K H p (ns.map V.int)/\Q (.int ns.sum) H):=by
 intros xs us Q I r h;let#[p,ns,rfl,L,q]:=h;let#[u,rfl,ru]:=vals1 r;cases ru;let#[its,U,pl,hz]:=I.list L;let G:=intsAre_of U;let Z:=G.numsOf;let#[ys,e]:=G.allInts.items;let F:=pl.isList;rw[e]at F;show sum_intListG (I.ok.hd Y) F λh' tk t' hk=>?_;let hs:preSum (numAt ys) ys.size=ns.sum:=by
  rw[preSum_eq,OR (by simp), <-nums_intItems, <-e];rw[show its.toArray.toList=its from rfl,Z]
 show#[.int ns.sum,H,I.kept hk,#[_,by rw[hs]],q]
def Oc(x:Str):It:=#[λi _=>i<x.cps.size,λi H v H'=>H'=H/\∃c,x.cps[i]?=some c/\v=.str #[([c].toArray)],λi _=>x.cps.size<=i]
variable{tg:Tr}
theorem BC(x:Str)(t:Tok)(it:Addr):Turn P w K tg (Oc x) [it] it (λi h=>h.IsStrIter it (Wq x) x t i) where
 mem:=by simp
 obj:=λi h st b F=>by
  let e:b=it:=‹F›;subst e;let#[o,e,c,d]:=st;show#[o,e,λv z=>by rwa[d]at z]
 keep:=λi h h' st k=>let ⟨o,ho,r⟩:=st;#[o,k it (by simp) o ho,r]
 item:=by
  intro X hP hw hK hc i pins s σ H E I Z st hg;subst hP hw hK;let ab:i<x.cps.size:=hg;let G:x.cps[i]?=some (x.cps[i]'(ab)):=Array.getElem?_eq_getElem ab;let#[f0,f1,f2,f3,f4,f5]:=Z it (by simp);let Y:∀h',h'.IsStrIter it (Wq x) x t (i+1)->Heap.SameBut it s.heap h'->∃u,some (Value.str #[([x.cps[i]'(ab)].toArray)] s.toks)=some u /\
    ↑(W7 tg (.ref it) u) (λ_ s2=>∃x' H',~~~H' s2/\RelV x' u/\(Oc x).Ee i H x' H'/\s2.heap.IsStrIter it (Wq x) x t (i+1)/\∀b∈[it],H' b=none) E { s with heap:=h',toks:=s.toks+1 }:=λh' L U=>by
   let I1: ~~~H { s with heap:=h',toks:=s.toks+1 }:=I.turned (t':=s.toks+1) (λb o F e=>(U.2 b F).trans e) f0 f1 f3 f4 f5;let#[o,e,c,d]:=id L;show#[0,tP (s:={ s with heap:=h',toks:=s.toks+1 }) e c d ?_ #[.str #[([x.cps[i]'(ab)].toArray)],H,I1,#[0],#[5,G,rfl],L,λb F=>(Z b F).1]];unfold Wq;split<;>decide
  revert st Y;unfold Wq;split
  .intro st Y;show wpAny_pyNext_ascii_item st G λh' L U=>Y h' L U
  .intro st Y;show wpAny_pyNext_wide_item st G λh' L U=>Y h' L U
 done:=by
  intro X hP hw hK hc i pins s σ H E I Z st hg;subst hP hw hK;let#[f0,f1,f2,f3,f4,f5]:=Z it (by simp);let G:x.cps[i]?=none:=(by simp;show hg);revert st;unfold Wq;split
  .intro st;show wpAny_pyNext_ascii_end (I.ok.hd hc) st G λh' eb=>#[rfl,I.turned (t':=s.toks) (λb o F e=>eb b o F e) f0 f1 f3 f4 f5]
  .intro st;show wpAny_pyNext_wide_end (I.ok.hd hc) st G λh' eb=>#[rfl,I.turned (t':=s.toks) (λb o F e=>eb b o F e) f0 f1 f3 f4 f5]
 self:=λA i s Q E st h=>by
  revert st;unfold Wq;split
  .intro st;show wpAny_pyIter_striter_ascii st h
  .intro st;show wpAny_pyIter_striter_wide st h
def O9(td:TE):TI:=λσ H R=>td σ H λv H1=>∃x,v=.str x/\R (Oc x) H1
variable{e:Tr}
theorem Cz{td:TE}(Y:PE X e td):PI X tg e (O9 td):=by
 intros R I h;show bO (Y pins s σ H _ I h) λv F L=>?_;let#[x,H1,G,Z,y,ex,q]:=L;subst ex;let#[t,rfl]:=Z;show wpAny_pyIter_strU ?_;show#[F⁻¹,[F⁻¹],2,H1,rfl,G.kept (t':=F.toks) λb o e=>Heap.get?_push_of_some _ e,BC y t _,#[_,Heap.get?_push_size _ rfl,1],λb U=>?_,q];let e:b=F⁻¹:=‹U›;subst e;show G.pJ (G0 _) (G.bC.fresh (G0 _))
variable{x:Str}{te:TE}{σ:St}{H:Hp}
theorem qX{caps:List (Str×Nat)}{F:List V->Hp->Prop}(Pv:Nat->List V->Hp->Prop)(L:Pv 0 [] H)
  (hs:∀i c ys H,x.cps[i]?=some c->Pv i ys H->te (mL caps σ (some (.str #[([c].toArray)]))) H (λy I=>ys.length<sizeLine/\Pv (i+1) (ys++[y]) I))
  (hd:∀ys H,Pv x.cps.size ys H->F ys H):∃W:Nat->Nat->List V->Hp->Prop,(∃m,W 0 m [] H)/\j8 caps vk te σ (Oc x) F W:=by
 show#[λi m ys H=>m=x.cps.size-i/\i<=x.cps.size/\Pv i ys H,#[x.cps.size,by simp,Tp _,L],?_];rintro i m ys H ⟨rfl,hi,p⟩;cases G:i<x.cps.size
 .show .inr #[G,Pv (i+1),λZ H' U=>#[x.cps.size-(i+1),af,rfl,G,U],?_];rintro v H' ⟨rfl,c,Y,rfl⟩;unfold vk;dsimp only;rw[aa3 rfl];show hs i c ys _ Y p
 .let e:i=x.cps.size:=af;subst e;show .inl #[G0 _,hd ys H p]
variable{pos:Vw}
theorem C6{v:Tr}(L:PE X v te):PE X (.FormattedValue v 114 none pos) (λσ H Q=>te σ H λx H1=>∃a:Str,x=.str a/\(XJ a).length<=sizeLine/\Q (.str (XJ a)) H1):=by
 intros Q I h;show wpAny_FormattedValue_repr (bO (L pins s σ H _ I h) λu Z Y=>?_);let#[x,H1,F,U,a,ex,G,q]:=Y;subst ex;let#[tk,rfl]:=U;show wpAny_pyReprObj_str (YN ?_ ?_ G) G
 .show#[.str (XJ a),H1,F.tok _,#[0],q]
 .show#[.str (XJ a),H1,(F.tok _).tok _,#[0],q]
variable{u:TS}{D:Ends}
theorem gz{i:Nat}(k:∀Q:V->Hp->Prop,(∀x H1,u D (σ.set i (some x)) H1->Q x H1)->te σ H Q):gj (zO te (iz i)) u D σ H:=k _ λ_ _ h=>h
theorem uW(k:∀Q:V->Hp->Prop,(∀x H1,D.nx σ H1->Q x H1)->te σ H Q):HI te D σ H:=k _ λ_ _ h=>h
variable{Q:Bool->Hp->Prop}
theorem bQ{A B:Hp->Prop}(e:Q=λb H1=>if b=true then A H1 else B H1):(∀H1,A H1->Q true H1)/\∀H1,B H1->Q false H1:=by
 subst e;show#[λ_ h=>dt h,λ_ h=>ck h]
variable{t:TS}{c:TT}
theorem E6{r:TS}(k:∀Q:Bool->Hp->Prop,(∀H1,t { D with nx:=r D } σ H1->Q true H1)->(∀H1,r D σ H1->Q false H1)->c σ H Q):gj (FH c t yt) r D σ H:=k _ (bQ rfl).1 (bQ (A:=λH1=>t { D with nx:=r D } σ H1) rfl).2
theorem yG(k:∀Q:Bool->Hp->Prop,(∀H1,t D σ H1->Q true H1)->(∀H1,D.nx σ H1->Q false H1)->c σ H Q):FH c t yt D σ H:=k _ (bQ rfl).1 (bQ (A:=λH1=>t D σ H1) rfl).2
theorem Qs{b:Bool}(t:b=true->Q true H)(f:¬ b=true->Q false H):Q b H:=by
 cases b
 .show f (by intro z;cases z)
 .show t rfl
theorem share(Pr:St->Hp->Prop)(mk:∀F,(∀σ H,Pr σ H->F D σ H)->gj t F D σ H)(h:∀σ H,Pr σ H->u D σ H):gj t u D σ H:=mk u h
inductive Md(P:By)(w:R4)(K:SU)(mg:qa3)(base:Heap)(cx:nJ)(k:Nat)(C:Addr)(m:Str)(sp:Sp):Prop
 |mk(f:Addr)(fd:DD)(ps:qAb)(_:aM P w K mg base cx k f fd ps sp)(_:Binds K fd ps [])(_:Meth K C m f)
inductive Df(P:By)(w:R4)(K:SU)(mg:qa3)(base:Heap)(cx:nJ)(k:Nat)(x:Str)(sp:Sp):Prop
 |mk(f:Addr)(fd:DD)(ps:qAb)(_:aM P w K mg base cx k f fd ps sp)(_:Binds K fd ps [])(_:mg x=some (.ref f))(_:Uu K (.ref f)=true)
variable{CX:nJ}{k j:Nat}{C:Addr}{sp:Sp}{E:XK}{m:Str}{apos:Vw}{o:Tr}{es:qAf}{ta:TE}{t:TA}{pl:WT Bool}
theorem pm(he:PE X o ta)(c:mZ X.K C)(F:Md X.prog X.w X.K X.mg X.base CX k C m sp)(I:cX j X.A)(Z:Passes CX X E)(U:PA X (e::es) t)(hk:%[k<=j|0])
  (G:%[qAj X e es|0]) (Y:%[(backTo pos (starEach es X.env)).any (·.1)=false|0])
  (L:%[eval (.Call (.Attribute o m apos) (e::es) [] pos) X.env=(do
   let ov <-eval o X.env
   Xk apos.atName
   let (f,first) <-VT [ov] (getMethod ov m pl)
   Xw pos f first (backTo pos (starEach (e::es) X.env)) (V1 pos (U2 [] X.env)))|0]) :
  PE X (.Call (.Attribute o m apos) (e::es) [] pos) (xS C m sp [] E ta t):=by
 let#[f,fd,_,g,b,q]:=F;show fQ he c q g (I.mono hk) b .nil Z U G Y L
theorem wB(U:PE X o ta)(c:mZ X.K C)(F:Md X.prog X.w X.K X.mg X.base CX k C m sp)(G:cX j X.A)(L:Passes CX X E)(hk:%[k<=j|0])
  (I:%[eval (.Call (.Attribute o m apos) [] [] pos) X.env=(do
   let ov <-eval o X.env
   Xk apos.atName
   let (f,first) <-VT [ov] (getMethod ov m pl)
   Xw pos f first (backTo pos (starEach [] X.env)) (V1 pos (U2 [] X.env)))|0]) :
  PE X (.Call (.Attribute o m apos) [] [] pos) (xS C m sp [] E ta zk):=by
 let#[f,fd,_,g,b,q]:=F;show Bu U c q g (G.mono hk) b .nil L I
theorem pc{p:Vw}(F:Df X.prog X.w X.K X.mg X.base CX k x sp)(G:cX j X.A)(Z:Passes CX X E)(U:PA X (e::es) t)(L:%[Gl X x|0])(hk:%[k<=j|0])
  (I:%[(x==("__debug__" : Str))=false|0]) (he:%[qAj X e es|0]) (Y:%[(backTo pos (starEach es X.env)).any (·.1)=false|0]) :
  PE X (.Call (.Name x p) (e::es) [] pos) (B6 sp [] E t):=by
 let#[f,fd,_,g,b,q,r]:=F;show sP g (G.mono hk) L q r b .nil Z U I he Y
end L2
namespace HT
open PySem PySem.Spec PyProof.Rows
end HT
namespace L2
open PySem PySem.Spec PyProof.Rows
open PySem.Builtin.Str
inductive sD(x:V)(vs:qAh)(H:Hp)(Q:VK):Prop
 |mk(a b:Str)(i:Nat)(rest:List Nat)(_:x=.str a)(_:vs=[.str b])(_:occurrences a b 0 a.length 1=i::rest)(_:Q (.int (i:Nat)) H)
variable{X:Cx}
theorem Av:HB X "str.index" sD:=by
 intros x vs v us Q I G L h;let#[a,b,i,rest,rfl,rfl,U,q]:=h;let#[t,rfl]:=G;let#[u,rfl,ru]:=L.one;let#[t',rfl]:=ru;show call_gives Yy (WH _ _ _) PySem.F.entry_str_index (PySem.F.args_str_index_2 _ _) (gives_str_index a b t t' i rest U) #[.int (i:Nat),H,I.tok _,#[0],q]
variable{k j:Nat}{sp:Sp}{pos:Vw}{e:Tr}{es:qAf}{t:TA}
theorem iZ{C:Addr}{m:Str}{apos:Vw}{o:Tr}{ta:TE}{pl:WT Bool}(Z:PE X.lI o ta)(c:mZ X.K C)(F:Md X.prog X.w X.K X.mg X.base (bX X.prog X.w) k C m sp)(I:cX j X.A)(U:PA X.lI (e::es) t)(hex:%[X.ex=[]|0])(hk:%[k<=j|0])
  (G:%[qAj X e es|0]) (Y:%[(backTo pos (starEach es X.env)).any (·.1)=false|0])
  (L:%[eval (.Call (.Attribute o m apos) (e::es) [] pos) X.env=(do
   let ov <-eval o X.env
   Xk apos.atName
   let (f,first) <-VT [ov] (getMethod ov m pl)
   Xw pos f first (backTo pos (starEach (e::es) X.env)) (V1 pos (U2 [] X.env)))|0]) :
  zV X (.Call (.Attribute o m apos) (e::es) [] pos) (wu C m sp [] ta t):=by
 let#[f,fd,_,g,b,q]:=F;show jT Z c q g (I.mono hk) hex b .nil U G Y L
variable{x:Str}{p:Vw}
theorem kc(F:Df X.prog X.w X.K X.mg X.base (bX X.prog X.w) k x sp)(G:cX j X.A)(U:PA X.lI (e::es) t)(hex:%[X.ex=[]|0])(L:%[Gl X x|0])(hk:%[k<=j|0])
  (I:%[(x==("__debug__" : Str))=false|0]) (Z:%[qAj X e es|0]) (Y:%[(backTo pos (starEach es X.env)).any (·.1)=false|0]) :
  zV X (.Call (.Name x p) (e::es) [] pos) (DL sp [] t):=by
 let#[f,fd,_,g,b,q,r]:=F;show BN g (G.mono hk) hex L q r b .nil U I Z Y
def Qm(r:R2)(tx:Ay)(tb:TE):Ay:=λσ H Q R=>tx σ H (λx H1=>tb σ H1 λy H2=>r x y H2 Q) R
variable{tx:Ay}
theorem rT{r:R2}{a b:Tr}{tb:TE}(G:zA X.lI r)(ha:zV X a tx)(hb:PE X.lI b tb)(hs:sU b):zV X (.Subscript a b pos) (Qm r tx tb):=by
 intros Q R I h;show Zu (TY (ha pins s σ H _ R I h) (λv L z=>?_) λ_ _ z=>z);let#[x,H1,U,r1,q1]:=z;show nx (hb pins L σ H1 _ (U.fY _) q1) λu Z z2=>?_;let#[y,H2,F,Y,q2]:=z2;show nx (G a b pins Z σ H2 x y v u Q F r1 Y q2 (hs _ _)) λ_ _ z=>z.bL
abbrev Kl:=St->Hp->(List V->Hp->Prop)->(Value->Hp->Prop)->Prop
def Ol(X:Cx)(es:qAf)(t:Kl):Prop :=
 ∀(pos:Vw)(pins:qa1)(s:dM)(σ:St)(H:Hp)(Q:List V->Hp->Prop)(R:Value->Hp->Prop),~~~H s->t σ H Q R->↑(aaE (backTo pos (starEach es X.env))) (AP X pins σ Q) (XP X pins λF cls H'=>F=σ/\R cls H') s
def Ke(te:TE)(t:Kl):Kl:=λσ H Q R=>te σ H λx H1=>t σ H1 (λxs H2=>Q (x::xs) H2) R
def K6(tx:Ay):Kl:=λσ H Q R=>tx σ H (λx H1=>Q [x] H1) R
variable{t:Kl}
theorem DG{te:TE}(ha:PE X.lI e te)(G:Ol X es t)(hs:%[qAj X e es|0]):Ol X (e::es) (Ke te t):=by
 intro pos pins s σ H Q R I h;rw[hs];change wpAny _ _ (aaE ((false,eval e X.env)::backTo pos (starEach es X.env))) _ _ s;show Calls.spliced_cons (nx (ha pins s σ H _ (I.fY _) h) λu L z=>?_);let#[x,H1,I1,r1,Y]:=z;show TY (G pos pins L σ H1 _ R I1.bL Y) (λus s2 z2=>?_) λ_ _ z=>z;let#[xs,H2,F,U,Z]:=z2;show#[x::xs,H2,F,.cons r1 U,Z]
theorem DB(G:zV X e tx)(hs:%[starEach [e] X.env=[(false,eval e X.env)]|0]):Ol X [e] (K6 tx):=by
 intro pos pins s σ H Q R I h;rw[hs];change wpAny _ _ (aaE [(false,eval e X.env)]) _ _ s;show Calls.spliced_cons (TY (G pins s σ H _ R I h) (λu Y z=>?_) λ_ _ z=>z);let#[x,H1,U,L,F]:=z;show Calls.spliced_nil #[[x],H1,U,.cons L .nil,F]
def Fh(sp:Sp)(t:Kl):Ay:=λσ H Q R=>t σ H (λvs H1=>sp vs H1 Q λcls _ H'=>R cls H') R
theorem Rp(F:Df X.prog X.w X.K X.mg X.base (bX X.prog X.w) k x sp)(L:cX j X.A)(ha:Ol X (e::es) t)(hex:%[X.ex=[]|0])(hg:%[Gl X x|0])(hk:%[k<=j|0])
  (U:%[(x==("__debug__" : Str))=false|0]) (Y:%[qAj X e es|0]) (ab:%[(backTo pos (starEach es X.env)).any (·.1)=false|0]) :
  zV X (.Call (.Name x p) (e::es) [] pos) (Fh sp t):=by
 let#[f,fd,_,g,b,q,r]:=F;intros Q R I h;show U7 (hV I hg q ?_ U);show WG (h₀:=X.base) I.ok.mod.Eh r (TY (ha pos pins s σ H _ R I h) (λus s1 z=>?_) λ_ _ z=>z) Y ab;let#[vs,H1,G,r1,Z]:=z;show#[G.jj,?_];show ny g (L.mono hk) b (dvs:=[]) .nil hex G r1 (by rw[Tq];show Z)
end L2
namespace PySem.W
open PySem PySem.Spec PySem.Calls PyProof.Rows Builtin
structure Dv(K:SU)(C f:Addr):Prop where
 ty:aad K (.ref C)=some (.type "type")
 rd:readsIn K C (.type "type")=true
 at_:findCls K (.ref C) (.type "type") "__init__" = some (.val (.ref f))
 kp:Uu K (.ref f)=true
theorem Ft{prog:By}{A:Th}{E:qa2}{s:dM}{C:Addr}{pl:WT Bool}{Q:Value×List Value->dM->Prop}(X:K.In s.heap)(c:Dv K C f)(h:Q (.ref f,[]) { s with toks:=s.toks+1 }):wpAny (model prog w) A (getMethod (.ref C) "__init__" pl) Q E s:=by
 let F:Wc K (.ref C) "__getattribute__" = some (some (.builtin "type.__getattribute__")):=by
  unfold Wc;rw[c.ty]
  with_unfolding_all rfl
 let G:=looks_specialIn (M:=model prog w) X F;unfold getMethod;show ti (G.at ?_);dsimp only;rw[aa3 av];show ti (cls_value X c.rd c.at_ rfl (wpAny_pure h))
end PySem.W
namespace PySem
def JI(t:Bool)(h:Heap)(i l:Addr)(k:Nat):Prop:=cond t (h.IsTupleIter i l k) (h.IsListIter i l k)
def JL(t:Bool)(h:Heap)(l:Addr)(xs:qa5):Prop:=cond t (h.IsTuple l xs) (h.IsList l xs)
variable{t:Bool}{h:Heap}{i l:Addr}{k:Nat}
theorem JI.at{h':Heap}(a:JI t h i l k)(b:∀o,h.get? i=some o->h'.get? i=some o):JI t h' i l k:=by
 cases t
 .show Heap.IsListIter.at a b
 .show Heap.IsTupleIter.at a b
theorem JI.obj(a:JI t h i l k):∃o,h.get? i=some o/\∀v,o.data≠.cell v:=by
 cases t<;>(let#[o,e,c,d]:=a;show#[o,e,λv q=>by rwa[d]at q])
variable{prog:By}{A:Th}{E:qa2}{s:dM}
theorem ke{it t:Addr}{i:Nat}{L}{Q:qa2}(Z:A.handled=none)(U:s.heap.IsTupleIter it t i)(ht:s.heap.IsTuple t L)
  (Y:(∃x,L[i]?=some x/\∀h',h'.IsTupleIter it t (i+1)->Heap.SameBut it s.heap h'->Q x { s with heap:=h' })\/(L[i]?=none/\∀h' e,Heap.ExtBut it s.heap h'->(∃o,h'.get? e=some o/\o.cls=.type "StopIteration")->E (.ref e) { s with heap:=h' })):wpAny (model prog w) A (Builtin.SmallTypes.nextOf (.ref it)) Q E s:=by
 let#[o,G,hc,hd]:=id U;let#[ol,ac,_,nl,ab]:=ht;unfold Builtin.SmallTypes.nextOf;show ti (Yi (name:=Str.ofString "__next__") U.typeIs F.slot_tuple_iterator_next (VW F.slot_tuple_iterator_next U.typeIs F.entry_tuple_iterator_next ?_ (F.args_tuple_iterator_next_1 _)));change wpAny _ _ (field (.ref it) 0>>=_) _ _ s;show ti (Vu G hd (x:=.ref t) rfl ?_);change wpAny _ _ (if (Value.ref t==Value.none)=true then _ else _) _ _ s;rw[aa2 (show ¬ ((Value.ref t==Value.none)=true)from SM)];change wpAny _ _ (field (.ref it) 1>>=_) _ _ s;show ti (Vu G hd (x:=.int i 0) rfl ?_);change wpAny _ _ (seqItems? (.ref t)>>=_) _ _ s;show ti (Wy ac ab ?_);rcases Y with⟨x,I,Y⟩|⟨I,hE⟩
 .simp only[Vn,I];show ti (Y4 G hd (by simp) (wpAny_pure #[x,rfl,wpAny_pure (Y _ #[_,Heap.get?_update_self _ G (Obj.isFreed_of_fields (Obj.data_mapFields hd _)),(Obj.cls_mapFields ..).trans hc,?_] (Heap.SameBut.update ..))]));rw[Obj.data_mapFields hd];simp[Zs]
 .simp only[Vn,I];show ti (Wf (ti (Y4 G hd (by simp) ?_)));change wpAny _ _ (newExc (.type "StopIteration") []>>=_) _ _ _;show ti ?_;simp only[newExc,newTuple];show ti (X0 ?_ (by size_fits));show ti (m:=firstArgMember _ _) (wpAny_of_eq (a:=Value.none) (by first|rfl|(simp only[firstArgMember];rfl)) ?_);show X0 ?_ (by size_fits);simp only[raiseNew];show ti (wpAny_handled ?_)
  first|rw[show A.in1.handled=none from Z]|rw[Z]
  show ti (wpAny_pure (wpAny_throw (hE _ _ (((Heap.SameBut.update ..).extBut.push _).push _) #[_,Heap.get?_push_size _ rfl,rfl])))
variable{xs ys:qa5}
theorem tJ{z TI TO I Y l1 l2:Addr}{a b:Value}{Q:Option Value->dM->Prop}(hh:A.handled=none)(D:ZipApart z TI TO I Y l1 l2)(hz:Z5 s.heap z TI TO .none)(ad:WM s.heap TI (.ref I) (.ref Y))(ao:WM s.heap TO a b)
  (h1:JI t s.heap I l1 k) (h2:JI t s.heap Y l2 k) (ac:JL t s.heap l1 xs) (ab:JL t s.heap l2 ys)
  (L:(∃x y,xs[k]?=some x/\ys[k]?=some y/\∀h',Z5 h' z TI TO (Zs s⁻¹)->WM h' TO x y->JI t h' I l1 (k+1)->JI t h' Y l2 (k+1)->WM h' s⁻¹ x y ->
   (∀c o,c≠z->c≠TO->c≠I->c≠Y->s.heap.get? c=some o->h'.get? c=some o)->Q (some (.ref s⁻¹)) { s with heap:=h' }) \/
   xs[k]?=none/\∀h',(∀c o,c≠z->c≠TO->c≠I->c≠Y->s.heap.get? c=some o->h'.get? c=some o)->Q none { s with heap:=h' }):wpAny (model prog w) A (pyNext (.ref z)) Q E s:=by
 cases t
 .rcases L with⟨x,y,hx,hy,L⟩|⟨hx,L⟩
  .show wpAny_pyNext_zip_item D hz ad ao h1 h2 ac ab hx hy λh' a b c d e _ f=>L h' a b c d e f
  .show wpAny_pyNext_zip_end hh D hz ad ao h1 h2 ac ab (.inl hx) L
 replace h1:s.heap.IsTupleIter I l1 k:=h1;replace h2:s.heap.IsTupleIter Y l2 k:=h2;replace ac:s.heap.IsTuple l1 xs:=ac;replace ab:s.heap.IsTuple l2 ys:=ab;let hT:s.TypeIs (.ref z) "zip" := #[_,hz,rfl];unfold pyNext;show ti (V3 (Yi (name:=Str.ofString "__next__") hT F.slot_zip_next (VW F.slot_zip_next hT F.entry_zip_next ?_ (F.args_zip_next_1 _))));change wpAny _ _ (field (.ref z) 2>>=_) _ _ _;show ti (Vu hz rfl (x:=.bool false) rfl ?_);change wpAny _ _ (field (.ref z) 3>>=_) _ _ _;show ti (Vu hz rfl (x:=.ref TI) rfl (ti (Wy ad rfl ?_)));change wpAny _ _ (Builtin.SmallTypes.ownedTupleIsFree (.ref z)>>=_) _ _ _;show ti ?_;unfold Builtin.SmallTypes.ownedTupleIsFree;show ti (Vu hz rfl (x:=.none) rfl (wpAny_pure ?_));simp only[if_true];show ti (Wf (ti (Vu hz rfl (x:=.ref TO) rfl (ti (Wg hz (by simp) λg1 z1 e1=>?_)))));replace z1:Z5 g1 z TI TO .ellipsis:=z1;show ti ?_;simp only[List.zipIdx_cons,List.zipIdx_nil,List.forIn_cons,List.forIn_nil];show ti (ti (wpAny_onRaise ?_));change wpAny _ _ (Builtin.SmallTypes.nextOf (.ref I)>>=_) _ _ _;show ti (ke hh (h1.extBut e1.extBut D.i1z) (ac.extBut e1.extBut D.l1z) ?_);rcases L with⟨x,y,hx,hy,L⟩|⟨hx,L⟩
 .show .inl #[x,hx,λg2 j1 Z=>wpAny_pure ?_];let t2:WM g2 TO a b:=Z.extBut _ _ D.TOi1 (e1.extBut _ _ D.TOz ao);show ti (Wy t2 rfl (ti (Y5 t2 λg3 t3 e3=>?_)));replace t3:WM g3 TO x b:=t3;show ti (wpAny_letGo (wpAny_pure (ti (ti (wpAny_onRaise ?_)))));change wpAny _ _ (Builtin.SmallTypes.nextOf (.ref Y)>>=_) _ _ _;show ti (ke hh (((h2.extBut e1.extBut D.i2z).extBut Z.extBut D.i12.symm).extBut e3.extBut D.TOi2.symm) (((ab.extBut e1.extBut D.l2z).extBut Z.extBut D.l2i1).extBut e3.extBut D.l2TO) (.inl #[y,hy,λg4 j2 e4=>wpAny_pure ?_]));let t4:WM g4 TO x b:=e4.extBut _ _ D.TOi2 t3;show ti (Wy t4 rfl (ti (Y5 t4 λG t5 e5=>?_)));replace t5:WM G TO x y:=t5;show ti (wpAny_letGo (wpAny_pure (wpAny_pure (ti (Wy t5 rfl (ti (wpAny_newTuple ?_)))))));let ez:G.objs.size=s⁻¹:=(by rw[e5.1,e4.1,e3.1,Z.1,e1.1]);let z5:Z5 G z TI TO .ellipsis:=e5.extBut _ _ D.TOz.symm (e4.extBut _ _ D.i2z.symm (e3.extBut _ _ D.TOz.symm (Z.extBut _ _ D.i1z.symm z1)));let k5:∀c o,c≠z->c≠TO->c≠I->c≠Y->s.heap.get? c=some o->G.get? c=some o:=λc o U c2 c3 c4 e=>e5.extBut _ _ c2 (e4.extBut _ _ c4 (e3.extBut _ _ c2 (Z.extBut _ _ c3 (e1.extBut _ _ U e))));let j1:G.IsTupleIter I l1 (k+1):=((j1.extBut e3.extBut D.TOi1.symm).extBut e4.extBut D.i12).extBut e5.extBut D.TOi1.symm;let j2:G.IsTupleIter Y l2 (k+1):=j2.extBut e5.extBut D.TOi2.symm;let ap:z<G.objs.size:=Heap.lt_size z5;change wpAny _ _ (Builtin.SmallTypes.ownedTupleHandOut (.ref z) (.ref G.objs.size)>>=_) _ _ _;show ti ?_;unfold Builtin.SmallTypes.ownedTupleHandOut;let z6:Z5 (G.push { cls:=.type "tuple",data:=.seq ([x,y].toArray) }) z TI TO .ellipsis:=Heap.get?_push_of_some _ z5;show ti (Wg z6 (by simp) λg7 z7 e7=>?_);replace z7:Z5 g7 z TI TO (Zs G.objs.size):=z7;show Wg z7 (by simp) λg8 z8 e8=>?_;replace z8:Z5 g8 z TI TO (Zs G.objs.size):=z8;let up:∀c o,c≠z->G.get? c=some o->g8.get? c=some o:=λc o U e=>e8.extBut _ _ U (e7.extBut _ _ U (Heap.get?_push_of_some _ e));let t8:WM g8 G.objs.size x y:=e8.extBut _ _ (ZI ap) (e7.extBut _ _ (ZI ap) (Heap.get?_push_size _ rfl));rw[ez]at z8 t8;show wpAny_pure #[0,wpAny_pure ?_];change Q (some (.ref G.objs.size)) _;rw[ez];show L g8 z8 (up _ _ D.TOz t5) (j1.at λo e=>up _ o D.i1z e) (j2.at λo e=>up _ o D.i2z e) t8 λc o U c2 c3 c4 e=>up c o U (k5 c o U c2 c3 c4 e)
 show .inr #[hx,λg2 e Z he=>?_];let#[oe,am,ar]:=he;let z2:Z5 g2 z TI TO .ellipsis:=Z _ _ D.i1z.symm z1;let as:e≠z:=λq=>(by subst q;rwa[z2]at am;simp at ar);show Wg z2 (by simp) λg3 _ e3=>?_;show ti (wpAny_isInstance (T := "StopIteration") (b:=true) #[oe,e3.extBut _ _ as am,ar] isSubtype_stop ?_);show wpAny_pure (L _ λc o U _ c3 _ q=>e3.extBut _ _ U (Z _ _ c3 (e1.extBut _ _ U q)))
abbrev Oe(h:Heap)(t:Addr):Heap:=h.push { cls:=.type "tuple_iterator",data:=.fields ([.ref t,.int 0 0].toArray) }
abbrev Od(h:Heap)(t l:Addr):Heap:=(Oe h t).push { cls:=.type "tuple_iterator",data:=.fields ([.ref l,.int 0 0].toArray) }
noncomputable abbrev Oq(h:Heap)(t l:Addr):Heap:=(Od h t l).push { cls:=.type "tuple",data:=.seq ([.ref h.objs.size,.ref (Oe h t).objs.size].toArray) }
noncomputable abbrev OA(h:Heap)(t l:Addr):Heap:=(Oq h t l).push { cls:=.type "tuple",data:=.seq ([.none,.none].toArray) }
noncomputable abbrev Lp(h:Heap)(t l:Addr):Heap:=(OA h t l).push { cls:=.type "zip",data:=.fields ([.none,.bool false,.bool false,.ref (Od h t l).objs.size,.ref (Oq h t l).objs.size].toArray) }
theorem AV(t l:Addr)(xs ys:qa5) :
  Meets (Builtin.«zip.__new__» #[[.type "zip",.ref t,.ref l],[]]) (λ_ R s=>s.heap.IsTuple t xs/\s.heap.IsTuple l ys/\R (.ok (.ret (.ref (OA s.heap t l).objs.size))) { s with heap:=Lp s.heap t l }):=
 .of_wp λprog w A R s h=>by
  let#[F,g,d,tk,os]:=s;let#[h1,h2,h]:=h;let L:=sub_zip;let G:Heap.IsTuple (aa1 #[F,g,d,tk,os]) t xs:=h1;let I:Heap.IsTuple (aa1 #[F.push { cls:=.type "tuple_iterator",data:=.fields ([.ref t,.int 0 0].toArray) },g,d,tk,os]) l ys:=Heap.IsTuple.push h2 _
  wp_walk using Zz G,Zz I
  show#[0,h]
theorem yY{b:Bool}{t:Addr}{Q:qa2}(h1:JL b s.heap t xs)(h2:JL b s.heap l ys)
  (h:∀h',Z5 h' (s⁻¹+4) (s⁻¹+2) (s⁻¹+3) .none->WM h' (s⁻¹+2) (.ref s⁻¹) (.ref (s⁻¹+1)) ->
   WM h' (s⁻¹+3) .none .none->JI b h' s⁻¹ t 0->JI b h' (s⁻¹+1) l 0 ->
   (∀c o,s.heap.get? c=some o->h'.get? c=some o)->Q (.ref (s⁻¹+4)) { s with heap:=h' }) :
  wpAny (model prog w) A (call (.type "zip") [.ref t,.ref l]) Q E s:=by
 cases b
 .show call_zip_2 h1 h2 λh' a b c d e _ f=>h h' a b c d e f
 show callType_new F.called_zip az (F.typeCall_zip_2 _ _) (F.newCall_zip_2 _ _) (λobj=>F.args_object_init_3 obj _ _) F.entry_zip_new (AV t l xs ys) #[h1,h2,?_];let z1:(Oe s.heap t).objs.size=s⁻¹+1:=Heap.size_push ..;let z2:(Od s.heap t l).objs.size=s⁻¹+2:=(by rw[Heap.size_push,z1]);let G:(Oq s.heap t l).objs.size=s⁻¹+3:=(by rw[Heap.size_push,z2]);let U:(OA s.heap t l).objs.size=s⁻¹+4:=(by rw[Heap.size_push,G]);let up:∀{c:Addr}{o:Obj}(u:Heap)(p:Obj),u.get? c=some o->(u.push p).get? c=some o:=λu p e=>Heap.get?_push_of_some _ e;let I:(Lp s.heap t l).get? (OA s.heap t l).objs.size=some _:=Heap.get?_push_size _ rfl;let L:(Lp s.heap t l).get? (Oq s.heap t l).objs.size=some _:=up _ _ (Heap.get?_push_size _ rfl);let Y:(Lp s.heap t l).get? (Od s.heap t l).objs.size=some _:=up _ _ (up _ _ (Heap.get?_push_size _ rfl));let g2:(Lp s.heap t l).get? (Oe s.heap t).objs.size=some _:=up _ _ (up _ _ (up _ _ (Heap.get?_push_size _ rfl)));let Z:(Lp s.heap t l).get? s⁻¹=some _:=up _ _ (up _ _ (up _ _ (up _ _ (Heap.get?_push_size _ rfl))));change _/\_;rw[z2,G,U]at I;rw[z1,z2]at Y;rw[G]at L;rw[z1]at g2;rw[U];show#[#[_,I,rfl],h _ I Y L #[_,Z,1] #[_,g2,1] λc o x=>up _ _ (up _ _ (up _ _ (up _ _ (up _ _ x))))]
end PySem
namespace L2
open PySem PySem.Spec PyProof.Rows
def tF(t:Bool)(K:SU)(H:Hp)(l:Addr)(xs:qAh):Prop:=cond t (dC K H l xs) (aW K H l xs)
variable{t:Bool}{H:Hp}{l:Addr}{xs:qAh}
theorem tF.of(h:H l=some (cond t (.tup xs) (.lst xs))):tF t K H l xs:=by
 cases t
 .show aW.of h
 .show dC.of h
variable{X:Cx}{σ:St}
theorem Inv.Lv{pins:qa1}{s:dM}(I: ~~~H s)(h:tF t X.K H l xs):(∃its,Vals xs its/\JL t s.heap l its.toArray)/\l<s⁻¹/\∀ys,tF t X.K H l ys->ys=xs:=by
 cases t
 .let#[its,F,p,_]:=I.list h;let#[_,e,_]:=id p.isList;show#[#[its,F,p.isList],Heap.lt_size e,λys q=>I.oS q h]
 .let#[its,F,p,_]:=I.tuple h;let#[_,e,_]:=id p;show#[#[its,F,p],Heap.lt_size e,λys q=>I.Ap q h]
noncomputable def Ik(t:Bool)(K:SU)(l1 l2:Addr):It :=
 #[λi H=>∃xs ys x y,tF t K H l1 xs/\tF t K H l2 ys/\xs[i]?=some x/\ys[i]?=some y,
  λi H v H'=>∃T x y,v=.ref T/\H T=none/\H'=upd H T (.tup [x,y])/\(∀xs,tF t K H l1 xs->xs[i]?=some x)/\∀ys,tF t K H l2 ys->ys[i]?=some y,
  λi H=>∃xs ys,tF t K H l1 xs/\tF t K H l2 ys/\xs.length<=i]
def SD(t:Bool)(z TI TO F G l1 l2:Addr)(i:Nat)(h:Heap):Prop:=Z5 h z TI TO .none/\WM h TI (.ref F) (.ref G)/\(∃a b,WM h TO a b)/\JI t h F l1 i/\JI t h G l2 i
variable{es:qAf}{kx:Nat}{px:Vw}
theorem zC{z TI TO Z i2 l1 l2:Addr}(D:ZipApart z TI TO Z i2 l1 l2):Turn P w K (.Tuple es kx px) (Ik t K l1 l2) [z,TI,TO,Z,i2] z (SD t z TI TO Z i2 l1 l2) where
 mem:=by simp
 obj:=by
  rintro i h ⟨U,G,⟨a,b',Y⟩,h1,h2⟩ b F;simp only[Ti,U4,or_false]at F;rcases F with rfl|rfl|rfl|rfl|rfl
  .show#[_,U,λv q=>by cases(show Data.fields _=Data.cell v from q)]
  .show#[_,G,λv q=>by cases(show Data.seq _ _=Data.cell v from q)]
  .show#[_,Y,λv q=>by cases(show Data.seq _ _=Data.cell v from q)]
  .show h1.obj
  .show h2.obj
 keep:=λi h h' ⟨U,G,⟨a,b,Y⟩,h1,h2⟩ k=>#[k z (by simp) _ U,k TI (by simp) _ G,#[a,b,k TO (by simp) _ Y],h1.at λo e=>k Z (by simp) o e,h2.at λo e=>k i2 (by simp) o e]
 item:=by
  intro X hP hw hK hc i pins s σ H E I hf st hg;subst hP hw hK;let#[U,G,#[a,b,Y],h1,h2]:=st;let#[xs,ys,x,y,q1,q2,e1,e2]:=hg;let#[#[ap,ad,p1],_,j1]:=I.Lv q1;let#[#[ao,am,p2],_,j2]:=I.Lv q2;let#[u1,ar,a0]:=ad.get e1;let#[u2,aT,aK]:=am.get e2;show tJ (I.ok.hd hc) D U G Y h1 h2 p1 p2 (.inl #[u1,u2,by simpa using ar,by simpa using aT,λh' z' as a1 a2 pT kk=>?_]);let I1: ~~~H { s with heap:=h' }:=I.j9 (t':=s.toks) (ch:=[z,TI,TO,Z,i2]) (λb o F e=>kk b o (λq=>F (by simp[q])) (λq=>F (by simp[q])) (λq=>F (by simp[q])) (λq=>F (by simp[q])) e) hf;show#[0,wpAny_letOwnedTupleGo_zip z' λab z2 L=>?_];replace L:Heap.SameBut z h' ab:=L;let I2: ~~~H { s with heap:=ab }:=I1.j9 (s:={ s with heap:=h' }) (h':=ab) (t':=s.toks) (ch:=[z]) (λb o F e=>(L.2 b (λq=>F (by simp[q]))).trans e) λb F=>hf b (by simp only[DO]at F;simp[F]);let fT:gA X pins H s⁻¹:=I.pJ (G0 _) (I.bC.fresh (G0 _));let nz:s⁻¹≠z:=ZI (Heap.lt_size U);let aB:WM ab s⁻¹ u1 u2:=L.extBut _ _ nz pT;let I3: ~~~(upd H s⁻¹ (.tup [x,y])) { s with heap:=ab }:=I2.C7 (its:=[u1,u2]) fT #[_,aB,rfl,0] (.cons a0 (.cons aK .nil)) Ba;show#[.ref s⁻¹,_,I3,rfl,#[_,x,y,rfl,fT.1,rfl,λzs ac=>by rw[j1 _ ac];show e1,λzs ac=>by rw[j2 _ ac];show e2],#[z2,L.extBut _ _ D.TIz (kk _ _ D.TIz D.TITO D.TIi1 D.TIi2 G),#[2,L.extBut _ _ D.TOz as],a1.at λo e=>L.extBut _ _ D.i1z e,a2.at λo e=>L.extBut _ _ D.i2z e],λb F=>?_];let nb:b≠s⁻¹:=by
   intro q;let#[o1,g1,_]:=h1.obj;let#[o2,g2,_]:=h2.obj;simp only[Ti,U4,or_false]at F;rcases F with e|e|e|e|e<;>rw[e]at q
   .show nz q.symm
   .show Ul (Heap.lt_size G) q
   .show Ul (Heap.lt_size Y) q
   .show Ul (Heap.lt_size g1) q
   .show Ul (Heap.lt_size g2) q
  rw[au nb];show(hf b F).1
 done:=by
  intro X hP hw hK hc i pins s σ H E I hf st hg;subst hP hw hK;let#[U,G,#[a,b,Y],h1,h2]:=st;let#[xs,ys,q1,q2,e]:=hg;let#[#[ap,ad,p1],_]:=I.Lv q1;let#[#[ao,am,p2],_]:=I.Lv q2;let a3:=ad.length;show tJ (I.ok.hd hc) D U G Y h1 h2 p1 p2 (.inr #[by simp;omega,λh' kk=>#[rfl,I.j9 (t':=s.toks) (ch:=[z,TI,TO,Z,i2]) (λb o F e=>kk b o (λq=>F (by simp[q])) (λq=>F (by simp[q])) (λq=>F (by simp[q])) (λq=>F (by simp[q])) e) hf]])
 self:=λ_ _ _ _ _ st h=>wpAny_pyIter_zip st.1 h
inductive Hq(K:SU)(ta:TA)(σ:St)(H:Hp)(R:It->Hp->Prop):Prop
 |mk (t:Bool) (_:ta σ H λvs H1=>zt λl1 l2=>K0 (vs=[.ref l1,.ref l2]) (∃xs,tF t K H1 l1 xs) (∃ys,tF t K H1 l2 ys) (R (Ik t K l1 l2) H1)):Hq K ta σ H R
theorem EU{a b:Tr}{ta:TA}{p pos:Vw}(hg:Gl X "zip")(Z:X.mg "zip" = none)(ha:PA X [a,b] ta)(hs:%[starEach [a,b] X.env=[(false,eval a X.env),(false,eval b X.env)]|0])(U:%[starEach [b] X.env=[(false,eval b X.env)]|0]) :
  PI X (.Tuple es kx px) (.Call (.Name "zip" p) [a,b] [] pos) (Hq X.K ta):=by
 intros R I h;let#[t,h]:=h;show Call_ (iO I hg Z Ii (Ut (bO (ha pos pins s σ H _ I h) λus F ⟨vs,H1,G,r1,q1⟩=>?_) (by rw[hs,U]) (by rw[U];rfl)));let#[l1,l2,rfl,#[xs,g1],#[ys,g2],q]:=q1;let#[u1,u2,rfl,e1,e2]:=vals2 r1;obtain rfl:u1=Value.ref l1:=e1;obtain rfl:u2=Value.ref l2:=e2;let#[#[ar,as,p1],am,_]:=G.Lv g1;let#[#[aB,aK,p2],ab,_]:=G.Lv g2;show yY p1 p2 λh' L ad ap ac ao hk=>?_;show wpAny_pyIter_zip L ?_;show#[F⁻¹+4,[F⁻¹+4,F⁻¹+2,F⁻¹+3,F⁻¹,F⁻¹+1],2,H1,rfl,G.kept (t':=F.toks) hk,zC (zipApart_new am ab),#[L,ad,#[2,ap],ac,ao],λb Y=>?_,q];let le:F⁻¹<=b:=by
  simp only[Ti,U4,or_false]at Y;rcases Y with e|e|e|e|e<;>rw[e]<;>first|show G0 _|show aak _ _
 show G.pJ le (G.bC.fresh le)
theorem wb{a b:Addr}{ys:qAh}{caps:List (Str×Nat)}{te:TE}{L:List V->Hp->Prop}(Pv:Nat->List V->Hp->Prop)(U:Pv 0 [] H)(he:xs.length=ys.length)
  (Y:∀i zs H,i<=xs.length->Pv i zs H->tF t K H a xs/\tF t K H b ys)
  (hs:∀i x y zs H T,xs[i]?=some x->ys[i]?=some y->H T=none->Pv i zs H->te (Nc caps σ (some x) (some y)) (upd H T (.tup [x,y])) (λz H3=>zs.length<sizeLine/\Pv (i+1) (zs++[z]) H3))
  (hd:∀zs H,Pv xs.length zs H->L zs H):∃W:Nat->Nat->List V->Hp->Prop,(∃m,W 0 m [] H)/\Cv caps (g2 K) vk te σ (Ik t K a b) L W:=by
 show#[λi m zs H=>m=xs.length-i/\i<=xs.length/\Pv i zs H,#[xs.length,by simp,Tp _,U],?_];rintro i m zs H ⟨rfl,hi,p⟩;let#[G,I]:=Y i zs H hi p;cases F:i<xs.length
 .let ab:i<ys.length:=VC F he;show .inr #[#[xs,ys,xs[i],ys[i],G,I,by simp[F],by simp[ab]],Pv (i+1),λac H' p'=>#[xs.length-(i+1),Vq (Vt xs) i F,rfl,F,p'],?_];rintro v H' ⟨T,x,y,rfl,hT,rfl,e1,e2⟩ vs Z;let#[v0,v1,rfl]:=PL Z;show#[T,[x,y],rfl,dC.of ag,rfl,x,[y],rfl,y,[],1,[some x,some y],1,?_];unfold vk;dsimp only;rw[aa3 rfl];show hs i x y zs H T (e1 xs G) (e2 ys I) hT p
 .let e:i=xs.length:=af;subst e;show .inl #[#[xs,ys,G,I,G0 _],hd zs H p]
end L2
namespace Tb
open PySem L2
section
variable{α:Type}
noncomputable def look(l:List (Int×α))(k:Int):Option α:=(l.find? λx=>decide (x.1=k)).map (·.2)
noncomputable def dk(f:α->V)(l:List (Int×α)):List (Key×V):=l.map λx=>(NC x.1,f x.2)
noncomputable def dG(l:List (Int×α))(k:Int)(a:α):List (Int×α):=l.map λx=>if x.1=k then(k,a)else x
noncomputable def gT(l:List (Int×α))(k:Int):List (Int×α):=l.filter λx=>decide (x.1≠k)
theorem kG(k:Int):look ([]:List (Int×α)) k=none:=rfl
theorem bu(x:Int×α)(l:List (Int×α))(k:Int):look (x::l) k=if x.1=k then some x.2 else look l k:=by
 unfold look;rw[WL];cases h:x.1=k
 .rw[decide_eq_true h,aa3 h];rfl
 .rw[decide_eq_false h,aa2 h]
theorem cm(f:α->V)(k:Int):∀l:List (Int×α),jm (dk f l) (NC k)=(look l k).map f
 | []=>rfl
 |x::l=>by
  let F:=cm f k l;change jm ((NC x.1,f x.2)::dk f l) (NC k)=_;rw[bu];cases h:x.1=k
  .rw[aa3 h,kq (by rw[h])];rfl
  .rw[aa2 h,kh (λe=>h (aan e)),F]
variable{k:Int}
theorem fz{l:List (Int×α)}{a:α}(h:look l k=some a):(k,a)∈l:=by
 unfold look at h;let#[x,F,e]:=SV.mp h;let h1:=List.mem_of_find?_eq_some F;let h2:x.1=k:=‹List.find?_some F›;rw[<-h2, <-e];show h1
theorem lN{l:List (Int×α)}(h:look l k=none):¬ k∈l.map (·.1):=by
 unfold look at h;rw[Yz,List.find?_eq_none]at h;rintro m;let#[x,F,e]:=Tc.mp m;show h x F (decide_eq_true e)
theorem jd{l:List (Int×α)}{a:α}(nd:(l.map (·.1)).Nodup)(h:(k,a)∈l):look l k=some a:=by
 induction l with
 |nil=>cases h
 |cons x l G =>
  rw[bu];let#[I,F]:=TQ.mp (show(x.1::l.map (·.1)).Nodup from nd);rcases Ti.mp h with e|m
  .rw[<-e,aa3 rfl]
  .have:¬ x.1=k:=λe=>I (e▸Tc.mpr #[_,m,rfl]);rw[aa2 this];show G F m
theorem KN(f:α->V)(l:List (Int×α))(k:Int):((dk f l).any λF=>decide (F.1=NC k))=(look l k).isSome:=by
 rw[ki,cm];cases look l k<;>rfl
theorem eW{f:α->V}{l:List (Int×α)}{a:α}(h:look l k=none):putK (dk f l) (NC k) (f a)=dk f (l++[(k,a)]):=by
 rw[BQ _ (by rw[cm,h];rfl)];unfold dk;rw[K4];rfl
theorem gY{f:α->V}{l:List (Int×α)}{a b:α}(h:look l k=some b):putK (dk f l) (NC k) (f a)=dk f (dG l k a):=by
 unfold putK;rw[aa3 (by rw[KN,h];rfl)];unfold dk dG;rw[VM,VM];congr 1;funext x;change(if (NC x.1:Key)=NC k then((NC x.1:Key),f a)else(NC x.1,f x.2))=((NC (if x.1=k then(k,a)else x).1:Key),f (if x.1=k then(k,a)else x).2);cases e:x.1=k
 .rw[aa3 (by rw[e]),aa3 e,e]
 .rw[aa2 (λz=>e (aan z)),aa2 e]
theorem jP(f:α->V)(l:List (Int×α))(k:Int):pP (dk f l) (NC k)=dk f (gT l k):=by
 unfold pP dk gT;rw[aaB];congr 1;congr 1;funext x;change decide (¬ (NC x.1:Key)=NC k)=decide (¬ x.1=k);cases e:x.1=k
 .rw[e];simp
 .simp[e]
theorem lE{l:List (Int×α)}{a:α}(j:Int)(h:look l k=none):look (l++[(k,a)]) j=if j=k then some a else look l j:=by
 induction l with
 |nil =>
  change look [(k,a)] j=_;rw[bu,kG];cases e:j=k
  .rw[aa3 e,aa3 e.symm]
  .rw[aa2 e,aa2 (Ne.symm e)]
 |cons x l G =>
  rw[bu]at h;cases e:x.1=k
  .rw[aa3 e]at h;cases h
  .rw[aa2 e]at h;change look (x::(l++[(k,a)])) j=_;rw[bu,bu,G h];cases F:x.1=j
   .rw[aa3 F,aa3 F,aa2 (λz=>e (F.trans z))]
   .rw[aa2 F,aa2 F]
theorem iI{l:List (Int×α)}{a b:α}(j:Int)(h:look l k=some b):look (dG l k a) j=if j=k then some a else look l j:=by
 induction l with
 |nil=>cases h
 |cons x l G =>
  rw[bu]at h;change look ((if x.1=k then(k,a)else x)::dG l k a) j=_;cases e:x.1=k
  .rw[aa3 e,bu,bu];cases F:j=k
   .rw[aa3 F.symm,aa3 F]
   .rw[aa2 (Ne.symm F),aa2 F,aa2 (λz=>F (z.symm.trans e))];clear G h
    induction l with
    |nil=>rfl
    |cons y l G =>
     change look ((if y.1=k then(k,a)else y)::dG l k a) j=_;cases e3:y.1=k
     .rw[aa3 e3,bu,bu,aa2 (Ne.symm F),aa2 (λz=>F (z.symm.trans e3)),G]
     .rw[aa2 e3,bu,bu,G]
  .rw[aa2 e]at h;rw[aa2 e,bu,bu,G h];cases F:x.1=j
   .rw[aa3 F,aa3 F,aa2 (λz=>e (F.trans z))]
   .rw[aa2 F,aa2 F]
theorem Dj(l:List (Int×α))(k j:Int):look (gT l k) j=if j=k then none else look l j:=by
 induction l with
 |nil =>
  change look [] j=if j=k then none else look [] j
  rw[kG];split<;>rfl
 |cons x l G =>
  unfold gT at *;rw[WY];cases e:x.1=k
  .rw[aa2 (by simp[e]),G,bu];cases F:j=k
   .rw[aa3 F,aa3 F]
   .rw[aa2 F,aa2 F,aa2 (λz=>F (z.symm.trans e))]
  .rw[aa3 (by simp[e]),bu,bu,G];cases F:x.1=j
   .rw[aa3 F,aa3 F,aa2 (λz=>e (F.trans z))]
   .rw[aa2 F,aa2 F]
theorem iR(l:List (Int×α))(k:Int)(a:α):(dG l k a).map (·.1)=l.map (·.1):=by
 unfold dG;rw[VM];congr 1;funext x;change(if x.1=k then(k,a)else x).1=x.1;cases e:x.1=k
 .rw[aa3 e,e]
 .rw[aa2 e]
theorem tR(l:List (Int×α))(k:Int):(gT l k).map (·.1)=(l.map (·.1)).filter λx=>decide (x≠k):=by
 unfold gT;rw[aaB];rfl
theorem EO(l:List (Int×α))(k:Int)(a:α):(dG l k a).length=l.length:=by unfold dG;rw[rz]
theorem mem_set{l:List (Int×α)}{a:α}{x:Int×α}(h:x∈dG l k a):x=(k,a)\/(x∈l/\x.1≠k):=by
 unfold dG at h;let#[y,F,e]:=Tc.mp h;cases c:y.1=k
 .rw[aa3 c]at e;show .inl e.symm
 .rw[aa2 c]at e;subst e;show .inr #[F,c]
theorem yC{l:List (Int×α)}{x:Int×α}(h:x∈gT l k):x∈l/\x.1≠k:=by
 unfold gT at h;let#[h1,h2]:=Ue.mp h;show#[h1,of_decide_eq_true h2]
theorem iT(f:α->V)(l:List (Int×α)):(dk f l).length=l.length:=by unfold dk;rw[rz]
end
theorem LZ:∀(n:Nat)(a:Int)(l:qAa),l.Nodup->(∀x∈l,a<=x/\x<a+n)->l.length<=n
 |0,a,l,_,h=>by
  cases l with
  |nil=>show G0 _
  |cons x r=>have:=h x Tf;omega
 |n+1,a,l,nd,h=>by
  let I:=LZ n a (l.filter λx=>decide (x≠a+n)) (nd.filter _) λx L=>by
   let#[h1,h2]:=Ue.mp L;let h3:=h x h1;let Z:x≠a+n:=of_decide_eq_true h2;omega
  let e:(l.filter λx=>decide (x≠a+n)).length+1>=l.length:=by
   clear I h
   induction l with
   |nil=>simp
   |cons x r G =>
    let#[U,F]:=TQ.mp nd;rw[WY];cases c:x=a+n
    .rw[aa2 (by simp[c])];have:r.filter (λx=>decide (x≠a+n))=r:=by
      rw[List.filter_eq_self];intro y Y;have:y≠a+n:=λe=>U (by rw[c, <-e];show Y);simpa using this
     rw[this];simp
    .rw[aa3 ‹c›];have:=G F;rw[TH,TH];omega
  omega
end Tb
namespace Dk
open PySem L2
def top(i:Nat):Tg:=Xq.main.body.getD i (.Pass #[(0),(0),(0),(0)])
abbrev DK:Tg:=inClass (top 20) 0
abbrev AZ:Tg:=inClass (top 20) 1
abbrev wC:Tg:=inClass (top 20) 2
abbrev wY:Tg:=inClass (top 20) 6
abbrev nY:Tg:=inClass (top 20) 7
abbrev se:Tg:=inClass (top 20) 8
variable{H:Hp}
theorem ah{l:Addr}{X:HO}(h:H l=none):aH H (upd H l X):=λb o e=>by rw[au (aV e h)];show e
def Off(B:qa0)(H H':Hp):Prop:=∀b o,H b=some o->¬ B b->H' b=some o
variable{B:qa0}{H':Hp}
theorem Off.trans{H'':Hp}(o:Off B H H')(o':Off B H' H''):Off B H H'':=λb u e F=>o' b u (o b u e F) F
theorem Off.mono{F:qa0}(o:Off B H H')(h:∀b,B b->F b):Off F H H':=λb u e G=>o b u e λz=>G (h b z)
theorem Off.of(s:aH H H'):Off B H H':=λb u e _=>s b u e
theorem k1:¬ (("blocks" : Str) = "done"):=av
theorem k2:¬ (("blocks" : Str) = "until_fall"):=av
theorem k3:¬ (("blocks" : Str) = "fallen"):=av
theorem k4:¬ (("done" : Str) = "until_fall"):=av
theorem k5:¬ (("done" : Str) = "fallen"):=av
theorem k6:¬ (("until_fall" : Str) = "fallen"):=av
noncomputable def eC(G:Addr)(d:Int)(I:V)(F:Bool):List (Str×V):=bz "fallen" (.bl F) (bz "until_fall" I (bz "done" (.int d) (bz "blocks" (.ref G) [])))
theorem gX(f:Str)(v:V):bz f v []=[(f,v)]:=rfl
variable{f g:Str}{v x:V}{r:List (Str×V)}
theorem nc(h:g=f):bz f v ((g,x)::r)=(g,v)::r:=by
 change(if g=f then(g,v)::r else(g,x)::bz f v r)=_;rw[aa3 h]
theorem dj(h:¬ g=f):bz f v ((g,x)::r)=(g,x)::bz f v r:=by
 change(if g=f then(g,v)::r else(g,x)::bz f v r)=_;rw[aa2 h]
theorem dJ(G:Addr)(d:Int)(I:V)(F:Bool):eC G d I F=([("blocks",V.ref G),("done",V.int d),("until_fall",I),("fallen",V.bl F)]:List (Str×V)):=by
 unfold eC;rw[gX,dj k1,gX,dj k2,dj k4,gX,dj k3,dj k5,dj k6,gX]
theorem Na(G:Addr)(d e:Int)(I:V)(F:Bool):bz "done" (.int e) (eC G d I F)=eC G e I F:=by
 rw[dJ,dJ,dj k1,nc rfl]
theorem LF(G:Addr)(d:Int)(L I:V)(F:Bool):bz "until_fall" I (eC G d L F)=eC G d I F:=by
 rw[dJ,dJ,dj k2,dj k4,nc rfl]
theorem Mg(G:Addr)(d:Int)(I:V)(L F:Bool):bz "fallen" (.bl F) (eC G d I L)=eC G d I F:=by
 rw[dJ,dJ,dj k3,dj k5,dj k6,nc rfl]
theorem mQ(F:Addr)(d:Int)(I:V)(G:Bool):(eC F d I G).lookup ("blocks" : Str)=some (.ref F):=by
 unfold eC;rw[aN,aa2 k3,aN,aa2 k2,aN,aa2 k1,aN,aa3 rfl]
theorem Ja(G:Addr)(d:Int)(I:V)(F:Bool):(eC G d I F).lookup ("done" : Str)=some (.int d):=by
 unfold eC;rw[aN,aa2 k5,aN,aa2 k4,aN,aa3 rfl]
theorem xy(I:Addr)(d:Int)(F:V)(G:Bool):(eC I d F G).lookup ("until_fall" : Str)=some F:=by
 unfold eC;rw[aN,aa2 k6,aN,aa3 rfl]
theorem JJ(G:Addr)(d:Int)(I:V)(F:Bool):(eC G d I F).lookup ("fallen" : Str)=some (.bl F):=by
 unfold eC;rw[aN,aa3 rfl]
theorem fj(L:Addr)(d:Int)(U:V)(I:Bool){m:Str}(h1:¬ m = "fallen")(h2:¬ m = "until_fall")(G:¬ m = "done")(F:¬ m = "blocks"):(eC L d U I).lookup m=none:=by
 unfold eC;rw[aN,aa2 h1,aN,aa2 h2,aN,aa2 G,aN,aa2 F]
 all_goals rfl
theorem om(G:Addr)(d:Int)(I:V)(F:Bool):(eC G d I F).length<1000:=by
 rw[dJ];change 4<1000;decide
abbrev ju(H:Hp)(a:Addr)(ns:qAa):Prop:=H a=some (.lst (ns.map V.int))/\ns.length=16
abbrev Rows(H:Hp)(cs:qAc)(bs:List (List Int)):Prop:=Paired (ju H) cs bs
variable{cs:qAc}{bs:List (List Int)}
theorem Rows.off(o:Off B H H')(h:∀a ns,ju H a ns->¬ B a)(r:Rows H cs bs):Rows H' cs bs:=Paired.tS r λa ns q=>#[o _ _ q.1 (h a ns q),q.2]
theorem Rows.same(s:aH H H')(r:Rows H cs bs):Rows H' cs bs:=Paired.tS r λa ns q=>#[s _ _ q.1,q.2]
theorem fX{α G:Type}{F:α->G->Prop}:∀{xs:List α}{ys:List G}{i:Nat}{y:G},Paired F xs ys->ys[i]?=some y->∃x,xs[i]?=some x/\F x y
 |_,_,_,_,.nil,e=>by simp at e
 |_,_,0,_,.cons r _,e=>by simp at e;subst e;show#[0,r]
 |_,_,i+1,y,.cons _ t,e=>by
  let#[u,h1,h2]:=fX (i:=i) (y:=y) t ‹e›;show#[u,by simpa using h1,h2]
theorem oN{α G:Type}{F:α->G->Prop}{x:α}{y:G}(r:F x y):∀{xs:List α}{ys:List G}(i:Nat),Paired F xs ys->Paired F (xs.set i x) (ys.set i y)
 |_,_,_,.nil=>.nil
 |_,_,0,.cons _ t=>.cons r t
 |_,_,i+1,.cons q t=>.cons q (oN r i t)
theorem ir{α G:Type}{F:α->G->Prop}:∀{xs:List α}{ys:List G},Paired F xs ys->xs.length=ys.length
 |_,_,.nil=>rfl
 |_,_,.cons _ t=>by rw[TH,TH,ir t]
theorem iV{α G:Type}{F:α->G->Prop}{x:α}{y:G}(r:F x y):∀{xs:List α}{ys:List G},Paired F xs ys->Paired F (xs++[x]) (ys++[y])
 |_,_,.nil=>.cons r .nil
 |_,_,.cons q t=>.cons q (iV r t)
theorem gi{α I:Type}{F G:α->I->Prop}:∀{xs:List α}{ys:List I},Paired F xs ys->(∀a∈xs,∀b,F a b->G a b)->Paired G xs ys
 |_,_,.nil,_=>.nil
 |_,_,.cons r t,h=>.cons (h _ Tf _ r) (gi t λa L b q=>h a (S0 _ L) b q)
theorem fS{H:Hp}:∀{cs:qAc}{bs:List (List Int)},Rows H cs bs->∀a∈cs,∃ns,ju H a ns
 |_,_,.nil,a,h=>(U4 h).elim
 |_,_,.cons r t,a,h=>by
  rcases Ti.mp h with rfl|h
  .show#[_,r]
  .show fS t a h
variable{a b:Addr}{ns:qAa}
theorem CG(h:ju H a ns)(h':H b=some (.lst (cs.map V.ref))):a≠b:=qL h.1 h' λz=>by
 cases ns with
 |nil=>have:=h.2;simp at this
 |cons x r =>
  cases cs with
  |nil=>cases z
  |cons c t =>
   injection z with z;let F:V.int x::r.map V.int=V.ref c::t.map V.ref:=z;injection F with z1 _;cases z1
structure bt(C:Addr)(H:Hp)(p bl:Addr)(d:Int)(uf:V)(fa:Bool)(cs:qAc)(bs:List (List Int)):Prop where
 ob:∃dx,H p=some (.ins C dx (eC bl d uf fa))
 hb:H bl=some (.lst (cs.map V.ref))
 hc:Rows H cs bs
variable{p C dx:Addr}{fs:List (Str×V)}{xs:qAh}
theorem gp(h:H p=some (.ins C dx fs))(h':H a=some (.lst xs)):p≠a:=qL h h' (by intro z;cases z)
variable{d:Int}{I:V}
theorem bt.same{G:Addr}{F:Bool}(D:bt C H p G d I F cs bs)(s:aH H H'):bt C H' p G d I F cs bs :=
 let ⟨dx,h⟩:=D.ob
 #[#[dx,s _ _ h],s _ _ D.hb,D.hc.same s]
theorem bt.off{F:Addr}{G:Bool}(D:bt C H p F d I G cs bs)(o:Off B H H')(U:¬ B p)(L:¬ B F)(Y:∀a ns,ju H a ns->¬ B a):bt C H' p F d I G cs bs :=
 let ⟨dx,h⟩:=D.ob
 #[#[dx,o _ _ h U],o _ _ D.hb L,D.hc.off o Y]
variable{G:Addr}{F:Bool}
theorem bt.len(D:bt C H p G d I F cs bs):cs.length=bs.length:=ir D.hc
structure Txt(K:SU)(mg:qa3)(C:Addr):Prop where
 cl:mZ K C
 nB:cC K C "blocks"
 nD:cC K C "done"
 nU:cC K C "until_fall"
 nF:cC K C "fallen"
 len:mg "len" = none
 list:mg "list" = none
 range:mg "range" = none
 bn:∃u,mg "BLOCK_NUMBERS" = some u/\RelV (.int 16) u
structure Ez(K:SU)(mg:qa3)(x:Str)(CN:Addr):Prop where
 Hw:mg x=some (.ref CN)
 Sd:aas K CN ou "ValueError.__new__" = true
def Wr(p F:Addr):Addr->Prop:=λb=>b=p\/b=F
def Ax(bs:List (List Int))(n:Int):Prop:=n<0\/(bs.length:Int)<=n
def lQ(C CN:Addr):Sp:=λvs H Q E=>∃(p G:Addr)(d:Int)(I:V)(F:Bool)(cs:qAc)(bs:List (List Int))(n:Int),vs=[.ref p,.int n]/\bt C H p G d I F cs bs/\n.natAbs.log2<1920/\(¬ Ax bs n->Q .a7 H)/\(Ax bs n->E (.ref CN) none H)
def oh(C CF:Addr):Sp:=λvs H Q E=>∃(p G:Addr)(d:Int)(I:V)(F:Bool)(cs:qAc)(bs:List (List Int)),vs=[.ref p]/\bt C H p G d I F cs bs/\(F=false->Q .a7 H)/\(F=true->E (.ref CF) none H)
def pC(C CN CF:Addr):Sp:=λvs H Q E=>∃(p G:Addr)(d:Int)(I:V)(F:Bool)(cs:qAc)(bs:List (List Int))(n:Int),vs=[.ref p,.int n]/\bt C H p G d I F cs bs/\n.natAbs.log2<1920 /\
 (Ax bs n->E (.ref CN) none H)/\(¬ Ax bs n->F=true->E (.ref CF) none H)/\(¬ Ax bs n->F=false->∀ns,bs[n.toNat]?=some ns->∀l,H l=none->Q (.ref l) (upd H l (.lst (ns.map V.int))))
noncomputable def mj:V->V
 |.int i=>.int (i-1)
 |v=>v
def MV(F:V):Prop:=F=.a7\/∃i:Int,F=.int i
def nO(K:SU)(C CN CF:Addr):Sp:=λvs H Q E=>∃(p G c:Addr)(d:Int)(F:V)(I:Bool)(cs:qAc)(bs:List (List Int))(n:Int)(ns:qAa),vs=[.ref p,.int n,.ref c]/\bt C H p G d F I cs bs/\MV F/\n.natAbs.log2<1920/\aW K H c (ns.map V.int)/\ns.length=16 /\
 (Ax bs n->E (.ref CN) none H) /\
 (¬ Ax bs n->I=true\/F=.int 0->∀H',bt C H' p G d F true cs bs->Off (· = p) H H'->E (.ref CF) none H') /\
 (¬ Ax bs n->I=false->F≠.int 0->∀H' L,bt C H' p G (d+1) (mj F) false L (bs.set n.toNat ns)->(∀a∈L,a∈cs\/H a=none)->Off (Wr p G) H H'->Q .a7 H')
def yO(C:Addr):Sp:=λvs H Q _=>∃(p G:Addr)(d:Int)(I:V)(F:Bool)(cs:qAc)(bs:List (List Int)),vs=[.ref p]/\bt C H p G d I F cs bs/\bs.length<=300 /\
 ∀(H':Hp)(l:Addr)(fs:qAc),aH H H'->H l=none->H' l=some (.lst (fs.map V.ref))->Rows H' fs bs->(∀a∈fs,H a=none)->fs.Nodup->Q (.ref l) H'
theorem L6{i:Int}{t:Str}(h:i.natAbs.log2<1920)(F:t.length<=100):(Str.empty++toString i:Str).length<=sizeLine/\(Str.empty++toString i++t:Str).length<=sizeLine:=by
 let h1:=iu h;let hs:=y1;let G:(Str.empty:Str).length=0:=rfl;rw[len_app,len_app,len_app];omega
theorem Sq:ax ["self","n"] ["self","n"] (ak nY):=L2.a8
variable{f CN:Addr}
theorem xj(F:bM K "refuse_no_block" "Disk.refuse_no_block" nY f fd)(T:Txt K mg C)(U:Ez K mg "NoBlock" CN):⇑aM 1 f fd ["self","n"] (lQ C CN):=by
 show F.dX Sq ?_;intros;let#[p,bl,d,uf,fa,cs,bs,n,rfl,D,I,k,Y]:=h;let#[dx,h1]:=D.ob;let Z:=D.len;let#[f1,f2]:=L6 (i:=n) (t := " is no block") I av;show#[_,(aS (bH (PW.pt (n6 (aA oz (pv 1) ai (aI _)) (kU (aA DC (pv 1) (aC aO (by rfl) T.len T7 (aa (aE (pv 0) rfl) ae)) (aI _))))) (aS (bE rfl U.Hw U.Sd rfl rfl (aa (fU (cw (pq (pv 1)) (cw aF ig))) ae))) bo)),?_];show#[0,_,0,rfl,0,?_];show c9 (λc=>?_) (λc=>?_)
 .show dt ?_;let L:n<0:=‹c›;show#[0,n,rfl,I,0,f1,0,f2,f2,vA,Y (.inl L)]
 .let L:¬ n<0:=‹c›;show#[0,0,p,C,dx,_,0,h1,T.cl,T.nB,mQ _ _ _ _,bl,0,.inl (aW.of D.hb),_,0,rfl,0,?_];show c9 (λe=>?_) (λe=>?_)
  .let G:(bs.length:Int)<=n:=(by rw[<-Z];simpa using e);show#[0,n,rfl,I,0,f1,0,f2,f2,vA,Y (.inr G)]
  .let G:¬ (bs.length:Int)<=n:=(by rw[<-Z];simpa using e);show k λz=>z.elim L G
theorem Sn:ax ["self"] ["self"] (ak se):=L2.a8
variable{CF:Addr}
theorem zc(F:bM K "refuse_fallen" "Disk.refuse_fallen" se f fd)(T:Txt K mg C)(G:Ez K mg "Fallen" CF):⇑aM 1 f fd ["self"] (oh C CF):=by
 show F.dX Sn ?_;intros;let#[p,U,d,Y,L,cs,bs,rfl,D,k,I]:=h;let#[dx,h1]:=D.ob;show#[_,(aS (bH (gy (aE (pv 0) rfl)) (aS (bE rfl G.Hw G.Sd rfl rfl (aa aF ae))) bo)),?_];show#[0,p,C,dx,_,0,h1,T.cl,T.nF,JJ _ _ _ _,L,3];show c9 (λc=>?_) (λc=>?_)
 .show#[vA,I c]
 .show k ‹c›
theorem rep1{α:Type}(x:α)(n:Nat):(IF n [x]).flatten=IF n x:=by
 induction n with
 |zero=>rfl
 |succ n F=>rw[UQ,Vf,F,UQ];rfl
theorem AS{α:Type}(x:α)(n:Nat):IF n x++[x]=IF (n+1) x:=by
 rw[Y6]
theorem Sw:ax ["self","many"] ["self","many"] (ak DK):=L2.a8
theorem Sm:ax ["self","n"] ["self","n"] (ak AZ):=L2.a8
variable{fN fF:Addr}
theorem Gd{Z Y:DD}(F:bM K "read" "Disk.read" AZ f fd)(T:Txt K mg C)
  (GN:⇑aM 1 fN Z ["self","n"] (lQ C CN)) (bN:Binds K Z ["self","n"] []) (mN:Meth K C "refuse_no_block" fN)
  (GF:⇑aM 1 fF Y ["self"] (oh C CF)) (bF:Binds K Y ["self"] []) (mF:Meth K C "refuse_fallen" fF):⇑aM 2 f fd ["self","n"] (pC C CN CF):=by
 show F.dX Sm ?_;intros;let#[p,I,d,uf,U,cs,bs,n,rfl,D,hb,kN,kF,k]:=h;let#[dx,h1]:=D.ob;show#[_,(aw (bh (jT (pv 0) T.cl mN GN (hr.mono az) rfl bN .nil (aa (pv 1) ae)))
  (aw (bh (qZ (pv 0) T.cl mF GF (hr.mono az) rfl bF .nil))
  (cf (aq (aG (dH cq (by rfl) T.list dI (aa (aL aQ (aE (pv 0) rfl) (pv 1) bZ) ae))))))),?_]
 show#[0,p,dx,0,h1,fj _ _ _ _ av av av av,0,p,I,d,uf,U,cs,bs,n,rfl,D,hb,λG=>?_,kN];show#[0,p,dx,0,h1,fj _ _ _ _ av av av av,p,I,d,uf,U,cs,bs,rfl,D,λhf=>?_,kF G];let h0:0<=n:=by
  cases z:n<0
  .show absurd (YV z) G
  .omega
 let ab:n<bs.length:=by
  cases z:(bs.length:Int)<=n
  .show absurd (aaX z) G
  .omega
 obtain⟨j,rfl⟩:∃j:Nat,n=j:=#[n.toNat,af];let L:j<bs.length:=af;let eg:bs[((j:Nat):Int).toNat]?=some bs[j]:=(by rw[Vn,tp L]);let#[a,ha,ra]:=fX D.hc (tp L);show#[0,p,C,dx,_,0,h1,T.cl,T.nB,mQ _ _ _ _,0,I,_,j,.ref a,1,aW.of D.hb,aD (by rw[M4,ha];rfl),a,0,.inl (aW.of ra.1),k G hf _ eg]
theorem Sl:ax ["self","n","numbers"] ["self","n","numbers"] (ak wC):=L2.a8
theorem Cp{dN dF:DD}(F:bM K "write" "Disk.write" wC f fd)(T:Txt K mg C)
  (GN:⇑aM 1 fN dN ["self","n"] (lQ C CN)) (bN:Binds K dN ["self","n"] []) (mN:Meth K C "refuse_no_block" fN)
  (GF:⇑aM 1 fF dF ["self"] (oh C CF)) (bF:Binds K dF ["self"] []) (mF:Meth K C "refuse_fallen" fF):⇑aM 2 f fd ["self","n","numbers"] (nO K C CN CF):=by
 show F.dX Sl ?_;intros;let#[p,G,c,d,I,U,cs,bs,n,ns,rfl,D,hu,L,hq,am,kN,kF,k]:=h;let#[dx,h1]:=id D.ob;let ab:p≠G:=gp h1 D.hb;let hl:=D.len;let nm:∀(d:Int)(I:V)(U:Bool),(eC G d I U).lookup ("refuse_fallen" : Str)=none:=λd I U=>fj _ _ _ _ av av av av;show#[_,(aw (bh (jT (pv 0) T.cl mN GN (hr.mono az) rfl bN .nil (aa (pv 1) ae)))
  (aw (cT (bP (aA bD (aE (pv 0) rfl) ai (aI _)) (aq (dS (pv 0) jv rfl)) bj))
  (aw (bh (qZ (pv 0) T.cl mF GF (hr.mono az) rfl bF .nil))
  (cf (aj (xx (dH cq (by rfl) T.list dI (aa (pv 2) ae)) (wj (aE (pv 0) rfl) (pv 1) set_list))
  (aj (qY (pv 0) ai I0)
  (aq (bP (aA ic (aE (pv 0) rfl) cF (aI _)) (aq (qY (pv 0) ai Dn)) bj)))))))),?_]
 show#[0,p,dx,0,h1,fj _ _ _ _ av av av av,0,p,G,d,I,U,cs,bs,n,rfl,D,L,λZ=>?_,kN];let ar:IM I (.int 0)=true:=by rcases hu with rfl|⟨i,rfl⟩<;>rfl
 show#[0,p,C,dx,_,0,h1,T.cl,T.nU,xy _ _ _ _,ar,0,?_];show c9 (λc0=>?_) (λc0=>?_)
 ·-- the disk falls at this write
  let c':I=.int 0:=of_decide_eq_true c0;show#[0,p,C,dx,0,h1,T.cl,T.nF,om _ _ _ _,?_];rw[Mg];let D2:bt C (upd H p (.ins C dx (eC G d I true))) p G d I true cs bs:=#[#[dx,ag],by rw[au (Ne.symm ab)];show D.hb,Paired.tS D.hc λa ns q=>#[by rw[au (Ne.symm (gp h1 q.1))];show q.1,q.2]];show#[0,p,dx,0,ag,nm _ _ _,p,G,d,I,true,cs,bs,rfl,D2,(λz=>nomatch z),λ_=>kF Z (.inr c') _ D2 λb o e L=>by rw[au L];show e]
 .let c':I≠.int 0:=λz=>c0 (decide_eq_true z);show#[0,p,dx,0,h1,nm _ _ _,p,G,d,I,U,cs,bs,rfl,D,λhf=>?_,λhf=>?_]
  .let h0:0<=n:=by
    cases z:n<0
    .show absurd (YV z) Z
    .omega
   let as:n<bs.length:=by
    cases z:(bs.length:Int)<=n
    .show absurd (aaX z) Z
    .omega
   obtain⟨j,rfl⟩:∃j:Nat,n=j:=#[n.toNat,af];let hj:j<cs.length:=af;let k':=k Z hf c';rw[Vn]at k';show#[0,c,0,.inl hq,λl ad=>?_];let Y:∀{b:Addr}{o:HO},H b=some o->b≠l:=λe=>aV e ad;show#[0,p,C,dx,_,0,by rw[au (Y h1)];show h1,T.cl,T.nB,mQ _ _ _ _,0,G,_,j,j,1,by rw[au (Y D.hb)];show D.hb,4]
   .unfold zv;rw[rz,aa3 af,aa3 af];simp
   let e1:(cs.map V.ref).set j (.ref l)=(cs.set j l).map V.ref:=(by rw[List.map_set]);rw[e1];let h3:(upd (upd H l (.lst (ns.map V.int))) G (.lst ((cs.set j l).map V.ref))) p=some (.ins C dx (eC G d I U)):=(by rw[au ab,au (Y h1)];show h1);let ao:l≠G:=Ne.symm (Y D.hb);let lp:l≠p:=Ne.symm (Y h1);show#[0,p,C,dx,_,0,h3,T.cl,T.nD,Ja _ _ _ _,d,(1),1,dx,_,h3,om _ _ _ _,?_];rw[Na];show#[0,p,C,dx,_,0,ag,T.cl,T.nU,xy _ _ _ _,rfl,0,?_];let fin:∀(ac:V)(H':Hp),ac=mj I->H' p=some (.ins C dx (eC G (d+1) ac U))->(∀b,b≠p->H' b=upd (upd H l (.lst (ns.map V.int))) G (.lst ((cs.set j l).map V.ref)) b)->Q .a7 H':=by
    intro ac H' e ap ho;subst e;subst hf;show k' H' (cs.set j l) #[#[dx,ap],by rw[ho G (Ne.symm ab),ag],?_] (λa ha=>(List.mem_or_eq_of_mem_set ha).imp id λz=>by rw[z];show ad) λb o e L=>?_
    .show oN #[by rw[ho l lp,au ao,ag],am] j (Paired.tS D.hc λa ms q=>#[?_,q.2]);rw[ho a (Ne.symm (gp h1 q.1)),au (CG q D.hb),au (Y q.1)];show q.1
    .rw[ho b (λz=>L (.inl z)),au (λz=>L (.inr z)),au (Y e)];show e
   rcases hu with rfl|⟨i,rfl⟩
   .show ck ?_;show fin .a7 _ rfl ag λb L=>by rw[au L]
   .show dt ?_;show#[0,p,C,dx,_,0,ag,T.cl,T.nU,xy _ _ _ _,i,(1),1,dx,_,ag,om _ _ _ _,?_];rw[LF];show fin (.int (i-1)) _ rfl ag λb L=>by rw[au L,au L]
  .subst hf;show kF Z (.inl rfl) H D λb o e _=>e
theorem OM:ax ["self"] ["self"] (ak wY):=L2.a8
theorem Ea(F:bM K "image" "Disk.image" wY f fd)(T:Txt K mg C):↥aM 1 f fd ["self"] (yO C):=by
 show F.cU OM ?_;intros;let#[p,bl,d,uf,fa,cs,bs,rfl,D,hl,k]:=h;let#[dx,h1]:=D.ob;let hs:=y1;let hlen:=D.len;show#[_,(aq (aG (cY (cl:=[]) (caps:=[]) #[rfl,av,av,rfl,by kernel_rfl,by intro p L;simp at L,by kernel_rfl,by intro p L;simp at L,av] rfl (cJ (aE (pv 0) rfl)) (λ_ _ _ _=>eM) (λ_ _ _ _=>(dH (show cz _ _ (xZ K)from xp) (by rfl) T.list dI (aa (pv 0) ae)))))),?_];show#[0,p,C,dx,_,0,h1,T.cl,T.nB,mQ _ _ _ _,bl,rfl,#[_,aW.of D.hb],?_];show hZ (K:=K) (a:=bl) (xs:=cs.map V.ref) (λi ys H2=>∃fs:List Addr,ys=fs.map V.ref/\fs.length=i/\Rows H2 fs (bs.take i)/\aH H H2/\(∀a∈fs,H a=none)/\fs.Nodup) #[[],1,by rw[UU];show .nil,aH.refl H,λa h=>(U4 h).elim,.nil] (λi ys H2 _ ⟨fs,_,_,_,G,_⟩=>aW.of (G _ _ D.hb)) ?_ ?_
 .rintro i x ys H2 hx ⟨fs,rfl,hi,R,G,Y,nd⟩;rw[M4]at hx;let#[c,hc,rfl]:=SV.mp hx;let ad:i<cs.length:=(y0.mp hc).1;let ab:i<bs.length:=af;let#[c',ac,rc]:=fX D.hc (tp ab);rwa[hc]at ac;show#[0,c,0,.inl (aW.of (G _ _ rc.1)),λl I=>#[4]]
  .rw[rz];omega
  let sl:=ah (X:=.lst ((bs[i]).map V.int)) I;show#[fs++[l],by rw[K4];rfl,by rw[wh,hi];rfl,?_,G.trans sl,λa U=>?_,?_]
  .rw[List.take_succ,tp ab];show iV #[ag,rc.2] (R.same sl)
  .rcases SY.mp U with z|z
   .show Y a z
   .rw[DO.mp z];show G.free I
  .show Ud.mpr #[nd,(by simp),λa U b hb z=>?_];rw[DO.mp hb]at z;subst z;let#[j,hj,ej]:=Xg U;obtain⟨ns,_,rr⟩:∃ns,(bs.take i)[j]?=some ns/\ju H2 fs[j] ns:=by
    let Z:j<(bs.take i).length:=(by rw[<-ir R];show hj);let#[q,e,r]:=fX R (tp Z);rwa[tp hj]at e;show#[_,tp Z,r]
   rw[ej]at rr;let r1:=rr.1;rwa[I]at r1
 .rintro ys H2 ⟨fs,rfl,hi,R,G,Y,nd⟩ l I;rw[rz]at hi R;rw[OR af]at R;let sl:=ah (X:=.lst (fs.map V.ref)) I;show k _ l fs (G.trans sl) (G.free I) ag (R.same sl) Y nd
structure Def(K:SU)(mg:qa3)(x:Str)(f:Addr)(fd:DD)(ps:qAb):Prop where
 mg:mg x=some (.ref f)
 kp:Uu K (.ref f)=true
 b:Binds K fd ps []
abbrev sN:Tg:=top 23
abbrev pE:Tg:=top 24
abbrev tm:Tg:=top 25
open Tb
abbrev Ei:=List (Int×Addr×List Int)
noncomputable def fC(x:Addr×List Int):V:=.ref x.1
noncomputable abbrev ky(L:Ei):List (Key×V):=dk fC L
structure mz(H:Hp)(a:Addr)(L:Ei)(len:Nat):Prop where
 hd:H a=some (.dK (ky L))
 hr:∀x∈L,ju H x.2.1 x.2.2
 nd:(L.map (·.1)).Nodup
 rg:∀x∈L,28<=x.1/\x.1<len
 l1:1<=L.length
 l2:L.length<=24
variable{L:Ei}
theorem mz.same{len:Nat}(c:mz H a L len)(s:aH H H'):mz H' a L len:=#[s _ _ c.hd,λx F=>#[s _ _ (c.hr x F).1,(c.hr x F).2],c.nd,c.rg,c.l1,c.l2]
variable{kvs:qAi}
theorem Ki(h:H a=some (.dK kvs))(h':H b=some (.lst xs)):a≠b:=qL h h' (by intro z;cases z)
theorem KY(h:H a=some (.dK kvs))(h':H b=some (.ins C dx fs)):a≠b:=qL h h' (by intro z;cases z)
theorem mz.off{len:Nat}(c:mz H a L len)(o:Off B H H')(G:¬ B a)(I:∀a ns,ju H a ns->¬ B a):mz H' a L len:=#[o _ _ c.hd G,λx F=>#[o _ _ (c.hr x F).1 (I _ _ (c.hr x F)),(c.hr x F).2],c.nd,c.rg,c.l1,c.l2]
noncomputable def lV:List Int:=IF 16 0
structure G1(mg:qa3):Prop where
 bn:∃u,mg "BLOCK_NUMBERS" = some u/\RelV (.int 16) u
 fl:∃u,mg "FIRST_LIST" = some u/\RelV (.int 2) u
 sorted:mg "sorted" = none
 enumerate:mg "enumerate" = none
 len:mg "len" = none
 range:mg "range" = none
theorem cS{n:Int}(h1 : -1000<=n)(h2:n<=1000):n.natAbs.log2<1920:=by
 cases z:n.natAbs=0
 .rw[z];decide
 .rw[Nat.log2_lt z];let G:n.natAbs<=1000:=af;let F:(1000:Nat)<2^1920:=av;omega
noncomputable def kO(C:Addr):Sp:=λvs H Q _=>∃(p I:Addr)(d:Int)(cs:qAc)(bs:List (List Int))(G U:qAa),vs=[.ref p]/\bt C H p I d .a7 false cs bs/\29<=bs.length/\bs.length<=300/\bs[0]?=some G/\bs[1]?=some U /\
 ((G[0]?=some 0/\∀H',aH H H'->Q (.int 0) H') \/
  ∃(ns rest:qAa),G++U=(ns.length:Int)::(ns++rest)/\1<=ns.length/\ns.length<=24/\ns.Nodup/\(∀n∈ns,28<=n/\n<bs.length) /\
  ∀(H':Hp)(d':Int)(L:qAc)(F:List (List Int)),bt C H' p I d' .a7 false L F->F.length=bs.length->(∀(k:Nat)(n:Int),ns[k]?=some n->F[n.toNat]?=bs[2+k]?)->(∀j:Nat,28<=j->((j:Nat):Int)∉ns->F[j]?=bs[j]?)->F[0]?=some lV->(∀x∈L,x∈cs\/H x=none)->Off (Wr p I) H H'->Q (.int ns.length) H')
theorem Off.none{x:Addr}(o:Off (Wr p G) H H')(I:H' p≠none)(L:H' G≠none)(F:H' x=none):H x=none:=by
 cases e:H x with
 |none=>rfl
 |some u =>
  cases z:Wr p G x
  .rcases z with rfl|rfl
   .show absurd F I
   .show absurd F L
  .rw[o x u e z]at F;cases F
theorem bt.np(D:bt C H p G d I F cs bs):H p≠none:=by
 let#[dx,h]:=D.ob;rw[h];simp
theorem bt.nb{F:Addr}{G:Bool}(D:bt C H p F d I G cs bs):H F≠none:=by
 rw[D.hb];simp
theorem j0(R:Rows H cs bs){i:Nat}(h:bs[i]?=some ns):ns.length=16:=by
 let#[a,_,q]:=fX R h;show q.2
noncomputable def oW(C CF:Addr):Sp:=λvs H Q E=>∃(p G:Addr)(d:Int)(F:V)(cs:qAc)(bs:List (List Int)),vs=[.ref p]/\bt C H p G d F false cs bs/\MV F/\1<=bs.length /\
 (F=.int 0->∀H',bt C H' p G d F true cs bs->Off (Wr p G) H H'->E (.ref CF) none H') /\
 (F≠.int 0->∀H' I,bt C H' p G (d+1) (mj F) false I (bs.set 0 lV)->(∀a∈I,a∈cs\/H a=none)->Off (Wr p G) H H'->Q .a7 H')
theorem RC:ax ["disk"] ["disk"] (ak tm):=L2.a8
theorem Ar{Y:Addr}{U:DD}(F:bM K "forget" "forget" tm f fd)(T:G1 mg)(TC:Txt K mg C)
  (GW:⇑aM 2 Y U ["self","n","numbers"] (nO K C CN CF)) (bW:Binds K U ["self","n","numbers"] []) (mW:Meth K C "write" Y):⇑aM 3 f fd ["disk"] (oW C CF):=by
 let#[as,ao,am]:=T.bn;show F.dX RC ?_;intros;let#[p,Z,d,uf,cs,bs,rfl,D,hu,lb,kE,kQ]:=h;let hs:=y1;let#[dx,h1]:=id D.ob;let ar:(eC Z d uf false).lookup ("write" : Str)=none:=fj _ _ _ _ av av av av;show#[_,(aS (bh (jT (pv 0) TC.cl mW GW (hr.mono az) rfl bW .nil (aa ai (aa (aJ iM (bq (aa ai ae)) (gv (by rfl) ao am)) ae))))),?_];show#[0,p,dx,0,h1,ar,az,λl1 ap=>#[l1,(16),0,rfl,ag,af,af,by rw[Tj];omega,λq hq=>?_]];rw[rep1 (V.int 0)];let sz:=(ah (X:=.lst [V.int 0]) ap).trans (ah (X:=.lst (IF ((16:Int)).toNat (V.int 0))) hq);show#[p,Z,q,2,false,cs,bs,(0),lV,rfl,D.same sz,hu,cS az az,aW.of (by rw[ag];unfold lV;rw[V6];rfl),av,λz=>(by rcases z with z|z<;>omega),λ_ z G I L=>?_,λ_ _ ac G ad I ab L=>?_]
 .rcases z with z|z
  .cases z
  .show kE z G I (λb u e nb=>L _ _ (sz _ _ e) λe=>nb (.inl e))
 .show kQ ac G ad I (λa ha=>(ab a ha).imp id sz.free) (λb u e nb=>L _ _ (sz _ _ e) nb)
theorem GG:ax ["disk","head","many","k"] ["disk"] (ak pE):=L2.a8
variable{fR fW:Addr}{dR dW:DD}
theorem wZ{bB:Addr}{bc:DD}(F:bM K "recover" "recover" pE f fd)(T:G1 mg)(TC:Txt K mg C)
  (GR:⇑aM 2 fR dR ["self","n"] (pC C CN CF)) (bR:Binds K dR ["self","n"] []) (mR:Meth K C "read" fR)
  (GW:⇑aM 2 fW dW ["self","n","numbers"] (nO K C CN CF)) (bW:Binds K dW ["self","n","numbers"] []) (mW:Meth K C "write" fW)
  (bF:⇑aM 3 bB bc ["disk"] (oW C CF)) (aT:Def K mg "forget" bB bc ["disk"]):↥aM 4 f fd ["disk"] (kO C):=by
 let#[ci,cr,cg]:=T.bn;let#[u2,m2,r2]:=T.fl;show F.cU GG ?_;intros;let#[p,Y,d,cs,bs,I,U,rfl,D,cv,co,e0,e1,k]:=h;let hs:=y1;let#[dx,h1]:=id D.ob;let nm:∀{d:Int}{m:Str},¬ m = "fallen" -> ¬ m = "until_fall" -> ¬ m = "done" -> ¬ m = "blocks" -> (eC Y d .a7 false).lookup m=none:=λh1 h2 h3 h4=>fj _ _ _ _ h1 h2 h3 h4;let aK:∀{d:Int},(eC Y d .a7 false).lookup ("read" : Str)=none:=nm av av av av;let cc:∀{d:Int},(eC Y d .a7 false).lookup ("write" : Str)=none:=nm av av av av;let l0:=j0 D.hc e0;let l1:=j0 D.hc e1;let g:∀{n:Int}{ac:List (List Int)},ac.length=bs.length->0<=n->n<bs.length->¬ Ax ac n:=λG a b z=>by rcases z with z|z<;>omega
 show#[_,(aj (cL 1 GG.nd (aJ cE (fQ (pv 0) TC.cl mR GR (hr.mono az) bR .nil gk (aa ai ae)) (fQ (pv 0) TC.cl mR GR (hr.mono az) bR .nil gk (aa ai ae))))
  (aj (cL 2 GG.nd (aL aQ (pv 1) ai bZ))
  (aj (bP (aA bD (pv 2) ai (aI _)) (aq (aG ai)) bj)
  (aj (dU TK rfl (cH (by rfl) T.range (aa (pv 2) ae)) (qx 3 GG.nd) (aq (aR (fQ (pv 0) TC.cl mW GW (hr.mono az) bW .nil gk (aa (aL aQ (pv 1) (aJ bU ai (pv 3)) bZ) (aa (fQ (pv 0) TC.cl mR GR (hr.mono az) bR .nil gk (aa (aJ bU (gv (by rfl) m2 r2) (pv 3)) ae)) ae))))))
  (aj (aR (sP bF (hr.mono az) (by rfl) aT.mg aT.kp aT.b .nil gk (aa (pv 0) ae)))
  (aq (aG (pv 2)))))))),?_]
 show#[0,p,dx,0,h1,aK,p,Y,d,.a7,false,cs,bs,(0),rfl,D,cS az az,λz=>absurd z (g rfl az af),(λ_ z=>nomatch z),λ_ _ x0 bd l hl=>?_];rwa[show((0:Int)).toNat=0 from rfl,e0]at bd;let s1:=ah (X:=.lst (I.map V.int)) hl;show#[0,p,dx,0,s1 _ _ h1,aK,p,Y,d,.a7,false,cs,bs,(1),rfl,D.same s1,cS az az,λz=>absurd z (g rfl az af),(λ_ z=>nomatch z),λ_ _ x1 bb l' bY=>?_];rwa[show((1:Int)).toNat=1 from rfl,e1]at bb;let s2:=ah (X:=.lst (U.map V.int)) bY;show#[l,l',_,0,rfl,s2 _ _ ag,ag,by rw[rz,rz];omega,λhd bi=>?_];rw[<-K4];let s3:=ah (X:=.lst ((I++U).map V.int)) bi;let S3:=(s1.trans s2).trans s3;let a2:(upd (upd (upd H l (.lst (I.map V.int))) l' (.lst (U.map V.int))) hd (.lst ((I++U).map V.int))) hd=some (.lst ((I++U).map V.int)):=ag;let cj:H hd=none:=(s1.trans s2).free bi;let D3:=D.same S3;generalize upd (upd (upd H l (.lst (I.map V.int))) l' (.lst (U.map V.int))) hd (.lst ((I++U).map V.int))=H3 at *;let lh:(I++U).length=32:=(by rw[wh];omega);rcases k with⟨kz,k⟩|⟨ns,rest,eh,n1,n2,nd,rg,k⟩
 .let a0:((I++U).map V.int)[0]?=some (.int 0):=by
   rw[M4,SW af,kz];rfl
  show#[0,hd,_,(0),.int 0,1,aW.of a2,aD (j:=0) a0,?_];show#[0,rfl,0,?_];rw[decide_eq_true rfl];show dt (k _ S3)
 .let a0:((I++U).map V.int)[0]?=some (.int (ns.length:Int)):=by
   rw[eh];rfl
  show#[0,hd,_,(0),.int (ns.length:Int),1,aW.of a2,aD (j:=0) a0,?_];show#[0,rfl,0,?_];rw[decide_eq_false (λz=>by injection z with z;omega)];show ck ?_;show#[0,(ns.length:Int),rfl,af,af,?_];obtain⟨a5,bx⟩:∃a5,cs=a5:=#[0];show eV (lo:=0) (n:=((ns.length:Nat):Int).toNat) (λi σ H4=>∃(v3:Option V)(d:Int)(cs:qAc)(ac:List (List Int)),σ=#v[.ref p,.ref hd,.int (ns.length:Int),v3]/\bt C H4 p Y d .a7 false cs ac/\ac.length=bs.length /\
   H4 hd=some (.lst ((I++U).map V.int))/\(∀(k:Nat)(n:Int),k<i->ns[k]?=some n->ac[n.toNat]?=bs[2+k]?)/\(∀j:Nat,(∀(k:Nat)(n:Int),k<i->ns[k]?=some n->j≠n.toNat)->ac[j]?=bs[j]?)/\Off (Wr p Y) H3 H4/\∀x∈cs,x∈a5\/H x=none)
   #[_,d,cs,bs,rfl,D3,rfl,a2,λk n hk=>absurd hk af,λj _=>rfl,λb o e _=>e,λx hx=>.inl (bx▸hx)] ?_ ?_
  .rintro i σ H4 hi ⟨v3,d4,am,ad,rfl,L,ap,ar,ha,G,o4,a6⟩;rw[Int.zero_add];let ao:i<ns.length:=af;let#[aB,h4]:=id L.ob;let ce:=rg ns[i] (UA ao);let bN:((I++U).map V.int)[1+i]?=some (.int ns[i]):=by
    rw[eh,M4,show 1+i=i+1 from Nat.add_comm 1 i,List.getElem?_cons_succ,SW ao,tp ao];rfl
   let a3:ad[2+i]?=bs[2+i]?:=G (2+i) λk n hk hn z=>by
    have:=(rg n (SO hn)).1;omega
   let bC:2+i<bs.length:=af;rw[tp bC]at a3;show#[0,p,aB,0,h4,cc,0,0,_,0,rfl,hd,2,.int ns[i],1,aW.of ar,4]
   .rw[show(1+(i:Int))=((1+i:Nat):Int)by push_cast;rfl];show aD bN
   show#[0,p,aB,0,h4,aK,0,_,0,rfl,p,Y,d4,.a7,false,am,ad,2+(i:Int),rfl,L,cS af af,λz=>absurd z (g ap af af),(λ_ z=>nomatch z),λ_ _ xr bv lr b2=>?_];rwa[show(2+(i:Int)).toNat=2+i by omega,a3]at bv;let b4:=j0 L.hc a3;let Z:=ah (X:=.lst ((bs[2+i]).map V.int)) b2;show#[p,Y,lr,d4,.a7,false,am,ad,ns[i],bs[2+i],rfl,L.same Z,.inl rfl,cS af af,aW.of ag,b4,λz=>absurd z (g ap af af),λ_ z=>?_,λ_ _ _ H6 a4 D6 ba o6=>?_]
   .rcases z with z|z<;>cases z
   rw[show mj V.a7=V.a7 from rfl]at D6;let b3:(ns[i]).toNat<ad.length:=af;show#[_,d4+1,a4,0,D6,by rw[Wd];show ap,?_,λk n hk ab=>?_,λj hj=>?_,?_]
   .let h5:=Z _ _ h4;show o6 _ _ (Z _ _ ar) λz=>z.elim (λz=>gp h5 (Z _ _ ar) z.symm) λz=>by
     let bm:=(L.same Z).hb;let be:=Z _ _ ar;rw[z]at be;rw[be]at bm;let hz:=SN bm;injection hz with hz;rw[eh]at hz;cases am with
     |nil=>cases hz
     |cons c t=>injection (show V.int _::_=V.ref c::_ from hz)with z1;cases z1
   .by_cases e:k=i
    .subst e;rwa[tp ao]at ab;rw[UI b3,tp bC]
    .let ca:k<i:=af;let b5:n.toNat≠(ns[i]).toNat:=λz=>by
      let as:k<ns.length:=af;rwa[tp as]at ab;let a1:=(rg ns[k] (UA as)).1;have:ns[k]=ns[i]:=af;show e ((Ya nd).mp this)
     rw[Uo (Ne.symm b5)];show ha k n ca ab
   .rw[Uo (Ne.symm (hj i ns[i] (WE i) (tp ao)))];show G j λk n hk hn=>hj k n af hn
   .show#[o4.trans λb o e G=>o6 _ _ (Z _ _ e) G,λx hx=>?_];rcases ba x hx with z|z
    .show a6 x z
    .show .inr (Off.none (H':=upd H4 lr (.lst ((bs[2+i]).map V.int))) (λb o e G=>Z _ _ (o4 _ _ (S3 _ _ e) G)) (L.same Z).np (L.same Z).nb z)
  .rintro σ H4 ⟨v3,d4,am,ad,rfl,L,ap,ar,ha,G,o4,a6⟩;rw[show((ns.length:Nat):Int).toNat=ns.length from Vn _]at ha G;let#[aB,h4]:=id L.ob;show#[0,p,Y,d4,.a7,am,ad,rfl,L,.inl rfl,af,λz=>(by cases z),λ_ H6 a4 D6 ba o6=>?_];rw[show mj V.a7=V.a7 from rfl]at D6;show#[0,k H6 (d4+1) a4 _ D6 (by rw[Wd];show ap) (λk n hn=>?_) (λj hj hn=>?_) (by rw[UI af]) (λx hx=>?_) ?_]
   .let as:k<ns.length:=(y0.mp hn).1;have:=(rg n (SO hn)).1;rw[Uo af];show ha k n as hn
   .rw[Uo af];show G j λk n hk ab z=>hn ?_;have:=(rg n (SO ab)).1;rw[z,show((n.toNat:Nat):Int)=n by omega];show SO ab
   .rcases ba x hx with z|z
    .show bx▸a6 x z
    .show .inr (Off.none (λb o e G=>o4 _ _ (S3 _ _ e) G) L.np L.nb z)
   .show λb o e G=>o6 _ _ (o4 _ _ (S3 _ _ e) G) G
def uG(C:Addr):Sp:=λvs H Q _=>∃(p G a:Addr)(d:Int)(cs:qAc)(bs:List (List Int))(L:Ei),vs=[.ref p,.ref a]/\bt C H p G d .a7 false cs bs/\29<=bs.length/\bs.length<=300/\mz H a L bs.length /\
 ∀(H':Hp)(d':Int)(I:qAc)(F:List (List Int)),bt C H' p G d' .a7 false I F->F.length=bs.length->(∀j:Nat,28<=j->F[j]?=((look L (j:Int)).map (·.2)).or bs[j]?)->F[0]?=some lV->(∀x∈I,x∈cs\/H x=none)->Off (Wr p G) H H'->Q .a7 H'
theorem x8(h:H a=some (.lst (ns.map V.int)))(F:1<=ns.length)(h':H b=some (.lst (cs.map V.ref))):a≠b:=qL h h' λz=>by
 injection z with z;cases ns with
 |nil=>simp at F
 |cons x r =>
  cases cs with
  |nil=>cases z
  |cons c t=>injection (show V.int x::r.map V.int=V.ref c::t.map V.ref from z)with z1 _;cases z1
variable{xs:qAa}
theorem Iu(h:xs.length=32):dg (xs.map V.int) (some 16) none=(xs.drop 16).map V.int:=by
 unfold dg;rw[rz,h];rw[show HT.pW 32 0 (some 16)=16 from rfl,show HT.pW 32 32 none=32 from rfl, <-map_drop, <-Z7];congr 1;show OR (by rw[Tu];omega)
theorem Iz(h:xs.length=32):dg (xs.map V.int) none (some 16)=(xs.take 16).map V.int:=by
 unfold dg;rw[rz,h];rw[show HT.pW 32 0 none=0 from rfl,show HT.pW 32 32 (some 16)=16 from rfl,VG,Z7]
theorem wX:ax ["disk","changes","numbers","n","k","head"] ["disk","changes"] (ak sN):=L2.a8
theorem zZ{fV:Addr}{dV:DD}(F:bM K "commit" "commit" sN f fd)(T:G1 mg)(TC:Txt K mg C)
  (GR:⇑aM 2 fR dR ["self","n"] (pC C CN CF)) (bR:Binds K dR ["self","n"] []) (mR:Meth K C "read" fR)
  (GW:⇑aM 2 fW dW ["self","n","numbers"] (nO K C CN CF)) (bW:Binds K dW ["self","n","numbers"] []) (mW:Meth K C "write" fW)
  (GV:↥aM 4 fV dV ["disk"] (kO C)) (DV:Def K mg "recover" fV dV ["disk"]):↥aM 5 f fd ["disk","changes"] (uG C):=by
 let#[c6,a1,aT]:=T.bn;let#[u2,m2,r2]:=T.fl;show F.cU wX ?_;intros;let#[p,I,a,d,cs,bs,L,rfl,D,dr,dp,c,k]:=h;let hs:=y1;let nm:∀{d:Int}{m:Str},¬ m = "fallen" -> ¬ m = "until_fall" -> ¬ m = "done" -> ¬ m = "blocks" -> (eC I d .a7 false).lookup m=none:=λh1 h2 h3 h4=>fj _ _ _ _ h1 h2 h3 h4;let ci:∀{d:Int},(eC I d .a7 false).lookup ("read" : Str)=none:=nm av av av av;let a5:∀{d:Int},(eC I d .a7 false).lookup ("write" : Str)=none:=nm av av av av;let g:∀{n:Int}{ab:List (List Int)},ab.length=bs.length->0<=n->n<bs.length->¬ Ax ab n:=λG a b z=>by rcases z with z|z<;>omega
 let c1:=c.l1;let c2:=c.l2;show#[_,(aj (cL 2 wX.nd (aC (tq rfl) (by rfl) T.sorted lF (aa (pv 1) ae)))
  (aj (dU TK rfl (cJ (pv 2)) (qx 3 wX.nd) (aq (aR (fQ (pv 0) TC.cl mR GR (hr.mono az) bR .nil gk (aa (pv 3) ae)))))
  (aj (dU TK rfl (yU (by rfl) T.enumerate (aa (pv 2) ae)) (xa rfl (gJ (qx 4 wX.nd) (gJ (qx 3 wX.nd) sM))) (aq (aR (fQ (pv 0) TC.cl mW GW (hr.mono az) bW .nil gk (aa (aJ bU (gv (by rfl) m2 r2) (pv 4)) (aa (gu (cV hr) (pv 1) (pv 3) bZ) ae))))))
  (aj (cL 5 wX.nd (aJ cE (bq (aa (aC aO (by rfl) T.len T7 (aa (pv 2) ae)) ae)) (pv 2)))
  (aj (cL 5 wX.nd (aJ cE (pv 5) (aJ iM (bq (aa ai ae)) (aJ dQ (aJ fH ai (gv (by rfl) a1 aT)) (aC aO (by rfl) T.len T7 (aa (pv 5) ae))))))
  (aj (aR (fQ (pv 0) TC.cl mW GW (hr.mono az) bW .nil gk (aa ai (aa (bw bK (pv 5) (bA (gv (by rfl) a1 aT)) b8) ae))))
  (aj (aR (fQ (pv 0) TC.cl mW GW (hr.mono az) bW .nil gk (aa ai (aa (bw bK (pv 5) b8 (bA (gv (by rfl) a1 aT))) ae))))
  (aq (aR (sP GV (hr.mono az) (by rfl) DV.mg DV.kp DV.b .nil ay (aa (pv 0) ae))))))))))),?_]
 show#[0,a,ky L,L.map (·.1),rfl,c.hd,by unfold ky dk;rw[VM,VM];rfl,c.nd,by rw[rz];omega,λl ns hl hp du=>?_];let s1:=ah (X:=.lst (ns.map V.int)) hl;let da:ns.length=L.length:=(by rw[hp.length_eq,rz]);let nd:ns.Nodup:=hp.symm.nodup c.nd;let rg:∀n∈ns,28<=n/\n<bs.length/\∃x,look L n=some x/\(n,x)∈L:=λn Z=>by
  let#[x,U,e]:=Tc.mp (hp.mem_iff.mp Z);let#[q1,q2]:=c.rg x U;rw[e]at q1 q2;let be:(n,x.2)∈L:=(by rw[<-e];show U);show#[q1,q2,x.2,jd c.nd be,be]
 let mem:∀{n:Int}{x:Addr×List Int},look L n=some x->n∈ns:=λh=>hp.mem_iff.mpr (Tc.mpr #[_,fz h,rfl]);show#[0,l,rfl,#[_,aW.of ag],?_];show gf (K:=K) (a:=l) (xs:=ns.map V.int) (λi σ H2=>∃v3:Option V,σ=#v[.ref p,.ref a,.ref l,v3,none,none]/\aH (upd H l (.lst (ns.map V.int))) H2) #[0,aH.refl _] (λi σ H2 _ ⟨_,_,s2⟩=>aW.of (s2 _ _ ag)) ?_ ?_
 .rintro i x σ H2 U ⟨v3,rfl,s2⟩;rw[M4]at U;let#[n,Z,rfl]:=SV.mp U;let#[q1,q2,_]:=rg n (SO Z);let D2:=D.same (s1.trans s2);let#[a6,h2]:=id D2.ob;show#[0,p,a6,0,h2,ci,0,p,I,d,.a7,false,cs,bs,n,rfl,D2,cS af af,λz=>absurd z (g rfl af q2),(λ_ z=>nomatch z),λ_ _ xs db lr b4=>?_];show#[0,s2.trans (ah b4)]
 rintro σ H2 ⟨v3,rfl,s2⟩;let S2:=s1.trans s2;let D2:=D.same S2;let as:H2 l=some (.lst (ns.map V.int)):=s2 _ _ ag;let C2:=c.same S2;clear s1 s2;show#[0,l,rfl,#[_,aW.of as],?_];let keep:∀{Y:Hp},Off (Wr p I) H2 Y->Y l=some (.lst (ns.map V.int))/\mz Y a L bs.length:=λ{Y} o=>by
  let#[a6,h2]:=id D2.ob;show#[o _ _ as λz=>z.elim (λz=>gp h2 as z.symm) λz=>x8 as af D2.hb z,C2.off o (λz=>z.elim (KY C2.hd h2) (Ki C2.hd D2.hb)) λb ms q z=>z.elim (λz=>gp h2 q.1 z.symm) λz=>CG q D2.hb z]
 obtain⟨a2,bB⟩:∃a2,cs=a2:=#[0];show va (K:=K) (a:=l) (xs:=ns.map V.int) (λi σ Y=>∃(v3 v4:Option V)(d:Int)(cs:qAc)(ab:List (List Int)),σ=#v[.ref p,.ref a,.ref l,v3,v4,none]/\bt C Y p I d .a7 false cs ab/\ab.length=bs.length /\
  (∀(k:Nat)(n:Int),k<i->ns[k]?=some n->ab[2+k]?=(look L n).map (·.2))/\(∀j:Nat,28<=j->ab[j]?=bs[j]?)/\Off (Wr p I) H2 Y/\∀x∈cs,x∈a2\/H x=none)
  #[2,d,cs,bs,rfl,D2,rfl,λk n hk=>absurd hk af,λj _=>rfl,λb o e _=>e,λx U=>.inl (bB▸U)] (λi σ Y _ ⟨_,_,_,_,_,_,_,_,_,_,o,_⟩=>aW.of (keep o).1) ?_ ?_
 .rintro i x σ Y Tt U c3 ⟨v3,v4,d4,aB,ac,rfl,D4,am,ha,G,o4,a4⟩;rw[M4]at U;let#[n,Z,rfl]:=SV.mp U;let c5:i<ns.length:=(y0.mp Z).1;let#[q1,q2,#[ad,row],bi,cr]:=rg n (SO Z);let#[_,C4]:=keep o4;let sT:=ah (X:=.tup [.int i,.int n]) c3;let D5:=D4.same sT;let C5:=C4.same sT;let#[cj,h5]:=id D5.ob;let ba:ju (upd Y Tt (.tup [.int i,.int n])) ad row:=C5.hr _ cr;show#[Tt,[.int i,.int n],rfl,dC.of ag,rfl,.int i,[.int n],rfl,.int n,[],1,?_];let hg:eU (upd Y Tt (.tup [.int i,.int n])) a (.int n) (some (.ref ad)):=by
   let q:=eU.k (k:=NC n) C5.hd;rw[cm,bi]at q;show q
  show#[0,p,cj,0,h5,a5,0,_,0,rfl,0,0,a,.ref ad,rfl,hg,?_];show#[p,I,ad,d4,.a7,false,aB,ac,2+(i:Int),row,rfl,D5,.inl rfl,cS af af,aW.of ba.1,ba.2,λz=>absurd z (g am af af),λ_ z=>?_,λ_ _ _ H6 cD D6 cR o6=>?_]
  .rcases z with z|z<;>cases z
  rw[show mj V.a7=V.a7 from rfl,show(2+(i:Int)).toNat=2+i by omega]at D6;show#[2,d4+1,cD,0,D6,by rw[Wd];show am,λk n' hk aK=>?_,λj hj=>?_,(λb o e G=>o6 _ _ (sT _ _ (o4 _ _ e G)) G),λx U=>?_]
  .by_cases e:k=i
   .subst e;rwa[Z]at aK;rw[UI af,bi];rfl
   .rw[Uo af];show ha k n' af aK
  .rw[Uo af];show G j hj
  .rcases cR x U with z|z
   .show a4 x z
   .show .inr (Off.none (λb o e G=>sT _ _ (o4 _ _ (S2 _ _ e) G)) D5.np D5.nb z)
 rintro σ Y ⟨v3,v4,d4,aB,ac,rfl,D4,am,ha,G,o4,a4⟩;rw[rz]at ha;let#[a0,C4]:=keep o4;let hlen:(ns.map V.int).length=ns.length:=rz ..;show#[0,l,0,.inl (aW.of a0),vA,λh0 bv=>#[0,h0,l,_,0,rfl,ag,by rw[au (aV a0 bv)];show a0,by rw[hlen];change 1+ns.length<=sizeLine;omega,λh1 bm=>?_]];rw[hlen]at bm ⊢;let t1:=(ah (X:=.lst [V.int (ns.length:Int)]) bv).trans (ah (X:=.lst ([V.int (ns.length:Int)]++ns.map V.int)) bm);let a3:(upd (upd Y h0 (.lst [V.int (ns.length:Int)])) h1 (.lst ([V.int (ns.length:Int)]++ns.map V.int))) h1=some (.lst ([V.int (ns.length:Int)]++ns.map V.int)):=ag;generalize upd (upd Y h0 (.lst [V.int (ns.length:Int)])) h1 (.lst ([V.int (ns.length:Int)]++ns.map V.int))=H5 at *;let ao:([V.int (ns.length:Int)]++ns.map V.int).length=1+ns.length:=(by rw[wh,hlen];rfl);show#[0,az,λz0 bc=>#[_,0,rfl,.inl #[az,az],0,h1,0,.inl (aW.of (by rw[au (aV a3 bc)];show a3)),_,0,rfl,z0,_,0,rfl,ag,4,?_,λz1 b0=>?_]]
 .rw[ao];omega
 .rw[ao];omega
 .rw[ao,Tj];omega
 let t2:=(ah (X:=.lst [V.int 0]) bc);let t3:=ah (X:=.lst (IF (2*16-(([V.int (ns.length:Int)]++ns.map V.int).length:Int)).toNat [V.int 0]).flatten) b0;let ez:((IF (2*16-(([V.int (ns.length:Int)]++ns.map V.int).length:Int)).toNat [V.int 0]).flatten)=(IF (31-ns.length) (0:Int)).map V.int:=by
  rw[rep1,ao,V6,show(2*16-((1+ns.length:Nat):Int)).toNat=31-ns.length by omega]
 rw[ez]at t3 ⊢;show#[h1,z1,_,0,rfl,(t2.trans t3) _ _ a3,ag,by rw[ao,rz,Uh];omega,λh2 cv=>?_];let cP:([V.int (ns.length:Int)]++ns.map V.int)++(IF (31-ns.length) (0:Int)).map V.int=((ns.length:Int)::(ns++IF (31-ns.length) 0)).map V.int:=by
  rw[T8,K4];rfl
 rw[cP];let t4:=ah (X:=.lst (((ns.length:Int)::(ns++IF (31-ns.length) 0)).map V.int)) cv;let S6:=((t1.trans t2).trans t3).trans t4;let ar:(upd (upd (upd H5 z0 (.lst [V.int 0])) z1 (.lst ((IF (31-ns.length) (0:Int)).map V.int))) h2 (.lst (((ns.length:Int)::(ns++IF (31-ns.length) 0)).map V.int))) h2=_:=ag;let bd:((ns.length:Int)::(ns++IF (31-ns.length) 0)).length=32:=(by rw[TH,wh,Uh];omega);let D6:=D4.same S6;let o6:Off (Wr p I) H2 (upd (upd (upd H5 z0 (.lst [V.int 0])) z1 (.lst ((IF (31-ns.length) (0:Int)).map V.int))) h2 (.lst (((ns.length:Int)::(ns++IF (31-ns.length) 0)).map V.int))):=λb o e G=>S6 _ _ (o4 _ _ e G);generalize upd (upd (upd H5 z0 (.lst [V.int 0])) z1 (.lst ((IF (31-ns.length) (0:Int)).map V.int))) h2 (.lst (((ns.length:Int)::(ns++IF (31-ns.length) 0)).map V.int))=H6 at *;generalize co:((ns.length:Int)::(ns++IF (31-ns.length) 0))=hd at *;let#[cc,h6]:=id D6.ob;show#[0,p,cc,0,h6,a5,0,(16),rfl,h2,0,aW.of ar,λsl cB=>?_];rw[Iu bd];let s7:=ah (X:=.lst ((hd.drop 16).map V.int)) cB;show#[p,I,sl,d4,.a7,false,aB,ac,(1),hd.drop 16,rfl,D6.same s7,.inl rfl,cS az az,aW.of ag,by rw[Tu];omega,λz=>absurd z (g am az af),λ_ z=>?_,λ_ _ _ H8 c0 D8 ca o8=>?_]
 .rcases z with z|z<;>cases z
 rw[show mj V.a7=V.a7 from rfl,show((1:Int)).toNat=1 from rfl]at D8;let h7:=s7 _ _ h6;let cN:H8 h2=some (.lst (hd.map V.int)):=o8 _ _ (s7 _ _ ar) λz=>z.elim (λz=>gp h7 (s7 _ _ ar) z.symm) λz=>x8 (s7 _ _ ar) af (D6.same s7).hb z;let#[bN,h8]:=id D8.ob;show#[0,p,bN,0,h8,a5,0,(16),rfl,h2,0,aW.of cN,λsm b2=>?_];rw[Iz bd];let s9:=ah (X:=.lst ((hd.take 16).map V.int)) b2;show#[p,I,sm,d4+1,.a7,false,c0,_,(0),hd.take 16,rfl,D8.same s9,.inl rfl,cS az az,aW.of ag,by rw[HC];omega,λz=>absurd z (g (by rw[Wd];show am) az af),λ_ z=>?_,λ_ _ _ ce cg ap c4 b5=>?_]
 .rcases z with z|z<;>cases z
 rw[show mj V.a7=V.a7 from rfl,show((0:Int)).toNat=0 from rfl]at ap;let bC:Off (Wr p I) H ce:=λb o e G=>b5 _ _ (s9 _ _ (o8 _ _ (s7 _ _ (o6 _ _ (S2 _ _ e) G)) G)) G;let bx:((ac.set 1 (hd.drop 16)).set 0 (hd.take 16)).length=bs.length:=(by rw[Wd,Wd];show am);show#[0,p,I,_,cg,_,hd.take 16,hd.drop 16,rfl,ap,af,af,4,.inr #[ns,IF (31-ns.length) 0,?_,af,af,nd,λn Z=>?_,λH' d' cx ab D' b1 hA hB bY b3 o'=>?_]]
 .rw[UI (by rw[Wd];omega)]
 .rw[Uo af,UI af]
 .rw[TR, <-co]
 .rw[bx];show#[(rg n Z).1,(rg n Z).2.1]
 let bb:∀j:Nat,2<=j->((ac.set 1 (hd.drop 16)).set 0 (hd.take 16))[j]?=ac[j]?:=λj hj=>(by rw[Uo af,Uo af]);let q8:Off (Wr p I) H (upd H6 sl (.lst ((hd.drop 16).map V.int))):=λb o e G=>s7 _ _ (o6 _ _ (S2 _ _ e) G);let bF:Off (Wr p I) H (upd H8 sm (.lst ((hd.take 16).map V.int))):=λb o e G=>s9 _ _ (o8 _ _ (q8 _ _ e G) G);show k H' d' cx ab D' (b1.trans bx) (λj hj=>?_) bY (λx U=>?_) λb o e G=>o' _ _ (bC _ _ e G) G
 rotate_left
 .rcases b3 x U with z|z
  .rcases c4 x z with z|z
   .rcases ca x z with z|z
    .show bB▸a4 x z
    .show .inr (Off.none q8 (D6.same s7).np (D6.same s7).nb z)
   .show .inr (Off.none bF (D8.same s9).np (D8.same s9).nb z)
  .show .inr (Off.none bC ap.np ap.nb z)
 cases hm:((j:Nat):Int)∈ns
 .let#[q,hq,eq]:=Xg hm;let e1:=hA q (j:Int) (by rw[tp hq,eq]);rw[Vn,bb _ af,ha q (j:Int) hq (by rw[tp hq,eq])]at e1;let#[_,_,x,ex,_]:=rg _ hm;rw[e1,ex];rfl
 .rw[hB j hj hm,bb _ af,G j hj];cases e:look L (j:Int)with
  |none=>rfl
  |some x=>show absurd (mem e) hm
end Dk
namespace Fs
open PySem L2 Dk Tb
noncomputable def f2(a b:Str)(x y:V):List (Str×V):=bz b y (bz a x [])
variable{a b:Str}{x y:V}
theorem bT(h:¬ a=b):(f2 a b x y).lookup a=some x:=by unfold f2;rw[aN,aa2 h,aN,aa3 rfl]
theorem jn:(f2 a b x y).lookup b=some y:=by unfold f2;rw[aN,aa3 rfl]
theorem a9{m:Str}(h1:¬ m=b)(h2:¬ m=a):(f2 a b x y).lookup m=none:=by unfold f2;rw[aN,aa2 h1,aN,aa2 h2];rfl
theorem iU(h:¬ a=b):f2 a b x y=[(a,x),(b,y)]:=by unfold f2;rw[gX,dj h,gX]
theorem Mb{z:V}(h:¬ a=b):bz b z (f2 a b x y)=f2 a b x z:=by rw[iU h,iU h,dj h,nc rfl]
theorem Iq(h:¬ a=b):(f2 a b x y).length<1000:=by rw[iU h];change 2<1000;decide
structure DA where
 C:Addr
 CD:Addr
structure BA where
 dr:Addr
 p:Addr
 bl:Addr
structure BS where
 dd:Addr
 cs:List Addr
 bs:List (List Int)
 D:Ei
theorem kd:¬ (("disk" : Str) = "drafted"):=av
structure sk(c:DA)(H:Hp)(b:BA)(s:BS):Prop where
 ob:∃dx,H b.dr=some (.ins c.CD dx (f2 "disk" "drafted" (.ref b.p) (.ref s.dd)))
 dk:∃d,bt c.C H b.p b.bl d .a7 false s.cs s.bs
 hd:H s.dd=some (.dK (ky s.D))
 hr:∀x∈s.D,ju H x.2.1 x.2.2
 nd:(s.D.map (·.1)).Nodup
 rg:∀x∈s.D,28<=x.1/\x.1<s.bs.length
 ln:48<=s.bs.length/\s.bs.length<=300
 z0:s.bs[0]?=some lV
noncomputable def iA(b:BA)(s:BS)(a:Addr):Prop:=a=b.dr\/a=b.p\/a=b.bl\/a=s.dd\/a∈s.cs\/∃x∈s.D,a=x.2.1
noncomputable def lb(s:BS)(j:Int):Option (List Int):=((look s.D j).map (·.2)).or s.bs[j.toNat]?
noncomputable def qe(s:BS)(x:Int×Addr×List Int):Bool:=decide (¬ s.bs[x.1.toNat]?=some x.2.2)
noncomputable def dn(s:BS):Nat:=(s.D.filter (qe s)).length
theorem xT{α:Type}{p:Int×α->Bool}{k:Int}{a b:α}:∀{l:List (Int×α)},(l.map (·.1)).Nodup->look l k=some b->((dG l k a).filter p).length+(if p (k,b)=true then 1 else 0)=(l.filter p).length+(if p (k,a)=true then 1 else 0)
 | [],_,h=>by cases h
 |x::l,nd,h=>by
  rw[T8,TQ]at nd;rw[bu]at h;let one:∀(y:Int×α)(m:List (Int×α)),((y::m).filter p).length=(if p y=true then 1 else 0)+(m.filter p).length:=λy m=>by
   cases c:p y=true
   .rw[UE c,aa3 c,TH];omega
   .rw[Uw c,aa2 c];omega
  change(((if x.1=k then(k,a)else x)::dG l k a).filter p).length+_=_;rw[one,one];cases e:x.1=k
  .rw[aa3 e]at h ⊢;cases h;let id:dG l k a=l:=by
    unfold dG
    conv=>rhs;rw[<-List.map_id l]
    show Zi λy F=>?_;rw[aa2 (λz=>nd.1 (Tc.mpr #[y,F,z.trans e.symm]))];rfl
   rw[id,show(k,x.2)=x by rw[<-e]];omega
  .rw[aa2 e]at h ⊢;have:=xT (p:=p) (a:=a) nd.2 h;omega
def cW(b:BA)(s:BS)(H:Hp)(s':BS)(H':Hp):Prop:=Off (iA b s) H H'/\∀a,iA b s' a->iA b s a\/H a=none
variable{c:DA}{H H':Hp}{b:BA}{s:BS}
theorem sk.off{B:qa0}(A:sk c H b s)(o:Off B H H')(n:∀a,iA b s a->¬ B a):sk c H' b s:=by
 let#[dx,h1]:=A.ob;let#[d,#[U,h2],L,G]:=A.dk;show#[#[dx,o _ _ h1 (n _ (.inl rfl))],#[d,#[U,o _ _ h2 (n _ (.inr (.inl rfl)))],o _ _ L (n _ (.inr (.inr (.inl rfl)))),gi G λa I ns q=>#[o _ _ q.1 (n _ (.inr (.inr (.inr (.inr (.inl I)))))),q.2]],
  o _ _ A.hd (n _ (.inr (.inr (.inr (.inl rfl))))),λx F=>#[o _ _ (A.hr x F).1 (n _ (.inr (.inr (.inr (.inr (.inr #[x,F,rfl])))))),(A.hr x F).2],A.nd,A.rg,A.ln,A.z0]
theorem sk.same(A:sk c H b s)(o:aH H H'):sk c H' b s:=A.off (B:=λ_=>False) (Off.of o) λ_ _=>id
theorem sk.live(A:sk c H b s){a:Addr}(h:iA b s a):H a≠none:=by
 let#[dx,h1]:=A.ob;let#[d,D]:=A.dk;rcases h with h|h|h|h|h|⟨x,F,h⟩
 .rw[h,h1];nofun
 .rw[h];show D.np
 .rw[h];show D.nb
 .rw[h,A.hd];nofun
 .let#[ns,q]:=fS D.hc a h;rw[q.1];nofun
 .rw[h,(A.hr x F).1];nofun
theorem cW.same(o:aH H H'):cW b s H s H':=#[Off.of o,λ_ h=>.inl h]
theorem sk.row(A:sk c H b s){j:Int}{r:qAa}(h:lb s j=some r):r.length=16:=by
 let#[d,D]:=A.dk;unfold lb at h;cases e:look s.D j with
 |none=>rw[e]at h;show j0 D.hc h
 |some x=>rwa[e]at h;show(A.hr _ (fz e)).2
theorem sk.dl(A:sk c H b s):s.D.length<=300:=by
 have:=LZ 300 0 (s.D.map (·.1)) A.nd λx G=>by
  let#[y,F,rfl]:=Tc.mp G;have:=A.rg y F;have:=A.ln;omega
 (rw[rz]at this;assumption)
inductive sO(c:DA)(v:qAh)(H:Hp)(Q:VK)(e:XK):Prop
 |mk(dr dx p bl:Addr)(d:Int)(cs:qAc)(bs:List (List Int))(_:v=[.ref dr,.ref p])(_:H dr=some (.ins c.CD dx []))(_:bt c.C H p bl d .a7 false cs bs)(_:48<=bs.length/\bs.length<=300)(_:bs[0]?=some lV)(_:∀(H':Hp)(dd:Addr),sk c H' #[dr,p,bl] #[dd,cs,bs,[]]->Off (· = dr) H H'->H dd=none->Q .a7 H')
inductive i5(c:DA)(v:qAh)(H:Hp)(Q:VK)(e:XK):Prop
 |mk(b:BA)(s:BS)(n:Int)(r:qAa)(_:v=[.ref b.dr,.int n])(_:sk c H b s)(_:0<=n)(_:lb s n=some r)(_:n<s.bs.length)(_:∀(H':Hp)(l:Addr),aH H H'->H l=none->H' l=some (.lst (r.map V.int))->Q (.ref l) H')
inductive jU(K:SU)(c:DA)(v:qAh)(H:Hp)(Q:VK)(e:XK):Prop
 |mk(b:BA)(s:BS)(n:Int)(l:Addr)(r:qAa)(_:v=[.ref b.dr,.int n,.ref l])(_:sk c H b s)(_:28<=n)(_:n<s.bs.length)(_:aW K H l (r.map V.int))(_:r.length=16)(_:∀(H':Hp)(D':Ei),sk c H' b { s with D:=D' }->(∀j,lb { s with D:=D' } j=if j=n then some r else lb s j)->(∀x∈D',x∈s.D\/(x.1=n/\x.2.2=r))->Off (· = s.dd) H H'->cW b s H { s with D:=D' } H'->dn { s with D:=D' }<=dn s+(if lb s n=some r then 0 else 1)->Q .a7 H')
abbrev Qx:Tg:=inClass (top 27) 0
abbrev Qg:Tg:=inClass (top 27) 1
abbrev RD:Tg:=inClass (top 27) 2
abbrev P1:Tg:=inClass (top 27) 3
structure Bt(K:SU)(mg:qa3)(c:DA):Prop where
 cl:mZ K c.CD
 nK:cC K c.CD "disk"
 nD:cC K c.CD "drafted"
 list:mg "list" = none
 len:mg "len" = none
theorem RA:ax ["self","disk"] ["self","disk"] (ak Qx):=L2.a8
theorem Cm(F:bM K "__init__" "Draft.__init__" Qx f fd)(T:Bt K mg c):↥aM 1 f fd ["self","disk"] (sO c):=by
 show F.cU RA ?_;intros;let#[G,dx,p,Z,d,cs,bs,rfl,I,D,ln,U,k]:=h;show#[_,(aj (dS (pv 0) (pv 1) rfl)
  (aq (dS (pv 0) iE rfl))),?_]
 show#[0,0,G,c.CD,dx,[],rfl,I,T.cl,T.nK,az,?_];dsimp only;intro dd hd;let nd:dd≠G:=λe=>(by rwa[e,ag]at hd);let L:H dd=none:=(by rw[au nd]at hd;show hd);show#[0,G,c.CD,dx,0,by rw[au (Ne.symm nd),ag],T.cl,T.nD,by change 1<1000;decide,?_];let o:Off (· = G) H (upd (upd (upd H G (.ins c.CD dx (bz "disk" (.ref p) []))) dd (.dK [])) G (.ins c.CD dx (bz "drafted" (.ref dd) (bz "disk" (.ref p) [])))):=λb o e w=>by
  rw[au w,au (aV e L),au w];show e
 let Y:=D.np;let hb:=D.nb;show k _ dd #[#[dx,ag],#[d,D.off o (λe=>?_) (λe=>?_) λa ns q e=>?_],by rw[au nd,ag];rfl,nofun,.nil,nofun,ln,U] o L
 .let#[ab,h2]:=D.ob;rw[e,I]at h2;simp only[UB,HO.ins.injEq]at h2;have:=h2.2.2;rwa[dJ]at this
 .have:=D.hb;rwa[e,I]at this
 .have:=q.1;rwa[e,I]at this
theorem PX:ax ["self","n"] ["self","n"] (ak Qg):=L2.a8
variable{CN CF:Addr}
theorem Bi(F:bM K "read" "Draft.read" Qg f fd)(T:Bt K mg c)(Y:Txt K mg c.C)(GR:⇑Md 2 c.C "read" (pC c.C CN CF)):↥aM 3 f fd ["self","n"] (i5 c):=by
 show F.cU PX ?_;intros;let#[b,s',n,r,rfl,B,n0,G,n1,k]:=h;let#[dx,I]:=B.ob;let#[d,D]:=B.dk;show#[_,(aj (bP (sf (Le (cV hr) (pv 1) (aE (pv 0) rfl))) (aq (aG (dH cq (by rfl) T.list dI (aa (gu (cV hr) (aE (pv 0) rfl) (pv 1) bZ) ae)))) bj)
  (aq (aG (pm (aE (pv 0) rfl) Y.cl GR hr gk (aa (pv 1) ae))))),?_]
 show E6 λ_ ji je=>?_;show#[0,0,b.dr,c.CD,dx,_,.ref s'.dd,rfl,I,T.cl,T.nD,jn,s'.dd,0,eU.k (k:=NC n) B.hd,?_];rw[cm];unfold lb at G;cases e:look s'.D n with
 |some x =>
  rwa[e]at G;show#[true,rfl,ji _ ?_];show#[0,b.dr,c.CD,dx,_,.ref s'.dd,rfl,I,T.cl,T.nD,jn,0,s'.dd,fC x,3,?_]
  .let q:=eU.k (k:=NC n) B.hd;rw[cm,e]at q;show q
  .show#[x.1,0,.inl (aW.of (B.hr _ (fz e)).1),λl G=>k _ l (ah G) G ag]
 |none =>
  rw[e]at G;show#[false,rfl,je _ ?_];let#[Z,h2]:=D.ob;show#[0,b.dr,c.CD,dx,_,.ref b.p,rfl,I,T.cl,T.nK,bT kd,b.p,Z,0,h2,fj _ _ _ _ av av av av,0,b.p,b.bl,d,.a7,false,s'.cs,s'.bs,n,rfl,D,cS af (by have:=B.ln;omega),λz=>?_,λ_ z=>?_,λ_ _ ns U l L=>?_]
  .show absurd z (by unfold Ax;omega)
  .cases z
  .rw[show s'.bs[n.toNat]?=some r from G]at U;cases U;show k _ l (ah L) L ag
theorem RT:ax ["self","n","numbers"] ["self","n","numbers"] (ak RD):=L2.a8
theorem zJ(F:bM K "write" "Draft.write" RD f fd)(T:Bt K mg c):↥aM 1 f fd ["self","n","numbers"] (jU K c):=by
 show F.cU RT ?_;intros;let#[b,s',n,l,r,rfl,B,n0,n1,U,lr,k]:=h;let ld:=B.dl;let#[dx,ho]:=B.ob;let hs:=y1;show#[_,(aq (fO (cV hr) (aE (pv 0) rfl) (pv 1) (dH cq (by rfl) T.list dI (aa (pv 2) ae)) rfl)),?_];show#[0,l,0,.inl U,λa Y=>?_];let s1:=ah (X:=.lst (r.map V.int)) Y;let B1:=B.same s1;show#[0,b.dr,c.CD,dx,_,.ref s'.dd,rfl,s1 _ _ ho,T.cl,T.nD,jn,0,s'.dd,0,jJ.k (k:=NC n) B1.hd (by unfold ky dk;rw[rz];omega),?_];let ea:upd H a (.lst (r.map V.int)) a=some (.lst (r.map V.int)):=ag;generalize upd H a (.lst (r.map V.int))=H1 at *;let na:a≠s'.dd:=λe=>(by rw[e]at Y;rwa[B.hd]at Y);let L:∀X,Off (· = s'.dd) H (upd H1 s'.dd X):=λX b o e w=>(by rw[au w];show s1 _ _ e);let nx:∀{y xs},H y=some (.lst xs)->y≠s'.dd:=λe z=>(by rwa[z,B.hd]at e);let#[d,#[ab,h2],h3,h4]:=id B.dk;let ac:∀X,bt c.C (upd H1 s'.dd X) b.p b.bl d .a7 false s'.cs s'.bs:=λX=>#[#[ab,L X _ _ h2 λe=>by rwa[e,B.hd]at h2],L X _ _ h3 (nx h3),gi h4 λy Z ns q=>#[L X _ _ q.1 (nx q.1),q.2]];let fin:∀I:Ei,putK (ky s'.D) (NC n) (fC (a,r))=ky I->(∀j,look I j=if j=n then some (a,r)else look s'.D j)->(∀x∈I,x∈s'.D\/x=(n,a,r))->(I.map (·.1)).Nodup->dn { s' with D:=I }<=dn s'+(if lb s' n=some r then 0 else 1)->Q .a7 (upd H1 s'.dd (.dK (putK (ky s'.D) (NC n) (fC (a,r))))):=λI e1 e2 e3 e4 e5=>by
  show k _ I #[#[dx,L _ _ _ ho λe=>by rwa[e,B.hd]at ho],#[d,ac _],by rw[ag,e1],λx G=>?_,e4,λx G=>?_,B.ln,B.z0] (λj=>?_) (λx G=>(e3 x G).imp id λz=>by rw[z];show#[1]) (L _) #[(L _).mono λy z=>.inr (.inr (.inr (.inl z))),λy z=>?_] e5
  .rcases e3 x G with z|z
   .show#[L _ _ _ (B.hr x z).1 (nx (B.hr x z).1),(B.hr x z).2]
   .rw[z];show#[by rw[au na];show ea,lr]
  .rcases e3 x G with z|z
   .show B.rg x z
   .rw[z];show#[n0,n1]
  .unfold lb;rw[show(look (BS.mk s'.dd s'.cs s'.bs I).D j)=_ from e2 j];cases z:j=n
   .rw[aa3 z,aa3 z];rfl
   .rw[aa2 z,aa2 z]
  .rcases z with z|z|z|z|z|⟨x,G,z⟩
   .show .inl (.inl z)
   .show .inl (.inr (.inl z))
   .show .inl (.inr (.inr (.inl z)))
   .show .inl (.inr (.inr (.inr (.inl z))))
   .show .inl (.inr (.inr (.inr (.inr (.inl z)))))
   .rcases e3 x G with y|y
    .show .inl (.inr (.inr (.inr (.inr (.inr #[x,y,z])))))
    .rw[z,y];show .inr Y
 cases e:look s'.D n with
 |none =>
  show fin (s'.D++[(n,a,r)]) (eW e) (λj=>lE j e) (λx G=>?_) ?_ ?_
  .rcases SY.mp G with z|z
   .show .inl z
   .show .inr (DO.mp z)
  .rw[K4,Ud];show#[B.nd,by simp,λx G y Z=>by rw[DO.mp (show y∈[n]from Z)];show λz=>lN e (z▸G)]
  .let U:lb s' n=s'.bs[n.toNat]?:=(by unfold lb;rw[e];rfl);change((s'.D++[(n,a,r)]).filter (qe s')).length<=dn s'+_;rw[U5,wh,U];cases z:s'.bs[n.toNat]?=some r
   .rw[aa3 z,Uw (by change ¬ decide _=true;rw[decide_eq_false (λw=>w z)];nofun),Wh];show G0 _
   .rw[aa2 z];show Zh (UG _ _) _
 |some x =>
  show fin (dG s'.D n (a,r)) (gY e) (λj=>iI j e) (λy Z=>?_) (by rw[iR];show B.nd) ?_
  .let#[y',h1,h2]:=Tc.mp Z;cases z:y'.1=n
   .rw[aa3 z]at h2;show .inr h2.symm
   .rw[aa2 z]at h2;rw[<-h2];show .inl h1
  .let q:=xT (p:=qe s') (a:=(a,r)) B.nd e;let U:lb s' n=some x.2:=(by unfold lb;rw[e];rfl);change((dG s'.D n (a,r)).filter (qe s')).length<=dn s'+_;unfold dn;rw[U];cases z:some x.2=some r
   .let ed:qe s' (n,a,r)=qe s' (n,x):=(by change decide (¬ s'.bs[n.toNat]?=some r)=decide (¬ s'.bs[n.toNat]?=some x.2);rw[z]);rw[aa3 z];rw[ed]at q;omega
   .rw[aa2 z];have:(if qe s' (n,a,r)=true then 1 else 0)<=1:=(by split<;>omega);omega
inductive we(c:DA)(v:qAh)(H:Hp)(Q:VK)(e:XK):Prop
 |mk(b:BA)(s:BS)(_:v=[.ref b.dr])(_:sk c H b s)(_:dn s<=24)(_:∀(H':Hp)(s':BS),sk c H' b s'->s'.D=[]->(∀j,28<=j->lb s' j=lb s j)->s'.bs.length=s.bs.length->cW b s H s' H'->Q .a7 H')
theorem tM{α:Type}{l:List (Int×α)}{p:Int×α->Bool}(nd:(l.map (·.1)).Nodup)(j:Int):look (l.filter p) j=(look l j).bind λa=>if p (j,a)=true then some a else none:=by
 induction l with
 |nil=>rfl
 |cons x l F =>
  rw[T8,TQ]at nd;rw[bu];cases e:x.1=j
  .rw[aa3 e];let G:look (l.filter p) j=none:=by
    rw[F nd.2];cases q:look l j with
    |none=>rfl
    |some a=>show absurd (Tc.mpr #[_,fz q,e.symm]) nd.1
   cases c:p x=true
   .rw[UE c,bu,aa3 e,Xr,aa3 (by rw[<-e];show c)]
   .rw[Uw c,G,Xr,aa2 (by rw[<-e];show c)]
  .rw[aa2 e, <-F nd.2];cases c:p x=true
   .rw[UE c,bu,aa2 e]
   .rw[Uw c]
theorem uq{l:qAa}(nd:l.Nodup){i j:Nat}{x:Int}(hi:l[i]?=some x)(I:l[j]?=some x):i=j:=by
 let#[h1,F]:=y0.mp hi;let#[h2,G]:=y0.mp I;rcases Nat.lt_trichotomy i j with h|h|h
 .show absurd (F.trans G.symm) (TU.mp nd i j h1 h2 h)
 .show h
 .show absurd (G.trans F.symm) (TU.mp nd j i h2 h1 h)
theorem Jj:ax ["self","changes","n"] ["self"] (ak P1):=L2.a8
theorem xh(F:bM K "finish" "Draft.finish" P1 f fd)(T:Bt K mg c)(TC:Txt K mg c.C)(GR:⇑Md 2 c.C "read" (pC c.C CN CF))(GC:↥Df 5 "commit" (uG c.C)):↥aM 6 f fd ["self"] (we c):=by
 show F.cU Jj ?_;intros;let#[b,s',rfl,B,ld,k]:=h;let l3:=B.dl;let ld:(s'.D.filter (qe s')).length<=24:=ld;let hs:=y1;let#[dx,L]:=B.ob;let#[d,D]:=B.dk;let am:=B.hd;show#[_,(aj (cL 1 Jj.nd iE)
  (aj (Gw (dU TK rfl (FQ (aE (pv 0) rfl)) (qx 2 Jj.nd) (aq (bP (aA (KZ hr.K9) (gu (cV hr) (aE (pv 0) rfl) (pv 2) bZ) (pm (aE (pv 0) rfl) TC.cl GR hr gk (aa (pv 2) ae)) (aI _)) (aq (fO (cV hr) (pv 1) (pv 2) (gu (cV hr) (aE (pv 0) rfl) (pv 2) bZ) rfl)) bj))))
  (aj (dS (pv 0) iE rfl)
  (aq (bP (aA jV (aC yZ (by rfl) T.len T7 (aa (pv 1) ae)) ai (aI _)) (aq (aR (pc GC hr ay (aa (aE (pv 0) rfl) (aa (pv 1) ae))))) bj))))),?_]
 show gz λ_ jt=>?_;intro ch ac;show jt _ _ ?_;clear jt;let s1:=ah (X:=.dK []) ac;let c1:upd H ch (.dK []) ch=some (.dK []):=ag;let ad:ch≠s'.dd:=λe=>(by rwa[e,am]at ac);generalize upd H ch (.dK [])=H1 at *;let a2:∀(o:Obj) u',H s'.dd≠some (.frz o u'):=λo u' z=>(by rwa[am]at z);show#[0,b.dr,c.CD,dx,_,.ref s'.dd,rfl,s1 _ _ L,T.cl,T.nD,jn,s'.dd,0,s1 _ _ am,a2,λo=>?_];let o1:Off (· = s'.dd) H (upd H1 s'.dd (.frz o (.dK (ky s'.D)))):=λa u e z=>(by rw[au z];show s1 _ _ e);let c2:upd H1 s'.dd (.frz o (.dK (ky s'.D))) ch=some (.dK []):=(by rw[au ad];show c1);let d2:upd H1 s'.dd (.frz o (.dK (ky s'.D))) s'.dd=some (.frz o (.dK (ky s'.D))):=ag;generalize upd H1 s'.dd (.frz o (.dK (ky s'.D)))=HF at *;let nl:∀{a xs},H a=some (.lst xs)->HF a=some (.lst xs):=λ{a xs} e=>o1 _ _ e λz=>(by rwa[z,am]at e);let ar:∀{a C dx fs},H a=some (.ins C dx fs)->HF a=some (.ins C dx fs):=λ{a C dx fs} e=>o1 _ _ e λz=>(by rwa[z,am]at e);let free:∀{a},HF a=none->H a=none:=λ{a} e=>by
  cases q:H a with
  |none=>rfl
  |some u =>
   cases z:a=s'.dd
   .rw[z,d2]at e;cases e
   .rw[o1 _ _ q z]at e;cases e
 show AD (a:=s'.dd) (o:=o) (kvs:=ky s'.D) (λi σ H2=>∃v2:Option V,kZ (σ=#v[.ref b.dr,.ref ch,v2]) (H2 ch=some (.dK (ky ((s'.D.take i).filter (qe s'))))) (Off (· = ch) HF H2)) #[0,by rw[UU];show c2,λ_ _ e _=>e] (λi σ H2 _ z=>by let#[_,_,_,U]:=z;show U _ _ d2 (Ne.symm ad)) ?_ ?_
 .rintro i kk v σ H2 hk ⟨v2,rfl,h2,U⟩;let a3:(s'.D.map λx:Int×Addr×List Int=>((NC x.1:Key),fC x.2))[i]?=some (kk,v):=hk;rw[M4]at a3;let#[x,I,e]:=SV.mp a3;cases e;let aT:=SO I;let lk:=jd B.nd (show(x.1,x.2)∈s'.D from aT);let rg:=B.rg x aT;let len:=B.ln;let aB:∀{a u},H a=some u->a≠ch:=λe z=>(by rwa[z,ac]at e);let L2:∀{a xs},H a=some (.lst xs)->H2 a=some (.lst xs):=λe=>U _ _ (nl e) (aB e);let I2:∀{a C dx fs},H a=some (.ins C dx fs)->H2 a=some (.ins C dx fs):=λe=>U _ _ (ar e) (aB e);let gd:∀{J:Hp},J s'.dd=some (.frz o (.dK (ky s'.D)))->eU J s'.dd (.int x.1) (some (fC x.2)):=λe=>.inl #[_,NC x.1,.inr #[_,e],rfl,by rw[cm,lk];rfl];let e2:=U _ _ d2 (Ne.symm ad);let#[ao,ab]:=D.ob;let D2:bt c.C H2 b.p b.bl d .a7 false s'.cs s'.bs:=#[#[ao,I2 ab],L2 D.hb,gi D.hc λa _ ns q=>#[L2 q.1,q.2]];obtain⟨ns,aK⟩:∃ns,s'.bs[x.1.toNat]?=some ns:=#[_,tp af];show yG λQQ ji je=>?_;show#[0,b.dr,c.CD,dx,_,.ref s'.dd,rfl,I2 L,T.cl,T.nD,jn,0,s'.dd,0,gd e2,0,b.dr,c.CD,dx,_,.ref b.p,rfl,I2 L,T.cl,T.nK,bT kd,b.p,ao,0,I2 ab,fj _ _ _ _ av av av av,0,b.p,b.bl,d,.a7,false,s'.cs,s'.bs,x.1,rfl,D2,cS af af,λz=>absurd z (by unfold Ax;omega),λ_ z=>(by cases z),λ_ _ be hn l hl=>?_];rwa[aK]at hn;let Z:=ah (X:=.lst (ns.map V.int)) hl;let h3:=Z _ _ h2;let hr:=(B.hr x aT).1;show#[x.2.1,l,x.2.2.map V.int,ns.map V.int,1,aW.of (Z _ _ (L2 hr)),aW.of ag,qq _,qq _,0,?_];rw[qv];let ht:s'.D.take (i+1)=s'.D.take i++[x]:=(by rw[Um,I];rfl);let Y:Off (· = ch) HF (upd H2 l (.lst (ns.map V.int))):=λa u e z=>Z _ _ (U _ _ e z);generalize upd H2 l (.lst (ns.map V.int))=H3 at *;cases z:x.2.2=ns
  .let hd:qe s' x=false:=decide_eq_false (λw=>w (by rw[aK,z]));rw[decide_eq_true z];show je _ #[0,?_,Y];rw[ht,U5,Uw (by rw[hd];nofun),Wh,Tq];show h3
  .let hd:qe s' x=true:=decide_eq_true (λw=>z (by rw[aK]at w;show(SN w).symm));rw[decide_eq_false z];show ji _ ?_;show#[0,b.dr,c.CD,dx,_,.ref s'.dd,rfl,Y _ _ (ar L) (aB L),T.cl,T.nD,jn,0,s'.dd,0,gd (Y _ _ d2 (Ne.symm ad)),0,0,ch,0,jJ.k (k:=NC x.1) h3 (by unfold ky dk;rw[rz];have:=UG (qe s') (s'.D.take i);rw[HC]at this;omega),0,?_,λa u e z=>by rw[au z];show Y _ _ e z];rw[ag,ht,U5,UE hd,Wh];show congrArg (λy=>some (HO.dK y)) (eW (f:=fC) (a:=x.2) ?_);cases q:look ((s'.D.take i).filter (qe s')) x.1 with
   |none=>rfl
   |some u =>
    exfalso;let m1:=(Ue.mp (fz q)).1;let#[j,hj,e3]:=Xg m1;rw[ZU]at e3;rw[HC]at hj;let hi:=(y0.mp I).1;let ij:=uq (x:=x.1) B.nd (i:=j) (j:=i) (by rw[M4,tp af,e3];rfl) (by rw[M4,I];rfl);omega
 .rintro σ H2 ⟨v2,rfl,h2,U⟩;rw[show(ky s'.D).length=s'.D.length by unfold ky dk;rw[rz],UH]at h2;show#[s'.dd,o,_,U _ _ d2 (Ne.symm ad),a2,?_];let Y:Off (· = ch) H (upd H2 s'.dd (.dK (ky s'.D))):=λa u e z=>by
   cases y:a=s'.dd
   .rw[y,ag, <-am, <-y,e]
   .rw[au y];show U _ _ (o1 _ _ e y) z
  let Z:aH H (upd H2 s'.dd (.dK (ky s'.D))):=λa u e=>Y a u e λz=>(by rwa[z,ac]at e);let h3:upd H2 s'.dd (.dK (ky s'.D)) ch=some (.dK (ky (s'.D.filter (qe s')))):=(by rw[au ad];show h2);let f3:∀{a},upd H2 s'.dd (.dK (ky s'.D)) a=none->H a=none:=λ{a} e=>by
   cases q:H a with
   |none=>rfl
   |some u=>rwa[Z _ _ q]at e
  generalize upd H2 s'.dd (.dK (ky s'.D))=H3 at *;clear h2 U Y o1 c2 d2 nl ar free c1 s1;intro G a6;let f4:=f3 a6;let s4:=ah (X:=.dK []) a6;let bc:G≠b.dr:=λe=>(by rwa[e,L]at f4);show#[0,b.dr,c.CD,dx,0,s4 _ _ (Z _ _ L),T.cl,T.nD,Iq kd,?_];rw[Mb kd];let o5:Off (· = b.dr) H (upd (upd H3 G (.dK [])) b.dr (.ins c.CD dx (f2 "disk" "drafted" (.ref b.p) (.ref G)))):=λa u e z=>(by rw[au z];show s4 _ _ (Z _ _ e));let ba:ch≠b.dr:=λe=>(by rwa[e,L]at ac);let h5:upd (upd H3 G (.dK [])) b.dr (.ins c.CD dx (f2 "disk" "drafted" (.ref b.p) (.ref G))) ch=some (.dK (ky (s'.D.filter (qe s')))):=(by rw[au ba];show s4 _ _ h3);let e5:upd (upd H3 G (.dK [])) b.dr (.ins c.CD dx (f2 "disk" "drafted" (.ref b.p) (.ref G))) G=some (.dK []):=(by rw[au bc,ag]);let r5:upd (upd H3 G (.dK [])) b.dr (.ins c.CD dx (f2 "disk" "drafted" (.ref b.p) (.ref G))) b.dr=some (.ins c.CD dx (f2 "disk" "drafted" (.ref b.p) (.ref G))):=ag;generalize upd (upd H3 G (.dK [])) b.dr (.ins c.CD dx (f2 "disk" "drafted" (.ref b.p) (.ref G)))=H5 at *;let nr:∀{a xs},H a=some (.lst xs)->a≠b.dr:=λe z=>(by rwa[z,L]at e);let#[ao,ab]:=D.ob;let a5:b.p≠b.dr:=λz=>by
   rw[z,L]at ab;simp only[UB,HO.ins.injEq]at ab;have:=ab.2.2;rwa[iU kd,dJ]at this
  let D5:bt c.C H5 b.p b.bl d .a7 false s'.cs s'.bs:=#[#[ao,o5 _ _ ab a5],o5 _ _ D.hb (nr D.hb),gi D.hc λa _ ns q=>#[o5 _ _ q.1 (nr q.1),q.2]];let a4:∀(a0:qAc)(a1:List (List Int)),(∀y∈a0,y∈s'.cs\/H y=none)->∀a,iA b #[G,a0,a1,[]] a->iA b s' a\/H a=none:=λa0 a1 hc a z=>by
   rcases z with z|z|z|z|z|⟨x,I,z⟩
   .show .inl (.inl z)
   .show .inl (.inr (.inl z))
   .show .inl (.inr (.inr (.inl z)))
   .show .inr (by rw[z];show f4)
   .show(hc a z).imp (λy=>.inr (.inr (.inr (.inr (.inl y))))) id
   .cases I
  let ap:∀{α:Type}{p:Int×α->Prop},∀x∈([]:List (Int×α)),p x:=λx I=>(by cases I);dsimp only;show yG λQQ ji je=>?_;show#[0,ch,0,h5,_,0,rfl,0,?_];let lk:(ky (s'.D.filter (qe s'))).length=(s'.D.filter (qe s')).length:=(by unfold ky dk;rw[rz]);cases z:(0:Int)<((ky (s'.D.filter (qe s'))).length:Int)
  .rw[decide_eq_true z];show ji _ ?_;show#[0,b.dr,c.CD,dx,_,.ref b.p,rfl,r5,T.cl,T.nK,bT kd,0,b.p,b.bl,ch,d,s'.cs,s'.bs,s'.D.filter (qe s'),rfl,D5,by have:=B.ln;omega,B.ln.2,#[h5,λx I=>?_,?_,λx I=>B.rg x (Ue.mp I).1,af,ld],λH6 d6 bd as D6 l6 e6 z6 c6 o6=>?_]
   .let q:=B.hr x (Ue.mp I).1;show#[o5 _ _ q.1 (nr q.1),q.2]
   .show XM ((Zj).map _) B.nd
   .let bb:∀{a u},H5 a=some u->(∀C dx fs,u≠.ins C dx fs)->(∀xs,u≠.lst xs)->H6 a=some u:=λ{a u} e n1 n2=>o6 _ _ e λy=>by
     rcases y with y|y
     .rw[y]at e;let#[_,q]:=D5.ob;rw[q]at e;show n1 _ _ _ (SN e).symm
     .rw[y,D5.hb]at e;show n2 _ (SN e).symm
    let f5:∀{a},H5 a=none->H a=none:=λ{a} e=>by
     cases q:H a with
     |none=>rfl
     |some u =>
      cases y:a=b.dr
      .rw[y,r5]at e;cases e
      .rw[o5 _ _ q y]at e;cases e
    show k H6 #[G,bd,as,[]] #[#[dx,o6 _ _ r5 λy=>?_],#[d6,D6],bb e5 nofun nofun,ap,.nil,ap,by change 48<=as.length/\_;rw[l6];show B.ln,z6] rfl (λj hj=>?_) l6 #[λa u e y=>?_,a4 _ _ λy hy=>(c6 y hy).imp id f5]
    .rcases y with y|y
     .show a5 y.symm
     .show nr D.hb y.symm
    .let q:=e6 j.toNat af;rw[Xh af,tM B.nd]at q;change((look ([]:Ei) j).map (·.2)).or as[j.toNat]?=_;rw[kG,map_none,none_or,q];unfold lb;cases e:look s'.D j with
     |none=>rfl
     |some x =>
      rw[Xr];cases y:qe s' (j,x)=true
      .rw[aa3 y]
      .rw[aa2 y,map_none,none_or,Z3,some_or];show Z8.mp λw=>y (decide_eq_true w)
    .show o6 _ _ (o5 _ _ e λw=>y (.inl w)) λw=>y ?_;rcases w with w|w
     .show .inr (.inl w)
     .show .inr (.inr (.inl w))
  .rw[decide_eq_false z];show je _ ?_;show k H5 #[G,s'.cs,s'.bs,[]] #[#[dx,r5],#[d,D5],e5,ap,.nil,ap,B.ln,B.z0] rfl (λj hj=>?_) rfl #[λa u e y=>o5 _ _ e λw=>y (.inl w),a4 _ _ λy hy=>.inl hy];change((look ([]:Ei) j).map (·.2)).or s'.bs[j.toNat]?=_;unfold lb;rw[kG,map_none,none_or];cases e:look s'.D j with
   |none=>rfl
   |some x =>
    rw[Z3,some_or];show Z8.mp λw=>?_;let m:(j,x)∈s'.D.filter (qe s'):=Ue.mpr #[fz e,decide_eq_true w];have:=List.length_pos_of_mem m;omega
end Fs
namespace L2
open PySem PySem.Spec PyProof.Rows
theorem de{X:Cx}{x:Str}{v:V}{pos:Vw}(h:∃u,X.mg x=some u/\RelV v u)(F:%[Gl X x|0])(hd:%[(x==("__debug__" : Str))=false|0]):PE X (.Name x pos) (tC v):=by
 let#[u,m,r]:=h;show gv F m r hd
theorem dC.up{a:Addr}{xs:qAh}(h:dC K (λ_=>none) a xs)(H:Hp):dC K H a xs:=by
 rcases h with h|h
 .rcases h with h|⟨_,h⟩<;>cases h
 .show .inr h
variable{ws:qAa}{s:Nat}
theorem ni{n:Nat}:dg (ws.map V.int) (some (s:Int)) (some ((s:Int)+(n:Int)))=((ws.drop s).take n).map V.int:=by
 unfold dg;rw[show((s:Int)+(n:Int))=((s+n:Nat):Int)by omega,HT.ja,HT.ja,rz, <-map_drop, <-Z7];show congrArg (Y0 V.int) ?_;cases h:s<=ws.length
 .rw[Wo h];cases h2:s+n<=ws.length
  .rw[Wo h2,Nat.add_sub_cancel_left]
  .rw[Wz af,OR (by rw[Tu];omega),OR (by rw[Tu];omega)]
 .rw[Wz (show ws.length<=s by omega),Uk (G0 _),Uk (show ws.length<=s by omega),Y7,Y7]
theorem ie:dg (ws.map V.int) none (some (s:Int))=(ws.take s).map V.int:=by
 unfold dg;rw[HT.ja,HT.jX,VG,Nat.sub_zero,rz, <-Z7];show congrArg (Y0 V.int) ?_;cases h:s<=ws.length
 .rw[Wo h]
 .rw[Wz af,OR (G0 _),OR af]
theorem hG:dg (ws.map V.int) (some (s:Int)) none=(ws.drop s).map V.int:=by
 unfold dg;rw[HT.ja,HT.jX,rz, <-map_drop, <-Z7];show congrArg (Y0 V.int) ?_;cases h:s<=ws.length
 .rw[Wo h,OR (by rw[Tu];omega)]
 .rw[Wz af,Uk (G0 _),Uk af,Y7]
end L2
namespace Fs
open PySem L2 Dk Tb
structure Node where
 dir:Bool
 ln:Int
 cs:List Int
abbrev NS:=Int->Option Node
noncomputable def fill(xs:qAa)(m:Nat):List Int:=xs++IF (m-xs.length) 0
noncomputable def rb(n:Int):Int:=28+8*n/16
noncomputable def rs(n:Int):Nat:=(8*n%16).toNat
structure kH(K:SU)(mg:qa3)(CN:Addr):Prop where
 cl:mZ K CN
 nD:cC K CN "draft"
 nT:cC K CN "total"
 cj:∃u,mg "BLOCK_NUMBERS" = some u/\RelV (.int 16) u
 mf:∃u,mg "NODES" = some u/\RelV (.int 24) u
 wH:∃u,mg "FIRST_ROWS" = some u/\RelV (.int 28) u
 f9:∃u,mg "FIRST_CONTENTS" = some u/\RelV (.int 48) u
 du:∃u,mg "ROW_NUMBERS" = some u/\RelV (.int 8) u
 fb:∃u,mg "ROW_BLOCKS" = some u/\RelV (.int 5) u
 eL:∃u,mg "NEAR_BLOCKS" = some u/\RelV (.int 4) u
 Hs:∃a,(∃u,mg "KINDS" = some u/\RelV (.ref a) u)/\dC K (λ_=>none) a [.a7,.str "file",.str "dir"]
 KT:∀a,(∃u,mg "KINDS" = some u/\RelV (.ref a) u)->∃o,K.lookup a=some o/\o.cls=.type "tuple" /\ o.dict=none
 len:mg "len" = none
 range:mg "range" = none
 enumerate:mg "enumerate" = none
theorem kn:¬ (("draft" : Str) = "total"):=av
structure NO(c:DA)(CN:Addr)(H:Hp)(a:Addr)(b:BA)(s:BS)(tot:Nat):Prop where
 ob:∃dx,H a=some (.ins CN dx (f2 "draft" "total" (.ref b.dr) (.int tot)))
 B:sk c H b s
 tt:s.bs.length=48+tot
variable{c:DA}{CN:Addr}{H H':Hp}{s:BS}{tot:Nat}
theorem NO.same{a:Addr}{b:BA}(A:NO c CN H a b s tot)(o:aH H H'):NO c CN H' a b s tot:=by
 let#[dx,h]:=A.ob;show#[#[dx,o _ _ h],A.B.same o,A.tt]
variable{n:Int}
theorem nP(F:0<=n)(h1:n<24):28<=rb n/\rb n<40/\rs n+8<=16:=by unfold rb rs;omega
inductive F7(v:qAh)(H:Hp)(Q:VK)(e:XK):Prop
 |mk(a:Addr)(n:Int)(_:v=[.ref a,.int n])(_:Q (.int (rb n)) H)
inductive gq(c:DA)(CN:Addr)(v:qAh)(H:Hp)(Q:VK)(e:XK):Prop
 |mk(a:Addr)(b:BA)(s:BS)(tot:Nat)(n:Int)(r:qAa)(_:v=[.ref a,.int n])(_:NO c CN H a b s tot)(_:0<=n)(_:n<24)(_:lb s (rb n)=some r)(_:∀(H':Hp)(l:Addr),aH H H'->H l=none->H' l=some (.lst (((r.drop (rs n)).take 8).map V.int))->Q (.ref l) H')
inductive jM(v:qAh)(H:Hp)(Q:VK)(e:XK):Prop
 |mk(l:Addr)(xs:qAa)(m:Nat)(_:v=[.ref l,.int m])(_:H l=some (.lst (xs.map V.int)))(_:m<=1000)(_:xs.length<=1000)(_:∀(H':Hp)(q:Addr),aH H H'->H q=none->H' q=some (.lst ((fill xs m).map V.int))->Q (.ref q) H')
noncomputable def iC(r row:qAa)(st:Nat):List Int:=r.take st++row++r.drop (st+8)
theorem QS{p:Prop}[Decidable p]{a b:Nat}(h:a<=b+(if p then 0 else 1)):a<=b+1:=Td h (by split<;>omega)
inductive gU(c:DA)(CN:Addr)(v:qAh)(H:Hp)(Q:VK)(e:XK):Prop
 |mk(a:Addr)(b:BA)(s:BS)(tot:Nat)(n k ln sz:Int)(l:Addr)(xs r:qAa)(_:v=[.ref a,.int n,.int k,.int ln,.int sz,.ref l])(_:NO c CN H a b s tot)(_:0<=n)(_:n<24)(_:lb s (rb n)=some r)(_:H l=some (.lst (xs.map V.int)))(_:xs.length<=5)(_:∀(H':Hp)(s':BS),NO c CN H' a b s' tot->(∀j,lb s' j=if j=rb n then some (iC r ([k,ln,sz]++fill xs 5) (rs n))else lb s j)->dn s'<=dn s+(if lb s (rb n)=some (iC r ([k,ln,sz]++fill xs 5) (rs n))then 0 else 1)->cW b s H s' H'->Q .a7 H')
abbrev Rm:Tg:=inClass (top 42) 12
abbrev Qt:Tg:=inClass (top 42) 10
abbrev Qb:Tg:=inClass (top 42) 11
abbrev PY:Tg:=top 41
theorem Qi:ax ["self","n"] ["self","n"] (ak Rm):=L2.a8
theorem Gx(F:bM K "block_of_row" "Nodes.block_of_row" Rm f fd)(T:kH K mg CN):↥aM 1 f fd ["self","n"] F7:=by
 show F.cU Qi ?_;intros;let#[a,n,rfl,k]:=h;show#[_,(aq (aG (aJ bU (de T.wH) (aJ jk (aJ fH (de T.du) (pv 1)) (de T.cj))))),?_];show#[0,_,0,rfl,.inl #[az,az],_,0,rfl,#[az,az],_,0,rfl,k]
theorem PU:ax ["numbers","many"] ["numbers","many"] (ak PY):=L2.a8
theorem FY(F:bM K "filled" "filled" PY f fd)(T:kH K mg CN):↥aM 1 f fd ["numbers","many"] jM:=by
 show F.cU PU ?_;intros;let#[l,xs,m,rfl,Z,hm,hx,k]:=h;let hs:=y1;show#[_,(aq (aG (aJ cE (pv 0) (aJ iM (bq (aa ai ae)) (aJ dQ (pv 1) (aC aO (by rfl) T.len T7 (aa (pv 0) ae))))))),?_];show#[0,az,λL h1=>?_];let s1:=ah (X:=.lst [V.int 0]) h1;show#[0,0,l,0,.inl (aW.of (s1 _ _ Z)),_,0,rfl,L,_,0,rfl,ag,4,?_,λG h2=>?_]
 .rw[rz];omega
 .rw[rz];omega
 .rw[rz,Tj];omega
 let e:((m:Int)-((xs.map V.int).length:Nat)).toNat=m-xs.length:=(by rw[rz];omega);rw[rep1,e];let I:=s1.trans (ah (X:=.lst (IF (m-xs.length) (V.int 0))) h2);let e2:upd (upd H L (.lst [V.int 0])) G (.lst (IF (m-xs.length) (V.int 0))) G=some (.lst (IF (m-xs.length) (V.int 0))):=ag;generalize upd (upd H L (.lst [V.int 0])) G (.lst (IF (m-xs.length) (V.int 0)))=H2 at *;show#[l,G,_,0,rfl,I _ _ Z,e2,by rw[rz,Uh];omega,λU Y=>?_];let f3:H U=none:=by
  cases q:H U with
  |none=>rfl
  |some u=>rwa[I _ _ q]at Y
 show k _ U (I.trans (ah Y)) f3 ?_;rw[ag];unfold fill;rw[K4,V6]
theorem LX:ax ["self","n","start"] ["self","n"] (ak Qt):=L2.a8
theorem DE(F:bM K "row_of" "Nodes.row_of" Qt f fd)(T:kH K mg CN)(TD:Bt K mg c)(GB:↥Md 1 CN "block_of_row" F7)(GD:↥Md 3 c.CD "read" (i5 c)):↥aM 4 f fd ["self","n"] (gq c CN):=by
 show F.cU LX ?_;intros;let#[a,b,s',tot,n,r,rfl,N,n0,Y,Z,k]:=h;let#[dx,L]:=N.ob;let#[ab,h2]:=N.B.ob;let rg:=nP n0 Y;let ln:=N.B.ln;show#[_,(aj (cL 2 LX.nd (aJ eY (aJ fH (de T.du) (pv 1)) (de T.cj)))
  (aq (aG (bw bK (pm (aE (pv 0) rfl) TD.cl GD hr ay (aa (pm (pv 0) T.cl GB hr ay (aa (pv 1) ae)) ae)) (bA (pv 2)) (bA (aJ bU (pv 2) (de T.du))))))),?_]
 show#[0,_,0,rfl,.inl #[az,az],_,0,rfl,(qAk 15),?_];show#[0,a,CN,dx,_,.ref b.dr,rfl,L,T.cl,T.nD,bT kn,b.dr,ab,0,h2,a9 av av,0,a,dx,0,L,a9 av av,0,a,n,rfl,b,s',rb n,r,rfl,N.B,af,Z,af,λH1 l I fl e1=>?_];show#[0,8*n%16,rfl,0,_,0,rfl,8*n%16+8,rfl,l,0,aW.of e1,λq G=>?_];let ec:dg (r.map V.int) (some (8*n%16)) (some (8*n%16+8))=((r.drop (rs n)).take 8).map V.int:=by
  have:8*n%16=((rs n:Nat):Int):=(by unfold rs;omega);rw[this];show ni (n:=8)
 rw[ec];let U:H q=none:=by
  cases e:H q with
  |none=>rfl
  |some u=>rwa[I _ _ e]at G
 show k _ q (I.trans (ah G)) U ag
theorem aX(s:aH H H'){a:Addr}(h:H' a=none):H a=none:=by
 cases e:H a with
 |none=>rfl
 |some u=>rwa[s _ _ e]at h
theorem cQ{xs:qAa}{m:Nat}(h:xs.length<=m):(fill xs m).length=m:=by
 unfold fill;rw[wh,Uh];omega
variable{r row:qAa}{st:Nat}
theorem DT(h1:r.length=16)(h2:row.length=8)(F:st+8<=16):(iC r row st).length=16:=by
 unfold iC;rw[wh,wh,HC,Tu];omega
theorem cW.pre{b:BA}{s':BS}{H1:Hp}(o:aH H H1)(st:cW b s H1 s' H'):cW b s H s' H':=#[λa u e z=>st.1 a u (o _ _ e) z,λa z=>(st.2 a z).imp id (aX o)]
inductive sS(c:DA)(CN:Addr)(vs:qAh)(H:Hp)(Q:VK)(e:XK):Prop
 |mk(a:Addr)(b:BA)(s:BS)(tot:Nat)(n:Int)(_:vs=[.ref a,.int n])(_:NO c CN H a b s tot)(_:(n<0\/24<=n->Q .a7 H))(_:(0<=n->n<24->∃(r:qAa)(k:Int)(v:V),lb s (rb n)=some r/\r[rs n]?=some k/\0<=k/\k<3/\[V.a7,.str "file",.str "dir"][k.toNat]?=some v/\∀H',aH H H'->Q v H'))
inductive jz(i:Nat)(c:DA)(CN:Addr)(v:qAh)(H:Hp)(Q:VK)(e:XK):Prop
 |mk(a:Addr)(b:BA)(s:BS)(tot:Nat)(n:Int)(r:qAa)(k:Int)(_:v=[.ref a,.int n])(_:NO c CN H a b s tot)(_:0<=n)(_:n<24)(_:lb s (rb n)=some r)(_:r[rs n+i]?=some k)(_:∀H',aH H H'->Q (.int k) H')
inductive jF(c:DA)(CN:Addr)(v:qAh)(H:Hp)(Q:VK)(e:XK):Prop
 |mk(a:Addr)(b:BA)(s:BS)(tot:Nat)(n:Int)(r:qAa)(_:v=[.ref a,.int n])(_:NO c CN H a b s tot)(_:0<=n)(_:n<24)(_:lb s (rb n)=some r)(_:∀(H':Hp)(s':BS),NO c CN H' a b s' tot->(∀j,lb s' j=if j=rb n then some (iC r (IF 8 0) (rs n))else lb s j)->dn s'<=dn s+(if lb s (rb n)=some (iC r (IF 8 0) (rs n))then 0 else 1)->cW b s H s' H'->Q .a7 H')
inductive sQ(c:DA)(CN:Addr)(v:qAh)(H:Hp)(Q:VK)(e:XK):Prop
 |mk(a:Addr)(b:BA)(s:BS)(tot:Nat)(n m:Int)(r:qAa)(k l z:Int)(xs:qAa)(_:v=[.ref a,.int n,.int m])(_:NO c CN H a b s tot)(_:0<=n)(_:n<24)(_:lb s (rb n)=some r)(_:(r.drop (rs n)).take 8=[k,l,z]++xs)(_:xs.length=5)(_:∀(H':Hp)(s':BS),NO c CN H' a b s' tot->(∀j,lb s' j=if j=rb n then some (iC r ([k,m,z]++xs) (rs n))else lb s j)->dn s'<=dn s+1->cW b s H s' H'->Q .a7 H')
abbrev O0:Tg:=inClass (top 42) 1
abbrev Qf:Tg:=inClass (top 42) 2
abbrev RK:Tg:=inClass (top 42) 3
abbrev P5:Tg:=inClass (top 42) 6
abbrev OI:Tg:=inClass (top 42) 7
theorem wR{i:Nat}{k:Int}(h:r[st+i]?=some k)(hi:i<8):js (((r.drop st).take 8).map V.int) (i:Int)=some (.int k):=aD (by
 rw[M4,UC,aa3 hi,UP,h];rfl)
theorem Fu:ax ["self","n","kind","links","size","blocks","start","rows","row"] ["self","n","kind","links","size","blocks"] (ak Qb):=L2.a8
theorem Ai(F:bM K "put_row" "Nodes.put_row" Qb f fd)(T:kH K mg CN)(TD:Bt K mg c)(GB:↥Md 1 CN "block_of_row" F7)(GD:↥Md 3 c.CD "read" (i5 c))(GW:↥Md 1 c.CD "write" (jU K c))(GF:↥Df 1 "filled" jM):↥aM 4 f fd ["self","n","kind","links","size","blocks"] (gU c CN):=by
 show F.cU Fu ?_;intros;let#[a,b,s',tot,n,G,ln,sz,l,xs,r,rfl,N,n0,n1,hl,hx,lx,k]:=h;let#[dx,L]:=N.ob;let#[ac,h2]:=N.B.ob;let rg:=nP n0 n1;let bl:=N.B.ln;let hs:=y1;let lr:=N.B.row hl;let e8:8*n%16=((rs n:Nat):Int):=(by unfold rs;omega);show#[_,(aj (cL 6 Fu.nd (aJ eY (aJ fH (de T.du) (pv 1)) (de T.cj)))
  (aj (cL 7 Fu.nd (pm (aE (pv 0) rfl) TD.cl GD hr ay (aa (pm (pv 0) T.cl GB hr ay (aa (pv 1) ae)) ae)))
  (aj (cL 8 Fu.nd (aJ cE (bq (aa (pv 2) (aa (pv 3) (aa (pv 4) ae)))) (pc GF hr ay (aa (pv 5) (aa (de T.fb) ae)))))
  (aq (aR (pm (aE (pv 0) rfl) TD.cl GW hr ay (aa (pm (pv 0) T.cl GB hr ay (aa (pv 1) ae)) (aa (aJ cE (aJ cE (bw bK (pv 7) b8 (bA (pv 6))) (pv 8)) (bw bK (pv 7) (bA (aJ bU (pv 6) (de T.du))) b8)) ae)))))))),?_]
 show gz λ_ I=>?_;show#[0,_,0,rfl,.inl #[az,az],_,0,rfl,(qAk 15),I _ _ ?_];clear I;show gz λ_ I=>?_;show#[0,a,CN,dx,_,.ref b.dr,rfl,L,T.cl,T.nD,bT kn,b.dr,ac,0,h2,a9 av av,0,a,dx,0,L,a9 av av,0,a,n,rfl,b,s',rb n,r,rfl,N.B,af,hl,af,λH1 l1 s1 f1 e1=>I _ _ ?_];clear I;show gz λ_ I=>?_;show#[0,0,0,Q2,λl2 ab=>?_];let s2:=s1.trans (ah (X:=.lst [V.int G,V.int ln,V.int sz]) ab);let e2:upd H1 l2 (.lst [V.int G,V.int ln,V.int sz]) l2=some (.lst ([G,ln,sz].map V.int)):=ag;let d2:=ah (X:=.lst [V.int G,V.int ln,V.int sz]) ab _ _ e1;generalize upd H1 l2 (.lst [V.int G,V.int ln,V.int sz])=H2 at *;show#[0,l,xs,(5),rfl,s2 _ _ hx,az,af,λH3 l3 s3 f3 e3=>?_];show#[l2,l3,_,0,rfl,s3 _ _ e2,e3,by rw[rz,rz,cQ lx];change 3+5<=sizeLine;omega,λZ f4=>I _ _ ?_];clear I;rw[<-K4];let U:=(s2.trans s3).trans (ah (X:=.lst (([G,ln,sz]++fill xs 5).map V.int)) f4);let e4:upd H3 Z (.lst (([G,ln,sz]++fill xs 5).map V.int)) Z=some (.lst (([G,ln,sz]++fill xs 5).map V.int)):=ag;let d4:=(ah (X:=.lst (([G,ln,sz]++fill xs 5).map V.int)) f4) _ _ (s3 _ _ d2);let am:([G,ln,sz]++fill xs 5).length=8:=(by rw[wh,cQ lx];rfl);generalize upd H3 Z (.lst (([G,ln,sz]++fill xs 5).map V.int))=H4 at *;generalize [G,ln,sz]++fill xs 5=row at *;let N4:=N.same U;dsimp only;show uW λQQ I=>?_;show#[0,a,CN,dx,_,.ref b.dr,rfl,U _ _ L,T.cl,T.nD,bT kn,b.dr,ac,0,U _ _ h2,a9 av av,0,a,dx,0,U _ _ L,a9 av av,0,a,n,3];show#[0,0,8*n%16,rfl,l1,0,aW.of d4,λl5 f5=>?_];rw[show dg (r.map V.int) none (some (8*n%16))=(r.take (rs n)).map V.int by rw[e8];show ie];let s5:=ah (X:=.lst ((r.take (rs n)).map V.int)) f5;let e5:upd H4 l5 (.lst ((r.take (rs n)).map V.int)) l5=some (.lst ((r.take (rs n)).map V.int)):=ag;generalize upd H4 l5 (.lst ((r.take (rs n)).map V.int))=H5 at *;show#[0,l5,Z,_,0,rfl,e5,s5 _ _ e4,by rw[rz,rz,HC];omega,λl6 f6=>?_];rw[<-K4];let s6:=ah (X:=.lst ((r.take (rs n)++row).map V.int)) f6;let e6:upd H5 l6 (.lst ((r.take (rs n)++row).map V.int)) l6=some (.lst ((r.take (rs n)++row).map V.int)):=ag;generalize upd H5 l6 (.lst ((r.take (rs n)++row).map V.int))=H6 at *;show#[0,0,_,0,rfl,8*n%16+8,rfl,l1,0,aW.of (s6 _ _ (s5 _ _ d4)),λY f7=>?_];rw[show dg (r.map V.int) (some (8*n%16+8)) none=(r.drop (rs n+8)).map V.int by
  rw[e8,show((rs n:Nat):Int)+8=((rs n+8:Nat):Int)by omega];show hG]
 let s7:=ah (X:=.lst ((r.drop (rs n+8)).map V.int)) f7;let e7:upd H6 Y (.lst ((r.drop (rs n+8)).map V.int)) Y=some (.lst ((r.drop (rs n+8)).map V.int)):=ag;generalize upd H6 Y (.lst ((r.drop (rs n+8)).map V.int))=H7 at *;show#[l6,Y,_,0,rfl,s7 _ _ e6,e7,by rw[rz,rz,wh,HC,Tu];omega,λl8 f8=>?_];rw[<-K4];let S8:=(((U.trans s5).trans s6).trans s7).trans (ah (X:=.lst ((r.take (rs n)++row++r.drop (rs n+8)).map V.int)) f8);let e9:upd H7 l8 (.lst ((r.take (rs n)++row++r.drop (rs n+8)).map V.int)) l8=some (.lst ((iC r row (rs n)).map V.int)):=ag;generalize upd H7 l8 (.lst ((r.take (rs n)++row++r.drop (rs n+8)).map V.int))=H8 at *;show#[b,s',rb n,l8,iC r row (rs n),rfl,(N.same S8).B,af,af,aW.of e9,DT lr am rg.2.2,λH9 D9 B9 g9 _ o9 ad ao=>I _ _ ?_];let na:a≠s'.dd:=λe=>(by have:=N.B.hd;rwa[<-e,L]at this);show k H9 _ #[#[dx,o9 _ _ (S8 _ _ L) na],B9,N.tt] g9 ao (ad.pre S8)
theorem Pm:ax ["self","n"] ["self","n"] (ak O0):=L2.a8
theorem zN(F:bM K "kind_of" "Nodes.kind_of" O0 f fd)(T:kH K mg CN)(Z:↥Md 4 CN "row_of" (gq c CN)):↥aM 5 f fd ["self","n"] (sS c CN):=by
 let#[aK,mK,hK]:=T.Hs;show F.cU Pm ?_;intros;let#[a,b,s',tot,n,rfl,N,G,U]:=h;let#[dx,ho]:=N.ob;show#[_,(aj (bP (PW.pt (n6 (aA oz (pv 1) ai (aI _)) (kU (aA DC (pv 1) (de T.mf) (aI _))))) (aq (aG cF)) bj)
  (aq (aG (aL bg (de mK) (aL aQ (pm (pv 0) T.cl Z hr ay (aa (pv 1) ae)) ai bZ) bZ)))),?_]
 show E6 λQQ L je=>?_;show#[0,_,0,rfl,0,?_];show c9 (λz=>L _ (G (.inl (of_decide_eq_true z)))) (λz=>?_);show#[0,_,0,rfl,0,?_];show Qs (λy=>L _ (G (.inr (of_decide_eq_true y)))) (λy=>je _ ?_);let n0:¬ n<0:=λw=>z (decide_eq_true w);let n1:¬ 24<=n:=λw=>y (decide_eq_true w);let#[r,I,v,Y,hk,k0,k1,hv,q]:=U af af;show#[0,a,dx,0,ho,a9 av av,0,a,b,s',tot,n,r,rfl,N,af,af,Y,λH1 l s1 f1 e1=>?_];show#[l,_,(0),.int I,1,aW.of e1,wR (i:=0) hk az,aK,_,I,v,1,hK.up _,?_,q _ s1];rw[<-Xh k0];show aD hv
theorem QL:ax ["self","n"] ["self","n"] (ak Qf):=L2.a8
theorem wF(F:bM K "links_of" "Nodes.links_of" Qf f fd)(T:kH K mg CN)(Y:↥Md 4 CN "row_of" (gq c CN)):↥aM 5 f fd ["self","n"] (jz 1 c CN):=by
 show F.cU QL ?_;intros;let#[a,b,s',tot,n,r,L,rfl,N,U,G,I,hk,k]:=h;let#[dx,ho]:=N.ob;show#[_,(aq (aG (aL aQ (pm (pv 0) T.cl Y hr ay (aa (pv 1) ae)) ai bZ))),?_];show#[0,a,dx,0,ho,a9 av av,0,a,b,s',tot,n,r,rfl,N,U,G,I,λH1 l s1 f1 Z=>#[l,_,(1),.int L,1,aW.of Z,wR (i:=1) hk az,k _ s1]]
theorem Qh:ax ["self","n"] ["self","n"] (ak RK):=L2.a8
theorem zg(F:bM K "size_of" "Nodes.size_of" RK f fd)(T:kH K mg CN)(Y:↥Md 4 CN "row_of" (gq c CN)):↥aM 5 f fd ["self","n"] (jz 2 c CN):=by
 show F.cU Qh ?_;intros;let#[a,b,s',tot,n,r,L,rfl,N,U,G,I,hk,k]:=h;let#[dx,ho]:=N.ob;show#[_,(aq (aG (aL aQ (pm (pv 0) T.cl Y hr ay (aa (pv 1) ae)) ai bZ))),?_];show#[0,a,dx,0,ho,a9 av av,0,a,b,s',tot,n,r,rfl,N,U,G,I,λH1 l s1 f1 Z=>#[l,_,(2),.int L,1,aW.of Z,wR (i:=2) hk az,k _ s1]]
theorem Q9:ax ["self","n"] ["self","n"] (ak P5):=L2.a8
theorem xb(F:bM K "end_node" "Nodes.end_node" P5 f fd)(T:kH K mg CN)(GP:↥Md 4 CN "put_row" (gU c CN)):↥aM 5 f fd ["self","n"] (jF c CN):=by
 show F.cU Q9 ?_;intros;let#[a,b,s',tot,n,r,rfl,N,n0,U,Z,k]:=h;let#[dx,ho]:=N.ob;show#[_,(aq (aR (pm (pv 0) T.cl GP hr ay (aa (pv 1) (aa ai (aa ai (aa ai (aa (bq ae) ae)))))))),?_];show#[0,a,dx,0,ho,a9 av av,0,az,λl L=>?_];let G:=ah (X:=.lst []) L;show#[a,b,s',tot,n,(0),(0),(0),l,[],r,rfl,N.same G,n0,U,Z,ag,az,λH' Y N2 g2 d2 I=>k H' Y N2 g2 d2 (I.pre G)]
theorem LL:ax ["self","n","links","row"] ["self","n","links"] (ak OI):=L2.a8
theorem tO(F:bM K "put_links" "Nodes.put_links" OI f fd)(T:kH K mg CN)(GO:↥Md 4 CN "row_of" (gq c CN))(GP:↥Md 4 CN "put_row" (gU c CN)):↥aM 5 f fd ["self","n","links"] (sQ c CN):=by
 show F.cU LL ?_;intros;let#[a,b,s',tot,n,m,r,G,L,z,xs,rfl,N,n0,Y,Z,ab,lx,k]:=h;let#[dx,ho]:=N.ob;show#[_,(aj (cL 3 LL.nd (pm (pv 0) T.cl GO hr ay (aa (pv 1) ae)))
  (aq (aR (pm (pv 0) T.cl GP hr ay (aa (pv 1) (aa (aL aQ (pv 3) ai bZ) (aa (pv 2) (aa (aL aQ (pv 3) ai bZ) (aa (bw bK (pv 3) (bA (aJ dQ (de T.du) (de T.fb))) b8) ae))))))))),?_]
 show gz λ_ U=>?_;show#[0,a,dx,0,ho,a9 av av,0,a,b,s',tot,n,r,rfl,N,n0,Y,Z,λH1 l s1 f1 I=>U _ _ ?_];clear U;rw[ab]at I;let i0:js (([G,L,z]++xs).map V.int) 0=some (.int G):=aD (j:=0) rfl;let i2:js (([G,L,z]++xs).map V.int) 2=some (.int z):=aD (j:=2) rfl;show#[0,a,dx,0,s1 _ _ ho,a9 av av,0,0,l,_,(0),.int G,1,aW.of I,i0,0,0,l,_,(2),.int z,1,aW.of I,i2,0,_,0,rfl,(3),rfl,l,0,aW.of I,λl2 ac=>?_];rw[show dg (([G,L,z]++xs).map V.int) (some 3) none=xs.map V.int from hG (s:=3)];let s2:=s1.trans (ah (X:=.lst (xs.map V.int)) ac);show#[a,b,s',tot,n,G,m,z,l2,xs,r,rfl,N.same s2,n0,Y,Z,ag,af,λH' s3 N3 g3 d3 ad=>k H' s3 N3 (λj=>?_) (QS d3) (ad.pre s2)];rw[g3 j,show fill xs 5=xs by unfold fill;rw[lx];show Tq _]
noncomputable def nb(k:Nat):Nat:=(k+15)/16
noncomputable def bf(k:Nat):Nat:=if 4<nb k then nb k+1 else nb k
noncomputable def cb(b:qAa):List Int:=b.take 4++b.drop 5
noncomputable def ch(cs:qAa)(k:Nat):List Int:=fill ((cs.drop (16*k)).take 16) 16
theorem oO(cs:qAa)(k:Nat):(ch cs k).length=16:=cQ (by rw[HC];omega)
theorem Fv(cs:qAa)(k:Nat):ch cs (k+1)=ch (cs.drop 16) k:=by unfold ch;rw[Zd,show 16*(k+1)=16+16*k by omega]
theorem Sg:∀(m:Nat)(cs:qAa),cs.length<=16*m->(((TM m).map (ch cs)).flatten).take cs.length=cs
 |0,cs,h=>by
  have:cs=[]:=Vv af;subst this;rfl
 |m+1,cs,h=>by
  rw[Yv,T8,VM,Vf];let e:(ch cs∘Nat.succ)=ch (cs.drop 16):=funext λk=>Fv cs k;rw[e,Vk,oO];let G:(ch cs 0)=fill (cs.take 16) 16:=rfl;cases z:cs.length<=16
  .rw[show cs.length-16=0 by omega,UU,Tq,G,OR z];unfold fill;rw[Vk,OR (G0 _),V7,UU,Tq]
  .let F:=Sg m (cs.drop 16) (by rw[Tu];omega);rw[Tu]at F;rw[F,OR (by rw[oO];omega),G];unfold fill;rw[HC,show 16-min 16 cs.length=0 by omega,Zk,Tq,TR]
theorem xJ(cs:qAa):∀i,(((TM i).map (ch cs)).flatten).length=16*i
 |0=>rfl
 |i+1=>by
  rw[VQ,K4,VR,wh,xJ cs i];change _+((ch cs i)++[]).length=_;rw[Tq,oO];omega
variable{b:qAa}{k:Nat}
theorem BH(h:b.length=bf k):(cb b).length=nb k:=by
 unfold cb bf at *;rw[wh,HC,Tu];split at h<;>omega
noncomputable def rY(x:Option Node)(b:qAa):List Int:=match x with
 |none=>IF 8 0
 |some n=>[if n.dir=true then 2 else 1,n.ln,(n.cs.length:Int)]++fill (b.take 5) 5
noncomputable def BM(x:Option Node):Nat:=match x with
 |none=>0
 |some n=>bf n.cs.length
structure Rep(lb:Int->Option (List Int))(tot:Nat)(N:NS)(bk:qa4):Prop where
 row:∀n,0<=n->n<24->∃r,lb (rb n)=some r/\(r.drop (rs n)).take 8=rY (N n) (bk n)
 len:∀n,(bk n).length=BM (N n)
 Ob:∀(n x:Int),(bk n)[4]?=some x->lb x=some (fill ((bk n).drop 5) 16)
 NT:∀n nd,N n=some nd->∀(k:Nat)(x:Int),(cb (bk n))[k]?=some x->lb x=some (ch nd.cs k)
 rg:∀n x,x∈bk n->48<=x/\x<48+tot
 Eg:∀(n m:Int)(i j:Nat)(x:Int),(bk n)[i]?=some x->(bk m)[j]?=some x->n=m/\i=j
 use:∀n nd,N n=some nd->0<=n/\n<24
 uS:∀n nd,N n=some nd->nd.cs.length<=320
structure NR(c:DA)(CN:Addr)(H:Hp)(a:Addr)(b:BA)(s:BS)(tot:Nat)(N:NS)(bk:qa4)(d:Nat):Prop where
 O:NO c CN H a b s tot
 R:Rep (lb s) tot N bk
 d:dn s<=d
section
variable{c:DA}{CN a:Addr}{H H':Hp}{b:BA}{s s':BS}{tot d:Nat}{N:NS}{bk:qa4}{lb:Int->Option (List Int)}{n:Int}{nd:Node}
theorem NR.same(A:NR c CN H a b s tot N bk d)(o:aH H H'):NR c CN H' a b s tot N bk d:=#[A.O.same o,A.R,A.d]
theorem Ho(h:k<=320):bf k<=21:=by unfold bf nb;split<;>omega
theorem Rep.le(R:Rep lb tot N bk)(n:Int):(bk n).length<=21:=by
 rw[R.len];unfold BM;cases e:N n with
 |none=>show Tp _
 |some nd=>show Ho (R.uS n nd e)
theorem jb(nd:Node)(b:qAa):rY (some nd) b=[if nd.dir=true then 2 else 1,nd.ln,(nd.cs.length:Int)]++fill (b.take 5) 5:=rfl
theorem Gn(x:Option Node){b:qAa}(h:x=none->b=[]):∃k l,rY x b=[k,l,(match x with|none=>0|some n=>(n.cs.length:Int))]++fill (b.take 5) 5:=by
 cases x with
 |none=>rw[h rfl];show#[(0),(0),rfl]
 |some n=>show#[_,0]
theorem Rep.none(R:Rep lb tot N bk)(h:N n=none):bk n=[]:=by
 have:=R.len n;rw[h]at this;show Vv this
end
inductive zM(v:qAh)(H:Hp)(Q:VK)(e:XK):Prop
 |mk(k:Nat)(_:v=[.int k])(_:Q (.int (bf k)) H)
inductive G9(v:qAh)(H:Hp)(Q:VK)(e:XK):Prop
 |mk(a l:Addr)(b:qAa)(_:v=[.ref a,.ref l])(_:H l=some (.lst (b.map V.int)))(_:b.length<=1000)(_:∀(H':Hp)(q:Addr),aH H H'->H q=none->H' q=some (.lst ((cb b).map V.int))->Q (.ref q) H')
inductive DF(c:DA)(CN:Addr)(v:qAh)(H:Hp)(Q:VK)(e:XK):Prop
 |mk(a:Addr)(b:BA)(s:BS)(tot d:Nat)(N:NS)(bk:qa4)(n:Int)(_:v=[.ref a,.int n])(_:NR c CN H a b s tot N bk d)(_:0<=n)(_:n<24)(_:∀(H':Hp)(q:Addr),aH H H'->H q=none->H' q=some (.lst ((bk n).map V.int))->Q (.ref q) H')
inductive Kg(c:DA)(CN:Addr)(v:qAh)(H:Hp)(Q:VK)(e:XK):Prop
 |mk(a:Addr)(b:BA)(s:BS)(tot d:Nat)(N:NS)(bk:qa4)(n:Int)(nd:Node)(_:v=[.ref a,.int n])(_:NR c CN H a b s tot N bk d)(_:N n=some nd)(_:∀(H':Hp)(q:Addr),aH H H'->H q=none->H' q=some (.lst (nd.cs.map V.int))->Q (.ref q) H')
abbrev Rz:Tg:=top 38
abbrev Ro:Tg:=inClass (top 42) 14
abbrev PZ:Tg:=inClass (top 42) 13
abbrev Qr:Tg:=inClass (top 42) 4
theorem LC(G:4<b.length)(F:b.length<=21)(I:b.length≠5):(fill (b.take 5) 5++fill (b.drop 5) 16).take b.length=b:=by
 unfold fill;rw[HC,show 5-min 5 b.length=0 by omega,Zk,Tq, <-Te,TR,Vk,OR (G0 _),V7,UU,Tq]
theorem Ml(h:¬ 4<b.length):(fill (b.take 5) 5).take b.length=b:=by
 unfold fill;rw[OR (show b.length<=5 by omega),Vk,OR (G0 _),V7,UU,Tq]
theorem MB:ax ["size","begun"] ["size"] (ak Rz):=L2.a8
theorem tD(F:bM K "blocks_for" "blocks_for" Rz f fd)(T:kH K mg CN):↥aM 1 f fd ["size"] zM:=by
 show F.cU MB ?_;intros;let#[k,rfl,q]:=h;show#[_,(aj (cL 1 MB.nd (aJ jk (aJ dQ (aJ bU (pv 0) (de T.cj)) ai) (de T.cj)))
  (aq (aG (gh (aA jV (pv 1) (de T.eL) (aI _)) (aJ bU (pv 1) ai) (pv 1))))),?_]
 show gz λ_ G=>?_;show#[0,_,0,5,0,5,0,rfl,#[az,az],G _ _ ?_];let e:((k:Int)+16-1)/16=((nb k:Nat):Int):=(by unfold nb;omega);rw[e];clear G;show#[0,_,0,rfl,0,?_];unfold bf at q;cases z:4<nb k
 .rw[aa3 z]at q;rw[decide_eq_true (show(4:Int)<((nb k:Nat):Int)by omega)];show dt #[0,_,0,3];rw[show((nb k:Nat):Int)+1=((nb k+1:Nat):Int)by omega];show q
 .rw[aa2 z]at q;rw[decide_eq_false (show ¬ (4:Int)<((nb k:Nat):Int)by omega)];show ck #[0,q]
theorem Rw:ax ["self","blocks"] ["self","blocks"] (ak Ro):=L2.a8
theorem qd(F:bM K "cell_blocks" "Nodes.cell_blocks" Ro f fd)(T:kH K mg CN):↥aM 1 f fd ["self","blocks"] G9:=by
 show F.cU Rw ?_;intros;let#[a,l,b,rfl,L,lb,k]:=h;let hs:=y1;show#[_,(aq (aG (aJ cE (bw bK (pv 1) b8 (bA (de T.eL))) (bw bK (pv 1) (bA (de T.fb)) b8)))),?_];show#[0,(4),rfl,l,0,aW.of L,λZ f1=>?_];rw[show dg (b.map V.int) none (some 4)=(b.take 4).map V.int from ie (s:=4)];let Y:=ah (X:=.lst ((b.take 4).map V.int)) f1;show#[0,(5),rfl,l,0,aW.of (Y _ _ L),λq2 U=>?_];rw[show dg (b.map V.int) (some 5) none=(b.drop 5).map V.int from hG (s:=5)];let I:=Y.trans (ah (X:=.lst ((b.drop 5).map V.int)) U);show#[Z,q2,_,0,rfl,ah (X:=.lst ((b.drop 5).map V.int)) U _ _ ag,ag,by rw[rz,rz,HC,Tu];omega,λq3 G=>?_];rw[<-K4];show k _ q3 (I.trans (ah G)) (aX I G) ag
theorem DW:ax ["self","n","row","blocks","many"] ["self","n"] (ak PZ):=L2.a8
theorem tX(F:bM K "blocks_of" "Nodes.blocks_of" PZ f fd)(T:kH K mg CN)(TD:Bt K mg c)(GO:↥Md 4 CN "row_of" (gq c CN))(ap:↥Df 1 "blocks_for" zM)(GD:↥Md 3 c.CD "read" (i5 c)):↥aM 5 f fd ["self","n"] (DF c CN):=by
 show F.cU DW ?_;intros;let#[a,b,s',tot,d,N,bk,n,rfl,G,n0,Z,k]:=h;let hs:=y1;let#[r,hl,ac]:=G.R.row n n0 Z;let#[dx,ho]:=G.O.ob;let#[am,h2]:=G.O.B.ob;let#[kk,ll,er]:=Gn (N n) (b:=bk n) G.R.none;obtain⟨sz,ao,ad⟩:∃sz:Nat,(match N n with|none=>0|some x=>(x.cs.length:Int))=(sz:Int)/\(bk n).length=bf sz:=by
  have:=G.R.len n;unfold BM at this;cases e:N n with
  |none=>rw[e]at this;show#[(0),rfl,this]
  |some x=>rw[e]at this;show#[0,this]
 rw[ao]at er;rw[er]at ac;let ar:=G.R.le n;let l5:(fill ((bk n).take 5) 5).length=5:=cQ (by rw[HC];omega);show#[_,(aj (cL 2 DW.nd (pm (pv 0) T.cl GO hr ay (aa (pv 1) ae)))
  (aj (cL 3 DW.nd (bw bK (pv 2) (bA (aJ dQ (de T.du) (de T.fb))) b8))
  (aj (cL 4 DW.nd (pc ap hr ay (aa (aL aQ (pv 2) ai bZ) ae)))
  (aj (bP (aA jV (pv 4) (de T.eL) (aI _)) (aq (cL 3 DW.nd (aJ cE (pv 3) (pm (aE (pv 0) rfl) TD.cl GD hr ay (aa (aL aQ (pv 3) (de T.eL) bZ) ae))))) bj)
  (aq (aG (bw bK (pv 3) b8 (bA (pv 4))))))))),?_]
 show gz λ_ I=>?_;show#[0,a,dx,0,ho,a9 av av,0,a,b,s',tot,n,r,rfl,G.O,n0,Z,hl,λH1 l1 s1 f1 Y=>I _ _ ?_];clear I;rw[ac]at Y;show gz λ_ I=>?_;show#[0,_,0,rfl,(3),rfl,l1,0,aW.of Y,λl2 ab=>I _ _ ?_];clear I;rw[show dg (([kk,ll,(sz:Int)]++fill ((bk n).take 5) 5).map V.int) (some 3) none=(fill ((bk n).take 5) 5).map V.int from hG (s:=3)];let L:=s1.trans (ah (X:=.lst ((fill ((bk n).take 5) 5).map V.int)) ab);let d2:=ah (X:=.lst ((fill ((bk n).take 5) 5).map V.int)) ab _ _ Y;let U:upd H1 l2 (.lst ((fill ((bk n).take 5) 5).map V.int)) l2=some (.lst ((fill ((bk n).take 5) 5).map V.int)):=ag;generalize upd H1 l2 (.lst ((fill ((bk n).take 5) 5).map V.int))=H2 at *;show gz λ_ I=>?_;show#[0,l1,_,(2),.int sz,1,aW.of d2,aD (j:=2) rfl,sz,rfl,I _ _ ?_];clear I;rw[<-ad];let fin:∀(l:Addr)(ys:qAa)(J:Hp),aH H J->J l=some (.lst (ys.map V.int))->ys.take (bk n).length=bk n->MT (R9 (FL K) (uF 3) xR (Hy (uF 4))) { nx:=λ_ H'=>Q .a7 H',rt:=Q } #v[.ref a,.int n,.ref l1,.ref l,.int ((bk n).length:Nat)] J:=λl ys J sJ eJ et=>by
  show#[0,0,(((bk n).length:Nat):Int),rfl,l,0,aW.of eJ,λq fq=>?_];rw[ie,et];show k _ q (sJ.trans (ah fq)) (aX sJ fq) ag
 show E6 λQQ ji je=>?_;show#[0,_,0,rfl,0,?_];cases z:4<(bk n).length
 .rw[decide_eq_true (show(4:Int)<(((bk n).length:Nat):Int)by omega)];show ji _ ?_;let e4:(bk n)[4]?=some ((bk n)[4]'z):=tp z;let fr:=G.R.Ob n _ e4;let rg:=G.R.rg n ((bk n)[4]'z) (UA z);let tt:=G.O.tt;let i4:js ((fill ((bk n).take 5) 5).map V.int) 4=some (.int ((bk n)[4]'z)):=aD (j:=4) (by
   unfold fill;rw[M4,SW (by rw[HC];omega),UC,aa3 af,e4];rfl)
  dsimp only;show gz λ_ I=>?_;show#[0,0,a,CN,dx,_,.ref b.dr,rfl,L _ _ ho,T.cl,T.nD,bT kn,b.dr,am,0,L _ _ h2,a9 av av,0,l2,_,(4),0,rfl,aW.of U,i4,b,s',_,0,(G.O.same L).B,af,fr,af,λH3 l3 s3 f3 e3=>?_];show#[l2,l3,_,0,rfl,s3 _ _ U,e3,by rw[rz,rz,l5,cQ (by rw[Tu];omega)];omega,λl4 f4=>I _ _ ?_];rw[<-K4];show fin l4 _ _ ((L.trans s3).trans (ah f4)) ag (LC z ar ?_);intro w;rw[ad]at w;unfold bf nb at w;split at w<;>omega
 .rw[decide_eq_false (show ¬ (4:Int)<(((bk n).length:Nat):Int)by omega)];show je _ ?_;show fin l2 _ _ L U (Ml z)
theorem Jz:ax ["self","n","cells","block"] ["self","n"] (ak Qr):=L2.a8
theorem vU(F:bM K "cells_of" "Nodes.cells_of" Qr f fd)(T:kH K mg CN)(TD:Bt K mg c)(aK:↥Md 5 CN "blocks_of" (DF c CN))(ar:↥Md 1 CN "cell_blocks" G9)(GD:↥Md 3 c.CD "read" (i5 c))(GS:↥Md 5 CN "size_of" (jz 2 c CN)):↥aM 6 f fd ["self","n"] (Kg c CN):=by
 show F.cU Jz ?_;intros;let#[a,b,s',tot,d,N,bk,n,nd,rfl,G,U,k]:=h;let hs:=y1;let#[n0,n1]:=G.R.use n nd U;let#[dx,Y]:=G.O.ob;let#[ao,h2]:=G.O.B.ob;let no:∀m:Str,¬ m = "total" -> ¬ m = "draft" -> (f2 "draft" "total" (.ref b.dr) (.int tot)).lookup m=none:=λm=>a9;let a2:=G.R.le n;let l3:=G.R.uS n nd U;let as:(cb (bk n)).length=nb nd.cs.length:=BH (by rw[G.R.len n,U];rfl);let a1:nb nd.cs.length<=20:=(by unfold nb;omega);show#[_,(aj (cL 2 Jz.nd (bq ae))
  (aj (dU TK rfl (cJ (pm (pv 0) T.cl ar hr ay (aa (pm (pv 0) T.cl aK hr ay (aa (pv 1) ae)) ae))) (qx 3 Jz.nd) (aq (aR (fA Uy WN WO iY (pv 2) (aa (pm (aE (pv 0) rfl) TD.cl GD hr ay (aa (pv 3) ae)) ae)))))
  (aq (aG (bw bK (pv 2) b8 (bA (pm (pv 0) T.cl GS hr ay (aa (pv 1) ae)))))))),?_]
 show gz λ_ Z=>?_;show#[az,λl1 f1=>Z _ _ ?_];clear Z;let s1:=ah (X:=.lst []) f1;let e1:upd H l1 (.lst []) l1=some (.lst []):=ag;generalize upd H l1 (.lst [])=H1 at *;show#[0,a,dx,0,s1 _ _ Y,no _ av av,0,a,dx,0,s1 _ _ Y,no _ av av,0,a,b,s',tot,d,N,bk,n,rfl,G.same s1,n0,n1,λH2 l2 s2 am e2=>?_];show#[a,l2,bk n,rfl,e2,af,λH3 ab s3 f3 e3=>#[ab,rfl,#[_,aW.of e3],?_]];let S3:=s2.trans s3;let aB:ab≠l1:=λe=>(by rwa[e,s2 _ _ e1]at f3);let ap:=S3 _ _ e1;let sH:aH H H3:=s1.trans S3;clear e2 am s2 s3;show gf (K:=K) (a:=ab) (xs:=(cb (bk n)).map V.int) (λi σ J=>∃v3:Option V,K0 (σ=#v[.ref a,.int n,.ref l1,v3]) (J l1=some (.lst ((((TM i).map (ch nd.cs)).flatten).map V.int))) (Off (· = l1) H3 J) (i<=nb nd.cs.length)) #[0,ap,λ_ _ e _=>e,Tp _] (λi σ J _ z=>by let#[_,_,_,o,_]:=z;show aW.of (o _ _ e3 aB)) ?_ ?_
 .rintro i x σ J hx ⟨v3,rfl,I,oJ,hi⟩;rw[M4]at hx;let#[y,hy,rfl]:=SV.mp hx;let a0:=(y0.mp hy).1;let cl:=G.R.NT n nd U i y hy;let ym:y∈bk n:=by
   have:=SO hy;unfold cb at this;rcases SY.mp this with w|w
   .show Ux w
   .show UL w
  let rg:=G.R.rg n y ym;let tt:=G.O.tt;let ac:∀{q u},H q=some u->q≠l1:=λe z=>(by rwa[z,f1]at e);let oH:∀q u,H q=some u->J q=some u:=λq u e=>oJ _ _ (sH _ _ e) (ac e);let BJ:=G.O.B.same (H':=J) oH;let lf:((((TM i).map (ch nd.cs)).flatten).map V.int).length=16*i:=by
   rw[rz];show xJ nd.cs i
  show uW λQQ Z=>?_;show#[0,.inl #[5,aW.of I],?_];show#[0,a,CN,dx,_,.ref b.dr,rfl,oH _ _ Y,T.cl,T.nD,bT kn,b.dr,ao,0,oH _ _ h2,a9 av av,0,b,s',y,0,BJ,af,cl,af,λJ2 l4 L f4 e4=>?_];show#[l1,l4,_,0,rfl,L _ _ I,e4,by rw[lf,rz,oO];omega,Z _ _ #[0,?_,λq u e z=>by rw[au z];show L _ _ (oJ _ _ e z),af]];rw[ag, <-K4,VQ,K4 (l₁:=TM i),VR];change _=some (HO.lst (Y0 V.int (_++(ch nd.cs i++[]))));rw[Tq]
 .rintro σ J ⟨v3,rfl,I,oJ,_⟩;rw[rz,as]at I;let ac:∀{q u},H q=some u->q≠l1:=λe z=>(by rwa[z,f1]at e);let sJ:aH H J:=λq u e=>oJ _ _ (sH _ _ e) (ac e);let#[r,hl,ad]:=G.R.row n n0 n1;rw[U,jb]at ad;let aT:r[rs n+2]?=some (nd.cs.length:Int):=by
   let q:((r.drop (rs n)).take 8)[2]?=some (nd.cs.length:Int):=(by rw[ad];rfl);rw[UC,aa3 az,UP]at q;show q
  show#[0,0,a,dx,0,sJ _ _ Y,no _ av av,0,a,b,s',tot,n,r,0,G.O.same sJ,n0,n1,hl,aT,λJ2 L=>#[0,l1,0,aW.of (L _ _ I),λq fq=>?_]];rw[ie,Sg _ _ (by unfold nb;omega)];let s5:=sJ.trans L;show k _ q (s5.trans (ah fq)) (aX s5 fq) ag
noncomputable def fT(_:Unit):V:=.bl true
theorem EW{α:Type}(f:α->V)(l:List (Int×α))(x:Int)(a:α):∃F,putK (dk f l) (NC x) (f a)=dk f F/\(∀y,(look F y).isSome=(decide (y=x)||(look l y).isSome))/\F.length<=l.length+1:=by
 cases e:look l x with
 |none =>
  show#[_,eW e,λy=>?_,by rw[wh];show G0 _];rw[lE y e];cases z:y=x
  .rw[aa3 z,decide_eq_true z];rfl
  .rw[aa2 z,decide_eq_false z];rfl
 |some b =>
  show#[_,gY e,λy=>?_,by rw[EO];omega];rw[iI y e];cases z:y=x
  .rw[aa3 z,decide_eq_true z];rfl
  .rw[aa2 z,decide_eq_false z];rfl
noncomputable def wg(bk:qa4)(m:Nat):List Int:=((TM m).map λi:Nat=>bk (i:Int)).flatten
theorem km(bk:qa4)(m:Nat):wg bk (m+1)=wg bk m++bk (m:Int):=by
 unfold wg;rw[VQ,K4,VR];change _++(bk (m:Int)++[])=_;rw[Tq]
noncomputable def vG(bk:qa4)(x:Int):Bool:=decide (¬ x∈wg bk 24)
noncomputable def ub(tot:Nat)(bk:qa4):List Int:=((TM tot).map λi:Nat=>48+(i:Int)).filter (vG bk)
inductive La(c:DA)(CN:Addr)(v:qAh)(H:Hp)(Q:VK)(e:XK):Prop
 |mk(a:Addr)(b:BA)(s:BS)(tot d:Nat)(N:NS)(bk:qa4)(_:v=[.ref a])(_:NR c CN H a b s tot N bk d)(_:∀(H':Hp)(q:Addr),aH H H'->H q=none->H' q=some (.lst ((ub tot bk).map V.int))->Q (.ref q) H')
inductive oU(c:DA)(CN:Addr)(v:qAh)(H:Hp)(Q:VK)(e:XK):Prop
 |mk(a:Addr)(b:BA)(s:BS)(tot d:Nat)(N:NS)(bk:qa4)(_:v=[.ref a])(_:NR c CN H a b s tot N bk d)(_:d<=24)(_:∀(H':Hp)(s':BS),NR c CN H' a b s' tot N bk 0->s'.D=[]->cW b s H s' H'->Q .a7 H')
abbrev RP:Tg:=inClass (top 42) 15
abbrev R7:Tg:=inClass (top 42) 9
variable{l1 l2:Int->Option (List Int)}{N:NS}{bk:qa4}
theorem Rep.lb(R:Rep l1 tot N bk)(h:∀j,28<=j->l2 j=l1 j):Rep l2 tot N bk:=by
 show#[λn I G=>?_,R.len,λn x F=>?_,λn nd L k x F=>?_,R.rg,R.Eg,R.use,R.uS]
 .let#[r,e,q]:=R.row n I G;show#[r,by rw[h _ (nP I G).1];show e,q]
 .rw[h x (by have:=R.rg n x (SO F);omega)];show R.Ob n x F
 .let m:x∈bk n:=by
   have:=SO F;unfold cb at this;rcases SY.mp this with w|w
   .show Ux w
   .show UL w
  rw[h x (by have:=R.rg n x m;omega)];show R.NT n nd L k x F
theorem R6:ax ["self"] ["self"] (ak R7):=L2.a8
theorem wc(F:bM K "finish" "Nodes.finish" R7 f fd)(T:kH K mg CN)(TD:Bt K mg c)(Z:↥Md 6 c.CD "finish" (we c)):↥aM 7 f fd ["self"] (oU c CN):=by
 show F.cU R6 ?_;intros;let#[a,b,s',tot,d,N,bk,rfl,I,hd,k]:=h;let#[dx,G]:=I.O.ob;let#[ab,h2]:=I.O.B.ob;show#[_,(aq (aR (wB (aE (pv 0) rfl) TD.cl Z hr ay))),?_];show#[0,a,CN,dx,_,.ref b.dr,rfl,G,T.cl,T.nD,bT kn,b.dr,ab,0,h2,a9 av av,b,s',rfl,I.O.B,Td I.d hd,λH' s2 B2 U l2 Y st=>?_];let na:¬ iA b s' a:=λz=>by
  rcases z with z|z|z|z|z|⟨x,hx,z⟩
  .rw[z,h2]at G;simp only[UB,HO.ins.injEq]at G;have:=G.2.2;rw[iU kd,iU kn]at this;injection this with t _;injection t with t1 _;show absurd t1 av
  .let#[L,#[ac,q],_]:=I.O.B.dk;rw[z,q]at G;simp only[UB,HO.ins.injEq]at G;have:=G.2.2;rw[dJ,iU kn]at this;injection this with _ t;injection t with _ t;cases t
  .let#[L,D]:=I.O.B.dk;rwa[z,D.hb]at G
  .rw[z,I.O.B.hd]at G;cases G
  .let#[L,D]:=I.O.B.dk;let#[ns,q]:=fS D.hc a z;rwa[q.1]at G
  .rw[z,(I.O.B.hr x hx).1]at G;cases G
 show k H' s2 #[#[#[dx,st.1 _ _ G na],B2,by rw[Y];show I.O.tt],I.R.lb l2,by unfold dn;rw[U];show G0 _] U st
theorem ET:ax ["self","used","n","block"] ["self"] (ak RP):=L2.a8
theorem zy(F:bM K "unused_blocks" "Nodes.unused_blocks" RP f fd)(T:kH K mg CN)(ac:↥Md 5 CN "blocks_of" (DF c CN)):↥aM 6 f fd ["self"] (La c CN):=by
 show F.cU ET ?_;intros;let#[a,b,s',tot,d,N,bk,rfl,L,k]:=h;let hs:=y1;let#[dx,ho]:=L.O.ob;let tt:=L.O.tt;let bl:=L.O.B.ln;show#[_,(aj (cL 1 ET.nd iE)
  (aj (dU TK rfl (cH (by rfl) T.range (aa (de T.mf) ae)) (qx 2 ET.nd) (aq (dU TK rfl (cJ (pm (pv 0) T.cl ac hr ay (aa (pv 2) ae))) (qx 3 ET.nd) (aq (fO (cV hr) (pv 1) (pv 3) jv rfl)))))
  (aq (aG (cY (cl:=[("used",s⁻¹+1)]) (caps:=[("used",1)]) #[rfl,av,av,rfl,by kernel_rfl,%[|1],by kernel_rfl,%[|1],av] rfl (zP (by rfl) T.range (aa (de T.f9) (aa (aJ bU (de T.f9) (aE (pv 0) rfl)) ae))) (λ_ _ _ _=>iq (sf (kP (cV hr) (pv 0) (pv 1)))) (λ_ _ _ _=>(pv 0))))))),?_]
 show gz λ_ jt=>?_;intro u fu;show jt _ _ ?_;clear jt;let s1:=ah (X:=.dK []) fu;let e1:upd H u (.dK []) u=some (.dK (dk fT [])):=ag;generalize upd H u (.dK [])=H1 at *;let nu:∀{q o},H q=some o->q≠u:=λe z=>(by rwa[z,fu]at e);show#[(24),rfl,az,az,?_];show eV (lo:=0) (n:=24) (λi σ J=>OC λ(v2 G:Option V)(l:List (Int×Unit))=>Ia (σ=#v[.ref a,.ref u,v2,G]) (J u=some (.dK (dk fT l))) ((∀x,(look l x).isSome=decide (x∈wg bk i))) (l.length<=21*i) (Off (· = u) H1 J)) #[2,[],rfl,e1,λx=>rfl,Tp _,λ_ _ e _=>e] ?_ ?_
 .rintro i σ J hi ⟨v2,G,l,rfl,hJ,hk,ll,oJ⟩;let I:aH H J:=λq o e=>oJ _ _ (s1 _ _ e) (nu e);show#[0,a,dx,0,I _ _ ho,a9 av av,0,a,b,s',tot,d,N,bk,(i:Int),by rw[show(0:Int)+(i:Int)=(i:Int)by omega];rfl,L.same I,af,af,λZ q s2 Y eq=>#[q,rfl,#[_,aW.of eq],?_]];let nq:q≠u:=λe=>(by rwa[e,hJ]at Y);let ad:=L.R.le (i:Int);show gf (K:=K) (a:=q) (xs:=(bk (i:Int)).map V.int) (λj σ U=>zt λ(G:Option V)(l:List (Int×Unit))=>Ia (σ=#v[.ref a,.ref u,.int (0+(i:Int)),G]) (U u=some (.dK (dk fT l))) ((∀x,(look l x).isSome=decide (x∈wg bk i++(bk (i:Int)).take j))) (l.length<=21*i+j) (Off (· = u) Z U)) #[_,l,rfl,s2 _ _ hJ,λx=>by rw[UU,Tq];show hk x,ll,λ_ _ e _=>e] (λj σ U _ z=>by let#[_,_,_,_,_,_,o]:=z;show aW.of (o _ _ eq nq)) ?_ ?_
  .rintro j x σ U hx ⟨G,l,rfl,h3,ab,l3,o3⟩;rw[M4]at hx;let#[y,hy,rfl]:=SV.mp hx;let hj:=(y0.mp hy).1;let#[l',p1,p2,p3]:=EW fT l y ();show#[0,0,u,0,jJ.k (k:=NC y) h3 (by rw[iT];omega),_,l',rfl,by rw[ag];show congrArg (λz=>some (HO.dK z)) p1,λx=>?_,af,λq' o e z=>by rw[au z];show o3 _ _ e z];rw[p2 x,ab x,Um,hy];cases z:x=y
   .rw[decide_eq_true z,Bool.true_or];show(decide_eq_true (by rw[z];simp)).symm
   .rw[decide_eq_false z,aaT];show decide_eq_decide.mpr ?_;rw[<-Te,SY (s:=wg bk i++(bk (i:Int)).take j)];show#[.inl,λw=>w.resolve_right λy'=>z ‹y'›]
  .rintro σ U ⟨G,l,rfl,h3,ab,l3,o3⟩;rw[rz,UH, <-km]at ab;rw[rz]at l3;show#[2,l,rfl,h3,ab,af,λq' o e z=>o3 _ _ (s2 _ _ (oJ _ _ e z)) z]
 .rintro σ J ⟨v2,G,l,rfl,hJ,hk,ll,oJ⟩;let I:aH H J:=λq o e=>oJ _ _ (s1 _ _ e) (nu e);show#[0,a,CN,dx,_,.int tot,rfl,I _ _ ho,T.cl,T.nT,jn,_,0,5,0,#[az,az,af,af],?_];let et:((48:Int)+(tot:Int)-48).toNat=tot:=af;rw[et];show ip (lo:=48) (n:=tot) (λi ys Z=>ys=((((TM i).map λi:Nat=>48+(i:Int)).filter (vG bk)).map V.int)/\Z=J) #[1] ?_ ?_
  .rintro i ys Z hi ⟨rfl,rfl⟩;let q:=eU.k (k:=NC (48+(i:Int))) hJ;rw[cm]at q;show#[0,0,u,0,q,?_];let eb:(!((look l (48+(i:Int))).map fT).isSome)=vG bk (48+(i:Int)):=by
    rw[Zx,hk];unfold vG;cases z:48+(i:Int)∈wg bk 24
    .rw[decide_eq_true z,decide_eq_false (λw=>w z)];rfl
    .rw[decide_eq_false z,decide_eq_true z];rfl
   show#[0,?_];rw[eb];let ef:(((TM (i+1)).map λi:Nat=>48+(i:Int)).filter (vG bk))=((TM i).map λi:Nat=>48+(i:Int)).filter (vG bk)++[48+(i:Int)].filter (vG bk):=(by rw[VQ,K4,U5];rfl);let lf:((((TM i).map λi:Nat=>48+(i:Int)).filter (vG bk)).map V.int).length<=300:=by
    rw[rz];have:=UG (vG bk) ((TM i).map λi:Nat=>48+(i:Int));rw[rz,Xo]at this;omega
   cases z:vG bk (48+(i:Int))with
   |true =>
    rw[aa3 rfl];show#[0,af,?_,rfl];rw[ef,UE z,Wh,K4];rfl
   |false =>
    rw[aa2 (by nofun)];show#[?_,rfl];rw[ef,Uw (by rw[z];nofun),Wh,Tq]
  .rintro ys Z ⟨rfl,rfl⟩ q Y;show k _ q (I.trans (ah Y)) (aX I Y) ag
noncomputable def cA(N:NS)(n:Int)(x:Option Node):NS:=λm=>if m=n then x else N m
noncomputable def nX(bk:qa4)(n:Int)(b:qAa):Int->List Int:=λm=>if m=n then b else bk m
theorem yP(n:Int):rs n=0\/rs n=8:=by unfold rs;omega
variable{m:Int}
theorem KP(G:0<=n)(F:0<=m)(h:rb n=rb m)(h2:rs n=rs m):n=m:=by unfold rb rs at *;omega
theorem FK(h1:r.length=16)(h2:row.length=8)(F:st+8<=16):((iC r row st).drop st).take 8=row:=by
 unfold iC;rw[Te,Y8,HC,show st-min st r.length=0 by omega,VG,Uk (by rw[HC];omega),WJ,Vk,h2,V7,UU,Tq,OR af]
theorem Bm{t:Nat}(h1:r.length=16)(h2:row.length=8)(hs:st=0\/st=8)(F:t=0\/t=8)(ne:st≠t):((iC r row st).drop t).take 8=(r.drop t).take 8:=by
 unfold iC;rcases hs with rfl|rfl<;>rcases F with rfl|rfl
 .show absurd rfl ne
 .rw[UU,WJ,Y8,h2,Uk (show row.length<=8 by omega),WJ,V7,VG]
 .rw[VG,Te,Vk,HC,show 8-min 8 r.length=0 by omega,UU,Tq,aaO,VG];rfl
 .show absurd rfl ne
theorem u6(x:Option Node)(b:qAa):(rY x b).length=8:=by
 cases x with
 |none=>rfl
 |some n =>
  rw[jb,wh,cQ (by rw[HC];omega)];rfl
theorem pS{x:Int}(h:(cb b)[k]?=some x):x∈b:=by
 have:=SO h;unfold cb at this;rcases SY.mp this with w|w
 .show Ux w
 .show UL w
theorem Rep.upd(R:Rep l1 tot N bk)(Z:0<=n)(n1:n<24)(x:Option Node)(F:qAa)(lr:r.length=16)(hr:l1 (rb n)=some r)(len:F.length=BM x)(rg:∀y∈F,48<=y/\y<48+tot)(Eg:∀(i j:Nat)(y:Int),F[i]?=some y->F[j]?=some y->i=j)(ab:∀m,m≠n->∀y∈F,¬ y∈bk m)(uS:∀nd,x=some nd->nd.cs.length<=320)
  (e1:l2 (rb n)=some (iC r (rY x F) (rs n))) (ho:∀j,j≠rb n->¬ j∈F->l2 j=l1 j) (hf:∀y,F[4]?=some y->l2 y=some (fill (F.drop 5) 16)) (hc:∀nd,x=some nd->∀(k:Nat)(y:Int),(cb F)[k]?=some y->l2 y=some (ch nd.cs k)):Rep l2 tot (cA N n x) (nX bk n F):=by
 let rn:=nP Z n1;let ac:∀m y,m≠n->y∈bk m->l2 y=l1 y:=λm y h1 h2=>ho y (by have:=R.rg m y h2;omega) λw=>ab m h1 y w h2;show#[λm Y m1=>?_,λm=>?_,λm y G=>?_,λm nd I k y G=>?_,λm y G=>?_,λp q i j y hi L=>?_,λm nd I=>?_,λm nd I=>?_]
 .by_cases z:m=n
  .subst z;show#[_,e1,?_];rw[show cA N m x m=x from aa3 rfl,show nX bk m F m=F from aa3 rfl];show FK lr (u6 _ _) rn.2.2
  .rw[show cA N n x m=N m from aa2 z,show nX bk n F m=bk m from aa2 z];let#[r',U,q]:=R.row m Y m1;cases y:rb m=rb n
   .rw[y,hr]at U;injection U with U;subst U;show#[_,by rw[y];show e1,?_];rw[Bm lr (u6 _ _) (yP n) (yP m) (λw=>z (KP Y Z y w.symm))];show q
   .show#[r',by rw[ho _ y λw=>by have:=rg _ w;have:=nP Y m1;omega];show U,q]
 .by_cases z:m=n
  .rw[show cA N n x m=x from aa3 z,show nX bk n F m=F from aa3 z];show len
  .rw[show cA N n x m=N m from aa2 z,show nX bk n F m=bk m from aa2 z];show R.len m
 .by_cases z:m=n
  .rw[show nX bk n F m=F from aa3 z]at G ⊢;show hf y G
  .rw[show nX bk n F m=bk m from aa2 z]at G ⊢;rw[ac m y z (SO G)];show R.Ob m y G
 .by_cases z:m=n
  .rw[show cA N n x m=x from aa3 z]at I;rw[show nX bk n F m=F from aa3 z]at G;show hc nd I k y G
  .rw[show cA N n x m=N m from aa2 z]at I;rw[show nX bk n F m=bk m from aa2 z]at G;rw[ac m y z (pS G)];show R.NT m nd I k y G
 .by_cases z:m=n
  .rw[show nX bk n F m=F from aa3 z]at G;show rg y G
  .rw[show nX bk n F m=bk m from aa2 z]at G;show R.rg m y G
 .by_cases z:p=n
  .rw[show nX bk n F p=F from aa3 z]at hi;cases v:q=n
   .rw[show nX bk n F q=F from aa3 v]at L;show#[z.trans v.symm,Eg i j y hi L]
   .rw[show nX bk n F q=bk q from aa2 v]at L;show absurd (SO L) (ab q v y (SO hi))
  .rw[show nX bk n F p=bk p from aa2 z]at hi;cases v:q=n
   .rw[show nX bk n F q=F from aa3 v]at L;show absurd (SO hi) (ab p z y (SO L))
   .rw[show nX bk n F q=bk q from aa2 v]at L;show R.Eg p q i j y hi L
 .by_cases z:m=n
  .rw[z];show#[Z,n1]
  .rw[show cA N n x m=N m from aa2 z]at I;show R.use m nd I
 .by_cases z:m=n
  .rw[show cA N n x m=x from aa3 z]at I;show uS nd I
  .rw[show cA N n x m=N m from aa2 z]at I;show R.uS m nd I
noncomputable def tE(tot:Nat)(bk:qa4)(n:Int)(cs:qAa):List Int:=(bk n++ub tot bk).take (bf cs.length)
theorem nj{bk:qa4}{y:Int}:∀{m:Nat},y∈wg bk m↔∃i:Nat,i<m/\y∈bk (i:Int)
 |0=>Iff.intro (λh=>by cases h) (λh=>by let#[_,h,_]:=h;omega)
 |m+1=>by
  rw[km,SY,nj];show Iff.intro (λh=>?_) (λh=>?_)
  .rcases h with⟨i,h1,h2⟩|h
   .show#[i,af,h2]
   .show#[m,af,h]
  .let#[i,h1,h2]:=h;cases z:i=m
   .subst z;show .inr h2
   .show .inl #[i,af,h2]
variable{y:Int}
theorem rN(h:y∈ub tot bk):48<=y/\y<48+tot/\¬ y∈wg bk 24:=by
 unfold ub at h;rw[Ue,Tc]at h;let#[#[i,hi,rfl],h2]:=h;rw[Xs]at hi;show#[af,af,of_decide_eq_true h2]
theorem BE(tot:Nat)(bk:qa4):(ub tot bk).Nodup:=by
 unfold ub;show List.Pairwise.filter _ (Z9 _ (λa b h e=>h af) aam)
theorem Rep.yk(R:Rep l1 tot N bk)(h:y∈bk m):y∈wg bk 24:=by
 cases e:N m with
 |none=>rwa[R.none e]at h
 |some nd =>
  let#[a,c]:=R.use m nd e;show nj.mpr #[m.toNat,af,?_];rw[Xh a];show h
theorem Rep.nodup(R:Rep l1 tot N bk)(n:Int)(cs:qAa):(tE tot bk n cs).Nodup:=by
 unfold tE;show XM (Vy _ _) ?_;show Ud.mpr #[?_,BE _ _,λx I y F e=>(rN F).2.2 (e▸R.yk I)];show TU.mpr λi j hi G L e=>?_;have:=(R.Eg n n i j _ (tp hi) (by rw[e];show tp G)).2;omega
variable{cs:qAa}
theorem Rep.Sy(R:Rep l1 tot N bk)(h:y∈tE tot bk n cs):48<=y/\y<48+tot:=by
 rcases SY.mp (Ux h)with w|w
 .show R.rg n y w
 .show#[(rN w).1,(rN w).2.1]
theorem Rep.Qu(R:Rep l1 tot N bk)(G:m≠n)(h:y∈tE tot bk n cs):¬ y∈bk m:=by
 intro F;rcases SY.mp (Ux h)with w|w
 .let#[i,hi]:=VE F;let#[j,I]:=VE w;show G (R.Eg m n i j y hi I).1
 .show(rN w).2.2 (R.yk F)
noncomputable def Kh(old cs:qAa)(k:Nat):Bool:=decide (¬ (k<nb old.length/\ch old k=ch cs k))
noncomputable def pU(old cs:qAa)(m:Nat):Nat:=((TM m).filter (Kh old cs)).length
theorem ud(old cs:qAa)(m:Nat):pU old cs (m+1)=pU old cs m+(if Kh old cs m=true then 1 else 0):=by
 unfold pU;rw[VQ,U5,wh,WY,Wh];cases z:Kh old cs m=true
 .rw[aa3 z,aa3 z];rfl
 .rw[aa2 z,aa2 z];rfl
theorem Hk(k:Nat):(cb b)[k]?=if k<4/\k<b.length then b[k]? else if b.length<=4 then none else b[k+1]?:=by
 unfold cb;cases z:k<4/\k<b.length
 .rw[aa3 z,SW (by rw[HC];omega),UC,aa3 z.1]
 .rw[aa2 z,SQ (by rw[HC];omega),HC,UP];cases y:b.length<=4
  .rw[aa3 y];show YO af
  .rw[aa2 y];show congrArg (λt=>b[t]?) ?_;omega
theorem Gk(R:Rep l1 tot N bk){nd:Node}(F:N n=some nd)(hk:k<nb nd.cs.length)(h:(cb (tE tot bk n cs))[k]?=some y):(cb (bk n))[k]?=some y:=by
 let lb:(bk n).length=bf nd.cs.length:=(by rw[R.len,F];rfl);let pre:∀i y,i<(bk n).length->(tE tot bk n cs)[i]?=some y->(bk n)[i]?=some y:=λi y hi h=>by
  unfold tE at h;rw[UC]at h;split at h
  .rw[SW hi]at h;show h
  .cases h
 unfold bf at lb;rw[Hk]at h ⊢;split at h
 .rename_i z;rw[aa3 #[z.1,by split at lb<;>omega]];show pre k y (by split at lb<;>omega) h
 .rename_i z;split at h
  .cases h
  .rename_i v;let k4:¬ k<4:=λw=>z #[w,af];have:4<nb nd.cs.length:=af;rw[aa3 this]at lb;rw[aa2 (λw=>k4 w.1),aa2 af];show pre (k+1) y af h
end Fs
namespace L2
theorem RF{a u:TS}{D:Ends}{σ:St}{H:Hp}(k:∀R:St->Hp->Prop,(∀σ H,u D σ H->R σ H)->a { D with nx:=R } σ H):gj a u D σ H:=k _ λ_ _ h=>h
end L2
namespace Fs
open PySem L2 Dk Tb
variable{s:BS}{H:Hp}
theorem cW.trans{b:BA}{F G:BS}{H1 H2:Hp}(p:cW b s H F H1)(q:cW b F H1 G H2):cW b s H G H2:=by
 show#[λa u e z=>q.1 a u (p.1 a u e z) λw=>?_,λa w=>?_]
 .rcases p.2 a w with w|w
  .show z w
  .rw[e]at w;cases w
 .rcases q.2 a w with w|w
  .show p.2 a w
  .by_cases z:iA b s a
   .show .inl z
   .show .inr ?_;cases e:H a with
    |none=>rfl
    |some u=>rwa[p.1 a u e z]at w
theorem Ds{b:qAa}(h:b.Nodup):(cb b).Nodup:=by
 show XM ?_ h;have:(b.take 4++b.drop 5).Sublist (b.take 4++b.drop 4):=List.Sublist.append (List.Sublist.refl _) (by rw[show b.drop 5=(b.drop 4).drop 1 by rw[Zd]];show Wu _ _);rw[TR]at this;show this
inductive JZ(c:DA)(CN:Addr)(v:qAh)(H:Hp)(Q:VK)(e:XK):Prop
 |mk(a:Addr)(b:BA)(s:BS)(tot d:Nat)(N:NS)(bk:qa4)(n:Int)(nd:Node)(l:Addr)(cs:qAa)(_:v=[.ref a,.int n,.ref l])(_:NR c CN H a b s tot N bk d)(_:N n=some nd)(_:H l=some (.lst (cs.map V.int)))(_:¬ iA b s l)(_:cs.length<=320)(_:bf cs.length<=(bk n).length+(ub tot bk).length)(_:∀(H':Hp)(s':BS)(bk':qa4),NR c CN H' a b s' tot (cA N n (some { nd with cs:=cs })) bk' (d+pU nd.cs cs (nb cs.length)+2)->cW b s H s' H'->Q .a7 H')
abbrev Rj:Tg:=inClass (top 42) 8
theorem CS:ax ["self","n","cells","blocks","k","block","row"] ["self","n","cells"] (ak Rj):=L2.a8
variable{CN:Addr}{c:DA}
theorem uO(F:bM K "put_cells" "Nodes.put_cells" Rj f fd)(T:kH K mg CN)(TD:Bt K mg c)(b0:↥Md 5 CN "blocks_of" (DF c CN))(GU:↥Md 6 CN "unused_blocks" (La c CN))(bm:↥Df 1 "blocks_for" zM)(bn:↥Md 1 CN "cell_blocks" G9)(GW:↥Md 1 c.CD "write" (jU K c))(GF:↥Df 1 "filled" jM)(GO:↥Md 4 CN "row_of" (gq c CN))(GP:↥Md 4 CN "put_row" (gU c CN)):↥aM 7 f fd ["self","n","cells"] (JZ c CN):=by
 show F.cU CS ?_;intros;let#[a,b,s',tot,d,N,bk,n,nd,l,cs,rfl,I,hn,hl,as,a5,sp,k]:=h;let hs:=y1;let#[n0,n1]:=I.R.use n nd hn;let#[dx,ho]:=I.O.ob;let#[b4,h2]:=I.O.B.ob;let tt:=I.O.tt;let b3:=I.O.B.ln;let b5:=I.R.le n;let no:∀m:Str,¬ m = "total" -> ¬ m = "draft" -> (f2 "draft" "total" (.ref b.dr) (.int tot)).lookup m=none:=λm=>a9;let ce:(ub tot bk).length<=tot:=by
  unfold ub;show Td (UG _ _) ?_;rw[rz,Xo];show G0 _
 let#[r,am,_]:=I.R.row n n0 n1;let lr:=I.O.B.row am;let cc:=nP n0 n1;show#[_,(aj (cL 3 CS.nd (bw bK (aJ cE (pm (pv 0) T.cl b0 hr ay (aa (pv 1) ae)) (wB (pv 0) T.cl GU hr ay)) b8 (bA (pc bm hr ay (aa (aC aO (by rfl) T.len T7 (aa (pv 2) ae)) ae)))))
  (aj (dU TK rfl (yU (by rfl) T.enumerate (aa (pm (pv 0) T.cl bn hr ay (aa (pv 3) ae)) ae)) (xa rfl (gJ (qx 4 CS.nd) (gJ (qx 5 CS.nd) sM))) (aq (aR (pm (aE (pv 0) rfl) TD.cl GW hr ay (aa (pv 5) (aa (pc GF hr ay (aa (bw bK (pv 2) (bA (aJ fH (de T.cj) (pv 4))) (bA (aJ fH (de T.cj) (aJ bU (pv 4) ai)))) (aa (de T.cj) ae))) ae))))))
  (aj (bP (aA jV (aC aO (by rfl) T.len T7 (aa (pv 3) ae)) (de T.eL) (aI _)) (aq (aR (pm (aE (pv 0) rfl) TD.cl GW hr ay (aa (aL aQ (pv 3) (de T.eL) bZ) (aa (pc GF hr ay (aa (bw bK (pv 3) (bA (de T.fb)) b8) (aa (de T.cj) ae))) ae))))) bj)
  (aj (cL 6 CS.nd (pm (pv 0) T.cl GO hr ay (aa (pv 1) ae)))
  (aq (aR (pm (pv 0) T.cl GP hr ay (aa (pv 1) (aa (aL aQ (pv 6) ai bZ) (aa (aL aQ (pv 6) ai bZ) (aa (aC aO (by rfl) T.len T7 (aa (pv 2) ae)) (aa (bw bK (pv 3) b8 (bA (de T.fb))) ae)))))))))))),?_]
 show gz λ_ jt=>?_;show#[0,a,dx,0,ho,no _ av av,0,a,b,s',tot,d,N,bk,n,rfl,I,n0,n1,λH1 p1 s1 f1 e1=>?_];show#[0,a,dx,0,s1 _ _ ho,no _ av av,a,b,s',tot,d,N,bk,rfl,I.same s1,λH2 p2 L bd e2=>?_];show#[p1,p2,_,0,rfl,L _ _ e1,e2,by rw[rz,rz];omega,λp3 f3=>?_];rw[<-K4];let S3:=(s1.trans L).trans (ah (X:=.lst ((bk n++ub tot bk).map V.int)) f3);let e3:upd H2 p3 (.lst ((bk n++ub tot bk).map V.int)) p3=some (.lst ((bk n++ub tot bk).map V.int)):=ag;generalize upd H2 p3 (.lst ((bk n++ub tot bk).map V.int))=H3 at *;show#[0,l,0,.inl (aW.of (S3 _ _ hl)),cs.length,by rw[rz];rfl,?_];show#[0,p3,0,aW.of e3,λZ f4=>jt _ _ ?_];clear jt;rw[ie,show(bk n++ub tot bk).take (bf cs.length)=tE tot bk n cs from rfl];let S4:=S3.trans (ah (X:=.lst ((tE tot bk n cs).map V.int)) f4);let e4:upd H3 Z (.lst ((tE tot bk n cs).map V.int)) Z=some (.lst ((tE tot bk n cs).map V.int)):=ag;let bi:H Z=none:=aX S3 f4;generalize upd H3 Z (.lst ((tE tot bk n cs).map V.int))=H4 at *;clear e1 e2 e3 f1 bd f3 f4 s1 L S3;let a4:(tE tot bk n cs).length=bf cs.length:=by
  unfold tE;rw[HC,wh];omega
 let ao:=I.R.nodup n cs;let ab:∀y∈tE tot bk n cs,48<=y/\y<48+tot:=λy=>I.R.Sy;let bC:∀m,m≠n->∀y∈tE tot bk n cs,¬ y∈bk m:=λm hm y=>I.R.Qu hm;let hold:∀{k:Nat}{y:Int},k<nb nd.cs.length->(cb (tE tot bk n cs))[k]?=some y->(cb (bk n))[k]?=some y:=λhk h=>Gk I.R hn hk h;let ca:=Ho a5;generalize tE tot bk n cs=G at *;let bv:(cb G).length=nb cs.length:=BH a4;show#[0,a,dx,0,S4 _ _ ho,no _ av av,0,a,Z,G,rfl,e4,af,λH5 p5 s5 f5 e5=>#[p5,rfl,#[_,aW.of e5],?_]];let S5:=S4.trans s5;let bY:H p5=none:=aX S4 f5;let a2:=s5 _ _ e4;let ar:=S5 _ _ hl;let n4:¬ iA b s' Z:=λw=>I.O.B.live w bi;let n5:¬ iA b s' p5:=λw=>I.O.B.live w bY;clear e4 f5 s5;show va (K:=K) (a:=p5) (xs:=(cb G).map V.int) (λi σ J=>OC λ(v4 v5:Option V)(Y:BS)=>Ef (σ=#v[.ref a,.int n,.ref l,.ref Z,v4,v5,none]) (NO c CN J a b Y tot) (cW b s' H5 Y J) (∀(k:Nat)(x:Int),k<i->(cb G)[k]?=some x->lb Y x=some (ch cs k)) (∀j,(∀k:Nat,k<i->¬ (cb G)[k]?=some j)->lb Y j=lb s' j) (dn Y<=dn s'+pU nd.cs cs i)) #[2,s',rfl,I.O.same S5,cW.same (λ_ _ e=>e),λk x hk=>absurd hk (aaC _),λj _=>rfl,G0 _] (λi σ J _ z=>by let#[_,_,_,_,_,st,_]:=z;show aW.of (st.1 _ _ e5 n5)) ?_ ?_
 .rintro i x σ J Tt hx b2 ⟨v4,v5,Y,rfl,Oi,st,hc,ad,hd⟩;rw[M4]at hx;let#[y,U,rfl]:=SV.mp hx;let bB:=pS U;let yr:=ab y bB;let sT:=ah (X:=.tup [.int i,.int y]) b2;let eT:upd J Tt (.tup [.int i,.int y]) Tt=some (.tup [.int i,.int y]):=ag;generalize upd J Tt (.tup [.int i,.int y])=J1 at *;let O1:=Oi.same sT;let#[dy,aT]:=O1.ob;let#[aB,aK]:=O1.B.ob;let bb:=sT _ _ (st.1 _ _ ar as);show#[Tt,[.int i,.int y],rfl,dC.of eT,rfl,.int i,[.int y],rfl,.int y,[],1,?_];show uW λQQ jt=>?_;show#[0,a,CN,dy,_,.ref b.dr,rfl,aT,T.cl,T.nD,bT kn,b.dr,aB,0,aK,a9 av av,0,0,0,_,0,rfl,.inl #[az,az],16*(i:Int),rfl,0,_,0,5,0,rfl,.inl #[az,az],16*((i:Int)+1),rfl,l,0,aW.of bb,λq fq=>?_];rw[show dg (cs.map V.int) (some (16*(i:Int))) (some (16*((i:Int)+1)))=((cs.drop (16*i)).take 16).map V.int by
   rw[show 16*(i:Int)=((16*i:Nat):Int)by omega,show 16*((i:Int)+1)=((16*i:Nat):Int)+((16:Nat):Int)by omega];show ni]
  let L:=sT.trans (ah (X:=.lst (((cs.drop (16*i)).take 16).map V.int)) fq);let eq:upd J1 q (.lst (((cs.drop (16*i)).take 16).map V.int)) q=some (.lst (((cs.drop (16*i)).take 16).map V.int)):=ag;generalize upd J1 q (.lst (((cs.drop (16*i)).take 16).map V.int))=J2 at *;show#[q,_,(16),rfl,eq,az,by rw[HC];omega,λJ3 q3 s3 f3 e3=>?_];let S3:=L.trans s3;let O3:=Oi.same S3;show#[b,Y,y,q3,ch cs i,rfl,O3.B,af,by rw[Oi.tt];omega,aW.of e3,oO _ _,λJ4 D4 B4 g4 _ o4 a0 d4=>jt _ _ ?_];let#[dz,ac]:=O3.ob;let na:a≠Y.dd:=λe=>(by have:=O3.B.hd;rwa[<-e,ac]at this);let bc:∀k,k<i->¬ (cb G)[k]?=some y:=λk hk h=>(by have:=uq (Ds ao) h U;omega);show#[2,0,#[#[dz,o4 _ _ ac na],B4,Oi.tt],st.trans (a0.pre S3),λk x hk h=>?_,λj hj=>?_,?_]
  .rw[g4 x];cases z:k=i
   .subst z;rw[U]at h;injection h with h;rw[aa3 h.symm]
   .rw[aa2 (λe=>bc k af (by rw[<-e];show h))];show hc k x af h
  .rw[g4 j,aa2 (λe=>hj i af (by rw[e];show U))];show ad j λk hk=>hj k af
  .rw[ud];show Td d4 ?_;have:(if lb Y y=some (ch cs i)then 0 else 1)<=(if Kh nd.cs cs i=true then 1 else 0):=by
    cases z:Kh nd.cs cs i=true
    .rw[aa3 z];split<;>omega
    .rw[aa2 z];unfold Kh at z;let z':i<nb nd.cs.length/\ch nd.cs i=ch cs i:=by
      show Ve λw=>z (decide_eq_true w)
     rw[aa3]
     .show G0 _
     .rw[ad y bc,I.R.NT n nd hn i y (hold z'.1 U),z'.2]
   omega
 .rintro σ J ⟨v4,v5,Y,rfl,Oi,st,hc,ad,hd⟩;rw[rz,bv]at hc ad hd;let bb:=st.1 _ _ ar as;let a1:=st.1 _ _ a2 n4;let#[dy,aT]:=Oi.ob;let#[aB,aK]:=Oi.B.ob;let a6:∀j,¬ j∈G->lb Y j=lb s' j:=λj hj=>ad j λk _ h=>hj (pS h);dsimp only;show RF λR jr=>?_;let fin:∀(J2:Hp)(L:BS),NO c CN J2 a b L tot->cW b s' H5 L J2->(∀(k:Nat)(x:Int),(cb G)[k]?=some x->lb L x=some (ch cs k))->(∀j,¬ j∈G->lb L j=lb s' j)->(∀y,G[4]?=some y->lb L y=some (fill (G.drop 5) 16))->dn L<=dn s'+pU nd.cs cs (nb cs.length)+1->R #v[.ref a,.int n,.ref l,.ref Z,v4,v5,none] J2:=λJ2 L O2 ap c2 o2 b1 d2=>jr _ _ (by
   clear jr;let#[dz,ba]:=O2.ob;let a3:lb L (rb n)=some r:=(by rw[o2 _ λw=>by have:=ab _ w;omega];show am);let bN:(r.drop (rs n)).take 8=rY (some nd) (bk n):=by
    let#[r',e1,e2]:=I.R.row n n0 n1;rw[am]at e1;injection e1 with e1;rw[e1,e2,hn]
   show gz λ_ jt=>?_;show#[0,a,dz,0,ba,no _ av av,0,a,b,L,tot,n,r,rfl,O2,n0,n1,a3,λJ3 q3 s3 f3 e3=>jt _ _ ?_];clear jt;rw[bN,jb]at e3;let be:=s3 _ _ (ap.1 _ _ a2 n4);let bx:=s3 _ _ (ap.1 _ _ ar as);let i0:js (([if nd.dir=true then 2 else 1,nd.ln,(nd.cs.length:Int)]++fill ((bk n).take 5) 5).map V.int) 0=some (.int (if nd.dir=true then 2 else 1)):=aD (j:=0) rfl;let i1:js (([if nd.dir=true then 2 else 1,nd.ln,(nd.cs.length:Int)]++fill ((bk n).take 5) 5).map V.int) 1=some (.int nd.ln):=aD (j:=1) rfl;show#[0,a,dz,0,s3 _ _ ba,no _ av av,0,0,q3,_,(0),0,rfl,aW.of e3,i0,0,q3,_,(1),0,rfl,aW.of e3,i1,0,l,0,.inl (aW.of bx),0,(5),rfl,Z,0,aW.of be,λq4 f4=>?_];rw[show dg (G.map V.int) none (some 5)=(G.take 5).map V.int from ie (s:=5)];let s4:=s3.trans (ah (X:=.lst ((G.take 5).map V.int)) f4);show#[a,b,L,tot,n,if nd.dir=true then 2 else 1,nd.ln,(cs.length:Int),q4,G.take 5,r,by rw[rz];rfl,O2.same s4,n0,n1,a3,ag,by rw[HC];omega,λJ5 s5 O5 g5 d5 bW=>?_];let dA:=I.d;show k J5 s5 (nX bk n G) #[O5,I.R.upd n0 n1 (some { nd with cs:=cs }) G lr am a4 ab (λi j y=>uq ao) bC (λbF e=>by injection e with e;rw[<-e];show a5) (by rw[g5,aa3 rfl];rfl) (λj h1 h2=>by rw[g5,aa2 h1];show o2 j h2) (λy U=>by rw[g5,aa2 (by have:=ab y (SO U);omega)];show b1 y U) (λbF e kk y U=>by injection e with e;rw[<-e,g5,aa2 (by have:=ab y (pS U);omega)];show c2 kk y U),af] ((ap.trans (bW.pre s4)).pre S5))
  show yG λQQ ji je=>?_;show#[0,Z,0,.inl (aW.of a1),_,0,rfl,0,?_];rw[rz];cases z:4<G.length
  .rw[decide_eq_true (show(4:Int)<((G.length:Nat):Int)by omega)];show ji _ ?_;let e4:G[4]?=some (G[4]'z):=tp z;let r4:=ab _ (UA z);let i4:js (G.map V.int) 4=some (.int (G[4]'z)):=aD (j:=4) (by rw[M4,e4];rfl);let bR:∀k:Nat,¬ (cb G)[k]?=some (G[4]'z):=λk h=>by
    rw[Hk]at h;split at h
    .have:=uq ao h e4;omega
    .split at h
     .cases h
     .have:=uq ao h e4;omega
   show uW λQQ jt=>?_;show#[0,a,CN,dy,_,.ref b.dr,rfl,aT,T.cl,T.nD,bT kn,b.dr,aB,0,aK,a9 av av,0,Z,_,(4),0,rfl,aW.of a1,i4,0,(5),rfl,Z,0,aW.of a1,λq fq=>?_];rw[show dg (G.map V.int) (some 5) none=(G.drop 5).map V.int from hG (s:=5)];let L:=ah (X:=.lst ((G.drop 5).map V.int)) fq;show#[q,_,(16),rfl,ag,az,by rw[Tu];omega,λJ3 q3 s3 f3 e3=>?_];let S3:=L.trans s3;let O3:=Oi.same S3;show#[b,Y,_,q3,fill (G.drop 5) 16,rfl,O3.B,af,by rw[Oi.tt];omega,aW.of e3,cQ (by rw[Tu];omega),λJ4 D4 B4 g4 _ o4 a0 d4=>jt _ _ ?_];let#[dz,ac]:=O3.ob;let na:a≠Y.dd:=λe=>(by have:=O3.B.hd;rwa[<-e,ac]at this);show fin J4 _ #[#[dz,o4 _ _ ac na],B4,Oi.tt] (st.trans (a0.pre S3)) (λk x h=>?_) (λj hj=>?_) (λy U=>?_) ?_
   .rw[g4,aa2 (λe=>bR k (by rw[<-e];show h))];show hc k x (by have:=(y0.mp h).1;omega) h
   .rw[g4,aa2 (λe=>hj (by rw[e];show UA z))];show a6 j hj
   .rw[e4]at U;injection U with U;rw[g4,aa3 U.symm]
   .show Td d4 ?_;split<;>omega
  .rw[decide_eq_false (show ¬ (4:Int)<((G.length:Nat):Int)by omega)];show je _ ?_;show fin J Y Oi st (λk x h=>hc k x (by have:=(y0.mp h).1;omega) h) a6 (λy U=>absurd (y0.mp U).1 z) af
noncomputable def ph(d:Bool):Str:=if d=true then "dir" else "file"
noncomputable def HJ(x:Option Node):V:=match x with
 |none=>.a7
 |some nd=>.str (ph nd.dir)
variable{a:Addr}{b:BA}{tot d:Nat}{N:NS}{bk:qa4}{n:Int}
theorem NR.at(A:NR c CN H a b s tot N bk d)(L:0<=n)(I:n<24):∃r,lb s (rb n)=some r/\r.length=16/\(r.drop (rs n)).take 8=rY (N n) (bk n)/\∀i k,i<8->(rY (N n) (bk n))[i]?=some k->r[rs n+i]?=some k:=by
 let#[r,G,F]:=A.R.row n L I;show#[r,G,A.O.B.row G,F,λi k hi hk=>?_];rw[<-F,UC,aa3 hi,UP]at hk;show hk
theorem NR.out(A:NR c CN H a b s tot N bk d)(h:n<0\/24<=n):N n=none:=by
 cases e:N n with
 |none=>rfl
 |some nd=>have:=A.R.use n nd e;omega
variable{H':Hp}{Q:VK}{e3:XK}
theorem NR.kind(A:NR c CN H a b s tot N bk d)(q:∀H',aH H H'->Q (HJ (N n)) H'):sS c CN [.ref a,.int n] H Q e3:=by
 show#[a,b,s,tot,n,rfl,A.O,λh=>?_,λI G=>?_]
 .rw[A.out h]at q;show q H λ_ _ e=>e
 .let#[r,F,_,_,g]:=A.at I G;cases e:N n with
  |none =>
   rw[e]at g q;show#[r,(0),.a7,F,g 0 0 az rfl,az,az,rfl,q]
  |some nd =>
   rw[e]at g q;show#[r,if nd.dir=true then 2 else 1,.str (ph nd.dir),F,g 0 _ az rfl,4,?_,q]
   .split<;>decide
   .split<;>decide
   .unfold ph;split<;>rfl
variable{nd:Node}
theorem NR.links(A:NR c CN H a b s tot N bk d)(I:N n=some nd)(q:∀H',aH H H'->Q (.int nd.ln) H'):jz 1 c CN [.ref a,.int n] H Q e3:=by
 let#[G,F]:=A.R.use n nd I;let#[r,L,_,_,g]:=A.at G F;rw[I]at g;show#[a,b,s,tot,n,r,0,A.O,G,F,L,g 1 _ az rfl,q]
theorem NR.size(A:NR c CN H a b s tot N bk d)(I:N n=some nd)(q:∀H',aH H H'->Q (.int nd.cs.length) H'):jz 2 c CN [.ref a,.int n] H Q e3:=by
 let#[G,F]:=A.R.use n nd I;let#[r,L,_,_,g]:=A.at G F;rw[I]at g;show#[a,b,s,tot,n,r,0,A.O,G,F,L,g 2 _ az rfl,q]
variable{s':BS}
theorem NR.bare(A:NR c CN H a b s tot N bk d)(Y:0<=n)(L:n<24){r:qAa}(G:lb s (rb n)=some r)(x:Option Node)(I:BM x=0)(U:∀nd,x=some nd->nd.cs=[])(O:NO c CN H' a b s' tot)(g:∀j,lb s' j=if j=rb n then some (iC r (rY x []) (rs n))else lb s j)(dd:dn s'<=dn s+1):NR c CN H' a b s' tot (cA N n x) (nX bk n []) (d+1):=
 #[O,A.R.upd Y L x [] (A.O.B.row G) G (by rw[I];rfl) (λy F=>by cases F) (λi j y F=>by cases F) (λm _ y F=>by cases F) (λnd e=>by rw[U nd e];show Tp _) (by rw[g,aa3 rfl]) (λj h _=>by rw[g,aa2 h]) (λy F=>by cases F) (λnd _ k y F=>by cases k<;>cases F),Td dd (WZ A.d 1)]
theorem NR.Rq(A:NR c CN H a b s tot N bk d)(G:0<=n)(F:n<24)(k:∀(H':Hp)(s':BS),NR c CN H' a b s' tot (cA N n none) (nX bk n []) (d+1)->cW b s H s' H'->Q .a7 H'):jF c CN [.ref a,.int n] H Q e3:=by
 let#[r,I,_]:=A.at G F;show#[a,b,s,tot,n,r,rfl,A.O,G,F,I,λH' s' O g dd st=>k H' s' (A.bare G F I none rfl (λ_ e=>by cases e) O g (QS dd)) st]
theorem NR.putL(A:NR c CN H a b s tot N bk d)(G:N n=some nd)(m:Int)(k:∀(H':Hp)(s':BS),NR c CN H' a b s' tot (cA N n (some { nd with ln:=m })) bk (d+1)->cW b s H s' H'->Q .a7 H'):sQ c CN [.ref a,.int n,.int m] H Q e3:=by
 let#[L,I]:=A.R.use n nd G;let#[r,hl,lr,Z,_]:=A.at L I;let l5:(fill ((bk n).take 5) 5).length=5:=cQ (by rw[HC];omega);rw[G,jb]at Z;let Y:=A.R.rg n;let ac:=nP L I;let eb:nX bk n (bk n)=bk:=funext λj=>by
  unfold nX;cases z:j=n
  .rw[aa3 z,z]
  .rw[aa2 z]
 show#[a,b,s,tot,n,m,r,2,_,0,A.O,L,I,hl,Z,l5,λH' s' O g dd st=>k H' s' #[O,?_,Td dd (WZ A.d 1)] st];have:=A.R.upd (l2:=lb s') L I (some { nd with ln:=m }) (bk n) lr hl (by rw[A.R.len n,G];rfl) Y (λi j y hi U=>(A.R.Eg n n i j y hi U).2) (λp hp y F w=>by
  let#[i,hi]:=VE F;let#[j,U]:=VE w;show hp (A.R.Eg p n j i y U hi).1) (λab e=>by injection e with e;rw[<-e];show A.R.uS n nd G) (by rw[g,aa3 rfl];rfl) (λj h _=>by rw[g,aa2 h]) (λy F=>by rw[g,aa2 (by have:=Y y (SO F);omega)];show A.R.Ob n y F) (λab e kk y F=>by injection e with e;rw[<-e,g,aa2 (by have:=Y y (pS F);omega)];show A.R.NT n nd G kk y F)
 rw[eb]at this;show this
inductive Gi(c:DA)(CN:Addr)(v:qAh)(H:Hp)(Q:VK)(e:XK):Prop
 |mk(a:Addr)(b:BA)(s:BS)(tot d:Nat)(N:NS)(bk:qa4)(n:Int)(kd:Bool)(_:v=[.ref a,.int n,.str (ph kd)])(_:NR c CN H a b s tot N bk d)(_:0<=n)(_:n<24)(_:∀(H':Hp)(s':BS),NR c CN H' a b s' tot (cA N n (some #[kd,(1),[]])) (nX bk n []) (d+1)->cW b s H s' H'->Q .a7 H')
abbrev Pt:Tg:=inClass (top 42) 5
theorem QC:ax ["self","n","kind"] ["self","n","kind"] (ak Pt):=L2.a8
theorem sY(F:bM K "begin_node" "Nodes.begin_node" Pt f fd)(T:kH K mg CN)(GP:↥Md 4 CN "put_row" (gU c CN)):↥aM 5 f fd ["self","n","kind"] (Gi c CN):=by
 let#[aK,Y,hK]:=T.Hs;show F.cU QC ?_;intros;let#[a,b,s',tot,d,N,bk,n,kd,rfl,G,L,I,k]:=h;let#[dx,ho]:=G.O.ob;let#[r,U,_]:=G.at L I;show#[_,(aq (aR (pm (pv 0) T.cl GP hr ay (aa (pv 1) (aa (fA PySem.F.plainAttrs_tuple X7 PySem.F.type_tuple_index zU (de Y) (aa (pv 2) ae)) (aa ai (aa ai (aa (bq ae) ae)))))))),?_];show#[0,a,dx,0,ho,a9 av av,0,?_];show#[.inr (.inl #[rfl,T.KT aK Y]),0,aK,_,.str (ph kd),if kd=true then 2 else 1,1,hK.up _,1,4,?_]
 .cases kd<;>decide +kernel
 .cases kd
  .intro i hi;have:i=0:=(by(simp at hi;omega));subst this;decide +kernel
  .intro i hi;have:i=0\/i=1:=(by(simp at hi;omega));rcases this with rfl|rfl<;>decide +kernel
 show#[az,λl hf=>?_];let Z:=ah (X:=.lst []) hf;show#[a,b,s',tot,n,_,(1),(0),l,[],r,rfl,G.O.same Z,L,I,U,ag,az,λH' s2 N2 g2 d2 ab=>k H' s2 (G.bare L I U (some #[kd,(1),[]]) (show bf 0=0 by decide) (λnd e=>by injection e with e;rw[<-e]) N2 (λj=>?_) (QS d2)) (ab.pre Z)];rw[g2 j];cases kd<;>rfl
end Fs
namespace L2
open PySem PySem.Spec PyProof.Rows
theorem Md.imp{L:nJ}{k I:Nat}{C:Addr}{m:Str}{sp U:Sp}(G:Md P w K mg base L k C m sp)(hk:k<=I)(h:∀vs H Q E,U vs H Q E->sp vs H Q E):Md P w K mg base L I C m U:=by
 let#[f,fd,ps,F,B,M]:=G;show#[f,fd,ps,(F.mono hk).imp h,B,M]
end L2
namespace Fs
open PySem L2 Dk Tb
noncomputable def us(N:NS)(m:Nat):Nat:=((TM m).map λi:Nat=>BM (N (i:Int))).sum
theorem kC(N:NS)(m:Nat):us N (m+1)=us N m+BM (N (m:Int)):=by
 unfold us;rw[VQ,K4,sum_append];change _+(_+0)=_;omega
theorem HM(N:NS)(n:Int)(x:Option Node)(G:0<=n):∀m:Nat,us (cA N n x) m+(if n<m then BM (N n)else 0)=us N m+(if n<m then BM x else 0)
 |0=>by rw[aa2 af,aa2 af];rfl
 |m+1=>by
  let F:=HM N n x G m;rw[kC,kC];cases z:(m:Int)=n
  .rw[aa2 af,aa2 af]at F;rw[aa3 af,aa3 af,show cA N n x (m:Int)=x from aa3 z,z];omega
  .rw[show cA N n x (m:Int)=N (m:Int)from aa2 z];cases y:n<m
   .rw[aa3 y,aa3 y]at F;rw[aa3 af,aa3 af];omega
   .rw[aa2 y,aa2 y]at F;rw[aa2 af,aa2 af];omega
variable{tot:Nat}{N:NS}{bk:qa4}{l1:Int->Option (List Int)}
theorem Rep.ya(R:Rep l1 tot N bk):∀m,(wg bk m).length=us N m
 |0=>rfl
 |m+1=>by rw[km,wh,R.ya m,kC,R.len]
theorem Rep.Cb(R:Rep l1 tot N bk)(n:Int):(bk n).Nodup:=by
 show TU.mpr λi j hi F G e=>?_;have:=(R.Eg n n i j _ (tp hi) (by rw[e];show tp F)).2;omega
theorem Rep.qW(R:Rep l1 tot N bk):∀m,(wg bk m).Nodup
 |0=>Vr
 |m+1=>by
  rw[km];show Ud.mpr #[R.qW m,R.Cb m,λx L y F e=>?_];subst e;let#[i,h1,h2]:=nj.mp L;let#[p,I]:=VE h2;let#[q,G]:=VE F;have:=(R.Eg _ _ p q x I G).1;omega
theorem Rep.DH(R:Rep l1 tot N bk):(ub tot bk).length+us N 24=tot:=by
 rw[<-R.ya 24];let L:((TM tot).map λi:Nat=>48+(i:Int)).Nodup:=Z9 _ (λa b h e=>h af) aam;let F:=R.qW 24;let sub:∀x∈wg bk 24,x∈(TM tot).map λi:Nat=>48+(i:Int):=λx G=>by
  let#[i,_,h2]:=nj.mp G;have:=R.rg _ x h2;show Tc.mpr #[(x-48).toNat,Xs.mpr af,af]
 let p:(((TM tot).map λi:Nat=>48+(i:Int)).filter λx => !vG bk x).Perm (wg bk 24):=by
  show(List.perm_ext_iff_of_nodup (L.filter _) F).mpr λx=>?_;rw[Ue];unfold vG;show#[λh=>?_,λh=>#[sub x h,?_]]
  .show Ve λw=>?_;rw[decide_eq_true w]at h;show absurd h.2 (by nofun)
  .rw[decide_eq_false (λw=>w h)];rfl
 rw[<-p.length_eq];let e:=List.length_eq_countP_add_countP (vG bk) (l:=(TM tot).map λi:Nat=>48+(i:Int));rw[Xc,Xc]at e;let I:(((TM tot).map λi:Nat=>48+(i:Int)).filter λx=>decide (¬ vG bk x=true))=((TM tot).map λi:Nat=>48+(i:Int)).filter λx => !vG bk x:=congrArg (λf=>List.filter f _) (funext λx=>by cases vG bk x<;>rfl);rw[I]at e;rw[rz,Xo]at e;unfold ub;omega
structure HP(tot:Nat)(N:NS):Prop where
 use:∀n nd,N n=some nd->0<=n/\n<24
 uS:∀n nd,N n=some nd->nd.cs.length<=320
 fit:us N 24<=tot
 tt:tot<=252
structure b6 where
 C:Addr
 St:Type
 At:Hp->Addr->St->Nat->NS->Nat->Prop
 own:St->Addr->Prop
abbrev b6.Step(M:b6)(m:M.St)(H:Hp)(m':M.St)(H':Hp):Prop:=Off (M.own m) H H'/\∀a,M.own m' a->M.own m a\/H a=none
section
variable(M:b6)
inductive xX(v:qAh)(H:Hp)(Q:VK)(e:XK):Prop
 |mk(a:Addr)(m:M.St)(tot d:Nat)(N:NS)(n:Int)(_:v=[.ref a,.int n])(_:M.At H a m tot N d)(_:∀H',aH H H'->Q (HJ (N n)) H')
inductive rR(v:qAh)(H:Hp)(Q:VK)(e:XK):Prop
 |mk(a:Addr)(m:M.St)(tot d:Nat)(N:NS)(n:Int)(nd:Node)(_:v=[.ref a,.int n])(_:M.At H a m tot N d)(_:N n=some nd)(_:∀H',aH H H'->Q (.int nd.ln) H')
inductive xV(v:qAh)(H:Hp)(Q:VK)(e:XK):Prop
 |mk(a:Addr)(m:M.St)(tot d:Nat)(N:NS)(n:Int)(nd:Node)(_:v=[.ref a,.int n])(_:M.At H a m tot N d)(_:N n=some nd)(_:∀H',aH H H'->Q (.int nd.cs.length) H')
inductive rF(v:qAh)(H:Hp)(Q:VK)(e:XK):Prop
 |mk(a:Addr)(m:M.St)(tot d:Nat)(N:NS)(n:Int)(nd:Node)(_:v=[.ref a,.int n])(_:M.At H a m tot N d)(_:N n=some nd)(_:∀(H':Hp)(q:Addr),aH H H'->H q=none->H' q=some (.lst (nd.cs.map V.int))->Q (.ref q) H')
inductive sR(v:qAh)(H:Hp)(Q:VK)(e:XK):Prop
 |mk(a:Addr)(m:M.St)(tot d:Nat)(N:NS)(n:Int)(kd:Bool)(_:v=[.ref a,.int n,.str (ph kd)])(_:M.At H a m tot N d)(_:N n=none)(_:0<=n)(_:n<24)(_:∀(H':Hp)(m':M.St),M.At H' a m' tot (cA N n (some #[kd,(1),[]])) (d+1)->M.Step m H m' H'->Q .a7 H')
inductive E9(v:qAh)(H:Hp)(Q:VK)(e:XK):Prop
 |mk(a:Addr)(m:M.St)(tot d:Nat)(N:NS)(n:Int)(nd:Node)(_:v=[.ref a,.int n])(_:M.At H a m tot N d)(_:N n=some nd)(_:∀(H':Hp)(m':M.St),M.At H' a m' tot (cA N n none) (d+1)->M.Step m H m' H'->Q .a7 H')
inductive yN(v:qAh)(H:Hp)(Q:VK)(e:XK):Prop
 |mk(a:Addr)(m:M.St)(tot d:Nat)(N:NS)(n ln:Int)(nd:Node)(_:v=[.ref a,.int n,.int ln])(_:M.At H a m tot N d)(_:N n=some nd)(_:∀(H':Hp)(m':M.St),M.At H' a m' tot (cA N n (some { nd with ln:=ln })) (d+1)->M.Step m H m' H'->Q .a7 H')
inductive yf(v:qAh)(H:Hp)(Q:VK)(e:XK):Prop
 |mk(a:Addr)(m:M.St)(tot d:Nat)(N:NS)(n:Int)(nd:Node)(l:Addr)(cs:qAa)(_:v=[.ref a,.int n,.ref l])(_:M.At H a m tot N d)(_:N n=some nd)(_:H l=some (.lst (cs.map V.int)))(_:¬ M.own m l)(_:cs.length<=320)(_:us N 24+bf cs.length<=tot+bf nd.cs.length)(_:∀(H':Hp)(m':M.St),M.At H' a m' tot (cA N n (some { nd with cs:=cs })) (d+pU nd.cs cs (nb cs.length)+2)->M.Step m H m' H'->Q .a7 H')
inductive Fd(v:qAh)(H:Hp)(Q:VK)(e:XK):Prop
 |mk(a:Addr)(m:M.St)(tot d:Nat)(N:NS)(_:v=[.ref a])(_:M.At H a m tot N d)(_:d<=24)(_:∀(H':Hp)(m':M.St),M.At H' a m' tot N 0->M.Step m H m' H'->Q .a7 H')
end
noncomputable def Sr:List Str:=["kind_of","links_of","size_of","cells_of","begin_node","end_node","put_links","put_cells","finish"]
structure b6.Ok(M:b6)(P:By)(w:R4)(K:SU)(mg:qa3)(base:Heap):Prop where
 cl:mZ K M.C
 nT:cC K M.C "total"
 ob:∀{H:Hp}{a:Addr}{m:M.St}{tot:Nat}{N:NS}{d:Nat},M.At H a m tot N d->∃dx fs,H a=some (.ins M.C dx fs)/\fs.lookup ("total" : Str)=some (V.int (tot:Nat))/\∀x∈Sr,fs.lookup x=none
 na:∀{H a m tot N d},M.At H a m tot N d->¬ M.own m a
 live:∀{H a m tot N d x},M.At H a m tot N d->M.own m x->H x≠none
 nt:∀{H a m tot N d x ys},M.At H a m tot N d->M.own m x->H x≠some (.tup ys)
 off:∀{H H' a m tot N d}{B:qa0},M.At H a m tot N d->Off B H H'->(∀x,M.own m x->¬ B x)->¬ B a->M.At H' a m tot N d
 ok:∀{H a m tot N d},M.At H a m tot N d->HP tot N
 le:∀{H a m tot N d e},M.At H a m tot N d->d<=e->M.At H a m tot N e
 kind:↥Md 7 M.C "kind_of" (xX M)
 links:↥Md 7 M.C "links_of" (rR M)
 size:↥Md 7 M.C "size_of" (xV M)
 cells:↥Md 7 M.C "cells_of" (rF M)
 begin:↥Md 7 M.C "begin_node" (sR M)
 end_:↥Md 7 M.C "end_node" (E9 M)
 putL:↥Md 7 M.C "put_links" (yN M)
 EL:↥Md 7 M.C "put_cells" (yf M)
 fin:↥Md 7 M.C "finish" (Fd M)
variable{M:b6}{H H':Hp}{a:Addr}{d:Nat}
theorem b6.Ok.same(O:M.Ok P w K mg base){m:M.St}(A:M.At H a m tot N d)(s:aH H H'):M.At H' a m tot N d:=O.off (B:=λ_=>False) A (λx u e _=>s x u e) (λ_ _ z=>z) id
noncomputable abbrev sL(c:DA)(CN:Addr):b6:=#[CN,BA×BS×(Int->List Int),λH a m tot N d=>NR c CN H a m.1 m.2.1 tot N m.2.2 d,λm x=>iA m.1 m.2.1 x]
variable{c:DA}{CN:Addr}
theorem NR.na{b:BA}{s:BS}(G:NR c CN H a b s tot N bk d):¬ iA b s a:=λz=>by
 let#[dx,F]:=G.O.ob;let#[Z,h2]:=G.O.B.ob;rcases z with z|z|z|z|z|⟨x,L,z⟩
 .rw[z,h2]at F;simp only[UB,HO.ins.injEq]at F;have:=F.2.2;rw[iU kd,iU kn]at this;injection this with t _;injection t with U _;show absurd U av
 .let#[I,#[Y,q],_]:=G.O.B.dk;rw[z,q]at F;simp only[UB,HO.ins.injEq]at F;have:=F.2.2;rw[dJ,iU kn]at this;injection this with _ t;injection t with _ t;cases t
 .let#[I,D]:=G.O.B.dk;rwa[z,D.hb]at F
 .rw[z,G.O.B.hd]at F;cases F
 .let#[I,D]:=G.O.B.dk;let#[ns,q]:=fS D.hc a z;rwa[q.1]at F
 .rw[z,(G.O.B.hr x L).1]at F;cases F
theorem JN(T:kH K mg CN)(gK:↥Md 5 CN "kind_of" (sS c CN))(gL:↥Md 5 CN "links_of" (jz 1 c CN))(gS:↥Md 5 CN "size_of" (jz 2 c CN))(gC:↥Md 6 CN "cells_of" (Kg c CN))(gB:↥Md 5 CN "begin_node" (Gi c CN))(gE:↥Md 5 CN "end_node" (jF c CN))(Z:↥Md 5 CN "put_links" (sQ c CN))(ab:↥Md 7 CN "put_cells" (JZ c CN))(gF:↥Md 7 CN "finish" (oU c CN)):(sL c CN).Ok P w K mg base where
 cl:=T.cl
 nT:=T.nT
 ob A:=by
  let#[dx,h]:=A.O.ob;show#[dx,_,h,jn,λx I=>a9 ?_ ?_]
  .intro e;subst e;show absurd I av
  .intro e;subst e;show absurd I av
 na A:=A.na
 live A h:=A.O.B.live h
 nt A h e:=by
  let#[ac,h2]:=A.O.B.ob;let#[d0,D]:=A.O.B.dk;let#[ad,q0]:=D.ob;rcases h with z|z|z|z|z|⟨x,I,z⟩
  .rw[z,h2]at e;cases e
  .rw[z,q0]at e;cases e
  .rw[z,D.hb]at e;cases e
  .rw[z,A.O.B.hd]at e;cases e
  .let#[ns,q]:=fS D.hc _ z;rwa[q.1]at e
  .rw[z,(A.O.B.hr x I).1]at e;cases e
 off A o h1 h2:=by
  let#[dx,h]:=A.O.ob;show#[#[#[dx,o _ _ h h2],A.O.B.off o h1,A.O.tt],A.R,A.d]
 ok A:=#[A.R.use,A.R.uS,by have:=A.R.DH;omega,by have:=A.O.tt;have:=A.O.B.ln;omega]
 le A h:=#[A.O,A.R,Td A.d h]
 kind:=gK.imp az λvs H Q E h=>by
  let#[a,m,tot,d,N,n,rfl,A,q]:=h;show A.kind q
 links:=gL.imp az λvs H Q E h=>by
  let#[a,m,tot,d,N,n,nd,rfl,A,F,q]:=h;show A.links F q
 size:=gS.imp az λvs H Q E h=>by
  let#[a,m,tot,d,N,n,nd,rfl,A,F,q]:=h;show A.size F q
 cells:=gC.imp az λvs H Q E h=>by
  let#[a,m,tot,d,N,n,nd,rfl,A,F,q]:=h;show#[a,2,tot,d,N,_,n,nd,rfl,A,F,q]
 begin:=gB.imp az λvs H Q E h=>by
  let#[a,m,tot,d,N,n,kd,rfl,A,_,U,L,q]:=h;show#[a,2,tot,d,N,_,n,kd,rfl,A,U,L,λH' s' G st=>q H' (m.1,s',_) G st]
 end_:=gE.imp az λvs H Q E h=>by
  let#[a,m,tot,d,N,n,nd,rfl,A,F,q]:=h;let#[U,L]:=A.R.use n nd F;show A.Rq U L λH' s' G st=>q H' (m.1,s',_) G st
 putL:=Z.imp az λvs H Q E h=>by
  let#[a,m,tot,d,N,n,ln,nd,rfl,A,F,q]:=h;show A.putL F ln λH' s' G st=>q H' (m.1,s',_) G st
 EL:=ab.imp az λvs H Q E h=>by
  let#[a,m,tot,d,N,n,nd,l,cs,rfl,A,F,hl,no,l3,sp,q]:=h;let e:=A.R.DH;let e2:(m.2.2 n).length=bf nd.cs.length:=(by rw[A.R.len n,F];rfl);show#[a,2,tot,d,N,_,n,nd,l,cs,rfl,A,F,hl,no,l3,af,λH' s' Y G st=>q H' (m.1,s',Y) G st]
 fin:=gF.imp az λvs H Q E h=>by
  let#[a,m,tot,d,N,rfl,A,hd,q]:=h;show#[a,2,tot,d,N,0,A,hd,λH' s' G _ st=>q H' (m.1,s',_) G st]
noncomputable def Bq(t k l s:V):List (Str×V):=bz "lists" s (bz "links" l (bz "kinds" k (bz "total" t [])))
variable{t k l s:V}
theorem LI:(Bq t k l s).lookup ("total" : Str)=some t:=by unfold Bq;rw[aN,aa2 av,aN,aa2 av,aN,aa2 av,aN,aa3 rfl]
theorem Cg:(Bq t k l s).lookup ("kinds" : Str)=some k:=by unfold Bq;rw[aN,aa2 av,aN,aa2 av,aN,aa3 rfl]
theorem yQ:(Bq t k l s).lookup ("links" : Str)=some l:=by unfold Bq;rw[aN,aa2 av,aN,aa3 rfl]
theorem vz:(Bq t k l s).lookup ("lists" : Str)=some s:=by unfold Bq;rw[aN,aa3 rfl]
theorem Ih{m:Str}(h1:¬ m = "total")(h2:¬ m = "kinds")(G:¬ m = "links")(F:¬ m = "lists"):(Bq t k l s).lookup m=none:=by unfold Bq;rw[aN,aa2 F,aN,aa2 G,aN,aa2 h2,aN,aa2 h1];rfl
abbrev PV:=Addr×Node
noncomputable def fk(x:PV):V:=.str (ph x.2.dir)
noncomputable def fl(x:PV):V:=.int x.2.ln
noncomputable def fs(x:PV):V:=.ref x.1
structure PS where
 kd:Addr
 lk:Addr
 ls:Addr
 L:List (Int×PV)
structure uA(CP:Addr)(H:Hp)(a:Addr)(m:PS)(tot:Nat)(N:NS)(d:Nat):Prop where
 ob:∃dx,H a=some (.ins CP dx (Bq (.int tot) (.ref m.kd) (.ref m.lk) (.ref m.ls)))
 hk:H m.kd=some (.dK (dk fk m.L))
 hl:H m.lk=some (.dK (dk fl m.L))
 hs:H m.ls=some (.dK (dk fs m.L))
 hr:∀x∈m.L,H x.2.1=some (.lst (x.2.2.cs.map V.int))
 nd:(m.L.map (·.1)).Nodup
 ne:m.kd≠m.lk/\m.kd≠m.ls/\m.lk≠m.ls
 eN:∀n,N n=(look m.L n).map (·.2)
 ok:HP tot N
def vQ(m:PS)(x:Addr):Prop:=x=m.kd\/x=m.lk\/x=m.ls\/∃y∈m.L,x=y.2.1
abbrev jg(CP:Addr):b6:=#[CP,PS,uA CP,vQ]
structure Az(K:SU)(mg:qa3)(CP:Addr):Prop where
 cl:mZ K CP
 nT:cC K CP "total"
 nK:cC K CP "kinds"
 nL:cC K CP "links"
 nS:cC K CP "lists"
 len:mg "len" = none
 list:mg "list" = none
variable{CP:Addr}{m:PS}{n:Int}
theorem uA.at{nd:Node}(A:uA CP H a m tot N d)(F:N n=some nd):∃q,look m.L n=some (q,nd)/\H q=some (.lst (nd.cs.map V.int)):=by
 rw[A.eN]at F;let#[#[q,G],e,rfl]:=SV.mp F;show#[q,e,A.hr _ (fz e)]
theorem uA.len(A:uA CP H a m tot N d):m.L.length<=24:=by
 have:=LZ 24 0 (m.L.map (·.1)) A.nd λx F=>by
  let#[y,G,rfl]:=Tc.mp F;let e:=jd A.nd (show(y.1,y.2)∈m.L from G);have:=A.ok.use y.1 y.2.2 (by rw[A.eN,e];rfl);omega
 (rw[rz]at this;assumption)
variable{x:Addr}
theorem uA.live(A:uA CP H a m tot N d)(h:vQ m x):H x≠none:=by
 rcases h with rfl|rfl|rfl|⟨y,F,rfl⟩
 .rw[A.hk];nofun
 .rw[A.hl];nofun
 .rw[A.hs];nofun
 .rw[A.hr y F];nofun
theorem uA.na(A:uA CP H a m tot N d):¬ vQ m a:=λh=>by
 let#[dx,e]:=A.ob;rcases h with h|h|h|⟨y,F,h⟩
 .rw[h,A.hk]at e;cases e
 .rw[h,A.hl]at e;cases e
 .rw[h,A.hs]at e;cases e
 .rw[h,A.hr y F]at e;cases e
theorem uA.off{B:qa0}(A:uA CP H a m tot N d)(o:Off B H H')(h1:∀x,vQ m x->¬ B x)(h2:¬ B a):uA CP H' a m tot N d:=by
 let#[dx,e]:=A.ob;show#[#[dx,o _ _ e h2],o _ _ A.hk (h1 _ (.inl rfl)),o _ _ A.hl (h1 _ (.inr (.inl rfl))),o _ _ A.hs (h1 _ (.inr (.inr (.inl rfl)))),λx F=>o _ _ (A.hr x F) (h1 _ (.inr (.inr (.inr #[x,F,rfl])))),A.nd,A.ne,A.eN,A.ok]
abbrev ON:Tg:=inClass (top 73) 1
abbrev JB:Tg:=inClass (top 73) 2
abbrev JX:Tg:=inClass (top 73) 3
abbrev KJ:Tg:=inClass (top 73) 4
abbrev Kw:Tg:=inClass (top 73) 9
theorem Rt:ax ["self","n"] ["self","n"] (ak ON):=L2.a8
theorem Bb(F:bM K "kind_of" "PlainNodes.kind_of" ON f fd)(T:Az K mg CP):↥aM 1 f fd ["self","n"] (xX (jg CP)):=by
 show F.cU Rt ?_;intros;let#[a,m,tot,d,N,n,rfl,G,q]:=h;let#[dx,I]:=G.ob;show#[_,(aq (aG (CM (cV hr) (aE (pv 0) rfl) (pv 1) #[1,1]))),?_];let g:=eU.k (k:=NC n) G.hk;rw[cm]at g;show#[0,a,CP,dx,_,.ref m.kd,rfl,I,T.cl,T.nK,Cg,m.kd,rfl,.inl #[_,.inl G.hk],0,_,g,?_];let e:((look m.L n).map fk).getD .a7=HJ (N n):=by
  rw[G.eN n];cases look m.L n<;>rfl
 rw[e];show q H λ_ _ e=>e
theorem NF:ax ["self","n"] ["self","n"] (ak JB):=L2.a8
theorem zK(F:bM K "links_of" "PlainNodes.links_of" JB f fd)(T:Az K mg CP):↥aM 1 f fd ["self","n"] (rR (jg CP)):=by
 show F.cU NF ?_;intros;let#[a,m,tot,d,N,n,nd,rfl,G,U,q]:=h;let#[dx,L]:=G.ob;let#[p,I,Y]:=G.at U;show#[_,(aq (aG (gu (cV hr) (aE (pv 0) rfl) (pv 1) bZ))),?_];let g:=eU.k (k:=NC n) G.hl;rw[cm,I]at g;show#[0,a,CP,dx,_,.ref m.lk,rfl,L,T.cl,T.nL,yQ,0,m.lk,0,g,q H λ_ _ e=>e]
theorem LB:ax ["self","n"] ["self","n"] (ak JX):=L2.a8
theorem Dw(F:bM K "size_of" "PlainNodes.size_of" JX f fd)(T:Az K mg CP):↥aM 1 f fd ["self","n"] (xV (jg CP)):=by
 show F.cU LB ?_;intros;let#[a,m,tot,d,N,n,nd,rfl,G,Y,q]:=h;let#[dx,U]:=G.ob;let#[p,L,I]:=G.at Y;show#[_,(aq (aG (aC aO (by rfl) T.len T7 (aa (gu (cV hr) (aE (pv 0) rfl) (pv 1) bZ) ae)))),?_];let g:=eU.k (k:=NC n) G.hs;rw[cm,L]at g;show#[0,a,CP,dx,_,.ref m.ls,rfl,U,T.cl,T.nS,vz,0,m.ls,0,g,p,0,.inl (aW.of I),?_];rw[rz];show q H λ_ _ e=>e
theorem MZ:ax ["self","n"] ["self","n"] (ak KJ):=L2.a8
theorem An(F:bM K "cells_of" "PlainNodes.cells_of" KJ f fd)(T:Az K mg CP):↥aM 1 f fd ["self","n"] (rF (jg CP)):=by
 show F.cU MZ ?_;intros;let#[a,m,tot,d,N,n,nd,rfl,G,Z,q]:=h;let#[dx,Y]:=G.ob;let#[p,U,L]:=G.at Z;show#[_,(aq (aG (dH cq (by rfl) T.list dI (aa (gu (cV hr) (aE (pv 0) rfl) (pv 1) bZ) ae)))),?_];let g:=eU.k (k:=NC n) G.hs;rw[cm,U]at g;show#[0,a,CP,dx,_,.ref m.ls,rfl,Y,T.cl,T.nS,vz,0,m.ls,0,g,p,0,.inl (aW.of L),λl I=>q _ l (ah I) I ag]
theorem MW:ax ["self"] ["self"] (ak Kw):=L2.a8
theorem Fc(F:bM K "finish" "PlainNodes.finish" Kw f fd)(T:Az K mg CP):↥aM 1 f fd ["self"] (Fd (jg CP)):=by
 show F.cU MW ?_;intros;let#[a,m,tot,d,N,rfl,G,hd,q]:=h;show#[_,(aq GQ),q H m #[G.ob,G.hk,G.hl,G.hs,G.hr,G.nd,G.ne,G.eN,G.ok] #[λ_ _ e _=>e,λ_ h=>.inl h]]
theorem Di{y:Addr}{v:HO}(h:upd H x v y=none):H y=none:=by
 cases z:y=x
 .subst z;rwa[ag]at h
 .rw[au z]at h;show h
theorem nC{f:PV->V}{l:List (Int×PV)}{k:Int}{a b:PV}(nd:(l.map (·.1)).Nodup)(h:look l k=some b)(e:f a=f b):dk f (dG l k a)=dk f l:=by
 unfold dk dG;rw[VM];show Zi λx F=>?_;change(NC (if x.1=k then(k,a)else x).1,f (if x.1=k then(k,a)else x).2)=_;cases z:x.1=k
 .have:=jd nd (show(x.1,x.2)∈l from F);rw[z,h]at this;injection this with this;rw[aa3 z, <-this,e,z]
 .rw[aa2 z]
theorem HP.up(K:HP tot N)(G:0<=n)(F:n<24)(x:Option Node)(I:∀nd,x=some nd->nd.cs.length<=320)(h:us N 24+BM x<=tot+BM (N n)):HP tot (cA N n x):=by
 show#[λm nd e=>?_,λm nd e=>?_,?_,K.tt]
 .by_cases z:m=n
  .rw[z];show#[G,F]
  .rw[show cA N n x m=N m from aa2 z]at e;show K.use m nd e
 .by_cases z:m=n
  .rw[show cA N n x m=x from aa3 z]at e;show I nd e
  .rw[show cA N n x m=N m from aa2 z]at e;show K.uS m nd e
 .have:=HM N n x G 24;rw[aa3 (show n<((24:Nat):Int)from F),aa3 (show n<((24:Nat):Int)from F)]at this;omega
theorem uA.re{d':Nat}{N':NS}(A:uA CP H a m tot N d)(F:List (Int×PV))(hk:H' m.kd=some (.dK (dk fk F)))(hl:H' m.lk=some (.dK (dk fl F)))(hs:H' m.ls=some (.dK (dk fs F)))(o:∀x u,H x=some u->x≠m.kd->x≠m.lk->x≠m.ls->H' x=some u)(Y:∀x∈F,(H x.2.1=none/\H' x.2.1=some (.lst (x.2.2.cs.map V.int)))\/(∃y∈m.L,x.2.1=y.2.1/\x.2.2.cs=y.2.2.cs))(nd:(F.map (·.1)).Nodup)(eN:∀n,N' n=(look F n).map (·.2))(ok:HP tot N'):uA CP H' a #[m.kd,m.lk,m.ls,F] tot N' d'/\(jg CP).Step m H #[m.kd,m.lk,m.ls,F] H':=by
 let na:=A.na;let#[dx,ho]:=A.ob;let Z:∀y∈m.L,y.2.1≠m.kd/\y.2.1≠m.lk/\y.2.1≠m.ls:=λy G=>by
  let e:=A.hr y G;show#[λz=>?_,λz=>?_,λz=>?_]
  .rw[z,A.hk]at e;cases e
  .rw[z,A.hl]at e;cases e
  .rw[z,A.hs]at e;cases e
 show#[#[#[dx,o _ _ ho (λz=>na (.inl z)) (λz=>na (.inr (.inl z))) λz=>na (.inr (.inr (.inl z)))],hk,hl,hs,λx U=>?_,nd,A.ne,eN,ok],λx u e z=>o x u e (λy=>z (.inl y)) (λy=>z (.inr (.inl y))) (λy=>z (.inr (.inr (.inl y)))),λx U=>?_]
 .rcases Y x U with h|⟨y,G,I,e2⟩
  .show h.2
  .let#[z1,z2,z3]:=Z y G;rw[I,e2];show o _ _ (A.hr y G) z1 z2 z3
 .rcases U with h|h|h|⟨y,G,h⟩
  .show .inl (.inl h)
  .show .inl (.inr (.inl h))
  .show .inl (.inr (.inr (.inl h)))
  .rcases Y y G with q|⟨y2,ab,I,_⟩
   .show .inr (by rw[h];show q.1)
   .show .inl (.inr (.inr (.inr #[y2,ab,h.trans I])))
abbrev JF:Tg:=inClass (top 73) 5
abbrev KQ:Tg:=inClass (top 73) 6
abbrev Ip:Tg:=inClass (top 73) 7
abbrev KU:Tg:=inClass (top 73) 8
theorem Ma:ax ["self","n","links"] ["self","n","links"] (ak Ip):=L2.a8
theorem Cq(F:bM K "put_links" "PlainNodes.put_links" Ip f fd)(T:Az K mg CP):↥aM 1 f fd ["self","n","links"] (yN (jg CP)):=by
 show F.cU Ma ?_;intros;let#[a,m,tot,d,N,n,ln,nd,rfl,G,U,q]:=h;let hs:=y1;let#[dx,ho]:=G.ob;let#[p,I,e2]:=G.at U;let#[n0,Z]:=G.ok.use n nd U;let ll:=G.len;show#[_,(aq (fO (cV hr) (aE (pv 0) rfl) (pv 1) (pv 2) rfl)),?_];show#[0,0,a,CP,dx,_,.ref m.lk,rfl,ho,T.cl,T.nL,yQ,0,m.lk,0,jJ.k (k:=NC n) G.hl (by rw[iT];omega),?_];rw[show putK (dk fl m.L) (NC n) (V.int ln)=dk fl (dG m.L n (p, { nd with ln:=ln }))from gY (f:=fl) (a:=(p, { nd with ln:=ln })) I];let#[A2,st]:=G.re (d':=d+1) (H':=upd H m.lk (.dK (dk fl (dG m.L n (p, { nd with ln:=ln }))))) (N':=cA N n (some { nd with ln:=ln })) (dG m.L n (p, { nd with ln:=ln })) (by rw[au G.ne.1,nC (f:=fk) (a:=(p, { nd with ln:=ln })) G.nd I rfl];show G.hk) ag (by rw[au G.ne.2.2.symm,nC (f:=fs) (a:=(p, { nd with ln:=ln })) G.nd I rfl];show G.hs) (λx u e _ z _=>by rw[au z];show e) (λx Y=>by
  rcases mem_set Y with rfl|h
  .show .inr #[_,fz I,1]
  .show .inr #[x,h.1,1]) (by rw[iR];show G.nd) (λj=>by
  rw[iI j I];cases z:j=n
  .rw[show cA N n _ j=_ from aa3 z,aa3 z];rfl
  .rw[show cA N n _ j=N j from aa2 z,aa2 z];show G.eN j) (G.ok.up n0 Z _ (λab e=>by injection e with e;rw[<-e];show G.ok.uS n nd U) (by
  rw[U];change _+bf _<=_+bf _;have:=G.ok.fit;omega))
 show q _ _ A2 st
theorem MY:ax ["self","n","cells"] ["self","n","cells"] (ak KU):=L2.a8
theorem Cy(F:bM K "put_cells" "PlainNodes.put_cells" KU f fd)(T:Az K mg CP):↥aM 1 f fd ["self","n","cells"] (yf (jg CP)):=by
 show F.cU MY ?_;intros;let#[a,m,tot,d,N,n,nd,l,cs,rfl,G,Y,hl,ac,l3,sp,q]:=h;let hs:=y1;let#[dx,ho]:=G.ob;let#[p,U,e2]:=G.at Y;let#[n0,n1]:=G.ok.use n nd Y;let ll:=G.len;show#[_,(aq (fO (cV hr) (aE (pv 0) rfl) (pv 1) (dH cq (by rfl) T.list dI (aa (pv 2) ae)) rfl)),?_];show#[0,l,0,.inl (aW.of hl),λr fr=>?_];let I:=ah (X:=.lst (cs.map V.int)) fr;show#[0,a,CP,dx,_,.ref m.ls,rfl,I _ _ ho,T.cl,T.nS,vz,0,m.ls,0,jJ.k (k:=NC n) (I _ _ G.hs) (by rw[iT];omega),?_];rw[show putK (dk fs m.L) (NC n) (V.ref r)=dk fs (dG m.L n (r, { nd with cs:=cs }))from gY (f:=fs) (a:=(r, { nd with cs:=cs })) U];let nr:r≠m.ls:=λe=>(by rwa[e,G.hs]at fr);let#[A2,st]:=G.re (d':=d+pU nd.cs cs (nb cs.length)+2) (H':=upd (upd H r (.lst (cs.map V.int))) m.ls (.dK (dk fs (dG m.L n (r, { nd with cs:=cs }))))) (N':=cA N n (some { nd with cs:=cs })) (dG m.L n (r, { nd with cs:=cs })) (by rw[au G.ne.2.1,nC (f:=fk) (a:=(r, { nd with cs:=cs })) G.nd U rfl];show I _ _ G.hk) (by rw[au G.ne.2.2,nC (f:=fl) (a:=(r, { nd with cs:=cs })) G.nd U rfl];show I _ _ G.hl) ag (λx u e _ _ z=>by rw[au z];show I _ _ e) (λx Z=>by
  rcases mem_set Z with rfl|h
  .show .inl #[fr,by rw[au nr,ag]]
  .show .inr #[x,h.1,1]) (by rw[iR];show G.nd) (λj=>by
  rw[iI j U];cases z:j=n
  .rw[show cA N n _ j=_ from aa3 z,aa3 z];rfl
  .rw[show cA N n _ j=N j from aa2 z,aa2 z];show G.eN j) (G.ok.up n0 n1 _ (λab e=>by injection e with e;rw[<-e];show l3) (by rw[Y];show sp))
 show q _ _ A2 st
theorem LK:ax ["self","n","kind"] ["self","n","kind"] (ak JF):=L2.a8
theorem y9(F:bM K "begin_node" "PlainNodes.begin_node" JF f fd)(T:Az K mg CP):↥aM 1 f fd ["self","n","kind"] (sR (jg CP)):=by
 show F.cU LK ?_;intros;let#[a,m,tot,d,N,n,kd,rfl,G,hn,n0,n1,q]:=h;let hs:=y1;let#[dx,ho]:=G.ob;let ll:=G.len;let na:=G.na;let U:look m.L n=none:=by
  have:=G.eN n;rw[hn]at this;show Yz.mp this.symm
 let pk:∀r:Addr,putK (dk fk m.L) (NC n) (.str (ph kd))=dk fk (m.L++[(n,(r,#[kd,(1),[]]))]):=λr=>eW (f:=fk) (a:=(r,#[kd,(1),[]])) U;let pl:∀r:Addr,putK (dk fl m.L) (NC n) (.int 1)=dk fl (m.L++[(n,(r,#[kd,(1),[]]))]):=λr=>eW (f:=fl) (a:=(r,#[kd,(1),[]])) U;let ao:∀r:Addr,putK (dk fs m.L) (NC n) (.ref r)=dk fs (m.L++[(n,(r,#[kd,(1),[]]))]):=λr=>eW (f:=fs) (a:=(r,#[kd,(1),[]])) U;show#[_,(aj (fO (cV hr) (aE (pv 0) rfl) (pv 1) (pv 2) rfl)
  (aj (fO (cV hr) (aE (pv 0) rfl) (pv 1) ai rfl)
  (aq (fO (cV hr) (aE (pv 0) rfl) (pv 1) (bq ae) rfl)))),?_]
 show#[0,0,a,CP,dx,_,.ref m.kd,rfl,ho,T.cl,T.nK,Cg,0,m.kd,0,jJ.k (k:=NC n) G.hk (by rw[iT];omega),?_];let k1:upd H m.kd (.dK (putK (dk fk m.L) (NC n) (.str (ph kd)))) m.kd=some (.dK (putK (dk fk m.L) (NC n) (.str (ph kd)))):=ag;let I:∀x u,H x=some u->x≠m.kd->upd H m.kd (.dK (putK (dk fk m.L) (NC n) (.str (ph kd)))) x=some u:=λx u e z=>(by rw[au z];show e);let f1:∀x,upd H m.kd (.dK (putK (dk fk m.L) (NC n) (.str (ph kd)))) x=none->H x=none:=λx=>Di;generalize upd H m.kd (.dK (putK (dk fk m.L) (NC n) (.str (ph kd))))=H1 at *;let ac:a≠m.kd:=λz=>na (.inl z);let ad:a≠m.lk:=λz=>na (.inr (.inl z));let ap:=I _ _ G.hl G.ne.1.symm;show#[0,a,CP,dx,_,.ref m.lk,rfl,I _ _ ho ac,T.cl,T.nL,yQ,0,m.lk,0,jJ.k (k:=NC n) ap (by rw[iT];omega),?_];let k2:upd H1 m.lk (.dK (putK (dk fl m.L) (NC n) (.int 1))) m.lk=some (.dK (putK (dk fl m.L) (NC n) (.int 1))):=ag;let Z:∀x u,H1 x=some u->x≠m.lk->upd H1 m.lk (.dK (putK (dk fl m.L) (NC n) (.int 1))) x=some u:=λx u e z=>(by rw[au z];show e);let am:∀x,upd H1 m.lk (.dK (putK (dk fl m.L) (NC n) (.int 1))) x=none->H1 x=none:=λx=>Di;generalize upd H1 m.lk (.dK (putK (dk fl m.L) (NC n) (.int 1)))=H2 at *;show#[az,λr fr=>?_];let Y:=ah (X:=.lst []) fr;let k3:upd H2 r (.lst []) r=some (.lst []):=ag;generalize upd H2 r (.lst [])=H3 at *;let ar:=Y _ _ (Z _ _ (I _ _ G.hs G.ne.2.1.symm) G.ne.2.2.symm);show#[0,a,CP,dx,_,.ref m.ls,rfl,Y _ _ (Z _ _ (I _ _ ho ac) ad),T.cl,T.nS,vz,0,m.ls,0,jJ.k (k:=NC n) ar (by rw[iT];omega),?_];let ab:H r=none:=f1 _ (am _ fr);let nr:r≠m.ls:=λe=>(by rwa[e,G.hs]at ab);rw[ao r];rw[pk r]at k1;rw[pl r]at k2;let#[A2,st]:=G.re (d':=d+1) (H':=upd H3 m.ls (.dK (dk fs (m.L++[(n,(r,#[kd,(1),[]]))])))) (N':=cA N n (some #[kd,(1),[]])) (m.L++[(n,(r,#[kd,(1),[]]))]) (by rw[au G.ne.2.1];show Y _ _ (Z _ _ k1 G.ne.1)) (by rw[au G.ne.2.2];show Y _ _ k2) ag (λx u e z1 z2 z3=>by rw[au z3];show Y _ _ (Z _ _ (I _ _ e z1) z2)) (λx hx=>by
  rcases SY.mp hx with h|h
  .show .inr #[x,h,1]
  .rw[DO]at h;subst h;show .inl #[ab,by rw[au nr];show k3]) (by
  rw[K4];show Ud.mpr #[G.nd,by simp,λx hx y hy e=>?_];have:y=n:=‹hy›;show lN U (by rw[<-this, <-e];show hx)) (λj=>by
  rw[lE j U];cases z:j=n
  .rw[show cA N n _ j=_ from aa3 z,aa3 z];rfl
  .rw[show cA N n _ j=N j from aa2 z,aa2 z];show G.eN j) (G.ok.up n0 n1 _ (λas e=>by injection e with e;rw[<-e];show Tp _) (by
  have:=G.ok.fit;change _+bf 0<=_;rw[show bf 0=0 by decide];omega))
 show q _ _ A2 st
theorem Np:ax ["self","n"] ["self","n"] (ak KQ):=L2.a8
theorem GX(F:bM K "end_node" "PlainNodes.end_node" KQ f fd)(T:Az K mg CP):↥aM 1 f fd ["self","n"] (E9 (jg CP)):=by
 show F.cU Np ?_;intros;let#[a,m,tot,d,N,n,nd,rfl,G,hn,q]:=h;let#[dx,Z]:=G.ob;let#[p,Y,e2]:=G.at hn;let#[n0,n1]:=G.ok.use n nd hn;let na:=G.na;let ab:a≠m.kd:=λz=>na (.inl z);let am:a≠m.lk:=λz=>na (.inr (.inl z));show#[_,(aj (aR (jW (aE (pv 0) rfl) (pv 1) #[1,1]))
  (aj (aR (jW (aE (pv 0) rfl) (pv 1) #[1,1]))
  (aq (aR (jW (aE (pv 0) rfl) (pv 1) #[1,1]))))),?_]
 show#[0,a,CP,dx,_,.ref m.kd,rfl,Z,T.cl,T.nK,Cg,m.kd,rfl,.inl #[_,.inl G.hk],0,_,NC n,_,G.hk,rfl,by rw[cm,Y];rfl,?_];rw[jP];let k1:upd H m.kd (.dK (dk fk (gT m.L n))) m.kd=some (.dK (dk fk (gT m.L n))):=ag;let I:∀x u,H x=some u->x≠m.kd->upd H m.kd (.dK (dk fk (gT m.L n))) x=some u:=λx u e z=>(by rw[au z];show e);generalize upd H m.kd (.dK (dk fk (gT m.L n)))=H1 at *;let ad:=I _ _ G.hl G.ne.1.symm;show#[0,a,CP,dx,_,.ref m.lk,rfl,I _ _ Z ab,T.cl,T.nL,yQ,m.lk,rfl,.inl #[_,.inl ad],0,_,NC n,_,ad,rfl,by rw[cm,Y];rfl,?_];rw[jP];let k2:upd H1 m.lk (.dK (dk fl (gT m.L n))) m.lk=some (.dK (dk fl (gT m.L n))):=ag;let U:∀x u,H1 x=some u->x≠m.lk->upd H1 m.lk (.dK (dk fl (gT m.L n))) x=some u:=λx u e z=>(by rw[au z];show e);generalize upd H1 m.lk (.dK (dk fl (gT m.L n)))=H2 at *;let ac:=U _ _ (I _ _ G.hs G.ne.2.1.symm) G.ne.2.2.symm;show#[0,a,CP,dx,_,.ref m.ls,rfl,U _ _ (I _ _ Z ab) am,T.cl,T.nS,vz,m.ls,rfl,.inl #[_,.inl ac],0,_,NC n,_,ac,rfl,by rw[cm,Y];rfl,?_];rw[jP];let#[A2,st]:=G.re (d':=d+1) (H':=upd H2 m.ls (.dK (dk fs (gT m.L n)))) (N':=cA N n none) (gT m.L n) (by rw[au G.ne.2.1];show U _ _ k1 G.ne.1) (by rw[au G.ne.2.2];show k2) ag (λx u e z1 z2 z3=>by rw[au z3];show U _ _ (I _ _ e z1) z2) (λx hx=>.inr #[x,(yC hx).1,1]) (by rw[tR];show G.nd.filter _) (λj=>by
  rw[Dj];cases z:j=n
  .rw[show cA N n none j=none from aa3 z,aa3 z];rfl
  .rw[show cA N n none j=N j from aa2 z,aa2 z];show G.eN j) (G.ok.up n0 n1 _ (λao e=>by cases e) (by
  have:=G.ok.fit;change _+0<=_;omega))
 show q _ _ A2 st
theorem Js:TV "sum" = some (.builtin "sum"):=av
theorem IK(T:Az K mg CP)(gK:↥Md 1 CP "kind_of" (xX (jg CP)))(gL:↥Md 1 CP "links_of" (rR (jg CP)))(L:↥Md 1 CP "size_of" (xV (jg CP)))(Y:↥Md 1 CP "cells_of" (rF (jg CP)))(gB:↥Md 1 CP "begin_node" (sR (jg CP)))(I:↥Md 1 CP "end_node" (E9 (jg CP)))(F:↥Md 1 CP "put_links" (yN (jg CP)))(U:↥Md 1 CP "put_cells" (yf (jg CP)))(gF:↥Md 1 CP "finish" (Fd (jg CP))):(jg CP).Ok P w K mg base where
 cl:=T.cl
 nT:=T.nT
 ob A:=by
  let#[dx,h]:=A.ob;show#[dx,_,h,LI,λx G=>Ih ?_ ?_ ?_ ?_]<;>(intro e;subst e;show absurd G av)
 na A:=A.na
 live A h:=A.live h
 nt A h e:=by
  rcases h with z|z|z|⟨y,Z,z⟩
  .rw[z,A.hk]at e;cases e
  .rw[z,A.hl]at e;cases e
  .rw[z,A.hs]at e;cases e
  .rw[z,A.hr y Z]at e;cases e
 off A o h1 h2:=A.off o h1 h2
 ok A:=A.ok
 le A h:=#[A.ob,A.hk,A.hl,A.hs,A.hr,A.nd,A.ne,A.eN,A.ok]
 kind:=gK.imp az λ_ _ _ _ h=>h
 links:=gL.imp az λ_ _ _ _ h=>h
 size:=L.imp az λ_ _ _ _ h=>h
 cells:=Y.imp az λ_ _ _ _ h=>h
 begin:=gB.imp az λ_ _ _ _ h=>h
 end_:=I.imp az λ_ _ _ _ h=>h
 putL:=F.imp az λ_ _ _ _ h=>h
 EL:=U.imp az λ_ _ _ _ h=>h
 fin:=gF.imp az λ_ _ _ _ h=>h
noncomputable def xU(N:NS)(m:Nat):List Int:=((TM m).map λi:Nat=>(i:Int)).filter λn=>(N n).isNone
theorem uR(N:NS)(m:Nat):xU N (m+1)=xU N m++(if (N (m:Int)).isNone=true then[(m:Int)]else[]):=by
 unfold xU;rw[VQ,K4,U5];change _++([(m:Int)].filter _)=_;rw[WY,Wh]
theorem Ew(N:NS)(m:Nat):(xU N m).length<=m:=by
 unfold xU;show Td (UG _ _) ?_;rw[rz,Xo];show G0 _
noncomputable def Rn(x:Option Node):List Nat:=match x with
 |none=>[]
 |some nd=>[nd.cs.length]
noncomputable def vH(N:NS)(m:Nat):List Nat:=((TM m).map λi:Nat=>Rn (N (i:Int))).flatten
theorem j5(N:NS)(m:Nat):vH N (m+1)=vH N m++Rn (N (m:Int)):=by
 unfold vH;rw[VQ,K4,VR];change _++(Rn _++[])=_;rw[Tq]
theorem sE(N:NS):∀m,(vH N m).length<=m
 |0=>G0 _
 |m+1=>by
  have:=sE N m;rw[j5,wh];cases N (m:Int)
  .change _+0<=_;omega
  .change _+1<=_;omega
theorem Cj(N:NS):∀m,((vH N m).map bf).sum=us N m
 |0=>rfl
 |m+1=>by
  rw[kC, <-Cj N m,j5,K4,sum_append];cases N (m:Int)<;>rfl
theorem rC(x:Option Node):decide (HJ x=.a7)=x.isNone:=by cases x<;>rfl
theorem uD:∀l:List Nat,(l.map λk:Nat=>(k:Int)).sum=((l.sum:Nat):Int)
 | []=>rfl
 |x::l=>by rw[T8,aaV,aaV,uD l];omega
inductive Fw(M:b6)(v:qAh)(H:Hp)(Q:VK)(e:XK):Prop
 |mk(a:Addr)(m:M.St)(tot d:Nat)(N:NS)(_:v=[.ref a])(_:M.At H a m tot N d)(_:∀(H':Hp)(q:Addr),aH H H'->H q=none->H' q=some (.lst ((xU N 24).map V.int))->Q (.ref q) H')
inductive Gu(M:b6)(v:qAh)(H:Hp)(Q:VK)(e:XK):Prop
 |mk(a:Addr)(m:M.St)(tot d:Nat)(N:NS)(_:v=[.ref a])(_:M.At H a m tot N d)(_:∀(H':Hp),aH H H'->Q (.int ((tot:Int)-(us N 24:Nat))) H')
abbrev OQ:Tg:=top 39
abbrev P7:Tg:=top 40
theorem PF:ax ["nodes"] ["nodes"] (ak OQ):=L2.a8
theorem rH(F:bM K "free_nodes" "free_nodes" OQ f fd)(T:kH K mg CN)(O:M.Ok P w K mg base):↥aM 8 f fd ["nodes"] (Fw M):=by
 show F.cU PF ?_;intros;let#[a,m,tot,d,N,rfl,I,q]:=h;let hs:=y1;let#[dx,fs',Y,Z,U]:=O.ob I;show#[_,(aq (aG (cY (cl:=[("nodes",s⁻¹+1)]) (caps:=[("nodes",0)]) #[rfl,av,av,rfl,by kernel_rfl,%[|1],by kernel_rfl,%[|1],av] rfl (cH (by rfl) T.range (aa (de T.mf) ae)) (λ_ _ _ _=>iq (aA lL (pm (pv 1) O.cl O.kind hr ay (aa (pv 0) ae)) cF (aI _))) (λ_ _ _ _=>(pv 0))))),?_];show#[(24),rfl,az,az,?_];show ip (lo:=0) (n:=24) (λi ys J=>ys=(xU N i).map V.int/\aH H J) #[rfl,λ_ _ e=>e] ?_ ?_
 .rintro i ys J hi ⟨rfl,G⟩;show#[0,a,dx,0,G _ _ Y,U _ av,0,a,m,tot,d,N,(i:Int),by rw[show(0:Int)+(i:Int)=(i:Int)by omega];rfl,O.same I G,λJ2 L=>#[rfl,0,?_]];rw[rC];let lf:=Ew N i;cases z:(N (i:Int)).isNone with
  |true =>
   rw[aa3 rfl];show#[0,by rw[rz];omega,?_,G.trans L];rw[uR,aa3 z,K4];change _++[V.int (0+(i:Int))]=_++[V.int (i:Int)];rw[show(0:Int)+(i:Int)=(i:Int)by omega]
  |false =>
   rw[aa2 (by nofun)];show#[?_,G.trans L];rw[uR,aa2 (by rw[z];nofun),Tq]
 .rintro ys J ⟨rfl,G⟩ r fr;show q _ r (G.trans (ah fr)) (aX G fr) ag
theorem MO:ax ["nodes","sizes"] ["nodes"] (ak P7):=L2.a8
theorem qf(F:bM K "free_blocks" "free_blocks" P7 f fd)(T:kH K mg CN)(ab:mg "sum" = none)(O:M.Ok P w K mg base)(ad:↥Df 1 "blocks_for" zM):↥aM 8 f fd ["nodes"] (Gu M):=by
 show F.cU MO ?_;intros;let#[a,m,tot,d,N,rfl,U,q]:=h;let hs:=y1;let#[dx,fs',ho,ht,hm]:=O.ob U;show#[_,(aj (yH (i:=1) (cl:=[("nodes",s⁻¹+1)]) (caps:=[("nodes",0)]) MO.nd rfl (YV rfl) #[rfl,av,av,rfl,by kernel_rfl,%[|1],by kernel_rfl,%[|1],av] rfl (cH (by rfl) T.range (aa (de T.mf) ae)) (λ_ _ _ _=>iq (aA ic (pm (pv 1) O.cl O.kind hr ay (aa (pv 0) ae)) cF (aI _))) (λ_ _ _ _=>(pm (pv 1) O.cl O.size hr ay (aa (pv 0) ae))))
  (aq (aG (aJ dQ (aE (pv 0) rfl) (aC (Bs rfl) (by rfl) ab Js (aa (cY (cl:=[]) (caps:=[]) #[rfl,av,av,rfl,by kernel_rfl,by intro p Y;simp at Y,by kernel_rfl,by intro p Y;simp at Y,av] rfl (cJ (pv 1)) (λ_ _ _ _=>eM) (λ_ _ _ _=>(pc ad hr ay (aa (pv 0) ae)))) ae)))))),?_]
 show gz λ_ jt=>?_;show#[(24),rfl,az,az,?_];show ip (lo:=0) (n:=24) (λi ys J=>ys=((vH N i).map λk:Nat=>V.int (k:Int))/\aH H J) #[rfl,λ_ _ e=>e] ?_ ?_
 .rintro i ys J hi ⟨rfl,G⟩;show#[0,a,dx,0,G _ _ ho,hm _ av,0,a,m,tot,d,N,(i:Int),by rw[show(0:Int)+(i:Int)=(i:Int)by omega];rfl,O.same U G,λI Z=>#[rfl,0,?_]];rw[rC];let lf:=sE N i;let L:=G.trans Z;cases z:N (i:Int)with
  |none =>
   change if (!true)=true then _ else _
   rw[aa2 (by nofun)];show#[?_,L];rw[j5,z];show congrArg _ (Tq _).symm
  |some nd =>
   change if (!false)=true then _ else _
   rw[aa3 (show(!false)=true from rfl)];show#[0,a,dx,0,L _ _ ho,hm _ av,0,a,m,tot,d,N,(i:Int),nd,by rw[show(0:Int)+(i:Int)=(i:Int)by omega];rfl,O.same U L,z,λJ3 s3=>#[by rw[rz];omega,?_,L.trans s3]];rw[j5,z,K4];rfl
 .intro ys J h r fr;let#[ey,G]:=h;rw[ey];clear ey ys;show jt _ _ ?_;clear jt;let s1:=G.trans (ah (X:=.lst ((vH N 24).map λk:Nat=>V.int (k:Int))) fr);let e1:upd J r (.lst ((vH N 24).map λk:Nat=>V.int (k:Int))) r=some (.lst ((vH N 24).map λk:Nat=>V.int (k:Int))):=ag;generalize upd J r (.lst ((vH N 24).map λk:Nat=>V.int (k:Int)))=J1 at *;let am:=sE N 24;show#[0,a,M.C,dx,_,.int tot,rfl,s1 _ _ ho,O.cl,O.nT,ht,0,r,rfl,#[_,aW.of e1],?_];show hZ (K:=K) (a:=r) (xs:=(vH N 24).map λk:Nat=>V.int (k:Int)) (λi ys I=>ys=(((vH N 24).map bf).take i).map (λk:Nat=>V.int (k:Int))/\I=J1) #[1] (λi ys I _ z=>by rw[z.2];show aW.of e1) ?_ ?_
  .rintro i x ys I hx ⟨rfl,rfl⟩;rw[M4]at hx;let#[y,hy,rfl]:=SV.mp hx;let hi:=(y0.mp hy).1;show#[0,y,rfl,by rw[rz,HC];omega,?_,rfl];rw[Um,M4,hy,K4];rfl
  .rintro ys I ⟨rfl,rfl⟩ r2 ac;let Z:=s1.trans (ah (X:=.lst ((((vH N 24).map bf).take ((vH N 24).map λk:Nat=>V.int (k:Int)).length).map λk:Nat=>V.int (k:Int))) ac);show#[r2,((vH N 24).map bf).map (λk:Nat=>(k:Int)),rfl,aW.of ?_,_,0,3]
   .rw[ag,OR (by rw[rz,rz];show G0 _),VM (l:=(vH N 24).map bf)];rfl
   .rw[uD,Cj];show q _ Z
abbrev Slot:=Option (Str×Int)
def jI(H:Hp)(v:V)(s:Slot):Prop:=match s with
 |none=>v=.a7
 |some p=>∃t,v=.ref t/\H t=some (.tup [.str p.1,.int p.2])
structure jE(H:Hp)(vs:qAh)(ss:List Slot):Prop where
 ln:vs.length=ss.length
 at_:∀(i:Nat)(v:V),vs[i]?=some v->∃s,ss[i]?=some s/\jI H v s
noncomputable def wG(name:Str)(s:Slot):Bool:=match s with
 |none=>false
 |some p=>decide (p.1=name)
def kL(ss:List Slot)(name:Str):Option Int:=ss.findSome? λs=>s.bind λp=>if p.1=name then some p.2 else none
noncomputable def oI(x:qAd):V:=match x with
 |none=>.a7
 |some k=>.int k
noncomputable def eG(ss:List Slot)(name:Str):List Slot:=ss.map λs=>if wG name s=true then none else s
variable{v:V}{s:Slot}
theorem jI.same(A:jI H v s)(o:aH H H'):jI H' v s:=by
 cases s with
 |none=>show A
 |some p =>
  let#[t,e,h]:=A;show#[t,e,o _ _ h]
variable{vs:qAh}{ss:List Slot}
theorem jE.same(A:jE H vs ss)(o:aH H H'):jE H' vs ss:=#[A.ln,λi v h=>by
 let#[s,e,q]:=A.at_ i v h;show#[s,e,q.same o]]
theorem jE.snoc(A:jE H vs ss)(q:jI H v s):jE H (vs++[v]) (ss++[s]):=#[by rw[wh,wh,A.ln];rfl,λi w h=>by
 cases z:i<vs.length
 .rw[SW z]at h;let#[s,e,q]:=A.at_ i w h;show#[s,by rw[SW (by rw[<-A.ln];show z)];show e,q]
 .rw[SQ af]at h;let hi:i-vs.length=0:=by
   have:=(y0.mp h).1;simp at this;omega
  rwa[hi]at h;show#[s,by rw[SQ (by rw[<-A.ln];omega), <-A.ln,hi];rfl,q]]
variable{i:Nat}{name:Str}
theorem Bd(h1:kL (ss.take i) name=none){p:Str×Int}(h2:ss[i]?=some (some p))(F:p.1=name):kL ss name=some p.2:=by
 unfold kL at *;let hi:=(y0.mp h2).1;rw[<-TR i ss,YQ,h1,UR hi,Xi];have:ss[i]=some p:=(y0.mp h2).2;rw[this,Xr,aa3 F];rfl
theorem uZ(h1:kL (ss.take i) name=none)(h2:ss[i]?=some s)(F:wG name s=false):kL (ss.take (i+1)) name=none:=by
 unfold kL at *;rw[Um,h2,YQ,h1];cases s with
 |none=>rfl
 |some p =>
  change Option.or none (List.findSome? _ [some p])=none;rw[Xi,Xr,aa2 (of_decide_eq_false F)];rfl
inductive Kb(v:qAh)(H:Hp)(Q:VK)(e:XK):Prop
 |mk(l:Addr)(ws:qAh)(ss:List Slot)(name:Str)(_:v=[.ref l,.str name])(_:H l=some (.lst ws))(_:jE H ws ss)(_:Q (oI (kL ss name)) H)
inductive Fj(v:qAh)(H:Hp)(Q:VK)(e:XK):Prop
 |mk(l:Addr)(ws:qAh)(ss:List Slot)(name:Str)(_:v=[.ref l,.str name])(_:H l=some (.lst ws))(_:jE H ws ss)(_:ss.length<=1000)(_:∀(H':Hp)(q:Addr)(ws':qAh),aH H H'->H q=none->H' q=some (.lst ws')->jE H' ws' (eG ss name)->Q (.ref q) H')
abbrev Ql:Tg:=top 56
abbrev Pf:Tg:=top 57
theorem LY:ax ["slots","name","slot"] ["slots","name"] (ak Ql):=L2.a8
theorem sh(F:bM K "node_named" "node_named" Ql f fd):↥aM 1 f fd ["slots","name"] Kb:=by
 show F.cU LY ?_;intros;let#[l,ws,ss,name,rfl,U,Z,q]:=h;show#[_,(aj (dU TK rfl (cJ (pv 0)) (qx 2 LY.nd) (aq (bP (PW.pt (oF (aA ic (pv 2) cF (aI _)) (jQ (aA bD (aL bg (pv 2) ai bZ) (pv 1) (aI _))))) (aq (aG (aL bg (pv 2) ai bZ))) bj)))
  (aq (aG cF))),?_]
 show#[0,l,rfl,#[_,aW.of U],?_];show gf (K:=K) (a:=l) (xs:=ws) (λi σ J=>∃v2:Option V,kZ (σ=#v[.ref l,.str name,v2]) (J=H) (kL (ss.take i) name=none)) #[0,1] (λi σ J _ z=>by let#[_,_,e,_]:=z;rw[e];show aW.of U) ?_ ?_
 .rintro i x σ J hx ⟨v2,rfl,rfl,G⟩;let#[s1,I,Y]:=Z.at_ i x hx;show yG λQQ ji je=>?_;show#[0,rfl,0,?_];cases s1 with
  |none =>
   cases Y;show ck (je _ #[0,rfl,uZ G I rfl])
  |some p =>
   let#[t,rfl,L]:=Y;show dt #[0,t,_,(0),.str p.1,1,dC.of L,aD (j:=0) rfl,0,rfl,0,?_];cases z:p.1=name
   .rw[decide_eq_true (show V.str p.1=V.str name by rw[z])];show ji _ #[0,t,_,(1),.int p.2,1,dC.of L,aD (j:=1) rfl,?_];rw[Bd G I z]at q;show q
   .rw[decide_eq_false (show ¬ V.str p.1=V.str name from λe=>z (by injection e))];show je _ #[0,rfl,uZ G I (decide_eq_false z)]
 .rintro σ J ⟨v2,rfl,rfl,G⟩;rw[Z.ln,UH]at G;rw[G]at q;show q
theorem Px:ax ["slots","name"] ["slots","name"] (ak Pf):=L2.a8
theorem mG(F:bM K "slots_without" "slots_without" Pf f fd):↥aM 1 f fd ["slots","name"] Fj:=by
 show F.cU Px ?_;intros;let#[l,ws,ss,name,rfl,U,Z,l3,q]:=h;let hs:=y1;show#[_,(aq (aG (cY (cl:=[("name",s⁻¹+1)]) (caps:=[("name",1)]) #[rfl,av,av,rfl,by kernel_rfl,%[|1],by kernel_rfl,%[|1],av] rfl (cJ (pv 0)) (λ_ _ _ _=>eM) (λ_ _ _ _=>(gh (PW.pt (oF (aA ic (pv 0) cF (aI _)) (jQ (aA bD (aL (show zA _ (mM K)from bg) (pv 0) ai bZ) (pv 1) (aI _))))) cF (pv 0)))))),?_];show#[0,l,rfl,#[_,aW.of U],?_];show hZ (K:=K) (a:=l) (xs:=ws) (λi ys J=>jE H ys (eG (ss.take i) name)/\J=H) #[#[rfl,λi v h=>by cases h],rfl] (λi ys J _ z=>by rw[z.2];show aW.of U) ?_ ?_
 .rintro i x ys J hx ⟨G,rfl⟩;let#[I,e1,Y]:=Z.at_ i x hx;let ly:ys.length<=1000:=by
   rw[G.ln];unfold eG;rw[rz,HC];omega
  let eS:eG (ss.take (i+1)) name=eG (ss.take i) name++[if wG name I=true then none else I]:=by
   unfold eG;rw[Um,e1,K4];rfl
  rw[eS];show#[0,rfl,0,?_];cases I with
  |none =>
   cases Y;show ck (ck #[0,af,G.snoc rfl,rfl])
  |some p =>
   let#[t,rfl,L]:=Y;show dt #[0,t,_,(0),.str p.1,1,dC.of L,aD (j:=0) rfl,0,rfl,0,?_];cases z:p.1=name
   .rw[decide_eq_true (show V.str p.1=V.str name by rw[z])];show dt #[af,G.snoc ?_,rfl];rw[aa3 (show wG name (some p)=true from decide_eq_true z)];rfl
   .rw[decide_eq_false (show ¬ V.str p.1=V.str name from λe=>z (by injection e))];show ck #[0,af,G.snoc ?_,rfl];rw[aa2 (show ¬ wG name (some p)=true from λe=>z (of_decide_eq_true e))];show#[t,rfl,L]
 .rintro ys J ⟨G,rfl⟩ r fr;rw[Z.ln,UH]at G;let I:=ah (X:=.lst ys) fr;show q _ r ys I fr ag (G.same I)
def sA:Str := "abcdefghijklmnopqrstuvwxyz"
structure okN(nm:Str):Prop where
 lo:1<=nm.cps.size
 hi:nm.cps.size<=6
 lt:∀c∈nm.cps.toList,97<=c/\c<123
def i7(nm:Str):List Int:=nm.cps.toList.map λc:Nat=>(c:Int)-96
noncomputable def gI(s:Slot):List Int:=match s with
 |none=>IF 8 0
 |some p=>fill (i7 p.1) 6++[p.2,0]
theorem LD:∀i:Fin 26,W0 sA #[([97+i.val].toArray)] 0 sA.length 1=[i.val]:=av
variable{c:Nat}
theorem QB(h1:97<=c)(h2:c<123):W0 sA #[([c].toArray)] 0 sA.length 1=[c-97]:=by
 have:=LD #[c-97,af];rw[show 97+(c-97)=c by omega]at this;show this
structure OE(K:SU)(mg:qa3):Prop where
 L:∃u,mg "LETTERS" = some u/\RelV (.str sA) u
 SC:∃u,mg "SLOT_CELLS" = some u/\RelV (.int 8) u
 NL:∃u,mg "NAME_LETTERS" = some u/\RelV (.int 6) u
inductive J9(vs:qAh)(H:Hp)(Q:VK)(e:XK):Prop
 |mk(v:V)(s:Slot)(_:vs=[v])(_:jI H v s)(_:∀p,s=some p->okN p.1)(_:∀(H':Hp)(q:Addr),aH H H'->H q=none->H' q=some (.lst ((gI s).map V.int))->Q (.ref q) H')
abbrev QT:Tg:=top 52
theorem LG:ax ["slot","places"] ["slot"] (ak QT):=L2.a8
theorem pz(F:bM K "cells_of_slot" "cells_of_slot" QT f fd)(T:kH K mg CN)(TL:OE K mg):↥aM 1 f fd ["slot"] J9:=by
 let hL:=TL.L;let am:=TL.SC;let ac:=TL.NL;show F.cU LG ?_;intros;let#[v,sl,rfl,hv,bC,q]:=h;let hs:=y1;show#[_,(aj (bP (aA lL (pv 0) cF (aI _)) (aq (aG (aJ iM (bq (aa ai ae)) (de am)))) bj)
  (aj (yH (i:=1) (cl:=[]) (caps:=[]) LG.nd rfl (YV rfl) #[rfl,av,av,rfl,by kernel_rfl,by intro p hp;simp at hp,by kernel_rfl,by intro p hp;simp at hp,av] rfl (Cz (aL bg (pv 0) ai bZ)) (λ_ _ _ _=>eM) (λ_ _ _ _=>(aJ bU (show PE _ _ (Sb K "str" sD _ _)from fA VS Yy PySem.F.type_str_index Av (de hL) (aa (pv 0) ae)) ai)))
  (aq (aG (aJ cE (aJ cE (pv 1) (aJ iM (bq (aa ai ae)) (aJ dQ (de ac) (aC aO (by rfl) T.len T7 (aa (pv 1) ae))))) (bq (aa (aL bg (pv 0) ai bZ) (aa ai ae)))))))),?_]
 show E6 λQQ ji je=>?_;show#[0,rfl,0,?_];cases sl with
 |none =>
  cases hv;show ji _ #[az,λG Z=>?_];let s1:=ah (X:=.lst [V.int 0]) Z;show#[G,_,0,rfl,ag,az,az,by rw[hs];decide,λI U=>?_];rw[rep1];show q _ I (s1.trans (ah U)) (aX s1 U) ag
 |some p =>
  let#[t,rfl,ht]:=hv;show je _ ?_;clear ji je;let ok:=bC p rfl;let ao:p.1.cps.toList.length=p.1.cps.size:=Uj;show gz λ_ jt=>?_;show#[0,t,_,(0),.str p.1,1,dC.of ht,aD (j:=0) rfl,p.1,3];show qX (λi ys J=>ys=((i7 p.1).take i).map V.int/\J=H) #[1] ?_ ?_
  .rintro i c ys J hc ⟨rfl,rfl⟩;let hm:p.1.cps.toList[i]?=some c:=(by rw[UX];show hc);let hb:=ok.lt c (SO hm);let hi:=ok.hi;show#[rfl,0,sA,#[([c].toArray)],c-97,[],1,QB hb.1 hb.2,_,0,rfl,by rw[rz,HC];unfold i7;rw[rz];omega,?_,rfl];rw[Um,K4];unfold i7;rw[M4,hm];change _++[V.int (((c-97:Nat):Int)+1)]=_++[V.int ((c:Int)-96)];rw[show(((c-97:Nat):Int)+1)=(c:Int)-96 by omega]
  .intro ys J h r fr;let#[ey,eJ]:=h;subst eJ;rw[OR (by unfold i7;rw[rz];omega)]at ey;rw[ey];clear ey;show jt _ _ ?_;clear jt;let lp:(i7 p.1).length<=6:=(by unfold i7;rw[rz,ao];show ok.hi);let s1:=ah (X:=.lst ((i7 p.1).map V.int)) fr;let e1:upd J r (.lst ((i7 p.1).map V.int)) r=some (.lst ((i7 p.1).map V.int)):=ag;generalize upd J r (.lst ((i7 p.1).map V.int))=J1 at *;show#[0,az,λG Z=>?_];let s2:=s1.trans (ah (X:=.lst [V.int 0]) Z);let ab:=ah (X:=.lst [V.int 0]) Z _ _ e1;let e2:upd J1 G (.lst [V.int 0]) G=some (.lst [V.int 0]):=ag;generalize upd J1 G (.lst [V.int 0])=J2 at *;show#[0,r,0,.inl (aW.of ab),_,0,rfl,G,_,0,rfl,e2,4,?_,λI U=>?_]
   .rw[rz];omega
   .rw[rz];omega
   .rw[rz,Tj];omega
   rw[rep1,show((6:Int)-(((i7 p.1).map V.int).length:Nat)).toNat=6-(i7 p.1).length by rw[rz];omega];let s3:=s2.trans (ah (X:=.lst (IF (6-(i7 p.1).length) (V.int 0))) U);let e3:upd J2 I (.lst (IF (6-(i7 p.1).length) (V.int 0))) I=some (.lst (IF (6-(i7 p.1).length) (V.int 0))):=ag;let ad:=ah (X:=.lst (IF (6-(i7 p.1).length) (V.int 0))) U _ _ ab;generalize upd J2 I (.lst (IF (6-(i7 p.1).length) (V.int 0)))=J3 at *;show#[r,I,_,0,rfl,ad,e3,by rw[rz,Uh];omega,λY f3=>?_];let ef:(i7 p.1).map V.int++IF (6-(i7 p.1).length) (V.int 0)=(fill (i7 p.1) 6).map V.int:=by
    unfold fill;rw[K4,V6]
   rw[ef];let s4:=s3.trans (ah (X:=.lst ((fill (i7 p.1) 6).map V.int)) f3);let e4:upd J3 Y (.lst ((fill (i7 p.1) 6).map V.int)) Y=some (.lst ((fill (i7 p.1) 6).map V.int)):=ag;generalize upd J3 Y (.lst ((fill (i7 p.1) 6).map V.int))=J4 at *;show#[0,t,_,(1),.int p.2,1,dC.of (s4 _ _ ht),aD (j:=1) rfl,N8,λq5 f5=>?_];let s5:=s4.trans (ah (X:=.lst [V.int p.2,V.int 0]) f5);let e5:=ah (X:=.lst [V.int p.2,V.int 0]) f5 _ _ e4;show#[Y,q5,_,0,rfl,e5,ag,by rw[rz,cQ lp];change 6+2<=sizeLine;omega,λq6 f6=>?_];show q _ q6 (s5.trans (ah f6)) (aX s5 f6) (by rw[ag];unfold gI;rw[K4];rfl)
def sg(c:Nat):Str:=#[([c].toArray)]
theorem Hn:∀cs:List Nat,Str.join "" (cs.map sg)=#[cs.toArray]
 | []=>rfl
 | [c]=>rfl
 |c::d::cs=>by
  let F:=Hn (d::cs);change sg c ++ "" ++ Str.join "" ((d::cs).map sg)=_;rw[F];change Str.mk (([c].toArray) ++ ([].toArray)++(d::cs).toArray)=_;simp
theorem Es(h1:97<=c)(h2:c<123):js sA.cps.toList ((c:Int)-96-1)=some c:=by
 have:∀i:Fin 26,js sA.cps.toList (i.val:Int)=some (97+i.val):=av;let e:=this #[c-97,af];rw[show(((c-97:Nat)):Int)=(c:Int)-96-1 by omega]at e;rw[e];show congrArg some (by change 97+(c-97)=c;omega)
noncomputable def pK(s:Slot):List Nat:=match s with
 |none=>[]
 |some p=>p.1.cps.toList
theorem Ph(ok:∀p,s=some p->okN p.1):(gI s).take 6=fill ((pK s).map λc:Nat=>(c:Int)-96) 6:=by
 cases s with
 |none=>rfl
 |some p =>
  let o:=ok p rfl;change(fill (i7 p.1) 6++[p.2,0]).take 6=fill (i7 p.1) 6;let F:(fill (i7 p.1) 6).length=6:=cQ (by unfold i7;rw[rz,Uj];show o.hi);rw[Vk,F,OR af,V7,UU,Tq]
inductive Kq(vs:qAh)(H:Hp)(Q:VK)(e:XK):Prop
 |mk(l:Addr)(s:Slot)(_:vs=[.ref l])(_:H l=some (.lst ((gI s).map V.int)))(_:∀p,s=some p->okN p.1)(_:∀(H':Hp)(v:V),aH H H'->jI H' v s->Q v H')
abbrev RB:Tg:=top 51
theorem MJ:ax ["cells","name"] ["cells"] (ak RB):=L2.a8
theorem zz(F:bM K "slot_in" "slot_in" RB f fd)(T:kH K mg CN)(TL:OE K mg):↥aM 1 f fd ["cells"] Kq:=by
 let hL:=TL.L;let ab:=TL.NL;show F.cU MJ ?_;intros;let#[l,sl,rfl,hl,U,q]:=h;let hs:=y1;let ad:∀c∈pK sl,97<=c/\c<123:=λc hc=>by
  cases sl with
  |none=>cases hc
  |some p=>show(U p rfl).lt c hc
 let h6:(pK sl).length<=6:=by
  cases sl with
  |none=>show Tp _
  |some p=>change p.1.cps.toList.length<=6;rw[Uj];show(U p rfl).hi
 let he:=Ph U;show#[_,(aj (cL 1 MJ.nd (fA VS PySem.F.slot_str_join PySem.F.type_str_join Gj aF (aa (cY (cl:=[]) (caps:=[]) #[rfl,av,av,rfl,by kernel_rfl,by intro p Y;simp at Y,by kernel_rfl,by intro p Y;simp at Y,av] rfl (cJ (bw bK (pv 0) b8 (bA (de ab)))) (λ_ _ _ _=>iq (aA jV (pv 0) ai (aI _))) (λ_ _ _ _=>(aL xi (de hL) (aJ dQ (pv 0) ai) bZ))) ae)))
  (aq (aG (gh (aA bD (pv 1) aF (aI _)) cF (dZ (aa (pv 1) (aa (aL aQ (pv 0) (de ab) bZ) ae))))))),?_]
 show gz λ_ jt=>?_;show#[rfl,0,(6),rfl,l,0,aW.of hl,λI f1=>?_];rw[show dg ((gI sl).map V.int) none (some 6)=((gI sl).take 6).map V.int from ie (s:=6),he];let s1:=ah (X:=.lst ((fill ((pK sl).map λc:Nat=>(c:Int)-96) 6).map V.int)) f1;let e1:upd H I (.lst ((fill ((pK sl).map λc:Nat=>(c:Int)-96) 6).map V.int)) I=some (.lst ((fill ((pK sl).map λc:Nat=>(c:Int)-96) 6).map V.int)):=ag;let lf:(fill ((pK sl).map λc:Nat=>(c:Int)-96) 6).length=6:=cQ (by rw[rz];show h6);generalize upd H I (.lst ((fill ((pK sl).map λc:Nat=>(c:Int)-96) 6).map V.int))=H1 at *;show#[I,rfl,#[_,aW.of e1],?_];show gM (K:=K) (a:=I) (xs:=(fill ((pK sl).map λc:Nat=>(c:Int)-96) 6).map V.int) (λi ys J=>ys=(((pK sl).take i).map sg).map V.str/\J=H1) #[1] (λi ys J _ z=>by rw[z.2];show aW.of e1) ?_ ?_
 .rintro i x ys J hx ⟨rfl,rfl⟩;rw[M4]at hx;let#[y,G,rfl]:=SV.mp hx;unfold fill at G;cases z:i<(pK sl).length
  .rw[SW (by rw[rz];show z),M4,tp z]at G;obtain rfl:=SN G;let hb:=ad _ (UA z);show#[0,_,0,rfl,0,?_];rw[decide_eq_true (show(0:Int)<(((pK sl)[i]:Nat):Int)-96 by omega),aa3 rfl];show#[0,_,0,rfl,sA,_,(pK sl)[i],1,by rw[hs];decide +kernel,Es hb.1 hb.2,by rw[rz,rz,HC];omega,?_,rfl];rw[Um,tp z,K4,K4];rfl
  .rw[SQ (by rw[rz];omega),Vx]at G;split at G
   .obtain rfl:=SN G;show#[0,_,0,rfl,0,?_];show ck #[?_,rfl];rw[OR (show(pK sl).length<=i by omega),OR (show(pK sl).length<=i+1 by omega)]
   .cases G
 .intro ys J h r fr;let#[Z,eJ]:=h;subst eJ;rw[rz,lf,OR h6]at Z;rw[Z];clear Z;let s2:=s1.trans (ah (X:=.lst (((pK sl).map sg).map V.str)) fr);show#["",r,(pK sl).map sg,1,aW.of ag,?_,jt _ _ ?_]
  .show PyProof.Rows.joinOk_of ?_;have:((pK sl).map sg).map (·.length)=(pK sl).map λ_=>1:=(by rw[VM];rfl);rw[this,List.map_const',List.sum_replicate_nat];change _+_*0<=_;omega
  clear jt;rw[show Txt.join "" ((pK sl).map sg)=#[(pK sl).toArray]from(StrLaws.glued_eq_join _ _).trans (Hn _)];generalize upd J r (.lst (((pK sl).map sg).map V.str))=J2 at *;let ac:=s2 _ _ hl;cases sl with
  |none =>
   show#[0,rfl,0,?_];show dt (q _ _ s2 rfl)
  |some p =>
   let o:=U p rfl;let ep:(#[(pK (some p)).toArray]:Str)=p.1:=(by change Str.mk p.1.cps.toList.toArray=p.1;rw[Array.toArray_toList]);rw[ep];show#[0,rfl,0,?_];let ne:¬ V.str p.1=V.str "" := λe=>by
    injection e with e;have:=o.lo;rw[e]at this;show absurd this av
   rw[decide_eq_false ne];let l6:(fill (i7 p.1) 6).length=6:=cQ (by unfold i7;rw[rz,Uj];show o.hi);let i6:js ((gI (some p)).map V.int) 6=some (.int p.2):=aD (j:=6) (by
    change((fill (i7 p.1) 6++[p.2,0]).map V.int)[6]?=_;rw[M4,SQ af,l6];rfl)
   show ck #[0,0,l,_,(6),0,rfl,aW.of ac,i6,N8,λt ft=>?_];let s3:=s2.trans (ah (X:=.tup [V.str p.1,V.int p.2]) ft);show q _ _ s3 #[t,rfl,ag]
noncomputable def bp(ss:List Slot):List Int:=(ss.map gI).flatten
theorem gQ(ok:∀p,s=some p->okN p.1):(gI s).length=8:=by
 cases s with
 |none=>rfl
 |some p =>
  change(fill (i7 p.1) 6++[p.2,0]).length=8;rw[wh,cQ (by unfold i7;rw[rz,Uj];show(ok p rfl).hi)];rfl
theorem cO:∀{ss:List Slot},(∀s∈ss,∀p,s=some p->okN p.1)->(bp ss).length=8*ss.length
 | [],_=>rfl
 |s::ss,h=>by
  let G:=cO (ss:=ss) λt F=>h t (S0 _ F);change(gI s++bp ss).length=_;rw[wh,G,gQ (h s Tf),TH];omega
theorem zf(h:ss[i]?=some s):bp (ss.take (i+1))=bp (ss.take i)++gI s:=by
 unfold bp;rw[Um,h,K4,VR];change _++(gI s++[])=_;rw[Tq]
theorem b6.pre{m m':M.St}{H1:Hp}(o:aH H H1)(st:M.Step m H1 m' H'):M.Step m H m' H':=#[λa u e z=>st.1 a u (o _ _ e) z,λa z=>(st.2 a z).imp id (aX o)]
inductive um(M:b6)(v:qAh)(H:Hp)(Q:VK)(e:XK):Prop
 |mk(a:Addr)(m:M.St)(tot d:Nat)(N:NS)(n:Int)(nd:Node)(l:Addr)(ws:qAh)(ss:List Slot)(_:v=[.ref a,.int n,.ref l])(_:M.At H a m tot N d)(_:N n=some nd)(_:H l=some (.lst ws))(_:jE H ws ss)(_:ss.length<=40)(_:∀s∈ss,∀p,s=some p->okN p.1)(_:us N 24+bf (8*ss.length)<=tot+bf nd.cs.length)(_:∀(H':Hp)(m':M.St),M.At H' a m' tot (cA N n (some { nd with cs:=bp ss })) (d+pU nd.cs (bp ss) (nb (bp ss).length)+2)->M.Step m H m' H'->Q .a7 H')
abbrev OU:Tg:=top 54
theorem Jq:ax ["nodes","n","slots","cells","slot"] ["nodes","n","slots"] (ak OU):=L2.a8
theorem vc(F:bM K "put_slots" "put_slots" OU f fd)(T:kH K mg CN)(O:M.Ok P w K mg base)(ac:↥Df 1 "cells_of_slot" J9):↥aM 8 f fd ["nodes","n","slots"] (um M):=by
 show F.cU Jq ?_;intros;let#[a,m,tot,d,N,n,nd,l,ws,ss,rfl,A1,hn,Z,SA,ad,bC,sp,q]:=h;let hs:=y1;let le:=cO bC;show#[_,(aj (cL 3 Jq.nd (bq ae))
  (aj (dU TK rfl (cJ (pv 2)) (qx 4 Jq.nd) (aq (aR (fA Uy WN WO iY (pv 3) (aa (pc ac hr ay (aa (pv 4) ae)) ae)))))
  (aq (aR (pm (pv 0) O.cl O.EL hr ay (aa (pv 1) (aa (pv 3) ae))))))),?_]
 show gz λ_ I=>?_;show#[az,λl1 f1=>I _ _ ?_];clear I;let Y:=ah (X:=.lst []) f1;let e1:upd H l1 (.lst []) l1=some (.lst []):=ag;generalize upd H l1 (.lst [])=H1 at *;let nl:∀{x u},H x=some u->x≠l1:=λe z=>(by rwa[z,f1]at e);show#[0,l,rfl,#[_,aW.of (Y _ _ Z)],?_];show gf (K:=K) (a:=l) (xs:=ws) (λi σ J=>∃v4:Option V,kZ (σ=#v[.ref a,.int n,.ref l,.ref l1,v4]) (J l1=some (.lst ((bp (ss.take i)).map V.int))) (Off (· = l1) H1 J)) #[0,e1,λ_ _ e _=>e] (λi σ J _ z=>by let#[_,_,_,o]:=z;show aW.of (o _ _ (Y _ _ Z) (nl Z))) ?_ ?_
 .rintro i x σ J hx ⟨v4,rfl,G,L⟩;let#[sl,e2,a2]:=SA.at_ i x hx;let U:aH H J:=λy u e=>L _ _ (Y _ _ e) (nl e);let hi:=(y0.mp e2).1;let ab:=bC sl (SO e2);let lt:(bp (ss.take i)).length<=320:=by
   rw[cO λt ht=>bC t (Ux ht),HC];omega
  show uW λQQ I=>?_;show#[0,.inl #[5,aW.of G],0,x,sl,rfl,a2.same U,ab,λJ2 r s2 fr er=>?_];show#[l1,r,_,0,rfl,s2 _ _ G,er,by rw[rz,rz,gQ ab];omega,I _ _ #[0,?_,λy u e z=>by rw[au z];show s2 _ _ (L _ _ e z)]];rw[ag,zf e2,K4]
 .rintro σ J ⟨v4,rfl,G,L⟩;rw[SA.ln,UH]at G;let U:aH H J:=λy u e=>L _ _ (Y _ _ e) (nl e);let AJ:=O.same A1 U;let#[dx,fs',ho,ht,hm]:=O.ob AJ;show#[0,a,dx,0,ho,hm _ av,0,0,a,m,tot,d,N,n,nd,l1,bp ss,rfl,AJ,hn,G,λw=>O.live A1 w f1,af,by rw[le];show sp,λH' m' A' st=>q H' m' A' (b6.pre U st)]
end Fs
namespace L2
open PySem PySem.Spec PyProof.Rows
variable{caps:List (Str×Nat)}{te:TE}{σ:St}{H:Hp}{lo st:Int}{n:Nat}
theorem uC{tt:TT}{G:List V->Hp->Prop}(Pv:Nat->List V->Hp->Prop)(L:Pv 0 [] H)
  (hs:∀i ys H,i<n->Pv i ys H->tt (mL caps σ (some (.int (lo+i*st)))) H λb H2=>if b=true then te (mL caps σ (some (.int (lo+i*st)))) H2 (λy I=>ys.length<sizeLine/\Pv (i+1) (ys++[y]) I)else Pv (i+1) ys H2)
  (hd:∀ys H,Pv n ys H->G ys H):∃W:Nat->Nat->List V->Hp->Prop,(∃m,W 0 m [] H)/\j8 caps tt te σ (FU lo st n) G W:=by
 show#[λi m ys H=>m=n-i/\i<=n/\Pv i ys H,#[n,by simp,Tp _,L],?_];rintro i m ys H ⟨rfl,hi,p⟩;cases F:i<n
 .show .inr #[F,Pv (i+1),λY H' U=>#[n-(i+1),Vq n i F,rfl,F,U],λx H' y=>?_];let#[e,y]:=y;subst e y;show hs i ys _ F p
 .let e:i=n:=af;subst e;show .inl #[G0 _,hd ys H p]
theorem uu{F:List V->Hp->Prop}(Pv:Nat->List V->Hp->Prop)(I:Pv 0 [] H)
  (hs:∀i ys H,i<n->Pv i ys H->te (mL caps σ (some (.int (lo+i*st)))) H (λy G=>ys.length<sizeLine/\Pv (i+1) (ys++[y]) G))
  (hd:∀ys H,Pv n ys H->F ys H):∃W:Nat->Nat->List V->Hp->Prop,(∃m,W 0 m [] H)/\j8 caps vk te σ (FU lo st n) F W :=
 uC Pv I (λi ys H hi p=>by
  change if true=true then _ else Pv (i+1) ys H
  rw[aa3 rfl];show hs i ys H hi p) hd
end L2
namespace Fs
open PySem L2 Dk Tb
theorem OF:∀k:Nat,k<41->Builtin.Range.small 0 (8*(k:Int)) 8=true/\Builtin.Range.rangeSize 0 (8*(k:Int)) 8=(k:Int)/\Builtin.divisionGoesByPylong (8*(k:Int)-0) 8=false:=av
theorem yy:∀{ss:List Slot}{i:Nat}{s:Slot},(∀s∈ss,∀p,s=some p->okN p.1)->ss[i]?=some s->((bp ss).drop (8*i)).take 8=gI s
 |F::ss,0,s,h,e=>by
  cases e;change((gI F++bp ss).drop 0).take 8=_;let l:=gQ (h F Tf);rw[VG,Vk,l,V7,UU,Tq,OR af]
 |F::ss,i+1,s,h,e=>by
  let I:=yy (ss:=ss) (i:=i) (λt G=>h t (S0 _ G)) e;change((gI F++bp ss).drop (8*(i+1))).take 8=_;let l:=gQ (h F Tf);rw[Y8,l,Uk af,WJ,show 8*(i+1)-8=8*i by omega];show I
inductive pf(M:b6)(v:qAh)(H:Hp)(Q:VK)(e:XK):Prop
 |mk(a:Addr)(m:M.St)(tot d:Nat)(N:NS)(n:Int)(nd:Node)(ss:List Slot)(_:v=[.ref a,.int n])(_:M.At H a m tot N d)(_:N n=some nd)(_:nd.cs=bp ss)(_:ss.length<=40)(_:∀s∈ss,∀p,s=some p->okN p.1)(_:∀(H':Hp)(q:Addr)(ws:qAh),aH H H'->H q=none->H' q=some (.lst ws)->jE H' ws ss->Q (.ref q) H')
abbrev Lg:Tg:=top 53
theorem HG:ax ["nodes","n","cells"] ["nodes","n"] (ak Lg):=L2.a8
variable{CN:Addr}
theorem wN{M:b6}(F:bM K "slots_of" "slots_of" Lg f fd)(T:kH K mg CN)(TL:OE K mg)(O:M.Ok P w K mg base)(ac:↥Df 1 "slot_in" Kq):↥aM 8 f fd ["nodes","n"] (pf M):=by
 let ab:=TL.SC;show F.cU HG ?_;intros;let#[a,m,tot,d,N,n,nd,ss,rfl,A1,hn,ec,am,Y,q]:=h;let hs:=y1;let le:=cO Y;let#[dx,fs',ho,ht,hm]:=O.ob A1;let#[g1,g2,g3]:=OF ss.length af;show#[_,(aj (cL 2 HG.nd (pm (pv 0) O.cl O.cells hr ay (aa (pv 1) ae)))
  (aq (aG (cY (cl:=[("cells",s⁻¹+1)]) (caps:=[("cells",2)]) #[rfl,av,av,rfl,by kernel_rfl,%[|1],by kernel_rfl,%[|1],av] rfl (As (by rfl) T.range (aa ai (aa (aC aO (by rfl) T.len T7 (aa (pv 2) ae)) (aa (de ab) ae)))) (λ_ _ _ _=>eM) (λ_ _ _ _=>(pc ac hr ay (aa (bw (show Oa _ (FL K)from bK) (pv 1) (bA (pv 0)) (bA (aJ bU (pv 0) (de ab)))) ae))))))),?_]
 show gz λ_ jt=>?_;show#[0,a,dx,0,ho,hm _ av,0,a,m,tot,d,N,n,nd,rfl,A1,hn,λH1 l1 s1 f1 Z=>jt _ _ ?_];clear jt;rw[ec]at Z;let U:(((bp ss).map V.int).length:Int)=8*(ss.length:Int):=(by rw[rz,le];omega);show#[0,l1,0,.inl (aW.of Z),2,_,ss.length,rfl,by rw[U];show g1,by rw[U];show g2,az,by rw[U];show g3,?_];show uu (lo:=0) (st:=8) (n:=ss.length) (λi ys J=>jE J ys (ss.take i)/\aH H1 J) #[#[rfl,λi v h=>by cases h],λ_ _ e=>e] ?_ ?_
 .rintro i ys J hi ⟨I,G⟩;let es:ss[i]?=some ss[i]:=tp hi;let ad:=Y _ (UA hi);let ly:ys.length<=40:=(by rw[I.ln,HC];omega);show#[0,0,0,0,_,0,rfl,0,l1,0,aW.of (G _ _ Z),λr fr=>?_];rw[show dg ((bp ss).map V.int) (some (0+(i:Int)*8)) (some (0+(i:Int)*8+8))=(gI ss[i]).map V.int by
   rw[show 0+(i:Int)*8=((8*i:Nat):Int)by omega, <-yy Y es];show ni (n:=8)]
  let s2:=ah (X:=.lst ((gI ss[i]).map V.int)) fr;show#[r,ss[i],rfl,ag,ad,λJ2 v L hv=>#[af,?_,G.trans (s2.trans L)]];rw[Um,es];show(I.same (s2.trans L)).snoc hv
 .rintro ys J ⟨I,G⟩ r fr;rw[UH]at I;let L:=ah (X:=.lst ys) fr;show q _ r ys (s1.trans (G.trans L)) (aX (s1.trans G) fr) ag (I.same L)
abbrev Rc:Tg:=top 65
theorem Qd:ax ["cells","size"] ["cells","size"] (ak Rc):=L2.a8
theorem p9(F:bM K "lengthened" "lengthened" Rc f fd)(T:kH K mg CN):↥aM 1 f fd ["cells","size"] jM:=by
 show F.cU Qd ?_;intros;let#[l,xs,m,rfl,Z,hm,hx,k]:=h;let hs:=y1;show#[_,(aq (aG (aJ cE (pv 0) (aJ iM (bq (aa ai ae)) (aJ dQ (pv 1) (aC aO (by rfl) T.len T7 (aa (pv 0) ae))))))),?_];show#[0,az,λL h1=>?_];let s1:=ah (X:=.lst [V.int 0]) h1;show#[0,0,l,0,.inl (aW.of (s1 _ _ Z)),_,0,rfl,L,_,0,rfl,ag,4,?_,λG h2=>?_]
 .rw[rz];omega
 .rw[rz];omega
 .rw[rz,Tj];omega
 let e:((m:Int)-((xs.map V.int).length:Nat)).toNat=m-xs.length:=(by rw[rz];omega);rw[rep1,e];let I:=s1.trans (ah (X:=.lst (IF (m-xs.length) (V.int 0))) h2);let e2:upd (upd H L (.lst [V.int 0])) G (.lst (IF (m-xs.length) (V.int 0))) G=some (.lst (IF (m-xs.length) (V.int 0))):=ag;generalize upd (upd H L (.lst [V.int 0])) G (.lst (IF (m-xs.length) (V.int 0)))=H2 at *;show#[l,G,_,0,rfl,I _ _ Z,e2,by rw[rz,Uh];omega,λU Y=>?_];let f3:H U=none:=by
  cases q:H U with
  |none=>rfl
  |some u=>rwa[I _ _ q]at Y
 show k _ U (I.trans (ah Y)) f3 ?_;rw[ag];unfold fill;rw[K4,V6]
inductive Er|badName|noName|notDir|isDir|notEmpty|inside|noNode|noSpace|tooMany|tooBig|notHeld|notAllowed|taken
def Hi(e:Er):Str:=match e with
 |.badName => "BadName"
 |.noName => "NoName"
 |.notDir => "NotDir"
 |.isDir => "IsDir"
 |.notEmpty => "NotEmpty"
 |.inside => "Inside"
 |.noNode => "NoNode"
 |.noSpace => "NoSpace"
 |.tooMany => "TooMany"
 |.tooBig => "TooBig"
 |.notHeld => "NotHeld"
 |.notAllowed => "NotAllowed"
 |.taken => "Taken"
structure jO(K:SU)(mg:qa3)(X:Er->Addr):Prop where
 xm:∀e,mg (Hi e)=some (.ref (X e))
 xe:∀e,aas K (X e) ou "ValueError.__new__" = true
 Et:∃u,mg "LETTERS" = some u/\RelV (.str sA) u
 tw:∃u,mg "NAME_LETTERS" = some u/\RelV (.int 6) u
 oQ:∃u,mg "SLOT_CELLS" = some u/\RelV (.int 8) u
 zj:∃u,mg "DIR_SLOTS" = some u/\RelV (.int 40) u
 oY:∃u,mg "NODE_CELLS" = some u/\RelV (.int 320) u
 sj:∃u,mg "ROOT" = some u/\RelV (.int 0) u
 len:mg "len" = none
 all:mg "all" = none
 list:mg "list" = none
 sorted:mg "sorted" = none
def Nl(t:Str):Bool:=t.cps.toList.all λc=>decide (c∈sA.cps.toList)
noncomputable def eA(t:Str):Bool:=decide (1<=t.length/\t.length<=6)&&Nl t
theorem zm{t:Str}(h:eA t=true):okN t:=by
 unfold eA at h;rw[WI]at h;let#[h1,h2]:=h;let h1:=of_decide_eq_true h1;show#[h1.1,h1.2,λc F=>?_];have:=of_decide_eq_true (U6.mp h2 c F);show(show ∀c∈sA.cps.toList,97<=c/\c<123 by decide +kernel) c this
inductive nV(v:qAh)(H:Hp)(Q:VK)(e:XK):Prop
 |mk(t:Str)(_:v=[.str t])(_:t.length<=100000)(_:∀H',aH H H'->Q (.bl (eA t)) H')
theorem J0(c:Nat):(!(Builtin.Str.occurrences sA #[([c].toArray)] 0 sA.length 1).isEmpty)=decide (c∈sA.cps.toList):=StrLaws.found_one sA c
variable{i:Nat}
theorem Cf{l:List Nat}{p:Nat->Bool}{c:Nat}(h:l[i]?=some c):((l.take i).map p).map V.bl++[V.bl (p c)]=((l.take (i+1)).map p).map V.bl:=by
 rw[Um,h,K4,K4];rfl
noncomputable def SL:Str := "/"
structure bG(p:Str):Prop where
 len:p.length<=20000
 cps:∀c∈p.cps.toList,c<128
theorem bG.repr{p:Str}(h:bG p):(XJ p).length<=200002:=by
 have:=StrLaws.reprText_len p λc F=>Tz (h.cps c F) az;have:=h.len;omega
noncomputable def dY(p:Str):Str:=Txt.slice p (some 1) none
noncomputable def mx(p:Str):Except Er (List Str):=if p=SL then .ok []else if Txt.startswith p SL=true then(if (Txt.split (dY p) SL).all eA=true then .ok (Txt.split (dY p) SL)else .error .badName)else .error .badName
inductive vy(X:Er->Addr)(v:qAh)(H:Hp)(Q:VK)(e3:XK):Prop
 |mk(p:Str)(_:v=[.str p])(_:bG p)(_:∀e,mx p=.error e->∀H',aH H H'->e3 (.ref (X e)) none H')
  (_:∀ns,mx p=.ok ns->∀(H':Hp)(l:Addr),aH H H'->H l=none->H' l=some (.lst (ns.map V.str))->Q (.ref l) H'):vy X v H Q e3
theorem me(x:Str)(w:Nat):∀(L:List Nat)(a:Nat)(y:Str),y∈X3 x w a L->y.length<=x.length/\∀c∈y.cps.toList,c∈x.cps.toList
 | [],a,y,h=>by
  let e:y=Builtin.Str.strSub x a x.length:=(by simpa[X3]using h);show sub_piece e
 |c::r,a,y,h=>by
  rcases Ti.mp (show y∈Builtin.Str.strSub x a c::X3 x w (c+w) r from h)with e|h
  .show sub_piece e
  .show me x w r (c+w) y h
where
 sub_piece {x y:Str}{a b:Nat}(e:y=Builtin.Str.strSub x a b):y.length<=x.length/\∀c∈y.cps.toList,c∈x.cps.toList:=by
  subst e;let I:(Builtin.Str.strSub x a b).length=(Builtin.Str.strSub x a b).cps.toList.length:=(by simp[Str.length]);let G:x.length=x.cps.toList.length:=(by simp[Str.length]);rw[I,G,StrLaws.strSub_toList];show#[?_,λc F=>UL (Ux F)];rw[HC,Tu];omega
theorem B8(x y z:Str)(h:z∈Txt.split x y):z.length<=x.length/\∀c∈z.cps.toList,c∈x.cps.toList:=by
 unfold Txt.split at h;split at h
 .rw[DO.mp h];show#[G0 _,λ_ h=>h]
 .split at h
  .rw[DO.mp h];show#[G0 _,λ_ h=>h]
  .rw[StrLaws.partsBetween_eq]at h;show me x _ _ _ z h
theorem uo(x y z:Str)(h:z∈Txt.split x y):z.length<=x.length:=(B8 x y z h).1
abbrev Q8:Tg:=top 46
abbrev PM:Tg:=top 47
theorem Rg:ax ["text"] ["text"] (ak Q8):=L2.a8
variable{X:Er->Addr}
theorem zw(F:bM K "is_name" "is_name" Q8 f fd)(T:jO K mg X):↥aM 1 f fd ["text"] nV:=by
 show F.cU Rg ?_;intros;let#[t,rfl,hl,k]:=h;let hs:=y1;show#[_,(aq (aG (oP (AO HQ HQ ai (aC rX (by rfl) T.len T7 (aa (pv 0) ae)) (de T.tw)) (sI (aC (qU rfl) (by rfl) T.all AQ (aa (cY (cl:=[]) (caps:=[]) #[rfl,av,av,rfl,by kernel_rfl,by intro p G;simp at G,by kernel_rfl,by intro p G;simp at G,av] rfl (Cz (pv 0)) (λ_ _ _ _=>eM) (λ_ _ _ _=>(nE y6 (pv 0) (de T.Et) (by with_unfolding_all rfl)))) ae)))))),?_];show#[0,t,rfl,af,_,0,rfl,0,?_];show c9 (λL=>?_) (λL=>#[false,rfl,ck ?_])
 .let Y:(1:Int)<=(t.length:Int):=of_decide_eq_true L;show#[_,0,rfl,0,?_];show c9 (λI=>?_) (λI=>?_)
  .let U:(t.length:Int)<=6:=of_decide_eq_true I;show#[0,t,3];show qX (λi ys H2=>ys=((t.cps.toList.take i).map λc=>decide (c∈sA.cps.toList)).map V.bl/\H2=H) #[1] ?_ ?_
   .rintro i c ys H2 hc ⟨rfl,rfl⟩;show#[0,_,0,3,?_,rfl]
    .rw[rz,rz,HC];have:t.cps.toList.length=t.length:=(by simp[Str.length]);omega
    .rw[J0];show Cf ‹hc›
   .rintro ys H2 ⟨rfl,rfl⟩ l Z;show#[l,0,aW.of ag,?_];let e:((t.cps.toList.take t.cps.size).map λc=>decide (c∈sA.cps.toList)).all id=eA t:=by
     rw[OR (by simp),all_map];unfold eA;rw[decide_eq_true #[af,af]];rfl
    rw[e];show k _ (ah Z)
  .let U:¬ (t.length:Int)<=6:=λz=>I (decide_eq_true z);let e:eA t=false:=by
    unfold eA;rw[decide_eq_false af];rfl
   rw[e]at k;show k _ (aH.refl _)
 .let Y:¬ (1:Int)<=(t.length:Int):=λz=>L (decide_eq_true z);let e:eA t=false:=by
   unfold eA;rw[decide_eq_false af];rfl
  rw[e]at k;show k _ (aH.refl _)
theorem Kj:ax ["path","names","name"] ["path"] (ak PM):=L2.a8
theorem xn(F:bM K "names_of" "names_of" PM f fd)(T:jO K mg X)(GI:↥Df 1 "is_name" nV):⇑aM 2 f fd ["path"] (vy X):=by
 show F.dX Kj ?_;intros;let#[p,rfl,hp,kE,kQ]:=h;let hs:=y1;show#[_,(aw (cT (bP (aA bD (pv 0) aF (aI _)) (aq (aG (bq ae))) bj))
  (aw (bH (kT (gy (fA VS PySem.F.slot_str_startswith PySem.F.type_str_startswith y8 (pv 0) (aa aF ae)))) (aS (bE rfl (T.xm .badName) (T.xe .badName) rfl rfl (aa (fU (cw (C6 (pv 0)) (cw aF ig))) ae))) bo)
  (aw (cT (cL 1 Kj.nd (fA VS VP Y9 pO (bw IT (pv 0) (bA ai) b8) (aa aF ae))))
  (aw (yh rfl rfl rfl (cJ (pv 1)) (qx 2 Kj.nd) (aS (bH (kT (gy (pc GI hr ay (aa (pv 2) ae)))) (aS (bE rfl (T.xm .badName) (T.xe .badName) rfl rfl (aa (fU (cw (C6 (pv 0)) (cw aF ig))) ae))) bo)))
  (cf (aq (aG (pv 1)))))))),?_]
 let ad:=hp.repr;let ab:(XJ p).length<=sizeLine:=af;let f1:(Str.empty++XJ p:Str).length<=sizeLine:=by
  rw[len_app,show(Str.empty:Str).length=0 from rfl];omega
 let f2:(Str.empty++XJ p++(" is no path" : Str):Str).length<=sizeLine:=by
  rw[len_app,len_app,show(Str.empty:Str).length=0 from rfl,show(" is no path" : Str).length=11 by decide +kernel];omega
 let am:=hp.len;show#[0,rfl,0,?_];show c9 (λc=>?_) (λc=>?_)
 .let e:p=SL:=V.str.inj (of_decide_eq_true c);show#[az,λl I=>?_];show kQ [] (by unfold mx;rw[aa3 e]) _ l (ah I) I ag
 let ne:¬ p=SL:=λz=>c (decide_eq_true (by rw[z];rfl));show#[0,rfl,p,SL,1,0,?_];cases Y:Txt.startswith p SL with
 |false =>
  show dt ?_;show#[0,p,rfl,ab,0,f1,0,f2,f2,vA,kE _ (by unfold mx;rw[aa2 ne,Y];rfl) H (aH.refl H)]
 |true =>
  show ck ?_;let ao:(dY p).length<=p.length:=Txt.slice_le p _ _;show#[0,(1),rfl,p,rfl,af,rfl,dY p,SL,1,rfl,af,λl I=>?_];let s1:=ah (X:=.lst ((Txt.split (dY p) SL).map V.str)) I;let h1:(upd H l (.lst ((Txt.split (dY p) SL).map V.str))) l=some (.lst ((Txt.split (dY p) SL).map V.str)):=ag;let ac:∀x∈Txt.split (dY p) SL,x.length<=20000:=λx L=>by
   have:=uo (dY p) SL x L;omega
  let ed:(Txt.split (dY p) SL).all eA=true->mx p=.ok (Txt.split (dY p) SL):=λz=>by
   unfold mx;rw[aa2 ne,Y,aa3 rfl,aa3 z]
  let en:(Txt.split (dY p) SL).all eA=false->mx p=.error .badName:=λz=>by
   unfold mx;rw[aa2 ne,Y,aa3 rfl,z];rfl
  generalize Txt.split (dY p) SL=ns at *;generalize upd H l (.lst (ns.map V.str))=H1 at *;show#[0,l,rfl,#[_,aW.of h1],?_];show qo (K:=K) (a:=l) (xs:=ns.map V.str) (λi σ H2=>∃v2:Option V,σ=#v[.str p,.ref l,v2]/\aH H1 H2/\(ns.take i).all eA=true) #[0,aH.refl _,rfl] (λi σ H2 _ ⟨_,_,G,_⟩=>aW.of (G _ _ h1)) ?_ ?_
  .rintro i x σ H2 L ⟨v2,rfl,G,U⟩;rw[M4]at L;let#[n,Z,rfl]:=SV.mp L;show#[0,n,rfl,Td (ac n (SO Z)) az,λH3 s3=>#[0,?_]];cases ho:eA n with
   |false =>
    show dt ?_;show#[0,p,rfl,ab,0,f1,0,f2,f2,vA,kE _ (en ?_) H3 ((s1.trans G).trans s3)];rw[List.all_eq_false];show#[n,SO Z,by rw[ho];simp]
   |true =>
    show ck #[0,G.trans s3,?_];rw[Um,Z,List.all_append,U];simp[ho]
  .rintro σ H2 ⟨v2,rfl,G,U⟩;rw[rz,UH]at U;show#[0,kQ ns (ed U) H2 l (s1.trans G) I (G _ _ h1)]
open Srt
variable{xs:qAh}{s:Nat}
theorem Fl:dg xs none (some (s:Int))=xs.take s:=by
 unfold dg;rw[HT.ja,HT.jX,VG,Nat.sub_zero];cases c:s<=xs.length
 .rw[Wo c]
 .rw[Wz af,OR (G0 _),OR af]
theorem qQ:dg xs (some (s:Int)) none=xs.drop s:=by
 unfold dg;rw[HT.ja,HT.jX];cases c:s<=xs.length
 .rw[Wo c,OR (by rw[Tu];show G0 _)]
 .rw[Wz af,Uk (G0 _),Uk af,Y7]
noncomputable def eE(ss:List Slot):List Str:=ss.filterMap λs=>s.map (·.1)
noncomputable def Pb(s:Slot):List Str:=match s with
 |none=>[]
 |some p=>[p.1]
variable{ss:List Slot}{s:Slot}
theorem Dr:eE (ss++[s])=eE ss++Pb s:=by
 unfold eE;rw[YR];cases s<;>rfl
theorem rO(ss:List Slot):(eE ss).length<=ss.length:=Vo ..
inductive Ao(v:qAh)(H:Hp)(Q:VK)(e:XK):Prop
 |mk(l:Addr)(ws:qAh)(ss:List Slot)(_:v=[.ref l])(_:H l=some (.lst ws))(_:jE H ws ss)(_:ss.length<=40)(_:(eE ss).Nodup)(_:∀(H':Hp)(q:Addr),aH H H'->H q=none->H' q=some (.lst ((qh (eE ss)).map V.str))->Q (.ref q) H')
theorem ot(ns:qAb):(qh ns).length=ns.length:=(Vs ns sle).length_eq
abbrev JM:Tg:=top 55
abbrev QK:Tg:=top 58
abbrev K8:Tg:=top 59
abbrev Rv:Tg:=top 60
theorem NW:ax ["slots"] ["slots"] (ak JM):=L2.a8
theorem wt(F:bM K "names_in" "names_in" JM f fd)(T:jO K mg X):↥aM 1 f fd ["slots"] Ao:=by
 show F.cU NW ?_;intros;let#[l,ws,ss,rfl,U,Z,ab,nd,q]:=h;let hs:=y1;show#[_,(aq (aG (aC q9 (by rfl) T.sorted lF (aa (cY (cl:=[]) (caps:=[]) #[rfl,av,av,rfl,by kernel_rfl,by intro p I;simp at I,by kernel_rfl,by intro p I;simp at I,av] rfl (cJ (pv 0)) (λ_ _ _ _=>iq (aA ic (pv 0) cF (aI _))) (λ_ _ _ _=>(aL (show zA _ (mM K)from bg) (pv 0) ai bZ))) ae)))),?_];show#[0,l,rfl,#[_,aW.of U],?_];show gM (K:=K) (a:=l) (xs:=ws) (λi ys J=>ys=(eE (ss.take i)).map V.str/\J=H) #[1] (λi ys J _ z=>by rw[z.2];show aW.of U) ?_ ?_
 .rintro i x ys J hx ⟨rfl,rfl⟩;let#[G,e1,Y]:=Z.at_ i x hx;let lt:=rO (ss.take i);rw[HC]at lt;let L:eE (ss.take (i+1))=eE (ss.take i)++Pb G:=(by rw[Um,e1];show Dr);show#[0,rfl,0,?_];cases G with
  |none =>
   cases Y;show ck #[by rw[L];show(congrArg _ (Tq _).symm),rfl]
  |some p =>
   let#[t,rfl,ht]:=Y;show dt #[0,t,_,(0),.str p.1,1,dC.of ht,aD (j:=0) rfl,by rw[rz];omega,?_,rfl];rw[L,K4];rfl
 .rintro ys J ⟨rfl,rfl⟩ r fr;rw[Z.ln,UH];let G:=ah (X:=.lst ((eE ss).map V.str)) fr;let ln:=rO ss;show#[r,eE ss,rfl,aW.of ag,nd,af,λl2 f2=>q _ l2 (G.trans (ah f2)) (aX G f2) ag]
inductive Ec(X:Er->Addr)(v:qAh)(H:Hp)(Q:VK)(e:XK):Prop
 |mk(l:Addr)(ws:qAh)(ss:List Slot)(_:v=[.ref l])(_:H l=some (.lst ws))(_:jE H ws ss)(_:ss.length<=40)(_:(eE ss).Nodup)(_:40<=(eE ss).length->∀H',aH H H'->e (.ref (X .tooMany)) none H')(_:(eE ss).length<40->∀H',aH H H'->Q .a7 H')
theorem QR:ax ["slots"] ["slots"] (ak QK):=L2.a8
theorem pZ(F:bM K "refuse_full" "refuse_full" QK f fd)(T:jO K mg X)(Z:↥Df 1 "names_in" Ao):⇑aM 2 f fd ["slots"] (Ec X):=by
 show F.dX QR ?_;intros;let#[l,ws,ss,rfl,L,SA,U,nd,I,kQ]:=h;let hs:=y1;show#[_,(aS (bH (aA DC (aC aO (by rfl) T.len T7 (aa (pc Z hr ay (aa (pv 0) ae)) ae)) (de T.zj) (aI _)) (aS (bE rfl (T.xm .tooMany) (T.xe .tooMany) rfl rfl (aa aF ae))) bo)),?_];show#[0,l,ws,ss,rfl,L,SA,U,nd,λH1 q G f1 Y=>?_];show#[q,0,.inl (aW.of Y),_,0,rfl,0,?_];rw[rz,ot];show c9 (λc=>?_) (λc=>?_)
 .show#[az,I (by have:=of_decide_eq_true c;omega) H1 G]
 .show kQ (by have:¬ (40:Int)<=((eE ss).length:Nat):=λz=>c (decide_eq_true z);omega) H1 G
def iD(ss:List Slot):Nat:=ss.findIdx isNone
noncomputable def c7(ss:List Slot)(nm:Str)(k:Int):List Slot:=ss.take (iD ss)++[some (nm,k)]++ss.drop (iD ss+1)
inductive Cr(v:qAh)(H:Hp)(Q:VK)(e:XK):Prop
 |mk(l:Addr)(ws:qAh)(ss:List Slot)(nm:Str)(k:Int)(_:v=[.ref l,.str nm,.int k])(_:H l=some (.lst ws))(_:jE H ws ss)(_:ss.length<=40)(_:∀(H':Hp)(q:Addr)(ws':qAh),aH H H'->H q=none->H' q=some (.lst ws')->jE H' ws' (c7 ss nm k)->Q (.ref q) H')
variable{H:Hp}{ws:qAh}
theorem jE.Sj(A:jE H ws ss):Mu K H ws:=#[λx G=>by
 let#[i,hi]:=WC.mp G;let#[s,_,a]:=A.at_ i x hi;cases s with
 |none=>show .inl a
 |some p =>
  let#[t,e,F]:=a;show .inr #[t,_,e,dC.of F]]
theorem jE.a7(A:jE H ws ss):ws.map jS=ss.map isNone:=Ww λi=>by
 rw[M4,M4];cases e:ws[i]? with
 |none =>
  have:=VY.mp e;rw[YO (by rw[<-A.ln];show this)];rfl
 |some v =>
  let#[s,F,a]:=A.at_ i v e;rw[F];cases s with
  |none=>cases a;rfl
  |some p =>
   let#[t,rfl,_]:=a;rfl
theorem jE.cut(A:jE H ws ss)(j:Nat):jE H (ws.take j) (ss.take j)/\jE H (ws.drop j) (ss.drop j):=by
 let l:=A.ln;show#[#[by rw[HC,HC,l],λi v h=>?_],#[by rw[Tu,Tu,l],λi v h=>?_]]
 .rw[UC]at h;cases c:i<j
  .rw[aa3 c]at h;let#[s,e,a]:=A.at_ i v h;show#[s,by rw[UC,aa3 c];show e,a]
  .rw[aa2 c]at h;cases h
 .rw[UP]at h;let#[s,e,a]:=A.at_ _ v h;show#[s,by rw[UP];show e,a]
theorem jE.app{us:qAh}{ts:List Slot}(A:jE H ws ss)(B:jE H us ts):jE H (ws++us) (ss++ts):=by
 let l:=A.ln;show#[by rw[wh,wh,l,B.ln],λi v h=>?_];cases c:i<ws.length
 .rw[SW c]at h;let#[s,e,a]:=A.at_ i v h;show#[s,by rw[SW af];show e,a]
 .rw[SQ af]at h;let#[s,e,a]:=B.at_ _ v h;show#[s,by rw[SQ af, <-l];show e,a]
theorem HK:ax ["slots","name","node","at"] ["slots","name","node"] (ak K8):=L2.a8
theorem rV(F:bM K "slots_with" "slots_with" K8 f fd)(T:jO K mg X):↥aM 1 f fd ["slots","name","node"] Cr:=by
 show F.cU HK ?_;intros;let#[l,ws,ss,nm,k,rfl,G,I,ac,q]:=h;let hs:=y1;let en:=I.a7;let le:=I.ln;show#[_,(aj (cL 3 HK.nd (gh (aA (KH (cV hr)) cF (pv 0) (by with_unfolding_all rfl)) (fA Uy Xb Yj (Ah (cV hr)) (pv 0) (aa cF ae)) (aC aO (by rfl) T.len T7 (aa (pv 0) ae))))
  (aq (aG (aJ cE (aJ cE (bw bK (pv 0) b8 (bA (pv 3))) (bq (aa (dZ (aa (pv 1) (aa (pv 2) ae))) ae))) (bw bK (pv 0) (bA (aJ bU (pv 3) ai)) b8))))),?_]
 show share (λσ J=>σ=#v[.ref l,.str nm,.int k,.int (iD ss:Nat)]/\J=H) (λu' jt=>?_) ?_
 .show#[0,l,ws,1,aW.of G,I.Sj,0,?_];let ea:ws.any jS=ss.any isNone:=by
   have:=congrArg (List.any · id) en
   (rw[any_map,any_map]at this;assumption)
  rw[ea];cases c:ss.any isNone with
  |true =>
   let L:iD ss<ss.length:=List.findIdx_lt_length.mpr ‹c›;let ab:∀i:Nat,(ws[i]?).map jS=(ss[i]?).map isNone:=λi=>by
    have:=congrArg (λz:List Bool=>z[i]?) en;simpa only[M4]using this
   show dt #[0,.inl #[5,aW.of G],l,ws,iD ss,1,G,I.Sj,?_,λi hi=>?_,jt _ _ #[1]]
   .rw[ab,tp L];show congrArg some (List.findIdx_getElem (w:=L))
   .rw[ab,tp (aaN hi L)];show congrArg some ‹List.not_of_lt_findIdx hi›
  |false =>
   let L:iD ss=ss.length:=YA.mpr λx hx=>by
    have:=ZK.mp c x hx;cases x with
    |none=>show absurd rfl this
    |some p=>rfl
   show ck #[0,l,ws,rfl,.inl (aW.of G),jt _ _ #[?_,rfl]];change[_,_,_,some (V.int (ws.length:Nat))]=_;rw[le,L]
 .rintro σ J ⟨rfl,rfl⟩;show#[0,0,(iD ss:Nat),rfl,l,ws,rfl,aW.of G,λY f1=>?_];rw[Fl];let#[S1,S2]:=I.cut (iD ss);let s1:=ah (X:=.lst (ws.take (iD ss))) f1;let e1:upd J Y (.lst (ws.take (iD ss))) Y=some (.lst (ws.take (iD ss))):=ag;generalize upd J Y (.lst (ws.take (iD ss)))=J1 at *;show#[0,0,by change 2<=sizeLine;omega,λt f2=>#[by change 1<=sizeLine;omega,λZ f3=>?_]];let s2:=ah (X:=.tup [V.str nm,V.int k]) f2;let s3:=ah (X:=.lst [V.ref t]) f3;let e2:=s3 _ _ (ag (H:=J1) (a:=t) (o:=.tup [V.str nm,V.int k]));let e3:upd (upd J1 t (.tup [V.str nm,V.int k])) Z (.lst [V.ref t]) Z=some (.lst [V.ref t]):=ag;let s4:=s2.trans s3;let S3:=S1.same (s1.trans s4);let S4:=S3.snoc (v:=.ref t) (s:=some (nm,k)) #[t,rfl,e2];generalize upd (upd J1 t (.tup [V.str nm,V.int k])) Z (.lst [V.ref t])=J2 at *;show#[Y,Z,_,0,rfl,s4 _ _ e1,e3,by rw[HC];change _+1<=_;omega,λU f4=>?_];let s5:=ah (X:=.lst (ws.take (iD ss)++[V.ref t])) f4;let e4:upd J2 U (.lst (ws.take (iD ss)++[V.ref t])) U=some (.lst (ws.take (iD ss)++[V.ref t])):=ag;let S5:=S4.same s5;let s6:=s1.trans (s4.trans s5);generalize upd J2 U (.lst (ws.take (iD ss)++[V.ref t]))=J3 at *;show#[0,0,_,0,rfl,((iD ss+1:Nat):Int),by rw[show((iD ss:Nat):Int)+1=((iD ss+1:Nat):Int)by omega],l,ws,rfl,aW.of (s6 _ _ G),λq4 f5=>?_];rw[qQ];let s7:=ah (X:=.lst (ws.drop (iD ss+1))) f5;let e5:upd J3 q4 (.lst (ws.drop (iD ss+1))) q4=some (.lst (ws.drop (iD ss+1))):=ag;let s8:=s6.trans s7;let S6:=(S5.same s7).app ((I.cut (iD ss+1)).2.same s8);generalize upd J3 q4 (.lst (ws.drop (iD ss+1)))=J4 at *;show#[U,q4,_,0,rfl,s7 _ _ e4,e5,by rw[wh,HC,Tu];change _+1+_<=_;omega,λq5 f6=>?_];let s9:=ah (X:=.lst (ws.take (iD ss)++[V.ref t]++ws.drop (iD ss+1))) f6;show q _ q5 _ (s8.trans s9) (aX s8 f6) ag (S6.same s9)
noncomputable def dq(N:NS)(n:Int):Bool:=match N n with
 |some nd=>nd.dir
 |none=>false
noncomputable def lk(N:NS)(n:Int):Int:=match N n with
 |some nd=>nd.ln
 |none=>0
noncomputable def oZ(c:Int)(s:Slot):Bool:=match s with
 |some p=>decide (p.2=c)
 |none=>false
noncomputable def cn(ss:List Slot)(c:Int):Nat:=ss.countP (oZ c)
abbrev SS:=Int->List Slot
noncomputable def qw(S:SS)(n:Int)(ss:List Slot):SS:=λk=>if k=n then ss else S k
noncomputable def KD(S:SS)(c:Int)(m:Nat):Nat:=((TM m).map λn:Nat=>cn (S n) c).sum
noncomputable def refs(S:SS)(c:Int):Nat:=KD S c 24
variable{S:SS}{n:Int}
theorem gG:qw S n ss n=ss:=aa3 rfl
variable{k:Int}
theorem eP(h:¬ k=n):qw S n ss k=S k:=aa2 h
theorem oi(S:SS)(c:Int)(m:Nat):KD S c (m+1)=KD S c m+cn (S m) c:=by
 unfold KD;rw[VQ,K4,sum_append];change _+(_+0)=_;omega
theorem CH(S:SS)(n:Int)(ss:List Slot)(c:Int)(G:0<=n):∀m:Nat,KD (qw S n ss) c m+(if n<m then cn (S n) c else 0)=KD S c m+(if n<m then cn ss c else 0)
 |0=>by rw[aa2 af,aa2 af];rfl
 |m+1=>by
  let F:=CH S n ss c G m;rw[oi,oi];cases e:(m:Int)=n
  .rw[aa2 af,aa2 af]at F;rw[aa3 af,aa3 af,e,gG];omega
  .rw[eP e];cases z:n<m
   .rw[aa3 z,aa3 z]at F;rw[aa3 af,aa3 af];omega
   .rw[aa2 z,aa2 z]at F;rw[aa2 af,aa2 af];omega
theorem fo(S:SS)(ss:List Slot)(c:Int)(F:0<=n)(G:n<24):refs (qw S n ss) c+cn (S n) c=refs S c+cn ss c:=by
 have:=CH S n ss c F 24;rw[aa3 af,aa3 af]at this;show this
theorem kg(S:SS)(c:Int)(G:0<=n)(F:n<24):cn (S n) c<=refs S c:=by
 have:=fo S [] c G F;let e:cn [] c=0:=rfl;omega
theorem BR(S:SS)(c:Int)(G:0<=n)(F:n<24)(k0:0<=k)(k1:k<24)(h:¬ n=k):cn (S n) c+cn (S k) c<=refs S c:=by
 let a:=fo S [] c G F;let b:=kg (qw S n []) c k0 k1;rw[eP (Ne.symm h)]at b;let e:cn [] c=0:=rfl;omega
theorem fw(s:Slot)(ss:List Slot)(c:Int):cn (s::ss) c=cn ss c+(if oZ c s=true then 1 else 0):=by unfold cn;rw[Ye]
theorem iW(s:Slot)(ss:List Slot)(nm:Str):eG (s::ss) nm=(if wG nm s=true then none else s)::eG ss nm:=rfl
theorem gZ(ss:List Slot)(nm:Str)(c:Int):cn (eG ss nm) c<=cn ss c:=by
 induction ss with
 |nil=>show G0 _
 |cons s ss F =>
  rw[iW,fw,fw];cases z:wG nm s=true
  .rw[aa3 z,aa2 (show ¬ oZ c none=true by nofun)];omega
  .rw[aa2 z];omega
theorem uc(s:Slot)(ss:List Slot)(nm:Str):kL (s::ss) nm=if wG nm s=true then s.map (·.2)else kL ss nm:=by
 unfold kL;rw[Xi];cases s with
 |none=>rfl
 |some p =>
  rw[Xr];cases z:p.1=nm
  .rw[aa3 z,aa3 (show wG nm (some p)=true from decide_eq_true z)];rfl
  .rw[aa2 z,aa2 (show ¬ wG nm (some p)=true from λe=>z (of_decide_eq_true e))]
variable{nm:Str}
theorem rP(h:kL ss nm=some k):cn (eG ss nm) k+1<=cn ss k:=by
 induction ss with
 |nil=>cases h
 |cons s ss F =>
  rw[uc]at h;rw[iW,fw,fw];cases z:wG nm s=true
  .rw[aa3 z]at h;have:=gZ ss nm k;rw[aa3 z,aa2 (show ¬ oZ k none=true by nofun)];cases s with
   |none=>cases z
   |some p =>
    cases h;rw[aa3 (show oZ p.2 (some p)=true from decide_eq_true rfl)];omega
  .rw[aa2 z]at h;have:=F h;rw[aa2 z];omega
theorem dE(s:Slot)(ss:List Slot):eE (s::ss)=Pb s++eE ss:=by
 unfold eE;rw[Ws];cases s<;>rfl
theorem yA(ss:List Slot)(nm:Str):kL ss nm=none↔nm∉eE ss:=by
 induction ss with
 |nil=>show#[λ_ h=>(by cases h),λ_=>rfl]
 |cons s ss F =>
  rw[uc,dE];cases s with
  |none=>show F
  |some p =>
   change(if decide (p.1=nm)=true then some p.2 else kL ss nm)=none↔nm∉p.1::eE ss;rw[Ti];cases z:p.1=nm
   .rw[aa3 (decide_eq_true z)];show#[nofun,λh=>absurd (.inl z.symm) h]
   .rw[aa2 (λe=>z (of_decide_eq_true e)),F];show#[λh e=>e.elim (λe=>z e.symm) h,λh e=>h (.inr e)]
theorem sv(ss:List Slot)(nm:Str):eE (eG ss nm)=(eE ss).filter λx => !decide (x=nm):=by
 induction ss with
 |nil=>rfl
 |cons s ss F =>
  rw[iW,dE,dE,U5, <-F];cases s with
  |none=>rfl
  |some p =>
   cases z:p.1=nm
   .rw[aa3 (show wG nm (some p)=true from decide_eq_true z)];change[]++_=[p.1].filter _++_;rw[Uw (by simp[z])];rfl
   .rw[aa2 (show ¬ wG nm (some p)=true from λe=>z (of_decide_eq_true e))];change[p.1]++_=[p.1].filter _++_;rw[UE (by simp[z])];rfl
theorem Fo(nm:Str)(k:Int):c7 [] nm k=[some (nm,k)]:=rfl
theorem yD(ss:List Slot)(nm:Str)(k:Int):c7 (none::ss) nm k=some (nm,k)::ss:=by
 unfold c7 iD;rw[aaa];rfl
theorem tY(p:Str×Int)(ss:List Slot)(nm:Str)(k:Int):c7 (some p::ss) nm k=some p::c7 ss nm k:=by
 unfold c7 iD;rw[aaa];rfl
theorem rW(ss:List Slot)(nm:Str)(k c:Int):cn (c7 ss nm k) c=cn ss c+(if k=c then 1 else 0):=by
 let e:oZ c (some (nm,k))=decide (k=c):=rfl
 induction ss with
 |nil =>
  rw[Fo,fw,e];cases z:k=c
  .rw[aa3 (decide_eq_true z),aa3 z]
  .rw[aa2 (λe=>z (of_decide_eq_true e)),aa2 z]
 |cons s ss F =>
  cases s with
  |none =>
   rw[yD,fw,fw,e,aa2 (show ¬ oZ c none=true by nofun)];cases z:k=c
   .rw[aa3 (decide_eq_true z),aa3 z]
   .rw[aa2 (λe=>z (of_decide_eq_true e)),aa2 z]
  |some p=>rw[tY,fw,fw,F];omega
theorem yE(ss:List Slot)(nm:Str)(k:Int):(eE (c7 ss nm k)).Perm (nm::eE ss):=by
 induction ss with
 |nil=>show aaS _
 |cons s ss F =>
  cases s with
  |none=>rw[yD,dE,dE];show aaS _
  |some p =>
   rw[tY,dE,dE];show(List.Perm.cons p.1 F).trans (List.Perm.swap _ _ _)
theorem EC(h:s∈c7 ss nm k):s=some (nm,k)\/s∈ss:=by
 unfold c7 at h;rcases SY.mp h with h|h
 .rcases SY.mp h with h|h
  .show .inr (Ux h)
  .show .inl (DO.mp h)
 .show .inr (UL h)
theorem i9(h:(eE ss).length<40)(l:ss.length<=40):(c7 ss nm k).length<=40:=by
 unfold c7;rw[wh,wh,HC,Tu,Tj];cases c:iD ss<ss.length
 .omega
 .let e:iD ss=ss.length:=aaw WA af;let al:∀x∈ss,x.isNone=false:=YA.mp e;have:(eE ss).length=ss.length:=by
   clear h l c e
   induction ss with
   |nil=>rfl
   |cons s ss F =>
    rw[dE,wh,F λx G=>al x (S0 _ G)];cases s with
    |none=>show absurd (al none Tf) (by nofun)
    |some p=>change 1+_=_+1;omega
  omega
theorem Fg{p:Str×Int}(h:some p∈eG ss nm):some p∈ss:=by
 let#[s,hs,e]:=Tc.mp h;cases z:wG nm s=true
 .rw[aa3 z]at e;cases e
 .rw[aa2 z]at e;show e▸hs
theorem fM(ss:List Slot)(nm:Str):(eG ss nm).length=ss.length:=rz ..
theorem Gm(h:kL ss nm=some k):1<=cn ss k:=by have:=rP h;omega
structure Fz(N:NS)(S:SS):Prop where
 root:dq N 0=true
 enc:∀n nd,N n=some nd->nd.dir=true->nd.cs=bp (S n)
 len:∀n,(S n).length<=40
 ok:∀n,∀s∈S n,∀p,s=some p->okN p.1
 nd:∀n,(eE (S n)).Nodup
 a7:∀n,dq N n=false->S n=[]
 rf:∀n,(refs S n:Int)+(if n=0 then 1 else 0)<=lk N n
 dl:∀n nd,N n=some nd->nd.dir=true->nd.ln=1
 pV:∀n nd,N n=some nd->0<=n/\n<24
variable{N:NS}
theorem b7(h:dq N n=true):∃nd,N n=some nd/\nd.dir=true:=by
 unfold dq at h;cases e:N n with
 |none=>rwa[e]at h
 |some nd=>rw[e]at h;show#[nd,rfl,h]
variable{nd:Node}
theorem fG(h:N n=some nd):dq N n=nd.dir:=by unfold dq;rw[h]
theorem jY(h:N n=some nd):lk N n=nd.ln:=by unfold lk;rw[h]
theorem DS(h:1<=lk N n):∃nd,N n=some nd:=by
 unfold lk at h;cases e:N n with
 |none=>rw[e]at h;show absurd h az
 |some nd=>show#[nd,rfl]
theorem Fz.mJ(F:Fz N S)(h:dq N n=true):0<=n/\n<24:=by
 let#[nd,e,_]:=b7 h;show F.pV n nd e
theorem Fz.use(F:Fz N S)(h:dq N n=true)(h2:kL (S n) nm=some k):∃nd,N k=some nd:=by
 let#[I,G]:=F.mJ h;have:=kg S k I G;have:=Gm h2;have:=F.rf k;show DS ?_;cases z:k=0
 .rw[aa3 z]at this;omega
 .rw[aa2 z]at this;omega
noncomputable def lst(w:qAa):Int:=w.getLastD 0
noncomputable def j7(N:NS)(S:SS)(F:Except Er (List Int))(nm:Str):Except Er (List Int):=match F with
 |.error e=>.error e
 |.ok way=>if dq N (lst way)=true then(match kL (S (lst way)) nm with|none=>.error .noName|some k=>.ok (way++[k]))else .error .notDir
noncomputable def eR(N:NS)(S:SS)(ns:qAb):Except Er (List Int):=ns.foldl (j7 N S) (.ok [0])
theorem yF(e:Er):∀ns:List Str,ns.foldl (j7 N S) (.error e)=.error e
 | []=>rfl
 |_::ns=>yF e ns
theorem pH(ns:qAb)(nm:Str):eR N S (ns++[nm])=j7 N S (eR N S ns) nm:=by unfold eR;rw[aab];rfl
variable{ns:qAb}
theorem yR{e:Er}(h:eR N S (ns.take i)=.error e):eR N S ns=.error e:=by
 unfold eR at *;rw[<-TR i ns,aab,h,yF]
theorem lst_snoc(w:qAa)(k:Int):lst (w++[k])=k:=by unfold lst;rw[XQ,W5];rfl
theorem d8{w:qAa}(h:w≠[]):js (w.map V.int) (-1)=some (.int (lst w)):=by
 obtain⟨a,k,rfl⟩:∃a k,w=a++[k]:=#[2,(TB h).symm];rw[lst_snoc,K4];show oX _ _
theorem FP(w:qAa)(a b:Int):js ((w++[a]++[b]).map V.int) (-2)=some (.int a):=by
 rw[K4,K4];unfold js zv;rw[aa2 az,wh,wh,rz];change Option.bind (if -((w.length+1+1:Nat):Int) <= -2 then some (-2+((w.length+1+1:Nat):Int)).toNat else none) _=_;rw[aa3 af,Xr,show(-2+((w.length+1+1:Nat):Int)).toNat=w.length by omega,Te,SQ (by rw[rz];show G0 _),rz,V7];rfl
structure Way(N:NS)(S:SS)(ns:qAb)(w:qAa):Prop where
 ln:w.length=ns.length+1
 rg:∀x∈w,∃nd,N x=some nd
theorem GH{α:Type}{P:List α->Prop}(G:P [])(h1:∀l a,P l->P (l++[a]))(l:List α):P l:=by
 rw[<-WX l]
 induction l.reverse with
 |nil=>show G
 |cons a r F=>rw[List.reverse_cons];show h1 _ _ F
theorem Fz.way(F:Fz N S):∀{w:qAa},eR N S ns=.ok w->Way N S ns w:=by
 show GH (P:=λns=>∀{w:qAa},eR N S ns=.ok w->Way N S ns w) ?_ (λns nm I=>?_) ns
 .intro w h;cases h;let#[nd,e,_]:=b7 F.root;show#[rfl,λx G=>by rw[DO.mp G];show#[nd,e]]
 .intro w h;rw[pH]at h;cases e:eR N S ns with
  |error r=>rwa[e]at h
  |ok v =>
   rw[e]at h;let W:=I e;unfold j7 at h;dsimp only at h;cases d:dq N (lst v)=true
   .rw[aa3 d]at h;cases q:kL (S (lst v)) nm with
    |none=>rwa[q]at h
    |some k =>
     rwa[q]at h;show#[by rw[wh,wh,W.ln];rfl,λx G=>?_];rcases SY.mp G with G|G
     .show W.rg x G
     .rw[DO.mp G];show F.use d q
   .rw[aa2 d]at h;cases h
end Fs
namespace L2
open PySem PySem.Spec PyProof.Rows
theorem Io{X:Cx}{v:Tr}{pos:Vw}{te:TE}(L:PE X v te):PE X (.FormattedValue v (-1) none pos) (λσ H Q=>te σ H λx H1=>∃a:Str,x=.str a/\a.length<=sizeLine/\Q (.str a) H1):=by
 intros Q I h;show XE (bO (L pins s σ H _ I h) λu Y z=>?_);let#[x,H1,F,U,a,ex,G,q]:=z;subst ex;let#[tk,rfl]:=U;show YN ?_ ?_ G
 .show#[.str a,H1,F,#[0],q]
 .show#[.str a,H1,F.tok _,#[0],q]
end L2
namespace Fs
open PySem L2 Dk Tb Srt
variable{n:Int}
theorem vm(h:n.natAbs<=1000000):n.natAbs.log2<1920:=by
 cases z:n.natAbs=0
 .rw[z];decide
 .show aaN ((Nat.log2_lt z).mpr (show n.natAbs<2^20 by omega)) az
theorem fe:(Str.empty:Str).length=0:=rfl
inductive zh(M:b6)(X:Er->Addr)(v:qAh)(H:Hp)(Q:VK)(e:XK):Prop
 |mk(a:Addr)(m:M.St)(tot d:Nat)(N:NS)(n:Int)(_:v=[.ref a,.int n])(_:M.At H a m tot N d)(_:n.natAbs<=1000000)(_:dq N n=false->∀H',aH H H'->e (.ref (X .notDir)) none H')(_:dq N n=true->∀H',aH H H'->Q .a7 H')
theorem kB(N:NS)(n:Int):decide (HJ (N n)=.str "dir")=dq N n:=by
 unfold dq;cases N n with
 |none=>rfl
 |some nd =>
  change decide (V.str (ph nd.dir)=.str "dir")=nd.dir;cases nd.dir
  .show decide_eq_false (λz=>absurd (V.str.inj z) av)
  .show decide_eq_true rfl
abbrev Q3:Tg:=top 61
abbrev Pq:Tg:=top 62
theorem Qj:ax ["nodes","n"] ["nodes","n"] (ak Rv):=L2.a8
variable{X:Er->Addr}{M:b6}
theorem pe(F:bM K "refuse_no_dir" "refuse_no_dir" Rv f fd)(T:jO K mg X)(O:M.Ok P w K mg base):⇑aM 8 f fd ["nodes","n"] (zh M X):=by
 show F.dX Qj ?_;intros;let#[a,m,tot,d,N,n,rfl,G,hn,Y,kQ]:=h;let hs:=y1;let#[dx,fs',ho,ht,U]:=O.ob G;let I:=vm hn;let li:=iu I;let Z:(Str.empty++toString n:Str).length<=sizeLine:=(by rw[len_app,fe];omega);let f2:(Str.empty++toString n++(" is no dir" : Str):Str).length<=sizeLine:=(by rw[len_app,len_app,fe,show(" is no dir" : Str).length=10 by decide +kernel];omega);show#[_,(aS (bH (aA pb (pm (pv 0) O.cl O.kind hr ay (aa (pv 1) ae)) aF (aI _)) (aS (bE rfl (T.xm .notDir) (T.xe .notDir) rfl rfl (aa (fU (cw (pq (pv 1)) (cw aF ig))) ae))) bo)),?_];show#[0,a,dx,0,ho,U _ av,0,a,m,tot,d,N,n,rfl,G,λH1 L=>#[by cases N n<;>rfl,0,?_]];rw[kB];cases c:dq N n with
 |false=>show dt #[0,n,rfl,I,0,Z,0,f2,f2,(by change 1<=sizeLine;omega),Y c H1 L]
 |true=>show ck (kQ c H1 L)
inductive uY(M:b6)(X:Er->Addr)(v:qAh)(H:Hp)(Q:VK)(e3:XK):Prop
 |mk(a:Addr)(m:M.St)(tot d:Nat)(N:NS)(S:SS)(l:Addr)(ns:qAb)(_:v=[.ref a,.ref l])(_:M.At H a m tot N d)(_:Fz N S)(_:H l=some (.lst (ns.map V.str)))(_:ns.length<=30000)(_:∀x∈ns,x.length<=20000)(_:∀e,eR N S ns=.error e->∀H',aH H H'->e3 (.ref (X e)) none H')(_:∀w,eR N S ns=.ok w->∀(H':Hp)(q:Addr),aH H H'->H q=none->H' q=some (.lst (w.map V.int))->Q (.ref q) H')
theorem EY:ax ["nodes","names","way","name","node"] ["nodes","names"] (ak Q3):=L2.a8
theorem vd(F:bM K "way_along" "way_along" Q3 f fd)(T:jO K mg X)(O:M.Ok P w K mg base)(ad:⇑Df 8 "refuse_no_dir" (zh M X))(am:↥Df 1 "node_named" Kb)(ao:↥Df 8 "slots_of" (pf M)):⇑aM 9 f fd ["nodes","names"] (uY M X):=by
 show F.dX EY ?_;intros;let#[a,m,tot,d,N,S,l,ns,rfl,A1,Z,hl,l2,ln,kE,kQ]:=h;let hs:=y1;show#[_,(aw (cT (cL 2 EY.nd (bq (aa (de T.sj) ae))))
  (aw (yh rfl rfl rfl (cJ (pv 1)) (qx 3 EY.nd) (aw (bh (kc ad hr (aa (pv 0) (aa (aL aQ (pv 2) (dm cu ai) bZ) ae))))
  (aw (cT (cL 4 EY.nd (pc am hr ay (aa (pc ao hr ay (aa (pv 0) (aa (aL aQ (pv 2) (dm cu ai) bZ) ae))) (aa (pv 3) ae)))))
  (aw (bH (aA lL (pv 4) cF (aI _)) (aS (bE rfl (T.xm .noName) (T.xe .noName) rfl rfl (aa (fU (cw (Io (pv 3)) (cw aF ig))) ae))) bo)
  (cf (aq (aR (fA Uy V8 V9 lT (pv 2) (aa (pv 4) ae)))))))))
  (cf (aq (aG (pv 2)))))),?_]
 show#[az,λl1 U=>?_];let s1:=ah (X:=.lst [V.int 0]) U;let e1:upd H l1 (.lst [V.int 0]) l1=some (.lst [V.int 0]):=ag;generalize upd H l1 (.lst [V.int 0])=H1 at *;let nl:∀{x u},H x=some u->x≠l1:=λe z=>(by rwa[z,U]at e);show#[0,l,rfl,#[_,aW.of (s1 _ _ hl)],?_];show qo (K:=K) (a:=l) (xs:=ns.map V.str) (λi σ J=>OC λ(w:qAa)(v3 v4:Option V)=>K0 (σ=#v[.ref a,.ref l,.ref l1,v3,v4]) (eR N S (ns.take i)=.ok w) (J l1=some (.lst (w.map V.int))) (Off (· = l1) H1 J)) #[[0],_,0,rfl,e1,λ_ _ e _=>e] (λi σ J _ z=>by let#[_,_,_,_,_,_,o]:=z;show aW.of (o _ _ (s1 _ _ hl) (nl hl))) ?_ ?_
 .rintro i x σ J hx ⟨v,v3,v4,rfl,L,G,Y⟩;rw[M4]at hx;let#[nm,hn,rfl]:=SV.mp hx;let sJ:aH H J:=λy u e=>Y _ _ (s1 _ _ e) (nl e);let AJ:=O.same A1 sJ;let W:=Z.way L;let vn:v≠[]:=λz=>(by have:=W.ln;rw[z]at this;simp at this);let lm:lst v∈v:=by
   obtain⟨b,k,rfl⟩:∃b k,v=b++[k]:=#[2,(TB vn).symm];rw[lst_snoc];show L3 _ (DO.mpr rfl)
  let#[ar,ac]:=W.rg _ lm;let rg:=Z.pV _ _ ac;let et:eR N S (ns.take (i+1))=j7 N S (.ok v) nm:=(by rw[Um,hn, <-L];show pH _ _);let lv:v.length<=30001:=(by rw[W.ln,HC];omega);let ap:=ln nm (SO hn);show#[0,0,(1),rfl,l1,_, -1,.int (lst v),1,aW.of G,d8 vn,a,m,tot,d,N,lst v,rfl,AJ,af,λc J2 I=>?_,λc J2 I=>?_]
  .show kE _ (yR (i:=i+1) (by rw[et];unfold j7;dsimp only;rw[aa2 (by rw[c];nofun)])) J2 (sJ.trans I)
  let#[nd,ab,hd]:=b7 c;let A2:=O.same AJ I;show#[0,0,(1),rfl,l1,_, -1,.int (lst v),1,aW.of (I _ _ G),d8 vn,a,m,tot,d,N,lst v,nd,S (lst v),rfl,A2,ab,Z.enc _ _ ab hd,Z.len _,Z.ok _,λJ3 q3 ws s3 f3 e3 S3=>?_];show#[0,q3,ws,S (lst v),nm,rfl,e3,S3,?_];let s4:=I.trans s3;show#[0,rfl,0,?_];cases c2:kL (S (lst v)) nm with
  |none =>
   let U:(Str.empty++nm:Str).length<=sizeLine:=(by rw[len_app,fe];omega);let f2:(Str.empty++nm++(" is not there" : Str):Str).length<=sizeLine:=(by rw[len_app,len_app,fe,show(" is not there" : Str).length=13 by decide +kernel];omega);show dt #[0,nm,rfl,af,0,U,0,f2,f2,(by change 1<=sizeLine;omega),kE _ (yR (i:=i+1) (by rw[et];unfold j7;dsimp only;rw[aa3 c,c2])) J3 (sJ.trans s4)]
  |some k =>
   show ck #[0,.inl #[5,aW.of (s4 _ _ G)],0,l1,_,0,rfl,s4 _ _ G,by rw[rz];omega,#[v++[k],_,0,by rw[et];unfold j7;dsimp only;rw[aa3 c,c2],?_,λy u e z=>by rw[au z];show s4 _ _ (Y _ _ e z)]];rw[ag,K4];rfl
 .rintro σ J ⟨v,v3,v4,rfl,L,G,Y⟩;rw[rz,UH]at L;show#[0,kQ v L J l1 (λy u e=>Y _ _ (s1 _ _ e) (nl e)) U G]
theorem Dt{xs:qAh}{v:V}:dg (xs++[v]) none (some (-1))=xs:=by
 unfold dg HT.pW;dsimp only;rw[aa3 az,VG,wh,Tj,show((-1:Int)+((xs.length+1:Nat):Int)).toNat-0=xs.length by omega,Vk,V7,UU,Tq,UH]
theorem xO(x:Str):∀l:List Str,Hu (.str x) (l.map V.str)=decide (x∈l)
 | []=>rfl
 |y::l=>by
  change(mC (.str y) (.str x)||Hu (.str x) (l.map V.str))=_;rw[xO x l];cases c:y=x
  .rw[show mC (.str y) (.str x)=true from decide_eq_true c];rw[decide_eq_true (Ti.mpr (.inl c.symm))];rfl
  .rw[show mC (.str y) (.str x)=false from decide_eq_false c];cases d:x∈l
   .rw[decide_eq_true d,decide_eq_true (S0 _ d)];rfl
   .rw[decide_eq_false d,decide_eq_false (λz=>(Ti.mp z).elim (λz=>c z.symm) d)];rfl
theorem vx:∀l:List Str,(l.map V.str).all fE=true
 | []=>rfl
 |_::l=>vx l
noncomputable def bJ(ns:qAb):Str:=ns.getLastD #[([].toArray)]
theorem ox(ns:qAb)(nm:Str):bJ (ns++[nm])=nm:=by unfold bJ;rw[XQ,W5];rfl
noncomputable def kY(N:NS)(S:SS)(ns:qAb):Except Er (List Int):=if ns=[]then .error .taken else match eR N S ns.dropLast with
 |.error e=>.error e
 |.ok w=>if dq N (lst w)=true then(if bJ ns∈eE (S (lst w))then .error .taken else .ok w)else .error .notDir
inductive DM(M:b6)(X:Er->Addr)(v:qAh)(H:Hp)(Q:VK)(e3:XK):Prop
 |mk(a:Addr)(m:M.St)(tot d:Nat)(N:NS)(S:SS)(l:Addr)(ns:qAb)(_:v=[.ref a,.ref l])(_:M.At H a m tot N d)(_:Fz N S)(_:H l=some (.lst (ns.map V.str)))(_:ns.length<=30000)(_:∀x∈ns,x.length<=20000)(_:∀e,kY N S ns=.error e->∀H',aH H H'->e3 (.ref (X e)) none H')(_:∀w,kY N S ns=.ok w->∀(H':Hp)(q:Addr),aH H H'->H q=none->H' q=some (.lst (w.map V.int))->Q (.ref q) H')
theorem M8:ax ["nodes","names","way"] ["nodes","names"] (ak Pq):=L2.a8
theorem uv(F:bM K "way_to_new" "way_to_new" Pq f fd)(T:jO K mg X)(O:M.Ok P w K mg base)(ao:⇑Df 9 "way_along" (uY M X))(ad:⇑Df 8 "refuse_no_dir" (zh M X))(ap:↥Df 1 "names_in" Ao)(am:↥Df 8 "slots_of" (pf M)):⇑aM 10 f fd ["nodes","names"] (DM M X):=by
 show F.dX M8 ?_;intros;let#[a,m,tot,d,N,S,l,ns,rfl,A1,Z,Y,l2,ln,G,I]:=h;let hs:=y1;show#[_,(aw (bH (aA bD (aC aO (by rfl) T.len T7 (aa (pv 1) ae)) ai (aI _)) (aS (bE rfl (T.xm .taken) (T.xe .taken) rfl rfl (aa aF ae))) bo)
  (aw (tG 2 M8.nd (kc ao hr (aa (pv 0) (aa (bw bK (pv 1) b8 (bA (dm cu ai))) ae))))
  (aw (bh (kc ad hr (aa (pv 0) (aa (aL aQ (pv 2) (dm cu ai) bZ) ae))))
  (aw (bH (aA qJ (aL aQ (pv 1) (dm cu ai) bZ) (pc ap hr ay (aa (pc am hr ay (aa (pv 0) (aa (aL aQ (pv 2) (dm cu ai) bZ) ae))) ae)) (by with_unfolding_all rfl)) (aS (bE rfl (T.xm .taken) (T.xe .taken) rfl rfl (aa aF ae))) bo)
  (cf (aq (aG (pv 2)))))))),?_]
 show#[0,l,0,.inl (aW.of Y),rfl,0,?_];rw[rz];show c9 (λc=>?_) (λc=>?_)
 .let e:ns=[]:=Ui.mp (by have:=V.int.inj (of_decide_eq_true c);omega);show#[az,G _ (by unfold kY;rw[aa3 e]) H (aH.refl H)]
 let ne:ns≠[]:=λz=>c (by rw[z];show decide_eq_true rfl);obtain⟨b,nm,L⟩:∃b k,ns=b++[k]:=#[2,(TB ne).symm];let ed:ns.dropLast=b:=(by rw[L,Xd]);let el:bJ ns=nm:=(by rw[L,ox]);let en:kY N S ns=match eR N S b with
  |.error e=>.error e
  |.ok w=>if dq N (lst w)=true then(if nm∈eE (S (lst w))then .error .taken else .ok w)else .error .notDir:=by
  unfold kY;rw[aa2 ne,ed,el]
 rw[en]at G I;rw[L,K4]at Y;show#[0,0,(1),rfl, -1,rfl,l,0,aW.of Y,λq1 f1=>?_];rw[show dg (b.map V.str++[nm].map V.str) none (some (-1))=b.map V.str from Dt];let s1:=ah (X:=.lst (b.map V.str)) f1;let e1:upd H q1 (.lst (b.map V.str)) q1=some (.lst (b.map V.str)):=ag;generalize upd H q1 (.lst (b.map V.str))=H1 at *;let lb:b.length<=30000:=(by have:=congrArg Vt L;rw[wh]at this;omega);show#[a,m,tot,d,N,S,q1,b,rfl,O.same A1 s1,Z,e1,lb,λx hx=>ln x (by rw[L];show Ug _ hx),λe he H2 s2=>?_,λv hv H2 q2 s2 f2 e2=>?_]
 .rw[he]at G;show G e rfl H2 (s1.trans s2)
 rw[hv]at G I;dsimp only at G I;let W:=Z.way hv;let vn:v≠[]:=λz=>(by have:=W.ln;rw[z]at this;simp at this);let lm:lst v∈v:=by
  obtain⟨b,k,rfl⟩:∃b k,v=b++[k]:=#[2,(TB vn).symm];rw[lst_snoc];show L3 _ (DO.mpr rfl)
 let#[ar,ac]:=W.rg _ lm;let rg:=Z.pV _ _ ac;let s3:=s1.trans s2;show#[0,0,(1),rfl,q2,_, -1,.int (lst v),1,aW.of e2,d8 vn,a,m,tot,d,N,lst v,rfl,O.same A1 s3,af,λc J2 U=>?_,λc J2 U=>?_]
 .rw[aa2 (by rw[c];nofun)]at G;show G _ rfl J2 (s3.trans U)
 rw[aa3 c]at G I;let#[nd,ab,hd]:=b7 c;let s5:=s3.trans U;show#[0,(1),rfl,l,_, -1,.str nm,1,aW.of (s5 _ _ Y),oX _ _,0,0,(1),rfl,q2,_, -1,.int (lst v),1,aW.of (U _ _ e2),d8 vn,a,m,tot,d,N,lst v,nd,S (lst v),rfl,O.same A1 s5,ab,Z.enc _ _ ab hd,Z.len _,Z.ok _,λJ3 q3 ws s6 f3 e3 S3=>?_];show#[q3,ws,S (lst v),rfl,e3,S3,Z.len _,Z.nd _,λJ4 q4 s7 f4 e4=>?_];let s8:=s5.trans (s6.trans s7);show#[q4,0,.inl (aW.of e4),rfl,vx _,0,?_];change if Hu (.str nm) ((qh (eE (S (lst v)))).map V.str)=true then _ else _
 rw[xO];let em:nm∈qh (eE (S (lst v)))↔nm∈eE (S (lst v)):=(Vs _ sle).mem_iff;show c9 (λc2=>?_) (λc2=>?_)
 .rw[aa3 (em.mp (of_decide_eq_true c2))]at G;show#[az,G _ rfl J4 s8]
 .rw[aa2 (λz=>c2 (decide_eq_true (em.mpr z)))]at I;show#[0,I v rfl J4 q2 s8 (aX s1 f2) ((U.trans (s6.trans s7)) _ _ e2)]
structure FA where
 a:Addr
 na:Addr
 hd:Addr
abbrev HT:=List (Int×Int)
theorem kf:¬ (("nodes" : Str) = "holds"):=av
structure dh(M:b6)(CF:Addr)(H:Hp)(z:FA)(m:M.St)(tot:Nat)(N:NS)(h:HT)(d:Nat):Prop where
 ob:∃dx,H z.a=some (.ins CF dx (f2 "nodes" "holds" (.ref z.na) (.ref z.hd)))
 hh:H z.hd=some (.dK (dk V.int h))
 nd:(h.map (·.1)).Nodup
 A:M.At H z.na m tot N d
 s1:¬ M.own m z.a
 s2:¬ M.own m z.hd
 hk:∀x∈h,0<=x.1/\x.1<24
structure cp(M:b6)(z:FA)(m:M.St)(H:Hp)(m':M.St)(H':Hp):Prop where
 off:Off (λx=>M.own m x\/x=z.hd) H H'
 own:∀a,M.own m' a->M.own m a\/H a=none
structure d7(K:SU)(CF:Addr):Prop where
 cl:mZ K CF
 nN:cC K CF "nodes"
 nH:cC K CF "holds"
variable{H H' H'':Hp}{m m':M.St}
theorem b6.tr{m'':M.St}(s:M.Step m H m' H')(t:M.Step m' H' m'' H''):M.Step m H m'' H'':=by
 show#[λb o e nb=>t.1 b o (s.1 b o e nb) λw=>?_,λa w=>?_]
 .rcases s.2 b w with w|w
  .show nb w
  .rw[w]at e;cases e
 .rcases t.2 a w with w|w
  .show s.2 a w
  .by_cases c:M.own m a
   .show .inl c
   .cases e:H a with
    |none=>show .inr rfl
    |some o=>rwa[s.1 a o e c]at w
theorem b6.sm(s:aH H H'):M.Step m H m H':=#[λb o e _=>s b o e,λa w=>.inl w]
variable{z:FA}
theorem cp.of(s:M.Step m H m' H'):cp M z m H m' H':=#[s.1.mono λ_ w=>.inl w,s.2]
theorem cp.hold(o:Off (· = z.hd) H H')(a:H' z.hd≠none)(s:M.Step m H' m' H''):cp M z m H m' H'':=by
 show#[λb u e nb=>s.1 b u (o b u e λw=>nb (.inr w)) λw=>nb (.inl w),λb w=>?_];rcases s.2 b w with w|w
 .show .inl w
 .cases e:H b with
  |none=>show .inr rfl
  |some u =>
   cases c:b=z.hd
   .rw[c]at w;show absurd w a
   .rw[o b u e c]at w;cases w
section
variable{P:By}{w:R4}{K:SU}{mg:qa3}{base:Heap}(O:M.Ok P w K mg base)
include O
variable{CF:Addr}{tot d:Nat}{N:NS}{h:HT}
theorem dh.off{B:qa0}(F:dh M CF H z m tot N h d)(o:Off B H H')(h1:∀x,M.own m x->¬ B x)(h2:¬ B z.a)(I:¬ B z.na)(G:¬ B z.hd):dh M CF H' z m tot N h d:=by
 let#[dx,e]:=F.ob;show#[#[dx,o _ _ e h2],o _ _ F.hh G,F.nd,O.off F.A o h1 I,F.s1,F.s2,F.hk]
theorem dh.same(F:dh M CF H z m tot N h d)(s:aH H H'):dh M CF H' z m tot N h d:=F.off O (B:=λ_=>False) (Off.of s) (λ_ _=>id) id id id
theorem dh.ne(F:dh M CF H z m tot N h d):z.a≠z.hd/\z.na≠z.hd:=by
 let#[dx,e]:=F.ob;let#[I,fs,G,_]:=O.ob F.A;let e3:=F.hh;show#[λw=>(by rwa[w,e3]at e),λw=>(by rwa[w,e3]at G)]
theorem dh.held{h':HT}(F:dh M CF H z m tot N h d)(o:Off (· = z.hd) H H')(e:H' z.hd=some (.dK (dk V.int h')))(U:(h'.map (·.1)).Nodup)(G:∀x∈h',0<=x.1/\x.1<24):dh M CF H' z m tot N h' d:=by
 let#[dx,q]:=F.ob;let#[L,w2]:=F.ne O;show#[#[dx,o _ _ q L],e,U,O.off F.A o (λx I w=>F.s2 (w▸I)) w2,F.s1,F.s2,G]
theorem dh.step{d':Nat}{N':NS}(F:dh M CF H z m tot N h d)(I:M.At H' z.na m' tot N' d')(s:M.Step m H m' H'):dh M CF H' z m' tot N' h d':=by
 let#[dx,e]:=F.ob;show#[#[dx,s.1 _ _ e F.s1],s.1 _ _ F.hh F.s2,F.nd,I,λw=>?_,λw=>?_,F.hk]
 .rcases s.2 _ w with w|w
  .show F.s1 w
  .rw[w]at e;cases e
 .let G:=F.hh;rcases s.2 _ w with w|w
  .show F.s2 w
  .rw[w]at G;cases G
end
inductive Bp(M:b6)(CF:Addr)(X:Er->Addr)(v:qAh)(H:Hp)(Q:VK)(e:XK):Prop
 |mk(z:FA)(m:M.St)(tot d:Nat)(N:NS)(h:HT)(n:Int)(_:v=[.ref z.a,.int n])(_:dh M CF H z m tot N h d)(_:n.natAbs<=1000000)(_:N n=none->∀H',aH H H'->e (.ref (X .noNode)) none H')(_:∀nd,N n=some nd->∀H',aH H H'->Q .a7 H')
inductive vq(M:b6)(CF:Addr)(X:Er->Addr)(v:qAh)(H:Hp)(Q:VK)(e:XK):Prop
 |mk(z:FA)(m:M.St)(tot d:Nat)(N:NS)(h:HT)(n:Int)(_:v=[.ref z.a,.int n])(_:dh M CF H z m tot N h d)(_:n.natAbs<=1000000)(_:dq N n=true->∀H',aH H H'->e (.ref (X .isDir)) none H')(_:dq N n=false->∀H',aH H H'->Q .a7 H')
noncomputable def vI(N:NS)(n:Int):Option Er:=match N n with
 |none=>some .noNode
 |some nd=>if nd.dir=true then some .isDir else none
inductive qG(M:b6)(CF:Addr)(X:Er->Addr)(v:qAh)(H:Hp)(Q:VK)(e3:XK):Prop
 |mk(z:FA)(m:M.St)(tot d:Nat)(N:NS)(h:HT)(n:Int)(_:v=[.ref z.a,.int n])(_:dh M CF H z m tot N h d)(_:n.natAbs<=1000000)(_:∀e,vI N n=some e->∀H',aH H H'->e3 (.ref (X e)) none H')(_:vI N n=none->∀H',aH H H'->Q .a7 H')
inductive Ca(X:Er->Addr)(v:qAh)(H:Hp)(Q:VK)(e:XK):Prop
 |mk(n:Int)(_:v=[.int n])(_:n.natAbs<=1000000)(_:¬ (0<=n/\n<=320)->e (.ref (X .tooBig)) none H)(_:0<=n/\n<=320->Q .a7 H)
noncomputable def fI(tot:Nat)(N:NS)(old size:Nat):Bool:=decide ((tot:Int)-(us N 24:Nat)<(bf size:Int)-(bf old:Int))
inductive G8(M:b6)(CF:Addr)(X:Er->Addr)(v:qAh)(H:Hp)(Q:VK)(e:XK):Prop
 |mk(z:FA)(m:M.St)(tot d:Nat)(N:NS)(h:HT)(n:Int)(nd:Node)(k:Nat)(_:v=[.ref z.a,.int n,.int k])(_:dh M CF H z m tot N h d)(_:N n=some nd)(_:fI tot N nd.cs.length k=true->∀H',aH H H'->e (.ref (X .noSpace)) none H')(_:fI tot N nd.cs.length k=false->∀H',aH H H'->Q .a7 H')
abbrev Q6:Tg:=inClass (top 66) 21
abbrev Ll:Tg:=inClass (top 66) 22
abbrev PQ:Tg:=inClass (top 66) 23
abbrev RQ:Tg:=inClass (top 66) 24
abbrev RV:Tg:=top 64
theorem RL:ax ["self","node"] ["self","node"] (ak Q6):=L2.a8
variable{CF:Addr}
theorem mO(F:bM K "refuse_no_node" "Files.refuse_no_node" Q6 f fd)(T:jO K mg X)(Z:d7 K CF)(O:M.Ok P w K mg base):⇑aM 8 f fd ["self","node"] (Bp M CF X):=by
 show F.dX RL ?_;intros;let#[z,m,tot,d,N,h,n,rfl,I,hn,kE,kQ]:=h;let hs:=y1;let G:=I.A;let#[dy,hy]:=I.ob;let#[dx,fs',ho,ht,hm]:=O.ob G;let L:=vm hn;let li:=iu L;let f1:(Str.empty++toString n:Str).length<=sizeLine:=(by rw[len_app,fe];omega);let U:(Str.empty++toString n++(" is no node in use" : Str):Str).length<=sizeLine:=(by rw[len_app,len_app,fe,show(" is no node in use" : Str).length=18 by decide +kernel];omega);show#[_,(aS (bH (aA lL (pm (aE (pv 0) rfl) O.cl O.kind hr ay (aa (pv 1) ae)) cF (aI _)) (aS (bE rfl (T.xm .noNode) (T.xe .noNode) rfl rfl (aa (fU (cw (pq (pv 1)) (cw aF ig))) ae))) bo)),?_];show#[0,z.a,CF,dy,_,.ref z.na,rfl,hy,Z.cl,Z.nN,bT kf,z.na,dx,0,ho,hm _ av,0,z.na,m,tot,d,N,n,rfl,G,λH1 Y=>#[rfl,0,?_]];rw[rC];cases c:N n with
 |none=>show dt #[0,n,rfl,L,0,f1,0,U,U,(by change 1<=sizeLine;omega),kE c H1 Y]
 |some nd=>show ck (kQ nd c H1 Y)
theorem Mt:ax ["self","node"] ["self","node"] (ak Ll):=L2.a8
theorem rq(F:bM K "refuse_dir" "Files.refuse_dir" Ll f fd)(T:jO K mg X)(Z:d7 K CF)(O:M.Ok P w K mg base):⇑aM 8 f fd ["self","node"] (vq M CF X):=by
 show F.dX Mt ?_;intros;let#[z,m,tot,d,N,h,n,rfl,I,hn,kE,kQ]:=h;let hs:=y1;let G:=I.A;let#[dy,hy]:=I.ob;let#[dx,fs',ho,ht,hm]:=O.ob G;let L:=vm hn;let li:=iu L;let f1:(Str.empty++toString n:Str).length<=sizeLine:=(by rw[len_app,fe];omega);let U:(Str.empty++toString n++(" is a dir" : Str):Str).length<=sizeLine:=(by rw[len_app,len_app,fe,show(" is a dir" : Str).length=9 by decide +kernel];omega);show#[_,(aS (bH (aA bD (pm (aE (pv 0) rfl) O.cl O.kind hr ay (aa (pv 1) ae)) aF (aI _)) (aS (bE rfl (T.xm .isDir) (T.xe .isDir) rfl rfl (aa (fU (cw (pq (pv 1)) (cw aF ig))) ae))) bo)),?_];show#[0,z.a,CF,dy,_,.ref z.na,rfl,hy,Z.cl,Z.nN,bT kf,z.na,dx,0,ho,hm _ av,0,z.na,m,tot,d,N,n,rfl,G,λH1 Y=>#[by cases N n<;>rfl,0,?_]];rw[kB];cases c:dq N n with
 |true=>show dt #[0,n,rfl,L,0,f1,0,U,U,(by change 1<=sizeLine;omega),kE c H1 Y]
 |false=>show ck (kQ c H1 Y)
theorem RG:ax ["self","node"] ["self","node"] (ak PQ):=L2.a8
theorem mE(F:bM K "refuse_no_file" "Files.refuse_no_file" PQ f fd)(T:jO K mg X)(TF:d7 K CF)(O:M.Ok P w K mg base)(ac:⇑Md 8 CF "refuse_no_node" (Bp M CF X))(ab:⇑Md 8 CF "refuse_dir" (vq M CF X)):⇑aM 9 f fd ["self","node"] (qG M CF X):=by
 show F.dX RG ?_;intros;let#[z,m,tot,d,N,h,n,rfl,I,hn,Y,kQ]:=h;let#[dy,Z]:=I.ob;show#[_,(aw (bh (iZ (pv 0) TF.cl ac hr (aa (pv 1) ae)))
  (aS (bh (iZ (pv 0) TF.cl ab hr (aa (pv 1) ae))))),?_]
 show#[0,z.a,dy,0,Z,a9 av av,0,z,m,tot,d,N,h,n,rfl,I,hn,λc H1 G=>Y _ (by unfold vI;rw[c]) H1 G,λnd c H1 G=>?_];show#[0,z.a,dy,0,G _ _ Z,a9 av av,0,z,m,tot,d,N,h,n,rfl,I.same O G,hn,λL H2 U=>Y _ (by unfold vI;rw[c];show aa3 (by rw[<-fG c];show L)) H2 (G.trans U),λL H2 U=>kQ (by unfold vI;rw[c];show aa2 (by rw[<-fG c,L];nofun)) H2 (G.trans U)]
theorem OY:ax ["at"] ["at"] (ak RV):=L2.a8
theorem kX(F:bM K "refuse_no_place" "refuse_no_place" RV f fd)(T:jO K mg X):⇑aM 1 f fd ["at"] (Ca X):=by
 show F.dX OY ?_;intros;let#[n,rfl,hn,U,kQ]:=h;let hs:=y1;let L:=vm hn;let li:=iu L;let l3:=iu (i:=320) az;let Y:(" is not from 0 to " : Str).length=18:=av;let f1:(Str.empty++toString n:Str).length<=sizeLine:=(by rw[len_app,fe];omega);let Z:(Str.empty++toString n++(" is not from 0 to " : Str):Str).length<=sizeLine:=(by rw[len_app,len_app,fe,Y];omega);let G:(Str.empty++toString n++(" is not from 0 to " : Str)++toString (320:Int):Str).length<=sizeLine:=(by rw[len_app,len_app,len_app,fe,Y];omega);show#[_,(aS (bH (PW.pt (n6 (aA oz (pv 0) ai (aI _)) (kU (aA jV (pv 0) (de T.oY) (aI _))))) (aS (bE rfl (T.xm .tooBig) (T.xe .tooBig) rfl rfl (aa (fU (cw (pq (pv 0)) (cw aF (cw (pq (de T.oY)) ig)))) ae))) bo)),?_];show#[0,_,0,rfl,0,?_];show c9 (λc=>?_) (λc=>?_)
 .show#[0,n,rfl,L,0,f1,0,Z,(320),rfl,az,0,G,G,(by change 1<=sizeLine;omega),U (by have:=of_decide_eq_true c;omega)]
 .let c':¬ n<0:=λq=>c (decide_eq_true q);show#[0,_,0,rfl,0,?_];show c9 (λI=>?_) (λI=>?_)
  .show#[0,n,rfl,L,0,f1,0,Z,(320),rfl,az,0,G,G,(by change 1<=sizeLine;omega),U (by have:=of_decide_eq_true I;omega)]
  .show kQ #[af,by have:¬ (320:Int)<n:=λq=>I (decide_eq_true q);omega]
theorem Nj:ax ["self","node","size","lacking"] ["self","node","size"] (ak RQ):=L2.a8
theorem lO(F:bM K "refuse_no_space" "Files.refuse_no_space" RQ f fd)(T:jO K mg X)(G:d7 K CF)(O:M.Ok P w K mg base)(ab:↥Df 1 "blocks_for" zM)(ac:↥Df 8 "free_blocks" (Gu M)):⇑aM 9 f fd ["self","node","size"] (G8 M CF X):=by
 show F.dX Nj ?_;intros;let#[z,m,tot,d,N,h,n,nd,k,rfl,U,hn,kE,kQ]:=h;let hs:=y1;let I:=U.A;let#[Z,Y]:=U.ob;let#[dx,fs',ho,ht,hm]:=O.ob I;show#[_,(aw (cT (cL 3 Nj.nd (aJ dQ (pc ab hr ay (aa (pv 2) ae)) (pc ab hr ay (aa (pm (aE (pv 0) rfl) O.cl O.size hr ay (aa (pv 1) ae)) ae)))))
  (aS (bH (aA jV (pv 3) (pc ac hr ay (aa (aE (pv 0) rfl) ae)) (aI _)) (aS (bE rfl (T.xm .noSpace) (T.xe .noSpace) rfl rfl (aa aF ae))) bo))),?_]
 show#[0,k,rfl,0,z.a,CF,Z,_,.ref z.na,rfl,Y,G.cl,G.nN,bT kf,z.na,dx,0,ho,hm _ av,0,z.na,m,tot,d,N,n,nd,rfl,I,hn,λH1 L=>#[nd.cs.length,5,0,3]];show#[0,0,z.a,CF,Z,_,.ref z.na,rfl,L _ _ Y,G.cl,G.nN,bT kf,z.na,m,tot,d,N,rfl,O.same I L,λH2 s2=>#[_,0,rfl,0,?_]];let s3:=L.trans s2;show c9 (λc=>?_) (λc=>?_)
 .show#[az,kE (by unfold fI;show c) H2 s3]
 .show kQ (by unfold fI;show Vj.mpr c) H2 s3
theorem lY(old cs:qAa)(m:Nat):pU old cs m<=m:=by
 unfold pU;show Td (UG _ _) (by rw[Xo];show G0 _)
theorem qu{k:Nat}(h:k<=320):nb k<=20:=by unfold nb;omega
variable{ss:List Slot}{nm:Str}{k:Int}
theorem cU(h:∀s∈ss,∀p,s=some p->okN p.1)(F:okN nm):∀s∈c7 ss nm k,∀p,s=some p->okN p.1:=λs hs p e=>by
 rcases EC hs with rfl|hs
 .cases e;show F
 .show h s hs p e
theorem Iy(h:∀s∈ss,∀p,s=some p->okN p.1):∀s∈eG ss nm,∀p,s=some p->okN p.1:=λs hs p e=>by
 subst e;show h _ (Fg hs) p rfl
variable{tot:Nat}{N:NS}
theorem fits{old size:Nat}(h:fI tot N old size=false):us N 24+bf size<=tot+bf old:=by
 have:=of_decide_eq_false h;omega
inductive Ci(M:b6)(CF:Addr)(X:Er->Addr)(v:qAh)(H:Hp)(Q:VK)(e:XK):Prop
 |mk(z:FA)(m:M.St)(tot d:Nat)(N:NS)(h:HT)(n:Int)(nd:Node)(l:Addr)(ws:qAh)(ss:List Slot)(nm:Str)(k:Int)(_:v=[.ref z.a,.int n,.ref l,.str nm,.int k])(_:dh M CF H z m tot N h d)(_:N n=some nd)(_:H l=some (.lst ws))(_:jE H ws ss)(_:ss.length<=40)(_:(eE ss).length<40)(_:∀s∈ss,∀p,s=some p->okN p.1)(_:okN nm)
  (_:fI tot N nd.cs.length (8*(c7 ss nm k).length)=true->∀H',aH H H'->e (.ref (X .noSpace)) none H')
  (_:fI tot N nd.cs.length (8*(c7 ss nm k).length)=false->∀(H':Hp)(m':M.St),dh M CF H' z m' tot (cA N n (some { nd with cs:=bp (c7 ss nm k) })) h (d+pU nd.cs (bp (c7 ss nm k)) (nb (bp (c7 ss nm k)).length)+2)->M.Step m H m' H'->Q .a7 H'):Ci M CF X v H Q e
inductive EI(M:b6)(CF:Addr)(v:qAh)(H:Hp)(Q:VK)(e:XK):Prop
 |mk(z:FA)(m:M.St)(tot d:Nat)(N:NS)(h:HT)(n:Int)(nd:Node)(ss:List Slot)(nm:Str)(_:v=[.ref z.a,.int n,.str nm])(_:dh M CF H z m tot N h d)(_:N n=some nd)(_:nd.cs=bp ss)(_:ss.length<=40)(_:∀s∈ss,∀p,s=some p->okN p.1)
  (_:∀(H':Hp)(m':M.St),dh M CF H' z m' tot (cA N n (some { nd with cs:=bp (eG ss nm) })) h (d+pU nd.cs (bp (eG ss nm)) (nb (bp (eG ss nm)).length)+2)->M.Step m H m' H'->Q .a7 H'):EI M CF v H Q e
inductive G4(M:b6)(CF:Addr)(X:Er->Addr)(v:qAh)(H:Hp)(Q:VK)(e:XK):Prop
 |mk(z:FA)(m:M.St)(tot:Nat)(N:NS)(h:HT)(n:Int)(nd:Node)(l:Addr)(cs:qAa)(_:v=[.ref z.a,.int n,.ref l])(_:dh M CF H z m tot N h 0)(_:N n=some nd)(_:H l=some (.lst (cs.map V.int)))(_:¬ M.own m l)(_:cs.length<=320)
  (_:fI tot N nd.cs.length cs.length=true->∀H',aH H H'->e (.ref (X .noSpace)) none H')
  (_:fI tot N nd.cs.length cs.length=false->∀(H':Hp)(m':M.St),dh M CF H' z m' tot (cA N n (some { nd with cs:=cs })) h 0->M.Step m H m' H'->Q .a7 H'):G4 M CF X v H Q e
inductive Gg(M:b6)(CF:Addr)(v:qAh)(H:Hp)(Q:VK)(e:XK):Prop
 |mk(z:FA)(m:M.St)(tot d:Nat)(N:NS)(h:HT)(n:Int)(nd:Node)(_:v=[.ref z.a,.int n])(_:dh M CF H z m tot N h d)(_:N n=some nd)
  (_:∀(H':Hp)(m':M.St),dh M CF H' z m' tot (if nd.ln=0/\look h n=none then cA N n none else N) h (d+1)->M.Step m H m' H'->Q .a7 H'):Gg M CF v H Q e
abbrev P4:Tg:=inClass (top 66) 17
abbrev Qz:Tg:=inClass (top 66) 18
abbrev Qq:Tg:=inClass (top 66) 19
abbrev Qa:Tg:=inClass (top 66) 20
theorem Me:ax ["self","parent","slots","name","node","grown"] ["self","parent","slots","name","node"] (ak P4):=L2.a8
theorem xu(F:bM K "put_name" "Files.put_name" P4 f fd)(T:jO K mg X)(Y:d7 K CF)(O:M.Ok P w K mg base)(ad:↥Df 1 "slots_with" Cr)(am:⇑Md 9 CF "refuse_no_space" (G8 M CF X))(ac:↥Df 8 "put_slots" (um M)):⇑aM 10 f fd ["self","parent","slots","name","node"] (Ci M CF X):=by
 show F.dX Me ?_;intros;let#[z,m,tot,d,N,h,n,nd,l,ws,ss,nm,k,rfl,L,hn,hl,SA,Z,ab,bC,ap,kE,kQ]:=h;let hs:=y1;let#[dy,hy]:=L.ob;let ar:=i9 (nm:=nm) (k:=k) ab Z;show#[_,(aw (cT (cL 5 Me.nd (pc ad hr ay (aa (pv 2) (aa (pv 3) (aa (pv 4) ae))))))
  (aw (bh (iZ (pv 0) Y.cl am hr (aa (pv 1) (aa (aJ fH (de T.oQ) (aC aO (by rfl) T.len T7 (aa (pv 5) ae))) ae))))
  (cf (aq (aR (pc ac hr ay (aa (aE (pv 0) rfl) (aa (pv 1) (aa (pv 5) ae))))))))),?_]
 show#[0,0,0,l,ws,ss,nm,k,rfl,hl,SA,Z,λH1 q1 ao I f1 e1 S1=>?_];show#[0,z.a,dy,0,I _ _ hy,a9 av av,0,0,q1,0,.inl (aW.of e1),_,0,rfl,.inl #[az,az],z,m,tot,d,N,h,n,nd,8*(c7 ss nm k).length,?_,L.same O I,hn,λc H2 G=>kE c H2 (I.trans G),λc H2 G=>?_]
 .rw[S1.ln];change[_,_,V.int (8*((c7 ss nm k).length:Nat))]=[_,_,V.int ((8*(c7 ss nm k).length:Nat):Int)];rw[show(8*(((c7 ss nm k).length:Nat):Int))=((8*(c7 ss nm k).length:Nat):Int)by omega]
 let U:=L.same O (I.trans G);let#[dz,hz]:=U.ob;show#[0,z.a,CF,dz,_,.ref z.na,rfl,hz,Y.cl,Y.nN,bT kf,0,0,z.na,m,tot,d,N,n,nd,q1,ao,c7 ss nm k,rfl,U.A,hn,G _ _ e1,S1.same G,ar,cU bC ap,fits c,λH3 m3 A3 st=>kQ c H3 m3 (U.step O A3 st) (b6.pre (I.trans G) st)]
theorem R8:ax ["self","parent","name"] ["self","parent","name"] (ak Qz):=L2.a8
theorem uQ(F:bM K "drop_name" "Files.drop_name" Qz f fd)(I:d7 K CF)(O:M.Ok P w K mg base)(ao:↥Df 1 "slots_without" Fj)(ac:↥Df 8 "slots_of" (pf M))(ab:↥Df 8 "put_slots" (um M)):↥aM 9 f fd ["self","parent","name"] (EI M CF):=by
 show F.cU R8 ?_;intros;let#[z,m,tot,d,N,h,n,nd,ss,nm,rfl,G,hn,ec,Y,L,kQ]:=h;let#[dy,Z]:=G.ob;show#[_,(aq (aR (pc ab hr ay (aa (aE (pv 0) rfl) (aa (pv 1) (aa (pc ao hr ay (aa (pc ac hr ay (aa (aE (pv 0) rfl) (aa (pv 1) ae))) (aa (pv 2) ae))) ae)))))),?_];show#[0,z.a,CF,dy,_,.ref z.na,rfl,Z,I.cl,I.nN,bT kf,0,0,z.a,CF,dy,_,.ref z.na,rfl,Z,I.cl,I.nN,bT kf,0,z.na,m,tot,d,N,n,nd,ss,rfl,G.A,hn,ec,Y,L,λH1 q1 ad s1 f1 e1 S1=>?_];show#[0,q1,ad,ss,nm,rfl,e1,S1,af,λH2 q2 am U f2 e2 S2=>?_];let A2:=G.same O (s1.trans U);show#[z.na,m,tot,d,N,n,nd,q2,am,eG ss nm,rfl,A2.A,hn,e2,S2,by rw[fM];show Y,Iy L,?_,λH3 m3 A3 st=>kQ H3 m3 (A2.step O A3 st) (b6.pre (s1.trans U) st)];have:=(O.ok G.A).fit;rw[fM,ec,cO L];omega
theorem QU:ax ["self","node","cells"] ["self","node","cells"] (ak Qq):=L2.a8
theorem tW(F:bM K "put_whole" "Files.put_whole" Qq f fd)(T:jO K mg X)(G:d7 K CF)(O:M.Ok P w K mg base)(ac:⇑Md 9 CF "refuse_no_space" (G8 M CF X)):⇑aM 10 f fd ["self","node","cells"] (G4 M CF X):=by
 show F.dX QU ?_;intros;let#[z,m,tot,N,h,n,nd,l,cs,rfl,U,hn,hl,no,l3,kE,kQ]:=h;let#[dy,hy]:=U.ob;show#[_,(aw (bh (iZ (pv 0) G.cl ac hr (aa (pv 1) (aa (aC aO (by rfl) T.len T7 (aa (pv 2) ae)) ae))))
  (cf (aj (aR (pm (aE (pv 0) rfl) O.cl O.EL hr ay (aa (pv 1) (aa (pv 2) ae))))
  (aq (aR (wB (aE (pv 0) rfl) O.cl O.fin hr ay)))))),?_]
 show#[0,z.a,dy,0,hy,a9 av av,0,0,l,0,.inl (aW.of hl),z,m,tot,(0),N,h,n,nd,cs.length,by rw[rz];rfl,U,hn,kE,λc H2 I=>?_];let Y:=U.same O I;let#[dx,fs',Z,ht,L]:=O.ob Y.A;show#[0,z.a,CF,dy,_,.ref z.na,rfl,I _ _ hy,G.cl,G.nN,bT kf,z.na,dx,0,Z,L _ av,0,0,z.na,m,tot,(0),N,n,nd,l,cs,rfl,Y.A,hn,I _ _ hl,no,l3,fits c,λH3 m3 A3 st=>?_];let A4:=Y.step O A3 st;let#[dz,hz]:=A4.ob;let#[dx,fs',Z,ht,L]:=O.ob A3;have:=lY nd.cs cs (nb cs.length);have:=qu l3;show#[0,z.a,CF,dz,_,.ref z.na,rfl,hz,G.cl,G.nN,bT kf,z.na,dx,0,Z,L _ av,z.na,m3,tot,_,0,A3,af,λH4 m4 A5 ab=>kQ c H4 m4 (A4.step O A5 ab) (b6.pre I (b6.tr st ab))]
theorem Rk:ax ["self","node"] ["self","node"] (ak Qa):=L2.a8
theorem wQ(F:bM K "end_left" "Files.end_left" Qa f fd)(I:d7 K CF)(O:M.Ok P w K mg base):↥aM 8 f fd ["self","node"] (Gg M CF):=by
 show F.cU Rk ?_;intros;let#[z,m,tot,d,N,h,n,nd,rfl,Y,hn,Z]:=h;let#[dy,hy]:=Y.ob;let#[dx,fs',ho,ht,hm]:=O.ob Y.A;show#[_,(aq (bP (PW.pt (oF (aA bD (pm (aE (pv 0) rfl) O.cl O.links hr ay (aa (pv 1) ae)) ai (aI _)) (jQ (sf (kP (cV hr) (pv 1) (aE (pv 0) rfl)))))) (aq (aR (pm (aE (pv 0) rfl) O.cl O.end_ hr ay (aa (pv 1) ae)))) bj)),?_];show#[0,z.a,CF,dy,_,.ref z.na,rfl,hy,I.cl,I.nN,bT kf,z.na,dx,0,ho,hm _ av,0,z.na,m,tot,d,N,n,nd,rfl,Y.A,hn,λH1 U=>#[rfl,0,?_]];let L:=Y.same O U;let ab:¬ (nd.ln=0/\look h n=none)->∀H2,aH H1 H2->Q .a7 H2:=λc H2 s2=>by
  rw[aa2 c]at Z;let G:=L.same O s2;show Z H2 m #[G.ob,G.hh,G.nd,O.le G.A (Zb d),G.s1,G.s2,G.hk] (b6.sm (U.trans s2))
 show c9 (λc=>?_) (λc=>?_)
 .let c1:nd.ln=0:=V.int.inj (of_decide_eq_true c);let g:=eU.k (k:=NC n) L.hh;rw[cm]at g;show#[0,0,z.a,CF,dy,_,.ref z.hd,rfl,U _ _ hy,I.cl,I.nH,jn,z.hd,0,g,0,?_];cases c2:look h n with
  |some x=>show ck (ab (λq=>by rw[c2]at q;cases q.2) H1 (aH.refl H1))
  |none =>
   rw[aa3 #[c1,c2]]at Z;let#[dx,fs',ho,ht,hm]:=O.ob L.A;show dt #[0,z.a,CF,dy,_,.ref z.na,rfl,U _ _ hy,I.cl,I.nN,bT kf,z.na,dx,0,ho,hm _ av,0,z.na,m,tot,d,N,n,nd,rfl,L.A,hn,λH3 m3 A3 st=>Z H3 m3 (L.step O A3 st) (b6.pre U st)]
 .show ab (λq=>c (decide_eq_true (by rw[q.1]))) H1 (aH.refl H1)
variable{ns:qAb}
theorem gc{p:Str}(I:bG p)(e:mx p=.ok ns):ns.length<=30000/\∀x∈ns,okN x:=by
 unfold mx at e;cases c:p=SL
 .rw[aa3 c]at e;cases e;show#[Tp _,λ_ h=>by cases h]
 rw[aa2 c]at e;cases G:Txt.startswith p SL=true
 .rw[aa3 G]at e;cases F:(Txt.split (dY p) SL).all eA=true
  .rw[aa3 F]at e;cases e;show#[?_,λx L=>zm (U6.mp F x L)];let U:(dY p).length<=p.length:=Txt.slice_le p _ _;have:=I.len;unfold Txt.split;split
   .change 1<=30000;decide
   .split
    .change 1<=30000;decide
    .have:=qN (dY p) SL;omega
  .rw[aa2 F]at e;cases e
 .rw[aa2 G]at e;cases e
theorem okN.len{x:Str}(h:okN x):x.length<=20000:=Td h.hi az
noncomputable def Fb(N:NS)(n:Int):Nat:=match N n with
 |some nd=>nd.cs.length
 |none=>0
noncomputable def putN(N:NS)(n:Int)(cs:qAa):NS:=cA N n ((N n).map λnd=>{ nd with cs:=cs })
variable{nd:Node}
theorem lW(h:N n=some nd):Fb N n=nd.cs.length:=by unfold Fb;rw[h]
variable{cs:qAa}
theorem cM(h:N n=some nd):putN N n cs=cA N n (some { nd with cs:=cs }):=by unfold putN;rw[h];rfl
variable{x:Option Node}
theorem iK(h:¬ k=n):cA N n x k=N k:=aa2 h
theorem K5:cA N n x n=x:=aa3 rfl
noncomputable def kD(N:NS)(S:SS)(p:Str):Except Er Int:=match mx p with
 |.error e=>.error e
 |.ok ns=>match eR N S ns with
  |.error e=>.error e
  |.ok w=>.ok (lst w)
inductive G5(M:b6)(CF:Addr)(X:Er->Addr)(v:qAh)(H:Hp)(Q:VK)(e3:XK):Prop
 |mk(z:FA)(m:M.St)(tot d:Nat)(N:NS)(S:SS)(h:HT)(p:Str)(_:v=[.ref z.a,.str p])(_:dh M CF H z m tot N h d)(_:Fz N S)(_:bG p)(_:∀e,kD N S p=.error e->∀H',aH H H'->e3 (.ref (X e)) none H')(_:∀k,kD N S p=.ok k->∀H',aH H H'->Q (.int k) H')
variable{S:SS}{v:qAa}
theorem Way.ne(W:Way N S ns v):v≠[]:=λz=>by have:=W.ln;rw[z]at this;simp at this
theorem Way.last(W:Way N S ns v):∃nd,N (lst v)=some nd:=by
 show W.rg _ ?_;obtain⟨b,k,e⟩:∃b k,v=b++[k]:=#[2,(TB W.ne).symm];rw[e,lst_snoc];show L3 _ (DO.mpr rfl)
noncomputable def lZ(tot:Nat)(N:NS)(S:SS)(p:Str)(kd:Bool):Except Er (Int×NS×SS):=match mx p with
 |.error e=>.error e
 |.ok ns=>match kY N S ns with
  |.error e=>.error e
  |.ok w=>if 40<=(eE (S (lst w))).length then .error .tooMany else match xU N 24 with
   | []=>.error .noNode
   |u::_=>if fI tot N (Fb N (lst w)) (8*(c7 (S (lst w)) (bJ ns) u).length)=true then .error .noSpace else .ok (u,cA (putN N (lst w) (bp (c7 (S (lst w)) (bJ ns) u))) u (some #[kd,(1),[]]),qw S (lst w) (c7 (S (lst w)) (bJ ns) u))
theorem kK(Z:Fz N S)(h:kY N S ns=.ok v):Way N S ns.dropLast v/\dq N (lst v)=true/\bJ ns∉eE (S (lst v))/\ns≠[]:=by
 unfold kY at h;cases c:ns=[]
 .rw[aa3 c]at h;cases h
 rw[aa2 c]at h;cases e:eR N S ns.dropLast with
 |error r=>rwa[e]at h
 |ok w =>
  rw[e]at h;dsimp only at h;cases F:dq N (lst w)=true
  .rw[aa3 F]at h;cases G:bJ ns∈eE (S (lst w))
   .rw[aa3 G]at h;cases h
   .rw[aa2 G]at h;cases h;show#[Z.way e,F,G,c]
  .rw[aa2 F]at h;cases h
variable{m:Nat}
theorem yi{u:Int}{r:qAa}(h:xU N m=u::r):N u=none/\0<=u/\u<m:=by
 have:u∈xU N m:=(by rw[h];show Tf);unfold xU at this;let#[h1,h2]:=Ue.mp this;let#[i,hi,rfl]:=Tc.mp h1;have:=Xs.mp hi;show#[Option.isNone_iff_eq_none.mp h2,af,af]
theorem fL(h:ns≠[]):bJ ns∈ns/\js (ns.map V.str) (-1)=some (.str (bJ ns)):=by
 obtain⟨b,k,e⟩:∃b k,ns=b++[k]:=#[2,(TB h).symm];rw[e,ox,K4];show#[L3 _ (DO.mpr rfl),oX _ _]
inductive Ga(M:b6)(CF:Addr)(X:Er->Addr)(v:qAh)(H:Hp)(Q:VK)(e3:XK):Prop
 |mk(z:FA)(m:M.St)(tot:Nat)(N:NS)(S:SS)(h:HT)(p:Str)(kd:Bool)(_:v=[.ref z.a,.str p,.str (ph kd)])(_:dh M CF H z m tot N h 0)(_:Fz N S)(_:bG p)(_:∀e,lZ tot N S p kd=.error e->∀H',aH H H'->e3 (.ref (X e)) none H')(_:∀u N' S',lZ tot N S p kd=.ok (u,N',S')->∀(H':Hp)(m':M.St),dh M CF H' z m' tot N' h 0->M.Step m H m' H'->Q (.int u) H')
inductive CW(kd:Bool)(M:b6)(CF:Addr)(X:Er->Addr)(v:qAh)(H:Hp)(Q:VK)(e3:XK):Prop
 |mk(z:FA)(m:M.St)(tot:Nat)(N:NS)(S:SS)(h:HT)(p:Str)(_:v=[.ref z.a,.str p])(_:dh M CF H z m tot N h 0)(_:Fz N S)(_:bG p)(_:∀e,lZ tot N S p kd=.error e->∀H',aH H H'->e3 (.ref (X e)) none H')(_:∀u N' S',lZ tot N S p kd=.ok (u,N',S')->∀(H':Hp)(m':M.St),dh M CF H' z m' tot N' h 0->M.Step m H m' H'->Q (.int u) H')
abbrev Qc:Tg:=inClass (top 66) 1
abbrev Pc:Tg:=inClass (top 66) 16
abbrev QW:Tg:=inClass (top 66) 2
abbrev O7:Tg:=inClass (top 66) 3
theorem OO:ax ["self","path"] ["self","path"] (ak Qc):=L2.a8
theorem E2(F:bM K "find" "Files.find" Qc f fd)(TF:d7 K CF)(O:M.Ok P w K mg base)(ac:⇑Df 2 "names_of" (vy X))(ab:⇑Df 9 "way_along" (uY M X)):⇑aM 10 f fd ["self","path"] (G5 M CF X):=by
 show F.dX OO ?_;intros;let#[z,m,tot,d,N,S,h,p,rfl,A0,Z,hp,Y,kQ]:=h;let#[dy,hy]:=A0.ob;show#[_,(aS (cK (rT aQ (Rp ab hr (DG (aE (pv 0) rfl) (DB (kc ac hr (aa (pv 1) ae))))) (dm cu ai) bZ))),?_];show#[0,z.a,CF,dy,_,.ref z.na,rfl,hy,TF.cl,TF.nN,bT kf,0,p,rfl,hp,λe U H1 G=>Y e (by unfold kD;rw[U]) H1 G,λns L H1 l1 G f1 e1=>?_];let#[b1,b2]:=gc hp L;show#[z.na,m,tot,d,N,S,l1,ns,rfl,(A0.same O G).A,Z,e1,b1,λx hx=>(b2 x hx).len,λe U H2 I=>Y e (by unfold kD;rw[L];dsimp only;rw[U]) H2 (G.trans I),λv hv H2 q2 I f2 e2=>?_];let W:=Z.way hv;show#[(1),rfl,q2,_, -1,.int (lst v),1,aW.of e2,d8 W.ne,kQ _ (by unfold kD;rw[L];dsimp only;rw[hv]) H2 (G.trans I)]
theorem AG:ax ["self","path","kind","names","parent","slots","unused"] ["self","path","kind"] (ak Pc):=L2.a8
theorem uh(F:bM K "make_node" "Files.make_node" Pc f fd)(T:jO K mg X)(L:d7 K CF)(O:M.Ok P w K mg base)(a3:⇑Df 2 "names_of" (vy X))(a4:⇑Df 10 "way_to_new" (DM M X))(ba:↥Df 8 "slots_of" (pf M))(bb:⇑Df 2 "refuse_full" (Ec X))(a5:↥Df 8 "free_nodes" (Fw M))(bd:⇑Md 10 CF "put_name" (Ci M CF X)):⇑aM 11 f fd ["self","path","kind"] (Ga M CF X):=by
 show F.dX AG ?_;intros;let#[z,m,tot,N,S,h,p,kd,rfl,A0,Z,hp,G,I]:=h;let hs:=y1;let#[dy,hy]:=A0.ob;unfold lZ at G I;show#[_,(aw (tG 3 AG.nd (kc a3 hr (aa (pv 1) ae)))
  (aw (tG 4 AG.nd (rT aQ (kc a4 hr (aa (aE (pv 0) rfl) (aa (pv 3) ae))) (dm cu ai) bZ))
  (aw (cT (cL 5 AG.nd (pc ba hr ay (aa (aE (pv 0) rfl) (aa (pv 4) ae)))))
  (aw (bh (kc bb hr (aa (pv 5) ae)))
  (aw (cT (cL 6 AG.nd (pc a5 hr ay (aa (aE (pv 0) rfl) ae))))
  (aw (bH (aA bD (aC aO (by rfl) T.len T7 (aa (pv 6) ae)) ai (aI _)) (aS (bE rfl (T.xm .noNode) (T.xe .noNode) rfl rfl (aa aF ae))) bo)
  (aw (bh (iZ (pv 0) L.cl bd hr (aa (pv 4) (aa (pv 5) (aa (aL aQ (pv 3) (dm cu ai) bZ) (aa (aL aQ (pv 6) ai bZ) ae))))))
  (cf (aj (aR (pm (aE (pv 0) rfl) O.cl O.begin hr ay (aa (aL aQ (pv 6) ai bZ) (aa (pv 2) ae))))
  (aj (aR (wB (aE (pv 0) rfl) O.cl O.fin hr ay))
  (aq (aG (aL aQ (pv 6) ai bZ))))))))))))),?_]
 show#[0,p,rfl,hp,λe he H1 s1=>by rw[he]at G;show G e rfl H1 s1,λns aB H1 l1 s1 f1 e1=>?_];rw[aB]at G I;dsimp only at G I;let#[b1,b2]:=gc hp aB;let A1:=A0.same O s1;show#[0,z.a,CF,dy,_,.ref z.na,rfl,s1 _ _ hy,L.cl,L.nN,bT kf,0,z.na,m,tot,(0),N,S,l1,ns,rfl,A1.A,Z,e1,b1,λx hx=>(b2 x hx).len,λe he H2 s2=>by rw[he]at G;show G e rfl H2 (s1.trans s2),λv hv H2 q2 s2 f2 e2=>?_];rw[hv]at G I;dsimp only at G I;let#[W,hd,be,bc]:=kK Z hv;let#[nd,U,a1]:=b7 hd;let#[aK,a2]:=fL bc;let am:=s1.trans s2;let A2:=A0.same O am;show#[(1),rfl,q2,_, -1,.int (lst v),1,aW.of e2,d8 W.ne,?_];show#[0,z.a,CF,dy,_,.ref z.na,rfl,am _ _ hy,L.cl,L.nN,bT kf,0,z.na,m,tot,(0),N,lst v,nd,S (lst v),rfl,A2.A,U,Z.enc _ _ U a1,Z.len _,Z.ok _,λH3 q3 ws s3 f3 e3 S3=>?_];let aT:=am.trans s3;show#[0,q3,ws,S (lst v),rfl,e3,S3,Z.len _,Z.nd _,λc H4 s4=>by rw[aa3 c]at G;show G _ rfl H4 (aT.trans s4),λc H4 s4=>?_];rw[aa2 af]at G I;let ad:=aT.trans s4;let A4:=A0.same O ad;show#[0,z.a,CF,dy,_,.ref z.na,rfl,ad _ _ hy,L.cl,L.nN,bT kf,z.na,m,tot,(0),N,rfl,A4.A,λH5 Y s5 f5 e5=>?_];let ab:=ad.trans s5;let A5:=A0.same O ab;show#[0,Y,0,.inl (aW.of e5),rfl,0,?_];rw[rz];cases hf:xU N 24 with
 |nil =>
  rw[hf]at G;show dt #[az,G _ rfl H5 ab]
 |cons u r =>
  rw[hf]at G I e5;dsimp only at G I;let#[hu,u0,u1]:=yi hf;let un:¬ u=lst v:=λq=>(by rwa[q,U]at hu);let a0:¬ V.int ((u::r).length:Nat)=V.int 0:=λq=>(by have:=V.int.inj q;rw[TH]at this;omega);rw[decide_eq_false a0];show ck ?_;rw[lW U,cM U]at I;rw[lW U]at G;let nq:¬ M.own m Y:=λq=>O.live A4.A q f5;show#[0,z.a,dy,0,ab _ _ hy,a9 av av,0,0,0,(1),rfl,l1,_, -1,.str (bJ ns),1,aW.of ((s2.trans (s3.trans (s4.trans s5))) _ _ e1),a2,0,Y,_,(0),.int u,1,aW.of e5,aD (j:=0) rfl,z,m,tot,(0),N,h,lst v,nd,q3,ws,S (lst v),bJ ns,u,rfl,A5,U,(s4.trans s5) _ _ e3,S3.same (s4.trans s5),Z.len _,c,Z.ok _,b2 _ aK,λc2 H6 s6=>by rw[aa3 c2]at G;show G _ rfl H6 (ab.trans s6),λc2 H6 m6 A6 ap=>?_];rw[aa2 (by rw[c2];nofun)]at I;let#[dz,hz]:=A6.ob;let#[dx,fs',ho,ht,hm]:=O.ob A6.A;let e6:=ap.1 _ _ e5 nq;show#[0,z.a,CF,dz,_,.ref z.na,rfl,hz,L.cl,L.nN,bT kf,z.na,dx,0,ho,hm _ av,0,Y,_,(0),.int u,1,aW.of e6,aD (j:=0) rfl,0,z.na,m6,tot,2,u,kd,rfl,A6.A,by rw[iK un];show hu,u0,af,λH7 m7 A7 ac=>?_];let ar:=A6.step O A7 ac;let#[dz,hz]:=ar.ob;let#[dx,fs',ho,ht,hm]:=O.ob A7;let d1:=lY nd.cs (bp (c7 (S (lst v)) (bJ ns) u)) (nb (bp (c7 (S (lst v)) (bJ ns) u)).length);let d2:nb (bp (c7 (S (lst v)) (bJ ns) u)).length<=20:=qu (by
   have:=i9 (nm:=bJ ns) (k:=u) c (Z.len (lst v));rw[cO (cU (Z.ok _) (b2 _ aK))];omega)
  let as:¬ M.own m6 Y:=λq=>by
   rcases ap.2 _ q with q|q
   .show nq q
   .rw[q]at e5;cases e5
  let e7:=ac.1 _ _ e6 as;show#[0,z.a,CF,dz,_,.ref z.na,rfl,hz,L.cl,L.nN,bT kf,z.na,dx,0,ho,hm _ av,z.na,m7,tot,_,0,A7,af,λH8 m8 A8 ao=>?_];let a6:¬ M.own m7 Y:=λq=>by
   rcases ac.2 _ q with q|q
   .show as q
   .rw[q]at e6;cases e6
  show#[0,Y,_,(0),.int u,1,aW.of (ao.1 _ _ e7 a6),aD (j:=0) rfl,I u _ _ rfl H8 m8 (ar.step O A8 ao) (b6.pre ab (b6.tr ap (b6.tr ac ao)))]
theorem QZ:ax ["self","path"] ["self","path"] (ak QW):=L2.a8
theorem Gp(F:bM K "make" "Files.make" QW f fd)(TF:d7 K CF)(ab:⇑Md 11 CF "make_node" (Ga M CF X)):⇑aM 12 f fd ["self","path"] (CW false M CF X):=by
 show F.dX QZ ?_;intros;let#[z,m,tot,N,S,h,p,rfl,G,Z,Y,U,L]:=h;let#[dy,I]:=G.ob;show#[_,(aS (cK (iZ (pv 0) TF.cl ab hr (aa (pv 1) (aa aF ae))))),?_];show#[0,z.a,dy,0,I,a9 av av,0,z,m,tot,N,S,h,p,false,rfl,G,Z,Y,U,L]
theorem Pu:ax ["self","path"] ["self","path"] (ak O7):=L2.a8
theorem xw(F:bM K "make_dir" "Files.make_dir" O7 f fd)(TF:d7 K CF)(ab:⇑Md 11 CF "make_node" (Ga M CF X)):⇑aM 12 f fd ["self","path"] (CW true M CF X):=by
 show F.dX Pu ?_;intros;let#[z,m,tot,N,S,h,p,rfl,G,Z,Y,U,L]:=h;let#[dy,I]:=G.ob;show#[_,(aS (cK (iZ (pv 0) TF.cl ab hr (aa (pv 1) (aa aF ae))))),?_];show#[0,z.a,dy,0,I,a9 av av,0,z,m,tot,N,S,h,p,true,rfl,G,Z,Y,U,L]
noncomputable def oy(N:NS)(S:SS)(p:Str):Except Er (List Str):=match kD N S p with
 |.error e=>.error e
 |.ok k=>if dq N k=true then .ok (qh (eE (S k)))else .error .notDir
inductive Bf(M:b6)(CF:Addr)(X:Er->Addr)(v:qAh)(H:Hp)(Q:VK)(e3:XK):Prop
 |mk(z:FA)(m:M.St)(tot d:Nat)(N:NS)(S:SS)(h:HT)(p:Str)(_:v=[.ref z.a,.str p])(_:dh M CF H z m tot N h d)(_:Fz N S)(_:bG p)(_:∀e,oy N S p=.error e->∀H',aH H H'->e3 (.ref (X e)) none H')(_:∀ns,oy N S p=.ok ns->∀(H':Hp)(q:Addr),aH H H'->H q=none->H' q=some (.lst (ns.map V.str))->Q (.ref q) H')
inductive zQ(M:b6)(CF:Addr)(v:qAh)(H:Hp)(Q:VK)(e:XK):Prop
 |mk(z:FA)(m:M.St)(tot d:Nat)(N:NS)(h:HT)(_:v=[.ref z.a])(_:dh M CF H z m tot N h d)(_:∀(H':Hp)(q:Addr),aH H H'->H q=none->H' q=some (.tup [.int ((xU N 24).length:Nat),.int ((tot:Int)-(us N 24:Nat))])->Q (.ref q) H')
noncomputable def JO(nd:Node):Int:=if nd.dir=true then(nd.cs.length:Int)/8 else(nd.cs.length:Int)
inductive Eu(M:b6)(CF:Addr)(X:Er->Addr)(v:qAh)(H:Hp)(Q:VK)(e:XK):Prop
 |mk(z:FA)(m:M.St)(tot d:Nat)(N:NS)(h:HT)(n:Int)(_:v=[.ref z.a,.int n])(_:dh M CF H z m tot N h d)(_:n.natAbs<=1000000)(_:N n=none->∀H',aH H H'->e (.ref (X .noNode)) none H')(_:∀nd,N n=some nd->∀(H':Hp)(q:Addr),aH H H'->H q=none->H' q=some (.tup [.str (ph nd.dir),.int nd.ln,.int (JO nd)])->Q (.ref q) H')
noncomputable def cells(N:NS)(n:Int):List Int:=match N n with
 |some nd=>nd.cs
 |none=>[]
theorem jZ(h:N n=some nd):cells N n=nd.cs:=by unfold cells;rw[h]
abbrev vY(n:Int):Prop:=0<=n/\n<=320
noncomputable def pQ(N:NS)(n G F:Int):Except Er (List Int):=match vI N n with
 |some e=>.error e
 |none=>if vY G then(if vY F then .ok (((cells N n).drop G.toNat).take F.toNat)else .error .tooBig)else .error .tooBig
inductive EN(M:b6)(CF:Addr)(X:Er->Addr)(v:qAh)(H:Hp)(Q:VK)(e3:XK):Prop
 |mk(z:FA)(m:M.St)(tot d:Nat)(N:NS)(h:HT)(n a b:Int)(_:v=[.ref z.a,.int n,.int a,.int b])(_:dh M CF H z m tot N h d)(_:n.natAbs<=1000000/\a.natAbs<=1000000/\b.natAbs<=1000000)(_:∀e,pQ N n a b=.error e->∀H',aH H H'->e3 (.ref (X e)) none H')(_:∀cs,pQ N n a b=.ok cs->∀(H':Hp)(q:Addr),aH H H'->H q=none->H' q=some (.lst (cs.map V.int))->Q (.ref q) H')
noncomputable def lS(tot:Nat)(N:NS)(n:Int)(cs:qAa):Except Er NS:=if fI tot N (Fb N n) cs.length=true then .error .noSpace else .ok (putN N n cs)
noncomputable def zr(tot:Nat)(N:NS)(n size:Int):Except Er NS:=match vI N n with
 |some e=>.error e
 |none=>if vY size then lS tot N n ((fill (cells N n) size.toNat).take size.toNat)else .error .tooBig
inductive Ji(M:b6)(CF:Addr)(X:Er->Addr)(v:qAh)(H:Hp)(Q:VK)(e3:XK):Prop
 |mk(z:FA)(m:M.St)(tot:Nat)(N:NS)(h:HT)(n a:Int)(_:v=[.ref z.a,.int n,.int a])(_:dh M CF H z m tot N h 0)(_:n.natAbs<=1000000/\a.natAbs<=1000000)(_:∀e,zr tot N n a=.error e->∀H',aH H H'->e3 (.ref (X e)) none H')(_:∀N',zr tot N n a=.ok N'->∀(H':Hp)(m':M.St),dh M CF H' z m' tot N' h 0->M.Step m H m' H'->Q .a7 H')
noncomputable def Ou(old:qAa)(a:Nat)(cs:qAa):List Int:=(fill old a).take a++cs++(fill old a).drop (a+cs.length)
noncomputable def lU(tot:Nat)(N:NS)(n a:Int)(cs:qAa):Except Er NS:=match vI N n with
 |some e=>.error e
 |none=>if vY a then(if vY (a+cs.length)then(if cs.length=0 then .ok N else lS tot N n (Ou (cells N n) a.toNat cs))else .error .tooBig)else .error .tooBig
inductive IL(M:b6)(CF:Addr)(X:Er->Addr)(v:qAh)(H:Hp)(Q:VK)(e3:XK):Prop
 |mk(z:FA)(m:M.St)(tot:Nat)(N:NS)(h:HT)(n a:Int)(l:Addr)(cs:qAa)(_:v=[.ref z.a,.int n,.int a,.ref l])(_:dh M CF H z m tot N h 0)(_:n.natAbs<=1000000/\a.natAbs<=1000000/\cs.length<=1000)(_:H l=some (.lst (cs.map V.int)))(_:¬ M.own m l)(_:∀e,lU tot N n a cs=.error e->∀H',aH H H'->e3 (.ref (X e)) none H')(_:∀N',lU tot N n a cs=.ok N'->∀(H':Hp)(m':M.St),dh M CF H' z m' tot N' h 0->M.Step m H m' H'->Q (.int (cs.length:Nat)) H')
theorem lP(h:vI N n=none):∃nd,N n=some nd/\nd.dir=false:=by
 unfold vI at h;cases e:N n with
 |none=>rwa[e]at h
 |some nd =>
  rw[e]at h;show#[nd,3];cases c:nd.dir with
  |false=>rfl
  |true=>dsimp only at h;rwa[c,aa3 rfl]at h
theorem yj{xs:qAa}(h1:xs.length<=320)(h2:m<=320):(fill xs m).length<=320:=by
 unfold fill;rw[wh,Uh];omega
theorem Fx{old:qAa}{a:Nat}(h1:old.length<=320)(h2:a+cs.length<=320):(Ou old a cs).length<=320:=by
 have:=yj h1 (show a<=320 by omega);unfold Ou;rw[wh,wh,HC,Tu];omega
abbrev Jn:Tg:=inClass (top 66) 8
abbrev P8:Tg:=inClass (top 66) 15
abbrev RE:Tg:=inClass (top 66) 9
abbrev Qy:Tg:=inClass (top 66) 10
abbrev P9:Tg:=inClass (top 66) 12
abbrev R0:Tg:=inClass (top 66) 11
theorem LR:ax ["self","path","node"] ["self","path"] (ak Jn):=L2.a8
theorem DN(F:bM K "names" "Files.names" Jn f fd)(L:d7 K CF)(O:M.Ok P w K mg base)(as:⇑Md 10 CF "find" (G5 M CF X))(am:⇑Df 8 "refuse_no_dir" (zh M X))(ar:↥Df 1 "names_in" Ao)(ad:↥Df 8 "slots_of" (pf M)):⇑aM 11 f fd ["self","path"] (Bf M CF X):=by
 show F.dX LR ?_;intros;let#[z,m,tot,d,N,S,h,p,rfl,Y,Z,hp,G,U]:=h;let#[dy,hy]:=Y.ob;unfold oy at G U;show#[_,(aw (tG 2 LR.nd (iZ (pv 0) L.cl as hr (aa (pv 1) ae)))
  (aw (bh (kc am hr (aa (aE (pv 0) rfl) (aa (pv 2) ae))))
  (cf (aq (aG (pc ar hr ay (aa (pc ad hr ay (aa (aE (pv 0) rfl) (aa (pv 2) ae))) ae))))))),?_]
 show#[0,z.a,dy,0,hy,a9 av av,0,z,m,tot,d,N,S,h,p,rfl,Y,Z,hp,λe he H1 I=>by rw[he]at G;show G e rfl H1 I,λk hk H1 I=>?_];rw[hk]at G U;dsimp only at G U;let A1:=Y.same O I;let rk:∃nd,N k=some nd:=by
  unfold kD at hk;cases e1:mx p with
  |error r=>rwa[e1]at hk
  |ok ns =>
   rw[e1]at hk;dsimp only at hk;cases e2:eR N S ns with
   |error r=>rwa[e2]at hk
   |ok v=>rwa[e2]at hk;show(Z.way e2).last
 let#[aB,ao]:=rk;let rg:=Z.pV _ _ ao;show#[0,z.a,CF,dy,_,.ref z.na,rfl,I _ _ hy,L.cl,L.nN,bT kf,0,z.na,m,tot,d,N,k,rfl,A1.A,af,λc H2 s2=>by rw[aa2 (by rw[c];nofun)]at G;show G _ rfl H2 (I.trans s2),λc H2 s2=>?_];rw[aa3 c]at U;let#[nd,ac,ap]:=b7 c;let ab:=I.trans s2;show#[0,z.a,CF,dy,_,.ref z.na,rfl,ab _ _ hy,L.cl,L.nN,bT kf,0,z.na,m,tot,d,N,k,nd,S k,rfl,(Y.same O ab).A,ac,Z.enc _ _ ac ap,Z.len _,Z.ok _,λH3 q3 ws s3 f3 e3 S3=>?_];show#[q3,ws,S k,rfl,e3,S3,Z.len _,Z.nd _,λH4 q4 s4 f4 e4=>U _ rfl H4 q4 (ab.trans (s3.trans s4)) (aX (ab.trans s3) f4) e4]
theorem O4:ax ["self"] ["self"] (ak P8):=L2.a8
theorem Ex(F:bM K "free" "Files.free" P8 f fd)(T:jO K mg X)(I:d7 K CF)(O:M.Ok P w K mg base)(ac:↥Df 8 "free_nodes" (Fw M))(ab:↥Df 8 "free_blocks" (Gu M)):↥aM 9 f fd ["self"] (zQ M CF):=by
 show F.cU O4 ?_;intros;let#[z,m,tot,d,N,h,rfl,L,kQ]:=h;let hs:=y1;let#[dy,Z]:=L.ob;show#[_,(aq (aG (dZ (aa (aC aO (by rfl) T.len T7 (aa (pc ac hr ay (aa (aE (pv 0) rfl) ae)) ae)) (aa (pc ab hr ay (aa (aE (pv 0) rfl) ae)) ae))))),?_];show#[0,z.a,CF,dy,_,.ref z.na,rfl,Z,I.cl,I.nN,bT kf,z.na,m,tot,d,N,rfl,L.A,λH1 q1 G f1 e1=>#[q1,0,.inl (aW.of e1),?_]];show#[0,z.a,CF,dy,_,.ref z.na,rfl,G _ _ Z,I.cl,I.nN,bT kf,z.na,m,tot,d,N,rfl,(L.same O G).A,λH2 Y=>#[by change 2<=sizeLine;omega,λq3 U=>?_]];show kQ _ q3 ((G.trans Y).trans (ah U)) (aX (G.trans Y) U) ?_;rw[ag,rz]
theorem IQ:ax ["self","node","kind","size"] ["self","node"] (ak RE):=L2.a8
theorem FV(F:bM K "stat" "Files.stat" RE f fd)(T:jO K mg X)(I:d7 K CF)(O:M.Ok P w K mg base)(am:⇑Md 8 CF "refuse_no_node" (Bp M CF X)):⇑aM 9 f fd ["self","node"] (Eu M CF X):=by
 show F.dX IQ ?_;intros;let#[z,m,tot,d,N,h,n,rfl,U,hn,kE,kQ]:=h;let hs:=y1;let#[dy,hy]:=U.ob;show#[_,(aw (bh (iZ (pv 0) I.cl am hr (aa (pv 1) ae)))
  (cf (aj (cL 2 IQ.nd (pm (aE (pv 0) rfl) O.cl O.kind hr ay (aa (pv 1) ae)))
  (aj (cL 3 IQ.nd (pm (aE (pv 0) rfl) O.cl O.size hr ay (aa (pv 1) ae)))
  (aq (aG (dZ (aa (pv 2) (aa (pm (aE (pv 0) rfl) O.cl O.links hr ay (aa (pv 1) ae)) (aa (gh (aA bD (pv 2) aF (aI _)) (aJ jk (pv 3) (de T.oQ)) (pv 3)) ae)))))))))),?_]
 show#[0,z.a,dy,0,hy,a9 av av,0,z,m,tot,d,N,h,n,rfl,U,hn,kE,λnd Z H1 s1=>?_];let A1:=(U.same O s1).A;let#[dx,fs',ho,ht,hm]:=O.ob A1;show#[0,z.a,CF,dy,_,.ref z.na,rfl,s1 _ _ hy,I.cl,I.nN,bT kf,z.na,dx,0,ho,hm _ av,0,z.na,m,tot,d,N,n,rfl,A1,λH2 s2=>?_];let ab:=s1.trans s2;show#[0,z.a,CF,dy,_,.ref z.na,rfl,ab _ _ hy,I.cl,I.nN,bT kf,z.na,dx,0,s2 _ _ ho,hm _ av,0,z.na,m,tot,d,N,n,nd,rfl,(U.same O ab).A,Z,λH3 s3=>?_];let ac:=ab.trans s3;let kv:HJ (N n)=.str (ph nd.dir):=(by rw[Z];rfl);show#[0,0,z.a,CF,dy,_,.ref z.na,rfl,ac _ _ hy,I.cl,I.nN,bT kf,z.na,dx,0,(s2.trans s3) _ _ ho,hm _ av,0,z.na,m,tot,d,N,n,nd,rfl,(U.same O ac).A,Z,λH4 s4=>?_];let ad:=ac.trans s4;show#[0,by rw[kv];rfl,0,?_];let eD:decide (HJ (N n)=.str "dir")=nd.dir:=(by rw[kB,fG Z]);rw[eD];let Y:∀k:Int,JO nd=k->∀G,H4 G=none->Q (.ref G) (upd H4 G (.tup [HJ (N n),.int nd.ln,.int k])):=λk e G L=>by
  show kQ nd Z _ G (ad.trans (ah L)) (aX ad L) ?_;rw[ag,kv,e]
 unfold JO at Y;cases c:nd.dir with
 |true =>
  rw[c]at Y;show dt #[0,_,0,rfl,#[az,az],by change 3<=sizeLine;omega,λG L=>Y _ (aa3 rfl) G L]
 |false =>
  rw[c]at Y;show ck #[0,by change 3<=sizeLine;omega,λG L=>Y _ (aa2 (by nofun)) G L]
theorem Rl:ax ["self","node","at","many"] ["self","node","at","many"] (ak Qy):=L2.a8
theorem Aq(F:bM K "read_at" "Files.read_at" Qy f fd)(TF:d7 K CF)(O:M.Ok P w K mg base)(am:⇑Md 9 CF "refuse_no_file" (qG M CF X))(ad:⇑Df 1 "refuse_no_place" (Ca X)):⇑aM 10 f fd ["self","node","at","many"] (EN M CF X):=by
 show F.dX Rl ?_;intros;let#[z,m,tot,d,N,h,n,a,b,rfl,U,hn,G,L]:=h;let#[dy,hy]:=U.ob;unfold pQ at G L;show#[_,(aw (bh (iZ (pv 0) TF.cl am hr (aa (pv 1) ae)))
  (aw (bh (kc ad hr (aa (pv 2) ae)))
  (aw (bh (kc ad hr (aa (pv 3) ae)))
  (cf (aq (aG (bw bK (pm (aE (pv 0) rfl) O.cl O.cells hr ay (aa (pv 1) ae)) (bA (pv 2)) (bA (aJ bU (pv 2) (pv 3)))))))))),?_]
 show#[0,z.a,dy,0,hy,a9 av av,0,z,m,tot,d,N,h,n,rfl,U,hn.1,λe he H1 I=>by rw[he]at G;show G e rfl H1 I,λhf H1 I=>?_];rw[hf]at G L;dsimp only at G L;show#[0,a,rfl,hn.2.1,λc=>by rw[aa2 c]at G;show G _ rfl H1 I,λc=>?_];rw[aa3 c]at G L;show#[0,b,rfl,hn.2.2,λY=>by rw[aa2 Y]at G;show G _ rfl H1 I,λY=>?_];rw[aa3 Y]at L;let#[nd,ab,ao]:=lP hf;rw[jZ ab]at L;let A1:=(U.same O I).A;let#[dx,fs',ho,ht,hm]:=O.ob A1;show#[0,z.a,CF,dy,_,.ref z.na,rfl,I _ _ hy,TF.cl,TF.nN,bT kf,z.na,dx,0,ho,hm _ av,0,z.na,m,tot,d,N,n,nd,rfl,A1,ab,λH2 q2 s2 f2 Z=>?_];show#[0,0,0,0,_,0,rfl,0,q2,0,aW.of Z,λq3 f3=>?_];let ac:=I.trans s2;show L _ rfl _ q3 (ac.trans (ah f3)) (aX ac f3) ?_;rw[ag];let e1:a=(a.toNat:Int):=af;let Z:b=(b.toNat:Int):=af;have:=ni (ws:=nd.cs) (s:=a.toNat) (n:=b.toNat);rw[<-e1, <-Z]at this;rw[this]
theorem Qp:ax ["self","node","size"] ["self","node","size"] (ak P9):=L2.a8
theorem JR(F:bM K "cut" "Files.cut" P9 f fd)(Z:d7 K CF)(O:M.Ok P w K mg base)(ac:⇑Md 9 CF "refuse_no_file" (qG M CF X))(am:⇑Df 1 "refuse_no_place" (Ca X))(ad:↥Df 1 "lengthened" jM)(ao:⇑Md 10 CF "put_whole" (G4 M CF X)):⇑aM 11 f fd ["self","node","size"] (Ji M CF X):=by
 show F.dX Qp ?_;intros;let#[z,m,tot,N,h,n,a,rfl,U,hn,G,I]:=h;let#[dy,hy]:=U.ob;unfold zr at G I;show#[_,(aw (bh (iZ (pv 0) Z.cl ac hr (aa (pv 1) ae)))
  (aw (bh (kc am hr (aa (pv 2) ae)))
  (aS (bh (iZ (pv 0) Z.cl ao hr (aa (pv 1) (aa (bw bK (pc ad hr ay (aa (pm (aE (pv 0) rfl) O.cl O.cells hr ay (aa (pv 1) ae)) (aa (pv 2) ae))) b8 (bA (pv 2))) ae))))))),?_]
 show#[0,z.a,dy,0,hy,a9 av av,0,z,m,tot,(0),N,h,n,rfl,U,hn.1,λe he H1 L=>by rw[he]at G;show G e rfl H1 L,λhf H1 L=>?_];rw[hf]at G I;dsimp only at G I;show#[0,a,rfl,hn.2,λc=>by rw[aa2 c]at G;show G _ rfl H1 L,λc=>?_];let#[nd,Y,ap]:=lP hf;let l3:=(O.ok U.A).uS _ _ Y;unfold lS at G I;rw[aa3 c,jZ Y,lW Y]at G I;rw[cM Y]at I;let A1:=U.same O L;let#[dx,fs',ho,ht,hm]:=O.ob A1.A;let e1:a=(a.toNat:Int):=af;show#[0,z.a,dy,0,L _ _ hy,a9 av av,0,0,z.a,CF,dy,_,.ref z.na,rfl,L _ _ hy,Z.cl,Z.nN,bT kf,z.na,dx,0,ho,hm _ av,0,z.na,m,tot,(0),N,n,nd,rfl,A1.A,Y,λH2 q2 s2 f2 e2=>?_];show#[0,q2,nd.cs,a.toNat,by rw[<-e1];rfl,e2,af,af,λH3 q3 s3 f3 e3=>?_];show#[0,0,q3,0,aW.of e3,λq4 f4=>?_];let ec:dg ((fill nd.cs a.toNat).map V.int) none (some a)=((fill nd.cs a.toNat).take a.toNat).map V.int:=by
  have:=ie (ws:=fill nd.cs a.toNat) (s:=a.toNat)
  (rw[<-e1]at this;assumption)
 rw[ec];let ab:=L.trans (s2.trans s3);let s4:=ah (X:=.lst (((fill nd.cs a.toNat).take a.toNat).map V.int)) f4;let A4:=U.same O (ab.trans s4);show#[z,m,tot,N,h,n,nd,q4,0,A4,Y,ag,λq=>O.live (U.same O ab).A q f4,?_,λc2 H5 s5=>by rw[aa3 c2]at G;show G _ rfl H5 ((ab.trans s4).trans s5),λc2 H5 m5 A5 st=>?_]
 .rw[HC];omega
 .rw[aa2 (by rw[c2];nofun)]at I;show I _ rfl H5 m5 A5 (b6.pre (ab.trans s4) st)
noncomputable def yW(N:NS)(h:HT)(n:Int):Except Er HT:=match vI N n with
 |some e=>.error e
 |none=>match look h n with
  |none=>.ok (h++[(n,1)])
  |some v=>.ok (dG h n (v+1))
inductive JE(M:b6)(CF:Addr)(X:Er->Addr)(v:qAh)(H:Hp)(Q:VK)(e3:XK):Prop
 |mk(z:FA)(m:M.St)(tot:Nat)(N:NS)(h:HT)(n:Int)(_:v=[.ref z.a,.int n])(_:dh M CF H z m tot N h 0)(_:n.natAbs<=1000000)(_:∀e,yW N h n=.error e->∀H',aH H H'->e3 (.ref (X e)) none H')(_:∀h',yW N h n=.ok h'->∀(H':Hp),dh M CF H' z m tot N h' 0->cp M z m H m H'->Q .a7 H')
noncomputable def Lw(h:HT)(n v:Int):HT:=if v-1=0 then gT (dG h n (v-1)) n else dG h n (v-1)
noncomputable def lJ(N:NS)(h:HT)(n:Int):Except Er (NS×HT):=match N n with
 |none=>.error .noNode
 |some nd=>match look h n with
  |none=>.error .notHeld
  |some v=>.ok (if nd.ln=0/\look (Lw h n v) n=none then cA N n none else N,Lw h n v)
inductive KS(M:b6)(CF:Addr)(X:Er->Addr)(v:qAh)(H:Hp)(Q:VK)(e3:XK):Prop
 |mk(z:FA)(m:M.St)(tot:Nat)(N:NS)(h:HT)(n:Int)(_:v=[.ref z.a,.int n])(_:dh M CF H z m tot N h 0)(_:n.natAbs<=1000000)(_:∀e,lJ N h n=.error e->∀H',aH H H'->e3 (.ref (X e)) none H')(_:∀N' h',lJ N h n=.ok (N',h')->∀(H':Hp)(m':M.St),dh M CF H' z m' tot N' h' 0->cp M z m H m' H'->Q .a7 H')
theorem dh.hlen{m:M.St}{h:HT}{d:Nat}(F:dh M CF H z m tot N h d):h.length<=24:=by
 have:=LZ 24 0 (h.map (·.1)) F.nd λx I=>by
  let#[y,G,rfl]:=Tc.mp I;have:=F.hk y G;omega
 (rw[rz]at this;assumption)
abbrev RM:Tg:=inClass (top 66) 13
abbrev Qv:Tg:=inClass (top 66) 14
theorem MK:ax ["self","node","at","cells","old"] ["self","node","at","cells"] (ak R0):=L2.a8
theorem wW(F:bM K "write_at" "Files.write_at" R0 f fd)(T:jO K mg X)(TF:d7 K CF)(O:M.Ok P w K mg base)(as:⇑Md 9 CF "refuse_no_file" (qG M CF X))(ao:⇑Df 1 "refuse_no_place" (Ca X))(aK:↥Df 1 "lengthened" jM)(a5:⇑Md 10 CF "put_whole" (G4 M CF X)):⇑aM 11 f fd ["self","node","at","cells"] (IL M CF X):=by
 show F.dX MK ?_;intros;let#[z,m,tot,N,h,n,a,l,cs,rfl,U,hn,hl,no,G,I]:=h;let hs:=y1;let#[dy,hy]:=U.ob;unfold lU at G I;show#[_,(aw (bh (iZ (pv 0) TF.cl as hr (aa (pv 1) ae)))
  (aw (bh (kc ao hr (aa (pv 2) ae)))
  (aw (bh (kc ao hr (aa (aJ bU (pv 2) (aC aO (by rfl) T.len T7 (aa (pv 3) ae))) ae)))
  (aw (cT (bP (aA bD (aC aO (by rfl) T.len T7 (aa (pv 3) ae)) ai (aI _)) (aq (aG ai)) bj))
  (aw (cT (cL 4 MK.nd (pc aK hr ay (aa (pm (aE (pv 0) rfl) O.cl O.cells hr ay (aa (pv 1) ae)) (aa (pv 2) ae)))))
  (aw (bh (iZ (pv 0) TF.cl a5 hr (aa (pv 1) (aa (aJ cE (aJ cE (bw bK (pv 4) b8 (bA (pv 2))) (dH cq (by rfl) T.list dI (aa (pv 3) ae))) (bw bK (pv 4) (bA (aJ bU (pv 2) (aC aO (by rfl) T.len T7 (aa (pv 3) ae)))) b8)) ae))))
  (cf (aq (aG (aC aO (by rfl) T.len T7 (aa (pv 3) ae))))))))))),?_]
 show#[0,z.a,dy,0,hy,a9 av av,0,z,m,tot,(0),N,h,n,rfl,U,hn.1,λe he H1 L=>by rw[he]at G;show G e rfl H1 L,λhf H1 L=>?_];rw[hf]at G I;dsimp only at G I;show#[0,a,rfl,hn.2.1,λc=>by rw[aa2 c]at G;show G _ rfl H1 L,λc=>?_];rw[aa3 c]at G I;let am:=L _ _ hl;show#[0,0,l,0,.inl (aW.of am),_,0,rfl,a+cs.length,by rw[rz];rfl,af,λc2=>by rw[aa2 c2]at G;show G _ rfl H1 L,λc2=>?_];rw[aa3 c2]at G I;let A1:=U.same O L;show#[0,l,0,.inl (aW.of am),rfl,0,?_];rw[rz];show c9 (λc3=>?_) (λc3=>?_)
 .let e0:cs.length=0:=(by have:=V.int.inj (of_decide_eq_true c3);omega);rw[aa3 e0]at I;let q:=I N rfl H1 m A1 (b6.sm L);rw[e0]at q;show q
 let n0:¬ cs.length=0:=λq=>c3 (decide_eq_true (by rw[q];rfl));rw[aa2 n0]at G I;let#[nd,Y,a6]:=lP hf;let l3:=(O.ok U.A).uS _ _ Y;unfold lS at G I;rw[jZ Y,lW Y]at G I;rw[cM Y]at I;let#[dx,fs',ho,ht,hm]:=O.ob A1.A;let e1:a=(a.toNat:Int):=af;show#[0,z.a,CF,dy,_,.ref z.na,rfl,L _ _ hy,TF.cl,TF.nN,bT kf,z.na,dx,0,ho,hm _ av,0,z.na,m,tot,(0),N,n,nd,rfl,A1.A,Y,λH2 q2 s2 f2 e2=>?_];show#[0,q2,nd.cs,a.toNat,by rw[<-e1];rfl,e2,af,af,λH3 q3 s3 f3 e3=>?_];let ar:=L.trans (s2.trans s3);show#[0,z.a,dy,0,ar _ _ hy,a9 av av,0,0,0,a,rfl,q3,0,aW.of e3,λq4 f4=>?_];let ec:dg ((fill nd.cs a.toNat).map V.int) none (some a)=((fill nd.cs a.toNat).take a.toNat).map V.int:=by
  have:=ie (ws:=fill nd.cs a.toNat) (s:=a.toNat)
  (rw[<-e1]at this;assumption)
 rw[ec];let s4:=ah (X:=.lst (((fill nd.cs a.toNat).take a.toNat).map V.int)) f4;let e4:upd H3 q4 (.lst (((fill nd.cs a.toNat).take a.toNat).map V.int)) q4=some (.lst (((fill nd.cs a.toNat).take a.toNat).map V.int)):=ag;let a3:=s4 _ _ e3;generalize upd H3 q4 (.lst (((fill nd.cs a.toNat).take a.toNat).map V.int))=H4 at *;let ac:=ar.trans s4;show#[0,l,0,.inl (aW.of (ac _ _ hl)),λq5 f5=>?_];let s5:=ah (X:=.lst (cs.map V.int)) f5;let e5:upd H4 q5 (.lst (cs.map V.int)) q5=some (.lst (cs.map V.int)):=ag;let a4:=s5 _ _ e4;let a0:=s5 _ _ a3;generalize upd H4 q5 (.lst (cs.map V.int))=H5 at *;let aT:=ac.trans s5;let fl:=yj (xs:=nd.cs) (m:=a.toNat) af af;show#[q4,q5,_,0,rfl,a4,e5,by rw[rz,rz,HC];omega,λq6 f6=>?_];rw[<-K4];let s6:=ah (X:=.lst (((fill nd.cs a.toNat).take a.toNat++cs).map V.int)) f6;let e6:upd H5 q6 (.lst (((fill nd.cs a.toNat).take a.toNat++cs).map V.int)) q6=some (.lst (((fill nd.cs a.toNat).take a.toNat++cs).map V.int)):=ag;let aB:=s6 _ _ a0;generalize upd H5 q6 (.lst (((fill nd.cs a.toNat).take a.toNat++cs).map V.int))=H6 at *;let ap:=aT.trans s6;show#[0,0,0,l,0,.inl (aW.of (ap _ _ hl)),_,0,rfl,a+((cs.map V.int).length:Nat),rfl,q3,0,aW.of aB,λZ f7=>?_];let a2:dg ((fill nd.cs a.toNat).map V.int) (some (a+((cs.map V.int).length:Nat))) none=((fill nd.cs a.toNat).drop (a.toNat+cs.length)).map V.int:=by
  have:=hG (ws:=fill nd.cs a.toNat) (s:=a.toNat+cs.length);rw[show((a.toNat+cs.length:Nat):Int)=a+((cs.map V.int).length:Nat)by rw[rz];omega]at this;show this
 rw[a2];let s7:=ah (X:=.lst (((fill nd.cs a.toNat).drop (a.toNat+cs.length)).map V.int)) f7;let e7:upd H6 Z (.lst (((fill nd.cs a.toNat).drop (a.toNat+cs.length)).map V.int)) Z=some (.lst (((fill nd.cs a.toNat).drop (a.toNat+cs.length)).map V.int)):=ag;let a1:=s7 _ _ e6;generalize upd H6 Z (.lst (((fill nd.cs a.toNat).drop (a.toNat+cs.length)).map V.int))=H7 at *;let ad:=ap.trans s7;show#[q6,Z,_,0,rfl,a1,e7,by rw[rz,rz,wh,HC,Tu];omega,λq8 f8=>?_];rw[<-K4];let s8:=ah (X:=.lst (((fill nd.cs a.toNat).take a.toNat++cs++(fill nd.cs a.toNat).drop (a.toNat+cs.length)).map V.int)) f8;let ab:=ad.trans s8;show#[z,m,tot,N,h,n,nd,q8,Ou nd.cs a.toNat cs,rfl,U.same O ab,Y,ag,λq=>O.live (U.same O ad).A q f8,Fx af af,λc4 H9 s9=>by rw[aa3 c4]at G;show G _ rfl H9 (ab.trans s9),λc4 H9 m9 A9 st=>?_];rw[aa2 (by rw[c4];nofun)]at I;show#[0,l,0,.inl (aW.of (st.1 _ _ (ab _ _ hl) no)),?_];rw[rz];show I _ rfl H9 m9 A9 (b6.pre ab st)
theorem Pz:ax ["self","node"] ["self","node"] (ak RM):=L2.a8
theorem F9(F:bM K "hold" "Files.hold" RM f fd)(U:d7 K CF)(O:M.Ok P w K mg base)(ab:⇑Md 9 CF "refuse_no_file" (qG M CF X)):⇑aM 10 f fd ["self","node"] (JE M CF X):=by
 show F.dX Pz ?_;intros;let#[z,m,tot,N,h,n,rfl,G,hn,kE,kQ]:=h;let hs:=y1;let#[dy,Y]:=G.ob;unfold yW at kE kQ;show#[_,(aw (bh (iZ (pv 0) U.cl ab hr (aa (pv 1) ae)))
  (cf (aq (fO (cV hr) (aE (pv 0) rfl) (pv 1) (aJ bU (Ce (cV hr) (aE (pv 0) rfl) (pv 1) ai #[1,1]) ai) rfl)))),?_]
 show#[0,z.a,dy,0,Y,a9 av av,0,z,m,tot,(0),N,h,n,rfl,G,hn,λe he H1 L=>by rw[he]at kE;show kE e rfl H1 L,λhf H1 L=>?_];rw[hf]at kQ;dsimp only at kQ;let#[nd,ad,_]:=lP hf;let#[n0,n1]:=(O.ok G.A).use _ _ ad;let Z:=G.same O L;let hl:=G.hlen;let g:=eU.k (k:=NC n) Z.hh;rw[cm]at g;let put:=λk:Int=>jJ.k (k:=NC n) (v:=.int k) Z.hh (by rw[iT];omega);let fin:∀h':HT,((λac=>(match look h n with|none=>Except.ok (h++[(n,1)])|some v=>.ok (dG h n (v+1)):Except Er HT)=.ok ac) h')->(h'.map (·.1)).Nodup->(∀x∈h',0<=x.1/\x.1<24)->Q .a7 (upd H1 z.hd (.dK (dk V.int h'))):=λh' e n1 n2=>by
  let o:Off (· = z.hd) H1 (upd H1 z.hd (.dK (dk V.int h'))):=λb u q nb=>(by rw[au nb];show q);show kQ h' e _ (Z.held O o ag n1 n2) (cp.hold (λb u q nb=>o b u (L _ _ q) nb) (by rw[ag];nofun) (b6.sm λ_ _ q=>q))
 show#[0,z.a,CF,dy,_,.ref z.hd,rfl,L _ _ Y,U.cl,U.nH,jn,z.hd,rfl,.inl #[_,.inl Z.hh],0,_,g,?_];cases c:look h n with
 |none =>
  rw[c]at fin;show#[_,0,rfl,0,z.a,CF,dy,_,.ref z.hd,rfl,L _ _ Y,U.cl,U.nH,jn,0,z.hd,0,put (0+1),?_];rw[eW c];show fin _ rfl ?_ ?_
  .rw[K4,Ud];show#[G.nd,TQ.mpr #[λq=>(by cases q),Vr],λx I y Y q=>?_];rw[DO.mp Y]at q;let q':x=n:=q;show lN c (q'▸I)
  .intro x I;rcases SY.mp I with I|I
   .show G.hk x I
   .rw[DO.mp I];show#[n0,n1]
 |some v =>
  rw[c]at fin;show#[_,0,rfl,0,z.a,CF,dy,_,.ref z.hd,rfl,L _ _ Y,U.cl,U.nH,jn,0,z.hd,0,put (v+1),?_];rw[gY c];show fin _ rfl ?_ ?_
  .rw[iR];show G.nd
  .intro x I;rcases mem_set I with q|q
   .rw[q];show#[n0,n1]
   .show G.hk x q.1
theorem PB:ax ["self","node"] ["self","node"] (ak Qv):=L2.a8
theorem BG(F:bM K "loose" "Files.loose" Qv f fd)(T:jO K mg X)(G:d7 K CF)(O:M.Ok P w K mg base)(ar:⇑Md 8 CF "refuse_no_node" (Bp M CF X))(ap:↥Md 8 CF "end_left" (Gg M CF)):⇑aM 9 f fd ["self","node"] (KS M CF X):=by
 show F.dX PB ?_;intros;let#[z,m,tot,N,h,n,rfl,I,hn,Y,Z]:=h;let hs:=y1;let#[dy,hy]:=I.ob;let#[w1,w2]:=I.ne O;unfold lJ at Y Z;show#[_,(aw (bh (iZ (pv 0) G.cl ar hr (aa (pv 1) ae)))
  (aw (bH (sf (kP (cV hr) (pv 1) (aE (pv 0) rfl))) (aS (bE rfl (T.xm .notHeld) (T.xe .notHeld) rfl rfl (aa (fU (cw (pq (pv 1)) (cw aF ig))) ae))) bo)
  (cf (aj (Gz (cV hr) (aE (pv 0) rfl) (pv 1) ai Dn (by intros;rfl))
  (aj (bP (aA bD (gu (cV hr) (aE (pv 0) rfl) (pv 1) bZ) ai (aI _)) (aq (aR (jW (aE (pv 0) rfl) (pv 1) #[1,1]))) bj)
  (aj (aR (pm (pv 0) G.cl ap hr ay (aa (pv 1) ae)))
  (aq (aR (wB (aE (pv 0) rfl) O.cl O.fin hr ay))))))))),?_]
 show#[0,z.a,dy,0,hy,a9 av av,0,z,m,tot,(0),N,h,n,rfl,I,hn,λc H1 L=>by rw[c]at Y;show Y _ rfl H1 L,λnd ab H1 L=>?_];rw[ab]at Y Z;dsimp only at Y Z;let#[n0,n1]:=(O.ok I.A).use _ _ ab;let A1:=I.same O L;let hl:=I.hlen;let lg:=vm hn;let li:=iu lg;let f1:(Str.empty++toString n:Str).length<=sizeLine:=(by rw[len_app,fe];omega);let ad:(Str.empty++toString n++(" is not held" : Str):Str).length<=sizeLine:=(by rw[len_app,len_app,fe,show(" is not held" : Str).length=12 by decide +kernel];omega);let g:=eU.k (k:=NC n) A1.hh;rw[cm]at g;show#[0,0,z.a,CF,dy,_,.ref z.hd,rfl,L _ _ hy,G.cl,G.nH,jn,z.hd,0,g,0,?_];cases c:look h n with
 |none =>
  rw[c]at Y;show dt #[0,n,rfl,lg,0,f1,0,ad,ad,(by change 1<=sizeLine;omega),Y _ rfl H1 L]
 |some v =>
  rw[c]at Z g;dsimp only at Z;show ck ?_;show#[0,z.a,CF,dy,_,.ref z.hd,rfl,L _ _ hy,G.cl,G.nH,jn,0,z.hd,0,g,v,(1),1,_,jJ.k (k:=NC n) (v:=.int (v-1)) A1.hh (by rw[iT];omega),?_];rw[gY c];let o2:Off (· = z.hd) H1 (upd H1 z.hd (.dK (dk V.int (dG h n (v-1))))):=λb u q nb=>(by rw[au nb];show q);let U:=A1.held O o2 ag (by rw[iR];show I.nd) (λx hx=>by
   rcases mem_set hx with q|q
   .rw[q];show#[n0,n1]
   .show I.hk x q.1)
  let ac:Off (· = z.hd) H (upd H1 z.hd (.dK (dk V.int (dG h n (v-1))))):=λb u q nb=>o2 b u (L _ _ q) nb;let am:=o2 _ _ (L _ _ hy) w1;let lv:look (dG h n (v-1)) n=some (v-1):=(by rw[iI n c,aa3 rfl]);generalize upd H1 z.hd (.dK (dk V.int (dG h n (v-1))))=H2 at *;let g2:=eU.k (k:=NC n) U.hh;rw[cm,lv]at g2;dsimp only;show share (λσ J=>kZ (σ=#v[.ref z.a,.int n]) (dh M CF J z m tot N (Lw h n v) 0) (Off (· = z.hd) H J)) (λu' jt=>?_) ?_
  .show#[0,z.a,CF,dy,_,.ref z.hd,rfl,am,G.cl,G.nH,jn,0,z.hd,0,g2,rfl,0,?_];show c9 (λd=>?_) (λd=>?_)
   .let d1:v-1=0:=V.int.inj (of_decide_eq_true d);show#[0,z.a,CF,dy,_,.ref z.hd,rfl,am,G.cl,G.nH,jn,z.hd,rfl,.inl #[_,.inl U.hh],0,_,NC n,.int (v-1),U.hh,rfl,by rw[cm,lv];rfl,jt _ _ #[3,?_]]
    .rw[jP];let o3:Off (· = z.hd) H2 (upd H2 z.hd (.dK (dk V.int (gT (dG h n (v-1)) n)))):=λb u q nb=>(by rw[au nb];show q);have:=U.held O o3 ag (by rw[tR];show U.nd.filter _) (λx hx=>U.hk x (yC hx).1);unfold Lw;rw[aa3 d1];show this
    .show λb u q nb=>by rw[au nb];show ac b u q nb
   .let d1:¬ v-1=0:=λq=>d (decide_eq_true (by rw[q]));show jt _ _ #[3,ac];unfold Lw;rw[aa2 d1];show U
  .rintro σ J ⟨rfl,A3,o3⟩;let#[dz,hz]:=A3.ob;let al:J z.hd≠none:=(by rw[A3.hh];nofun);show#[0,z.a,dz,0,hz,a9 av av,0,z,m,tot,(0),N,_,n,nd,rfl,A3,ab,λH4 m4 A4 as=>?_];let#[dz,hz]:=A4.ob;let#[dx,fs',ho,ht,hm]:=O.ob A4.A;show#[0,z.a,CF,dz,_,.ref z.na,rfl,hz,G.cl,G.nN,bT kf,z.na,dx,0,ho,hm _ av,z.na,m4,tot,_,0,A4.A,af,λH5 m5 A5 ao=>Z _ _ rfl H5 m5 (A4.step O A5 ao) (cp.hold o3 al (b6.tr as ao))]
theorem yw{old cs:qAa}{j:Nat}:∀{m:Nat},(∀k,k<m->¬ k=j->k<nb old.length/\ch old k=ch cs k)->pU old cs m<=(if j<m then 1 else 0)
 |0,_=>by rw[aa2 (aaC j)];show G0 _
 |m+1,h=>by
  let F:=yw (m:=m) λk hk=>h k af;rw[ud];cases c:m=j
  .rw[aa2 (show ¬ j<m by omega)]at F;rw[aa3 (show j<m+1 by omega)];split<;>omega
  .have:=h m af c;rw[aa2 (show ¬ Kh old cs m=true from λz=>of_decide_eq_true z this)];cases d:j<m
   .rw[aa3 d]at F;rw[aa3 af];omega
   .rw[aa2 d]at F;rw[aa2 af];omega
theorem qM:∀{ss:List Slot}(i:Nat),(∀s∈ss,∀p,s=some p->okN p.1)->(bp ss).drop (8*i)=bp (ss.drop i)
 | [],i,_=>by rw[aaW];show aaW
 |s::ss,0,_=>rfl
 |s::ss,i+1,h=>by
  let G:=qM (ss:=ss) i λt F=>h t (S0 _ F);change(gI s++bp ss).drop (8*(i+1))=bp (ss.drop i);let l:=gQ (h s Tf);rw[Y8,l,Uk af,WJ,show 8*(i+1)-8=8*i by omega,G]
theorem vC:∀{ss:List Slot}(i:Nat),(∀s∈ss,∀p,s=some p->okN p.1)->(bp ss).take (8*i)=bp (ss.take i)
 | [],i,_=>by rw[Y7];show Y7
 |s::ss,0,_=>rfl
 |s::ss,i+1,h=>by
  let G:=vC (ss:=ss) i λt F=>h t (S0 _ F);change(gI s++bp ss).take (8*(i+1))=gI s++bp (ss.take i);let l:=gQ (h s Tf);rw[Vk,l,OR af,show 8*(i+1)-8=8*i by omega,G]
theorem ye(k:Nat)(h:∀s∈ss,∀p,s=some p->okN p.1):ch (bp ss) k=fill (bp ((ss.drop (2*k)).take 2)) 16:=by
 unfold ch;rw[show 16*k=8*(2*k)by omega,qM _ h,show 16=8*2 by rfl,vC _ λs hs=>h s (UL hs)]
theorem qH{ts:List Slot}{j:Nat}(h1:∀s∈ss,∀p,s=some p->okN p.1)(h2:∀s∈ts,∀p,s=some p->okN p.1)(G:ss.length=ts.length\/(j=ss.length/\ts.length=ss.length+1))(h:∀i:Nat,¬ i=j->ts[i]?=ss[i]?):pU (bp ss) (bp ts) (nb (bp ts).length)<=1:=by
 have:=yw (old:=bp ss) (cs:=bp ts) (j:=j/2) (m:=nb (bp ts).length) λk hk F=>by
  rw[cO h2]at hk;show#[4]
  .rw[cO h1];unfold nb at *;omega
  .rw[ye k h1,ye k h2];congr 1;congr 1;show Ww λi=>?_;rw[UC,UC];cases c:i<2
   .rw[aa3 c,aa3 c,UP,UP,h _ af]
   .rw[aa2 c,aa2 c]
 show Td this ?_;split<;>omega
theorem Ir{i:Nat}(h:¬ i=iD ss):(c7 ss nm k)[i]?=ss[i]?:=by
 let fl:iD ss<=ss.length:=WA;unfold c7;cases c:i<iD ss
 .rw[Te,SW (by rw[HC];omega),UC,aa3 c]
 .rw[SQ (by rw[wh,HC,Tj];omega),wh,HC,Tj,UP];congr 1;omega
theorem E8(h:∀s∈ss,∀p,s=some p->okN p.1)(F:okN nm):pU (bp ss) (bp (c7 ss nm k)) (nb (bp (c7 ss nm k)).length)<=1:=by
 show qH (j:=iD ss) h (cU h F) ?_ λi hi=>Ir hi;let fl:iD ss<=ss.length:=WA;unfold c7;rw[wh,wh,HC,Tu,Tj];cases c:iD ss<ss.length
 .left;omega
 .right;omega
theorem Lj(h:nm∉eE ss):eG ss nm=ss:=by
 induction ss with
 |nil=>rfl
 |cons s ss F =>
  rw[dE]at h;rw[iW,F λz=>h (L3 _ z)];congr 1;show aa2 λz=>h (Ug _ ?_);cases s with
  |none=>cases z
  |some p=>rw[<-of_decide_eq_true z];show DO.mpr rfl
theorem FR(h:(eE ss).Nodup):∃j:Nat,∀i:Nat,¬ i=j->(eG ss nm)[i]?=ss[i]?:=by
 induction ss with
 |nil=>show#[(0),λ_ _=>rfl]
 |cons s ss G =>
  rw[dE]at h;let#[h1,h2,I]:=Ud.mp h;rw[iW];cases c:wG nm s=true
  .show#[(0),λi hi=>?_];rw[Lj λz=>?_]
   .cases i with
    |zero=>show absurd rfl hi
    |succ i=>rfl
   .cases s with
    |none=>cases c
    |some p=>show I p.1 (DO.mpr rfl) nm z (of_decide_eq_true c)
  .let#[j,F]:=G h2;show#[j+1,λi hi=>?_];cases i with
   |zero=>rw[aa2 c];rfl
   |succ i=>show F i af
theorem EG(h:∀s∈ss,∀p,s=some p->okN p.1)(nd:(eE ss).Nodup):pU (bp ss) (bp (eG ss nm)) (nb (bp (eG ss nm)).length)<=1:=by
 let#[j,F]:=FR (nm:=nm) nd;show qH h (Iy h) (.inl (fM ss nm).symm) F
noncomputable def cG(w:qAa):Int:=lst w.dropLast
structure Sz(N:NS)(S:SS)(ns:qAb)(w:qAa):Prop where
 AA:js (w.map V.int) (-1)=some (.int (lst w))
 at2:js (w.map V.int) (-2)=some (.int (cG w))
 dir:dq N (cG w)=true
 kL:kL (S (cG w)) (bJ ns)=some (lst w)
theorem Fz.two{w:qAa}(Z:Fz N S)(h:eR N S ns=.ok w)(ne:ns≠[]):Sz N S ns w:=by
 obtain⟨b,nm,rfl⟩:∃b k,ns=b++[k]:=#[2,(TB ne).symm];rw[pH]at h;cases e:eR N S b with
 |error r=>rwa[e]at h
 |ok v =>
  rw[e]at h;let W:=Z.way e;unfold j7 at h;dsimp only at h;cases c:dq N (lst v)=true
  .rw[aa3 c]at h;cases q:kL (S (lst v)) nm with
   |none=>rwa[q]at h
   |some k =>
    rwa[q]at h;let ep:cG (v++[k])=lst v:=(by unfold cG;rw[Xd]);obtain⟨x,a,F⟩:∃b k,v=b++[k]:=#[2,(TB W.ne).symm];show#[d8 (by simp),?_,by rw[ep];show c,by rw[ep,ox,lst_snoc];show q];rw[ep,F,lst_snoc];show FP x a k
  .rw[aa2 c]at h;cases h
noncomputable def Bo(N:NS)(n k:Int):NS:=cA N n ((N n).map λnd=>{ nd with ln:=nd.ln+k })
theorem nk(h:N n=some nd):Bo N n k=cA N n (some { nd with ln:=nd.ln+k }):=by unfold Bo;rw[h];rfl
noncomputable def qp(tot:Nat)(N:NS)(S:SS)(p q:Str):Except Er (NS×SS):=match mx p with
 |.error e=>.error e
 |.ok ns=>match mx q with
  |.error e=>.error e
  |.ok F=>match eR N S ns with
   |.error e=>.error e
   |.ok w=>if dq N (lst w)=true then .error .isDir else match kY N S F with
    |.error e=>.error e
    |.ok v=>if 40<=(eE (S (lst v))).length then .error .tooMany else if fI tot N (Fb N (lst v)) (8*(c7 (S (lst v)) (bJ F) (lst w)).length)=true then .error .noSpace else .ok (Bo (putN N (lst v) (bp (c7 (S (lst v)) (bJ F) (lst w)))) (lst w) 1,qw S (lst v) (c7 (S (lst v)) (bJ F) (lst w)))
inductive JP(M:b6)(CF:Addr)(X:Er->Addr)(v:qAh)(H:Hp)(Q:VK)(e3:XK):Prop
 |mk(z:FA)(m:M.St)(tot:Nat)(N:NS)(S:SS)(h:HT)(p q:Str)(_:v=[.ref z.a,.str p,.str q])(_:dh M CF H z m tot N h 0)(_:Fz N S)(_:bG p)(_:bG q)(_:∀e,qp tot N S p q=.error e->∀H',aH H H'->e3 (.ref (X e)) none H')(_:∀N' S',qp tot N S p q=.ok (N',S')->∀(H':Hp)(m':M.St),dh M CF H' z m' tot N' h 0->M.Step m H m' H'->Q .a7 H')
noncomputable def jh(N:NS)(S:SS)(h:HT)(p:Str):Except Er (NS×SS):=match mx p with
 |.error e=>.error e
 |.ok ns=>match eR N S ns with
  |.error e=>.error e
  |.ok w=>if dq N (lst w)=true then .error .isDir else .ok ((if lk N (lst w)=1/\look h (lst w)=none then cA (Bo (putN N (cG w) (bp (eG (S (cG w)) (bJ ns)))) (lst w) (-1)) (lst w) none else Bo (putN N (cG w) (bp (eG (S (cG w)) (bJ ns)))) (lst w) (-1)),qw S (cG w) (eG (S (cG w)) (bJ ns)))
inductive JK(M:b6)(CF:Addr)(X:Er->Addr)(v:qAh)(H:Hp)(Q:VK)(e3:XK):Prop
 |mk(z:FA)(m:M.St)(tot:Nat)(N:NS)(S:SS)(h:HT)(p:Str)(_:v=[.ref z.a,.str p])(_:dh M CF H z m tot N h 0)(_:Fz N S)(_:bG p)(_:∀e,jh N S h p=.error e->∀H',aH H H'->e3 (.ref (X e)) none H')(_:∀N' S',jh N S h p=.ok (N',S')->∀(H':Hp)(m':M.St),dh M CF H' z m' tot N' h 0->M.Step m H m' H'->Q .a7 H')
abbrev Qn:Tg:=inClass (top 66) 4
abbrev OL:Tg:=inClass (top 66) 5
theorem zT:ax ["self","path","new","names","new_names","node","parent","slots"] ["self","path","new"] (ak Qn):=L2.a8
theorem E7(F:bM K "link" "Files.link" Qn f fd)(L:d7 K CF)(O:M.Ok P w K mg base)(aB:⇑Df 2 "names_of" (vy X))(bi:⇑Df 9 "way_along" (uY M X))(bc:⇑Md 8 CF "refuse_dir" (vq M CF X))(bd:⇑Df 10 "way_to_new" (DM M X))(bb:↥Df 8 "slots_of" (pf M))(be:⇑Df 2 "refuse_full" (Ec X))(bl:⇑Md 10 CF "put_name" (Ci M CF X)):⇑aM 11 f fd ["self","path","new"] (JP M CF X):=by
 show F.dX zT ?_;intros;let#[z,m,tot,N,S,h,p,q,rfl,A0,Z,hp,hq,G,I]:=h;let#[dy,hy]:=A0.ob;unfold qp at G I;show#[_,(aw (tG 3 zT.nd (kc aB hr (aa (pv 1) ae)))
  (aw (tG 4 zT.nd (kc aB hr (aa (pv 2) ae)))
  (aw (tG 5 zT.nd (rT aQ (kc bi hr (aa (aE (pv 0) rfl) (aa (pv 3) ae))) (dm cu ai) bZ))
  (aw (bh (iZ (pv 0) L.cl bc hr (aa (pv 5) ae)))
  (aw (tG 6 zT.nd (rT aQ (kc bd hr (aa (aE (pv 0) rfl) (aa (pv 4) ae))) (dm cu ai) bZ))
  (aw (cT (cL 7 zT.nd (pc bb hr ay (aa (aE (pv 0) rfl) (aa (pv 6) ae)))))
  (aw (bh (kc be hr (aa (pv 7) ae)))
  (aw (bh (iZ (pv 0) L.cl bl hr (aa (pv 6) (aa (pv 7) (aa (aL aQ (pv 4) (dm cu ai) bZ) (aa (pv 5) ae))))))
  (cf (aj (aR (pm (aE (pv 0) rfl) O.cl O.putL hr ay (aa (pv 5) (aa (aJ bU (pm (aE (pv 0) rfl) O.cl O.links hr ay (aa (pv 5) ae)) ai) ae))))
  (aq (aR (wB (aE (pv 0) rfl) O.cl O.fin hr ay))))))))))))),?_]
 show#[0,p,rfl,hp,λe Y H1 s1=>by rw[Y]at G;show G e rfl H1 s1,λns aK H1 l1 s1 f1 e1=>?_];rw[aK]at G I;dsimp only at G I;let#[b1,b2]:=gc hp aK;show#[0,q,rfl,hq,λe Y H2 s2=>by rw[Y]at G;show G e rfl H2 (s1.trans s2),λU as H2 l2 s2 f2 e2=>?_];rw[as]at G I;dsimp only at G I;let#[c1,c2]:=gc hq as;let am:=s1.trans s2;show#[0,z.a,CF,dy,_,.ref z.na,rfl,am _ _ hy,L.cl,L.nN,bT kf,0,z.na,m,tot,(0),N,S,l1,ns,rfl,(A0.same O am).A,Z,s2 _ _ e1,b1,λx hx=>(b2 x hx).len,λe Y H3 s3=>by rw[Y]at G;show G e rfl H3 (am.trans s3),λv hv H3 q3 s3 f3 e3=>?_];rw[hv]at G I;dsimp only at G I;let W:=Z.way hv;let#[nw,a3]:=W.last;let bn:=Z.pV _ _ a3;let ao:=am.trans s3;show#[(1),rfl,q3,_, -1,.int (lst v),1,aW.of e3,d8 W.ne,?_];show#[0,z.a,dy,0,ao _ _ hy,a9 av av,0,z,m,tot,(0),N,h,lst v,rfl,A0.same O ao,af,λc H4 s4=>by rw[aa3 c]at G;show G _ rfl H4 (ao.trans s4),λc H4 s4=>?_];rw[aa2 (by rw[c];nofun)]at G I;let ac:=ao.trans s4;show#[0,z.a,CF,dy,_,.ref z.na,rfl,ac _ _ hy,L.cl,L.nN,bT kf,0,z.na,m,tot,(0),N,S,l2,U,rfl,(A0.same O ac).A,Z,(s3.trans s4) _ _ e2,c1,λx hx=>(c2 x hx).len,λe Y H5 s5=>by rw[Y]at G;show G e rfl H5 (ac.trans s5),λu hu H5 q5 s5 f5 e5=>?_];rw[hu]at G I;dsimp only at G I;let#[W2,hd,bm,ba]:=kK Z hu;let#[nd,ab,a4]:=b7 hd;let#[a2,a5]:=fL ba;let ap:=ac.trans s5;show#[(1),rfl,q5,_, -1,.int (lst u),1,aW.of e5,d8 W2.ne,?_];show#[0,z.a,CF,dy,_,.ref z.na,rfl,ap _ _ hy,L.cl,L.nN,bT kf,0,z.na,m,tot,(0),N,lst u,nd,S (lst u),rfl,(A0.same O ap).A,ab,Z.enc _ _ ab a4,Z.len _,Z.ok _,λH6 q6 ws s6 f6 e6 S6=>?_];let aT:=ap.trans s6;show#[0,q6,ws,S (lst u),rfl,e6,S6,Z.len _,Z.nd _,λd1 H7 s7=>by rw[aa3 d1]at G;show G _ rfl H7 (aT.trans s7),λd1 H7 s7=>?_];rw[aa2 af]at G I;let ad:=aT.trans s7;let A7:=A0.same O ad;rw[lW ab]at G I;rw[cM ab]at I;let un:¬ lst v=lst u:=λw=>(by rwa[w,hd]at c);show#[0,z.a,dy,0,ad _ _ hy,a9 av av,0,0,0,(1),rfl,l2,_, -1,.str (bJ U),1,aW.of ((s3.trans (s4.trans (s5.trans (s6.trans s7)))) _ _ e2),a5,0,z,m,tot,(0),N,h,lst u,nd,q6,ws,S (lst u),bJ U,lst v,rfl,A7,ab,s7 _ _ e6,S6.same s7,Z.len _,d1,Z.ok _,c2 _ a2,λd2 H8 s8=>by rw[aa3 d2]at G;show G _ rfl H8 (ad.trans s8),λd2 H8 m8 A8 a6=>?_];rw[aa2 (by rw[d2];nofun)]at I;let#[dz,hz]:=A8.ob;let#[dx,fs',ho,ht,hm]:=O.ob A8.A;let ar:cA N (lst u) (some { nd with cs:=bp (c7 (S (lst u)) (bJ U) (lst v)) }) (lst v)=some nw:=(by rw[iK un];show a3);rw[nk ar]at I;show#[0,z.a,CF,dz,_,.ref z.na,rfl,hz,L.cl,L.nN,bT kf,z.na,dx,0,ho,hm _ av,0,0,z.a,CF,dz,_,.ref z.na,rfl,hz,L.cl,L.nN,bT kf,z.na,dx,0,ho,hm _ av,0,z.na,m8,tot,2,lst v,nw,rfl,A8.A,ar,λH9 s9=>?_];let A9:=A8.same O s9;show#[_,0,rfl,z.na,m8,tot,2,lst v,nw.ln+1,nw,rfl,A9.A,ar,λHa ma Aa a0=>?_];let Ab:=A9.step O Aa a0;let#[dz,hz]:=Ab.ob;let#[dx,fs',ho,ht,hm]:=O.ob Aa;let g1:=lY nd.cs (bp (c7 (S (lst u)) (bJ U) (lst v))) (nb (bp (c7 (S (lst u)) (bJ U) (lst v))).length);let g2:nb (bp (c7 (S (lst u)) (bJ U) (lst v))).length<=20:=qu (by
  have:=i9 (nm:=bJ U) (k:=lst v) d1 (Z.len (lst u));rw[cO (cU (Z.ok _) (c2 _ a2))];omega)
 show#[0,z.a,CF,dz,_,.ref z.na,rfl,hz,L.cl,L.nN,bT kf,z.na,dx,0,ho,hm _ av,z.na,ma,tot,_,0,Aa,af,λHc mc Ac a1=>I _ _ rfl Hc mc (Ab.step O Ac a1) (b6.pre ad (b6.tr a6 (b6.pre s9 (b6.tr a0 a1))))]
theorem FD:ax ["self","path","names","way","node"] ["self","path"] (ak OL):=L2.a8
theorem zF(F:bM K "unlink" "Files.unlink" OL f fd)(I:d7 K CF)(O:M.Ok P w K mg base)(a2:⇑Df 2 "names_of" (vy X))(a5:⇑Df 9 "way_along" (uY M X))(a4:⇑Md 8 CF "refuse_dir" (vq M CF X))(a0:↥Md 9 CF "drop_name" (EI M CF))(aK:↥Md 8 CF "end_left" (Gg M CF)):⇑aM 10 f fd ["self","path"] (JK M CF X):=by
 show F.dX FD ?_;intros;let#[z,m,tot,N,S,h,p,rfl,A0,Z,hp,G,L]:=h;let#[dy,hy]:=A0.ob;unfold jh at G L;show#[_,(aw (tG 2 FD.nd (kc a2 hr (aa (pv 1) ae)))
  (aw (tG 3 FD.nd (kc a5 hr (aa (aE (pv 0) rfl) (aa (pv 2) ae))))
  (aw (cT (cL 4 FD.nd (aL aQ (pv 3) (dm cu ai) bZ)))
  (aw (bh (iZ (pv 0) I.cl a4 hr (aa (pv 4) ae)))
  (cf (aj (aR (pm (pv 0) I.cl a0 hr ay (aa (aL aQ (pv 3) (dm cu ai) bZ) (aa (aL aQ (pv 2) (dm cu ai) bZ) ae))))
  (aj (aR (pm (aE (pv 0) rfl) O.cl O.putL hr ay (aa (pv 4) (aa (aJ dQ (pm (aE (pv 0) rfl) O.cl O.links hr ay (aa (pv 4) ae)) ai) ae))))
  (aj (aR (pm (pv 0) I.cl aK hr ay (aa (pv 4) ae)))
  (aq (aR (wB (aE (pv 0) rfl) O.cl O.fin hr ay))))))))))),?_]
 show#[0,p,rfl,hp,λe he H1 Y=>by rw[he]at G;show G e rfl H1 Y,λns as H1 l1 Y f1 e1=>?_];rw[as]at G L;dsimp only at G L;let#[b1,b2]:=gc hp as;show#[0,z.a,CF,dy,_,.ref z.na,rfl,Y _ _ hy,I.cl,I.nN,bT kf,0,z.na,m,tot,(0),N,S,l1,ns,rfl,(A0.same O Y).A,Z,e1,b1,λx hx=>(b2 x hx).len,λe he H3 s3=>by rw[he]at G;show G e rfl H3 (Y.trans s3),λv hv H3 q3 s3 f3 e3=>?_];rw[hv]at G L;dsimp only at G L;let W:=Z.way hv;let#[nw,ao]:=W.last;let ba:=Z.pV _ _ ao;let ab:=Y.trans s3;show#[0,(1),rfl,q3,_, -1,.int (lst v),1,aW.of e3,d8 W.ne,?_];show#[0,z.a,dy,0,ab _ _ hy,a9 av av,0,z,m,tot,(0),N,h,lst v,rfl,A0.same O ab,af,λc H4 s4=>by rw[aa3 c]at G;show G _ rfl H4 (ab.trans s4),λc H4 s4=>?_];rw[aa2 (by rw[c];nofun)]at L;let ar:ns≠[]:=λw=>by
  rwa[w]at hv;have:=Z.root;rwa[show lst [0]=0 from rfl,this]at c
 let T2:=Z.two hv ar;let#[bb,a1]:=fL ar;let#[nd,ad,aT]:=b7 T2.dir;let ac:=ab.trans s4;let A4:=A0.same O ac;let un:¬ lst v=cG v:=λw=>(by rwa[w,T2.dir]at c);rw[cM ad]at L;let am:cA N (cG v) (some { nd with cs:=bp (eG (S (cG v)) (bJ ns)) }) (lst v)=some nw:=(by rw[iK un];show ao);rw[nk am,jY ao]at L;show#[0,z.a,dy,0,ac _ _ hy,a9 av av,0,(2),rfl,q3,_, -2,.int (cG v),1,aW.of (s4 _ _ e3),T2.at2,0,(1),rfl,l1,_, -1,.str (bJ ns),1,aW.of ((s3.trans s4) _ _ e1),a1,z,m,tot,(0),N,h,cG v,nd,S (cG v),bJ ns,rfl,A4,ad,Z.enc _ _ ad aT,Z.len _,Z.ok _,λH8 m8 A8 a3=>?_];let#[dz,U]:=A8.ob;let#[dx,fs',ho,ht,hm]:=O.ob A8.A;show#[0,z.a,CF,dz,_,.ref z.na,rfl,U,I.cl,I.nN,bT kf,z.na,dx,0,ho,hm _ av,0,0,z.a,CF,dz,_,.ref z.na,rfl,U,I.cl,I.nN,bT kf,z.na,dx,0,ho,hm _ av,0,z.na,m8,tot,2,lst v,nw,rfl,A8.A,am,λH9 s9=>?_];let A9:=A8.same O s9;show#[_,0,rfl,z.na,m8,tot,2,lst v,nw.ln-1,nw,rfl,A9.A,am,λHa ma Aa ap=>?_];let Ab:=A9.step O Aa ap;let#[dz,U]:=Ab.ob;show#[0,z.a,dz,0,U,a9 av av,0,z,ma,tot,2,h,lst v,0,Ab,K5,λHd md Ad a6=>?_];let#[dz,U]:=Ad.ob;let#[dx,fs',ho,ht,hm]:=O.ob Ad.A;let g1:=lY nd.cs (bp (eG (S (cG v)) (bJ ns))) (nb (bp (eG (S (cG v)) (bJ ns))).length);let g2:nb (bp (eG (S (cG v)) (bJ ns))).length<=20:=qu (by
  have:=Z.len (cG v);rw[cO (Iy (Z.ok _)),fM];omega)
 show#[0,z.a,CF,dz,_,.ref z.na,rfl,U,I.cl,I.nN,bT kf,z.na,dx,0,ho,hm _ av,z.na,md,tot,_,0,Ad.A,af,λHc mc Ac aB=>L _ (qw S (cG v) (eG (S (cG v)) (bJ ns))) ?_ Hc mc (Ad.step O Ac aB) (b6.pre ac (b6.tr a3 (b6.pre s9 (b6.tr ap (b6.tr a6 aB)))))];let e0:(nw.ln-1=0)=(nw.ln=1):=propext #[λw=>by omega,λw=>by omega];simp only[e0];rfl
end Fs
namespace L2
theorem EX{t u:pX}{R:XR}{D:Ends}{σ:St}{H:Hp}(Pr:St->Hp->Prop)(mk:∀F:pX,(∀σ H,Pr σ H->F D R σ H)->qI t F D R σ H)(h:∀σ H,Pr σ H->u D R σ H):qI t u D R σ H:=mk u h
end L2
namespace Fs
open PySem L2 Dk Tb Srt
theorem yu(x:Int):∀l:List Int,Hu (.int x) (l.map V.int)=decide (x∈l)
 | []=>rfl
 |y::l=>by
  change(mC (.int y) (.int x)||Hu (.int x) (l.map V.int))=_;rw[yu x l];cases c:y=x
  .rw[show mC (.int y) (.int x)=true from decide_eq_true c];rw[decide_eq_true (Ti.mpr (.inl c.symm))];rfl
  .rw[show mC (.int y) (.int x)=false from decide_eq_false c];cases d:x∈l
   .rw[decide_eq_true d,decide_eq_true (S0 _ d)];rfl
   .rw[decide_eq_false d,decide_eq_false (λz=>(Ti.mp z).elim (λz=>c z.symm) d)];rfl
theorem uM:∀l:List Int,(l.map V.int).all fE=true
 | []=>rfl
 |_::l=>uM l
noncomputable def i8(N:NS)(S:SS)(p:Str):Except Er (NS×SS):=match mx p with
 |.error e=>.error e
 |.ok ns=>match eR N S ns with
  |.error e=>.error e
  |.ok w=>if dq N (lst w)=true then(if lst w=0 then .error .notAllowed else if 0<(eE (S (lst w))).length then .error .notEmpty else .ok (cA (putN N (cG w) (bp (eG (S (cG w)) (bJ ns)))) (lst w) none,qw (qw S (cG w) (eG (S (cG w)) (bJ ns))) (lst w) []))else .error .notDir
inductive Kr(M:b6)(CF:Addr)(X:Er->Addr)(v:qAh)(H:Hp)(Q:VK)(e3:XK):Prop
 |mk(z:FA)(m:M.St)(tot:Nat)(N:NS)(S:SS)(h:HT)(p:Str)(_:v=[.ref z.a,.str p])(_:dh M CF H z m tot N h 0)(_:Fz N S)(_:bG p)(_:∀e,i8 N S p=.error e->∀H',aH H H'->e3 (.ref (X e)) none H')(_:∀N' S',i8 N S p=.ok (N',S')->∀(H':Hp)(m':M.St),dh M CF H' z m' tot N' h 0->M.Step m H m' H'->Q .a7 H')
abbrev Pg:Tg:=inClass (top 66) 6
abbrev QD:Tg:=inClass (top 66) 7
theorem Fm:ax ["self","path","names","way","node"] ["self","path"] (ak Pg):=L2.a8
variable{X:Er->Addr}{CF:Addr}{M:b6}
theorem sV(F:bM K "remove_dir" "Files.remove_dir" Pg f fd)(T:jO K mg X)(I:d7 K CF)(O:M.Ok P w K mg base)(a5:⇑Df 2 "names_of" (vy X))(bc:⇑Df 9 "way_along" (uY M X))(a0:⇑Df 8 "refuse_no_dir" (zh M X))(bd:↥Df 1 "names_in" Ao)(ba:↥Df 8 "slots_of" (pf M))(a2:↥Md 9 CF "drop_name" (EI M CF)):⇑aM 10 f fd ["self","path"] (Kr M CF X):=by
 show F.dX Fm ?_;intros;let#[z,m,tot,N,S,h,p,rfl,Y,Z,hp,G,L]:=h;let#[dy,hy]:=Y.ob;unfold i8 at G L;show#[_,(aw (tG 2 Fm.nd (kc a5 hr (aa (pv 1) ae)))
  (aw (tG 3 Fm.nd (kc bc hr (aa (aE (pv 0) rfl) (aa (pv 2) ae))))
  (aw (cT (cL 4 Fm.nd (aL aQ (pv 3) (dm cu ai) bZ)))
  (aw (bh (kc a0 hr (aa (aE (pv 0) rfl) (aa (pv 4) ae))))
  (aw (bH (aA bD (pv 4) (de T.sj) (aI _)) (aS (bE rfl (T.xm .notAllowed) (T.xe .notAllowed) rfl rfl (aa aF ae))) bo)
  (aw (bH (aA jV (aC aO (by rfl) T.len T7 (aa (pc bd hr ay (aa (pc ba hr ay (aa (aE (pv 0) rfl) (aa (pv 4) ae))) ae)) ae)) ai (aI _)) (aS (bE rfl (T.xm .notEmpty) (T.xe .notEmpty) rfl rfl (aa aF ae))) bo)
  (cf (aj (aR (pm (pv 0) I.cl a2 hr ay (aa (aL aQ (pv 3) (dm cu ai) bZ) (aa (aL aQ (pv 2) (dm cu ai) bZ) ae))))
  (aj (aR (pm (aE (pv 0) rfl) O.cl O.end_ hr ay (aa (pv 4) ae)))
  (aq (aR (wB (aE (pv 0) rfl) O.cl O.fin hr ay)))))))))))),?_]
 show#[0,p,rfl,hp,λe he H1 U=>by rw[he]at G;show G e rfl H1 U,λns aK H1 l1 U f1 e1=>?_];rw[aK]at G L;dsimp only at G L;let#[b1,b2]:=gc hp aK;show#[0,z.a,CF,dy,_,.ref z.na,rfl,U _ _ hy,I.cl,I.nN,bT kf,0,z.na,m,tot,(0),N,S,l1,ns,rfl,(Y.same O U).A,Z,e1,b1,λx hx=>(b2 x hx).len,λe he H3 s3=>by rw[he]at G;show G e rfl H3 (U.trans s3),λv hv H3 q3 s3 f3 e3=>?_];rw[hv]at G L;dsimp only at G L;let W:=Z.way hv;let#[nw,ab]:=W.last;let bi:=Z.pV _ _ ab;let am:=U.trans s3;show#[0,(1),rfl,q3,_, -1,.int (lst v),1,aW.of e3,d8 W.ne,?_];show#[0,z.a,CF,dy,_,.ref z.na,rfl,am _ _ hy,I.cl,I.nN,bT kf,0,z.na,m,tot,(0),N,lst v,rfl,(Y.same O am).A,af,λc H4 s4=>by rw[aa2 (by rw[c];nofun)]at G;show G _ rfl H4 (am.trans s4),λc H4 s4=>?_];rw[aa3 c]at G L;let ac:=am.trans s4;show#[0,rfl,0,?_];show c9 (λd=>?_) (λd=>?_)
 .let d0:lst v=0:=V.int.inj (of_decide_eq_true d);rw[aa3 d0]at G;show#[az,G _ rfl H4 ac]
 let d0:¬ lst v=0:=λw=>d (decide_eq_true (by rw[w]));rw[aa2 d0]at G L;let a3:nw.dir=true:=(by rw[<-fG ab];show c);show#[0,z.a,CF,dy,_,.ref z.na,rfl,ac _ _ hy,I.cl,I.nN,bT kf,0,z.na,m,tot,(0),N,lst v,nw,S (lst v),rfl,(Y.same O ac).A,ab,Z.enc _ _ ab a3,Z.len _,Z.ok _,λH5 q5 ws s5 f5 e5 S5=>?_];show#[q5,ws,S (lst v),rfl,e5,S5,Z.len _,Z.nd _,λH6 q6 s6 f6 e6=>?_];let ad:=ac.trans (s5.trans s6);show#[q6,0,.inl (aW.of e6),_,0,rfl,0,?_];rw[rz,ot];show c9 (λd2=>?_) (λd2=>?_)
 .rw[aa3 (by have:=of_decide_eq_true d2;omega)]at G;show#[az,G _ rfl H6 ad]
 let as:¬ 0<(eE (S (lst v))).length:=λw=>d2 (decide_eq_true af);rw[aa2 as]at L;let aB:ns≠[]:=λw=>by
  rwa[w]at hv;show d0 rfl
 let T2:=Z.two hv aB;let#[be,a4]:=fL aB;let#[nd,ao,a1]:=b7 T2.dir;let A6:=Y.same O ad;let un:¬ lst v=cG v:=λw=>by
  let q:=T2.kL;rw[<-w]at q;have:bJ ns∈eE (S (lst v)):=Ve λr=>(by rwa[(yA _ _).mpr r]at q);rwa[Ui.mp (YB as)]at this
 rw[cM ao]at L;let bb:cA N (cG v) (some { nd with cs:=bp (eG (S (cG v)) (bJ ns)) }) (lst v)=some nw:=(by rw[iK un];show ab);let ap:=s4.trans (s5.trans s6);show#[0,z.a,dy,0,ad _ _ hy,a9 av av,0,(2),rfl,q3,_, -2,.int (cG v),1,aW.of (ap _ _ e3),T2.at2,0,(1),rfl,l1,_, -1,.str (bJ ns),1,aW.of ((s3.trans ap) _ _ e1),a4,z,m,tot,(0),N,h,cG v,nd,S (cG v),bJ ns,rfl,A6,ao,Z.enc _ _ ao a1,Z.len _,Z.ok _,λH8 m8 A8 a6=>?_];let#[dz,hz]:=A8.ob;let#[dx,fs',ho,ht,hm]:=O.ob A8.A;show#[0,z.a,CF,dz,_,.ref z.na,rfl,hz,I.cl,I.nN,bT kf,z.na,dx,0,ho,hm _ av,0,z.na,m8,tot,2,lst v,nw,rfl,A8.A,bb,λHa ma Aa ar=>?_];let Ab:=A8.step O Aa ar;let#[dz,hz]:=Ab.ob;let#[dx,fs',ho,ht,hm]:=O.ob Ab.A;let g1:=lY nd.cs (bp (eG (S (cG v)) (bJ ns))) (nb (bp (eG (S (cG v)) (bJ ns))).length);let g2:nb (bp (eG (S (cG v)) (bJ ns))).length<=20:=qu (by
  have:=Z.len (cG v);rw[cO (Iy (Z.ok _)),fM];omega)
 show#[0,z.a,CF,dz,_,.ref z.na,rfl,hz,I.cl,I.nN,bT kf,z.na,dx,0,ho,hm _ av,z.na,ma,tot,_,0,Ab.A,af,λHc mc Ac aT=>L _ _ rfl Hc mc (Ab.step O Ac aT) (b6.pre ad (b6.tr a6 (b6.tr ar aT)))]
noncomputable def iG(S:SS)(v u:qAa)(nm:Str):List Slot:=if lst u=cG v then eG (S (cG v)) nm else S (lst u)
noncomputable def qR(tot:Nat)(N:NS)(S:SS)(p q:Str):Except Er (NS×SS):=match mx p with
 |.error e=>.error e
 |.ok ns=>match mx q with
  |.error e=>.error e
  |.ok F=>if ns=[]then .error .notAllowed else match eR N S ns with
   |.error e=>.error e
   |.ok v=>match kY N S F with
    |.error e=>.error e
    |.ok u=>if lst v∈u then .error .inside else if 40<=(eE (iG S v u (bJ ns))).length then .error .tooMany else
     if fI tot N (Fb N (lst u)) (8*(c7 (iG S v u (bJ ns)) (bJ F) (lst v)).length)=true then .error .noSpace else
     .ok (if lst u=cG v then putN N (lst u) (bp (c7 (iG S v u (bJ ns)) (bJ F) (lst v)))else putN (putN N (lst u) (bp (c7 (iG S v u (bJ ns)) (bJ F) (lst v)))) (cG v) (bp (eG (S (cG v)) (bJ ns))),
      if lst u=cG v then qw S (lst u) (c7 (iG S v u (bJ ns)) (bJ F) (lst v))else qw (qw S (lst u) (c7 (iG S v u (bJ ns)) (bJ F) (lst v))) (cG v) (eG (S (cG v)) (bJ ns)))
inductive JY(M:b6)(CF:Addr)(X:Er->Addr)(v:qAh)(H:Hp)(Q:VK)(e3:XK):Prop
 |mk(z:FA)(m:M.St)(tot:Nat)(N:NS)(S:SS)(h:HT)(p q:Str)(_:v=[.ref z.a,.str p,.str q])(_:dh M CF H z m tot N h 0)(_:Fz N S)(_:bG p)(_:bG q)(_:∀e,qR tot N S p q=.error e->∀H',aH H H'->e3 (.ref (X e)) none H')(_:∀N' S',qR tot N S p q=.ok (N',S')->∀(H':Hp)(m':M.St),dh M CF H' z m' tot N' h 0->M.Step m H m' H'->Q .a7 H')
theorem qg:ax ["self","path","new","names","new_names","old_way","node","new_way","old","parent","old_slots","slots"] ["self","path","new"] (ak QD):=L2.a8
theorem E5(F:bM K "move" "Files.move" QD f fd)(T:jO K mg X)(U:d7 K CF)(O:M.Ok P w K mg base)(a4:⇑Df 2 "names_of" (vy X))(bR:⇑Df 9 "way_along" (uY M X))(bC:⇑Df 10 "way_to_new" (DM M X))(a5:↥Df 8 "slots_of" (pf M))(bB:↥Df 1 "slots_without" Fj)(bN:⇑Df 2 "refuse_full" (Ec X))(bW:⇑Md 10 CF "put_name" (Ci M CF X))(bm:↥Df 8 "put_slots" (um M)):⇑aM 11 f fd ["self","path","new"] (JY M CF X):=by
 show F.dX qg ?_;intros;let#[z,m,tot,N,S,h,p,q,rfl,A0,Z,hp,hq,G,L]:=h;let hs:=y1;let#[dy,hy]:=A0.ob;unfold qR at G L;show#[_,(aw (tG 3 qg.nd (kc a4 hr (aa (pv 1) ae)))
  (aw (tG 4 qg.nd (kc a4 hr (aa (pv 2) ae)))
  (aw (bH (aA bD (aC aO (by rfl) T.len T7 (aa (pv 3) ae)) ai (aI _)) (aS (bE rfl (T.xm .notAllowed) (T.xe .notAllowed) rfl rfl (aa aF ae))) bo)
  (aw (tG 5 qg.nd (kc bR hr (aa (aE (pv 0) rfl) (aa (pv 3) ae))))
  (aw (cT (cL 6 qg.nd (aL aQ (pv 5) (dm cu ai) bZ)))
  (aw (tG 7 qg.nd (kc bC hr (aa (aE (pv 0) rfl) (aa (pv 4) ae))))
  (aw (bH (aA qJ (pv 6) (pv 7) (by with_unfolding_all rfl)) (aS (bE rfl (T.xm .inside) (T.xe .inside) rfl rfl (aa aF ae))) bo)
  (aw (cT (cL 8 qg.nd (aL aQ (pv 5) (dm cu ai) bZ)))
  (aw (cT (cL 9 qg.nd (aL aQ (pv 7) (dm cu ai) bZ)))
  (aw (cT (cL 10 qg.nd (pc bB hr ay (aa (pc a5 hr ay (aa (aE (pv 0) rfl) (aa (pv 8) ae))) (aa (aL aQ (pv 3) (dm cu ai) bZ) ae)))))
  (aw (cT (cL 11 qg.nd (gh (aA bD (pv 9) (pv 8) (aI _)) (pv 10) (pc a5 hr ay (aa (aE (pv 0) rfl) (aa (pv 9) ae))))))
  (aw (bh (kc bN hr (aa (pv 11) ae)))
  (aw (bh (iZ (pv 0) U.cl bW hr (aa (pv 9) (aa (pv 11) (aa (aL aQ (pv 4) (dm cu ai) bZ) (aa (pv 6) ae))))))
  (cf (aj (bP (aA pb (pv 9) (pv 8) (aI _)) (aq (aR (pc bm hr ay (aa (aE (pv 0) rfl) (aa (pv 8) (aa (pv 10) ae)))))) bj)
  (aq (aR (wB (aE (pv 0) rfl) O.cl O.fin hr ay)))))))))))))))))),?_]
 show#[0,p,rfl,hp,λe he H1 s1=>by rw[he]at G;show G e rfl H1 s1,λns a6 H1 l1 s1 f1 e1=>?_];rw[a6]at G L;dsimp only at G L;let#[b1,b2]:=gc hp a6;show#[0,q,rfl,hq,λe he H2 s2=>by rw[he]at G;show G e rfl H2 (s1.trans s2),λI a3 H2 l2 s2 f2 e2=>?_];rw[a3]at G L;dsimp only at G L;let#[c1,c2]:=gc hq a3;let ad:=s1.trans s2;show#[0,l1,0,.inl (aW.of (s2 _ _ e1)),rfl,0,?_];rw[rz];show c9 (λc=>?_) (λc=>?_)
 .let e:ns=[]:=Ui.mp (by have:=V.int.inj (of_decide_eq_true c);omega);rw[aa3 e]at G;show#[az,G _ rfl H2 ad]
 let aK:ns≠[]:=λw=>c (by rw[w];show decide_eq_true rfl);rw[aa2 aK]at G L;clear c;show#[0,z.a,CF,dy,_,.ref z.na,rfl,ad _ _ hy,U.cl,U.nN,bT kf,0,z.na,m,tot,(0),N,S,l1,ns,rfl,(A0.same O ad).A,Z,s2 _ _ e1,b1,λx hx=>(b2 x hx).len,λe he H3 s3=>by rw[he]at G;show G e rfl H3 (ad.trans s3),λv hv H3 q3 s3 f3 e3=>?_];rw[hv]at G L;dsimp only at G L;let W:=Z.way hv;let T2:=Z.two hv aK;let#[b0,bx]:=fL aK;let#[no,ao,bb]:=b7 T2.dir;let as:=ad.trans s3;show#[0,(1),rfl,q3,_, -1,.int (lst v),1,aW.of e3,T2.AA,?_];show#[0,z.a,CF,dy,_,.ref z.na,rfl,as _ _ hy,U.cl,U.nN,bT kf,0,z.na,m,tot,(0),N,S,l2,I,rfl,(A0.same O as).A,Z,s3 _ _ e2,c1,λx hx=>(c2 x hx).len,λe he H5 s5=>by rw[he]at G;show G e rfl H5 (as.trans s5),λu hu H5 q5 s5 f5 e5=>?_];rw[hu]at G L;dsimp only at G L;let#[W2,hd,bY,bl]:=kK Z hu;let#[nd,ac,a2]:=b7 hd;let#[a1,bi]:=fL bl;let ar:=as.trans s5;show#[0,0,q5,0,.inl (aW.of e5),rfl,uM _,0,?_];change if Hu (.int (lst v)) (u.map V.int)=true then _ else _
 rw[yu];show c9 (λc=>?_) (λc=>?_)
 .rw[aa3 (of_decide_eq_true c)]at G;show#[az,G _ rfl H5 ar]
 rw[aa2 (λw=>c (decide_eq_true w))]at G L;show#[0,(2),rfl,q3,_, -2,.int (cG v),1,aW.of (s5 _ _ e3),T2.at2,?_];show#[0,(1),rfl,q5,_, -1,.int (lst u),1,aW.of e5,d8 W2.ne,?_];show#[0,z.a,CF,dy,_,.ref z.na,rfl,ar _ _ hy,U.cl,U.nN,bT kf,0,z.na,m,tot,(0),N,cG v,no,S (cG v),rfl,(A0.same O ar).A,ao,Z.enc _ _ ao bb,Z.len _,Z.ok _,λH6 q6 ws s6 f6 e6 S6=>?_];let bc:=ar.trans s6;show#[0,(1),rfl,l1,_, -1,.str (bJ ns),1,aW.of ((s2.trans (s3.trans (s5.trans s6))) _ _ e1),bx,q6,ws,S (cG v),bJ ns,rfl,e6,S6,Td (Z.len _) az,λH7 q7 aB s7 f7 e7 S7=>?_];let aT:=bc.trans s7;let ml:(iG S v u (bJ ns)).length<=40:=by
  unfold iG;split
  .rw[fM];show Z.len _
  .show Z.len _
 let mo:∀s∈iG S v u (bJ ns),∀p,s=some p->okN p.1:=by
  unfold iG;split
  .show Iy (Z.ok _)
  .show Z.ok _
 let mn:(eE (iG S v u (bJ ns))).Nodup:=by
  unfold iG;split
  .rw[sv];show(Z.nd _).filter _
  .show Z.nd _
 let bF:¬ M.own m q7:=λr=>O.live (A0.same O bc).A r f7;unfold iz;dsimp only;change qI _ _ _ _ #v[.ref z.a,.str p,.str q,.ref l1,.ref l2,.ref q3,.int (lst v),.ref q5,.int (cG v),.int (lst u),.ref q7,none] H7;show EX (λσ J=>zt λ(q8:Addr)(ab:qAh)=>K0 (σ=#v[.ref z.a,.str p,.str q,.ref l1,.ref l2,.ref q3,.int (lst v),.ref q5,.int (cG v),.int (lst u),.ref q7,.ref q8]) (aH H7 J) (J q8=some (.lst ab)) (jE J ab (iG S v u (bJ ns)))) (λu' jt=>?_) ?_
 .show#[0,0,rfl,0,?_];show c9 (λd=>?_) (λd=>?_)
  .let Y:lst u=cG v:=V.int.inj (of_decide_eq_true d);show#[0,jt _ _ #[q7,aB,rfl,aH.refl _,e7,?_]];unfold iG;rw[aa3 Y];show S7
  .let Y:¬ lst u=cG v:=λw=>d (decide_eq_true (by rw[w]));show#[0,z.a,CF,dy,_,.ref z.na,rfl,aT _ _ hy,U.cl,U.nN,bT kf,0,z.na,m,tot,(0),N,lst u,nd,S (lst u),rfl,(A0.same O aT).A,ac,Z.enc _ _ ac a2,Z.len _,Z.ok _,λH8 q8 ab s8 f8 e8 S8=>jt _ _ #[q8,ab,rfl,s8,e8,?_]];unfold iG;rw[aa2 Y];show S8
 rintro σ J ⟨q8,ab,rfl,s8,e8,S8⟩;let ba:=aT.trans s8;show#[0,q8,ab,0,e8,S8,ml,mn,λd1 H9 s9=>by rw[aa3 d1]at G;show G _ rfl H9 (ba.trans s9),λd1 H9 s9=>?_];rw[aa2 af]at G L;let am:=ba.trans s9;let A9:=A0.same O am;rw[lW ac]at G L;rw[cM ac]at L;show#[0,z.a,dy,0,am _ _ hy,a9 av av,0,0,0,(1),rfl,l2,_, -1,.str (bJ I),1,aW.of ((s3.trans (s5.trans (s6.trans (s7.trans (s8.trans s9))))) _ _ e2),bi,0,z,m,tot,(0),N,h,lst u,nd,q8,ab,_,bJ I,lst v,rfl,A9,ac,s9 _ _ e8,S8.same s9,ml,d1,mo,c2 _ a1,λd2 Ha sa=>by rw[aa3 d2]at G;show G _ rfl Ha (am.trans sa),λd2 Ha ma Aa a0=>?_];rw[aa2 (by rw[d2];nofun)]at L;let bv:Ha q7=some (.lst aB):=a0.1 _ _ ((s8.trans s9) _ _ e7) bF;let#[dz,hz]:=Aa.ob;let gl:nb (bp (c7 (iG S v u (bJ ns)) (bJ I) (lst v))).length<=20:=qu (by
  have:=i9 (nm:=bJ I) (k:=lst v) d1 ml;rw[cO (cU mo (c2 _ a1))];omega)
 let g1:=lY nd.cs (bp (c7 (iG S v u (bJ ns)) (bJ I) (lst v))) (nb (bp (c7 (iG S v u (bJ ns)) (bJ I) (lst v))).length);dsimp only;show share (λσ J=>zt λ(mb:M.St)(db:Nat)=>K0 (σ[0]?=some (some (.ref z.a))) (dh M CF J z mb tot (if lst u=cG v then cA N (lst u) (some { nd with cs:=bp (c7 (iG S v u (bJ ns)) (bJ I) (lst v)) })else putN (cA N (lst u) (some { nd with cs:=bp (c7 (iG S v u (bJ ns)) (bJ I) (lst v)) })) (cG v) (bp (eG (S (cG v)) (bJ ns)))) h db) (db<=24) (M.Step ma Ha mb J)) (λu' jt=>?_) ?_
 .show#[0,0,rfl,0,?_];cases Y:lst u=cG v
  .rw[decide_eq_true (show V.int (lst u)=V.int (cG v)by rw[Y])];show ck (jt _ _ #[ma,0+pU nd.cs (bp (c7 (iG S v u (bJ ns)) (bJ I) (lst v))) (nb (bp (c7 (iG S v u (bJ ns)) (bJ I) (lst v))).length)+2,3,?_,b6.sm (aH.refl _)])
   .rw[aa3 Y];show Aa
   .omega
  .rw[decide_eq_false (show ¬ V.int (lst u)=V.int (cG v)from λw=>Y (V.int.inj w))];let bd:cA N (lst u) (some { nd with cs:=bp (c7 (iG S v u (bJ ns)) (bJ I) (lst v)) }) (cG v)=some no:=(by rw[iK (Ne.symm Y)];show ao);let em:iG S v u (bJ ns)=S (lst u):=(by unfold iG;rw[aa2 Y]);let eo:=Z.enc _ _ ao bb;show dt #[0,z.a,CF,dz,_,.ref z.na,rfl,hz,U.cl,U.nN,bT kf,0,0,z.na,ma,tot,2,cG v,no,q7,aB,eG (S (cG v)) (bJ ns),rfl,Aa.A,bd,bv,?_,by rw[fM];show Z.len _,Iy (Z.ok _),?_,λHb mb Ab ap=>jt _ _ #[mb,0+pU nd.cs (bp (c7 (iG S v u (bJ ns)) (bJ I) (lst v))) (nb (bp (c7 (iG S v u (bJ ns)) (bJ I) (lst v))).length)+2+pU no.cs (bp (eG (S (cG v)) (bJ ns))) (nb (bp (eG (S (cG v)) (bJ ns))).length)+2,3,?_,ap]]
   .show#[S7.ln,λi x hx=>?_];let#[s,e,a]:=S7.at_ i x hx;show#[s,e,?_];cases s with
    |none=>show a
    |some pr =>
     let#[t,et,ht]:=a;show#[t,et,a0.1 _ _ ((s8.trans s9) _ _ ht) λr=>O.nt A9.A r ((s8.trans s9) _ _ ht)]
   .have:=(O.ok Aa.A).fit;rw[fM,eo,cO (Z.ok _)];omega
   .rw[aa2 Y,cM bd];show Aa.step O Ab ap
   .let g3:pU nd.cs (bp (c7 (iG S v u (bJ ns)) (bJ I) (lst v))) (nb (bp (c7 (iG S v u (bJ ns)) (bJ I) (lst v))).length)<=1:=by
     rw[em,Z.enc _ _ ac a2];show E8 (Z.ok _) (c2 _ a1)
    let g4:pU no.cs (bp (eG (S (cG v)) (bJ ns))) (nb (bp (eG (S (cG v)) (bJ ns))).length)<=1:=by
     rw[eo];show EG (Z.ok _) (Z.nd _)
    omega
 .rintro σ J ⟨mb,db,h0,Ab,bn,ap⟩;let#[dz,hz]:=Ab.ob;let#[dx,fs',ho,ht,hm]:=O.ob Ab.A;show#[_,h0,z.a,CF,dz,_,.ref z.na,rfl,hz,U.cl,U.nN,bT kf,z.na,dx,0,ho,hm _ av,z.na,mb,tot,_,0,Ab.A,bn,λHc mc Ac be=>L _ _ rfl Hc mc (Ab.step O Ac be) (b6.pre am (b6.tr a0 (b6.tr ap be)))]
structure Fy(N:NS)(S:SS):Prop where
 root:dq N 0=true
 enc:∀n nd,N n=some nd->nd.dir=true->nd.cs=bp (S n)
 len:∀n,(S n).length<=40
 ok:∀n,∀s∈S n,∀p,s=some p->okN p.1
 nd:∀n,(eE (S n)).Nodup
 a7:∀n,dq N n=false->S n=[]
 dl:∀n nd,N n=some nd->nd.dir=true->nd.ln=1
 pV:∀n nd,N n=some nd->0<=n/\n<24
variable{N:NS}{S:SS}
theorem Fz.y(F:Fz N S):Fy N S:=#[F.root,F.enc,F.len,F.ok,F.nd,F.a7,F.dl,F.pV]
variable{n:Int}
theorem Fy.z(F:Fy N S)(h:∀n,(refs S n:Int)+(if n=0 then 1 else 0)<=lk N n):Fz N S:=#[F.root,F.enc,F.len,F.ok,F.nd,F.a7,h,F.dl,F.pV]
variable{k:Int}{x:Node}
theorem jH:dq (cA N n (some x)) k=if k=n then x.dir else dq N k:=by
 unfold dq cA;cases c:k=n
 .rw[aa3 c,aa3 c]
 .rw[aa2 c,aa2 c]
theorem Bg:dq (cA N n none) k=if k=n then false else dq N k:=by
 unfold dq cA;cases c:k=n
 .rw[aa3 c,aa3 c]
 .rw[aa2 c,aa2 c]
theorem qS:lk (cA N n (some x)) k=if k=n then x.ln else lk N k:=by
 unfold lk cA;cases c:k=n
 .rw[aa3 c,aa3 c]
 .rw[aa2 c,aa2 c]
theorem Cn:lk (cA N n none) k=if k=n then 0 else lk N k:=by
 unfold lk cA;cases c:k=n
 .rw[aa3 c,aa3 c]
 .rw[aa2 c,aa2 c]
variable{nd:Node}
theorem DQ(F:N n=some nd)(e:x.dir=nd.dir):dq (cA N n (some x))=dq N:=funext λk=>by
 rw[jH];cases c:k=n
 .rw[aa3 c,c,fG F,e]
 .rw[aa2 c]
variable{ss:List Slot}
theorem Fy.vO(F:Fy N S)(L:N n=some nd)(hd:nd.dir=true)(h1:ss.length<=40)(h2:∀s∈ss,∀p,s=some p->okN p.1)(Z:(eE ss).Nodup):Fy (cA N n (some { nd with cs:=bp ss })) (qw S n ss):=by
 let Y:=DQ (x:={ nd with cs:=bp ss }) L rfl;show#[by rw[Y];show F.root,λm x G U=>?_,λm=>?_,λm=>?_,λm=>?_,λm I=>?_,λm x G U=>?_,λm x G=>?_]
 .unfold cA at G;cases c:m=n
  .rw[aa3 c]at G;cases G;rw[c,gG]
  .rw[aa2 c]at G;rw[eP c];show F.enc m x G U
 .by_cases c:m=n
  .rw[c,gG];show h1
  .rw[eP c];show F.len m
 .by_cases c:m=n
  .rw[c,gG];show h2
  .rw[eP c];show F.ok m
 .by_cases c:m=n
  .rw[c,gG];show Z
  .rw[eP c];show F.nd m
 .rw[Y]at I;cases c:m=n
  .rw[c,fG L,hd]at I;cases I
  .rw[eP c];show F.a7 m I
 .unfold cA at G;cases c:m=n
  .rw[aa3 c]at G;cases G;show F.dl n nd L hd
  .rw[aa2 c]at G;show F.dl m x G U
 .unfold cA at G;cases c:m=n
  .rw[c];show F.pV n nd L
  .rw[aa2 c]at G;show F.pV m x G
theorem Fy.row(F:Fy N S)(h:dq N n=false)(I:x.dir=false\/(x.cs=[]/\x.ln=1))(n0:0<=n)(Z:n<24):Fy (cA N n (some x)) S:=by
 let sn:=F.a7 n h;let Y:¬ n=0:=λw=>(by rwa[w,F.root]at h);show#[by rw[jH,aa2 (Ne.symm Y)];show F.root,λm y G L=>?_,F.len,F.ok,F.nd,λm U=>?_,λm y G L=>?_,λm y G=>?_]
 .unfold cA at G;cases c:m=n
  .rw[aa3 c]at G;cases G;rcases I with I|I
   .rw[I]at L;cases L
   .rw[c,sn,I.1];rfl
  .rw[aa2 c]at G;show F.enc m y G L
 .by_cases c:m=n
  .rw[c];show sn
  .rw[jH,aa2 c]at U;show F.a7 m U
 .unfold cA at G;cases c:m=n
  .rw[aa3 c]at G;cases G;rcases I with I|I
   .rw[I]at L;cases L
   .show I.2
  .rw[aa2 c]at G;show F.dl m y G L
 .unfold cA at G;cases c:m=n
  .rw[c];show#[n0,Z]
  .rw[aa2 c]at G;show F.pV m y G
theorem Fy.fin(F:Fy N S)(h:¬ n=0):Fy (cA N n none) (qw S n []):=by
 show#[by rw[Bg,aa2 (Ne.symm h)];show F.root,λm y G I=>?_,λm=>?_,λm=>?_,λm=>?_,λm L=>?_,λm y G I=>?_,λm y G=>?_]
 .unfold cA at G;cases c:m=n
  .rw[aa3 c]at G;cases G
  .rw[aa2 c]at G;rw[eP c];show F.enc m y G I
 .by_cases c:m=n
  .rw[c,gG];show Tp _
  .rw[eP c];show F.len m
 .by_cases c:m=n
  .rw[c,gG];show λs hs=>by cases hs
  .rw[eP c];show F.ok m
 .by_cases c:m=n
  .rw[c,gG];show Vr
  .rw[eP c];show F.nd m
 .by_cases c:m=n
  .rw[c,gG]
  .rw[eP c];rw[Bg,aa2 c]at L;show F.a7 m L
 .unfold cA at G;cases c:m=n
  .rw[aa3 c]at G;cases G
  .rw[aa2 c]at G;show F.dl m y G I
 .unfold cA at G;cases c:m=n
  .rw[aa3 c]at G;cases G
  .rw[aa2 c]at G;show F.pV m y G
theorem HY(h:S n=[]):qw S n []=S:=funext λm=>by
 cases c:m=n
 .rw[c,gG,h]
 .rw[eP c]
theorem Fy.Mz(F:Fy N S)(h:dq N n=false):Fy (cA N n none) S:=by
 have:=F.fin (n:=n) λw=>by rwa[w,F.root]at h
 (rw[HY (F.a7 n h)]at this;assumption)
theorem Fz.c7(F:Fz N S)(hd:dq N n=true){nm:Str}(h1:(eE (S n)).length<40)(h2:okN nm)(G:nm∉eE (S n)):(c7 (S n) nm k).length<=40/\(∀s∈c7 (S n) nm k,∀p,s=some p->okN p.1)/\(eE (c7 (S n) nm k)).Nodup :=
 #[i9 h1 (F.len n),cU (F.ok n) h2,(yE _ _ _).nodup_iff.mpr (TQ.mpr #[G,F.nd n])]
theorem Fz.eG(F:Fz N S)(nm:Str):(eG (S n) nm).length<=40/\(∀s∈eG (S n) nm,∀p,s=some p->okN p.1)/\(eE (eG (S n) nm)).Nodup :=
 #[by rw[fM];show F.len n,Iy (F.ok n),by rw[sv];show(F.nd n).filter _]
variable{tot:Nat}{p:Str}{N':NS}{S':SS}
theorem Fe{u:Int}{kd:Bool}(F:Fz N S)(hp:bG p)(h:lZ tot N S p kd=.ok (u,N',S')):Fz N' S':=by
 unfold lZ at h;cases Y:mx p with
 |error e=>rwa[Y]at h
 |ok ns =>
  rw[Y]at h;dsimp only at h;cases U:kY N S ns with
  |error e=>rwa[U]at h
  |ok v =>
   rw[U]at h;dsimp only at h;let#[W,hd,ao,ab]:=kK F U;let#[nd,L,ac]:=b7 hd;let#[am,_]:=fL ab;let ad:=(gc hp Y).2 _ am;cases c:40<=(eE (S (lst v))).length
   .rw[aa3 c]at h;cases h
   rw[aa2 c]at h;cases e3:xU N 24 with
   |nil=>rwa[e3]at h
   |cons x r =>
    rw[e3]at h;dsimp only at h;let#[G,x0,x1]:=yi e3;cases Z:fI tot N (Fb N (lst v)) (8*(Fs.c7 (S (lst v)) (bJ ns) x).length)=true
    .rw[aa3 Z]at h;cases h
    rwa[aa2 Z,cM L]at h;let#[g1,g2,g3]:=F.c7 (k:=u) hd af ad ao;let F1:=F.y.vO L ac g1 g2 g3;let un:¬ u=lst v:=λw=>(by rwa[w,L]at G);let hu:dq (cA N (lst v) (some { nd with cs:=bp (Fs.c7 (S (lst v)) (bJ ns) u) })) u=false:=by
     rw[jH,aa2 un];unfold dq;rw[G]
    let F2:=F1.row (x:=#[kd,(1),[]]) hu (.inr #[1]) x0 af;show F2.z λm=>?_;let#[n0,n1]:=F.mJ hd;let a:=fo S (Fs.c7 (S (lst v)) (bJ ns) u) m n0 n1;rw[rW]at a;let b:=F.rf m;rw[qS,qS];cases d:m=u
    .let b0:lk N u=0:=(by unfold lk;rw[G]);rw[aa3 d];rw[d]at a b ⊢;rw[aa3 rfl]at a;change _<=(1:Int);omega
    .rw[aa2 (Ne.symm d)]at a;rw[aa2 d];cases I:m=lst v
     .rw[aa3 I];rw[I,jY L]at b;rw[I]at a ⊢;change _<=nd.ln;omega
     .rw[aa2 I];omega
theorem gr(F:N n=some nd)(cs:qAa):lk (cA N n (some { nd with cs:=cs }))=lk N:=funext λm=>by
 rw[qS];cases c:m=n
 .rw[aa3 c,c,jY F]
 .rw[aa2 c]
variable{q:Str}
theorem FW(F:Fz N S)(hp:bG p)(hq:bG q)(h:qp tot N S p q=.ok (N',S')):Fz N' S':=by
 unfold qp at h;cases e1:mx p with
 |error e=>rwa[e1]at h
 |ok ns =>
 rw[e1]at h;dsimp only at h;cases U:mx q with
 |error e=>rwa[U]at h
 |ok I =>
 rw[U]at h;dsimp only at h;cases e3:eR N S ns with
 |error e=>rwa[e3]at h
 |ok v =>
 rw[e3]at h;dsimp only at h;cases c:dq N (lst v)=true
 .rw[aa3 c]at h;cases h
 rw[aa2 c]at h;cases L:kY N S I with
 |error e=>rwa[L]at h
 |ok w =>
 rw[L]at h;dsimp only at h;let#[W,hd,ar,ac]:=kK F L;let#[nd,Y,ad]:=b7 hd;let#[ap,_]:=fL ac;let am:=(gc hq U).2 _ ap;let#[x,G]:=(F.way e3).last;let ab:=F.pV _ _ G;cases Z:40<=(eE (S (lst w))).length
 .rw[aa3 Z]at h;cases h
 rw[aa2 Z]at h;cases c3:fI tot N (Fb N (lst w)) (8*(c7 (S (lst w)) (bJ I) (lst v)).length)=true
 .rw[aa3 c3]at h;cases h
 let un:¬ lst v=lst w:=λz=>c (z▸hd);let ao:cA N (lst w) (some { nd with cs:=bp (c7 (S (lst w)) (bJ I) (lst v)) }) (lst v)=some x:=(by rw[iK un];show G);rwa[aa2 c3,cM Y,nk ao]at h;let#[g1,g2,g3]:=F.c7 (k:=lst v) hd af am ar;let F1:=F.y.vO Y ad g1 g2 g3;let dx:x.dir=false:=(by rw[<-fG G];show Vj.mpr c);let F2:=F1.row (x:={ x with ln:=x.ln+1 }) (n:=lst v) (by rw[jH,aa2 un];show Vj.mpr c) (.inl dx) ab.1 ab.2;show F2.z λm=>?_;let#[n0,n1]:=F.mJ hd;let a:=fo S (c7 (S (lst w)) (bJ I) (lst v)) m n0 n1;rw[rW]at a;let b:=F.rf m;rw[qS,gr Y];cases d:m=lst v
 .rw[aa3 d.symm]at a;rw[aa3 d];rw[d,jY G]at b;rw[d]at a ⊢;change _<=x.ln+1;omega
 .rw[aa2 (Ne.symm d)]at a;rw[aa2 d];omega
variable{h:HT}
theorem y7(F:Fz N S)(G:jh N S h p=.ok (N',S')):Fz N' S':=by
 unfold jh at G;cases e1:mx p with
 |error e=>rwa[e1]at G
 |ok ns =>
 rw[e1]at G;dsimp only at G;cases e3:eR N S ns with
 |error e=>rwa[e3]at G
 |ok v =>
 rw[e3]at G;dsimp only at G;cases c:dq N (lst v)=true
 .rw[aa3 c]at G;cases G
 let ac:ns≠[]:=λw=>by
  rwa[w]at e3;show c F.root
 let U:=F.two e3 ac;let#[nd,L,ad]:=b7 U.dir;let#[x,I]:=(F.way e3).last;let ab:=F.pV _ _ I;let un:¬ lst v=cG v:=λz=>c (z▸U.dir);let am:cA N (cG v) (some { nd with cs:=bp (eG (S (cG v)) (bJ ns)) }) (lst v)=some x:=(by rw[iK un];show I);rw[aa2 c,cM L,nk am,jY I]at G;let#[g1,g2,g3]:=F.eG (n:=cG v) (bJ ns);let F1:=F.y.vO L ad g1 g2 g3;let dx:x.dir=false:=(by rw[<-fG I];show Vj.mpr c);let Z:=F1.row (x:={ x with ln:=x.ln + -1 }) (n:=lst v) (by rw[jH,aa2 un];show Vj.mpr c) (.inl dx) ab.1 ab.2;let#[n0,n1]:=F.mJ U.dir;let ra:∀m,(refs (qw S (cG v) (eG (S (cG v)) (bJ ns))) m:Int)+(if m=0 then 1 else 0)<=(if m=lst v then x.ln-1 else lk N m):=λm=>by
  let a:=fo S (eG (S (cG v)) (bJ ns)) m n0 n1;let b:=F.rf m;cases d:m=lst v
  .let e:=rP U.kL;rw[aa3 d];rw[d,jY I]at b;rw[d]at a ⊢;omega
  .let e:=gZ (S (cG v)) (bJ ns) m;rw[aa2 d];omega
 cases Y:x.ln=1/\look h (lst v)=none
 .rw[aa3 Y]at G;cases G;let F3:=Z.Mz (n:=lst v) (by rw[jH,aa3 rfl];show dx);show F3.z λm=>?_;let r:=ra m;rw[Cn];cases d:m=lst v
  .rw[aa3 d]at r ⊢;omega
  .rw[aa2 d]at r ⊢;rw[qS,aa2 d,gr L];show r
 .rw[aa2 Y]at G;cases G;show Z.z λm=>?_;let r:=ra m;rw[qS,gr L];cases d:m=lst v
  .rw[aa3 d]at r ⊢;show r
  .rw[aa2 d]at r ⊢;show r
theorem zH(F:Fz N S)(h:i8 N S p=.ok (N',S')):Fz N' S':=by
 unfold i8 at h;cases Z:mx p with
 |error e=>rwa[Z]at h
 |ok ns =>
 rw[Z]at h;dsimp only at h;cases e3:eR N S ns with
 |error e=>rwa[e3]at h
 |ok v =>
 rw[e3]at h;dsimp only at h;cases c:dq N (lst v)=true
 case neg=>rwa[aa2 c]at h
 rw[aa3 c]at h;cases G:lst v=0
 .rw[aa3 G]at h;cases h
 rw[aa2 G]at h;cases U:0<(eE (S (lst v))).length
 .rw[aa3 U]at h;cases h
 let ac:ns≠[]:=λw=>by
  rwa[w]at e3;show G rfl
 let I:=F.two e3 ac;let#[nd,L,ab]:=b7 I.dir;let#[x,Y]:=(F.way e3).last;let n0:eE (S (lst v))=[]:=Ui.mp (YB U);let un:¬ lst v=cG v:=λz=>by
  let q:=I.kL;rw[<-z]at q;have:bJ ns∈eE (S (lst v)):=Ve λr=>(by rwa[(yA _ _).mpr r]at q);rwa[n0]at this
 rwa[aa2 U,cM L]at h;let#[g1,g2,g3]:=F.eG (n:=cG v) (bJ ns);let F1:=F.y.vO L ab g1 g2 g3;let F2:=F1.fin (n:=lst v) G;show F2.z λm=>?_;let#[p0,p1]:=F.mJ I.dir;let#[q0,q1]:=F.mJ c;let a:=fo S (eG (S (cG v)) (bJ ns)) m p0 p1;let a2:=fo (qw S (cG v) (eG (S (cG v)) (bJ ns))) [] m q0 q1;let z0:cn [] m=0:=rfl;let b:=F.rf m;let e:=gZ (S (cG v)) (bJ ns) m;rw[Cn];cases d:m=lst v
 .let e2:=rP I.kL;let l1:=F.dl _ _ Y (by rw[<-fG Y];show c);rw[d,jY Y,l1]at b;rw[aa3 d];rw[d]at a a2 z0 e ⊢;rw[aa2 G]at b ⊢;omega
 .rw[aa2 d,gr L];omega
theorem ER(F:Fz N S)(G:N n=some nd)(hd:nd.dir=false)(cs:qAa):Fz (cA N n (some { nd with cs:=cs })) S:=by
 let I:=F.pV _ _ G;show(F.y.row (x:={ nd with cs:=cs }) (by rw[fG G];show hd) (.inl hd) I.1 I.2).z λm=>?_;rw[gr G];show F.rf m
variable{cs:qAa}
theorem vE(F:Fz N S)(G:N n=some nd)(hd:nd.dir=false)(h:lS tot N n cs=.ok N'):Fz N' S:=by
 unfold lS at h;split at h
 .cases h
 .cases h;rw[cM G];show ER F G hd cs
variable{a:Int}
theorem Ic(F:Fz N S)(h:zr tot N n a=.ok N'):Fz N' S:=by
 unfold zr at h;cases e:vI N n with
 |some r=>rwa[e]at h
 |none =>
  rw[e]at h;dsimp only at h;let#[nd,G,hd]:=lP e;split at h
  .show vE F G hd h
  .cases h
theorem Bv(F:Fz N S)(h:lU tot N n a cs=.ok N'):Fz N' S:=by
 unfold lU at h;cases e:vI N n with
 |some r=>rwa[e]at h
 |none =>
  rw[e]at h;dsimp only at h;let#[nd,G,hd]:=lP e;split at h
  .split at h
   .split at h
    .cases h;show F
    .show vE F G hd h
   .cases h
  .cases h
theorem BK{h':HT}(F:Fz N S)(q:lJ N h n=.ok (N',h')):Fz N' S:=by
 unfold lJ at q;cases e:N n with
 |none=>rwa[e]at q
 |some nd =>
  rw[e]at q;dsimp only at q;cases G:look h n with
  |none=>rwa[G]at q
  |some v =>
   rw[G]at q;dsimp only at q;cases c:nd.ln=0/\look (Lw h n v) n=none
   .rw[aa3 c]at q;cases q;let I:dq N n=false:=by
     rw[fG e];cases d:nd.dir with
     |false=>rfl
     |true=>have:=F.dl _ _ e d;omega
    show(F.y.Mz I).z λm=>?_;let b:=F.rf m;rw[Cn];cases d:m=n
    .rw[d,jY e]at b;rw[aa3 d,d];omega
    .rw[aa2 d];show b
   .rw[aa2 c]at q;cases q;show F
theorem E1(F:Fz N S)(hp:bG p)(hq:bG q)(h:qR tot N S p q=.ok (N',S')):Fz N' S':=by
 unfold qR at h;cases e1:mx p with
 |error e=>rwa[e1]at h
 |ok ns =>
 rw[e1]at h;dsimp only at h;cases e2:mx q with
 |error e=>rwa[e2]at h
 |ok G =>
 rw[e2]at h;dsimp only at h;cases Z:ns=[]
 .rw[aa3 Z]at h;cases h
 rw[aa2 Z]at h;cases e3:eR N S ns with
 |error e=>rwa[e3]at h
 |ok v =>
 rw[e3]at h;dsimp only at h;cases Y:kY N S G with
 |error e=>rwa[Y]at h
 |ok u =>
 rw[Y]at h;dsimp only at h;cases c1:lst v∈u
 .rw[aa3 c1]at h;cases h
 rw[aa2 c1]at h;cases U:40<=(eE (iG S v u (bJ ns))).length
 .rw[aa3 U]at h;cases h
 rw[aa2 U]at h;cases c3:fI tot N (Fb N (lst u)) (8*(c7 (iG S v u (bJ ns)) (bJ G) (lst v)).length)=true
 .rw[aa3 c3]at h;cases h
 rw[aa2 c3]at h;let#[W,hd,ac,aB]:=kK F Y;let#[nd,I,ad]:=b7 hd;let#[as,_]:=fL aB;let am:=(gc hq e2).2 _ as;let T2:=F.two e3 Z;let#[no,ar,ap]:=b7 T2.dir;let#[o0,o1]:=F.mJ T2.dir;let#[u0,u1]:=F.mJ hd;let ec:=rP T2.kL;let#[g1,g2,g3]:=F.eG (n:=cG v) (bJ ns);cases c:lst u=cG v
 .let L:iG S v u (bJ ns)=eG (S (cG v)) (bJ ns):=(by unfold iG;rw[aa3 c]);rw[aa3 c,aa3 c,L,cM I]at h;rw[L]at U;cases h;let ao:bJ G∉eE (eG (S (cG v)) (bJ ns)):=λz=>by
   rw[sv]at z;rw[c]at ac;show ac (Ue.mp z).1
  let F1:=F.y.vO I ad (ss:=c7 (eG (S (cG v)) (bJ ns)) (bJ G) (lst v)) (i9 af g1) (cU g2 am) ((yE _ _ _).nodup_iff.mpr (TQ.mpr #[ao,g3]));show F1.z λm=>?_;let a:=fo S (c7 (eG (S (cG v)) (bJ ns)) (bJ G) (lst v)) m u0 u1;rw[rW,c]at a;let b:=F.rf m;let e:=gZ (S (cG v)) (bJ ns) m;rw[gr I,c];cases d:lst v=m
  .rw[aa3 d]at a;rw[d]at ec;omega
  .rw[aa2 d]at a;omega
 .let L:iG S v u (bJ ns)=S (lst u):=(by unfold iG;rw[aa2 c]);let ab:cA N (lst u) (some { nd with cs:=bp (c7 (S (lst u)) (bJ G) (lst v)) }) (cG v)=some no:=(by rw[iK (Ne.symm c)];show ar);rw[aa2 c,aa2 c,L,cM I,cM ab]at h;rw[L]at U;cases h;let#[k1,k2,k3]:=F.c7 (k:=lst v) hd af am ac;let F1:=F.y.vO I ad k1 k2 k3;let F2:=F1.vO ab ap g1 g2 g3;show F2.z λm=>?_;let a:=fo S (c7 (S (lst u)) (bJ G) (lst v)) m u0 u1;rw[rW]at a;let a2:=fo (qw S (lst u) (c7 (S (lst u)) (bJ G) (lst v))) (eG (S (cG v)) (bJ ns)) m o0 o1;rw[eP (Ne.symm c)]at a2;let b:=F.rf m;let e:=gZ (S (cG v)) (bJ ns) m;rw[gr ab,gr I];cases d:lst v=m
  .rw[aa3 d]at a;rw[d]at ec;omega
  .rw[aa2 d]at a;omega
abbrev gO:=Str×Int
noncomputable def zR(x:gO)(ss:List Slot):List gO:=ss.filterMap λs=>s.map λq=>(x.1++SL++q.1,q.2)
noncomputable def jx(S:SS)(x:gO):List gO:=zR x (S x.2)
noncomputable def pF(N:NS)(S:SS)(a:List gO×List gO):List gO×List gO:=match a.2.getLast? with
 |none=>a
 |some x=>(a.1++jx S x,a.2.dropLast++(jx S x).filter λq=>dq N q.2)
noncomputable def Hj(N:NS)(S:SS):Nat->List gO×List gO
 |0=>([],[("",0)])
 |i+1=>pF N S (Hj N S i)
theorem tQ(x:gO)(s:Slot)(ss:List Slot):zR x (s::ss)=(match s with|none=>[]|some q=>[(x.1++SL++q.1,q.2)])++zR x ss:=by
 unfold zR;rw[Ws];cases s<;>rfl
theorem sZ(x:gO):∀ss:List Slot,(zR x ss).map (·.1)=(eE ss).map λn=>x.1++SL++n
 | []=>rfl
 |s::ss=>by
  rw[tQ,dE,K4,K4,sZ x ss];cases s<;>rfl
theorem mP(x:gO)(c:Int):∀ss:List Slot,((zR x ss).map (·.2)).count c=cn ss c
 | []=>rfl
 |s::ss=>by
  rw[tQ,fw,K4,List.count_append,mP x c ss];cases s with
  |none=>change 0+_=_+0;omega
  |some q =>
   change List.count c [q.2]+_=_+(if decide (q.2=c)=true then 1 else 0);rw[ZA,List.count_nil];cases z:q.2=c
   .rw[aa3 (by rw[z];show beq_self_eq_true c),aa3 (decide_eq_true z)];omega
   .rw[aa2 (λw=>z (eq_of_beq w)),aa2 (λw=>z (of_decide_eq_true w))];omega
theorem yS(N:NS)(c:Int):∀l:List gO,((l.filter λq=>dq N q.2).map (·.2)).count c=if dq N c=true then(l.map (·.2)).count c else 0
 | []=>by split<;>rfl
 |q::l=>by
  let F:=yS N c l;cases z:dq N q.2=true
  .rw[UE (p:=λq:gO=>dq N q.2) z,T8,T8,ZA,ZA,F];cases y:dq N c=true
   .rw[aa3 y,aa3 y]
   .rw[aa2 y,aa2 y,aa2 (λw=>y (by rw[<-eq_of_beq w];show z))]
  .rw[Uw (p:=λq:gO=>dq N q.2) z,F,T8,ZA];cases y:dq N c=true
   .rw[aa3 y,aa3 y,aa2 (λw=>z (by rw[eq_of_beq w];show y))];omega
   .rw[aa2 y,aa2 y]
theorem Ny{a b c d:List Nat}(h:a++47::b=c++47::d)(G:47∉b)(hd:47∉d):a=c/\b=d:=by
 rcases List.append_eq_append_iff.mp h with⟨e,h1,h2⟩|⟨e,h1,h2⟩
 .cases e with
  |nil =>
   rw[Tq]at h1;injection h2 with _ h2;show#[h1.symm,h2]
  |cons x e =>
   injection h2 with I F;show absurd (by rw[F];show L3 _ Tf) G
 .cases e with
  |nil =>
   rw[Tq]at h1;injection h2 with _ h2;show#[h1,h2.symm]
  |cons x e =>
   injection h2 with I F;show absurd (by rw[F];show L3 _ Tf) hd
theorem jf(a b:Str):(a++b).cps.toList=a.cps.toList++b.cps.toList:=Us
variable{n:Str}
theorem NP(h:okN n):47∉n.cps.toList:=λz=>by have:=h.lt 47 z;omega
theorem yo{a b:Str}(h:a.cps.toList=b.cps.toList):a=b:=by
 cases a;cases b;show congrArg Str.mk (aai.mp h)
theorem tu{x y m:Str}(G:okN n)(F:okN m)(h:x++SL++n=y++SL++m):x=y/\n=m:=by
 let e:(x++SL++n).cps.toList=(y++SL++m).cps.toList:=(by rw[h]);rw[jf,jf,jf,jf,show SL.cps.toList=[47]by decide +kernel,Te,Te]at e;let#[h1,h2]:=Ny e (NP G) (NP F);show#[yo h1,yo h2]
theorem BP(h:∀s∈ss,∀p,s=some p->okN p.1)(G:n∈eE ss):okN n:=by
 let#[s,hs,e]:=Wb.mp G;let#[p,F,rfl]:=SV.mp e;show h s hs p F
theorem Dx(F:Fz N S)(x:gO):((jx S x).map (·.1)).Nodup:=by
 unfold jx;rw[sZ];let ok:=λn L=>BP (n:=n) (F.ok x.2) L;let nd:=F.nd x.2;generalize eE (S x.2)=l at *
 induction l with
 |nil=>show Vr
 |cons n l I =>
  rw[TQ]at nd;rw[T8,TQ];show#[λz=>?_,I (λm G=>ok m (S0 _ G)) nd.2];let#[m,G,e]:=Tc.mp z;have:=(tu (ok m (S0 _ G)) (ok n Tf) e).2;show nd.1 (this▸G)
variable{x:gO}
theorem mT(F:Fz N S)(h:p∈(jx S x).map (·.1)):∃n,okN n/\p=x.1++SL++n:=by
 unfold jx at h;rw[sZ]at h;let#[n,G,rfl]:=Tc.mp h;show#[n,BP (F.ok x.2) G,rfl]
theorem wx{N:NS}{S:SS}(F:Fz N S):∀{pv:List gO},(pv.map (·.1)).Nodup->(((pv.map (jx S)).flatten).map (·.1)).Nodup/\∀p∈((pv.map (jx S)).flatten).map (·.1),∃x∈pv,∃n,okN n/\p=x.1++SL++n
 | [],_=>#[Vr,λ_ h=>by cases h]
 |x::pv,nd=>by
  rw[T8,TQ]at nd;let#[h1,h2]:=wx F nd.2;rw[T8,Vf,K4];show#[Ud.mpr #[Dx F x,h1,λa Z b Y e=>?_],λp G=>?_]
  .let#[n,L,rfl]:=mT F Z;let#[y,I,m,U,e2]:=h2 b Y;have:=(tu L U (e.trans e2)).1;show nd.1 (Tc.mpr #[y,I,this.symm])
  .rcases SY.mp G with G|G
   .let#[n,L,e]:=mT F G;show#[x,Tf,n,L,e]
   .let#[y,I,q]:=h2 p G;show#[y,S0 _ I,q]
structure Wk(N:NS)(S:SS)(i:Nat)(pv met ahead:List gO):Prop where
 eq:Hj N S i=(met,ahead)
 ln:pv.length=i
 mt:met=(pv.map (jx S)).flatten
 pn:((pv++ahead).map (·.1)).Nodup
 pm:∀y∈pv++ahead,y.1 = "" \/ y.1∈met.map (·.1)
 nn:((pv++ahead).map (·.2)).Nodup
 dn:∀y∈pv++ahead,dq N y.2=true
 fr:∀y∈pv++ahead,y.2=0\/∃v∈pv,1<=cn (S v.2) y.2
 le:∀y∈pv++ahead,y.1.length<=7*i
theorem Fz.Pp(F:Fz N S):Wk N S 0 [] [] [("",0)]:=#[1,rfl,TQ.mpr #[λh=>(by cases h),Vr],λy h=>by rw[DO.mp h];show .inl rfl,TQ.mpr #[λh=>(by cases h),Vr],λy h=>by rw[DO.mp h];show F.root,λy h=>by rw[DO.mp h];show .inl rfl,λy h=>by rw[DO.mp h];show G0 _]
variable{i:Nat}{pv met ahead:List gO}
theorem Wk.lt(W:Wk N S i pv met ahead)(F:Fz N S):i+ahead.length<=24:=by
 have:=LZ 24 0 ((pv++ahead).map (·.2)) W.nn λx G=>by
  let#[y,I,rfl]:=Tc.mp G;have:=F.mJ (W.dn y I);omega
 rw[rz,wh,W.ln]at this;show this
theorem Wk.RN(W:Wk N S i pv met ahead)(F:Fz N S):(met.map (·.1)).Nodup:=by
 have:(pv.map (·.1)).Nodup:=by
  have:=W.pn;rw[K4]at this;show(Ud.mp this).1
 rw[W.mt];show(wx F this).1
theorem Wk.Mi(W:Wk N S i pv met ahead)(F:Fz N S):met.length<=40*i:=by
 rw[W.mt, <-W.ln];generalize pv=l
 induction l with
 |nil=>show Tp _
 |cons x l G =>
  rw[T8,Vf,wh,TH];have:(jx S x).length<=40:=Td (Vo ..) (F.len x.2);omega
theorem Wk.next{b:List gO}(W:Wk N S i pv met (b++[x]))(F:Fz N S):Wk N S (i+1) (pv++[x]) (met++jx S x) (b++(jx S x).filter λq=>dq N q.2):=by
 let hx:x∈pv++(b++[x]):=L3 _ (L3 _ (DO.mpr rfl));let dx:=W.dn x hx;let#[x0,x1]:=F.mJ dx;let RN:=W.RN F;let re:∀y,y∈(pv++[x])++(b++(jx S x).filter λq=>dq N q.2)↔y∈pv++(b++[x])\/y∈(jx S x).filter λq=>dq N q.2:=λy=>by
  simp only[SY,DO];constructor
  .rintro((h|h)|(h|h))
   .show .inl (.inl h)
   .show .inl (.inr (.inr h))
   .show .inl (.inr (.inl h))
   .show .inr h
  .rintro((h|(h|h))|h)
   .show .inl (.inl h)
   .show .inr (.inl h)
   .show .inl (.inr h)
   .show .inr (.inr h)
 let ac:((pv++[x])++(b++(jx S x).filter λq=>dq N q.2)).Perm ((pv++(b++[x]))++(jx S x).filter λq=>dq N q.2):=by
  rw[Te,Te];show Vb pv ?_;rw[<-Te];show UY _ (VU)
 let I:∀y∈(jx S x).filter (λq=>dq N q.2),y∈jx S x/\dq N y.2=true:=λy G=>Ue.mp G;let cnt:∀y∈jx S x,1<=cn (S x.2) y.2:=λy G=>by
  rw[<-mP x];show ZC.mpr (Tc.mpr #[y,G,rfl])
 let ab:∀c,dq N c=true->lk N c=1:=λc L=>by
  let#[nd,h1,h2]:=b7 L;rw[jY h1,F.dl _ _ h1 h2]
 show#[?_,by rw[wh,W.ln];rfl,by rw[K4,VR, <-W.mt];change _=met++(jx S x++[]);rw[Tq],?_,λy G=>?_,?_,λy G=>?_,λy G=>?_,λy G=>?_]
 .change pF N S (Hj N S i)=_;rw[W.eq];unfold pF;dsimp only;rw[W5,Xd];rfl
 .rw[(ac.map (·.1)).nodup_iff,K4,Ud];show#[W.pn,(Dx F x).sublist ((Zj).map _),λa Z c L e=>?_];let#[y,G,rfl]:=Tc.mp Z;let#[q,U,rfl]:=Tc.mp L;let#[n,hn,e2]:=mT F (Tc.mpr #[q,(I q U).1,rfl]);rcases W.pm y G with h|h
  .rw[h]at e;have:("" : Str).cps.toList=(x.1++SL++n).cps.toList:=(by rw[e.trans e2]);rw[jf,jf,show SL.cps.toList=[47]by decide +kernel,show("" : Str).cps.toList=[]by decide +kernel]at this;simp at this
  .rw[e,e2,W.mt]at h;let pn:=W.pn;rw[K4]at pn;let#[p1,p2,p3]:=Ud.mp pn;let#[z,hz,m,hm,e3]:=(wx F p1).2 _ h;show p3 z.1 (Tc.mpr #[z,hz,rfl]) x.1 (Tc.mpr #[x,L3 _ (DO.mpr rfl),rfl]) (tu hn hm e3).1.symm
 .rw[K4];rcases(re y).mp G with h|h
  .show(W.pm y h).imp id λz=>Ug _ z
  .show .inr (L3 _ (Tc.mpr #[y,(I y h).1,rfl]))
 .rw[(ac.map (·.2)).nodup_iff,K4,Ud];show#[W.nn,List.nodup_iff_count.mpr λc=>?_,λa Z c L e=>?_]
  .rw[yS];cases z:dq N c=true
   .rw[aa3 z];let h1:((jx S x).map (·.2)).count c=cn (S x.2) c:=mP x c _;let h2:=kg S c x0 x1;let h3:=F.rf c;let h4:=ab c z;have:(0:Int)<=(if c=0 then 1 else 0):=(by split<;>decide);omega
   .rw[aa2 z];show Tp _
  .let#[y,G,rfl]:=Tc.mp Z;let#[q,U,rfl]:=Tc.mp L;let h1:=cnt q (I q U).1;let h2:=kg S q.2 x0 x1;let h3:=F.rf q.2;let h4:=ab q.2 (I q U).2;rcases W.fr y G with h|⟨v,Y,h⟩
   .rw[aa3 (by rw[<-e];show h)]at h3;omega
   .rw[e]at h;let dv:=W.dn v (Ug _ Y);let#[v0,v1]:=F.mJ dv;let nn:=W.nn;rw[K4]at nn;let ne:¬ v.2=x.2:=(Ud.mp nn).2.2 _ (Tc.mpr #[v,Y,rfl]) _ (Tc.mpr #[x,L3 _ (DO.mpr rfl),rfl]);have:=BR S q.2 v0 v1 x0 x1 ne;have:(0:Int)<=(if q.2=0 then 1 else 0):=(by split<;>decide);omega
 .rcases(re y).mp G with h|h
  .show W.dn y h
  .show(I y h).2
 .rcases(re y).mp G with h|h
  .show(W.fr y h).imp id λ⟨v,Y,q⟩=>#[v,Ug _ Y,q]
  .show .inr #[x,L3 _ (DO.mpr rfl),cnt y (I y h).1]
 .rcases(re y).mp G with h|h
  .have:=W.le y h;omega
  .let#[n,hn,e]:=mT F (Tc.mpr #[y,(I y h).1,rfl]);rw[e,len_app,len_app,show SL.length=1 by decide +kernel];have:=W.le x hx;have:n.length<=6:=hn.hi;omega
noncomputable def HS(N:NS)(S:SS):List gO:=(Hj N S 24).1
theorem Ep(j:Nat):(h:(Hj N S i).2=[])->Hj N S (i+j)=Hj N S i:=by
 induction j with
 |zero=>show λ_=>rfl
 |succ j F =>
  intro h;change pF N S (Hj N S (i+j))=_;rw[F h];unfold pF;rw[h];rfl
theorem Wk.done(W:Wk N S i pv met [])(F:Fz N S):met=HS N S:=by
 let l:=W.lt F;rw[Yt]at l;unfold HS;have:=Ep (N:=N) (S:=S) (i:=i) (24-i) (by rw[W.eq]);rw[show i+(24-i)=24 by omega]at this;rw[this,W.eq]
end Fs
namespace L2
open PySem
variable{H:Hp}{ws:qAh}{ps:List (Str×Int)}
theorem jq.same{H':Hp}(A:jq H ws ps)(o:∀t ys,H t=some (.tup ys)->H' t=some (.tup ys)):jq H' ws ps:=#[A.ln,λi v h=>by
 let#[p,t,e,F,e3]:=A.at_ i v h;show#[p,t,e,F,o _ _ e3]]
theorem jq.nil:jq H [] []:=#[rfl,λi v h=>by cases h]
variable{us:qAh}
theorem jq.app{qs:List (Str×Int)}(A:jq H ws ps)(B:jq H us qs):jq H (ws++us) (ps++qs):=by
 let l:=A.ln;show#[by rw[wh,wh,l,B.ln],λi v h=>?_];cases c:i<ws.length
 .rw[SW c]at h;let#[p,t,e,q]:=A.at_ i v h;show#[p,t,by rw[SW af];show e,q]
 .rw[SQ af]at h;let#[p,t,e,q]:=B.at_ _ v h;show#[p,t,by rw[SQ af, <-l];show e,q]
theorem jq.one{t:Addr}{p:Str×Int}(h:H t=some (.tup [.str p.1,.int p.2])):jq H [.ref t] [p]:=#[rfl,λi v e=>by
 cases i with
 |zero=>cases e;show#[p,t,1,h]
 |succ i=>cases e]
theorem jq.last{v:V}{b:List (Str×Int)}{x:Str×Int}(A:jq H ws (b++[x])):∃us t,ws=us++[.ref t]/\jq H us b/\H t=some (.tup [.str x.1,.int x.2]):=by
 let l:=A.ln;rw[wh,Tj]at l;let ne:ws≠[]:=λz=>(by rw[z]at l;simp at l);obtain⟨us,y,rfl⟩:∃us y,ws=us++[y]:=#[2,(TB ne).symm];rw[wh,Tj]at l;let#[p,t,e,rfl,G]:=A.at_ us.length y (by rw[SQ (G0 _),V7];rfl);rwa[SQ af,show us.length-b.length=0 by omega]at e;show#[us,t,rfl,#[af,λi v h=>?_],G];let hi:=(y0.mp h).1;let#[p,F,e,q]:=A.at_ i v (by rw[SW hi];show h);rw[SW af]at e;show#[p,F,e,q]
theorem jq.upd{l:Addr}{xs:qAh}{o:HO}(A:jq H ws ps)(h:H l=some (.lst xs)):jq (L2.upd H l o) ws ps:=A.same λt ys e=>by
 rw[au (λz=>by rwa[z,h]at e)];show e
end L2
namespace Fs
open PySem L2 Dk Tb Srt
inductive IH(M:b6)(v:qAh)(H:Hp)(Q:VK)(e:XK):Prop
 |mk(a:Addr)(m:M.St)(tot d:Nat)(N:NS)(S:SS)(t:Addr)(x:gO)(_:v=[.ref a,.ref t])(_:M.At H a m tot N d)(_:Fz N S)(_:H t=some (.tup [.str x.1,.int x.2]))(_:dq N x.2=true)(_:x.1.length<=1000)(_:∀(H':Hp)(q:Addr)(ws:qAh),aH H H'->H q=none->H' q=some (.lst ws)->jq H' ws (jx S x)->Q (.ref q) H')
variable{H H':Hp}
theorem gg(s:aH H H'):∀t ys,H t=some (.tup ys)->H' t=some (.tup ys):=λ_ _ e=>s _ _ e
noncomputable def M6(x:gO)(s:Slot):List gO:=match s with
 |none=>[]
 |some q=>[(x.1++SL++q.1,q.2)]
theorem CQ(x:gO)(ss:List Slot)(s:Slot):zR x (ss++[s])=zR x ss++M6 x s:=by
 unfold zR;rw[YR];cases s<;>rfl
abbrev Jx:Tg:=top 77
abbrev Ry:Tg:=top 78
theorem LQ:ax ["nodes","step"] ["nodes","step"] (ak Jx):=L2.a8
variable{M:b6}
theorem pL(F:bM K "steps_within" "steps_within" Jx f fd)(O:M.Ok P w K mg base)(ac:↥Df 8 "slots_of" (pf M)):↥aM 9 f fd ["nodes","step"] (IH M):=by
 show F.cU LQ ?_;intros;let#[a,m,tot,d,N,S,t,x,rfl,A1,Z,L,hd,lx,kQ]:=h;let hs:=y1;let#[nd,ab,ao]:=b7 hd;show#[_,(aq (aG (cY (cl:=[("step",s⁻¹+1)]) (caps:=[("step",1)]) #[rfl,av,av,rfl,by kernel_rfl,%[|1],by kernel_rfl,%[|1],av] rfl (cJ (pc ac hr ay (aa (pv 0) (aa (aL bg (pv 1) ai bZ) ae)))) (λ_ _ _ _=>iq (aA ic (pv 0) cF (aI _))) (λ_ _ _ _=>(dZ (aa (aJ c8 (aJ c8 (aL (show zA _ (mM K)from bg) (pv 1) ai bZ) aF) (aL (show zA _ (mM K)from bg) (pv 0) ai bZ)) (aa (aL (show zA _ (mM K)from bg) (pv 0) ai bZ) ae))))))),?_];show#[0,0,t,_,(1),.int x.2,1,dC.of L,aD (j:=1) rfl,a,m,tot,d,N,x.2,nd,S x.2,rfl,A1,ab,Z.enc _ _ ab ao,Z.len _,Z.ok _,λH1 q1 ad I f1 e1 S1=>#[q1,rfl,#[_,aW.of e1],?_]];let ar:=Z.len x.2;let bC:=Z.ok x.2;show gM (K:=K) (a:=q1) (xs:=ad) (λi ys J=>jq J ys (zR x ((S x.2).take i))/\aH H1 J) #[jq.nil,λ_ _ e=>e] (λi ys J _ z=>aW.of (z.2 _ _ e1)) ?_ ?_
 .rintro i v ys J hx ⟨TA,G⟩;let#[sl,e2,a2]:=S1.at_ i v hx;let et:zR x ((S x.2).take (i+1))=zR x ((S x.2).take i)++M6 x sl:=(by rw[Um,e2];show CQ _ _ _);let ly:ys.length<=40:=by
   have:(zR x ((S x.2).take i)).length<=((S x.2).take i).length:=Vo ..;rw[HC]at this;rw[TA.ln];omega
  show#[0,rfl,0,?_];cases sl with
  |none =>
   cases a2;show ck #[by rw[et];change jq J ys (_++[]);rw[Tq];show TA,G]
  |some p =>
   let#[t2,rfl,ap]:=a2;let on:=bC _ (SO e2) p rfl;let ln:p.1.length<=6:=on.hi;let l1:x.1.length+SL.length<=sizeLine:=(by rw[show SL.length=1 by decide +kernel];omega);let l2:(x.1++SL).length+p.1.length<=sizeLine:=(by rw[len_app,show SL.length=1 by decide +kernel];omega);let am:=G _ _ (I _ _ L);let U:=G _ _ ap;show dt #[0,t,_,(0),.str x.1,1,dC.of am,aD (j:=0) rfl,x.1,SL,1,l1,0,t2,_,(0),.str p.1,1,dC.of U,aD (j:=0) rfl,x.1++SL,p.1,1,l2,0,t2,_,(1),.int p.2,1,dC.of U,aD (j:=1) rfl,by change 2<=sizeLine;omega,λt3 Y=>#[af,?_,G.trans (ah Y)]];rw[et];show(TA.same (gg (ah Y))).app (jq.one (p:=(x.1++SL++p.1,p.2)) ag)
 .rintro ys J ⟨TA,G⟩ r fr;rw[S1.ln,UH]at TA;let s3:=ah (X:=.lst ys) fr;show kQ _ r ys (I.trans (G.trans s3)) (aX (I.trans G) fr) ag (TA.same (gg s3))
inductive Jv(M:b6)(v:qAh)(H:Hp)(Q:VK)(e:XK):Prop
 |mk(a:Addr)(m:M.St)(tot d:Nat)(N:NS)(S:SS)(_:v=[.ref a])(_:M.At H a m tot N d)(_:Fz N S)(_:∀(H':Hp)(q:Addr)(ws:qAh),aH H H'->H q=none->H' q=some (.lst ws)->jq H' ws (uN (HS N S))->Q (.ref q) H')
inductive OS(N:NS)(S:SS)(a m1 a1:Addr)(H2:Hp)(k:Nat)(σ:St)(J:Hp):Prop
 |mk (i:Nat) (pv met ahead:List gO) (wm wa:qAh) (v3:Option V) (_:k+i=24) (_:σ=#v[.ref a,.ref m1,.ref a1,v3]) (_:Wk N S i pv met ahead) (_:J m1=some (.lst wm)) (_:J a1=some (.lst wa)) (_:jq J wm met) (_:jq J wa ahead) (_:Off (λx=>x=m1\/x=a1) H2 J):OS N S a m1 a1 H2 k σ J
theorem EJ:ax ["nodes","met","ahead","within"] ["nodes"] (ak Ry):=L2.a8
variable{X:Er->Addr}
theorem EM(F:bM K "walk" "walk" Ry f fd)(T:jO K mg X)(O:M.Ok P w K mg base)(aK:↥Df 9 "steps_within" (IH M)):↥aM 10 f fd ["nodes"] (Jv M):=by
 show F.cU EJ ?_;intros;let#[a,m,tot,d,N,S,rfl,A1,Z,kQ]:=h;let hs:=y1;show#[_,(aj (cL 1 EJ.nd (bq ae))
  (aj (cL 2 EJ.nd (bq (aa (dZ (aa aF (aa (de T.sj) ae))) ae)))
  (aj (BO TK (aA jV (aC aO (by rfl) T.len T7 (aa (pv 2) ae)) ai (aI _)) (aj (cL 3 EJ.nd (pc aK hr ay (aa (pv 0) (aa (IW Uy PySem.F.slot_list_pop PySem.F.type_list_pop Li (pv 2)) ae))))
  (aj (aR (fA Uy WN WO iY (pv 1) (aa (pv 3) ae)))
  (aq (aR (fA Uy WN WO iY (pv 2) (aa (cY (cl:=[("nodes",s⁻¹+1)]) (caps:=[("nodes",0)]) #[rfl,av,av,rfl,by kernel_rfl,%[|1],by kernel_rfl,%[|1],av] rfl (cJ (pv 3)) (λ_ _ _ _=>iq (aA bD (pm (pv 1) O.cl O.kind hr ay (aa (aL (show zA _ (mM K)from bg) (pv 0) ai bZ) ae)) aF (aI _))) (λ_ _ _ _=>(pv 0))) ae)))))))
  (aq (aG (aC rS (by rfl) T.sorted lF (aa (pv 1) ae))))))),?_]
 show#[az,λm1 f1=>?_];let s1:=ah (X:=.lst []) f1;let e1:upd H m1 (.lst []) m1=some (.lst []):=ag;generalize upd H m1 (.lst [])=H1 at *;show#[by change 2<=sizeLine;omega,λY f2=>#[by change 1<=sizeLine;omega,λG f3=>?_]];let s2:=ah (X:=.tup [V.str "",V.int 0]) f2;let s3:=ah (X:=.lst [V.ref Y]) f3;let et:=s3 _ _ (ag (H:=H1) (a:=Y) (o:=.tup [V.str "",V.int 0]));let ea:upd (upd H1 Y (.tup [V.str "",V.int 0])) G (.lst [V.ref Y]) G=some (.lst [V.ref Y]):=ag;let em:=s3 _ _ (s2 _ _ e1);let ba:=s1.trans (s2.trans s3);let fa:H G=none:=aX (s1.trans s2) f3;let ma:m1≠G:=λz=>(by rwa[<-z,s2 _ _ e1]at f3);generalize upd (upd H1 Y (.tup [V.str "",V.int 0])) G (.lst [V.ref Y])=H2 at *;let aB:∀{x u},H x=some u->x≠m1/\x≠G:=λe=>#[λz=>(by rwa[z,f1]at e),λz=>(by rwa[z,fa]at e)];show#[OS N S a m1 G H2,#[(24),#[(0),[],[],[("",0)],[],[.ref Y],0,rfl,Z.Pp,em,ea,jq.nil,jq.one (p:=("",0)) et,λ_ _ e _=>e]],?_];rintro k σ J ⟨i,pv,met,ahead,I,wa,v3,hk,rfl,W,hm,ha,Tm,Ta,oJ⟩;let sJ:aH H J:=λx u e=>oJ _ _ (ba _ _ e) λz=>z.elim (aB e).1 (aB e).2;let AJ:=O.same A1 sJ;let lt:=W.lt Z;let ml:=W.Mi Z;let lm:=Tm.ln;let la:=Ta.ln;show#[0,G,wa,rfl,.inl (aW.of ha),_,0,rfl,0,?_];show c9 (λc=>?_) (λc=>?_)
 .let c0:0<wa.length:=(by have:=of_decide_eq_true c;omega);let ne:ahead≠[]:=λz=>(by rw[z,Yt]at la;omega);obtain⟨b,x,rfl⟩:∃b x,ahead=b++[x]:=#[2,(TB ne).symm];rw[wh,Tj]at lt la;let#[us,t,rfl,Tb,ht]:=Ta.last (v:=.a7);let W2:=W.next Z;let hx:x∈pv++(b++[x]):=L3 _ (L3 _ (DO.mpr rfl));let lx:=W.le x hx;show#[OS N S a m1 G H2 (k-1),λbc H' z=>#[k-1,af,z],?_];show#[0,0,.inl #[5,aW.of ha],G,_,.ref t,1,ha,by rw[wh,Tj,Nat.add_sub_cancel,SQ (G0 _),V7];rfl,?_];rw[Xd];let o1:Off (· = G) J (upd J G (.lst us)):=λy u e z=>(by rw[au z];show e);let ab:upd J G (.lst us) m1=some (.lst I):=(by rw[au ma];show hm);let a6:upd J G (.lst us) G=some (.lst us):=ag;let aT:=Tm.upd (o:=.lst us) ha;let a3:=Tb.upd (o:=.lst us) ha;let a0:upd J G (.lst us) t=some (.tup [.str x.1,.int x.2]):=(by rw[au (λz=>by rwa[z,ha]at ht)];show ht);let no:∀y,M.own m y->¬ y=G:=λy hy z=>O.live A1 hy (by rw[z];show fa);let na:¬ a=G:=λz=>by
   let#[dx,fs',ho,_]:=O.ob A1;rwa[z,fa]at ho
  let A2:=O.off AJ o1 no na;let o2:Off (λx=>x=m1\/x=G) H2 (upd J G (.lst us)):=λy u e z=>o1 _ _ (oJ _ _ e z) λq=>z (.inr q);generalize upd J G (.lst us)=J1 at *;show#[a,m,tot,d,N,S,t,x,rfl,A2,Z,a0,W.dn x hx,af,λJ2 q2 L U ao e2 T2=>?_];let l2:(jx S x).length<=40:=Td (Vo ..) (Z.len x.2);let lw:=T2.ln;show#[0,.inl #[5,aW.of (U _ _ ab)],0,m1,q2,I,L,1,U _ _ ab,e2,af,?_];let qm:q2≠m1:=λz=>(by rwa[z,ab]at ao);let o3:Off (· = m1) J2 (upd J2 m1 (.lst (I++L))):=λy u e z=>(by rw[au z];show e);let a4:upd J2 m1 (.lst (I++L)) m1=some (.lst (I++L)):=ag;let ad:upd J2 m1 (.lst (I++L)) G=some (.lst us):=(by rw[au (Ne.symm ma)];show U _ _ a6);let a2:=((aT.same (gg U)).app T2).upd (o:=.lst (I++L)) (U _ _ ab);let as:=(a3.same (gg U)).upd (o:=.lst (I++L)) (U _ _ ab);let T3:=T2.upd (o:=.lst (I++L)) (U _ _ ab);let e3:upd J2 m1 (.lst (I++L)) q2=some (.lst L):=(by rw[au qm];show e2);let A3:=O.off (O.same A2 U) o3 (λy hy z=>O.live A1 hy (by rw[z];show f1)) (λz=>by
   let#[dx,fs',ho,_]:=O.ob A1;rwa[z,f1]at ho)
  let o4:Off (λx=>x=m1\/x=G) H2 (upd J2 m1 (.lst (I++L))):=λy u e z=>o3 _ _ (U _ _ (o2 _ _ e z)) λq=>z (.inl q);generalize upd J2 m1 (.lst (I++L))=J3 at *;show#[0,.inl #[5,aW.of ad],0,q2,rfl,#[_,aW.of e3],?_];show gM (K:=K) (a:=q2) (xs:=L) (λj ys J'=>jq J3 ys (((jx S x).take j).filter λq=>dq N q.2)/\aH J3 J') #[jq.nil,λ_ _ e=>e] (λj ys J' _ z=>aW.of (z.2 _ _ e3)) ?_ ?_
  .rintro j v ys J' hv ⟨TA,ac⟩;let#[p,t5,e5,rfl,am]:=T3.at_ j v hv;let A5:=O.same A3 ac;let#[dx,fs',ho,bb,a5]:=O.ob A5;let ly:ys.length<=40:=by
    have:(((jx S x).take j).filter λq=>dq N q.2).length<=((jx S x).take j).length:=UG ..;rw[HC]at this;rw[TA.ln];omega
   show#[0,a,dx,0,ho,a5 _ av,0,t5,_,(1),.int p.2,1,dC.of (ac _ _ am),aD (j:=1) rfl,a,m,tot,d,N,p.2,rfl,A5,λJ6 s6=>#[by cases N p.2<;>rfl,0,?_]];rw[kB];let tk:(jx S x).take (j+1)=(jx S x).take j++[p]:=(by rw[Um,e5];rfl);cases cd:dq N p.2 with
   |true =>
    show dt #[0,af,?_,ac.trans s6];rw[tk,U5,UE (p:=λq:gO=>dq N q.2) cd];show TA.app (jq.one am)
   |false =>
    show ck #[?_,ac.trans s6];rw[tk,U5,Uw (p:=λq:gO=>dq N q.2) (by rw[cd];nofun),Wh,Tq];show TA
  .rintro ys J' ⟨TA,ac⟩ r fr;rw[lw,UH]at TA;let s7:=ac.trans (ah (X:=.lst ys) fr);let lf:((jx S x).filter λq=>dq N q.2).length<=(jx S x).length:=UG ..;let ly:=TA.ln;let lb:=as.ln;show#[G,r,us,ys,1,s7 _ _ ad,ag,af,?_];show#[i+1,pv++[x],met++jx S x,b++(jx S x).filter λq=>dq N q.2,I++L,us++ys,_,af,rfl,W2,?_,ag,4,λy u e z=>?_]
   .rw[au ma];show s7 _ _ a4
   .show(a2.same (gg s7)).upd (s7 _ _ ad)
   .show((as.app TA).same (gg s7)).upd (s7 _ _ ad)
   .rw[au λq=>z (.inr q)];show s7 _ _ (o4 _ _ e z)
 .let c0:ahead=[]:=Ui.mp (by
   have:¬ (0:Int)<(wa.length:Nat):=λz=>c (decide_eq_true z);omega)
  subst c0;rw[W.done Z]at Tm;let ap:=W.done Z;show#[0,m1,I,HS N S,rfl,aW.of hm,Tm,by rw[<-ap];show W.RN Z,by rw[<-ap];omega,λl2 ar f5 T5=>?_];let s5:=ah (X:=.lst ar) f5;show kQ _ l2 ar (sJ.trans s5) (aX sJ f5) ag (T5.same (gg s5))
noncomputable def Af(nd:Node):List Int:=if nd.dir=true then[]else nd.cs
inductive Iv(H:Hp)(N:NS)(v:V)(x:gO):Prop
 |mk(nd:Node)(t cl:Addr)(_:N x.2=some nd)(_:v=.ref t)(_:H t=some (.tup [.str x.1,.str (ph nd.dir),.int nd.ln,.ref cl]))(_:H cl=some (.lst ((Af nd).map V.int)))
structure En(H:Hp)(N:NS)(ws:qAh)(ps:List gO):Prop where
 ln:ws.length=ps.length
 at_:∀(i:Nat)(v:V),ws[i]?=some v->∃x,ps[i]?=some x/\Iv H N v x
variable{N:NS}{v:V}{x:gO}
theorem Iv.same(A:Iv H N v x)(s:aH H H'):Iv H' N v x:=by
 let#[nd,t,cl,a,b,c,d]:=A;show#[nd,t,cl,a,b,s _ _ c,s _ _ d]
variable{ws:qAh}{ps:List gO}
theorem En.same(A:En H N ws ps)(s:aH H H'):En H' N ws ps:=#[A.ln,λi v h=>by
 let#[x,e,q]:=A.at_ i v h;show#[x,e,q.same s]]
theorem En.snoc(A:En H N ws ps)(B:Iv H N v x):En H N (ws++[v]) (ps++[x]):=by
 let l:=A.ln;show#[by rw[wh,wh,l];rfl,λi w h=>?_];cases c:i<ws.length
 .rw[SW c]at h;let#[y,e,q]:=A.at_ i w h;show#[y,by rw[SW af];show e,q]
 .rw[SQ af]at h;let hi:i-ws.length=0:=by
   have:=(y0.mp h).1;rw[Tj]at this;omega
  rwa[hi]at h;show#[x,by rw[SQ af, <-l,hi];rfl,B]
inductive JC(M:b6)(CF:Addr)(vs:qAh)(H:Hp)(Q:VK)(e:XK):Prop
 |mk(z:FA)(m:M.St)(tot d:Nat)(N:NS)(h:HT)(x:gO)(nd:Node)(_:vs=[.ref z.a,.str x.1,.int x.2])(_:dh M CF H z m tot N h d)(_:N x.2=some nd)(_:∀(H':Hp)(v:V),aH H H'->Iv H' N v x->Q v H')
inductive AU(M:b6)(CF:Addr)(v:qAh)(H:Hp)(Q:VK)(e:XK):Prop
 |mk(z:FA)(m:M.St)(tot d:Nat)(N:NS)(S:SS)(h:HT)(_:v=[.ref z.a])(_:dh M CF H z m tot N h d)(_:Fz N S)(_:∀(H':Hp)(q:Addr)(ws:qAh),aH H H'->H q=none->H' q=some (.lst ws)->En H' N ws (uN (HS N S))->Q (.ref q) H')
theorem wq{N:NS}{S:SS}(F:Fz N S):∀(k i:Nat){pv met ahead:List gO},k+i=24->Wk N S i pv met ahead->∃i pv met,Wk N S i pv met []
 |0,i,pv,met,ahead,h,W=>by
  have:=W.lt F;have:ahead=[]:=Ui.mp af;show#[i,pv,met,this▸W]
 |k+1,i,pv,met,ahead,h,W=>by
  cases c:ahead=[]
  .show#[i,pv,met,c▸W]
  .obtain⟨b,x,rfl⟩:∃b x,ahead=b++[x]:=#[2,(TB c).symm];show wq F k (i+1) af (W.next F)
variable{S:SS}
theorem NX(F:Fz N S)(h:x∈HS N S):∃nd,N x.2=some nd:=by
 let#[i,pv,met,W]:=wq F 24 0 rfl F.Pp;rw[<-W.done F,W.mt]at h;let#[l,I,G]:=List.mem_flatten.mp h;let#[y,U,rfl]:=Tc.mp I;let#[L,Y]:=F.mJ (W.dn y (Ug _ U));let c:1<=cn (S y.2) x.2:=by
  rw[<-mP y];show ZC.mpr (Tc.mpr #[x,G,rfl])
 have:=kg S x.2 L Y;have:=F.rf x.2;show DS ?_;have:(0:Int)<=(if x.2=0 then 1 else 0):=(by split<;>decide);omega
theorem wA(F:Fz N S):(uN (HS N S)).length<=960:=by
 let#[i,pv,met,W]:=wq F 24 0 rfl F.Pp;let l:=W.lt F;let m:=W.Mi F;unfold uN;rw[(Vs _ Lm).length_eq, <-W.done F];omega
abbrev Rh:Tg:=top 81
abbrev OV:Tg:=top 80
theorem Lh:ax ["files","path","node","told","cells"] ["files","path","node"] (ak Rh):=L2.a8
variable{CF:Addr}
theorem vT(F:bM K "tree_row" "tree_row" Rh f fd)(TF:d7 K CF)(O:M.Ok P w K mg base)(as:⇑Md 9 CF "stat" (Eu M CF X))(ap:⇑Md 10 CF "read_at" (EN M CF X)):↥aM 11 f fd ["files","path","node"] (JC M CF):=by
 show F.cU Lh ?_;intros;let#[z,m,tot,d,N,h,x,nd,rfl,I,G,kQ]:=h;let hs:=y1;let#[dy,hy]:=I.ob;let#[n0,n1]:=(O.ok I.A).use _ _ G;let l3:=(O.ok I.A).uS _ _ G;show#[_,(aj (cL 3 Lh.nd (pm (pv 0) TF.cl as hr gk (aa (pv 2) ae)))
  (aj (cL 4 Lh.nd (gh (aA bD (aL bg (pv 3) ai bZ) aF (aI _)) (bq ae) (pm (pv 0) TF.cl ap hr gk (aa (pv 2) (aa ai (aa (aL bg (pv 3) ai bZ) ae))))))
  (aq (aG (dZ (aa (pv 1) (aa (aL bg (pv 3) ai bZ) (aa (aL bg (pv 3) ai bZ) (aa (pv 4) ae))))))))),?_]
 show#[0,z.a,dy,0,hy,a9 av av,0,z,m,tot,d,N,h,x.2,rfl,I,af,λc=>(by rwa[G]at c),λaB ab H1 L Y f1 U=>?_];rwa[G]at ab;let am:=Y _ _ hy;unfold iz;dsimp only;show share (λσ J=>∃cl,kZ (σ=#v[.ref z.a,.str x.1,.int x.2,.ref L,.ref cl]) (aH H1 J) (J cl=some (.lst ((Af nd).map V.int)))) (λu' Z=>?_) ?_
 .show#[0,L,_,(0),.str (ph nd.dir),1,dC.of U,aD (j:=0) rfl,rfl,0,?_];let ed:decide (V.str (ph nd.dir)=.str "dir")=nd.dir:=(by have:=kB N x.2;rw[G,fG G]at this;show this);rw[ed];cases c:nd.dir with
  |true =>
   show dt #[az,λcl fc=>Z _ _ #[cl,rfl,ah fc,?_]];rw[ag];unfold Af;rw[aa3 c];rfl
  |false =>
   let e2:JO nd=(nd.cs.length:Int):=(by unfold JO;rw[aa2 (by rw[c];nofun)]);let er:pQ N x.2 0 (nd.cs.length:Int)=.ok nd.cs:=by
    let r0:vI N x.2=none:=(by unfold vI;rw[G];show aa2 (by rw[c];nofun));unfold pQ;rw[r0];dsimp only;rw[aa3 #[af,af],aa3 #[af,af],jZ G];change Except.ok ((nd.cs.drop 0).take nd.cs.length)=_;rw[VG,UH]
   show ck #[0,z.a,dy,0,am,a9 av av,0,0,L,_,(2),.int (JO nd),1,dC.of U,aD (j:=2) rfl,z,m,tot,d,N,h,x.2,(0),(nd.cs.length:Int),by rw[e2];rfl,I.same O Y,#[af,az,af],λe he=>(by rwa[er]at he),λcs ad J q s2 f2 ao=>Z _ _ #[q,rfl,s2,?_]];rwa[er]at ad;unfold Af;rw[aa2 (by rw[c];nofun)];show ao
 .rintro σ J ⟨cl,rfl,sJ,ar⟩;let ac:=sJ _ _ U;show#[0,0,L,_,(0),.str (ph nd.dir),1,dC.of ac,aD (j:=0) rfl,0,L,_,(1),.int nd.ln,1,dC.of ac,aD (j:=1) rfl,0,by change 4<=sizeLine;omega,λt ft=>?_];let s3:=ah (X:=.tup [.str x.1,.str (ph nd.dir),.int nd.ln,.ref cl]) ft;show kQ _ _ (Y.trans (sJ.trans s3)) #[nd,t,cl,G,rfl,ag,s3 _ _ ar]
theorem RO:ax ["files"] ["files"] (ak OV):=L2.a8
theorem Gq(F:bM K "tree" "tree" OV f fd)(TF:d7 K CF)(O:M.Ok P w K mg base)(ad:↥Df 10 "walk" (Jv M))(ab:↥Df 11 "tree_row" (JC M CF)):↥aM 12 f fd ["files"] (AU M CF):=by
 show F.cU RO ?_;intros;let#[z,m,tot,d,N,S,h,rfl,I,Z,kQ]:=h;let hs:=y1;let#[dy,hy]:=I.ob;let wl:=wA Z;show#[_,(aq (aG (cY (cl:=[("files",s⁻¹+1)]) (caps:=[("files",0)]) #[rfl,av,av,rfl,by kernel_rfl,%[|1],by kernel_rfl,%[|1],av] rfl (cJ (pc ad hr ay (aa (aE (pv 0) rfl) ae))) (λ_ _ _ _=>eM) (λ_ _ _ _=>(pc ab hr ay (aa (pv 1) (aa (aL (show zA _ (mM K)from bg) (pv 0) ai bZ) (aa (aL (show zA _ (mM K)from bg) (pv 0) ai bZ) ae)))))))),?_];show#[0,z.a,CF,dy,_,.ref z.na,rfl,hy,TF.cl,TF.nN,bT kf,z.na,m,tot,d,N,S,rfl,I.A,Z,λH1 q1 ws L f1 e1 T1=>#[q1,rfl,#[_,aW.of e1],?_]];show hZ (K:=K) (a:=q1) (xs:=ws) (λi ys J=>En J N ys ((uN (HS N S)).take i)/\aH H1 J) #[#[rfl,λi v h=>by cases h],λ_ _ e=>e] (λi ys J _ z=>aW.of (z.2 _ _ e1)) ?_ ?_
 .rintro i v ys J hv ⟨TA,G⟩;let#[x,t,ex,rfl,U]:=T1.at_ i v hv;let#[nd,ac]:=NX Z ((Vs _ Lm).mem_iff.mp (SO ex));let ly:ys.length<=960:=(by rw[TA.ln,HC];omega);show#[0,0,t,_,(0),.str x.1,1,dC.of (G _ _ U),aD (j:=0) rfl,0,t,_,(1),.int x.2,1,dC.of (G _ _ U),aD (j:=1) rfl,z,m,tot,d,N,h,x,nd,rfl,I.same O (L.trans G),ac,λJ2 v2 Y r2=>#[af,?_,G.trans Y]];rw[Um,ex];show(TA.same Y).snoc r2
 .rintro ys J ⟨TA,G⟩ r fr;rw[T1.ln,UH]at TA;let s3:=ah (X:=.lst ys) fr;show kQ _ r ys (L.trans (G.trans s3)) (aX (L.trans G) fr) ag (TA.same s3)
end Fs
namespace L2
open PySem PySem.Spec PyProof.Rows
theorem yc{X:Cx}{CX:nJ}{k:Nat}{C:Addr}{ps:qAb}{sp:Sp}{E:XK}{x:Str}{p pos apos:Vw}{e:Tr}{es:qAf}{t:TA}{pl:WT Bool}(Y:∃u,X.mg x=some u/\RelV (.ref C) u)(c:PySem.W.Dv X.K C f)(F:aM X.prog X.w X.K X.mg X.base CX k f fd ps sp)(U:cX k X.A)(hb:Binds X.K fd ps [])(hx:Passes CX X E)(ha:PA X (e::es) t)(hg:%[Gl X x|0])(hd:%[(x==("__debug__" : Str))=false|0])
  (ab:%[qAj X e es|0]) (ac:%[(backTo pos (starEach es X.env)).any (·.1)=false|0])
  (Z:eval (.Call (.Attribute (.Name x p) "__init__" apos) (e::es) [] pos) X.env=(do
   let ov <-eval (.Name x p) X.env
   Xk apos.atName
   let (f,first) <-VT [ov] (getMethod ov "__init__" pl)
   Xw pos f first (backTo pos (starEach (e::es) X.env)) (V1 pos (U2 [] X.env))):=by rfl) :
  PE X (.Call (.Attribute (.Name x p) "__init__" apos) (e::es) [] pos) (B6 sp [] E t):=by
 intros Q I h;let hn:PE X (.Name x p) (tC (.ref C)):=de Y hg hd;show WR (pl:=pl) (bO (hn pins s σ H (λv H1=>v=.ref C/\H1=H) I #[1]) λu s1 z=>?_) Z;let#[v,H1,L,rx,rfl,rfl]:=z;obtain rfl:u=Value.ref C:=rx;show PySem.W.Ft L.jj c ?_;show WG (first:=[]) (h₀:=X.base) I.ok.mod.Eh c.kp (bO (ha pos pins _ σ _ _ (L.tok _) h) λus s2 z=>?_) ab ac;let#[vs,H2,G,r,q2]:=z;show#[G.jj,?_];show rB (us:=us) (vs:=vs) F U hb (dvs:=[]) .nil hx G r q2
end L2
namespace Fs
open PySem L2 Dk Tb Srt
inductive Gf(CF:Addr)(v:qAh)(H:Hp)(Q:VK)(e:XK):Prop
 |mk(a dx na:Addr)(_:v=[.ref a,.ref na])(_:H a=some (.ins CF dx []))(_:∀(H':Hp)(hd:Addr),H hd=none->H' a=some (.ins CF dx (f2 "nodes" "holds" (.ref na) (.ref hd)))->H' hd=some (.dK [])->Off (· = a) H H'->Q .a7 H')
abbrev Pe:Tg:=inClass (top 66) 0
theorem OZ:ax ["self","nodes"] ["self","nodes"] (ak Pe):=L2.a8
variable{CF:Addr}
theorem uT(F:bM K "__init__" "Files.__init__" Pe f fd)(G:d7 K CF):↥aM 1 f fd ["self","nodes"] (Gf CF):=by
 show F.cU OZ ?_;intros;let#[a,dx,na,rfl,L,k]:=h;show#[_,(aj (dS (pv 0) (pv 1) rfl)
  (aq (dS (pv 0) iE rfl))),?_]
 show#[0,0,a,CF,dx,[],rfl,L,G.cl,G.nN,az,?_];dsimp only;intro dd hd;let nd:dd≠a:=λe=>(by rwa[e,ag]at hd);let I:H dd=none:=(by rw[au nd]at hd;show hd);show#[0,a,CF,dx,0,by rw[au (Ne.symm nd),ag],G.cl,G.nH,by change 1<1000;decide,?_];show k _ dd I ag ?_ λb o e z=>?_
 .rw[au nd,ag]
 .rw[au z,au (λq=>by rwa[q,I]at e),au z];show e
theorem FX{r:qAa}{st:Nat}(h:st+8<=r.length):iC r ((r.drop st).take 8) st=r:=by
 unfold iC;rw[Te, <-Zd,TR,TR]
variable{c:DA}{CN a:Addr}{H H':Hp}{b:BA}{s s':BS}{tot d:Nat}{N:NS}{bk:qa4}{n:Int}{Q:VK}{e3:XK}
theorem NR.NZ(A:NR c CN H a b s tot N bk d)(L:N n=none)(I:0<=n)(G:n<24)(k:∀(H':Hp)(s':BS),NR c CN H' a b s' tot N bk d->cW b s H s' H'->Q .a7 H'):jF c CN [.ref a,.int n] H Q e3:=by
 let#[r,F,lr,U,_]:=A.at I G;let b0:bk n=[]:=Ui.mp (by rw[A.R.len n,L];rfl);let hz:IF 8 0=(r.drop (rs n)).take 8:=(by rw[U,L];rfl);let ab:=yP n;let Y:iC r (IF 8 0) (rs n)=r:=(by rw[hz];show FX af);show#[a,b,s,tot,n,r,rfl,A.O,I,G,F,λH' s' O g dd st=>k H' s' ?_ st];rw[Y]at g dd;rw[aa3 F]at dd;let Z:lb s'=lb s:=funext λj=>by
  rw[g j];cases z:j=rb n
  .rw[aa3 z,z,F]
  .rw[aa2 z]
 show#[O,by rw[Z];show A.R,Td dd A.d]
theorem NR.Ib(A:NR c CN H a b s tot N bk d)(I:N n=none)(G:0<=n)(F:n<24)(q:∀H',aH H H'->Q (.int 0) H'):jz 1 c CN [.ref a,.int n] H Q e3:=by
 let#[r,L,_,_,g]:=A.at G F;rw[I]at g;show#[a,b,s,tot,n,r,(0),rfl,A.O,G,F,L,g 1 _ az rfl,q]
noncomputable def uJ(p F:Addr)(cs:qAc)(x:Addr):Prop:=x=p\/x=F\/x∈cs
inductive uP(c:DA)(CN:Addr)(v:qAh)(H:Hp)(Q:VK)(e:XK):Prop
 |mk(a dx p bl:Addr)(d:Int)(cs:qAc)(bs:List (List Int))(_:v=[.ref a,.ref p])(_:H a=some (.ins CN dx []))(_:bt c.C H p bl d .a7 false cs bs)(_:48<=bs.length/\bs.length<=300)(_:bs[0]?=some lV)(_:∀(H':Hp)(dr dd:Addr),NO c CN H' a #[dr,p,bl] #[dd,cs,bs,[]] (bs.length-48)->Off (· = a) H H'->H dr=none->H dd=none->Q .a7 H')
abbrev RZ:Tg:=inClass (top 42) 0
theorem QA:ax ["self","disk"] ["self","disk"] (ak RZ):=L2.a8
theorem rE{fD:Addr}{fdD:DD}(F:bM K "__init__" "Nodes.__init__" RZ f fd)(T:kH K mg CN)(TC:Txt K mg c.C)(MD:Mk K c.CD fD)(ao:↥aM 1 fD fdD ["self","disk"] (sO c))(as:mg "Draft" = some (.ref c.CD))(aB:Binds K fdD ["self","disk"] [])(GI:↥Md 1 c.C "image" (yO c.C)):↥aM 3 f fd ["self","disk"] (uP c CN):=by
 show F.cU QA ?_;intros;let#[a,dx,p,U,d,cs,bs,rfl,ho,D,ln,z0,k]:=h;let hs:=y1;show#[_,(aj (dS (pv 0) (gx MD ao (hr.mono az) (by rfl) as aB .nil ay (aa (pv 1) ae)) rfl)
  (aq (dS (pv 0) (aC aO (by rfl) T.len T7 (aa (bw bK (wB (pv 1) TC.cl GI hr ay) (bA (de T.f9)) b8) ae)) rfl))),?_]
 show#[0,λI dz Y am ne=>?_];let s1:aH H (upd (upd H dz (.own I)) I (.ins c.CD dz [])):=(ah am).trans (ah (by rw[au (Ne.symm ne)];show Y));show#[I,dz,p,U,d,cs,bs,rfl,ag,D.same s1,ln,z0,λH1 dd Z o1 ap=>#[3]];let ad:H dd=none:=aX s1 ap;let G:H1 a=some (.ins CN dx []):=o1 _ _ (s1 _ _ ho) λz=>(by rwa[z,Y]at ho);show#[0,a,CN,dx,[],rfl,G,T.cl,T.nD,az,?_];let o2:Off (· = a) H1 (upd H1 a (.ins CN dx (bz "draft" (.ref I) []))):=λy u e z=>(by rw[au z];show e);let ab:∀y,iA #[I,p,U] #[dd,cs,bs,[]] y->¬ y=a:=λy hy z=>by
  subst z;let A1:NR c CN (upd H1 y (.ins CN dx (f2 "draft" "total" (.ref I) (.int 0)))) y #[I,p,U] #[dd,cs,bs,[]] 0 (λ_=>none) (λ_=>[]) 0\/True:=.inr trivial;let#[aK,h2]:=Z.ob;let#[d2,L]:=Z.dk;let#[ac,h3]:=L.ob;rcases hy with e|e|e|e|e|⟨x,hx,_⟩
  .rw[e]at G;rw[h2]at G;simp only[UB,HO.ins.injEq]at G;have:=G.2.2;rwa[iU kd]at this
  .rw[e]at G;rw[h3]at G;simp only[UB,HO.ins.injEq]at G;have:=G.2.2;rwa[dJ]at this
  .rw[e]at G;rwa[L.hb]at G
  .rw[e]at G;rwa[Z.hd]at G
  .let#[ns,q]:=fS L.hc _ e;rwa[q.1]at G
  .cases hx
 let B2:=Z.off o2 ab;let ar:upd H1 a (.ins CN dx (bz "draft" (.ref I) [])) a=some (.ins CN dx (bz "draft" (.ref I) [])):=ag;let oH:Off (· = a) H (upd H1 a (.ins CN dx (bz "draft" (.ref I) []))):=λy u e z=>o2 _ _ (o1 _ _ (s1 _ _ e) λq=>by rwa[q,Y]at e) z;dsimp only;generalize upd H1 a (.ins CN dx (bz "draft" (.ref I) []))=H2 at *;let#[d2,L]:=B2.dk;let#[ac,h3]:=L.ob;show#[0,p,ac,0,h3,fj _ _ _ _ av av av av,p,U,d2,.a7,false,cs,bs,rfl,L,ln.2,λH3 l fs s3 f3 e3 R3 _ _=>?_];show#[(48),rfl,l,0,aW.of e3,λq4 f4=>?_];rw[show dg (fs.map V.ref) (some 48) none=(fs.map V.ref).drop 48 from qQ (s:=48)];let s4:=ah (X:=.lst ((fs.map V.ref).drop 48)) f4;show#[q4,0,.inl (aW.of ag),0,a,CN,dx,0,s4 _ _ (s3 _ _ ar),T.cl,T.nT,by change 1<1000;decide,?_];let fl:((fs.map V.ref).drop 48).length=bs.length-48:=(by rw[Tu,rz,ir R3]);rw[fl];let B4:=(B2.same s3).same s4;let o5:Off (· = a) (upd H3 q4 (.lst ((fs.map V.ref).drop 48))) (upd (upd H3 q4 (.lst ((fs.map V.ref).drop 48))) a (.ins CN dx (bz "total" (.int ((bs.length-48:Nat):Int)) (bz "draft" (.ref I) [])))):=λy u e z=>(by rw[au z];show e);show k _ I dd #[#[dx,ag],B4.off o5 ab,by change bs.length=48+(bs.length-48);omega] (λy u e z=>o5 _ _ (s4 _ _ (s3 _ _ (oH _ _ e z))) z) Y ad
noncomputable def N0:NS:=cA (λ_=>none) 0 (some #[true,(1),[]])
theorem Hg:∀m,us N0 m=0
 |0=>rfl
 |m+1=>by
  rw[kC,Hg m];unfold N0 cA;cases z:(m:Int)=0
  .rw[aa3 z];rfl
  .rw[aa2 z];rfl
theorem i3{nd:Node}(h:N0 n=some nd):n=0/\nd=#[true,(1),[]]:=by
 unfold N0 cA at h;cases z:n=0
 .rw[aa3 z]at h;cases h;show#[z,rfl]
 .rw[aa2 z]at h;cases h
theorem MS(h:tot<=252):HP tot N0:=#[λn nd e=>by let#[rfl,_]:=i3 e;show#[az,az],λn nd e=>by let#[_,rfl]:=i3 e;show Tp _,by rw[Hg];show Tp _,h]
theorem Nt:Fz N0 (λ_=>[]):=by
 show#[rfl,λn nd e _=>?_,λ_=>Tp _,λ_ s hs=>(by cases hs),λ_=>Vr,λ_ _=>rfl,λn=>?_,λn nd e _=>?_,λn nd e=>?_]
 .let#[_,rfl]:=i3 e;rfl
 .let z:refs (λ_=>[]) n=0:=by
   have:∀m,KD (λ_=>[]) n m=0:=λm=>by
    induction m with
    |zero=>rfl
    |succ m F=>rw[oi,F];rfl
   show this 24
  rw[z];unfold lk N0 cA;cases c:n=0
  .rw[aa3 c,aa3 c];decide
  .rw[aa2 c,aa2 c];show Vg _
 .let#[_,rfl]:=i3 e;rfl
 .let#[rfl,_]:=i3 e;show#[az,az]
variable{l:Addr}
theorem qA{X Y:HO}(h:H l=none):aH H (upd (upd H l X) l Y):=λb o e=>by rw[au (aV e h),au (aV e h)];show e
theorem Off.nn{x:Addr}(o:Off (· = a) H H')(n:x≠a)(h:H' x=none):H x=none:=by
 cases e:H x with
 |none=>rfl
 |some u=>rwa[o x u e n]at h
inductive Ij(CP:Addr)(v:qAh)(H:Hp)(Q:VK)(e:XK):Prop
 |mk(a dx:Addr)(tot:Nat)(_:v=[.ref a,.int tot])(_:H a=some (.ins CP dx []))(_:tot<=252)(_:∀(H':Hp)(m:PS),uA CP H' a m tot N0 0->(∀x,vQ m x->H x=none)->Off (· = a) H H'->Q .a7 H')
abbrev Lb:Tg:=inClass (top 73) 0
theorem Nr:ax ["self","total"] ["self","total"] (ak Lb):=L2.a8
variable{X:Er->Addr}{CP:Addr}
theorem sX(F:bM K "__init__" "PlainNodes.__init__" Lb f fd)(TP:Az K mg CP)(T:jO K mg X):↥aM 1 f fd ["self","total"] (Ij CP):=by
 show F.cU Nr ?_;intros;let#[a,dx,tot,rfl,ho,ht,k]:=h;show#[_,(aj (dS (pv 0) (pv 1) rfl)
  (aj (dS (pv 0) (so (keys:=[some _]) (values:=[_]) (oj (de T.sj) aF sF) rfl rfl (Yk _ _) (WB rfl)) rfl)
  (aj (dS (pv 0) (so (keys:=[some _]) (values:=[_]) (oj (de T.sj) ai sF) rfl rfl (Yk _ _) (WB rfl)) rfl)
  (aq (dS (pv 0) (so (keys:=[some _]) (values:=[_]) (oj (de T.sj) (bq ae) sF) rfl rfl (Yk _ _) (WB rfl)) rfl))))),?_]
 show#[0,0,a,CP,dx,[],rfl,ho,TP.cl,TP.nT,az,?_];dsimp only;let o1:Off (· = a) H (upd H a (.ins CP dx (bz "total" (.int tot) []))):=λy u e z=>(by rw[au z];show e);let h1:upd H a (.ins CP dx (bz "total" (.int tot) [])) a=some (.ins CP dx (bz "total" (.int tot) [])):=ag;generalize upd H a (.ins CP dx (bz "total" (.int tot) []))=H1 at *;intro kd fk;show#[ag,[(NC 0,.str "dir")],rfl,az,?_];let s2:=qA (X:=.dK []) (Y:=.dK (eB [] [(NC 0,.str "dir")])) fk;let ek:upd (upd H1 kd (.dK [])) kd (.dK (eB [] [(NC 0,.str "dir")])) kd=some (.dK [(NC 0,.str "dir")]):=ag;let U:kd≠a:=λz=>(by rwa[z,h1]at fk);let aT:H kd=none:=Off.nn o1 U fk;show#[0,a,CP,dx,0,s2 _ _ h1,TP.cl,TP.nK,by change 1<1000;decide,?_];dsimp only;generalize upd (upd H1 kd (.dK [])) kd (.dK (eB [] [(NC 0,.str "dir")]))=H2 at *;let o3:Off (· = a) H (upd H2 a (.ins CP dx (bz "kinds" (.ref kd) (bz "total" (.int tot) [])))):=λy u e z=>(by rw[au z];show s2 _ _ (o1 _ _ e z));let h3:upd H2 a (.ins CP dx (bz "kinds" (.ref kd) (bz "total" (.int tot) []))) a=some (.ins CP dx (bz "kinds" (.ref kd) (bz "total" (.int tot) []))):=ag;let ap:upd H2 a (.ins CP dx (bz "kinds" (.ref kd) (bz "total" (.int tot) []))) kd=some (.dK [(NC 0,.str "dir")]):=(by rw[au U];show ek);generalize upd H2 a (.ins CP dx (bz "kinds" (.ref kd) (bz "total" (.int tot) [])))=H3 at *;intro lk fl;show#[ag,[(NC 0,.int 1)],rfl,az,?_];let s4:=qA (X:=.dK []) (Y:=.dK (eB [] [(NC 0,.int 1)])) fl;let el:upd (upd H3 lk (.dK [])) lk (.dK (eB [] [(NC 0,.int 1)])) lk=some (.dK [(NC 0,.int 1)]):=ag;let ad:lk≠a:=λz=>(by rwa[z,h3]at fl);let a2:H lk=none:=Off.nn o3 ad fl;let aK:kd≠lk:=λz=>(by rwa[<-z,ap]at fl);show#[0,a,CP,dx,0,s4 _ _ h3,TP.cl,TP.nL,by change 2<1000;decide,?_];dsimp only;let aB:=s4 _ _ ap;generalize upd (upd H3 lk (.dK [])) lk (.dK (eB [] [(NC 0,.int 1)]))=L at *;let o5:Off (· = a) H (upd L a (.ins CP dx (bz "links" (.ref lk) (bz "kinds" (.ref kd) (bz "total" (.int tot) []))))):=λy u e z=>(by rw[au z];show s4 _ _ (o3 _ _ e z));let h5:upd L a (.ins CP dx (bz "links" (.ref lk) (bz "kinds" (.ref kd) (bz "total" (.int tot) [])))) a=some (.ins CP dx (bz "links" (.ref lk) (bz "kinds" (.ref kd) (bz "total" (.int tot) [])))):=ag;let as:upd L a (.ins CP dx (bz "links" (.ref lk) (bz "kinds" (.ref kd) (bz "total" (.int tot) [])))) kd=some (.dK [(NC 0,.str "dir")]):=(by rw[au U];show aB);let ar:upd L a (.ins CP dx (bz "links" (.ref lk) (bz "kinds" (.ref kd) (bz "total" (.int tot) [])))) lk=some (.dK [(NC 0,.int 1)]):=(by rw[au ad];show el);generalize upd L a (.ins CP dx (bz "links" (.ref lk) (bz "kinds" (.ref kd) (bz "total" (.int tot) []))))=I at *;intro G fs';show#[az,λla Z=>?_];let ac:la≠G:=λz=>(by rwa[z,ag]at Z);let ab:I la=none:=(by rw[au ac]at Z;show Z);show#[by rw[au (Ne.symm ac),ag],[(NC 0,.ref la)],rfl,WB rfl,?_];let s6:aH I (upd (upd (upd I G (.dK [])) la (.lst [])) G (.dK (eB [] [(NC 0,.ref la)]))):=λy u e=>by
  rw[au (aV e fs'),au (aV e ab),au (aV e fs')];show e
 let es:upd (upd (upd I G (.dK [])) la (.lst [])) G (.dK (eB [] [(NC 0,.ref la)])) G=some (.dK [(NC 0,.ref la)]):=ag;let ea:upd (upd (upd I G (.dK [])) la (.lst [])) G (.dK (eB [] [(NC 0,.ref la)])) la=some (.lst []):=(by rw[au ac,ag]);let ao:G≠a:=λz=>(by rwa[z,h5]at fs');let am:la≠a:=λz=>(by rwa[z,h5]at ab);let a0:H G=none:=Off.nn o5 ao fs';let a3:H la=none:=Off.nn o5 am ab;show#[0,a,CP,dx,0,s6 _ _ h5,TP.cl,TP.nS,by change 3<1000;decide,?_];let a1:=s6 _ _ as;let a4:=s6 _ _ ar;generalize upd (upd (upd I G (.dK [])) la (.lst [])) G (.dK (eB [] [(NC 0,.ref la)]))=H6 at *;show k _ #[kd,lk,G,[(0,(la,#[true,(1),[]]))]] #[#[dx,ag],4,?_,λx hx=>?_,TQ.mpr #[λz=>(by cases z),Vr],#[aK,λz=>?_,λz=>?_],λn=>?_,MS ht] (λx hx=>?_) λy u e z=>?_
 .rw[au U];show a1
 .rw[au ad];show a4
 .rw[au ao];show es
 .rw[DO.mp hx,au am];show ea
 .let z':kd=G:=z;rwa[<-z',as]at fs'
 .let z':lk=G:=z;rwa[<-z',ar]at fs'
 .unfold N0 cA;rw[bu];cases z:n=0
  .rw[aa3 z,aa3 z.symm];rfl
  .rw[aa2 z,aa2 (Ne.symm z)];rfl
 .rcases hx with z|z|z|⟨y,hy,z⟩
  .rw[z];show aT
  .rw[z];show a2
  .rw[z];show a0
  .rw[z,DO.mp hy];show a3
 .rw[au z];show s6 _ _ (o5 _ _ e z)
noncomputable def rd(bs:List (List Int))(j:Int):Option (List Int):=bs[j.toNat]?
variable{cs:qAc}
theorem wM{dd:Addr}{bs:List (List Int)}:lb #[dd,cs,bs,[]]=rd bs:=rfl
theorem Mm(h:s.D=[]):lb s=rd s.bs:=funext λj=>by unfold lb rd;rw[h];rfl
inductive K7(c:DA)(CN CF:Addr)(v:qAh)(H:Hp)(Q:VK)(e:XK):Prop
 |mk(a dx p bl:Addr)(d:Int)(cs:qAc)(bs:List (List Int))(N:NS)(bk:qa4)(_:v=[.ref a,.ref p])(_:H a=some (.ins CF dx []))(_:bt c.C H p bl d .a7 false cs bs)(_:48<=bs.length/\bs.length<=300)(_:bs[0]?=some lV)(_:Rep (rd bs) (bs.length-48) N bk)(_:∀(H':Hp)(z:FA)(m:(sL c CN).St),z.a=a->dh (sL c CN) CF H' z m (bs.length-48) N [] 0->(∀x,(sL c CN).own m x->uJ p bl cs x\/H x=none)->H z.na=none->H z.hd=none->Off (· = a) H H'->Q .a7 H')
inductive KA(CP CF:Addr)(v:qAh)(H:Hp)(Q:VK)(e:XK):Prop
 |mk(a dx:Addr)(tot:Nat)(_:v=[.ref a,.int tot])(_:H a=some (.ins CF dx []))(_:tot<=252)(_:∀(H':Hp)(z:FA)(m:(jg CP).St),z.a=a->dh (jg CP) CF H' z m tot N0 [] 0->(∀x,(jg CP).own m x->H x=none)->H z.na=none->H z.hd=none->Off (· = a) H H'->Q .a7 H')
abbrev Qw:Tg:=inClass (top 68) 0
abbrev Ra:Tg:=inClass (top 75) 0
theorem P0:ax ["self","disk"] ["self","disk"] (ak Qw):=L2.a8
variable{CB fB fN:Addr}{fdB fdN:DD}
theorem rM(F:bM K "__init__" "DiskFiles.__init__" Qw f fd)(as:∃u,mg "Files" = some u/\RelV (.ref CB) u)(aB:PySem.W.Dv K CB fB)(ap:↥aM 1 fB fdB ["self","nodes"] (Gf CF))(a0:Binds K fdB ["self","nodes"] [])(MN:Mk K CN fN)(aT:↥aM 3 fN fdN ["self","disk"] (uP c CN))(Hw:mg "Nodes" = some (.ref CN))(a1:Binds K fdN ["self","disk"] []):↥aM 5 f fd ["self","disk"] (K7 c CN CF):=by
 let CB:=aB;show F.cU P0 ?_;intros;let#[a,dx,p,Z,d,cs,bs,N,bk,rfl,G,D,ln,z0,R,k]:=h;show#[_,(aq (aR (yc as CB ap (hr.mono az) a0 ay (aa (pv 0) (aa (gx MN aT (hr.mono az) (by rfl) Hw a1 .nil ay (aa (pv 1) ae)) ae))))),?_];show#[0,0,λna dz f1 am ne=>?_];let s1:aH H (upd (upd H dz (.own na)) na (.ins CN dz [])):=(ah am).trans (ah (by rw[au (Ne.symm ne)];show f1));show#[na,dz,p,Z,d,cs,bs,rfl,ag,D.same s1,ln,z0,λH1 L dd O1 o1 ao ar=>#[3]];let ac:H L=none:=aX s1 ao;let ab:H dd=none:=aX s1 ar;let nn:∀{x u},H x=some u->¬ x=na:=λe z=>(by rwa[z,f1]at e);let h1:∀{x u},H x=some u->H1 x=some u:=λe=>o1 _ _ (s1 _ _ e) (nn e);show#[a,dx,na,rfl,h1 G,λH2 hd fh e2 eh o2=>?_];let I:NR c CN H1 na #[L,p,Z] #[dd,cs,bs,[]] (bs.length-48) N bk 0:=#[O1,by rw[wM];show R,G0 _];let ad:¬ iA #[L,p,Z] #[dd,cs,bs,[]] a:=λz=>by
  let#[a2,h3]:=D.ob;rcases z with z|z|z|z|z|⟨x,Y,z⟩
  .rw[z,show H L=none from ac]at G;cases G
  .rw[z,h3]at G;simp only[UB,HO.ins.injEq]at G;have:=G.2.2;rwa[dJ]at this
  .rw[z,D.hb]at G;cases G
  .rw[z,show H dd=none from ab]at G;cases G
  .let#[ns,q]:=fS D.hc _ z;rwa[q.1]at G
  .cases Y
 let A2:NR c CN H2 na #[L,p,Z] #[dd,cs,bs,[]] (bs.length-48) N bk 0:=by
  let#[dy,U]:=I.O.ob;show#[#[#[dy,o2 _ _ U (λz=>by rw[<-z]at G;show nn G rfl)],I.O.B.off o2 (λy U z=>ad (z▸U)),I.O.tt],I.R,I.d]
 let aK:H hd=none:=by
  cases e:H hd with
  |none=>rfl
  |some u=>rwa[h1 e]at fh
 show k H2 #[a,na,hd] (#[L,p,Z],#[dd,cs,bs,[]],bk) rfl #[#[dx,e2],eh,Vr,A2,ad,λz=>I.O.B.live z fh,λx Y=>by cases Y] (λx Y=>?_) f1 aK λy u e z=>o2 _ _ (h1 e) z;rcases Y with z|z|z|z|z|⟨y,U,z⟩
 .show .inr (by rw[z];show ac)
 .show .inl (.inl z)
 .show .inl (.inr (.inl z))
 .show .inr (by rw[z];show ab)
 .show .inl (.inr (.inr z))
 .cases U
theorem QY:ax ["self","blocks"] ["self","blocks"] (ak Ra):=L2.a8
theorem p6{fP:Addr}{fdP:DD}(F:bM K "__init__" "PlainFiles.__init__" Ra f fd)(ao:∃u,mg "Files" = some u/\RelV (.ref CB) u)(ap:PySem.W.Dv K CB fB)(aK:↥aM 1 fB fdB ["self","nodes"] (Gf CF))(aT:Binds K fdB ["self","nodes"] [])(MP:Mk K CP fP)(aB:↥aM 1 fP fdP ["self","total"] (Ij CP))(as:mg "PlainNodes" = some (.ref CP))(ad:Binds K fdP ["self","total"] []):↥aM 3 f fd ["self","blocks"] (KA CP CF):=by
 let CB:=ap;show F.cU QY ?_;intros;let#[a,dx,tot,rfl,G,ht,k]:=h;show#[_,(aq (aR (yc ao CB aK (hr.mono az) aT ay (aa (pv 0) (aa (gx MP aB (hr.mono az) (by rfl) as ad .nil ay (aa (pv 1) ae)) ae))))),?_];show#[0,0,λna Y L am ne=>?_];let s1:aH H (upd (upd H Y (.own na)) na (.ins CP Y [])):=(ah am).trans (ah (by rw[au (Ne.symm ne)];show L));show#[na,Y,tot,rfl,ag,ht,λH1 m Z fm o1=>#[3]];let nn:∀{x u},H x=some u->¬ x=na:=λe z=>(by rwa[z,L]at e);let h1:∀{x u},H x=some u->H1 x=some u:=λe=>o1 _ _ (s1 _ _ e) (nn e);let ac:∀x,vQ m x->H x=none:=λx I=>aX s1 (fm x I);show#[a,dx,na,rfl,h1 G,λH2 hd U e2 eh o2=>?_];let ab:¬ vQ m a:=λz=>(by rwa[ac a z]at G);let A2:uA CP H2 na m tot N0 0:=Z.off o2 (λy hy z=>ab (z▸hy)) (λz=>by rw[<-z]at G;show nn G rfl);let ar:H hd=none:=by
  cases e:H hd with
  |none=>rfl
  |some u=>rwa[h1 e]at U
 show k H2 #[a,na,hd] m rfl #[#[dx,e2],eh,Vr,A2,ab,λz=>Z.live z U,λx I=>by cases I] ac L ar λy u e z=>o2 _ _ (h1 e) z
def jo(n:Nat):List (List Int):=IF n (IF 16 0)
theorem rep0{n:Nat}(I:n=48+tot):Rep (rd (jo n)) tot (λ_=>none) (λ_=>[]):=by
 show#[λm G m1=>?_,λ_=>rfl,λ_ _ h=>(by cases h),λ_ _ h=>(by cases h),λ_ _ h=>(by cases h),λ_ _ _ _ _ h=>(by cases h),λ_ _ h=>(by cases h),λ_ _ h=>(by cases h)];let F:=yP m;show#[IF 16 0,4]
 .unfold rd jo rb;rw[Vx,aa3 af]
 .rcases F with e|e<;>rw[e]<;>rfl
structure QV(K:SU)(mg:qa3)(CN:Addr):Prop where
 cl:mZ K CN
 mf:∃u,mg "NODES" = some u/\RelV (.int 24) u
 sj:∃u,mg "ROOT" = some u/\RelV (.int 0) u
 range:mg "range" = none
theorem xH{ns:qAa}(h:some (HO.lst (cs.map V.ref))=some (.lst (ns.map V.int)))(l:ns.length=16):False:=by
 injection h with h;injection h with h;cases ns with
 |nil=>cases l
 |cons n ns =>
  cases cs with
  |nil=>cases h
  |cons y ys=>injection h with h1;cases h1
inductive Km(c:DA)(v:qAh)(H:Hp)(Q:VK)(e:XK):Prop
 |mk(p bl:Addr)(d:Int)(cs:qAc)(tot:Nat)(_:v=[.ref p])(_:bt c.C H p bl d .a7 false cs (jo (48+tot)))(_:1<=tot/\tot<=252)(_:∀(H':Hp)(d':Int)(cs':qAc)(bs':List (List Int))(bk:qa4),bt c.C H' p bl d' .a7 false cs' bs'->bs'.length=48+tot->bs'[0]?=some lV->Rep (rd bs') tot N0 bk->(∀x∈cs',x∈cs\/H x=none)->Off (uJ p bl cs) H H'->Q .a7 H')
inductive Co(c:DA)(CN:Addr)(v:qAh)(H:Hp)(Q:VK)(e:XK):Prop
 |mk(a:Addr)(b:BA)(s:BS)(tot:Nat)(N:NS)(bk:qa4)(_:v=[.ref a])(_:NR c CN H a b s tot N bk 0)(_:∀n nd,N n=some nd->¬ nd.ln=0)(_:∀(H':Hp)(s':BS),NR c CN H' a b s' tot N bk 0->s'.D=[]->cW b s H s' H'->Q .a7 H')
inductive HX(c:DA)(CN CF:Addr)(v:qAh)(H:Hp)(Q:VK)(e:XK):Prop
 |mk(p bl:Addr)(d:Int)(cs:qAc)(bs:List (List Int))(tot:Nat)(N:NS)(bk:qa4)(_:v=[.ref p])(_:bt c.C H p bl d .a7 false cs bs)(_:bs.length=48+tot)(_:1<=tot/\tot<=252)(_:bs[0]?=some lV)(_:Rep (rd bs) tot N bk)(_:∀n nd,N n=some nd->¬ nd.ln=0)(_:∀(H':Hp)(z:FA)(m:(sL c CN).St),dh (sL c CN) CF H' z m tot N [] 0->(∀x,(sL c CN).own m x->uJ p bl cs x\/H x=none)->(uJ p bl cs z.a\/H z.a=none)->(uJ p bl cs z.na\/H z.na=none)->(uJ p bl cs z.hd\/H z.hd=none)->Off (uJ p bl cs) H H'->Q (.ref z.a) H')
abbrev Rr:Tg:=top 69
abbrev Pj:Tg:=top 71
abbrev Po:Tg:=top 70
theorem Jr:ax ["disk","nodes","n"] ["disk"] (ak Rr):=L2.a8
theorem zX{CFl:Addr}(F:bM K "format_disk" "format_disk" Rr f fd)(T0:kH K mg CN)(TX:jO K mg X)(ao:⇑Df 3 "forget" (oW c.C CFl))(MN:Mk K CN fN)(a0:↥aM 3 fN fdN ["self","disk"] (uP c CN))(Hw:mg "Nodes" = some (.ref CN))(a1:Binds K fdN ["self","disk"] [])(gE:↥Md 5 CN "end_node" (jF c CN))(gB:↥Md 5 CN "begin_node" (Gi c CN))(gF:↥Md 7 CN "finish" (oU c CN)):↥aM 8 f fd ["disk"] (Km c):=by
 let T:QV K mg CN:=#[T0.cl,T0.mf,TX.sj,T0.range];show F.cU Jr ?_;intros;let#[p,G,d,cs,tot,rfl,D,ht,k]:=h;let lz:(jo (48+tot)).length=48+tot:=Uh ..;show#[_,(aj (aR (pc ao hr gk (aa (pv 0) ae)))
  (aj (cL 1 Jr.nd (gx MN a0 (hr.mono az) (by rfl) Hw a1 .nil ay (aa (pv 0) ae)))
  (aj (dU TK rfl (cH (by rfl) T.range (aa (de T.mf) ae)) (qx 2 Jr.nd) (aq (aR (pm (pv 1) T.cl gE hr ay (aa (pv 2) ae)))))
  (aj (aR (pm (pv 1) T.cl gB hr ay (aa (de T.sj) (aa aF ae))))
  (aq (aR (wB (pv 1) T.cl gF hr ay))))))),?_]
 show#[0,p,G,d,.a7,cs,jo (48+tot),rfl,D,.inl rfl,af,λz=>(by cases z),λ_ H1 ab D1 aT o1=>?_];let ez:(jo (48+tot)).set 0 lV=jo (48+tot):=by
  show Ww λi=>?_;rw[List.getElem?_set];unfold jo at *;cases c:0=i
  .subst c;rw[aa3 rfl,aa3 af,Vx,aa3 af];rfl
  .rw[aa2 c]
 rw[ez]at D1;let D1:bt c.C H1 p G (d+1) .a7 false ab (jo (48+tot)):=D1;show#[0,λna dz f1 ar ne=>?_];let s1:aH H1 (upd (upd H1 dz (.own na)) na (.ins CN dz [])):=(ah ar).trans (ah (by rw[au (Ne.symm ne)];show f1));show#[na,dz,p,G,d+1,ab,jo (48+tot),rfl,ag,D1.same s1,af,?_,λH2 dr dd O2 o2 as aB=>#[3]]
 .unfold jo;rw[Vx,aa3 af];rfl
 let et:(jo (48+tot)).length-48=tot:=af;rw[et]at O2;let A2:NR c CN H2 na #[dr,p,G] #[dd,ab,jo (48+tot),[]] tot (λ_=>none) (λ_=>[]) 0:=#[O2,by rw[wM];show rep0 rfl,G0 _];let aK:H1 dr=none:=aX s1 as;let ap:H1 dd=none:=aX s1 aB;show#[(24),rfl,az,az,?_];show eV (lo:=0) (n:=24) (λi σ J=>zt λ(v2:Option V)(si:BS)=>kZ (σ=#v[.ref p,.ref na,v2]) (NR c CN J na #[dr,p,G] si tot (λ_=>none) (λ_=>[]) 0) (cW #[dr,p,G] #[dd,ab,jo (48+tot),[]] H2 si J)) #[_,0,A2,#[λ_ _ e _=>e,λ_ h=>.inl h]] ?_ ?_
 .rintro i σ J hi ⟨v2,si,rfl,Y,am⟩;let#[Z,L]:=Y.O.ob;show#[0,na,Z,0,L,a9 av av,0,Y.NZ rfl af af λJ2 s2 A3 ad=>#[_,0,A3,am.trans ad]]
 .rintro σ J ⟨v2,si,rfl,Y,am⟩;let#[Z,L]:=Y.O.ob;show#[0,na,Z,0,L,a9 av av,na,_,si,tot,(0),2,(0),true,rfl,Y,az,az,λJ2 s2 A3 ad=>?_];let#[Z,L]:=A3.O.ob;show#[0,na,Z,0,L,a9 av av,na,_,s2,tot,2,0,A3,az,λJ3 s3 A4 hD a2=>?_];let#[d4,D4]:=A4.O.B.dk;let ST:=am.trans (ad.trans a2);let nw:∀x,¬ uJ p G cs x->H x≠none->¬ iA #[dr,p,G] #[dd,ab,jo (48+tot),[]] x/\¬ x=na:=λx U al=>by
   let ac:H1 x≠none:=by
    cases e:H x with
    |none=>show absurd e al
    |some u=>rw[o1 x u e (λz=>U (z.elim .inl λz=>.inr (.inl z)))];nofun
   show#[λz=>?_,λz=>ac (by rw[z];show f1)];rcases z with z|z|z|z|z|⟨y,L,z⟩
   .show ac (by rw[z];show aK)
   .show U (.inl z)
   .show U (.inr (.inl z))
   .show ac (by rw[z];show ap)
   .rcases aT x z with w|w
    .show U (.inr (.inr w))
    .show al w
   .cases L
  show k J3 d4 s3.cs s3.bs _ D4 A4.O.tt A4.O.B.z0 (by rw[<-Mm hD];show A4.R) (λx U=>?_) λx u e z=>?_
  .by_cases hc:x∈cs
   .show .inl hc
   .cases e:H x with
    |none=>show .inr rfl
    |some u =>
     exfalso;let al:H x≠none:=(by rw[e];nofun);cases I:x=p\/x=G
     .let#[ns,q]:=fS D4.hc _ U;let#[a3,h4]:=D4.ob;let#[q1,q2]:=q;rcases I with I|I
      .rw[I,show J3 p=_ from h4]at q1;cases q1
      .rw[I,show J3 G=_ from D4.hb]at q1;show xH q1 q2
     .let nd:¬ uJ p G cs x:=λz=>z.elim (λz=>I (.inl z)) λz=>z.elim (λz=>I (.inr z)) hc;let#[w1,w2]:=nw x nd al;rcases ST.2 x (.inr (.inr (.inr (.inr (.inl U)))))with z|z
      .show w1 z
      .rw[o2 x u (s1 _ _ (o1 x u e λz=>nd (z.elim .inl λz=>.inr (.inl z)))) w2]at z;cases z
  .let#[w1,w2]:=nw x z (by rw[e];nofun);show ST.1 x u (o2 x u (s1 _ _ (o1 x u e λw=>z (w.elim .inl λw=>.inr (.inl w)))) w2) w1
theorem Mx:ax ["nodes","n"] ["nodes"] (ak Pj):=L2.a8
theorem oV(F:bM K "end_nameless" "end_nameless" Pj f fd)(T:kH K mg CN)(gL:↥Md 5 CN "links_of" (jz 1 c CN))(gE:↥Md 5 CN "end_node" (jF c CN))(gF:↥Md 7 CN "finish" (oU c CN)):↥aM 8 f fd ["nodes"] (Co c CN):=by
 show F.cU Mx ?_;intros;let#[a,b,s',tot,N,bk,rfl,A1,hl,k]:=h;show#[_,(aj (dU TK rfl (cH (by rfl) T.range (aa (de T.mf) ae)) (qx 1 Mx.nd) (aq (bP (aA bD (pm (pv 0) T.cl gL hr ay (aa (pv 1) ae)) ai (aI _)) (aq (aR (pm (pv 0) T.cl gE hr ay (aa (pv 1) ae)))) bj)))
  (aq (aR (wB (pv 0) T.cl gF hr ay)))),?_]
 show#[(24),rfl,az,az,?_];show eV (lo:=0) (n:=24) (λi σ J=>zt λ(v1:Option V)(U:BS)=>kZ (σ=[some (.ref a),v1]) (NR c CN J a b U tot N bk 0) (cW b s' H U J)) #[_,0,A1,#[λ_ _ e _=>e,λ_ h=>.inl h]] ?_ ?_
 .rintro i σ J hi ⟨v1,U,rfl,G,ab⟩;let#[Z,Y]:=G.O.ob;let e0:(0:Int)+(i:Int)=(i:Int):=af;let same:∀L,aH J L->cW b s' H U L:=λL I=>#[λx u e z=>I _ _ (ab.1 x u e z),ab.2];show#[0,a,Z,0,Y,a9 av av,0,?_];rw[e0];cases hn:N (i:Int)with
  |none =>
   show G.Ib hn af af λL I=>#[rfl,0,dt ?_];let A2:=G.same I;show#[0,a,Z,0,I _ _ Y,a9 av av,0,A2.NZ hn af af λJ3 s3 A3 ac=>#[_,0,A3,(same L I).trans ac]]
  |some nd =>
   show G.links hn λL I=>#[rfl,0,?_];rw[decide_eq_false (show ¬ V.int nd.ln=V.int 0 from λz=>hl _ _ hn (V.int.inj z))];show ck #[_,0,G.same I,same L I]
 .rintro σ J ⟨v1,U,rfl,G,ab⟩;let#[Z,Y]:=G.O.ob;show#[0,a,Z,0,Y,a9 av av,a,b,U,tot,(0),N,bk,rfl,G,az,λJ3 s3 A4 hD ad=>k J3 s3 A4 hD (ab.trans ad)]
theorem QX:ax ["disk"] ["disk"] (ak Po):=L2.a8
theorem BL{fF:Addr}{fdF:DD}(F:bM K "mount" "mount" Po f fd)(aT:↥Df 4 "recover" (kO c.C))(am:↥Df 8 "end_nameless" (Co c CN))(MN:Mk K CN fN)(a5:↥aM 3 fN fdN ["self","disk"] (uP c CN))(Hw:mg "Nodes" = some (.ref CN))(ba:Binds K fdN ["self","disk"] [])(MF:Mk K CF fF)(a6:↥aM 5 fF fdF ["self","disk"] (K7 c CN CF))(bb:mg "DiskFiles" = some (.ref CF))(aK:Binds K fdF ["self","disk"] []):↥aM 9 f fd ["disk"] (HX c CN CF):=by
 show F.cU QX ?_;intros;let#[p,G,d,cs,bs,tot,N,bk,rfl,D,bd,ht,z0,R,hl,k]:=h;show#[_,(aj (aR (pc aT hr ay (aa (pv 0) ae)))
  (aj (aR (pc am hr ay (aa (gx MN a5 (hr.mono az) (by rfl) Hw ba .nil ay (aa (pv 0) ae)) ae)))
  (aq (aG (gx MF a6 (hr.mono az) (by rfl) bb aK .nil ay (aa (pv 0) ae)))))),?_]
 let Z:bs[1]?=some bs[1]:=tp af;show#[0,p,G,d,cs,bs,lV,bs[1],rfl,D,af,af,z0,Z,.inl #[rfl,λH0 s0=>?_]];let D0:=D.same s0;show#[0,λna dz f1 ar ne=>?_];let s1:aH H0 (upd (upd H0 dz (.own na)) na (.ins CN dz [])):=(ah ar).trans (ah (by rw[au (Ne.symm ne)];show f1));show#[na,dz,p,G,d,cs,bs,rfl,ag,D0.same s1,af,z0,λH2 dr dd O2 o2 aB a2=>#[3]];let et:bs.length-48=tot:=af;rw[et]at O2;let A2:NR c CN H2 na #[dr,p,G] #[dd,cs,bs,[]] tot N bk 0:=#[O2,by rw[wM];show R,G0 _];let a3:H0 dr=none:=aX s1 aB;let ap:H0 dd=none:=aX s1 a2;show#[na,#[dr,p,G],_,tot,N,bk,rfl,A2,hl,λU s3 Y hD ST=>?_];let#[d4,D4]:=Y.O.B.dk;let nw:∀x,¬ uJ p G cs x->H x≠none->¬ iA #[dr,p,G] #[dd,cs,bs,[]] x/\¬ x=na:=λx I al=>by
  let ab:H0 x≠none:=by
   cases e:H x with
   |none=>show absurd e al
   |some u=>rw[s0 x u e];nofun
  show#[λz=>?_,λz=>ab (by rw[z];show f1)];rcases z with z|z|z|z|z|⟨y,hy,z⟩
  .show ab (by rw[z];show a3)
  .show I (.inl z)
  .show I (.inr (.inl z))
  .show ab (by rw[z];show ap)
  .show I (.inr (.inr z))
  .cases hy
 let oJ:Off (uJ p G cs) H U:=λx u e z=>by
  let#[w1,w2]:=nw x z (by rw[e];nofun);show ST.1 x u (o2 x u (s1 _ _ (s0 x u e)) w2) w1
 let a4:∀x∈s3.cs,x∈cs\/H x=none:=λx I=>by
  cases hc:x∈cs
  .show .inl hc
  .cases e:H x with
   |none=>show .inr rfl
   |some u =>
    exfalso;let al:H x≠none:=(by rw[e];nofun);cases L:x=p\/x=G
    .let#[ns,q1,q2]:=fS D4.hc _ I;let#[bc,h4]:=D4.ob;rcases L with L|L
     .rw[L,show U p=_ from h4]at q1;cases q1
     .rw[L,show U G=_ from D4.hb]at q1;show xH q1 q2
    .let nd:¬ uJ p G cs x:=λz=>z.elim (λz=>L (.inl z)) λz=>z.elim (λz=>L (.inr z)) hc;let#[w1,w2]:=nw x nd al;rcases ST.2 x (.inr (.inr (.inr (.inr (.inl I)))))with z|z
     .show w1 z
     .rw[o2 x u (s1 _ _ (s0 x u e)) w2]at z;cases z
 let live:∀x,U x=none->uJ p G cs x\/H x=none:=λx I=>by
  cases hd:uJ p G cs x
  .show .inl hd
  .cases e:H x with
   |none=>show .inr rfl
   |some u=>rwa[oJ x u e hd]at I
 show#[0,λfa ac Z g2 a1=>?_];let s5:aH U (upd (upd U ac (.own fa)) fa (.ins CF ac [])):=(ah g2).trans (ah (by rw[au (Ne.symm a1)];show Z));show#[fa,ac,p,G,d4,s3.cs,s3.bs,N,bk,rfl,ag,D4.same s5,by have:=Y.O.tt;omega,Y.O.B.z0,?_,λH6 z m ez ad a0 ao as o6=>#[3]]
 .rw[<-Mm hD,show s3.bs.length-48=tot by have:=Y.O.tt;omega];show Y.R
 rw[show s3.bs.length-48=tot by have:=Y.O.tt;omega]at ad;subst ez;show k H6 z m ad (λx I=>?_) (live _ Z) (live _ (aX s5 ao)) (live _ (aX s5 as)) λx u e w=>o6 x u (s5 _ _ (oJ x u e w)) λq=>(live x (by rw[q];show Z)).elim w λq2=>(by rwa[q2]at e);rcases a0 x I with w|w
 .rcases w with w|w|w
  .show .inl (.inl w)
  .show .inl (.inr (.inl w))
  .show(a4 x w).imp (λw=>.inr (.inr w)) id
 .show live _ (aX s5 w)
inductive Dd
 |find(p:Str)
 |make(kd:Bool)(p:Str)
 |unlink(p:Str)
 |rmdir(p:Str)
 |names(p:Str)
 |stat(n:Int)
 |hold(n:Int)
 |loose(n:Int)
 |link(p q:Str)
 |move(p q:Str)
 |cut(n a:Int)
 |read(n a b:Int)
 |write(n a:Int)(cs:qAa)
inductive Rs
 |a7
 |int(i:Int)
 |strs(l:qAb)
 |ints(l:qAa)
 |tup(k:Str)(l z:Int)
def mI(H:Hp)(t:Addr)(d:Dd):Prop:=match d with
 |.find p=>H t=some (.tup [.str "find",.str p])
 |.make kd p=>H t=some (.tup [.str (if kd=true then "make_dir" else "make"),.str p])
 |.unlink p=>H t=some (.tup [.str "unlink",.str p])
 |.rmdir p=>H t=some (.tup [.str "remove_dir",.str p])
 |.names p=>H t=some (.tup [.str "names",.str p])
 |.stat n=>H t=some (.tup [.str "stat",.int n])
 |.hold n=>H t=some (.tup [.str "hold",.int n])
 |.loose n=>H t=some (.tup [.str "loose",.int n])
 |.link p q=>H t=some (.tup [.str "link",.str p,.str q])
 |.move p q=>H t=some (.tup [.str "move",.str p,.str q])
 |.cut n a=>H t=some (.tup [.str "cut",.int n,.int a])
 |.read n a b=>H t=some (.tup [.str "read_at",.int n,.int a,.int b])
 |.write n a cs=>∃l,H t=some (.tup [.str "write_at",.int n,.int a,.ref l])/\H l=some (.lst (cs.map V.int))
abbrev sm(n:Int):Prop:=n.natAbs<=1000000
def kM(d:Dd):Prop:=match d with
 |.find p=>bG p
 |.make _ p=>bG p
 |.unlink p=>bG p
 |.rmdir p=>bG p
 |.names p=>bG p
 |.stat n=>sm n
 |.hold n=>sm n
 |.loose n=>sm n
 |.link p q=>bG p/\bG q
 |.move p q=>bG p/\bG q
 |.cut n a=>sm n/\sm a
 |.read n a b=>sm n/\sm a/\sm b
 |.write n a cs=>sm n/\sm a/\cs.length<=1000
abbrev Og:=Rs×NS×SS×HT
noncomputable def Em(tot:Nat)(N:NS)(S:SS)(h:HT)(d:Dd):Except Er Og:=match d with
 |.find p=>(kD N S p).map λk=>(.int k,N,S,h)
 |.make kd p=>(lZ tot N S p kd).map λx=>(.int x.1,x.2.1,x.2.2,h)
 |.unlink p=>(jh N S h p).map λx=>(.a7,x.1,x.2,h)
 |.rmdir p=>(i8 N S p).map λx=>(.a7,x.1,x.2,h)
 |.names p=>(oy N S p).map λl=>(.strs l,N,S,h)
 |.stat n=>match N n with
  |none=>.error .noNode
  |some nd=>.ok (.tup (ph nd.dir) nd.ln (JO nd),N,S,h)
 |.hold n=>(yW N h n).map λh'=>(.a7,N,S,h')
 |.loose n=>(lJ N h n).map λx=>(.a7,x.1,S,x.2)
 |.link p q=>(qp tot N S p q).map λx=>(.a7,x.1,x.2,h)
 |.move p q=>(qR tot N S p q).map λx=>(.a7,x.1,x.2,h)
 |.cut n a=>(zr tot N n a).map λN'=>(.a7,N',S,h)
 |.read n a b=>(pQ N n a b).map λl=>(.ints l,N,S,h)
 |.write n a cs=>(lU tot N n a cs).map λN'=>(.int cs.length,N',S,h)
theorem cZ{α F:Type}{f:α->F}{x:Except Er α}{b:F}(h:x.map f=.ok b):∃a,x=.ok a/\f a=b:=by
 cases x with
 |error e=>cases h
 |ok a=>cases h;show#[a,1]
variable{h:HT}{r:Rs}
theorem N7{S:SS}{d:Dd}{N':NS}{S':SS}{h':HT}(F:Fz N S)(ok:kM d)(e:Em tot N S h d=.ok (r,N',S',h')):Fz N' S':=by
 cases d with
 |find p=>let#[x,q,e]:=cZ e;cases e;show F
 |make kd p=>let#[x,q,e]:=cZ e;cases e;show Fe F ok q
 |unlink p=>let#[x,q,e]:=cZ e;cases e;show y7 F q
 |rmdir p=>let#[x,q,e]:=cZ e;cases e;show zH F q
 |names p=>let#[x,q,e]:=cZ e;cases e;show F
 |stat n=>unfold Em at e;dsimp only at e;cases q:N n with
  |none=>rwa[q]at e
  |some x=>rwa[q]at e;show F
 |hold n=>let#[x,q,e]:=cZ e;cases e;show F
 |loose n=>let#[x,q,e]:=cZ e;cases e;show BK F q
 |link p p2=>let#[x,q,e]:=cZ e;cases e;show FW F ok.1 ok.2 q
 |move p p2=>let#[x,q,e]:=cZ e;cases e;show E1 F ok.1 ok.2 q
 |cut n a=>let#[x,q,e]:=cZ e;cases e;show Ic F q
 |read n a b=>let#[x,q,e]:=cZ e;cases e;show F
 |write n a cs=>let#[x,q,e]:=cZ e;cases e;show Bv F q
inductive tH(H0 H:Hp)(own:qa0)(v:V):Rs->Prop
 |a7(_:v=.a7):tH H0 H own v .a7
 |int(i:Int)(_:v=.int i):tH H0 H own v (.int i)
 |strs(l:qAb)(q:Addr)(_:v=.ref q)(_:H q=some (.lst (l.map V.str)))(_:H0 q=none)(_:¬ own q):tH H0 H own v (.strs l)
 |ints(l:qAa)(q:Addr)(_:v=.ref q)(_:H q=some (.lst (l.map V.int)))(_:H0 q=none)(_:¬ own q):tH H0 H own v (.ints l)
 |tup(k:Str)(l z:Int)(q:Addr)(_:v=.ref q)(_:H q=some (.tup [.str k,.int l,.int z])):tH H0 H own v (.tup k l z)
variable{x:Str}{A rest:pX}{D:Ends}{R:XR}{σ:St}{t:Addr}{xs:qAh}
theorem xG{w:Str}(h1:σ[1]?=some (some (.ref t)))(F:H t=some (.tup (.str w::xs)))(ne:¬ w=x)(k:rest D R σ H):qI (IE (Cd (HU Oo (HU (mM K) (uF 1) (tC (.int 0))) (tC (.str x)))) A wV) rest D R σ H:=by
 show#[_,h1,t,_,(0),.str w,1,dC.of F,aD (j:=0) rfl,rfl,0,?_];rw[decide_eq_false (show ¬ V.str w=V.str x from λz=>ne (V.str.inj z))];show ck k
theorem yI(h1:σ[1]?=some (some (.ref t)))(F:H t=some (.tup (.str x::xs)))(k:A { D with nx:=rest D R } R σ H):qI (IE (Cd (HU Oo (HU (mM K) (uF 1) (tC (.int 0))) (tC (.str x)))) A wV) rest D R σ H:=by
 show#[_,h1,t,_,(0),.str x,1,dC.of F,aD (j:=0) rfl,rfl,0,?_];rw[decide_eq_true rfl];show dt k
inductive Kk(M:b6)(CF:Addr)(X:Er->Addr)(vs:qAh)(H:Hp)(Q:VK)(e3:XK):Prop
 |mk(z:FA)(m:M.St)(tot:Nat)(N:NS)(S:SS)(h:HT)(t:Addr)(d:Dd)(_:vs=[.ref z.a,.ref t])(_:dh M CF H z m tot N h 0)(_:Fz N S)(_:mI H t d)(_:kM d)(_:∀e,Em tot N S h d=.error e->∀H',aH H H'->e3 (.ref (X e)) none H')(_:∀r N' S' h',Em tot N S h d=.ok (r,N',S',h')->∀(H':Hp)(m':M.St)(v:V),dh M CF H' z m' tot N' h' 0->cp M z m H m' H'->tH H H' (M.own m') v r->Q v H')
abbrev Pk:Tg:=top 88
theorem eZ{α F:Type}{f:α->F}{x:Except Er α}{a:α}(h:x=.ok a):x.map f=.ok (f a):=by rw[h];rfl
variable{e:Er}
theorem eX{α F:Type}{f:α->F}{x:Except Er α}(h:x=.error e):x.map f=.error e:=by rw[h];rfl
theorem Ku:ax ["_law_files","_law_deed_here","_law_handed","_law_found"] ["_law_files","_law_deed_here"] (ak Pk):=L2.a8
variable{M:b6}
theorem Gr(F:bM K "_law_done" "_law_done" Pk f fd)(T:jO K mg X)(TF:d7 K CF)(O:M.Ok P w K mg base)(a5:⇑Md 10 CF "find" (G5 M CF X))(ad:⇑Md 12 CF "make" (CW false M CF X))(a0:⇑Md 12 CF "make_dir" (CW true M CF X))(am:⇑Md 10 CF "unlink" (JK M CF X))(ap:⇑Md 10 CF "remove_dir" (Kr M CF X))(ar:⇑Md 11 CF "names" (Bf M CF X))(a2:⇑Md 9 CF "stat" (Eu M CF X))(aT:⇑Md 10 CF "hold" (JE M CF X))(a1:⇑Md 9 CF "loose" (KS M CF X))(as:⇑Md 11 CF "link" (JP M CF X))(aK:⇑Md 11 CF "move" (JY M CF X))(a3:⇑Md 11 CF "cut" (Ji M CF X))(ac:⇑Md 10 CF "read_at" (EN M CF X))(ao:⇑Md 11 CF "write_at" (IL M CF X))(aB:↥Md 9 CF "free" (zQ M CF)):⇑aM 13 f fd ["_law_files","_law_deed_here"] (Kk M CF X):=by
 show F.dX Ku ?_;intros;let#[z,m,tot,N,S,h,t,d,rfl,L,Z,G,ok,kE,kQ]:=h;let#[dy,U]:=L.ob;show#[_,(aw (bH (aA bD (aL bg (pv 1) ai bZ) aF (aI _)) (aS (cK (iZ (pv 0) TF.cl a5 hr (aa (aL bg (pv 1) ai bZ) ae)))) bo)
  (aw (bH (aA bD (aL bg (pv 1) ai bZ) aF (aI _)) (aS (cK (iZ (pv 0) TF.cl ad hr (aa (aL bg (pv 1) ai bZ) ae)))) bo)
  (aw (bH (aA bD (aL bg (pv 1) ai bZ) aF (aI _)) (aS (cK (iZ (pv 0) TF.cl a0 hr (aa (aL bg (pv 1) ai bZ) ae)))) bo)
  (aw (bH (aA bD (aL bg (pv 1) ai bZ) aF (aI _)) (aS (cK (iZ (pv 0) TF.cl am hr (aa (aL bg (pv 1) ai bZ) ae)))) bo)
  (aw (bH (aA bD (aL bg (pv 1) ai bZ) aF (aI _)) (aS (cK (iZ (pv 0) TF.cl ap hr (aa (aL bg (pv 1) ai bZ) ae)))) bo)
  (aw (bH (aA bD (aL bg (pv 1) ai bZ) aF (aI _)) (aS (cK (iZ (pv 0) TF.cl ar hr (aa (aL bg (pv 1) ai bZ) ae)))) bo)
  (aw (bH (aA bD (aL bg (pv 1) ai bZ) aF (aI _)) (aS (cK (iZ (pv 0) TF.cl a2 hr (aa (aL bg (pv 1) ai bZ) ae)))) bo)
  (aw (bH (aA bD (aL bg (pv 1) ai bZ) aF (aI _)) (aS (cK (iZ (pv 0) TF.cl aT hr (aa (aL bg (pv 1) ai bZ) ae)))) bo)
  (aw (bH (aA bD (aL bg (pv 1) ai bZ) aF (aI _)) (aS (cK (iZ (pv 0) TF.cl a1 hr (aa (aL bg (pv 1) ai bZ) ae)))) bo)
  (aw (bH (aA bD (aL bg (pv 1) ai bZ) aF (aI _)) (aS (cK (iZ (pv 0) TF.cl as hr (aa (aL bg (pv 1) ai bZ) (aa (aL bg (pv 1) ai bZ) ae))))) bo)
  (aw (bH (aA bD (aL bg (pv 1) ai bZ) aF (aI _)) (aS (cK (iZ (pv 0) TF.cl aK hr (aa (aL bg (pv 1) ai bZ) (aa (aL bg (pv 1) ai bZ) ae))))) bo)
  (aw (bH (aA bD (aL bg (pv 1) ai bZ) aF (aI _)) (aS (cK (iZ (pv 0) TF.cl a3 hr (aa (aL bg (pv 1) ai bZ) (aa (aL bg (pv 1) ai bZ) ae))))) bo)
  (aw (bH (aA bD (aL bg (pv 1) ai bZ) aF (aI _)) (aS (cK (iZ (pv 0) TF.cl ac hr (aa (aL bg (pv 1) ai bZ) (aa (aL bg (pv 1) ai bZ) (aa (aL bg (pv 1) ai bZ) ae)))))) bo)
  (aw (bH (aA bD (aL bg (pv 1) ai bZ) aF (aI _)) (aw (cT (cL 2 Ku.nd (dH cq (by rfl) T.list dI (aa (aL bg (pv 1) ai bZ) ae))))
  (aw (tG 3 Ku.nd (iZ (pv 0) TF.cl ao hr (aa (aL bg (pv 1) ai bZ) (aa (aL bg (pv 1) ai bZ) (aa (pv 2) ae)))))
  (cf (aj (aR (fA Uy V8 V9 lT (pv 2) (aa ai ae)))
  (aj (xx ai (wj (pv 2) ai set_list))
  (aq (aG (pv 3)))))))) bo)
  (cf (aq (aG (wB (pv 0) TF.cl aB hr ay)))))))))))))))))),?_]
 let a6:cp M z m H m H:=cp.of (b6.sm (aH.refl H));cases d with
 |find p =>
  repeat (show xG rfl G av ?_)
  show yI rfl G ?_;show#[0,z.a,dy,0,U,a9 av av,0,t,_,(1),.str p,1,dC.of G,aD (j:=1) rfl,z,m,tot,(0),N,S,h,p,rfl,L,Z,ok,λe I=>kE e (eX I),λk hk H' s'=>kQ _ _ _ _ (eZ hk) H' m _ (L.same O s') (cp.of (b6.sm s')) (.int k rfl)]
 |make kd p =>
  cases kd with
  |false =>
  let G:H t=some (.tup [.str "make",.str p]):=G
  repeat (show xG rfl G av ?_)
  show yI rfl G ?_;show#[0,z.a,dy,0,U,a9 av av,0,t,_,(1),.str p,1,dC.of G,aD (j:=1) rfl,z,m,tot,N,S,h,p,rfl,L,Z,ok,λe I=>kE e (eX I),λu N' S' hk H' m' Y st=>kQ _ _ _ _ (eZ hk) H' m' _ Y (cp.of st) (.int u rfl)]
  |true =>
  let G:H t=some (.tup [.str "make_dir",.str p]):=G
  repeat (show xG rfl G av ?_)
  show yI rfl G ?_;show#[0,z.a,dy,0,U,a9 av av,0,t,_,(1),.str p,1,dC.of G,aD (j:=1) rfl,z,m,tot,N,S,h,p,rfl,L,Z,ok,λe I=>kE e (eX I),λu N' S' hk H' m' Y st=>kQ _ _ _ _ (eZ hk) H' m' _ Y (cp.of st) (.int u rfl)]
 |unlink p =>
  let G:H t=some (.tup [.str "unlink",.str p]):=G
  repeat (show xG rfl G av ?_)
  show yI rfl G ?_;show#[0,z.a,dy,0,U,a9 av av,0,t,_,(1),.str p,1,dC.of G,aD (j:=1) rfl,z,m,tot,N,S,h,p,rfl,L,Z,ok,λe I=>kE e (eX I),λN' S' hk H' m' Y st=>kQ _ _ _ _ (eZ hk) H' m' _ Y (cp.of st) (.a7 rfl)]
 |rmdir p =>
  let G:H t=some (.tup [.str "remove_dir",.str p]):=G
  repeat (show xG rfl G av ?_)
  show yI rfl G ?_;show#[0,z.a,dy,0,U,a9 av av,0,t,_,(1),.str p,1,dC.of G,aD (j:=1) rfl,z,m,tot,N,S,h,p,rfl,L,Z,ok,λe I=>kE e (eX I),λN' S' hk H' m' Y st=>kQ _ _ _ _ (eZ hk) H' m' _ Y (cp.of st) (.a7 rfl)]
 |names p =>
  let G:H t=some (.tup [.str "names",.str p]):=G
  repeat (show xG rfl G av ?_)
  show yI rfl G ?_;show#[0,z.a,dy,0,U,a9 av av,0,t,_,(1),.str p,1,dC.of G,aD (j:=1) rfl,z,m,tot,(0),N,S,h,p,rfl,L,Z,ok,λe I=>kE e (eX I),λl hk H' q s' f' e'=>kQ _ _ _ _ (eZ hk) H' m _ (L.same O s') (cp.of (b6.sm s')) (.strs l q rfl e' f' λw=>O.live L.A w f')]
 |stat n =>
  let G:H t=some (.tup [.str "stat",.int n]):=G
  repeat (show xG rfl G av ?_)
  show yI rfl G ?_;show#[0,z.a,dy,0,U,a9 av av,0,t,_,(1),.int n,1,dC.of G,aD (j:=1) rfl,z,m,tot,(0),N,h,n,rfl,L,ok,λc=>kE _ (by unfold Em;dsimp only;rw[c]),λnd c H' q s' f' e'=>kQ _ _ _ _ (by unfold Em;dsimp only;rw[c]) H' m _ (L.same O s') (cp.of (b6.sm s')) (.tup _ _ _ q rfl e')]
 |hold n =>
  let G:H t=some (.tup [.str "hold",.int n]):=G
  repeat (show xG rfl G av ?_)
  show yI rfl G ?_;show#[0,z.a,dy,0,U,a9 av av,0,t,_,(1),.int n,1,dC.of G,aD (j:=1) rfl,z,m,tot,N,h,n,rfl,L,ok,λe I=>kE e (eX I),λh' hk H' Y st=>kQ _ _ _ _ (eZ hk) H' m _ Y st (.a7 rfl)]
 |loose n =>
  let G:H t=some (.tup [.str "loose",.int n]):=G
  repeat (show xG rfl G av ?_)
  show yI rfl G ?_;show#[0,z.a,dy,0,U,a9 av av,0,t,_,(1),.int n,1,dC.of G,aD (j:=1) rfl,z,m,tot,N,h,n,rfl,L,ok,λe I=>kE e (eX I),λN' h' hk H' m' Y st=>kQ _ _ _ _ (eZ hk) H' m' _ Y st (.a7 rfl)]
 |link p p2 =>
  let G:H t=some (.tup [.str "link",.str p,.str p2]):=G
  repeat (show xG rfl G av ?_)
  show yI rfl G ?_;show#[0,z.a,dy,0,U,a9 av av,0,t,_,(1),.str p,1,dC.of G,aD (j:=1) rfl,0,t,_,(2),.str p2,1,dC.of G,aD (j:=2) rfl,z,m,tot,N,S,h,p,p2,rfl,L,Z,ok.1,ok.2,λe I=>kE e (eX I),λN' S' hk H' m' Y st=>kQ _ _ _ _ (eZ hk) H' m' _ Y (cp.of st) (.a7 rfl)]
 |move p p2 =>
  let G:H t=some (.tup [.str "move",.str p,.str p2]):=G
  repeat (show xG rfl G av ?_)
  show yI rfl G ?_;show#[0,z.a,dy,0,U,a9 av av,0,t,_,(1),.str p,1,dC.of G,aD (j:=1) rfl,0,t,_,(2),.str p2,1,dC.of G,aD (j:=2) rfl,z,m,tot,N,S,h,p,p2,rfl,L,Z,ok.1,ok.2,λe I=>kE e (eX I),λN' S' hk H' m' Y st=>kQ _ _ _ _ (eZ hk) H' m' _ Y (cp.of st) (.a7 rfl)]
 |cut n a =>
  let G:H t=some (.tup [.str "cut",.int n,.int a]):=G
  repeat (show xG rfl G av ?_)
  show yI rfl G ?_;show#[0,z.a,dy,0,U,a9 av av,0,t,_,(1),.int n,1,dC.of G,aD (j:=1) rfl,0,t,_,(2),.int a,1,dC.of G,aD (j:=2) rfl,z,m,tot,N,h,n,a,rfl,L,ok,λe I=>kE e (eX I),λN' hk H' m' Y st=>kQ _ _ _ _ (eZ hk) H' m' _ Y (cp.of st) (.a7 rfl)]
 |read n a b =>
  let G:H t=some (.tup [.str "read_at",.int n,.int a,.int b]):=G
  repeat (show xG rfl G av ?_)
  show yI rfl G ?_;show#[0,z.a,dy,0,U,a9 av av,0,t,_,(1),.int n,1,dC.of G,aD (j:=1) rfl,0,t,_,(2),.int a,1,dC.of G,aD (j:=2) rfl,0,t,_,(3),.int b,1,dC.of G,aD (j:=3) rfl,z,m,tot,(0),N,h,n,a,b,rfl,L,ok,λe I=>kE e (eX I),λl hk H' q s' f' e'=>kQ _ _ _ _ (eZ hk) H' m _ (L.same O s') (cp.of (b6.sm s')) (.ints l q rfl e' f' λw=>O.live L.A w f')]
 |write n a cs =>
  let#[l,G,hl]:=(show ∃l,H t=some (.tup [.str "write_at",.int n,.int a,.ref l])/\H l=some (.lst (cs.map V.int))from G)
  repeat (show xG rfl G av ?_)
  show yI rfl G ?_;let hs:=y1;show#[0,t,_,(3),.ref l,1,dC.of G,aD (j:=3) rfl,l,0,.inl (aW.of hl),λg fg=>?_];let s1:=ah (X:=.lst (cs.map V.int)) fg;let e1:upd H g (.lst (cs.map V.int)) g=some (.lst (cs.map V.int)):=ag;generalize upd H g (.lst (cs.map V.int))=H1 at *;let A1:=L.same O s1;let ng:¬ M.own m g:=λw=>O.live L.A w fg;let G:=s1 _ _ G;show#[0,z.a,dy,0,s1 _ _ U,a9 av av,0,t,_,(1),.int n,1,dC.of G,aD (j:=1) rfl,0,t,_,(2),.int a,1,dC.of G,aD (j:=2) rfl,0,z,m,tot,N,h,n,a,g,cs,rfl,A1,ok,e1,ng,λe I H' s'=>kE e (eX I) H' (s1.trans s'),λN' hk H' m' Y st=>?_];let e2:=st.1 _ _ e1 ng;let ab:¬ M.own m' g:=λw=>by
   rcases st.2 _ w with w|w
   .show ng w
   .rw[w]at e1;cases e1
  let na:¬ z.a=g:=λw=>(by rwa[w,fg]at U);let nn:¬ z.na=g:=λw=>by
   let#[dx,fs',ho,_]:=O.ob L.A;rwa[w,fg]at ho
  let nh:¬ z.hd=g:=λw=>by
   have:=L.hh;rwa[w,fg]at this
  let l3:=ok.2.2;show#[0,.inl #[5,aW.of e2],g,_,.int 7,1,e2,by rw[rz];omega,?_];let o3:Off (· = g) H' (upd H' g (.lst (cs.map V.int++[V.int 7]))):=λy u e w=>(by rw[au w];show e);let A3:=Y.off O o3 (λy U w=>ab (w▸U)) na nn nh;let e3:upd H' g (.lst (cs.map V.int++[V.int 7])) g=some (.lst (cs.map V.int++[V.int 7])):=ag;let oH:Off (λy=>M.own m y\/y=z.hd) H (upd H' g (.lst (cs.map V.int++[V.int 7]))):=λy u e w=>o3 _ _ (st.1 _ _ (s1 _ _ e) λq=>w (.inl q)) λq=>(by rwa[q,fg]at e);generalize upd H' g (.lst (cs.map V.int++[V.int 7]))=H3 at *;let a4:zv (cs.map V.int++[V.int 7]).length 0=some 0:=by
   unfold zv;rw[aa3 az,aa3 (by rw[wh,Tj];omega)];rfl
  show#[0,g,_,(0),(0),1,e3,a4,?_];let o4:Off (· = g) H3 (upd H3 g (.lst ((cs.map V.int++[V.int 7]).set 0 (V.int 9)))):=λy u e w=>(by rw[au w];show e);let A4:=A3.off O o4 (λy U w=>ab (w▸U)) na nn nh;show#[0,kQ _ _ _ _ (eZ hk) _ m' _ A4 #[λy u e w=>o4 _ _ (oH _ _ e w) λq=>(by rwa[q,fg]at e),λy w=>?_] (.int _ rfl)];rcases st.2 y w with w|w
  .show .inl w
  .show .inr (aX s1 w)
theorem NU:TV "ValueError" = some (.type "ValueError"):=av
noncomputable def bV(e:Er):Nat:=match e with
 |.badName=>0
 |.noName=>1
 |.notDir=>2
 |.isDir=>3
 |.notEmpty=>4
 |.inside=>5
 |.noNode=>6
 |.noSpace=>7
 |.tooMany=>8
 |.tooBig=>9
 |.notHeld=>10
 |.notAllowed=>11
 |.taken=>12
structure rL(K:SU)(mg:qa3)(X:Er->Addr):Prop where
 mS:mg "isinstance" = none
 ve:mg "ValueError" = none
 list:mg "list" = none
 tuple:mg "tuple" = none
 int:mg "int" = none
 str:mg "str" = none
 bool:mg "bool" = none
 len:mg "len" = none
 all:mg "all" = none
 zip:mg "zip" = none
 abs:mg "abs" = none
 min:mg "min" = none
 range:mg "range" = none
 xc:∀e,PySem.W.vv K (X e)
 xk:∀e e',Tn K (.ref (X e)) (.ref (X e'))=some (decide (bV e=bV e'))
 xv:∀e,Tn K (.ref (X e)) (.type "ValueError")=some true
theorem jO.xg(T:jO K mg X)(e:Er):∃u,mg (Hi e)=some u/\RelV (.ref (X e)) u:=#[_,T.xm e,rfl]
def jL(K:SU):List V->Hp->VK->Prop:=λxs H Q=>∃(e C:Addr)(c:V)(F:Value)(b:Bool),xs=[.ref e,c]/\((∃D,c=.ref D/\F=.ref D)\/∃n,c=.ty n/\F=.type n)/\PySem.W.vv K C/\H e=some (xo e (.ref C))/\Tn K (.ref C) F=some b/\Q (.bl b) H
noncomputable def Lu(e:Er):List V:=[.bl (decide (bV e=bV .badName)),.bl (decide (bV e=bV .noName)),.bl (decide (bV e=bV .notDir))]
noncomputable def Lo(e:Er):List V:=Lu e++[.bl (decide (bV e=bV .isDir)),.bl (decide (bV e=bV .notEmpty))]
noncomputable def Lr(e:Er):List V:=Lo e++[.bl (decide (bV e=bV .inside)),.bl (decide (bV e=bV .noNode)),.bl (decide (bV e=bV .noSpace))]
noncomputable def Aj(e:Er):List V:=Lr e++[.bl (decide (bV e=bV .tooMany)),.bl (decide (bV e=bV .tooBig))]
noncomputable def za(e:Er):List V:=Aj e++[.bl (decide (bV e=bV .notHeld)),.bl (decide (bV e=bV .notAllowed)),.bl (decide (bV e=bV .taken))]
noncomputable def Kf(e:Er):List Bool:=(TM 13).map λi=>decide (bV e=i)
theorem Mp(e:Er):za e=(Kf e).map V.bl:=rfl
theorem Iw(e:Er):(Kf e).countP id=1:=by cases e<;>rfl
theorem Nv(e:Er):(Kf e)[bV e]?=some true:=by cases e<;>rfl
theorem Nd(e:Er)(i:Nat)(h:i<bV e):(Kf e)[i]?=some false:=by
 let h2:bV e<13:=(by cases e<;>decide);unfold Kf;rw[M4,List.getElem?_range af];show congrArg some (decide_eq_false af)
noncomputable def yb:List Str:=["BadName","NoName","NotDir","IsDir","NotEmpty","Inside","NoNode"]
noncomputable def Au:List Str:=["NoSpace","TooMany","TooBig","NotHeld","NotAllowed","Taken"]
theorem PR:Txt.split "BadName NoName NotDir IsDir NotEmpty Inside NoNode" " " = yb:=av
theorem Q1:Txt.split "NoSpace TooMany TooBig NotHeld NotAllowed Taken" " " = Au:=av
theorem LJ(e:Er):((yb++Au).map V.str)[bV e]?=some (.str (Hi e)):=by cases e<;>rfl
inductive IV(X:Er->Addr)(v:qAh)(H:Hp)(Q:VK)(e3:XK):Prop
 |mk(x:Addr)(e:Er)(_:v=[.ref x])(_:H x=some (xo x (.ref (X e))))(_:∀H',aH H H'->Q (.str (Hi e)) H')
abbrev QF:Tg:=top 87
variable{x:Addr}
theorem lM(L:rL K mg X)(G:σ[0]?=some (some (.ref x)))(I:H x=some (xo x (.ref (X e))))(F:Er)(q:Q (.bl (decide (bV e=bV F))) H):Rb (jL K) (qt (uF 0) (qt (tC (.ref (X F))) zk)) σ H Q :=
 #[_,G,x,X e,2,0,.inl #[0,rfl],L.xc e,I,L.xk e F,q]
theorem uj:ax ["_law_error","_law_asked","_law_words"] ["_law_error"] (ak QF):=L2.a8
theorem ED(F:bM K "_law_kind" "_law_kind" QF f fd)(T:jO K mg X)(L:rL K mg X):↥aM 1 f fd ["_law_error"] (IV X):=by
 show F.cU uj ?_;intros;let#[x,e,rfl,G,k]:=h;let hs:=y1;show#[_,(aj (cL 1 uj.nd (bq (aa (aC (show cz _ _ (jL K)from cI) (by rfl) L.mS aU (aa (pv 0) (aa (de (T.xg .badName)) ae))) (aa (aC (show cz _ _ (jL K)from cI) (by rfl) L.mS aU (aa (pv 0) (aa (de (T.xg .noName)) ae))) (aa (aC (show cz _ _ (jL K)from cI) (by rfl) L.mS aU (aa (pv 0) (aa (de (T.xg .notDir)) ae))) ae)))))
  (aj (cL 1 uj.nd (aJ cE (pv 1) (bq (aa (aC (show cz _ _ (jL K)from cI) (by rfl) L.mS aU (aa (pv 0) (aa (de (T.xg .isDir)) ae))) (aa (aC (show cz _ _ (jL K)from cI) (by rfl) L.mS aU (aa (pv 0) (aa (de (T.xg .notEmpty)) ae))) ae)))))
  (aj (cL 1 uj.nd (aJ cE (pv 1) (bq (aa (aC (show cz _ _ (jL K)from cI) (by rfl) L.mS aU (aa (pv 0) (aa (de (T.xg .inside)) ae))) (aa (aC (show cz _ _ (jL K)from cI) (by rfl) L.mS aU (aa (pv 0) (aa (de (T.xg .noNode)) ae))) (aa (aC (show cz _ _ (jL K)from cI) (by rfl) L.mS aU (aa (pv 0) (aa (de (T.xg .noSpace)) ae))) ae))))))
  (aj (cL 1 uj.nd (aJ cE (pv 1) (bq (aa (aC (show cz _ _ (jL K)from cI) (by rfl) L.mS aU (aa (pv 0) (aa (de (T.xg .tooMany)) ae))) (aa (aC (show cz _ _ (jL K)from cI) (by rfl) L.mS aU (aa (pv 0) (aa (de (T.xg .tooBig)) ae))) ae)))))
  (aj (cL 1 uj.nd (aJ cE (pv 1) (bq (aa (aC (show cz _ _ (jL K)from cI) (by rfl) L.mS aU (aa (pv 0) (aa (de (T.xg .notHeld)) ae))) (aa (aC (show cz _ _ (jL K)from cI) (by rfl) L.mS aU (aa (pv 0) (aa (de (T.xg .notAllowed)) ae))) (aa (aC (show cz _ _ (jL K)from cI) (by rfl) L.mS aU (aa (pv 0) (aa (de (T.xg .taken)) ae))) ae))))))
  (aj (cL 2 uj.nd (fA VS VP Y9 pO aF (aa aF ae)))
  (aj (cL 2 uj.nd (aJ cE (pv 2) (fA VS VP Y9 pO aF (aa aF ae))))
  (aj (bP (PW.pt (n6 (aA pb (fA Uy Yg PySem.F.type_list_count Ey (pv 1) (aa jv ae)) ai (aI _)) (kU (kT (gy (aC (show cz _ _ (jL K)from cI) (by rfl) L.mS aU (aa (pv 0) (aa (d9 (v:=.ty "ValueError") (by rfl) L.ve NU rfl) ae)))))))) (aq (aG aF)) bj)
  (aq (aG (aL aQ (pv 2) (fA Uy Xb Yj Kv (pv 1) (aa jv ae)) bZ))))))))))),?_]
 show lM L rfl G .badName (lM L rfl G .noName (lM L rfl G .notDir #[by change 3<=sizeLine;omega,λa1 f1=>?_]));let s1:=ah (X:=.lst (Lu e)) f1;let e1:upd H a1 (.lst (Lu e)) a1=some (.lst (Lu e)):=ag;change gj _ _ _ #v[.ref x,.ref a1,none] (upd H a1 (.lst (Lu e)));generalize upd H a1 (.lst (Lu e))=H1 at *;let h1:=s1 _ _ G;show#[0,lM L rfl h1 .isDir (lM L rfl h1 .notEmpty #[by change 2<=sizeLine;omega,λb2 f2=>?_])];let t2:=ah (X:=.lst [V.bl (decide (bV e=bV .isDir)),V.bl (decide (bV e=bV .notEmpty))]) f2;show#[a1,b2,_,0,rfl,t2 _ _ e1,ag,by change 3+2<=sizeLine;omega,λa2 g2=>?_];let u2:=ah (X:=.lst (Lo e)) g2;let e2:upd (upd H1 b2 (.lst [V.bl (decide (bV e=bV .isDir)),V.bl (decide (bV e=bV .notEmpty))])) a2 (.lst (Lo e)) a2=some (.lst (Lo e)):=ag;let s2:=s1.trans (t2.trans u2);change gj _ _ _ #v[.ref x,.ref a2,none] (upd (upd H1 b2 (.lst [V.bl (decide (bV e=bV .isDir)),V.bl (decide (bV e=bV .notEmpty))])) a2 (.lst (Lo e)));generalize upd (upd H1 b2 (.lst [V.bl (decide (bV e=bV .isDir)),V.bl (decide (bV e=bV .notEmpty))])) a2 (.lst (Lo e))=H2 at *;let h2:=s2 _ _ G;show#[0,lM L rfl h2 .inside (lM L rfl h2 .noNode (lM L rfl h2 .noSpace #[by change 3<=sizeLine;omega,λb3 f3=>?_]))];let t3:=ah (X:=.lst [V.bl (decide (bV e=bV .inside)),V.bl (decide (bV e=bV .noNode)),V.bl (decide (bV e=bV .noSpace))]) f3;show#[a2,b3,_,0,rfl,t3 _ _ e2,ag,by change 5+3<=sizeLine;omega,λY g3=>?_];let u3:=ah (X:=.lst (Lr e)) g3;let e3:upd (upd H2 b3 (.lst [V.bl (decide (bV e=bV .inside)),V.bl (decide (bV e=bV .noNode)),V.bl (decide (bV e=bV .noSpace))])) Y (.lst (Lr e)) Y=some (.lst (Lr e)):=ag;let s3:=s2.trans (t3.trans u3);change gj _ _ _ #v[.ref x,.ref Y,none] (upd (upd H2 b3 (.lst [V.bl (decide (bV e=bV .inside)),V.bl (decide (bV e=bV .noNode)),V.bl (decide (bV e=bV .noSpace))])) Y (.lst (Lr e)));generalize upd (upd H2 b3 (.lst [V.bl (decide (bV e=bV .inside)),V.bl (decide (bV e=bV .noNode)),V.bl (decide (bV e=bV .noSpace))])) Y (.lst (Lr e))=H3 at *;let h3:=s3 _ _ G;show#[0,lM L rfl h3 .tooMany (lM L rfl h3 .tooBig #[by change 2<=sizeLine;omega,λb4 f4=>?_])];let t4:=ah (X:=.lst [V.bl (decide (bV e=bV .tooMany)),V.bl (decide (bV e=bV .tooBig))]) f4;show#[Y,b4,_,0,rfl,t4 _ _ e3,ag,by change 8+2<=sizeLine;omega,λZ g4=>?_];let u4:=ah (X:=.lst (Aj e)) g4;let e4:upd (upd H3 b4 (.lst [V.bl (decide (bV e=bV .tooMany)),V.bl (decide (bV e=bV .tooBig))])) Z (.lst (Aj e)) Z=some (.lst (Aj e)):=ag;let s4:=s3.trans (t4.trans u4);change gj _ _ _ #v[.ref x,.ref Z,none] (upd (upd H3 b4 (.lst [V.bl (decide (bV e=bV .tooMany)),V.bl (decide (bV e=bV .tooBig))])) Z (.lst (Aj e)));generalize upd (upd H3 b4 (.lst [V.bl (decide (bV e=bV .tooMany)),V.bl (decide (bV e=bV .tooBig))])) Z (.lst (Aj e))=H4 at *;let h4:=s4 _ _ G;show#[0,lM L rfl h4 .notHeld (lM L rfl h4 .notAllowed (lM L rfl h4 .taken #[by change 3<=sizeLine;omega,λb5 f5=>?_]))];let t5:=ah (X:=.lst [V.bl (decide (bV e=bV .notHeld)),V.bl (decide (bV e=bV .notAllowed)),V.bl (decide (bV e=bV .taken))]) f5;show#[Z,b5,_,0,rfl,t5 _ _ e4,ag,by change 10+3<=sizeLine;omega,λI g5=>?_];let u5:=ah (X:=.lst (za e)) g5;let e5:upd (upd H4 b5 (.lst [V.bl (decide (bV e=bV .notHeld)),V.bl (decide (bV e=bV .notAllowed)),V.bl (decide (bV e=bV .taken))])) I (.lst (za e)) I=some (.lst (za e)):=ag;let s5:=s4.trans (t5.trans u5);change gj _ _ _ #v[.ref x,.ref I,none] (upd (upd H4 b5 (.lst [V.bl (decide (bV e=bV .notHeld)),V.bl (decide (bV e=bV .notAllowed)),V.bl (decide (bV e=bV .taken))])) I (.lst (za e)));generalize upd (upd H4 b5 (.lst [V.bl (decide (bV e=bV .notHeld)),V.bl (decide (bV e=bV .notAllowed)),V.bl (decide (bV e=bV .taken))])) I (.lst (za e))=H5 at *;let h5:=s5 _ _ G;show#[5,0,1,av,λU f6=>?_];rw[PR];let s6:=ah (X:=.lst (yb.map V.str)) f6;let e6:upd H5 U (.lst (yb.map V.str)) U=some (.lst (yb.map V.str)):=ag;change gj _ _ _ #v[.ref x,.ref I,.ref U] (upd H5 U (.lst (yb.map V.str)));generalize upd H5 U (.lst (yb.map V.str))=H6 at *;show#[0,5,0,1,av,λw2 f7=>?_];rw[Q1];let s7:=ah (X:=.lst (Au.map V.str)) f7;let e7:upd H6 w2 (.lst (Au.map V.str)) w2=some (.lst (Au.map V.str)):=ag;generalize upd H6 w2 (.lst (Au.map V.str))=H7 at *;show#[U,w2,_,0,rfl,s7 _ _ e6,e7,by change 7+6<=sizeLine;omega,λw3 f8=>?_];rw[<-K4];let s8:=ah (X:=.lst ((yb++Au).map V.str)) f8;let e8:upd H7 w3 (.lst ((yb++Au).map V.str)) w3=some (.lst ((yb++Au).map V.str)):=ag;change gj _ _ _ #v[.ref x,.ref I,.ref w3] (upd H7 w3 (.lst ((yb++Au).map V.str)));generalize upd H7 w3 (.lst ((yb++Au).map V.str))=H8 at *;let ab:=s6.trans (s7.trans s8);let ac:=s5.trans ab;let ea:=ab _ _ e5;rw[Mp]at ea;show#[0,.inl #[5,aW.of ea],I,Kf e,1,ea,rfl,0,?_];rw[Iw];show ck #[0,#[x,X e,2,0,.inr #[0,rfl],L.xc e,ac _ _ G,L.xv e,?_]];show#[0,ck ?_];show#[0,0,.inl #[5,aW.of ea],I,Kf e,bV e,1,ea,Nv e,Nd e,w3,2,.str (Hi e),1,aW.of e8,aD (LJ e),k H8 ac]
inductive Cu(M:b6)(CF:Addr)(X:Er->Addr)(vs:qAh)(H:Hp)(Q:VK)(e3:XK):Prop
 |mk(z:FA)(m:M.St)(tot:Nat)(N:NS)(S:SS)(h:HT)(t:Addr)(d:Dd)(_:vs=[.ref z.a,.ref t])(_:dh M CF H z m tot N h 0)(_:Fz N S)(_:mI H t d)(_:kM d)(_:∀e,Em tot N S h d=.error e->∀(H':Hp)(q:Addr),aH H H'->H q=none->H' q=some (.lst [.str "refused",.str (Hi e)])->Q (.ref q) H')(_:∀r N' S' h',Em tot N S h d=.ok (r,N',S',h')->∀(H':Hp)(m':M.St)(v:V)(q:Addr),dh M CF H' z m' tot N' h' 0->cp M z m H m' H'->tH H H' (M.own m') v r->(M.own m q\/H q=none)->H' q=some (.lst [.str "told",v])->Q (.ref q) H')
theorem tH.same{H0:Hp}{F:qa0}{v:V}(A:tH H0 H F v r)(s:aH H H'):tH H0 H' F v r:=by
 rcases A with e|⟨i,e⟩|⟨l,q,e,h,f,n⟩|⟨l,q,e,h,f,n⟩|⟨k,l,z,q,e,h⟩
 .show .a7 e
 .show .int i e
 .show tH.strs l q e (s _ _ h) f n
 .show tH.ints l q e (s _ _ h) f n
 .show .tup k l z q e (s _ _ h)
variable{z:FA}{m m':M.St}
theorem cp.post{H'':Hp}(st:cp M z m H m' H')(s:aH H' H''):cp M z m H m' H'':=#[λb o e n=>s _ _ (st.off b o e n),st.own]
theorem cp.fr(st:cp M z m H m' H')(F:dh M CF H' z m' tot N h d){q:Addr}(G:H' q=none):M.own m q\/H q=none:=by
 cases I:M.own m q
 .show .inl I
 .cases e:H q with
  |none=>show .inr rfl
  |some u =>
   cases c:q=z.hd
   .rw[c,F.hh]at G;cases G
   .rw[st.off q u e λw=>w.elim I c]at G;cases G
abbrev Pn:Tg:=top 89
theorem zx:ax ["_law_files","_law_deed_here","_law_caught","_law_found","_law_error"] ["_law_files","_law_deed_here"] (ak Pn):=L2.a8
theorem GJ{CK:Addr}(F:bM K "_law_told" "_law_told" Pn f fd)(O:M.Ok P w K mg base)(ac:mg "KernelError" = some (.ref CK))(hX:∀e,exmOne K (.ref (X e)) (.ref CK)=some true)(ad:⇑Df 13 "_law_done" (Kk M CF X))(am:↥Df 1 "_law_kind" (IV X)):↥aM 14 f fd ["_law_files","_law_deed_here"] (Cu M CF X):=by
 show F.cU zx ?_;intros;let#[z,m,tot,N,S,h,t,d,rfl,A0,Z,ht,ok,kE,kQ]:=h;let hs:=y1;show#[_,(aj (cL 2 zx.nd cF)
  (aj (cL 3 zx.nd cF)
  (aj (IA rfl rfl rfl rfl ac zx.nd (i:=4) rfl rfl (aS (tG 3 zx.nd (kc ad hr (aa (pv 0) (aa (pv 1) ae))))) (λ_=>(aq (cL 2 zx.nd (pv 4)))))
  (aj (bP (aA ic (pv 2) cF (aI _)) (aq (aG (bq (aa aF (aa (pc am hr ay (aa (pv 2) ae)) ae))))) bj)
  (aq (aG (bq (aa aF (aa (pv 3) ae))))))))),?_]
 show#[0,0,z,m,tot,N,S,h,t,d,rfl,A0,Z,ht,ok,λe L H1 s1=>?_,λr N' S' h' L H1 m1 v U ab r1=>?_]
 .show#[hX e,λx fx=>?_];let G:=ah (X:=xo x (.ref (X e))) fx;let e2:upd H1 x (xo x (.ref (X e))) x=some (xo x (.ref (X e))):=ag;generalize upd H1 x (xo x (.ref (X e)))=H2 at *;let Y:=s1.trans G;show#[0,?_];show#[0,rfl,0,dt ?_];show#[0,x,e,rfl,e2,λH3 s3=>#[by change 2<=sizeLine;omega,λq I=>?_]];show kE e L _ q ((Y.trans s3).trans (ah I)) (aX (Y.trans s3) I) ag
 .show#[0,rfl,0,ck ?_];show#[0,by change 2<=sizeLine;omega,λq I=>?_];let G:=ah (X:=.lst [.str "told",v]) I;show kQ r N' S' h' L _ m1 v q (U.same O G) (ab.post G) (r1.same G) (ab.fr U I) ag
theorem B3:TV "str" = some (.type "str"):=av
def Flt(x:V):Prop:=x=.a7\/(∃i,x=.int i)\/∃s,x=.str s
inductive IU(H:Hp)(R:V->V->Prop)(x y:V):Prop
 |flat(_:x=y)(_:Flt x)
 |seq(t:Bool)(a b:Addr)(xs ys:qAh)(_:x=.ref a)(_:y=.ref b)(_:H a=some (cond t (.tup xs) (.lst xs)))(_:H b=some (cond t (.tup ys) (.lst ys)))(_:xs.length=ys.length)(_:xs.length<=1000)(_:∀(i:Nat)(u v:V),xs[i]?=some u->ys[i]?=some v->R u v)
def yn(H:Hp):Nat->V->V->Prop
 |0=>λ_ _=>False
 |n+1=>IU H (yn H n)
theorem yn.same(s:aH H H'):∀(n:Nat){x y:V},yn H n x y->yn H' n x y
 |0,_,_,h=>h
 |n+1,_,_,h=>by
  rcases h with⟨e,f⟩|⟨t,a,b,xs,ys,F,I,h1,h2,l,l2,r⟩
  .show .flat e f
  .show .seq t a b xs ys F I (s _ _ h1) (s _ _ h2) l l2 λi u v G g2=>(r i u v G g2).same s n
inductive wk(n:Nat)(v:qAh)(H:Hp)(Q:VK)(e:XK):Prop
 |mk(x y:V)(_:v=[x,y])(_:yn H n x y)(_:∀H',aH H H'->Q (.bl true) H')
abbrev OH:Tg:=top 86
theorem Ky(t:Bool):Tn K (.type (cond t "tuple" "list")) (.type "list")=some (!t):=by cases t<;>with_unfolding_all rfl
theorem Mc(t:Bool):Tn K (.type (cond t "tuple" "list")) (.type "tuple")=some t:=by cases t<;>with_unfolding_all rfl
theorem tyB{t:Bool}(h:H a=some (cond t (.tup xs) (.lst xs))):jB K H (.ref a) (.type (cond t "tuple" "list")):=by
 cases t
 .show .lst h
 .show .tup h
theorem LS:Tn K (.type "str") (.type "str")=some true:=rfl
theorem k_is:Tn K (.type "int") (.type "str")=some false:=by with_unfolding_all rfl
theorem OX:ax ["_law_found","_law_due"] ["_law_found","_law_due"] (ak OH):=L2.a8
theorem all_true:∀n:Nat,(IF n true).all id=true
 |0=>rfl
 |n+1=>all_true n
theorem zW(F:bM K "_law_alike" "_law_alike" OH f fd)(L:rL K mg X)(n:Nat)(ab:↥Df n "_law_alike" (wk n)):↥aM (n+1) f fd ["_law_found","_law_due"] (wk (n+1)):=by
 show F.cU OX ?_;intros;let#[x,y,rfl,ha,k]:=h;let hs:=y1;show#[_,(aj (bP (gy (aC zp (by rfl) L.mS aU (aa (pv 1) (aa (Dm (aa (d9 (v:=.ty "list") (by rfl) L.list dI rfl) (aa (d9 (v:=.ty "tuple") (by rfl) L.tuple nQ rfl) ae))) ae)))) (aj (bP (PW.pt (n6 (aA pb (aC eQ (by rfl) L.mS aU (aa (pv 0) (aa (d9 (v:=.ty "list") (by rfl) L.list dI rfl) ae))) (aC eQ (by rfl) L.mS aU (aa (pv 1) (aa (d9 (v:=.ty "list") (by rfl) L.list dI rfl) ae))) (aI _)) (kU (aA pb (aC eQ (by rfl) L.mS aU (aa (pv 0) (aa (d9 (v:=.ty "tuple") (by rfl) L.tuple nQ rfl) ae))) (aC eQ (by rfl) L.mS aU (aa (pv 1) (aa (d9 (v:=.ty "tuple") (by rfl) L.tuple nQ rfl) ae))) (aI _))))) (aq (aG jv)) bj)
  (aj (bP (aA pb (aC aO (by rfl) L.len T7 (aa (pv 0) ae)) (aC aO (by rfl) L.len T7 (aa (pv 1) ae)) (aI _)) (aq (aG jv)) bj)
  (aq (aG (aC (qU rfl) (by rfl) L.all AQ (aa (AY (t:=("_law_one","_law_other")) (cl:=[]) (caps:=[]) #[rfl,av,av,by kernel_rfl,by intro p Y;simp at Y,by kernel_rfl,by intro p Y;simp at Y,av] rfl (EU (by rfl) L.zip (aa (pv 0) (aa (pv 1) ae))) (λ_ _ _ _=>(show PG _ _ (g2 K)from xa rfl (gJ (mY (i:=0) (show(tK ("_law_one","_law_other") []).Nodup by decide +kernel) rfl (YV (US rfl)) (.inr (US rfl))) (gJ (mY (i:=1) (show(tK ("_law_one","_law_other") []).Nodup by decide +kernel) rfl (YV (US rfl)) (.inr (US rfl))) sM)))) (λ_ _ _ _=>eM) (λ_ _ _ _=>(pc ab hr ay (aa (pv 0) (aa (pv 1) ae)) (hk:=G0 n)))) ae)))))) bj)
  (aj (bP (aA lL (pv 1) cF (aI _)) (aq (aG (nE lL (pv 0) cF (aI _)))) bj)
  (aj (bP (gy (aC eQ (by rfl) L.mS aU (aa (pv 1) (aa (d9 (v:=.ty "str") (by rfl) L.str B3 rfl) ae)))) (aq (aG (oP (aC eQ (by rfl) L.mS aU (aa (pv 0) (aa (d9 (v:=.ty "str") (by rfl) L.str B3 rfl) ae))) (sI (nE bD (pv 0) (pv 1) (aI _)))))) bj)
  (aq (aG (oP (aC eQ (by rfl) L.mS aU (aa (pv 0) (aa (d9 (v:=.ty "int") (by rfl) L.int Im rfl) ae))) (oP (Jl (aC eQ (by rfl) L.mS aU (aa (pv 0) (aa (d9 (v:=.ty "bool") (by rfl) L.bool E3 rfl) ae)))) (sI (nE bD (pv 0) (pv 1) (aI _)))))))))),?_]
 rcases ha with⟨e,f⟩|⟨t,a,b,xs,ys,e1,e2,h1,h2,l,l2,r⟩
 .subst e;rcases f with rfl|⟨i,rfl⟩|⟨t,rfl⟩
  .show#[0,rfl,λp fp=>#[.a7,p,false,rfl,ag,.a7,0,ck ?_]];show#[0,rfl,0,dt ?_];show#[0,rfl,k _ (ah fp)]
  .show#[0,rfl,λp fp=>#[.int i,p,false,rfl,ag,.int i,0,ck ?_]];show#[0,rfl,0,ck ?_];show#[0,2,_,0,.int i,k_is,0,ck ?_];show#[0,2,_,0,.int i,JQ K,0,dt ?_];show#[0,2,_,0,.int i,Ie K,0,0,dt ?_];show#[0,0,3];rw[decide_eq_true rfl];show k _ (ah fp)
  .show#[0,rfl,λp fp=>#[.str t,p,false,rfl,ag,.str t,0,ck ?_]];show#[0,rfl,0,ck ?_];show#[0,2,_,0,.str t,LS,0,dt ?_];show#[0,2,_,0,.str t,LS,0,dt ?_];show#[0,0,3];rw[decide_eq_true rfl];show k _ (ah fp)
 .subst e1 e2;show#[0,rfl,λp fp=>#[.ref b,p,true,rfl,ag,by
   let h3:upd H p (xt p) b=some (cond t (.tup ys) (.lst ys)):=(by rw[au (aV h2 fp)];show h2);cases t
   .show .lst h3
   .show .tup h3,0,dt ?_]]
  let U:=ah (X:=xt p) fp;let G:=U _ _ h1;let g2:=U _ _ h2;generalize upd H p (xt p)=H1 at *;show#[0,2,_,0,tyB G,Ky t,0,2,_,0,tyB g2,Ky t,rfl,0,?_];rw[decide_eq_true rfl];show ck #[0,2,_,0,tyB G,Mc t,0,2,_,0,tyB g2,Mc t,rfl,0,?_];rw[decide_eq_true rfl];show ck ?_;let q1:aW K H1 a xs\/dC K H1 a xs:=by
   cases t
   .show .inl (aW.of G)
   .show .inr (dC.of G)
  let q2:aW K H1 b ys\/dC K H1 b ys:=by
   cases t
   .show .inl (aW.of g2)
   .show .inr (dC.of g2)
  show#[0,a,0,q1,0,b,0,q2,rfl,0,?_];rw[l,decide_eq_true rfl];show ck ?_;show#[t,#[0,0,a,b,rfl,#[_,tF.of G],#[_,tF.of g2],?_]];show wb (t:=t) (K:=K) (a:=a) (b:=b) (xs:=xs) (ys:=ys) (λi zs H2=>zs=(IF i true).map V.bl/\aH H1 H2) #[rfl,aH.refl H1] l (λi zs H2 _ ⟨_,I⟩=>#[tF.of (I _ _ G),tF.of (I _ _ g2)]) ?_ ?_
  .rintro i u v zs H2 T2 Z hy hT ⟨rfl,I⟩;let hi:i<xs.length:=(y0.mp Z).1;let sT:=I.trans (ah (X:=.tup [u,v]) hT);show#[0,0,u,v,rfl,(r i u v Z hy).same (U.trans sT) n,λH3 s3=>#[4,sT.trans s3]]
   .rw[rz,Uh];omega
   .rw[Y6,K4];rfl
  .rintro zs H2 ⟨rfl,I⟩ q hq;show#[q,IF xs.length true,rfl,aW.of ag,?_];rw[all_true];show k _ (U.trans (I.trans (ah hq)))
theorem Nu{ps:qAb}:↥aM 0 f fd ps (wk 0):=#[λ_ _ _ _ h=>by let#[_,_,_,h,_]:=h;show h.elim,λ_ _ _ _ _ _ _ _ _ _ _ _ _ h=>by let#[_,_,_,h,_]:=h;show h.elim]
def Bx(H:Hp)(l:Addr):Prop:=∃v:Int,H l=some (.lst [.int v])
structure Lf(l:Addr)(H H':Hp):Prop where
 off:Off (· = l) H H'
 bx:Bx H' l
variable{H1 H2:Hp}
theorem Lf.trans(a:Lf l H H1)(b:Lf l H1 H2):Lf l H H2:=#[a.off.trans b.off,b.bx]
theorem Lf.same(a:Lf l H H1)(s:aH H1 H2):Lf l H H2:=#[a.off.trans (Off.of s),by let#[v,e]:=a.bx;show#[v,s _ _ e]]
theorem Lf.refl(b:Bx H l):Lf l H H:=#[λ_ _ e _=>e,b]
theorem Lf.nn(a:Lf l H H')(h:H' x=none):H x=none:=Off.nn a.off (λz=>by let#[v,e]:=a.bx;rwa[z,e]at h) h
theorem Lf.keep{o:HO}(a:Lf l H1 H2)(h:H1 x=some o)(f:x≠l):H2 x=some o:=a.off _ _ h f
inductive GZ(vs:qAh)(H:Hp)(Q:VK)(e:XK):Prop
 |mk(c j:Int)(_:vs=[.int c,.int j])(_:0<=j)(_:j<=1000)(_:∀v:Int,Q (.int v) H)
inductive vf(v:qAh)(H:Hp)(Q:VK)(e:XK):Prop
 |mk(l:Addr)(n:Int)(_:v=[.ref l,.int n])(_:Bx H l)(_:0<n)(_:n<=1000)(_:∀(r:Int)(H':Hp),0<=r->r<n->Lf l H H'->Q (.int r) H')
inductive KW(K:SU)(v:qAh)(H:Hp)(Q:VK)(e:XK):Prop
 |mk(a:Addr)(ns:qAa)(j:Nat)(_:v=[.ref a,.int (j:Int)])(_:aW K H a (ns.map V.int))(_:j<ns.length)(_:j<=63)(_:∀(H':Hp)(l:Addr),aH H H'->H l=none->Bx H' l->Q (.ref l) H')
abbrev Pa:Tg:=top 83
abbrev RH:Tg:=top 84
abbrev OG:Tg:=top 85
theorem NY:ax ["_law_cell","_law_k","_law_once"] ["_law_cell","_law_k"] (ak Pa):=L2.a8
theorem NH:ax ["_law_left_here","_law_many_here","_law_told_here"] ["_law_left_here","_law_many_here"] (ak RH):=L2.a8
theorem Eo:ax ["_law_script","_law_k","_law_left_here","_law_j"] ["_law_script","_law_k"] (ak OG):=L2.a8
theorem DP(F:bM K "_law_mixed" "_law_mixed" Pa f fd):↥aM 1 f fd ["_law_cell","_law_k"] GZ:=by
 show F.cU NY ?_;intros;let#[c,j,rfl,G,h1,k]:=h;show#[_,(aj (cL 2 NY.nd (aJ eY (aJ fH (aJ bU (aJ bU (aJ eY (pv 0) ai) (aJ fH ai (pv 1))) ai) ai) ai))
  (aq (aG (aJ eY (aJ fH (pv 2) (aJ bU (aJ bU (aJ eY (pv 2) ai) (pv 1)) ai)) ai)))),?_]
 show#[0,_,0,rfl,(qAk 1000000006),0,_,0,rfl,.inl #[az,az],_,0,5,0,5,0,rfl,.inr #[az,az],_,0,rfl,(qAk 2147483646),?_];let m1:=aaD ((c%1000000007+7*j+1)*48271) (show(2147483647:Int)≠0 by decide);let m2:=ZD ((c%1000000007+7*j+1)*48271) (show(0:Int)<2147483647 by decide);generalize (c%1000000007+7*j+1)*48271%2147483647=o at *;show#[0,0,_,0,rfl,(qAk 1008),0,_,0,5,0,5,0,rfl,.inl #[af,af],_,0,rfl,(qAk 998244352),k _]
theorem Bj(F:bM K "_law_digit" "_law_digit" RH f fd):↥aM 1 f fd ["_law_left_here","_law_many_here"] vf:=by
 show F.cU NH ?_;intros;let#[l,n,rfl,#[v,I],G,h1,k]:=h;show#[_,(aj (cL 2 NH.nd (aJ eY (aL aQ (pv 0) ai bZ) (pv 1)))
  (aj (xx (aJ jk (aL aQ (pv 0) ai bZ) (pv 1)) (wj (pv 0) ai set_list))
  (aq (aG (pv 2))))),?_]
 show#[0,l,_,(0),.int v,1,aW.of I,aD (j:=0) rfl,0,_,0,rfl,G,?_];show#[0,l,_,(0),.int v,1,aW.of I,aD (j:=0) rfl,0,_,0,rfl,#[G,af],?_];show#[0,l,[.int v],(0),(0),1,I,3];show#[0,k _ _ (aaD _ af) (ZD _ G) #[λb o e nb=>by rw[au nb];show e,_,ag]]
theorem G7(F:bM K "_law_left" "_law_left" OG f fd)(T:rL K mg X)(I:↥Df 1 "_law_mixed" GZ):↥aM 2 f fd ["_law_script","_law_k"] (KW K):=by
 show F.cU Eo ?_;intros;let#[a,ns,j,rfl,G,U,Z,k]:=h;let hs:=y1;let L:js (ns.map V.int) (j:Int)=some (.int ns[j]):=aD (by rw[M4,tp U];rfl);show#[_,(aj (bP (aA bD (aJ eY (aC aO (by rfl) T.len T7 (aa (pv 0) ae)) ai) ai (aI _)) (aq (aG (bq (aa (aC BZ (by rfl) T.abs Lc (aa (aL aQ (pv 0) (pv 1) bZ) ae)) ae)))) bj)
  (aj (cL 2 Eo.nd ai)
  (aj (dU TK rfl (cH (by rfl) T.range (aa ai ae)) (qx 3 Eo.nd) (aq (cL 2 Eo.nd (aJ bU (aJ fH (pv 2) ai) (pc I hr ay (aa (aJ bU (pc I hr ay (aa (aL aQ (pv 0) (pv 1) bZ) (aa (aJ bU ai (pv 1)) ae))) (pv 3)) (aa (aJ bU ai (pv 3)) ae)))))))
  (aq (aG (bq (aa (pv 2) ae))))))),?_]
 show#[0,a,0,.inl G,_,0,rfl,PH,rfl,0,?_];show c9 (λ_=>?_) (λ_=>?_)
 .show#[0,0,a,2,0,rfl,G,L,0,by change 1<=sizeLine;omega,λl fl=>?_];show k _ l (ah fl) fl #[_,ag]
 .show#[0,az,az,?_];show eV (lo:=0) (n:=(4:Int).toNat) (λi σ J=>zt λ(v:Int)(o:Option V)=>σ=#v[.ref a,.int (j:Int),.int v,o]/\J=H) #[(0),none,1] ?_ ?_
  .rintro i σ J hi ⟨v,o,rfl,rfl⟩;show#[0,_,0,rfl,.inr #[az,az],?_];show#[0,0,a,2,0,rfl,G,L,0,_,0,rfl,ns[j],131+(j:Int),rfl,af,af,λu=>?_];show#[0,_,0,rfl,0,_,0,rfl,u+(0+(i:Int)),200+(0+(i:Int)),rfl,af,af,λY=>?_];show#[_,0,5,0,rfl]
  .rintro σ J ⟨v,o,rfl,rfl⟩;show#[0,by change 1<=sizeLine;omega,λl fl=>k _ l (ah fl) fl #[_,ag]]
end Fs
namespace L2
open PySem PySem.Spec PyProof.Rows
variable{X:Cx}{p:Vw}{es:qAf}{te:TE}{t:TA}
theorem aP{c:Const}{j:Nat}(G:PE X (.Constant c j p) te)(F:PA X es t):PA X (.Constant c j p::es) (qt te t):=aa G F (by rfl)
theorem Fq{o:UnaryOp}{a:Tr}(G:PE X (.UnaryOp o a p) te)(F:PA X es t):PA X (.UnaryOp o a p::es) (qt te t):=aa G F (by rfl)
noncomputable def Sa(y:Str×Nat×Vw):Tr:=.Constant (.str y.1) y.2.1 y.2.2
def Ru(es:qAf):List (Str×Nat×Vw):=es.map fun
 |.Constant (.str x) j p=>(x,j,p)
 |_=>("",0,#[(0),(0),(0),(0)])
def O6:List (Str×Nat×Vw)->TA
 | []=>zk
 |y::l=>qt (tC (.str y.1)) (O6 l)
theorem xM{X:Cx}:∀l:List (Str×Nat×Vw),PA X (l.map Sa) (O6 l)
 | []=>ae
 |_::l=>aP aF (xM l)
theorem Kp{c:Tr}{r b:List Tg}{pos Z pos':Vw}{tc:TT}{F u:TS}{i:Nat}{x:Str}(hc:PT X c tc)(G:X.N.Nodup)(hi:X.N[i]?=some x)(U:Loc X.env.scope x)(h2:tI X r F)(Y:tI X b u)(L:%[es=(Ru es).map Sa|0])(I:%[X.fn x=true\/X.env.scope.names.lookup x=some .local|0]):PS X (.If c (.Assign [.Name x pos'] (.List es p) pos::r) b Z) (FH tc (gj (zO (Nn (O6 (Ru es))) (iz i)) F) u):=
 bP hc (aj (Dy G hi U (bq (by let h:=xM (X:=X) (Ru es);rw[<-L]at h;show h)) rfl I) h2) Y
theorem iJ{f:Tr}{F:qAf}{ks:List Yo}:sU (.Call f F ks p):=λ_ _=>rfl
end L2
namespace Fs
open PySem L2 Dk Tb Srt
structure fZ(n:Nat)(t:Str):Prop where
 len:t.length<=n
 cps:∀c∈t.cps.toList,c<128
instance (n:Nat) (t:Str):Decidable (fZ n t):=decidable_of_iff (t.length<=n/\∀c∈t.cps.toList,c<128) #[λh=>#[h.1,h.2],λh=>#[h.1,h.2]]
variable{n:Nat}{t:Str}
theorem fZ.path(h:fZ n t)(l:n<=20000):bG t:=#[Td h.len l,h.cps]
variable{m:Nat}
theorem fZ.mono(h:fZ n t)(l:n<=m):fZ m t:=#[Td h.len l,h.cps]
theorem fZ.app{a b:Str}(x:fZ n a)(y:fZ m b):fZ (n+m) (a++b):=by
 show#[?_,λc F=>?_]
 .change(a.cps++b.cps).size<=_;rw[Array.size_append];show YX x.len y.len
 .let F:c∈(a.cps++b.cps).toList:=F;rw[Us,SY]at F;show F.elim (x.cps c) (y.cps c)
variable{i:Int}
theorem BU{xs:qAb}(G:0<=i)(h1:i<xs.length):∃p,js (xs.map V.str) i=some (.str p)/\p∈xs:=by
 obtain⟨j,rfl⟩:∃j:Nat,i=j:=#[i.toNat,af];let F:j<xs.length:=af;show#[xs[j],aD (by rw[M4,tp F];rfl),UA F]
theorem su{xs:qAa}(G:0<=i)(h1:i<xs.length):∃p,js (xs.map V.int) i=some (.int p)/\p∈xs:=by
 obtain⟨j,rfl⟩:∃j:Nat,i=j:=#[i.toNat,af];let F:j<xs.length:=af;show#[xs[j],aD (by rw[M4,tp F];rfl),UA F]
noncomputable def Bh:List Str:=["","a","/A","//","/a/","/abcdefg","/a b","a/b","/1","/a//b","/a.b"]
theorem Gy:∀p∈Bh,fZ 100 p:=av
noncomputable def MM:List Str:=["a","b","cc","zzzzzz"]
theorem B5:∀p∈MM,fZ 6 p:=av
def Gv:Str := "abcdefghijklmnopqrstuvwxyz"
theorem EF:Gv.cps.toList.length=26:=av
theorem Je:∀c∈Gv.cps.toList,c<128:=av
theorem AL(I:0<=i)(h1:i<26):∃c,js Gv.cps.toList i=some c/\fZ 1 #[([c].toArray)]:=by
 obtain⟨j,rfl⟩:∃j:Nat,i=j:=#[i.toNat,af];let F:j<Gv.cps.toList.length:=(by rw[EF];omega);show#[Gv.cps.toList[j],aD (tp F),G0 1,λc G=>?_];have:c=Gv.cps.toList[j]:=‹G›;rw[this];show Je _ (UA F)
inductive EK(v:qAh)(H:Hp)(Q:VK)(e:XK):Prop
 |mk(l:Addr)(_:v=[.ref l])(_:Bx H l)(_:∀(p:Str)(H':Hp),fZ 1000 p->Lf l H H'->Q (.str p) H')
inductive AH(v:qAh)(H:Hp)(Q:VK)(e:XK):Prop
 |mk(l:Addr)(_:v=[.ref l])(_:Bx H l)(_:∀(n:Int)(H':Hp),sm n->Lf l H H'->Q (.int n) H')
inductive Ju(v:qAh)(H:Hp)(Q:VK)(e:XK):Prop
 |mk(k:Int)(_:v=[.int k])(_:0<=k)(_:k<600)(_:∀p:Str,fZ 3 p->Q (.str p) H)
abbrev RS:Tg:=top 90
abbrev RY:Tg:=top 91
abbrev Q5:Tg:=top 92
abbrev O8:Tg:=top 93
theorem Ak:ax ["_law_left_here","_law_how","_law_bad","_law_text","_law_k"] ["_law_left_here"] (ak RS):=L2.a8
theorem Nz:ax ["_law_left_here"] ["_law_left_here"] (ak RY):=L2.a8
theorem HE:ax ["_law_k","_law_letters_here"] ["_law_k"] (ak Q5):=L2.a8
theorem LO:ax ["_law_left_here","_law_how"] ["_law_left_here"] (ak O8):=L2.a8
variable{X:Er->Addr}
theorem Fp(F:bM K "_law_path" "_law_path" RS f fd)(T:rL K mg X)(ab:↥Df 1 "_law_digit" vf):↥aM 2 f fd ["_law_left_here"] EK:=by
 show F.cU Ak ?_;intros;let#[l,rfl,b0,k]:=h;let hs:=y1;show#[_,(aj (cL 1 Ak.nd (pc ab hr ay (aa (pv 0) (aP ai ae))))
  (aj (Kp (i:=2) (aA bD (pv 1) ai (aI _)) Ak.nd rfl (YV rfl)
  (aq (aG (aL aQ (pv 2) (pc ab hr ay (aa (pv 0) (aP ai ae))) iJ))) bj)
  (aj (bP (aA bD (pv 1) ai (aI _)) (aq (aG aF)) bj)
  (aj (cL 3 Ak.nd aF)
  (aj (dU TK rfl (cH (by rfl) T.range (aa (aL aQ (bq (aP ai (aP ai (aP ai (aP ai (aP ai (aP ai ae))))))) (pc ab hr ay (aa (pv 0) (aP ai ae))) iJ) ae)) (qx 4 Ak.nd) (aq (cL 3 Ak.nd (aJ c8 (aJ c8 (pv 3) aF) (aL aQ (bq (aP aF (aP aF (aP aF (aP aF ae))))) (pc ab hr ay (aa (pv 0) (aP ai ae))) iJ)))))
  (aq (aG (pv 3)))))))),?_]
 show#[0,l,(24),rfl,b0,az,az,λr1 H1 a1 c1 I=>?_];show#[0,rfl,0,?_];show c9 (λ_=>?_) (λ_=>?_)
 .show#[by change 11<=sizeLine;omega,λq L=>?_];let s2:=ah (X:=.lst (Bh.map V.str)) L;let e2:upd H1 q (.lst (Bh.map V.str)) q=some (.lst (Bh.map V.str)):=ag;let U:=I.same s2;let nq:q≠l:=λz=>(by let#[v,e]:=I.bx;rwa[<-z,L]at e);show#[0,0,l,(11),rfl,U.bx,az,az,λr3 H3 a3 c3 Y=>?_];let#[p,ep,Z]:=BU (xs:=Bh) a3 c3;show#[q,_,r3,0,rfl,aW.of (Lf.keep Y e2 nq),ep,k p H3 ((Gy p Z).mono az) (U.trans Y)]
 show#[0,rfl,0,?_];show c9 (λ_=>?_) (λ_=>?_)
 .show k _ H1 av I
 show#[by change 6<=sizeLine;omega,λq L=>?_];let s2:=ah (X:=.lst (([1,1,1,2,2,3]:qAa).map V.int)) L;let e2:upd H1 q (.lst (([1,1,1,2,2,3]:qAa).map V.int)) q=some (.lst (([1,1,1,2,2,3]:qAa).map V.int)):=ag;let U:=I.same s2;let nq:q≠l:=λz=>(by let#[v,e]:=I.bx;rwa[<-z,L]at e);show#[0,l,(6),rfl,U.bx,az,az,λr3 H3 a3 c3 Y=>?_];let#[n,en,hn]:=su (xs:=[1,1,1,2,2,3]) a3 c3;let am:0<=n/\n<=3:=(show ∀n∈([1,1,1,2,2,3]:qAa),0<=n/\n<=3 by decide) n hn;show#[q,_,r3,0,rfl,aW.of (Lf.keep Y e2 nq),en,0,af,af,?_];show eV (lo:=0) (n:=n.toNat) (λi σ J=>zt λ(t:Str)(o:Option V)=>kZ (σ=#v[.ref l,.int r1,none,.str t,o]) (fZ (10*i) t) (Lf l H J)) #[_,0,av,U.trans Y] ?_ ?_
 .rintro i σ J hi ⟨t,o,rfl,G,FJ⟩;let l1:=G.len;show#[0,_,0,rfl,by change _+1<=sizeLine;omega,?_];show#[by change 4<=sizeLine;omega,λq4 ac=>?_];let s4:=ah (X:=.lst (MM.map V.str)) ac;let e4:upd J q4 (.lst (MM.map V.str)) q4=some (.lst (MM.map V.str)):=ag;let F4:=FJ.same s4;let ad:q4≠l:=λz=>(by let#[v,e]:=FJ.bx;rwa[<-z,ac]at e);show#[0,l,(4),rfl,F4.bx,az,az,λr5 H5 a5 c5 F5=>?_];let#[p,ep,Z]:=BU (xs:=MM) a5 c5;let op:=(G.app (show fZ 1 "/" by decide +kernel)).app (B5 p Z);show#[q4,_,r5,0,rfl,aW.of (Lf.keep F5 e4 ad),ep,_,0,3,?_]
  .have:=(G.app (show fZ 1 "/" by decide +kernel)).len;have:=(B5 p Z).len;omega
  .show#[_,0,op.mono af,F4.trans F5]
 .rintro σ J ⟨t,o,rfl,G,FJ⟩;show#[0,k _ _ (G.mono af) FJ]
theorem FZ(F:bM K "_law_node" "_law_node" RY f fd)(I:↥Df 1 "_law_digit" vf):↥aM 2 f fd ["_law_left_here"] AH:=by
 show F.cU Nz ?_;intros;let#[l,rfl,U,k]:=h;show#[_,(aj (bP (aA bD (pc I hr ay (aa (pv 0) (aa ai ae))) ai (aI _)) (aq (aG (aJ dQ (pc I hr ay (aa (pv 0) (aa ai ae))) ai))) bj)
  (aq (aG (pc I hr ay (aa (pv 0) (aa ai ae)))))),?_]
 show#[0,l,(6),rfl,U,az,az,λr1 H1 a1 c1 G=>#[rfl,0,?_]];show c9 (λ_=>?_) (λ_=>?_)
 .show#[0,l,(27),rfl,G.bx,az,az,λr2 H2 Z Y L=>#[_,0,rfl,k _ _ (by change(_:Int).natAbs<=_;omega) (G.trans L)]]
 .show#[0,l,(5),rfl,G.bx,az,az,λr2 H2 Z Y L=>k _ _ (by change(_:Int).natAbs<=_;omega) (G.trans L)]
theorem vS(F:bM K "_law_letters" "_law_letters" Q5 f fd):↥aM 1 f fd ["_law_k"] Ju:=by
 show F.cU HE ?_;intros;let#[j,rfl,h0,h1,k]:=h;let hs:=y1;let L:Gv.length<=sizeLine:=(by rw[hs];decide +kernel);show#[_,(aj (cL 1 HE.nd aF)
  (aq (aG (aJ c8 (aJ c8 aF (aL xi (pv 1) (aJ jk (pv 0) ai) bZ)) (aL xi (pv 1) (aJ eY (pv 0) ai) bZ))))),?_]
 let#[c1,U,t1]:=AL (i:=j/26) af af;let#[Y,e2,G]:=AL (i:=j%26) af af;let I:=(show fZ 1 "q" by decide +kernel).app t1;let Z:=I.app G;show#[0,0,_,0,rfl,#[az,az],Gv,_,c1,1,L,U,_,0,3,?_]
 .change 1+1<=sizeLine;omega
 show#[0,0,_,0,rfl,(qAk 25),Gv,_,Y,1,L,e2,_,0,3,k _ Z];have:=I.len;have:=G.len;omega
theorem CZ(F:bM K "_law_place" "_law_place" O8 f fd)(U:↥Df 1 "_law_digit" vf):↥aM 2 f fd ["_law_left_here"] AH:=by
 show F.cU LO ?_;intros;let#[l,rfl,b0,k]:=h;let hs:=y1;show#[_,(aj (cL 1 LO.nd (pc U hr ay (aa (pv 0) (aP ai ae))))
  (aj (bP (aA oz (pv 1) ai (aI _)) (aq (aG (aJ dQ (aJ bU (aJ fH ai (pc U hr ay (aa (pv 0) (aP ai ae)))) (pc U hr ay (aa (pv 0) (aP ai ae)))) ai))) bj)
  (aj (bP (aA bD (pv 1) ai (aI _)) (aq (aG (aL aQ (bq (aP ai (aP ai (aP ai (aP ai (aP ai (aP ai (Fq (dm cu ai) (aP ai ae))))))))) (pc U hr ay (aa (pv 0) (aP ai ae))) iJ))) bj)
  (aq (aG (pc U hr ay (aa (pv 0) (aa (aL aQ (bq (aP ai (aP ai ae))) (aJ dQ (pv 1) ai) bZ) ae)))))))),?_]
 show#[0,l,(5),rfl,b0,az,az,λZ H1 a1 c1 L=>?_];show#[0,_,0,rfl,0,?_];show c9 (λg1=>?_) (λg1=>?_)
 .show#[0,l,(21),rfl,L.bx,az,az,λr2 H2 a2 c2 G=>#[_,0,rfl,.inl #[az,az],0,l,(3),rfl,G.bx,az,az,λr3 H3 a3 c3 I=>#[_,0,5,0,rfl,k _ _ (by change(_:Int).natAbs<=_;omega) ((L.trans G).trans I)]]]
 show#[0,rfl,0,?_];show c9 (λg2=>?_) (λg2=>?_)
 .show#[0,by change 8<=sizeLine;omega,λq Y=>?_];let s2:=ah (X:=.lst (([64,65,63,320,321,319, -1,0]:qAa).map V.int)) Y;let e2:upd H1 q (.lst (([64,65,63,320,321,319, -1,0]:qAa).map V.int)) q=some (.lst (([64,65,63,320,321,319, -1,0]:qAa).map V.int)):=ag;let G:=L.same s2;let nq:q≠l:=λz=>(by let#[v,e]:=L.bx;rwa[<-z,Y]at e);show#[0,l,(8),rfl,G.bx,az,az,λr3 H3 a3 c3 I=>?_];let#[n,en,hn]:=su (xs:=[64,65,63,320,321,319, -1,0]) a3 c3;show#[q,_,r3,0,rfl,aW.of (Lf.keep I e2 nq),en,k _ _ ((show ∀n∈([64,65,63,320,321,319, -1,0]:qAa),sm n by decide) n hn) (G.trans I)]
 .let ac:¬ Z<2:=λz=>(by simp[z]at g1);let ad:¬ Z=2:=λz=>(by simp[z]at g2);show#[0,by change 2<=sizeLine;omega,λq Y=>?_];let s2:=ah (X:=.lst (([6,330]:qAa).map V.int)) Y;let e2:upd H1 q (.lst (([6,330]:qAa).map V.int)) q=some (.lst (([6,330]:qAa).map V.int)):=ag;let G:=L.same s2;let#[n,en,hn]:=su (xs:=[6,330]) (i:=Z-3) af (by change Z-3<2;omega);let ab:0<n/\n<=330:=(show ∀n∈([6,330]:qAa),0<n/\n<=330 by decide) n hn;show#[0,_,0,rfl,q,2,0,rfl,aW.of e2,en,l,n,rfl,G.bx,ab.1,af,λr3 H3 a3 c3 I=>k _ _ (by change(_:Int).natAbs<=_;omega) (G.trans I)]
def Nw(H H' H'':Hp):Prop:=∀x o,H x=none->H' x=some o->H'' x=some o
noncomputable def zo(H:Hp)(t:Addr)(d:Dd)(H':Hp):Prop:=∀H'',Nw H H' H''->mI H'' t d
variable{H H' J:Hp}{t:Addr}{d:Dd}
theorem zo.mono(h:zo H t d H')(s:aH H' J):zo H t d J:=λH'' n=>h H'' λx o a b=>n x o a (s _ _ b)
variable{H0:Hp}
theorem zo.pre(h:zo H t d H')(p:∀x,H x=none->H0 x=none):zo H0 t d H':=λH'' n=>h H'' λx o a b=>n x o (p x a) b
inductive IY(v:qAh)(H:Hp)(Q:VK)(e:XK):Prop
 |mk(l:Addr)(_:v=[.ref l])(_:Bx H l)(_:∀(t:Addr)(d:Dd)(H':Hp),kM d->Lf l H H'->H t=none->zo H t d H'->Q (.ref t) H')
inductive Ig(v:qAh)(H:Hp)(Q:VK)(e:XK):Prop
 |mk (l:Addr) (_:v=[.ref l]) (_:Bx H l) (_:∀(q:Addr)(ds:List (Addr×Dd))(H':Hp),Lf l H H'->H q=none->H' q=some (.lst (ds.map λx=>V.ref x.1))->ds.length<=1000->(∀x∈ds,kM x.2/\zo H x.1 x.2 H')->Q (.ref q) H'):Ig v H Q e
noncomputable def w8:List Str:=["make","make_dir","make","make_dir","unlink","remove_dir","names","find"]
noncomputable def w4:List Str:=["link","move","link","move"]
noncomputable def w3:List Str:=["hold","loose","stat"]
noncomputable def w2:List Str:=["make","make_dir"]
variable{r:Int}
theorem LV(F:0<=r)(h1:r<8):∃w,js (w8.map V.str) r=some (.str w)/\∀p,bG p->∃d,kM d/\∀(H:Hp)(t:Addr),H t=some (.tup [.str w,.str p])->mI H t d:=by
 obtain rfl|rfl|rfl|rfl|rfl|rfl|rfl|rfl:r=0\/r=1\/r=2\/r=3\/r=4\/r=5\/r=6\/r=7:=af
 .show#[0,λp o=>#[.make false p,o,λ_ _ h=>h]]
 .show#[0,λp o=>#[.make true p,o,λ_ _ h=>h]]
 .show#[0,λp o=>#[.make false p,o,λ_ _ h=>h]]
 .show#[0,λp o=>#[.make true p,o,λ_ _ h=>h]]
 .show#[0,λp o=>#[.unlink p,o,λ_ _ h=>h]]
 .show#[0,λp o=>#[.rmdir p,o,λ_ _ h=>h]]
 .show#[0,λp o=>#[.names p,o,λ_ _ h=>h]]
 .show#[0,λp o=>#[.find p,o,λ_ _ h=>h]]
theorem ML(F:0<=r)(h1:r<2):∃w,js (w2.map V.str) r=some (.str w)/\∀p,bG p->∃d,kM d/\∀(H:Hp)(t:Addr),H t=some (.tup [.str w,.str p])->mI H t d:=by
 obtain rfl|rfl:r=0\/r=1:=af
 .show#[0,λp o=>#[.make false p,o,λ_ _ h=>h]]
 .show#[0,λp o=>#[.make true p,o,λ_ _ h=>h]]
theorem NQ(G:0<=r)(h1:r<4):∃w,js (w4.map V.str) r=some (.str w)/\∀p q,bG p->bG q->∃d,kM d/\∀(H:Hp)(t:Addr),H t=some (.tup [.str w,.str p,.str q])->mI H t d:=by
 obtain rfl|rfl|rfl|rfl:r=0\/r=1\/r=2\/r=3:=af
 .show#[0,λp q o F=>#[.link p q,#[o,F],λ_ _ h=>h]]
 .show#[0,λp q o F=>#[.move p q,#[o,F],λ_ _ h=>h]]
 .show#[0,λp q o F=>#[.link p q,#[o,F],λ_ _ h=>h]]
 .show#[0,λp q o F=>#[.move p q,#[o,F],λ_ _ h=>h]]
theorem L9(F:0<=r)(h1:r<3):∃w,js (w3.map V.str) r=some (.str w)/\∀n,sm n->∃d,kM d/\∀(H:Hp)(t:Addr),H t=some (.tup [.str w,.int n])->mI H t d:=by
 obtain rfl|rfl|rfl:r=0\/r=1\/r=2:=af
 .show#[0,λn o=>#[.hold n,o,λ_ _ h=>h]]
 .show#[0,λn o=>#[.loose n,o,λ_ _ h=>h]]
 .show#[0,λn o=>#[.stat n,o,λ_ _ h=>h]]
theorem Fn(n:Nat)(x:Int):(IF n [V.int x]).flatten=(IF n x).map V.int:=by
 induction n with
 |zero=>rfl
 |succ n F=>rw[UQ,UQ,Vf,F];rfl
variable{xs:qAh}
theorem lX(g:∀(H:Hp)(t:Addr),H t=some (.tup xs)->mI H t d)(h:H t=none):zo H t d (upd J t (.tup xs)):=λH'' n=>g H'' t (n t _ h ag)
abbrev Rx:Tg:=top 94
abbrev Pw:Tg:=top 95
theorem G2:ax ["_law_left_here","_law_sort","_law_words","_law_node_here"] ["_law_left_here"] (ak Rx):=L2.a8
theorem GL:ax ["_law_left_here","_law_path_here","_law_many_here","_law_word"] ["_law_left_here"] (ak Pw):=L2.a8
theorem He(F:bM K "_law_deed" "_law_deed" Rx f fd)(ar:↥Df 1 "_law_digit" vf)(ap:↥Df 2 "_law_path" EK)(a0:↥Df 2 "_law_node" AH)(ad:↥Df 2 "_law_place" AH):↥aM 3 f fd ["_law_left_here"] IY:=by
 show F.cU G2 ?_;intros;let#[l,rfl,b0,k]:=h;let hs:=y1;show#[_,(aj (cL 1 G2.nd (pc ar hr ay (aa (pv 0) (aP ai ae))))
  (aj (bP (aA oz (pv 1) ai (aI _)) (aj (cL 2 G2.nd (bq (aP aF (aP aF (aP aF (aP aF (aP aF (aP aF (aP aF (aP aF ae))))))))))
  (aq (aG (dZ (aa (aL aQ (pv 2) (pv 1) bZ) (aa (pc ap hr ay (aa (pv 0) ae)) ae)))))) bj)
  (aj (bP (aA oz (pv 1) ai (aI _)) (aq (aG (dZ (aa (aL aQ (bq (aP aF (aP aF (aP aF (aP aF ae))))) (aJ dQ (pv 1) ai) bZ) (aa (pc ap hr ay (aa (pv 0) ae)) (aa (pc ap hr ay (aa (pv 0) ae)) ae)))))) bj)
  (aj (cL 3 G2.nd (pc a0 hr ay (aa (pv 0) ae)))
  (aj (bP (aA oz (pv 1) ai (aI _)) (aq (aG (dZ (aP aF (aa (pv 3) (aa (pc ad hr ay (aa (pv 0) ae)) (aa (aJ iM (bq (aa (aJ bU ai (pc ar hr ay (aa (pv 0) (aP ai ae)))) ae)) (pc ar hr ay (aa (pv 0) (aP ai ae)))) ae))))))) bj)
  (aj (bP (aA bD (pv 1) ai (aI _)) (aq (aG (dZ (aP aF (aa (pv 3) (aa (pc ad hr ay (aa (pv 0) ae)) ae)))))) bj)
  (aj (bP (aA bD (pv 1) ai (aI _)) (aq (aG (dZ (aP aF (aa (pv 3) (aa (pc ad hr ay (aa (pv 0) ae)) (aa (pc ad hr ay (aa (pv 0) ae)) ae))))))) bj)
  (aq (aG (dZ (aa (aL aQ (bq (aP aF (aP aF (aP aF ae)))) (aJ dQ (pv 1) ai) bZ) (aa (pv 3) ae)))))))))))),?_]
 show#[0,l,(20),rfl,b0,az,az,λY H1 a1 c1 F1=>?_];let a2:∀{J:Hp}{q:Addr},Lf l H J->J q=none->q≠l:=λFJ U z=>(by let#[v,e]:=FJ.bx;rwa[<-z,U]at e);show#[0,_,0,rfl,0,?_];show c9 (λg1=>?_) (λg1=>?_)
 .let aB:Y<8:=‹g1›;let#[wd,ew,kw]:=LV a1 aB;show#[by change 8<=sizeLine;omega,λq U=>?_];let s2:=ah (X:=.lst (w8.map V.str)) U;let e2:upd H1 q (.lst (w8.map V.str)) q=some (.lst (w8.map V.str)):=ag;let F2:=F1.same s2;show#[0,0,q,_,Y,0,rfl,aW.of e2,ew,0,l,rfl,F2.bx,λp H3 op L=>#[by change 2<=sizeLine;omega,λt G=>?_]];let#[d,od,gd]:=kw p (op.path az);let ab:=F2.trans L;show k t d _ od (ab.same (ah G)) (ab.nn G) (lX gd (ab.nn G))
 let aB:¬ Y<8:=λz=>(by simp[z]at g1);show#[0,_,0,rfl,0,?_];show c9 (λg2=>?_) (λg2=>?_)
 .let a3:Y<12:=‹g2›;let#[wd,ew,kw]:=NQ (r:=Y-8) af af;show#[by change 4<=sizeLine;omega,λq U=>?_];let s2:=ah (X:=.lst (w4.map V.str)) U;let e2:upd H1 q (.lst (w4.map V.str)) q=some (.lst (w4.map V.str)):=ag;let F2:=F1.same s2;show#[0,_,0,rfl,q,2,0,rfl,aW.of e2,ew,0,l,rfl,F2.bx,λp H3 op L=>#[0,l,rfl,L.bx,λp4 H4 ao F4=>#[by change 3<=sizeLine;omega,λt G=>?_]]];let#[d,od,gd]:=kw p p4 (op.path az) (ao.path az);let ab:=(F2.trans L).trans F4;show k t d _ od (ab.same (ah G)) (ab.nn G) (lX gd (ab.nn G))
 let a3:¬ Y<12:=λz=>(by simp[z]at g2);show#[0,l,rfl,F1.bx,λn H2 on F2=>?_];let Z:=F1.trans F2;show#[0,_,0,rfl,0,?_];show c9 (λg3=>?_) (λg3=>?_)
 .show#[0,0,l,rfl,Z.bx,λpl H3 ac L=>?_];let I:=Z.trans L;show#[0,l,(255),rfl,I.bx,az,az,λr4 H4 a4 c4 F4=>#[_,0,rfl,by change 1<=sizeLine;omega,λq U=>?_]];let as:=I.trans F4;let s5:=ah (X:=.lst [V.int (1+r4)]) U;let e5:upd H4 q (.lst [V.int (1+r4)]) q=some (.lst [V.int (1+r4)]):=ag;let aK:=as.same s5;show#[0,l,(33),rfl,aK.bx,az,az,λr6 H6 a6 c6 F6=>?_];let aT:=aK.trans F6;let e6:=F6.keep e5 (a2 as U);show#[q,r6,0,rfl,e6,af,af,by change 1*r6.toNat<=sizeLine;omega,λp fp=>#[by change 4<=sizeLine;omega,λt G=>?_]];let s7:=ah (X:=.lst (IF r6.toNat [V.int (1+r4)]).flatten) fp;let e7:upd H6 p (.lst (IF r6.toNat [V.int (1+r4)]).flatten) p=some (.lst (IF r6.toNat [V.int (1+r4)]).flatten):=ag;let am:=aT.same s7;let s8:=ah (X:=.tup [.str "write_at",.int n,.int pl,.ref p]) G;show k t (.write n pl (IF r6.toNat (1+r4))) _ #[on,ac,by rw[Uh];omega] (am.same s8) (am.nn G) λH'' nw=>#[p,nw t _ (am.nn G) ag,?_];rw[<-Fn];show nw p _ (aT.nn fp) (s8 _ _ e7)
 show#[0,rfl,0,?_];show c9 (λg4=>?_) (λg4=>?_)
 .show#[0,0,l,rfl,Z.bx,λpl H3 ac L=>#[by change 3<=sizeLine;omega,λt G=>?_]];let I:=Z.trans L;show k t (.cut n pl) _ #[on,ac] (I.same (ah G)) (I.nn G) (lX (λ_ _ h=>h) (I.nn G))
 show#[0,rfl,0,?_];show c9 (λg5=>?_) (λg5=>?_)
 .show#[0,0,l,rfl,Z.bx,λpl H3 ac L=>#[0,l,rfl,L.bx,λp4 H4 ao F4=>#[by change 4<=sizeLine;omega,λt G=>?_]]];let I:=(Z.trans L).trans F4;show k t (.read n pl p4) _ #[on,ac,ao] (I.same (ah G)) (I.nn G) (lX (λ_ _ h=>h) (I.nn G))
 let bb:¬ Y<15:=λz=>(by simp[z]at g3);let a5:¬ Y=15:=λz=>(by simp[z]at g4);let ba:¬ Y=16:=λz=>(by simp[z]at g5);let#[wd,ew,kw]:=L9 (r:=Y-17) af af;show#[by change 3<=sizeLine;omega,λq U=>?_];let s3:=ah (X:=.lst (w3.map V.str)) U;let e3:upd H2 q (.lst (w3.map V.str)) q=some (.lst (w3.map V.str)):=ag;let I:=Z.same s3;show#[0,_,0,rfl,q,2,0,rfl,aW.of e3,ew,0,by change 2<=sizeLine;omega,λt G=>?_];let#[d,od,gd]:=kw n on;show k t d _ od (I.same (ah G)) (I.nn G) (lX gd (I.nn G))
def Ek(H H1:Hp)(i:Nat)(ys:qAh)(J:Hp):Prop:=∃ds:List (Addr×Dd),ys=ds.map (λx=>V.ref x.1)/\ds.length=i/\(∀x∈ds,kM x.2/\zo H x.1 x.2 J)/\aH H1 J
variable{H1:Hp}{i:Nat}{ys:qAh}
theorem Ek.snoc(m:Ek H H1 i ys J)(o:kM d)(g:∀(H:Hp)(t:Addr),H t=some (.tup xs)->mI H t d)(I:H t=none)(G:J t=none):Ek H H1 (i+1) (ys++[.ref t]) (upd J t (.tup xs)):=by
 let#[ds,rfl,l,h,s]:=m;show#[ds++[(t,d)],by rw[K4];rfl,by rw[wh,l];rfl,λx F=>?_,s.trans (ah G)];rcases SY.mp F with F|F
 .show#[(h x F).1,(h x F).2.mono (ah G)]
 .rw[DO.mp F];show#[o,lX g I]
theorem Ek.len(m:Ek H H1 i ys J):ys.length=i:=by
 let#[ds,rfl,l,h,s]:=m;rw[rz,l]
theorem Ek.same(m:Ek H H1 i ys J):aH H1 J:=by
 let#[ds,rfl,l,h,s]:=m;show s
theorem EV(F:bM K "_law_many" "_law_many" Pw f fd)(T:rL K mg X)(ad:↥Df 1 "_law_digit" vf)(as:↥Df 2 "_law_path" EK)(ao:↥Df 1 "_law_letters" Ju):↥aM 3 f fd ["_law_left_here"] Ig:=by
 show F.cU GL ?_;intros;let#[l,rfl,b0,k]:=h;let hs:=y1;let aB:∀{J:Hp}{q:Addr},Lf l H J->J q=none->q≠l:=λFJ Y z=>(by let#[v,e]:=FJ.bx;rwa[<-z,Y]at e);show#[_,(aj (cL 1 GL.nd (pc as hr ay (aa (pv 0) ae)))
  (aj (cL 2 GL.nd (pc ad hr ay (aa (pv 0) (aP ai ae))))
  (aj (bP (aA bD (pc ad hr ay (aa (pv 0) (aP ai ae))) ai (aI _)) (aq (aG (cY (cl:=[("_law_path_here",s⁻¹+1)]) (caps:=[("_law_path_here",1)]) #[rfl,av,av,rfl,by kernel_rfl,%[|1],by kernel_rfl,%[|1],av] rfl (cH (by rfl) T.range (aa (pv 2) ae)) (λ_ _ _ _=>eM) (λ_ _ _ _=>(dZ (aP aF (aa (pv 1) (aa (aJ c8 aF (pc ao hr ay (aa (pv 0) ae))) ae)))))))) bj)
  (aj (cL 3 GL.nd (aL aQ (bq (aP aF (aP aF ae))) (pc ad hr ay (aa (pv 0) (aP ai ae))) iJ))
  (aq (aG (cY (cl:=[("_law_word",s⁻¹+2),("_law_path_here",s⁻¹+1)]) (caps:=[("_law_path_here",1),("_law_word",3)]) #[rfl,av,av,rfl,by kernel_rfl,%[|2],by kernel_rfl,%[|2],av] rfl (cH (by rfl) T.range (aa (aJ eY (pv 2) ai) ae)) (λ_ _ _ _=>eM) (λ_ _ _ _=>(dZ (aa (pv 2) (aa (aJ c8 (aJ c8 (pv 1) aF) (pc ao hr ay (aa (pv 0) ae))) ae))))))))))),?_]
 show#[0,l,rfl,b0,λpa H1 oa F1=>?_];show#[0,l,(41),rfl,F1.bx,az,az,λr2 H2 a2 c2 F2=>?_];let am:=F1.trans F2;show#[0,l,(2),rfl,am.bx,az,az,λr3 Z a3 c3 F3=>#[rfl,0,?_]];let ab:=am.trans F3;let fin:∀(n:Nat)(ys:qAh)(J:Hp),n<=1000->(∃H4,Lf l H H4/\Ek H H4 n ys J)->∀p,J p=none->Q (.ref p) (upd J p (.lst ys)):=by
  rintro n ys J hn ⟨H4,F4,m⟩ p fp;let L:=F4.same m.same;let#[ds,rfl,le,h,s]:=m;show k p ds _ (L.same (ah fp)) (L.nn fp) ag af λx G=>#[(h x G).1,(h x G).2.mono (ah fp)]
 show c9 (λg1=>?_) (λg1=>?_)
 .show#[0,0,af,af,?_];show iQ (lo:=0) (n:=r2.toNat) (Ek H Z) #[[],1,λx G=>(by cases G),aH.refl Z] ?_ λys J m=>fin _ ys J af #[Z,ab,m];rintro i ys J hi m;let lm:=m.len;show#[0,0,0+(i:Int),rfl,af,af,λp I=>#[_,0,3,by change 3<=sizeLine;omega,λt U=>#[af,?_]]]
  .have:=I.len;change 1+p.length<=_;omega
  let ac:=(show fZ 1 "/" by decide +kernel).app I;show m.snoc (d:=.link pa ("/" ++ p)) #[oa.path az,ac.path az] (λ_ _ h=>h) ((ab.same m.same).nn U) U
 .show#[by change 2<=sizeLine;omega,λq Y=>?_];let s4:=ah (X:=.lst (w2.map V.str)) Y;let e4:upd Z q (.lst (w2.map V.str)) q=some (.lst (w2.map V.str)):=ag;let ap:=ab.same s4;show#[0,l,(2),rfl,ap.bx,az,az,λr5 H5 a5 c5 L=>?_];let ar:=ap.trans L;let#[wd,ew,kw]:=ML a5 c5;show#[q,_,r5,0,rfl,aW.of (L.keep e4 (aB ab Y)),ew,?_];show#[0,_,0,rfl,(qAk 24),0,af,af,?_];show iQ (lo:=0) (n:=(r2%25).toNat) (Ek H H5) #[[],1,λx G=>(by cases G),aH.refl H5] ?_ λys J m=>fin _ ys J af #[H5,ar,m];rintro i ys J hi m;let lm:=m.len;show#[0,0,_,0,3,0,0+(i:Int),rfl,af,af,λp I=>#[_,0,3,by change 2<=sizeLine;omega,λt U=>#[af,?_]]]
  .have:=oa.len;change _+1<=_;omega
  .have:=(oa.app (show fZ 1 "/" by decide +kernel)).len;have:=I.len;omega
  let ac:=(oa.app (show fZ 1 "/" by decide +kernel)).app I;let#[d,od,gd]:=kw _ (ac.path az);show m.snoc od gd ((ar.same m.same).nn U) U
abbrev fB(M:b6)(z:FA)(m:M.St)(x:Addr):Prop:=M.own m x\/x=z.hd
structure Tw(M1 M2:b6)(C1 C2:Addr)(H:Hp)(z1 z2:FA)(m1:M1.St)(m2:M2.St)(tot:Nat)(N1:NS)(h1:HT)(N2:NS)(h2:HT):Prop where
 f1:dh M1 C1 H z1 m1 tot N1 h1 0
 f2:dh M2 C2 H z2 m2 tot N2 h2 0
 sep:∀x,fB M1 z1 m1 x->¬ fB M2 z2 m2 x
 a1:¬ fB M2 z2 m2 z1.a
 n1:¬ fB M2 z2 m2 z1.na
 a2:¬ fB M1 z1 m1 z2.a
 n2:¬ fB M1 z1 m1 z2.na
structure Ts(M1 M2:b6)(z1 z2:FA)(H:Hp)(m1:M1.St)(m2:M2.St)(H':Hp)(m1':M1.St)(m2':M2.St):Prop where
 off:Off (λx=>fB M1 z1 m1 x\/fB M2 z2 m2 x) H H'
 own:∀x,fB M1 z1 m1' x\/fB M2 z2 m2' x->(fB M1 z1 m1 x\/fB M2 z2 m2 x)\/H x=none
variable{M:b6}{C:Addr}{z:FA}{m:M.St}{tot d:Nat}{N:NS}{h:HT}{x:Addr}
theorem dh.live(O:M.Ok P w K mg base)(F:dh M C H z m tot N h d)(b:fB M z m x):H x≠none:=by
 rcases b with b|b
 .show O.live F.A b
 .rw[b,F.hh];show λz=>by cases z
theorem dh.la(F:dh M C H z m tot N h d):H z.a≠none:=by
 let#[dx,e]:=F.ob;rw[e];show λz=>by cases z
theorem dh.ln(O:M.Ok P w K mg base)(F:dh M C H z m tot N h d):H z.na≠none:=by
 let#[dx,fs,e,_]:=O.ob F.A;rw[e];show λz=>by cases z
variable{M1 M2:b6}{C1 C2:Addr}{z1 z2:FA}{m1:M1.St}{m2:M2.St}{N1 N2:NS}{h1 h2:HT}
theorem Tw.symm(T:Tw M1 M2 C1 C2 H z1 z2 m1 m2 tot N1 h1 N2 h2):Tw M2 M1 C2 C1 H z2 z1 m2 m1 tot N2 h2 N1 h1:=#[T.f2,T.f1,λx a b=>T.sep x b a,T.a2,T.n2,T.a1,T.n1]
theorem cp.ow{m':M.St}(s:cp M z m H m' H')(b:fB M z m' x):fB M z m x\/H x=none:=by
 rcases b with b|b
 .rcases s.own x b with b|b
  .show .inl (.inl b)
  .show .inr b
 .show .inl (.inr b)
variable{m1':M1.St}{N':NS}{h':HT}
theorem Tw.one(G:M2.Ok P w K mg base)(T:Tw M1 M2 C1 C2 H z1 z2 m1 m2 tot N1 h1 N2 h2)(F:dh M1 C1 H' z1 m1' tot N' h' 0)(s:cp M1 z1 m1 H m1' H'):Tw M1 M2 C1 C2 H' z1 z2 m1' m2 tot N' h' N2 h2:=by
 show#[F,T.f2.off G s.off (λx I b=>T.sep x b (.inl I)) T.a2 T.n2 (λb=>T.sep _ b (.inr rfl)),λx a b=>?_,T.a1,T.n1,λa=>?_,λa=>?_]
 .rcases s.ow a with a|a
  .show T.sep x a b
  .show T.f2.live G b a
 .rcases s.ow a with a|a
  .show T.a2 a
  .show T.f2.la a
 .rcases s.ow a with a|a
  .show T.n2 a
  .show T.f2.ln G a
theorem Tw.same(F:M1.Ok P w K mg base)(G:M2.Ok P w K mg base)(T:Tw M1 M2 C1 C2 H z1 z2 m1 m2 tot N1 h1 N2 h2)(s:aH H H'):Tw M1 M2 C1 C2 H' z1 z2 m1 m2 tot N1 h1 N2 h2:=#[T.f1.same F s,T.f2.same G s,T.sep,T.a1,T.n1,T.a2,T.n2]
variable{q:Addr}
theorem Tw.QO(L:M1.Ok P w K mg base)(Z:M2.Ok P w K mg base)(T:Tw M1 M2 C1 C2 H z1 z2 m1 m2 tot N1 h1 N2 h2)(o:Off (· = q) H H')(I:¬ fB M1 z1 m1 q)(G:¬ fB M2 z2 m2 q)(U:z1.a≠q)(e2:z1.na≠q)(e3:z2.a≠q)(Y:z2.na≠q):Tw M1 M2 C1 C2 H' z1 z2 m1 m2 tot N1 h1 N2 h2 :=
 #[T.f1.off L o (λx F z=>I (.inl (z▸F))) U e2 (λz=>I (.inr z.symm)),T.f2.off Z o (λx F z=>G (.inl (z▸F))) e3 Y (λz=>G (.inr z.symm)),T.sep,T.a1,T.n1,T.a2,T.n2]
theorem Ts.refl:Ts M1 M2 z1 z2 H m1 m2 H m1 m2:=#[λ_ _ e _=>e,λ_ b=>.inl b]
variable{m2':M2.St}
theorem Ts.post(t:Ts M1 M2 z1 z2 H m1 m2 H' m1' m2')(s:aH H' J):Ts M1 M2 z1 z2 H m1 m2 J m1' m2':=#[t.off.trans (Off.of s),t.own]
theorem Ts.trans{G:M1.St}{F:M2.St}(t:Ts M1 M2 z1 z2 H m1 m2 H' m1' m2')(u:Ts M1 M2 z1 z2 H' m1' m2' J G F):Ts M1 M2 z1 z2 H m1 m2 J G F:=by
 show#[λb o e nb=>u.off b o (t.off b o e nb) λL=>?_,λx I=>?_]
 .rcases t.own b L with q|q
  .show nb q
  .rw[e]at q;cases q
 .rcases u.own x I with q|q
  .show t.own x q
  .by_cases c:fB M1 z1 m1 x\/fB M2 z2 m2 x
   .show .inl c
   .cases e:H x with
    |none=>show .inr rfl
    |some o=>rwa[t.off x o e c]at q
theorem Ts.one(s:cp M1 z1 m1 H m1' H'):Ts M1 M2 z1 z2 H m1 m2 H' m1' m2:=#[s.off.mono λ_ b=>.inl b,λx b=>by
 rcases b with b|b
 .rcases s.ow b with b|b
  .show .inl (.inl b)
  .show .inr b
 .show .inl (.inr b)]
theorem Ts.two(s:cp M2 z2 m2 H m2' H'):Ts M1 M2 z1 z2 H m1 m2 H' m1 m2':=#[s.off.mono λ_ b=>.inr b,λx b=>by
 rcases b with b|b
 .show .inl (.inl b)
 .rcases s.ow b with b|b
  .show .inl (.inr b)
  .show .inr b]
theorem Ts.gD{A:Hp->Prop}(t:Ts M1 M2 z1 z2 H m1 m2 H' m1' m2')(a:∀J,Off (λx=>fB M1 z1 m1 x\/fB M2 z2 m2 x) H J->A J):∀J,Off (λx=>fB M1 z1 m1' x\/fB M2 z2 m2' x) H' J->A J:=λJ o=>a J λb u e nb=>o b u (t.off b u e nb) λF=>by
 rcases t.own b F with q|q
 .show nb q
 .rw[e]at q;cases q
noncomputable def HR:Rs->Nat
 |.strs l=>l.length
 |.ints l=>l.length
 |_=>0
variable{S:SS}{d:Dd}{r:Rs}{S':SS}
theorem Lk(F:Fz N S)(e:Em tot N S h d=.ok (r,N',S',h')):HR r<=1000:=by
 cases d with
 |names p =>
  let#[x,q,e]:=cZ e;cases e;unfold oy at q;cases G:kD N S p with
  |error y=>rwa[G]at q
  |ok y =>
   rw[G]at q;dsimp only at q;cases c:dq N y=true
   .rw[aa3 c]at q;cases q;change(qh (eE (S y))).length<=1000;have:=rO (S y);have:=F.len y;rw[ot];omega
   .rw[aa2 c]at q;cases q
 |read n a b =>
  let#[x,q,e]:=cZ e;cases e;unfold pQ at q;cases G:vI N n with
  |some y=>rwa[G]at q
  |none =>
   rw[G]at q;dsimp only at q;cases c:vY a
   .rw[aa3 c]at q;cases I:vY b
    .rw[aa3 I]at q;cases q;change(((cells N n).drop a.toNat).take b.toNat).length<=1000;have:=I.2;rw[HC];omega
    .rw[aa2 I]at q;cases q
   .rw[aa2 c]at q;cases q
 |stat n =>
  unfold Em at e;dsimp only at e;cases q:N n with
  |none=>rwa[q]at e
  |some x=>rwa[q]at e;show Tp _
 |_ =>
  let#[x,q,e]:=cZ e;cases e;show Tp _
theorem uH(s:Str):yn H (n+1) (.str s) (.str s):=.flat rfl (.inr (.inr #[s,rfl]))
theorem mw(i:Int):yn H (n+1) (.int i) (.int i):=.flat rfl (.inr (.inl #[i,rfl]))
variable{a b:Addr}
theorem CJ{α:Type}(g:α->V)(U:∀x,yn H (n+1) (g x) (g x)){l:List α}(Y:H a=some (.lst (l.map g)))(L:H b=some (.lst (l.map g)))(I:l.length<=1000):yn H (n+2) (.ref a) (.ref b):=
 .seq false a b _ _ rfl rfl Y L rfl (by rw[rz];show I) λi u v F G=>by
  rwa[F]at G;rw[M4]at F;let#[y,_,rfl]:=SV.mp F;show U y
theorem HA(I:H a=some (.tup xs))(Y:H b=some (.tup xs))(U:xs.length<=1000)(L:∀x∈xs,yn H (n+1) x x):yn H (n+2) (.ref a) (.ref b):=
 .seq true a b _ _ rfl rfl I Y rfl U λi u v F G=>by
  rwa[F]at G;show L _ (SO F)
theorem Mn{i j:Int}(G:H a=some (.tup [.int i,.int j]))(I:H b=some (.tup [.int i,.int j])):yn H (n+2) (.ref a) (.ref b):=by
 show HA G I (by change 2<=1000;decide) λx F=>?_;simp only[Ti,U4,or_false]at F;rcases F with rfl|rfl
 .show mw _
 .show mw _
variable{v:V}
theorem tH.SJ{U:Hp}{ow Y:qa0}{I:V}(A:tH H0 H ow v r)(B:tH U H Y I r)(l:HR r<=1000):yn H 2 v I:=by
 rcases A with e|⟨i,e⟩|⟨l1,q,e,h,f,n⟩|⟨l1,q,e,h,f,n⟩|⟨k,l1,z,q,e,h⟩
 .rcases B with⟨F⟩;show .flat (by rw[e];show F.symm) (.inl e)
 .rcases B with _|⟨_,F⟩;rw[e,F];show mw i
 .rcases B with _|_|⟨_,L,F,h2,_,_⟩;rw[e,F];show CJ V.str uH h h2 l
 .rcases B with _|_|_|⟨_,L,F,h2,_,_⟩;rw[e,F];show CJ V.int mw h h2 l
 .rcases B with _|_|_|_|⟨_,_,_,L,F,h2⟩;rw[e,F];show HA h h2 (by change 3<=1000;decide) λx G=>?_;simp only[Ti,U4,or_false]at G;rcases G with rfl|rfl|rfl
  .show uH _
  .show mw _
  .show mw _
variable{σ:St}
theorem PD{A B C D R:TS}{E:Ends}(Pr:St->Hp->Prop)(F:∀σ H,Pr σ H->R E σ H)(k:∀r:St->Hp->Prop,(∀σ H,Pr σ H->r σ H)->gj A (gj B (gj C D)) { E with nx:=r } σ H):gj A (gj B (gj C (gj D R))) E σ H:=k (R E) F
inductive Ka(M1 M2:b6)(C1 C2:Addr)(v:qAh)(H:Hp)(Q:VK)(e:XK):Prop
 |mk (z1 z2:FA) (m1:M1.St) (m2:M2.St) (tot:Nat) (N:NS) (S:SS) (h:HT) (t:Addr) (d:Dd) (_:v=[.ref z1.a,.ref z2.a,.ref t]) (_:Tw M1 M2 C1 C2 H z1 z2 m1 m2 tot N h N h) (_:Fz N S) (_:∀J,Off (λx=>fB M1 z1 m1 x\/fB M2 z2 m2 x) H J->mI J t d) (_:kM d)
  (_:∀(H':Hp)(m1':M1.St)(m2':M2.St)(N':NS)(S':SS)(h':HT),Tw M1 M2 C1 C2 H' z1 z2 m1' m2' tot N' h' N' h'->Fz N' S'->Ts M1 M2 z1 z2 H m1 m2 H' m1' m2'->Q (.bl true) H'):Ka M1 M2 C1 C2 v H Q e
abbrev QH:Tg:=top 96
theorem B0(e:Er):¬ V.str (Hi e)=V.str "other" := λz=>absurd (V.str.inj z) (by cases e<;>decide +kernel)
theorem P2:Tn K (.type "str") (.type "list")=some false:=by with_unfolding_all rfl
theorem Q0:Tn K (.type "int") (.type "list")=some false:=by with_unfolding_all rfl
theorem QG:Tn K (.type "NoneType") (.type "list")=some false:=by with_unfolding_all rfl
theorem JG:ax ["_law_one","_law_other","_law_deed_here","_law_found","_law_due"] ["_law_one","_law_other","_law_deed_here"] (ak QH):=L2.a8
theorem GK(F:bM K "_law_same" "_law_same" QH f fd)(L:rL K mg X)(U:M1.Ok P w K mg base)(G:M2.Ok P w K mg base)(a0:d7 K C1)(aB:d7 K C2)(aT:↥Df 14 "_law_told" (Cu M1 C1 X))(a2:↥Df 14 "_law_told" (Cu M2 C2 X))(a3:↥Md 9 C1 "free" (zQ M1 C1))(aK:↥Md 9 C2 "free" (zQ M2 C2))(ar:↥Df 2 "_law_alike" (wk 2)):↥aM 15 f fd ["_law_one","_law_other","_law_deed_here"] (Ka M1 M2 C1 C2):=by
 show F.cU JG ?_;intros;let#[z1,z2,m1,m2,tot,N,S,h,t,d,rfl,W,Z,hd,ok,k]:=h;let hs:=y1;show#[_,(aj (cL 3 JG.nd (pc aT hr ay (aa (pv 0) (aa (pv 2) ae))))
  (aj (cL 4 JG.nd (pc a2 hr ay (aa (pv 1) (aa (pv 2) ae))))
  (aj (bP (PW.pt (n6 (aA pb (aL aQ (pv 3) ai bZ) (aL aQ (pv 4) ai bZ) (aI _)) (n6 (aA (Jb (Wv (cV hr))) (aL aQ (pv 4) ai bZ) aF (aI _)) (kU (kT (gy (pc ar hr ay (aa (aL aQ (pv 3) ai bZ) (aa (aL aQ (pv 4) ai bZ) ae))))))))) (aq (aG jv)) bj)
  (aj (bP (gy (aC eQ (by rfl) L.mS aU (aa (aL aQ (pv 3) ai bZ) (aa (d9 (v:=.ty "list") (by rfl) L.list dI rfl) ae)))) (aq (aR (fA Uy V8 V9 lT (aL aQ (pv 3) ai bZ) (aa ai ae)))) bj)
  (aq (aG (pc ar hr ay (aa (wB (pv 0) a0.cl a3 hr ay) (aa (wB (pv 1) aB.cl aK hr ay) ae))))))))),?_]
 show PD (λσ J=>σ[0]?=some (some (.ref z1.a))/\σ[1]?=some (some (.ref z2.a))/\∃m1' m2' N' S' h',Tw M1 M2 C1 C2 J z1 z2 m1' m2' tot N' h' N' h'/\Fz N' S'/\Ts M1 M2 z1 z2 H m1 m2 J m1' m2') ?_ ?_
 .rintro σ J ⟨e0,e1,m1',m2',N',S',h',W1,Z1,t1⟩;let#[dx,hx]:=W1.f1.ob;show#[_,e0,z1.a,dx,0,hx,a9 av av,z1,m1',tot,(0),N',h',rfl,W1.f1,λJ2 q2 s2 f2 g2=>?_];let W2:=W1.same U G s2;let#[dy,hy]:=W2.f2.ob;show#[_,e1,z2.a,dy,0,hy,a9 av av,z2,m2',tot,(0),N',h',rfl,W2.f2,λJ3 q3 I f3 g3=>?_];show#[_,0,Mn (I _ _ g2) g3,λJ4 s4=>k J4 m1' m2' N' S' h' ((W2.same U G I).same U G s4) Z1 (t1.post (s2.trans (I.trans s4)))]
 .intro r kr;show#[0,0,z1,m1,tot,N,S,h,t,d,rfl,W.f1,Z,hd H λ_ _ e _=>e,ok,λe he H1 Y s1 f1 g1=>?_,λrs N' S' h' he H1 m1' v1 Y A1 am R1 w1 g1=>?_]
  .show#[0,0,z2,m2,tot,N,S,h,t,d,rfl,(W.same U G s1).f2,Z,hd H1 (Off.of s1),ok,λe' ab H2 q2 s2 f2 g2=>?_,λ_ _ _ _ ab=>by rwa[he]at ab];rwa[he]at ab;let W2:=(W.same U G s1).same U G s2;let ad:=s2 _ _ g1;show#[0,Y,_,(0),0,rfl,aW.of ad,aD (j:=0) rfl,0,q2,_,(0),0,rfl,aW.of g2,aD (j:=0) rfl,rfl,0,?_];rw[decide_eq_true rfl];show ck #[0,q2,_,(1),0,rfl,aW.of g2,aD (j:=1) rfl,.flat #[rfl,0,?_]];rw[decide_eq_false (B0 e)];show ck #[0,Y,_,(1),0,rfl,aW.of ad,aD (j:=1) rfl,0,q2,_,(1),0,rfl,aW.of g2,aD (j:=1) rfl,_,0,uH _,λH3 I=>#[0,ck ?_]];show#[0,Y,_,(1),0,rfl,aW.of (I _ _ ad),aD (j:=1) rfl,2,_,0,.str _,P2,0,ck (kr _ _ #[1,m1,m2,N,S,h,W2.same U G I,Z,Ts.refl.post (s1.trans (s2.trans I))])]
  .let W1:=W.one G A1 am;show#[0,0,z2,m2,tot,N,S,h,t,d,rfl,W1.f2,Z,hd H1 (am.off.mono λ_ b=>.inl b),ok,λe ab=>(by rwa[he]at ab),λa5 N2 S2 h2 ap H2 m2' v2 q2 A2 ac R2 w2 g2=>?_];rwa[he]at ap;let W2:=(W1.symm.one U A2 ac).symm;let Z2:=N7 Z ok he;let T2:Ts M1 M2 z1 z2 H m1 m2 H2 m1' m2':=(Ts.one am).trans (Ts.two ac);let lr:=Lk Z he;let a4:¬ fB M2 z2 m2 Y:=λb=>by
    rcases w1 with w1|w1
    .show W.sep Y (.inl w1) b
    .show W.f2.live G b w1
   let ad:=ac.off _ _ g1 a4;let ao:tH H H2 (M1.own m1') v1 rs:=by
    rcases R1 with e|⟨i,e⟩|⟨l,q,e,h,f,n⟩|⟨l,q,e,h,f,n⟩|⟨k,l,z,q,e,h⟩
    .show .a7 e
    .show .int i e
    .show tH.strs l q e (ac.off _ _ h λb=>W.f2.live G b f) f n
    .show tH.ints l q e (ac.off _ _ h λb=>W.f2.live G b f) f n
    .show .tup k l z q e (ac.off _ _ h λb=>?_);rcases b with b|b
     .show G.nt W1.f2.A b h
     .rw[b,W1.f2.hh]at h;cases h
   show#[0,Y,_,(0),0,rfl,aW.of ad,aD (j:=0) rfl,0,q2,_,(0),0,rfl,aW.of g2,aD (j:=0) rfl,rfl,0,?_];rw[decide_eq_true rfl];let as:∀Q':VK,Q' (.bl false) H2->Bl K v2 (.str "other") H2 Q':=λQ' q=>by
    rcases R2 with e|⟨i,e⟩|⟨l,q3,e,h,f,n⟩|⟨l,q3,e,h,f,n⟩|⟨k,l,z,q3,e,h⟩
    .rw[e];show .flat #[rfl,by rw[decide_eq_false (λz=>by cases z)];show q]
    .rw[e];show .flat #[rfl,by rw[decide_eq_false (λz=>by cases z)];show q]
    .show .lst q3 _ _ e rfl (aW.of h) q
    .show .lst q3 _ _ e rfl (aW.of h) q
    .show .tup q3 _ _ e rfl (dC.of h) q
   show ck #[0,q2,_,(1),0,rfl,aW.of g2,aD (j:=1) rfl,as _ #[0,ck ?_]];show#[0,Y,_,(1),0,rfl,aW.of ad,aD (j:=1) rfl,0,q2,_,(1),0,rfl,aW.of g2,aD (j:=1) rfl,_,0,ao.SJ R2 lr,λH3 I=>#[0,ck ?_]];let W3:=W2.same U G I;let T3:=T2.post I;let g3:=I _ _ ad;let a1:(∃t',jB K H3 v1 (.type t')/\Tn K (.type t') (.type "list")=some false)\/∃q xs,v1=.ref q/\H3 q=some (.lst xs)/\xs.length<=1000/\H q=none/\¬ M1.own m1' q:=by
    rcases ao with e|⟨i,e⟩|⟨l,q,e,h,f,n⟩|⟨l,q,e,h,f,n⟩|⟨k,l,z,q,e,h⟩
    .subst e;show .inl #[_,.a7,QG]
    .subst e;show .inl #[_,.int i,Q0]
    .show .inr #[q,_,e,I _ _ h,by rw[rz];show lr,f,n]
    .show .inr #[q,_,e,I _ _ h,by rw[rz];show lr,f,n]
    .subst e;show .inl #[_,.tup (I _ _ h),(Ky true)]
   rcases a1 with⟨t',ty,kt⟩|⟨q,xs,ev,hq,lx,f,n⟩
   .show#[0,Y,_,(1),0,rfl,aW.of g3,aD (j:=1) rfl,2,_,0,ty,kt,0,ck (kr _ _ #[1,m1',m2',N',S',h',W3,Z2,T3])]
   .subst ev;let lv:∀{x:Addr},H x≠none->x≠q:=λhx z=>hx (by rw[z];show f);let b1:¬ fB M1 z1 m1' q:=λb=>by
     rcases b with b|b
     .show n b
     .show lv (W.f1.live U (.inr rfl)) b.symm
    let b2:¬ fB M2 z2 m2' q:=λb=>by
     rcases ac.ow b with b|b
     .show W.f2.live G b f
     .rcases R1 with e|⟨i,e⟩|⟨l,q',e,h,f',n'⟩|⟨l,q',e,h,f',n'⟩|⟨k,l,z,q',e,h⟩
      .cases e
      .cases e
      .cases e;rwa[h]at b
      .cases e;rwa[h]at b
      .cases e;rwa[h]at b
    let o4:Off (· = q) H3 (upd H3 q (.lst (xs++[.int 0]))):=λb u e nb=>(by rw[au nb];show e);let W4:=W3.QO U G o4 b1 b2 (lv W.f1.la) (lv (W.f1.ln U)) (lv W.f2.la) (lv (W.f2.ln G));let T4:Ts M1 M2 z1 z2 H m1 m2 (upd H3 q (.lst (xs++[.int 0]))) m1' m2':=#[λb u e nb=>o4 b u (T3.off b u e nb) (lv (by rw[e];show λz=>by cases z)),T3.own];show#[0,Y,_,(1),0,rfl,aW.of g3,aD (j:=1) rfl,2,_,0,.lst hq,KI K,0,dt ?_];show#[0,Y,_,(1),0,rfl,aW.of g3,aD (j:=1) rfl,.inl #[5,aW.of hq],q,xs,0,rfl,hq,af,kr _ _ #[1,m1',m2',N',S',h',W4,Z2,T4]]
def OB(H:Hp)(i:Nat)(ys:qAh)(H2:Hp):Prop:=∃cs:List Addr,ys=cs.map V.ref/\cs.length=i/\Rows H2 cs (IF i (IF 16 0))/\aH H H2/\∀x∈cs,H x=none
variable{l:Addr}
theorem OB.next{H2:Hp}{X:HO}(z:OB H i ys H2)(L:H2 l=none)(I:H2 q=none)(ne:q≠l):OB H (i+1) (ys++[.ref q]) (upd (upd H2 l X) q (.lst (IF 16 (V.int 0)))):=by
 let#[cs,rfl,U,R,s,fr]:=z;let G:aH H2 (upd (upd H2 l X) q (.lst (IF 16 (V.int 0)))):=λb o e=>(by rw[au (aV e I),au (aV e L)];show e);show#[cs++[q],by rw[K4];rfl,by rw[wh,U];rfl,?_,s.trans G,λx F=>?_]
 .rw[<-AS (IF 16 (0:Int)) i];show iV #[?_,Uh] (R.same G);rw[ag,V6]
 .rcases SY.mp F with F|F
  .show fr x F
  .rw[DO.mp F];show s.free I
inductive DJ(C:Addr)(v:qAh)(H:Hp)(Q:VK)(e:XK):Prop
 |mk(p dx:Addr)(n:Nat)(_:v=[.ref p,.int n])(_:n<=300)(_:H p=some (.ins C dx []))(_:∀(bl:Addr)(cs:qAc)(H':Hp),H bl=none->(∀x∈cs,H x=none)->bt C H' p bl 0 .a7 false cs (jo n)->Off (· = p) H H'->Q .a7 H')
theorem DU(F:bM K "__init__" "Disk.__init__" DK f fd)(T:Txt K mg C):↥aM 1 f fd ["self","many"] (DJ C):=by
 let#[ao,ad,ac]:=T.bn;show F.cU Sw ?_;intros;let#[p,dx,n,rfl,hn,G,k]:=h;let hs:=y1;show#[_,(aj (dS (pv 0) (cY (cl:=[]) (caps:=[]) #[rfl,av,av,rfl,by kernel_rfl,by intro p G;simp at G,by kernel_rfl,by intro p G;simp at G,av] rfl (cH (by rfl) T.range (aa (pv 1) ae)) (λ_ _ _ _=>eM) (λ_ _ _ _=>(aJ iM (bq (aa ai ae)) (gv (by rfl) ad ac)))) rfl)
  (aj (dS (pv 0) ai rfl)
  (aj (dS (pv 0) cF rfl)
  (aq (dS (pv 0) jv rfl))))),?_]
 show#[0,n,rfl,af,af,?_];show iQ (lo:=0) (n:=((n:Nat):Int).toNat) (OB H) #[[],1,.nil,aH.refl H,λx hx=>(by cases hx)] ?_ ?_
 .intro i ys H2 hi z;show#[az,λl1 am=>#[l1,(16),0,rfl,ag,af,af,by rw[Tj];omega,λq Y=>?_]];let ql:q≠l1:=λe=>(by rwa[e,ag]at Y);rw[au ql]at Y;show#[?_,z.next am Y ql];let#[cs,rfl,hc,_]:=z;rw[rz];omega
 .rintro ys H2 ⟨cs,rfl,hc,R,U,fr⟩ bl ab;rw[show((n:Nat):Int).toNat=n from Vn n]at R;let h2:=U _ _ G;let I:p≠bl:=aV h2 ab;show#[0,p,C,dx,[],rfl,by rw[au I];show h2,T.cl,T.nB,az,?_];show#[0,p,C,dx,0,ag,T.cl,T.nD,by change 1<1000;decide,?_];show#[0,p,C,dx,0,ag,T.cl,T.nU,by change 2<1000;decide,?_];show#[0,p,C,dx,0,ag,T.cl,T.nF,by change 3<1000;decide,?_];show k bl cs _ (U.free ab) fr #[#[dx,ag],4] λb o e hb=>?_
  .rw[au (Ne.symm I),au (Ne.symm I),au (Ne.symm I),au (Ne.symm I),ag]
  .show Paired.tS R λa ns q=>#[?_,q.2];let Z:a≠p:=Ne.symm (gp h2 q.1);rw[au Z,au Z,au Z,au Z,au (aV q.1 ab)];show q.1
  .let L:b≠p:=hb;rw[au L,au L,au L,au L,au (aV (U _ _ e) ab)];show U _ _ e
theorem C0{ws U:qAh}{ps:List gO}(A:En H N ws ps)(B:En H N U ps)(Z:H a=some (.lst ws))(hb:H b=some (.lst U))(lp:ps.length<=960)(ok:HP tot N):yn H 4 (.ref a) (.ref b):=by
 show .seq false a b _ _ rfl rfl Z hb (A.ln.trans B.ln.symm) (by have:=A.ln;omega) λi u v e1 e2=>?_;let#[x,ex,nd,t,cl,I,rfl,h1,h2]:=A.at_ i u e1;let#[y,L,ab,t',ac,G,rfl,h3,Y]:=B.at_ i v e2;rwa[ex]at L;rwa[I]at G;let lc:(Af nd).length<=1000:=by
  have:=ok.uS _ _ I;unfold Af;split
  .show Tp _
  .omega
 show .seq true t t' _ _ rfl rfl h1 h3 rfl (by change 4<=1000;decide) λj p q F g2=>?_
 match j,F,g2 with
 |0,F,g2=>cases F;cases g2;show uH _
 |1,F,g2=>cases F;cases g2;show uH _
 |2,F,g2=>cases F;cases g2;show mw _
 |3,F,g2=>cases F;cases g2;show CJ V.int mw h2 Y lc
 |j+4,F,g2=>cases F
structure zG(M1 M2:b6)(C1 C2:Addr)(H0:Hp)(J:Hp)(z1 z2:FA)(m1:M1.St)(m2:M2.St)(tot:Nat)(N:NS)(S:SS)(h:HT):Prop where
 W:Tw M1 M2 C1 C2 J z1 z2 m1 m2 tot N h N h
 Z:Fz N S
 s:aH H0 J
 fr:∀x,fB M1 z1 m1 x\/fB M2 z2 m2 x->H0 x=none
variable{J':Hp}
theorem zG.same(F:M1.Ok P w K mg base)(G:M2.Ok P w K mg base)(A:zG M1 M2 C1 C2 H0 J z1 z2 m1 m2 tot N S h)(s:aH J J'):zG M1 M2 C1 C2 H0 J' z1 z2 m1 m2 tot N S h:=#[A.W.same F G s,A.Z,A.s.trans s,A.fr]
theorem zG.step(A:zG M1 M2 C1 C2 H0 J z1 z2 m1 m2 tot N S h)(W:Tw M1 M2 C1 C2 J' z1 z2 m1' m2' tot N' h' N' h')(Z:Fz N' S')(t:Ts M1 M2 z1 z2 J m1 m2 J' m1' m2'):zG M1 M2 C1 C2 H0 J' z1 z2 m1' m2' tot N' S' h':=by
 show#[W,Z,λb o e=>t.off b o (A.s _ _ e) λG=>?_,λx F=>?_]
 .rw[A.fr b G]at e;cases e
 .rcases t.own x F with q|q
  .show A.fr x q
  .show aX A.s q
theorem zG.live(F:M1.Ok P w K mg base)(G:M2.Ok P w K mg base)(A:zG M1 M2 C1 C2 H0 J z1 z2 m1 m2 tot N S h)(b:fB M1 z1 m1 x\/fB M2 z2 m2 x):J x≠none:=b.elim (A.W.f1.live F) (A.W.f2.live G)
theorem zG.dd(G:M1.Ok P w K mg base)(I:M2.Ok P w K mg base)(A:zG M1 M2 C1 C2 H0 J z1 z2 m1 m2 tot N S h)(g:zo J t d J'):∀F,Off (λx=>fB M1 z1 m1 x\/fB M2 z2 m2 x) J' F->mI F t d:=λF o=>g F λx u a b=>o x u b λL=>A.live G I L a
def yq(K:SU):Sp:=λvs H Q _=>∃(a:Addr)(ns:qAa),vs=[.ref a]/\aW K H a (ns.map V.int)/\ns.length<=63/\∀H',Q (.bl true) H'
theorem Lf.sm{I G:Hp}(s:aH J I)(f:J l=none)(F:Lf l I G):aH J G:=λb o e=>F.off b o (s _ _ e) λz=>by rwa[z,f]at e
abbrev OT:Tg:=top 97
theorem Kn{D:Ends}{t r:TS}(Pr:St->Hp->Prop)(h:∀σ H,Pr σ H->r D σ H)(mk:∀F:St->Hp->Prop,(∀σ H,Pr σ H->F σ H)->t { D with nx:=F } σ H):gj t r D σ H:=mk (r D) h
theorem gn{k:St->Hp->Prop}(h:k (σ.set i (some v)) H):iz i v σ H k:=h
theorem u9(h:aW K H a xs)(s:aH H H'):aW K H' a xs:=by
 rcases h with(h|⟨o,h⟩)|h
 .show .inl (.inl (s _ _ h))
 .show .inl (.inr #[o,s _ _ h])
 .show .inr h
theorem n9:ax ["_law_script","_law_first","_law_room","_law_disk","_law_files","_law_plain","_law_k","_law_left_here","_law_deeds","_law_deed_here"] ["_law_script"] (ak OT):=L2.a8
theorem IS{c:DA}{CN CP fD fP:Addr}{dD dP:DD}(F:bM K "law" "law" OT f fd)(L:rL K mg X)(I:(sL c CN).Ok P w K mg base)(O2:(jg CP).Ok P w K mg base)
  (bn:↥Df 1 "_law_mixed" GZ) (cg:↥Df 2 "_law_left" (KW K)) (cc:↥Df 1 "_law_digit" vf) (cD:↥Df 3 "_law_deed" IY) (bW:↥Df 3 "_law_many" Ig)
  (a0:↥Df 15 "_law_same" (Ka (sL c CN) (jg CP) C1 C2)) (ba:↥Df 4 "_law_alike" (wk 4)) (cB:↥Df 8 "format_disk" (Km c)) (c3:↥Df 9 "mount" (HX c CN C1))
  (bd:↥Df 12 "tree" (AU (sL c CN) C1)) (a4:↥Df 12 "tree" (AU (jg CP) C2))
  (bC:Mk K c.C fD) (b2:↥aM 1 fD dD ["self","many"] (DJ c.C)) (cR:mg "Disk" = some (.ref c.C)) (b3:Binds K dD ["self","many"] [])
  (b1:Mk K C2 fP) (cv:↥aM 3 fP dP ["self","blocks"] (KA CP C2)) (c0:mg "PlainFiles" = some (.ref C2)) (co:Binds K dP ["self","blocks"] []) :
  ↥aM 16 f fd ["_law_script"] (yq K):=by
 show F.cU n9 ?_;intros;let#[sc,ns,rfl,ad,da,k]:=h;let hs:=y1;show#[_,(aj (cL 1 n9.nd (pc bn hr ay (aa (aC aO (by rfl) L.len T7 (aa (pv 0) ae)) (aP ai ae))))
  (aj (cL 2 n9.nd (aL aQ (bq (aa (aJ bU ai (aJ eY (aJ jk (pv 1) ai) ai)) (aP ai (aP ai ae)))) (aJ eY (pv 1) ai) bZ))
  (aj (cL 3 n9.nd (gx bC b2 (hr.mono az) (by rfl) cR b3 .nil ay (aa (aJ bU (pv 2) ai) ae)))
  (aj (aR (pc cB hr ay (aa (pv 3) ae)))
  (aj (cL 4 n9.nd (pc c3 hr ay (aa (pv 3) ae)))
  (aj (cL 5 n9.nd (gx b1 cv (hr.mono az) (by rfl) c0 co .nil ay (aa (pv 2) ae)))
  (aj (dU TK rfl (cH (by rfl) L.range (aa (aC (zI rfl) (by rfl) L.min IZ (aP ai (aa (aC aO (by rfl) L.len T7 (aa (pv 0) ae)) ae))) ae)) (qx 6 n9.nd) (aj (cL 7 n9.nd (pc cg hr ay (aa (pv 0) (aa (pv 6) ae))))
  (aj (cL 8 n9.nd (bq (aa (pc cD hr ay (aa (pv 7) ae)) ae)))
  (aj (bP (PW.pt (oF (aA bD (aJ eY (pv 6) ai) ai (aI _)) (jQ (aA bD (pc cc hr ay (aa (pv 7) (aP ai ae))) ai (aI _))))) (aq (cL 8 n9.nd (pc bW hr ay (aa (pv 7) ae)))) bj)
  (aj (dU TK rfl (cJ (pv 8)) (qx 9 n9.nd) (aq (bP (kT (gy (pc a0 hr ay (aa (pv 4) (aa (pv 5) (aa (pv 9) ae)))))) (aq (aG jv)) bj)))
  (aq (bP (PW.pt (oF (aA bD (pv 6) ai (aI _)) (jQ (kT (gy (pc ba hr ay (aa (pc bd hr ay (aa (pv 4) ae)) (aa (pc a4 hr ay (aa (pv 5) ae)) ae)))))))) (aq (aG jv)) bj)))))))
  (aq (aG (oP (pc ba hr ay (aa (pc bd hr ay (aa (pv 4) ae)) (aa (pc a4 hr ay (aa (pv 5) ae)) ae))) (sI (pc a0 hr ay (aa (pv 4) (aa (pv 5) (aa (dZ (aP aF (aP aF ae))) ae))))))))))))))),?_]
 show#[0,sc,0,.inl ad,_,(1),rfl,az,az,λv=>?_];show#[0,_,0,rfl,#[az,az],_,0,rfl,(qAk 11),_,0,rfl,by change 3<=sizeLine;omega,λq0 as=>?_];let#[rm,er,mr]:=su (xs:=[1+v/3%12,60,192]) (i:=v%3) af (by change v%3<3;omega);let dp:1<=rm/\rm<=192:=by
  simp only[Ti,U4,or_false]at mr;omega
 obtain⟨tot,rfl⟩:∃tot:Nat,rm=tot:=#[rm.toNat,af];let s0:=ah (X:=.lst [V.int (1+v/3%12),V.int 60,V.int 192]) as;show#[0,_,0,rfl,RX,q0,2,0,rfl,aW.of ag,er,?_];generalize upd H q0 (.lst [V.int (1+v/3%12),V.int 60,V.int 192])=H1 at *;show#[0,_,0,rfl,λp dz f1 f2 ne=>?_];let s1:aH H1 (upd (upd H1 dz (.own p)) p (.ins c.C dz [])):=(ah f2).trans (ah (by rw[au (Ne.symm ne)];show f1));show#[p,dz,48+tot,by rw[show((48+tot:Nat):Int)=(tot:Int)+48 by omega];rfl,af,ag,λbl cs H2 ce bR D2 o2=>#[3]];let ap:=s0.trans s1;let ao:H p=none:=aX s0 f1;let aB:aH H H2:=λb o e=>o2 b o (ap _ _ e) λz=>(by rwa[z,ao]at e);let aK:H bl=none:=aX ap ce;let a3:∀x∈cs,H x=none:=λx G=>aX ap (bR x G);show#[0,p,bl,(0),cs,tot,rfl,D2,#[af,af],λH3 d3 ar cx cj D3 c2 z3 R3 ci o3=>?_];let dw:∀x,uJ p bl cs x->H x=none:=λx G=>by
  rcases G with G|G|G
  .rw[G];show ao
  .rw[G];show aK
  .show a3 x G
 let bb:aH H H3:=λb o e=>o3 b o (aB _ _ e) λz=>(by rwa[dw b z]at e);let be:∀x,uJ p bl ar x->H x=none:=λx G=>by
  rcases G with G|G|G
  .rw[G];show ao
  .rw[G];show aK
  .rcases ci x G with q|q
   .show a3 x q
   .show aX aB q
 show#[0,p,bl,d3,ar,cx,tot,N0,cj,rfl,D3,c2,#[af,af],z3,R3,λn nd e=>(by let#[_,rfl]:=i3 e;show(by decide:¬ (1:Int)=0)),λH4 z1 m1 F1 a1 c6 db c4 o4=>?_];let am:aH H H4:=λb o e=>o4 b o (bb _ _ e) λz=>(by rwa[be b z]at e);let a6:∀x,fB (sL c CN) z1 m1 x->H x=none:=λx G=>by
  let g:∀x,uJ p bl ar x\/H3 x=none->H x=none:=λx G=>G.elim (be x) (aX bb);rcases G with G|G
  .show g x (a1 x G)
  .rw[G];show g _ c4
 show#[0,λpa dy f3 f4 cr=>?_];let s5:aH H4 (upd (upd H4 dy (.own pa)) pa (.ins C2 dy [])):=(ah f4).trans (ah (by rw[au (Ne.symm cr)];show f3));show#[pa,dy,tot,rfl,ag,af,λH6 z2 m2 b5 F2 aT bY bF o6=>#[3]];subst b5;let g2:∀{x:Addr},upd (upd H4 dy (.own z2.a)) z2.a (.ins C2 dy []) x=none->H4 x=none:=λe=>aX s5 e;let ac:∀x,fB (jg CP) z2 m2 x->H4 x=none:=λx G=>by
  rcases G with G|G
  .show g2 (aT x G)
  .rw[G];show g2 bF
 let lv:∀{x:Addr},H4 x≠none->x≠z2.a:=λG z=>G (by rw[z];show f3);let bm:dh (sL c CN) C1 H6 z1 m1 tot N0 [] 0:=(F1.same I s5).off I o6 (λx G=>lv (F1.live I (.inl G))) (lv F1.la) (lv (F1.ln I)) (lv (F1.live I (.inr rfl)));let a2:aH H H6:=λb o e=>o6 b o (s5 _ _ (am _ _ e)) (lv (by rw[am _ _ e];show λz=>by cases z));let A6:zG (sL c CN) (jg CP) C1 C2 H H6 z1 z2 m1 m2 tot N0 (λ_=>[]) []:=
  #[#[bm,F2,λx a b=>F1.live I a (ac x b),λb=>F1.la (ac _ b),λb=>F1.ln I (ac _ b),λa=>F1.live I a f3,λa=>F1.live I a (g2 bY)],Nt,a2,λx G=>G.elim (a6 x) λb=>aX am (ac x b)]
 clear bm F2 a1 aT a6 ac;let bN:0<=(if ((ns.map V.int).length:Nat)<(63:Int)then(((ns.map V.int).length:Nat):Int)else(63:Int))/\(if ((ns.map V.int).length:Nat)<(63:Int)then(((ns.map V.int).length:Nat):Int)else(63:Int))<=ns.length/\(if ((ns.map V.int).length:Nat)<(63:Int)then(((ns.map V.int).length:Nat):Int)else(63:Int))<=63:=by
  rw[rz];split<;>omega
 show#[0,sc,0,.inl (u9 ad a2),_,0,0,af,af,?_];generalize (if ((ns.map V.int).length:Nat)<(63:Int)then(((ns.map V.int).length:Nat):Int)else(63:Int))=mm at bN ⊢;show eV (lo:=0) (n:=mm.toNat) (λi σ J=>∃(v6 v7 v8 v9:Option V)(m1:(sL c CN).St)(m2:(jg CP).St)(N:NS)(S:SS)(h:HT),σ=#v[.ref sc,.int v,.int (tot:Int),.ref p,.ref z1.a,.ref z2.a,v6,v7,v8,v9]/\zG (sL c CN) (jg CP) C1 C2 H J z1 z2 m1 m2 tot N S h) #[2,2,m1,m2,N0,_,[],rfl,A6] ?_ ?_
 .rintro i σ J hi ⟨v6,v7,v8,v9,m1,m2,N,S,h,rfl,A⟩;rw[show(0+(i:Int))=(i:Int)by omega];show gn ?_;show gz λ_ jt=>?_;show#[0,0,sc,ns,i,rfl,u9 ad A.s,af,af,λJ1 l ab fl bx=>jt _ _ ?_];clear jt;show gz λ_ jt=>?_;show#[0,l,rfl,bx,λt d J2 od F2 ft ds=>#[by change 1<=sizeLine;omega,λq fq=>jt _ _ ?_]];clear jt;let ca:aH J J2:=F2.sm ab fl;let s3:=ah (X:=.lst [V.ref t]) fq;let e3:upd J2 q (.lst [V.ref t]) q=some (.lst [V.ref t]):=ag;let F3:=F2.same s3;let cP:zo J1 t d (upd J2 q (.lst [V.ref t])):=ds.mono s3;let as:J q=none:=aX ca fq;let cN:q≠l:=λz=>(by let#[u,e]:=F2.bx;rwa[<-z,fq]at e);generalize upd J2 q (.lst [V.ref t])=J3 at *;show Kn (λσ J4=>∃(q:Addr)(ds:List (Addr×Dd)),σ=#v[.ref sc,.int v,.int (tot:Int),.ref p,.ref z1.a,.ref z2.a,.int (i:Int),.ref l,.ref q,v9]/\aH J J4/\J q=none/\J4 q=some (.lst (ds.map λx=>V.ref x.1))/\ds.length<=1000/\∀x∈ds,kM x.2/\zo J x.1 x.2 J4) ?_ ?_
  .rintro σ J4 ⟨q,ds,rfl,bv,fq,eq,lq,hd⟩;let A4:=A.same I O2 bv;show#[0,q,rfl,#[_,aW.of eq],?_];show gf (K:=K) (a:=q) (xs:=ds.map λx=>V.ref x.1) (λ_ σ Y=>∃(v9:Option V)(m1:(sL c CN).St)(m2:(jg CP).St)(N:NS)(S:SS)(h:HT),σ=#v[.ref sc,.int v,.int (tot:Int),.ref p,.ref z1.a,.ref z2.a,.int (i:Int),.ref l,.ref q,v9]/\zG (sL c CN) (jg CP) C1 C2 H Y z1 z2 m1 m2 tot N S h/\(∀J',Off (λx=>fB (sL c CN) z1 m1 x\/fB (jg CP) z2 m2 x) Y J'->J' q=some (.lst (ds.map λx=>V.ref x.1)))/\∀x∈ds,∀J',Off (λx=>fB (sL c CN) z1 m1 x\/fB (jg CP) z2 m2 x) Y J'->mI J' x.1 x.2) #[v9,m1,m2,N,S,h,rfl,A4,λJ' o=>o _ _ eq λhb=>A.live I O2 hb fq,λx G=>A.dd I O2 (hd x G).2] ?_ ?_ ?_
   .rintro j σ Y _ ⟨_,m1,m2,N,S,h,_,_,st,_⟩;show aW.of (st Y λ_ _ e _=>e)
   .rintro j x σ Y G ⟨v9,m1,m2,N,S,h,rfl,U,sq,sd⟩;rw[M4]at G;let#[y,ey,rfl]:=SV.mp G;let my:=SO ey;show#[0,0,0,z1,z2,m1,m2,tot,N,S,h,y.1,y.2,rfl,U.W,U.Z,sd y my,(hd y my).1,λJ6 m1' m2' N' S' h' W6 Z6 t6=>#[0,ck ?_]];show#[_,m1',m2',N',S',h',rfl,U.step W6 Z6 t6,t6.gD sq,λx G=>t6.gD (sd x G)]
   .rintro σ Y ⟨v9,m1,m2,N,S,h,rfl,U,_,_⟩;show#[0,rfl,0,?_];show c9 (λ_=>?_) (λ_=>ck #[2,2,m1,m2,N,S,h,rfl,U]);show#[0,z1,m1,tot,(0),N,S,h,rfl,U.W.f1,U.Z,λJ6 q6 c1 s6 f6 e6 t6=>?_];show#[0,z2,m2,tot,(0),N,S,h,rfl,(U.same I O2 s6).W.f2,U.Z,λJ7 q7 b0 s7 f7 e7 t7=>?_];show#[_,0,C0 (t6.same s7) t7 (s7 _ _ e6) e7 (wA U.Z) (I.ok U.W.f1.A),λJ8 s8=>#[0,ck #[2,2,m1,m2,N,S,h,rfl,((U.same I O2 s6).same I O2 s7).same I O2 s8]]]
  .intro r kr;let bi:∀Y,Lf l J3 Y->r #v[.ref sc,.int v,.int (tot:Int),.ref p,.ref z1.a,.ref z2.a,.int (i:Int),.ref l,.ref q,v9] Y:=λY F5=>kr _ _ #[q,[(t,d)],rfl,(F3.trans F5).sm ab fl,as,F5.keep e3 cN,by change 1<=1000;decide,λx G=>by
    rw[DO.mp G];show#[od,λH'' nw=>cP H'' λx o a b=>nw x o (aX ab a) (F5.off x o b λz=>?_)];let#[u,e]:=bx;rwa[z,e]at a]
   show#[0,_,0,rfl,(qAk 9),rfl,0,?_];show c9 (λ_=>?_) (λ_=>ck (bi J3 (Lf.refl F3.bx)));show#[0,l,(2),rfl,F3.bx,az,az,λr5 Y a5 c5 F5=>#[rfl,0,?_]];show c9 (λ_=>?_) (λ_=>bi Y F5);show#[0,l,rfl,F5.bx,λq6 b4 J6 F6 bB e6 l6 h6=>?_];let bc:=F3.trans F5;let fr:∀x,Y x=none->J x=none:=λx G=>aX ab (bc.nn G);show kr _ _ #[q6,b4,rfl,(bc.trans F6).sm ab fl,fr _ bB,e6,l6,λx G=>#[(h6 x G).1,(h6 x G).2.pre fr]]
 .rintro σ J ⟨v6,v7,v8,v9,m1,m2,N,S,h,rfl,U⟩;show#[0,z1,m1,tot,(0),N,S,h,rfl,U.W.f1,U.Z,λJ6 q6 c1 s6 f6 e6 t6=>?_];show#[0,z2,m2,tot,(0),N,S,h,rfl,(U.same I O2 s6).W.f2,U.Z,λJ7 q7 b0 s7 f7 e7 t7=>?_];show#[_,0,C0 (t6.same s7) t7 (s7 _ _ e6) e7 (wA U.Z) (I.ok U.W.f1.A),λJ8 s8=>#[0,dt ?_]];let A8:=((U.same I O2 s6).same I O2 s7).same I O2 s8;show#[0,0,by change 2<=sizeLine;omega,λt ft=>?_];let A9:=A8.same I O2 (ah (X:=.tup [.str "names",.str "/"]) ft);show#[z1,z2,m1,m2,tot,N,S,h,t,.names "/",rfl,A9.W,A9.Z,λJ' o=>o _ _ ag λhb=>A8.live I O2 hb ft,(show bG "/" from(show fZ 1 "/" by decide +kernel).path az),λH' _ _ _ _ _ _ _ _=>k H']
end Fs
end
namespace Fs
open PySem L2 Dk Tb Srt
def Al:Nat->(List Value->Prop)->Prop
 |0,p=>p []
 |n+1,p=>∀a,Al n λl=>p (a::l)
theorem al:∀{n:Nat}{p:List Value->Prop},Al n p->∀us:List Value,us.length=n->p us
 |0,_,h,us,e=>by cases Vv e;exact h
 |n+1,_,h,us,e=>by
  cases us with
  |nil=>cases e
  |cons a us=>exact al (h a) us (Nat.succ.inj e)
inductive MI (K:SU) (C:Addr) (m q:Str) (st:Tg) (ps:List Str):Prop
 |mk (f:Addr) (fd:DD) (_:bM K m q st f fd) (_:Binds K fd ps []) (_:Meth K C m f):MI K C m q st ps
inductive DI (K:SU) (x:Str) (st:Tg) (ps:List Str):Prop
 |mk (f:Addr) (fd:DD) (_:bM K x x st f fd) (_:Binds K fd ps []) (_:nsIn K To x=some (some (.ref f))):DI K x st ps
variable{K:SU}{C f:Addr}{m q:Str}{st:Tg}{ps:List Str}{od an:Option Addr}{sl:Array (Option Value)}{oc kV dc pm cd ct:Value}
theorem MI.of (a:Ua K (.ref C) m=some (some (.ref f))) (i:isFn K (.ref f)=true) (l:K.lookup f=some ⟨oc,od,.func (fnOf m q (fi st) (di st) (ak st) .none kV dc pm an cd ct),sl⟩) (c:aaJ K cd q=true) (k:Uu K (.ref f)=true)
  (b:∀kV G pm an F ct,Al ps.length λus=>ZP (fnOf m q (fi st) (di st) (ak st) .none kV G pm an F ct) ⟨us,[]⟩=pure (ps.zip us)):MI K C m q st ps :=
 ⟨_,_,lC l c k,(lC l c k).binds λ_ _ _ _ _ _=>al (b _ _ _ _ _ _),a,i,k⟩
theorem DI.of (a:nsIn K To m=some (some (.ref f))) (l:K.lookup f=some ⟨oc,od,.func (fnOf m m (fi st) (di st) (ak st) .none kV dc pm an cd ct),sl⟩) (c:aaJ K cd m=true) (k:Uu K (.ref f)=true)
  (b:∀kV G pm an F ct,Al ps.length λus=>ZP (fnOf m m (fi st) (di st) (ak st) .none kV G pm an F ct) ⟨us,[]⟩=pure (ps.zip us)):DI K m st ps :=
 ⟨_,_,lC l c k,(lC l c k).binds λ_ _ _ _ _ _=>al (b _ _ _ _ _ _),a⟩
inductive CI (K:SU) (C:Addr) (x:Str):Prop
 |mk (_:nsIn K To x=some (some (.ref C))) (_:mZ K C) (_:makesIn K C=true) (_:Uu K (.ref C)=true):CI K C x
inductive BI (K:SU) (C:Addr) (x q:Str) (st:Tg) (ps:List Str):Prop
 |mk (f:Addr) (fd:DD) (_:bM K "__init__" q st f fd) (_:Binds K fd ps []) (_:nsIn K To x=some (some (.ref C))) (_:PySem.W.Dv K C f):BI K C x q st ps
variable{x:Str}
theorem BI.of(n:nsIn K To x=some (some (.ref C))) (t:aad K (.ref C)=some (.type "type")) (r:PySem.W.readsIn K C (.type "type")=true) (a:PySem.W.findCls K (.ref C) (.type "type") "__init__" = some (.val (.ref f))) (l:K.lookup f=some ⟨oc,od,.func (fnOf "__init__" q (fi st) (di st) (ak st) .none kV dc pm an cd ct),sl⟩) (c:aaJ K cd q=true) (k:Uu K (.ref f)=true)
  (b:∀kV G pm an F ct,Al ps.length λus=>ZP (fnOf "__init__" q (fi st) (di st) (ak st) .none kV G pm an F ct) ⟨us,[]⟩=pure (ps.zip us)):BI K C x q st ps :=
 ⟨_,_,lC l c k,(lC l c k).binds λ_ _ _ _ _ _=>al (b _ _ _ _ _ _),n,⟨t,r,a,k⟩⟩
noncomputable def Am (xs:List Addr) (e:Er):Addr:=xs.getD (bV e) 0
def KL (K:SU) (C:Addr):List Addr->Nat->Prop
 | [],_=>True
 |a::l,0=>Tn K (.ref C) (.ref a)=some true/\KL K C l 1000
 |a::l,n+1=>Tn K (.ref C) (.ref a)=some false/\KL K C l n
theorem vL {K:SU}{C:Addr}:∀{l:List Addr}{n:Nat},KL K C l n->l.length<=500->∀(j:Nat) (a:Addr),l[j]?=some a->Tn K (.ref C) (.ref a)=some (decide (n=j))
 | [],_,_,_,j,a,e=>by simp at e
 |b::l,0,h,F,0,a,e=>by cases e;exact h.1
 |b::l,0,h,F,j+1,a,e=>by
  have G:j<l.length:=(y0.mp (show l[j]?=some a from e)).1;have I:l.length+1<=500:=F;rw[vL h.2 (XY F) j a e,decide_eq_false af,decide_eq_false af]
 |b::l,n+1,h,F,0,a,e=>by cases e;rw[decide_eq_false af];exact h.1
 |b::l,n+1,h,F,j+1,a,e=>by
  rw[vL h.2 (XY F) j a e];by_cases c:n=j
  .rw[decide_eq_true c,decide_eq_true af]
  .rw[decide_eq_false c,decide_eq_false af]
inductive XI (K:SU) (C k:Addr) (l:List Addr) (i:Nat):Prop
 |mk (_:aas K C ou "ValueError.__new__" = true) (_:PySem.W.vv K C) (_:exmOne K (.ref C) (.ref k)=some true) (_:Tn K (.ref C) (.type "ValueError")=some true) (_:KL K C l i):XI K C k l i
def XL (K:SU) (k:Addr) (l:List Addr):List Addr->Nat->Prop
 | [],_=>True
 |a::r,i=>XI K a k l i/\XL K k l r (i+1)
theorem BX {K:SU}{k:Addr}{l:List Addr}:∀{r:List Addr}{i:Nat},XL K k l r i->∀(j:Nat) (a:Addr),r[j]?=some a->XI K a k l (i+j)
 | [],_,_,j,a,e=>by simp at e
 |b::r,i,h,0,a,e=>by cases e;exact h.1
 |b::r,i,h,j+1,a,e=>by
  rw[show i+(j+1)=i+1+j by omega];exact BX h.2 j a e
def YI (K:SU):List Str->List Addr->Prop
 |n::ns,x::xs=>nsIn K To n=some (some (.ref x))/\YI K ns xs
 |_,_=>True
theorem Dc {K:SU}:∀{ns:List Str}{xs:List Addr},YI K ns xs->∀(j:Nat) (n:Str) (x:Addr),ns[j]?=some n->xs[j]?=some x->nsIn K To n=some (some (.ref x))
 | [],_,_,j,n,x,e,_=>by simp at e
 |_::_,[],_,j,n,x,_,e=>by simp at e
 |m::ns,y::xs,h,0,n,x,F,G=>by cases F;cases G;exact h.1
 |m::ns,y::xs,h,j+1,n,x,F,G=>Dc h.2 j n x F G
variable{mg:Str->Option Value}
theorem MX{I:Heap}{xs:List Addr}{k:Addr}(U:K.In I) (Y:I.Ns To mg) (y:YI K (yb++Au) xs) (v:XL K k xs xs 0) (L:xs.length=13) :
  (∀e,mg (Hi e)=some (.ref (Am xs e)))/\(∀e,aas K (Am xs e) ou "ValueError.__new__" = true)/\(∀e,PySem.W.vv K (Am xs e))/\(∀e,exmOne K (.ref (Am xs e)) (.ref k)=some true)/\(∀e F,Tn K (.ref (Am xs e)) (.ref (Am xs F))=some (decide (bV e=bV F)))/\∀e,Tn K (.ref (Am xs e)) (.type "ValueError")=some true:=by
 have G:∀e,xs[bV e]?=some (Am xs e):=λe=>by
  have h:bV e<xs.length:=(by rw[L];cases e<;>decide);unfold Am;rw[List.getD_eq_getElem?_getD,tp h];rfl
 have g:∀e,XI K (Am xs e) k xs (bV e):=λe=>by
  have:=BX v _ _ (G e)
  rwa [ZX]at this
 refine⟨λe=>VF U Y (Dc y _ _ _ (by cases e<;>rfl) (G e)),λe=>?_,λe=>?_,λe=>?_,λe F=>?_,λe=>?_⟩<;>obtain⟨a,b,c,d,f⟩:=g e
 .exact a
 .exact b
 .exact c
 .exact vL f af _ _ (G F)
 .exact d
variable{P:By}{w:R4}{base:Heap}{CX:nJ}{n:Nat}{sp:Sp}
theorem MI.md(h:MI K C m q st ps) (k:∀{f fd},bM K m q st f fd->aM P w K mg base CX n f fd ps sp):Md P w K mg base CX n C m sp:=by
 obtain⟨f,fd,F,b,M⟩:=h;exact Md.mk _ _ _ (k F) b M
theorem DI.df{H:Heap}(h:DI K x st ps) (X:K.In H) (G:H.Ns To mg) (k:∀{f fd},bM K x x st f fd->aM P w K mg base CX n f fd ps sp):Df P w K mg base CX n x sp:=by
 obtain⟨f,fd,F,b,a⟩:=h;exact Df.mk _ _ _ (k F) b (VF X G a) F.kp
def NI (K:SU):List Str->Prop
 | []=>True
 |x::l=>nsIn K To x=some none/\NI K l
def AI (K:SU) (C:Addr):List Str->Prop
 | []=>True
 |x::l=>Ua K (.ref C) x=some none/\AI K C l
def NJ (mg:Str->Option Value):List Str->Prop
 | []=>True
 |x::l=>mg x=none/\NJ mg l
theorem HW {K:SU}{F:Heap}{mg:Str->Option Value}(G:K.In F) (I:F.Ns To mg):∀{l:List Str},NI K l->NJ mg l
 | [],_=>trivial
 |_::_,h=>⟨PySem.W.mg_none_of G I h.1,HW G I h.2⟩
def QI (K:SU):List (Str×Int)->Prop
 | []=>True
 |(x,v)::l=>(∃t,nsIn K To x=some (some (.int v t)))/\QI K l
def QJ (mg:Str->Option Value):List (Str×Int)->Prop
 | []=>True
 |(x,v)::l=>(∃u,mg x=some u/\RelV (.int v) u)/\QJ mg l
theorem qi_mg {K:SU}{F:Heap}{mg:Str->Option Value}(G:K.In F) (I:F.Ns To mg):∀{l:List (Str×Int)},QI K l->QJ mg l
 | [],_=>trivial
 |(_,_)::_,⟨⟨_,h⟩,k⟩=>⟨⟨_,VF G I h,⟨_,rfl⟩⟩,qi_mg G I k⟩
inductive FM (K:SU) (C:Addr):Prop
 |mk (_:MI K C "refuse_no_node" "Files.refuse_no_node" Q6 ["self","node"]) (_:MI K C "refuse_dir" "Files.refuse_dir" Ll ["self","node"]) (_:MI K C "refuse_no_file" "Files.refuse_no_file" PQ ["self","node"]) (_:MI K C "refuse_no_space" "Files.refuse_no_space" RQ ["self","node","size"]) (_:MI K C "put_name" "Files.put_name" P4 ["self","parent","slots","name","node"]) (_:MI K C "drop_name" "Files.drop_name" Qz ["self","parent","name"]) (_:MI K C "put_whole" "Files.put_whole" Qq ["self","node","cells"]) (_:MI K C "end_left" "Files.end_left" Qa ["self","node"]) (_:MI K C "find" "Files.find" Qc ["self","path"]) (_:MI K C "make_node" "Files.make_node" Pc ["self","path","kind"]) (_:MI K C "make" "Files.make" QW ["self","path"]) (_:MI K C "make_dir" "Files.make_dir" O7 ["self","path"]) (_:MI K C "names" "Files.names" Jn ["self","path"]) (_:MI K C "free" "Files.free" P8 ["self"]) (_:MI K C "stat" "Files.stat" RE ["self","node"]) (_:MI K C "read_at" "Files.read_at" Qy ["self","node","at","many"]) (_:MI K C "cut" "Files.cut" P9 ["self","node","size"]) (_:MI K C "write_at" "Files.write_at" R0 ["self","node","at","cells"]) (_:MI K C "hold" "Files.hold" RM ["self","node"]) (_:MI K C "loose" "Files.loose" Qv ["self","node"]) (_:MI K C "link" "Files.link" Qn ["self","path","new"]) (_:MI K C "unlink" "Files.unlink" OL ["self","path"]) (_:MI K C "remove_dir" "Files.remove_dir" Pg ["self","path"]) (_:MI K C "move" "Files.move" QD ["self","path","new"]):FM K C
variable{l:WV}
theorem all_mk{h0:Heap}{fa cD cR cN c1 cP c2 cB am a3 bc bd a5 bb ap as a6 a1 ad a2 ar b1 bW dA aK:Addr}{nh:Tok}{dN:Value}{d1:Option Addr}{kS:Array (Option Value)}{bl:Array Value}{nK:Nat}(U:K.In h0) (L:h0.Ns To mg) (hf:mg "law" = some (.ref fa)) :
  CI K cD "Disk" -> AI K cD ["blocks","done","until_fall","fallen"]->CI K cR "Draft" -> AI K cR ["disk","drafted"]->CI K cN "Nodes" -> AI K cN ["draft","total"]->CI K c1 "DiskFiles" -> AI K c1 ["nodes","holds"]->CI K cP "PlainNodes" -> AI K cP ["total","kinds","links","lists"]->CI K c2 "PlainFiles" -> AI K c2 ["nodes","holds"]->MI K cD "refuse_no_block" "Disk.refuse_no_block" Dk.nY ["self","n"]->MI K cD "refuse_fallen" "Disk.refuse_fallen" Dk.se ["self"]->MI K cD "read" "Disk.read" Dk.AZ ["self","n"]->MI K cD "write" "Disk.write" Dk.wC ["self","n","numbers"]->MI K cD "image" "Disk.image" Dk.wY ["self"]->DI K "forget" Dk.tm ["disk"]->DI K "recover" Dk.pE ["disk"]->DI K "commit" Dk.sN ["disk","changes"]->MI K cR "__init__" "Draft.__init__" Qx ["self","disk"]->MI K cR "read" "Draft.read" Qg ["self","n"]->MI K cR "write" "Draft.write" RD ["self","n","numbers"]->MI K cR "finish" "Draft.finish" P1 ["self"]->MI K cN "block_of_row" "Nodes.block_of_row" Rm ["self","n"]->DI K "filled" PY ["numbers","many"]->MI K cN "row_of" "Nodes.row_of" Qt ["self","n"]->MI K cN "put_row" "Nodes.put_row" Qb ["self","n","kind","links","size","blocks"]->MI K cN "kind_of" "Nodes.kind_of" O0 ["self","n"]->MI K cN "links_of" "Nodes.links_of" Qf ["self","n"]->MI K cN "size_of" "Nodes.size_of" RK ["self","n"]->MI K cN "end_node" "Nodes.end_node" P5 ["self","n"]->MI K cN "put_links" "Nodes.put_links" OI ["self","n","links"]->DI K "blocks_for" Rz ["size"]->MI K cN "cell_blocks" "Nodes.cell_blocks" Ro ["self","blocks"]->MI K cN "blocks_of" "Nodes.blocks_of" PZ ["self","n"]->MI K cN "cells_of" "Nodes.cells_of" Qr ["self","n"]->MI K cN "finish" "Nodes.finish" R7 ["self"]->MI K cN "unused_blocks" "Nodes.unused_blocks" RP ["self"]->MI K cN "put_cells" "Nodes.put_cells" Rj ["self","n","cells"]->MI K cN "begin_node" "Nodes.begin_node" Pt ["self","n","kind"]->MI K cP "kind_of" "PlainNodes.kind_of" ON ["self","n"]->MI K cP "links_of" "PlainNodes.links_of" JB ["self","n"]->MI K cP "size_of" "PlainNodes.size_of" JX ["self","n"]->MI K cP "cells_of" "PlainNodes.cells_of" KJ ["self","n"]->MI K cP "finish" "PlainNodes.finish" Kw ["self"]->MI K cP "put_links" "PlainNodes.put_links" Ip ["self","n","links"]->MI K cP "put_cells" "PlainNodes.put_cells" KU ["self","n","cells"]->MI K cP "begin_node" "PlainNodes.begin_node" JF ["self","n","kind"]->MI K cP "end_node" "PlainNodes.end_node" KQ ["self","n"]->DI K "free_nodes" OQ ["nodes"]->DI K "free_blocks" P7 ["nodes"]->DI K "node_named" Ql ["slots","name"]->DI K "slots_without" Pf ["slots","name"]->DI K "cells_of_slot" QT ["slot"]->DI K "slot_in" RB ["cells"]->DI K "put_slots" OU ["nodes","n","slots"]->DI K "slots_of" Lg ["nodes","n"]->DI K "lengthened" Rc ["cells","size"]->DI K "is_name" Q8 ["text"]->DI K "names_of" PM ["path"]->DI K "names_in" JM ["slots"]->DI K "refuse_full" QK ["slots"]->DI K "slots_with" K8 ["slots","name","node"]->DI K "refuse_no_dir" Rv ["nodes","n"]->DI K "way_along" Q3 ["nodes","names"]->DI K "way_to_new" Pq ["nodes","names"]->DI K "refuse_no_place" RV ["at"]->DI K "steps_within" Jx ["nodes","step"]->DI K "walk" Ry ["nodes"]->DI K "tree_row" Rh ["files","path","node"]->DI K "tree" OV ["files"]->BI K cB "Files" "Files.__init__" Pe ["self","nodes"]->MI K cN "__init__" "Nodes.__init__" RZ ["self","disk"]->MI K cP "__init__" "PlainNodes.__init__" Lb ["self","total"]->MI K c1 "__init__" "DiskFiles.__init__" Qw ["self","disk"]->MI K c2 "__init__" "PlainFiles.__init__" Ra ["self","blocks"]->DI K "format_disk" Rr ["disk"]->DI K "end_nameless" Pj ["nodes"]->DI K "mount" Po ["disk"]->DI K "_law_done" Pk ["_law_files","_law_deed_here"]->DI K "_law_kind" QF ["_law_error"]->DI K "_law_told" Pn ["_law_files","_law_deed_here"]->DI K "_law_alike" OH ["_law_found","_law_due"]->DI K "_law_mixed" Pa ["_law_cell","_law_k"]->DI K "_law_digit" RH ["_law_left_here","_law_many_here"]->DI K "_law_left" OG ["_law_script","_law_k"]->DI K "_law_path" RS ["_law_left_here"]->DI K "_law_node" RY ["_law_left_here"]->DI K "_law_letters" Q5 ["_law_k"]->DI K "_law_place" O8 ["_law_left_here"]->DI K "_law_deed" Rx ["_law_left_here"]->DI K "_law_many" Pw ["_law_left_here"]->DI K "_law_same" QH ["_law_one","_law_other","_law_deed_here"]->MI K cD "__init__" "Disk.__init__" DK ["self","many"]->DI K "law" OT ["_law_script"]->FM K c1->FM K c2->QI K [("BLOCK_NUMBERS",16),("FIRST_LIST",2),("NODES",24),("FIRST_ROWS",28),("FIRST_CONTENTS",48),("ROW_NUMBERS",8),("ROW_BLOCKS",5),("NEAR_BLOCKS",4),("SLOT_CELLS",8),("NAME_LETTERS",6),("DIR_SLOTS",40),("NODE_CELLS",320),("ROOT",0)]->nsIn K To "LETTERS" = some (some (.str sA nh))->NI K ["len","list","range","sorted","enumerate","all","isinstance","ValueError","tuple","int","str","bool","zip","abs","min","sum"]->nsIn K To "NoBlock" = some (some (.ref b1))->nsIn K To "Fallen" = some (some (.ref bW))->nsIn K To "KernelError" = some (some (.ref dA))->YI K (yb++Au) [am,a3,bc,bd,a5,bb,ap,as,a6,a1,ad,a2,ar]->XL K dA [am,a3,bc,bd,a5,bb,ap,as,a6,a1,ad,a2,ar] [am,a3,bc,bd,a5,bb,ap,as,a6,a1,ad,a2,ar] 0->aas K b1 ou "ValueError.__new__" = true->aas K bW ou "ValueError.__new__" = true->nsIn K To "KINDS" = some (some (.ref aK))->K.lookup aK=some ⟨dN,d1,.seq bl nK,kS⟩->dN=.type "tuple" -> d1=none->Vals [V.a7,V.str "file",V.str "dir"] bl.toList->bl.size<=3 ->
  ∃fd:DD,(∀(s:dM) (v:Value),ZO s fd ⟨[v],[]⟩ [("_law_script",v)])/\∀base:Heap,K.In base->base.Ns To mg->aM l.prog w K mg base aY 16 fa fd ["_law_script"] (yq K):=by
 intro oJ eL o2 ku k7 e7 l8 nS hw kk im i6 mp fW g6 f9 eN kb lm hY nt ft f5 ka hm e5 fq hx hX kE n8 l4 oQ mo g5 n0 hA i2 h7 mr ib k0 n3 kv fx hR f7 hW ga hh j2 fh hB nr ol m0 op lA hT mK ng mS nq n7 hj hn g8 i1 hg ht hP g4 ma lc k8 f3 je mN hp h4 lw l7 oa et jr m8 gL iF ls gl gK li kN hH kt eT hS mc hQ en hN jt kF hd yX vX vB vF yK lK oK dK vK wK;obtain⟨f1,ov,jp,fc⟩:=oJ;obtain⟨fb,e1,nU,oT,_⟩:=eL;obtain⟨lv,gP,ho,nz⟩:=o2;obtain⟨gC,hk,_⟩:=ku;obtain⟨cv,n5,cc,cg⟩:=k7;obtain⟨hq,mu,_⟩:=e7;obtain⟨oe,oo,lq,iv⟩:=l8;obtain⟨l3,hb,_⟩:=nS;obtain⟨gs,gS,lp,hv⟩:=hw;obtain⟨hr,h5,lh,hO,_⟩:=kk;obtain⟨ji,oY,gb,l5⟩:=im;obtain⟨nB,o1,_⟩:=i6;obtain⟨ac,be,bx,eD,dz,ej,ih,kz,e2,it,hK,hl,nw,hL,io,o0,_⟩:=HW U L hN;obtain⟨ci,oD,fm,nN,mf,eS,eJ,ld,dV,ey,g9,ob,mb,_⟩:=qi_mg U L hQ;obtain⟨fB,dB,FB,bB,aB,iB⟩:=ma;obtain⟨qb,o5,mH,ii,d3⟩:=id kt;obtain⟨p5,p1,fv,gm,ef⟩:=id nt;obtain⟨qm,pn,oB,c4,a0⟩:=id lc;obtain⟨pu,pi,ik,nL,dr⟩:=id f3;obtain⟨o9,pV,go,mW,eb⟩:=id k8;obtain⟨o8,pa,g0,hD,dT⟩:=id je;obtain⟨pg,p4,ha,cx,ce⟩:=id g6;obtain⟨pw,qj,n1,bY,bN⟩:=id f9;obtain⟨py,po,fu,d5,dW⟩:=id mp;obtain⟨pD,pl,ms,dO,eo⟩:=id fW;obtain⟨p0,qi,bR,d2,dp⟩:=id kb;obtain⟨pp,ql,b0,ed,ei⟩:=id lm;obtain⟨pr,qa,el,ij,e6⟩:=id hY;obtain⟨p3,ml,ee,pk,kw⟩:=id eT;have e:=hf.symm.trans (VF U L kw);cases e;refine⟨ml,λs v=>?_,λbase _ _=>?_⟩
 .obtain⟨oc,od,kV,qc,pm,an,qn,ct,o6,rfl,lk,pT⟩:=ee.ex;exact .of_eq rfl
 have TC:Dk.Txt K mg cD:=⟨ov,fb,e1,nU,oT,ac,be,bx,ci⟩;have JT:Dk.G1 mg:=⟨ci,oD,eD,dz,ac,bx⟩;have TD:Bt K mg ⟨cD,cR⟩:=⟨gP,gC,hk,be,ac⟩;have KT:∀a,(∃u,mg "KINDS" = some u/\RelV (.ref a) u)->∃o,K.lookup a=some o/\o.cls=.type "tuple" /\ o.dict=none:=λa ⟨u,hu,r⟩=>by
  have e:=hu.symm.trans (VF U L yK);cases e;cases r;exact⟨_,lK,oK,dK⟩
 have I:kH K mg cN:=⟨n5,hq,mu,ci,fm,nN,mf,eS,eJ,ld,⟨aK,⟨_,VF U L yK,rfl⟩,.inr ⟨_,bl,nK,lK,oK,rfl,Td wK az,vK⟩⟩,KT,ac,bx,dz⟩;have TP:Az K mg cP:=⟨gS,hr,h5,lh,hO,ac,be⟩;have TL:OE K mg:=⟨⟨_,VF U L en,⟨_,rfl⟩⟩,dV,ey⟩;obtain⟨x1,x2,x3,x4,x5,x6⟩:=MX U L yX vX rfl;have Y:jO K mg (Am [am,a3,bc,bd,a5,bb,ap,as,a6,a1,ad,a2,ar]):=⟨x1,x2,⟨_,VF U L en,⟨_,rfl⟩⟩,ey,dV,g9,ob,mb,ac,ej,be,eD⟩;have LW:rL K mg (Am [am,a3,bc,bd,a5,bb,ap,as,a6,a1,ad,a2,ar]):=⟨ih,kz,be,e2,it,hK,hl,ac,ej,nw,hL,io,bx,x3,x5,x6⟩;have b3:d7 K c1:=⟨oo,l3,hb⟩;have cr:d7 K c2:=⟨oY,nB,o1⟩;have XT:Dk.Ez K mg "NoBlock" b1:=⟨VF U L jt,vB⟩;have XF:Dk.Ez K mg "Fallen" bW:=⟨VF U L kF,vF⟩;have dD:∀{CX:nJ}{n:Nat}{x:Str}{st:Tg}{ps:List Str}{sp:Sp},DI K x st ps->(∀{f fd},bM K x x st f fd->aM l.prog w K mg base CX n f fd ps sp)->Df l.prog w K mg base CX n x sp:=λh k=>h.df U L k;have G:∀{CX:nJ}{n:Nat}{C:Addr}{m q:Str}{st:Tg}{ps:List Str}{sp:Sp},MI K C m q st ps->(∀{f fd},bM K m q st f fd->aM l.prog w K mg base CX n f fd ps sp)->Md l.prog w K mg base CX n C m sp:=λh k=>h.md k;have gN:=Dk.xj (P:=l.prog) (w:=w) (base:=base) fu TC XT;have gF:=Dk.zc (P:=l.prog) (w:=w) (base:=base) ms TC XF;have gR:=Dk.Gd ha TC gN d5 dW gF dO eo;have gW:=Dk.Cp n1 TC gN d5 dW gF dO eo;have dy:=Dk.Ar bR JT TC gW bY bN;have gV:=Dk.wZ b0 JT TC gR cx ce gW bY bN dy ⟨VF U L dp,bR.kp,d2⟩;have hy:=Dk.zZ el JT TC gR cx ce gW bY bN gV ⟨VF U L ei,b0.kp,ed⟩;have fJ:=Df.mk _ _ _ dy d2 (VF U L dp) bR.kp;have fV:=Df.mk _ _ _ gV ed (VF U L ei) b0.kp;have eH:=Df.mk _ _ _ hy ij (VF U L e6) el.kp;have eu:=Md.mk _ _ _ gR cx ce;have gd:=G eN λF=>Dk.Ea F TC;have hz:=Cm (P:=l.prog) (w:=w) (base:=base) fv TD;have bC:=G ft λF=>Bi F TD TC eu;have ez:=G f5 λF=>zJ F TD;have hC:=G ka λF=>xh F TD TC eu eH;have dR:=G hm λF=>Gx F I;have em:=dD e5 λF=>FY F I;have ba:=G fq λF=>DE F I TD dR bC;have bm:=G hx λF=>Ai F I TD dR bC ez em;have l0:=G hX λF=>zN F I ba;have ev:=G kE λF=>wF F I ba;have ek:=G n8 λF=>zg F I ba;have c0:=G l4 λF=>xb F I bm;have oR:=G oQ λF=>tO F I ba bm;have bi:=dD mo λF=>tD F I;have dv:=G g5 λF=>qd F I;have c3:=G n0 λF=>tX F I TD ba bi bC;have e8:=G hA λF=>vU F I TD c3 dv bC ek;have b2:=G i2 λF=>wc F I TD hC;have iN:=G h7 λF=>zy F I c3;have g1:=G mr λF=>uO F I TD c3 iN bi dv ez em ba bm;have dF:=G ib λF=>sY F I bm;have O1:=JN I l0 ev ek e8 dF c0 oR g1 b2;have hM:=G k0 λF=>Bb F TP;have mF:=G n3 λF=>zK F TP;have f0:=G kv λF=>Dw F TP;have i0:=G fx λF=>An F TP;have ll:=G hR λF=>Fc F TP;have oM:=G f7 λF=>Cq F TP;have mt:=G hW λF=>Cy F TP;have lu:=G ga λF=>y9 F TP;have nl:=G hh λF=>GX F TP;have O2:=IK TP hM mF f0 i0 lu nl oM mt ll;have fy:=dD hB λF=>sh F;have ew:=dD nr λF=>mG F;have my:=dD ol λF=>pz F I TL;have hJ:=dD m0 λF=>zz F I TL;have eh:=dD hT λF=>p9 F I;have lf:=dD mK λF=>zw F Y;have ao:=dD ng λF=>xn F Y lf;have bF:=dD mS λF=>wt F Y;have c5:=dD nq λF=>pZ F Y bF;have h8:=dD n7 λF=>rV F Y;have co:=dD i1 λF=>kX F Y;have nH:=uT (P:=l.prog) (w:=w) (base:=base) (mg:=mg) FB b3;have ia:=uT (P:=l.prog) (w:=w) (base:=base) (mg:=mg) FB cr;have ca:=rE oB I TC ⟨ho,ef.at_,ef.fn,nz⟩ hz (VF U L lv) gm gd;have m3:=sX (P:=l.prog) (w:=w) (base:=base) go TP Y;have l6:=rM ik ⟨_,VF U L aB,rfl⟩ iB nH bB ⟨cc,a0.at_,a0.fn,cg⟩ ca (VF U L cv) c4;have hI:=p6 g0 ⟨_,VF U L aB,rfl⟩ iB ia bB ⟨lp,eb.at_,eb.fn,hv⟩ m3 (VF U L gs) mW;have no:=dD mN λF=>zX F I Y fJ ⟨cc,a0.at_,a0.fn,cg⟩ ca (VF U L cv) c4 c0 dF b2;have lz:=dD hp λF=>oV F I ev c0 b2;have i4:=dD h4 λF=>BL F fV lz ⟨cc,a0.at_,a0.fn,cg⟩ ca (VF U L cv) c4 ⟨lq,dr.at_,dr.fn,iv⟩ l6 (VF U L oe) nL;have m6:=dD l7 λF=>ED F Y LW;have AF:∀{M:b6}{C:Addr},M.Ok l.prog w K mg base->d7 K C->FM K C->Df l.prog w K mg base aY 14 "_law_told" (Cu M C (Am [am,a3,bc,bd,a5,bb,ap,as,a6,a1,ad,a2,ar]))/\Md l.prog w K mg base aY 9 C "free" (zQ M C)/\Df l.prog w K mg base aY 12 "tree" (AU M C):=by
  intro M C O Z hF;obtain⟨hE,f4,m9,lr,kr,fR,e0,mm,f6,nD,mR,nf,kj,nF,ly,lB,oH,n4,lx,hc,e4,g7,g3,gB⟩:=hF;have d0:=dD j2 λF=>rH F I O;have ea:=dD fh λF=>qf F I (o0) O bi;have b4:=dD op λF=>vc F I O my;have ab:=dD lA λF=>wN F I TL O hJ;have bn:=dD hj λF=>pe F Y O;have a4:=dD hn λF=>vd F Y O bn fy ab;have da:=dD g8 λF=>uv F Y O a4 bn bF ab;have b5:=G hE λF=>mO F Y Z O;have cj:=G f4 λF=>rq F Y Z O;have bv:=G m9 λF=>mE F Y Z O b5 cj;have d6:=G lr λF=>lO F Y Z O bi ea;have c6:=G kr λF=>xu F Y Z O h8 d6 b4;have du:=G fR λF=>uQ F Z O ew ab b4;have eq:=G e0 λF=>tW F Y Z O d6;have er:=G mm λF=>wQ F Z O;have ep:=G f6 λF=>E2 F Z O ao a4;have ec:=G nD λF=>uh F Y Z O ao da ab c5 d0 c6;have on:=G mR λF=>Gp F Z ec;have n2:=G nf λF=>xw F Z ec;have o3:=G kj λF=>DN F Z O ep bn bF ab;have dw:=G nF λF=>Ex F Y Z O d0 ea;have d4:=G ly λF=>FV F Y Z O b5;have dL:=G lB λF=>Aq F Z O bv co;have nu:=G oH λF=>JR F Z O bv co eh eq;have he:=G n4 λF=>wW F Y Z O bv co eh eq;have k9:=G lx λF=>F9 F Z O bv;have e9:=G hc λF=>BG F Y Z O b5 er;have l2:=G e4 λF=>E7 F Z O ao a4 cj da ab c5 c6;have m4:=G g7 λF=>zF F Z O ao a4 cj du er;have mn:=G g3 λF=>sV F Y Z O ao a4 bn bF ab du;have jl:=G gB λF=>E5 F Y Z O ao a4 da ab ew c5 c6 b4;have ge:=dD hg λF=>pL F O ab;have lg:=dD ht λF=>EM F Y O ge;have oL:=dD hP λF=>vT F Z O d4 dL;have h6:=dD g4 λF=>Gq F Z O lg oL;have ns:=dD lw λF=>Gr F Y Z O ep on n2 m4 mn o3 d4 k9 e9 l2 jl nu dL he dw;exact⟨dD oa λF=>GJ F O (VF U L hd) x4 ns m6,dw,h6⟩
 obtain⟨kQ,kA,j3⟩:=AF O1 b3 hS;obtain⟨j1,o4,h3⟩:=AF O2 cr mc;have GA:∀n,Df l.prog w K mg base aY n "_law_alike" (wk n):=λn=>by
  induction n with
  |zero=>exact dD et λF=>Nu
  |succ n h=>exact dD et λF=>zW F LW n h
 have db:=dD jr λF=>DP F;have aT:=dD m8 λF=>Bj F;have f8:=dD gL λF=>G7 F LW db;have eg:=dD iF λF=>Fp F LW aT;have m7:=dD ls λF=>FZ F aT;have il:=dD gl λF=>vS F;have fg:=dD gK λF=>CZ F aT;have gt:=dD li λF=>He F aT eg m7 fg;have m5:=dD kN λF=>EV F LW aT eg il;have gE:=dD hH λF=>GK F LW O1 O2 b3 cr kQ j1 kA o4 (GA 2);have nT:=DU (P:=l.prog) (w:=w) (base:=base) mH TC;exact IS ee LW O1 O2 db f8 aT gt m5 gE (GA 4) no i4 j3 h3 ⟨jp,d3.at_,d3.fn,fc⟩ nT (VF U L f1) ii ⟨gb,dT.at_,dT.fn,l5⟩ hI (VF U L ji) hD
theorem walk{q:By}{loose:List Str}{XP:(Str->Option Value)->Heap->Prop}{I:R4->Heap->Prop}{d:DefRec}{K:Params->SU}(hn:l.most=some 63) (Y:d.params.defaults=[])
  (U:∀(w:R4) (h:Heap),I w h->(K w.params).In h)
  (F:∀(w:R4) (mg:Str->Option Value) (G:Addr) (h:Heap),(K w.params).In h->h.Ns To mg->mg d.name=some (.ref G) ->
   ∃fd:DD,(∀(s:dM) (u:Value),ZO s fd ⟨[u],[]⟩ [("_law_script",u)])/\∀base:Heap,(K w.params).In base->base.Ns To mg->aM l.prog w (K w.params) mg base aY 16 G fd ["_law_script"] (yq (K w.params))) :
  aaF q loose XP I l.row.toRowW d [] (λf vs=>aaL f vs):=
 L2.G3 (n:=63) (k:=16) (x := "_law_script") (CX:=λ_=>aY) (sp:=λw=>yq (K w.params)) hn az Y ⟨rfl,az,az⟩ U F (λ_ _ a ns L _ Z=>⟨a,ns,rfl,Z,L,λ_=>rfl⟩) λ_ _ _ _ _ z=>z
end Fs
open PySem PySem.W PyProof.Rows
theorem PySem.Challenge.cw_ownroom_k93_whole_plain_and_disk_holds : PySem.Challenge.rw_ownroom_k93_whole_plain_and_disk.Holds := by
 refine Hd.top2 ?_
 k_fill
 refine Fs.walk (l:=PySem.Challenge.rw_ownroom_k93_whole_plain_and_disk) rfl rfl (λw h Y=>PySem.W.kIn_of Y) ?F
 case F =>
  intro w mg fa h KX G hmg;apply Fs.all_mk KX G hmg
  all_goals try apply Fs.FM.mk
  all_goals first
   |(apply Fs.MI.of<;>first|k_is|(first|exact λ_ _ _ _ _ _ _=>rfl|exact λ_ _ _ _ _ _ _ _=>rfl|exact λ_ _ _ _ _ _ _ _ _=>rfl|exact λ_ _ _ _ _ _ _ _ _ _=>rfl|exact λ_ _ _ _ _ _ _ _ _ _ _=>rfl|exact λ_ _ _ _ _ _ _ _ _ _ _ _=>rfl))
   |(apply Fs.DI.of<;>first|k_is|(first|exact λ_ _ _ _ _ _ _=>rfl|exact λ_ _ _ _ _ _ _ _=>rfl|exact λ_ _ _ _ _ _ _ _ _=>rfl|exact λ_ _ _ _ _ _ _ _ _ _=>rfl|exact λ_ _ _ _ _ _ _ _ _ _ _=>rfl|exact λ_ _ _ _ _ _ _ _ _ _ _ _=>rfl))
   |(apply Fs.CI.mk;k_is;(constructor<;>k_is);k_is;k_is)
   |(unfold Fs.NI;repeat' first|apply And.intro|exact trivial|k_is|unfold Fs.NI)
   |(unfold Fs.AI;repeat' first|apply And.intro|exact trivial|k_is|unfold Fs.AI)
   |(apply Fs.BI.of<;>first|k_is|(first|exact λ_ _ _ _ _ _ _=>rfl|exact λ_ _ _ _ _ _ _ _=>rfl))
   |k_is|rfl|k_exc|exact .cons rfl (.cons ⟨_,rfl⟩ (.cons ⟨_,rfl⟩ .nil))|exact le_refl 3
   |(repeat' first|exact trivial|refine And.intro ?_ ?_|apply Fs.XI.mk|refine Exists.intro _ ?_|k_exc|kts_exm|kit_is|k_is|(constructor<;>k_is))
