import PyProof.Rows.All
import KE.KDictSum
import KE.KDictOf
import KE.LcSums
import KE.KItem
import KE.KEqDict
import KE.KFromBytes
import KE.KSortTup
import KE.RegKIsAll
import KE.RegKTryMore
import PySem.Challenge.RW_ownroom_k48_trees
set_option compiler.extract_closed false
inductive AO {α β:Type}(p:α->β->Prop):Prop
 |mk (x0:α) (x1:β) (_:p x0 x1):AO p
inductive OF {α β γ:Type}(p:α->β->γ->Prop):Prop
 |mk (x0:α) (x1:β) (x2:γ) (_:p x0 x1 x2):OF p
inductive T8 {α β γ δ:Type}(p:α->β->γ->δ->Prop):Prop
 |mk (x0:α) (x1:β) (x2:γ) (x3:δ) (_:p x0 x1 x2 x3):T8 p
inductive Vt {α β γ δ ε:Type}(p:α->β->γ->δ->ε->Prop):Prop
 |mk (x0:α) (x1:β) (x2:γ) (x3:δ) (x4:ε) (_:p x0 x1 x2 x3 x4):Vt p
inductive yd (A0 A1 A2:Prop):Prop
 |mk (_:A0) (_:A1) (_:A2):yd A0 A1 A2
inductive Hj (A0 A1 A2 A3:Prop):Prop
 |mk (_:A0) (_:A1) (_:A2) (_:A3):Hj A0 A1 A2 A3
inductive Qs (A0 A1 A2 A3 A4:Prop):Prop
 |mk (_:A0) (_:A1) (_:A2) (_:A3) (_:A4):Qs A0 A1 A2 A3 A4
inductive Rg (A0 A1 A2 A3 A4 A5:Prop):Prop
 |mk (_:A0) (_:A1) (_:A2) (_:A3) (_:A4) (_:A5):Rg A0 A1 A2 A3 A4 A5
local macro_rules|`(%[|1])=>`(by intro p hp; simp only [List.mem_cons,List.not_mem_nil,or_false] at hp; rcases hp with hp <;> subst hp <;> first | rfl | exact ⟨rfl,.inl rfl,.inl rfl⟩ | exact ⟨rfl,.inl rfl,.inr rfl⟩)
set_option hygiene false in
local macro_rules|`(%[|2])=>`(⟨rfl,aF,aF,rfl,by kernel_rfl,by nofun,by kernel_rfl,by nofun,aF⟩)
set_option hygiene false in
local macro_rules|`(%[|3])=>`(⟨rfl,aF,aF,rfl,by kernel_rfl,%[|1],by kernel_rfl,%[|1],aF⟩)
theorem bD {α β F:Sort _}{f:α->β->F}(a:α) (b:β):f a b=f a b:=rfl
theorem wQ:1<=PySem.sizeLine:=by(decide)
theorem Qe:2<=PySem.sizeLine:=by(decide)
theorem Ue:3<=PySem.sizeLine:=by(decide)
theorem TK:(0:Int)<2:=by(decide)
theorem Uu:(0:Int)<4:=by(decide)
set_option Elab.async false
set_option linter.all false
set_option genSizeOf false
set_option genInjectivity false
set_option tactic.hygienic false
set_option maxRecDepth 100000
open PySem.W (Frag)
set_option maxHeartbeats 0
local macro_rules | `(tactic| omega) => `(tactic| lia)
theorem aF {p:Prop}(h:p:=by decide +kernel):p:=h
theorem aE {p:Prop}(h:p:=by decide):p:=h
theorem av {p:Prop}(h:p:=by omega):p:=h
open PySem.W (instObj methodObj hideAll hideAll_get of_hideAll lookIn hasDictIn handedIn isFn plainOver takerIn makesIn emptyDict kitOne kitx_list kitx_dict callWith_K0 fnOf exmOne kat_cons kat_lt kdl_call nsIn)
open PyProof.Rows (iadd_int isub_int)
open List (of_mem_zip foldl filter_map map_id drop_drop sum_append any_map countP countP_map append_inj)
open Nat (le_refl le_of_ble_eq_true)
open Option (getD_none bind_some map_none none_or map_some some_or isNone)
open Array (toList)
open PySem
open _root_.List renaming length_map->dM,mem_singleton->sx,length_append->ti,getElem?_eq_some_iff->u4,map_append->yl,getElem?_eq_getElem->y0,mem_map->z4,mem_append_right->By,length_take->IF,getElem?_map->LW,mem_of_getElem?->L1,length_singleton->NC,replicate->TN,take_of_length_le->V6,size_toArray->V9,getElem?_append_right->Wb,mem_cons->We,mem_append->Wf,mem_append_left->Wg,getElem?_append_left->Wj,nodup_append->Wl,mem_cons_of_mem->Wm,mem_cons_self->Wn,nodup_cons->Wq,append_nil->Wt,range->Wu,dropLast_concat_getLast->Ww,map_cons->Wy,mem_filter->WA,length_drop->WC,take_add_one->WE,length_cons->WG,append_assoc->WI,length_filter_le->WL,length_replicate->WM,length_eq_zero_iff->WN,filter_cons_of_pos->WO,filter_cons_of_neg->WQ,map_map->WU,take_length->WV,not_mem_nil->WX,mem_of_mem_take->WY,pairwise_iff_getElem->W3,getElem?_set_ne->W5,mergeSort_perm->W7,pairwise_map->Xa,drop_of_length_le->Xb,take_append_drop->Xf,getElem?_set_self->Xh,nodup_nil->Xj,filter_append->Xk,countP_eq_length_filter->Xn,getElem_mem->Xo,all_eq_true->Xp,getElem?_take->Xq,map_congr_left->Xs,replicate_succ->Xz,take_append->XA,mem_of_mem_drop->XH,dropLast_concat->XI,getElem?_drop->XM,perm_append_comm->XQ,take_zero->XX,flatten_cons->XZ,map_singleton->X4,length_filterMap_le->X6,filter_sublist->Ya,eq_nil_of_length_eq_zero->Yc,mem_filterMap->Yd,getElem?_replicate->Yf,getElem?_of_mem->Yi,map_replicate->Yl,drop_zero->Ym,perm_middle->Yn,filterMap_cons->Yp,range_succ->Ys,flatten_append->Yt,perm_ext_iff_of_nodup->Yu,length_set->YF,filter_nil->YH,lookup->YL,mem_range->YO,range_succ_eq_map->YQ,length_range->YT,length_eq_countP_add_countP->YU,findIdx_le_length->YV,reverse_cons->YW,mem_iff_getElem?->YZ,find?_cons->Y5,count_cons->Y9,mem_flatten->Za,length->Zg,filter_cons->Zi,drop_append->Zl,getLast?_append->Zn,reverse_reverse->Zo,getElem_of_mem->Zs,findSome?_cons->Zu,nil_append->ZI,drop_eq_getElem_cons->ZR,getLastD_eq_getLast?->ZT,append_eq_append_iff->ZU,not_lt->ZZ,ext_getElem?->Z1,foldl_append->Z2,cons_ne_nil->Z3,pairwise_mergeSort->aag,length_eq_one_iff->aat,findIdx_eq_length->aaA,getElem?_eq_none->aaI,findSome?_append->aaJ,filterMap_append->aaK,getElem_inj->aaN,nodup_range->aaS,getElem_map->aaV,map->aaW,replicate_succ'->aaY,map_take->aa0,take_nil->aa1,mem_iff_getElem->aa4,count_singleton->abb,filter_eq_self->abj,replicate_zero->abk,length_reverse->abm,take_replicate->abn,drop_replicate->abo,length_nil->abE,count_pos_iff->abH,filterMap_map->abK,any_eq_false->abM,take_sublist->abR,any_cons->abT,all_map->abV,map_drop->ab0,sum_cons->ab2,findIdx_cons->ab4,count_append->ab5,countP_cons->ach,mem_flatMap->aci,map_nil->acz,all_cons->acD,drop_nil->acM,drop->acO
open _root_.PySem renaming Shared->sh,wpAny_bind->u5,Program->BY,sizeLine_eq->DD,FuncData->DO,World->Oi,wpAny_pure->Wi,Stmt->Wo,Expr->Ws,Around->Wv,Spec->Wx,mainGlobals->WB,lookup_relabel_local->WH,bootBuiltins->WT,wpAny_mono->W4,wpAny_passesOwn->W6,compareOp->W8,mem_of_lookup->Xu,attributeBase->Xx,wpAny_truthy_bool->XB,wpAny_Call_method0_late->XC,wpAny_execs_nil->XE,call_meets->XG,tupleKind_room_in1->XN,Pos->XU,foldedSetIterable->XY,call_meetsIn->X1,sysModules->X3,evalArgs_none->X5,wpAny_call_entry->X9,wpAny_field->Yb,wpAny_Call_Name_kw->Ye,Builtin->Yk,isinstance_tuple->Yv,wpAny_holding->Yw,binaryOp->Yx,cLine->Yy,wpAny_comprehension_free->Yz,call_isinstance->YE,wpAny_setField_rec->YJ,swapsWith->YK,sliceBounds->YM,strIterType->YN,wpAny_seqItems->YY,wpAny_execs_cons->Y1,typeIs_str->Y2,IsPair->Zb,behindInMarks->Zc,keywordEach->Zf,letOwnedTupleGo->Zp,Scope->Zr,tupleKind->Zz,Sem->ZC,assignEach->ZD,wpAny_FormattedValue_plain->ZJ,reprText->ZN,wpAny_newObj_type->ZW,wpAny_Call_method->ZX,wpAny_standAt->Z4,wpAny_callSpecial?_slot->aah,wpAny_pyNext_range_end->aaj,wpAny_pyIter_rangeiter->aak,codeAny->aal,codeAny_mono->aam,Keyword->aan,wpAny_noteFrame_againW->aau,valueAt->aav,wpAny_isTrue_Compare1->aaE,wpAny_formatField_str->aaH,IsRangeIter->aaP,backToKw->aaQ,subscripted->aaR,underTheClaimsCaller->aaX,wpAny_setField->aaZ,wpAny_updateSeq_pair->aa8,holding->abc,callerA->abe,codeAny_forLoop_any->abf,wpAny_Tuple_spliced->abg,Model->abp,wpAny_newList->abt,frameOf->abu,assign->aby,rawInt->abz,wpAny_pyIter_range->abA,wpAny_pyIter_tuple->abI,Within->abL,BindsTo->abP,bindArgs->abQ,getItem->abS,entryPlaceOf->abW,IsZip->ab6,PassesOwn->ab9,strValues->acf,seqIndex_of->acn,atKey->acq,standAt->acy,call->acF,compEnvC->acG
open _root_.Nat renaming le_refl->G0,le_of_ble_eq_true->Wz,le_trans->WK,lt_of_lt_of_le->WS,ne_of_lt->WZ,zero_le->Xr,sub_self->X2,lt_irrefl->X7,le_of_lt->Yo,min_eq_right->YS,eq_zero_of_not_pos->YX,add_le_add_right->Zj,min_eq_left->Zk,lt_succ_self->Zy,lt_succ_of_lt->ZV,le_add_right->aad,ne_of_gt->aaO,not_lt_zero->aaT,le_succ->abd,add_le_add_left->abh,lt_of_lt_of_eq->abF,add_comm->abU,lt_trans->abY,le_of_not_lt->aca,le_antisymm->acr
open _root_.Option renaming map_eq_some_iff->HC,isSome_iff_exists->Xy,isNone_iff_eq_none->XS,isSome_map->YG,bind_some->ZA,isSome_eq_false_iff->ZP,map_eq_none_iff->aax,map_some->acH,none->acS
open _root_.Option.some renaming inj->OR,injEq->Xi
open _root_.Bool renaming false_ne_true->V7,eq_false_iff->W0,and_eq_true->X8,eq_iff_iff->Zq,false_and->ZE,true_and->abv,false_eq_true->abD,or_eq_true->acx,and_false->acE,false_or->acK
open _root_.Sum renaming inl->V8,inr->Xw
open _root_.PySem.W renaming Frag->Wa,keepIn->Xc,mg_of->Yj,kia_one->Zd,methodCall_KW->Ze,OpenLaw->Zh,findIn->ZF,callWith_K->ZG,cellsFrom_some->aao,excIn->abX,specialIn->ab8,typeIn->acb,plainGet_of->acm,kas_item_eq->aco,WalkO->acA,plainGet->acB,codeIn->acC
open _root_.PySem.PassesOwn renaming never->WD
open _root_.Classical renaming byContradiction->WJ
open _root_.PySem.F renaming plainAttrs_list->WR,plainAttrs_str->Xd,slot_list_append->Xl,type_list_append->Xm,plainAttrs_dict->XW,slot_dict_get->YA,slot_dict_itemiterator_iter->YB,slot_list_index->YD,slot_str_split->YR,slot_dict_values->Y6,slot_list_extend->Y7,type_list_extend->Y8,slot_str_startswith->Zv,type_str_startswith->Zw,entry_dict_get->ZL,args_dict_values_1->ZM,entry_dict_values->ZQ,args_list_index_2->ZS,args_tuple_add_2->Z5,type_dict_values->Z6,slot_tuple_index->Z7,entry_list_index->Z9,entry_tuple_add->aaa,args_dict_get_2->aab,args_dict_get_3->aac,slot_dict_items->aae,args_str_split_2->aaf,slot_list_count->aai,slot_tuple_add->aap,slot_dict_keys->aaw,slot_str_index->aay,type_str_split->aaz,entry_str_split->aaC,type_list_index->aaD,slot_dict_pop->aaF,type_dict_get->aaG,slot_str_rfind->aa9,type_str_rfind->aba
open _root_.PyProof.Rows renaming callWith_type1->W9,IntsAre->Yg,size_push'->Y4,AllBare->Zx,envOfC->ZH,subscriptTail_builtinR->aaq,pairsOf->aas,SortKind->aaU,subscriptTail->abq,listUpdate_at->abr,Subscript_->abB,seqEpoch_at->acp
open _root_.Array renaming length_toList->Xe,getD_eq_getD_getElem?->XO,getElem?_toList->Yh,perm_iff_toList_perm->Yq,getElem?_eq_some_iff->ZK,toList_append->abl,getD->abC,toList_map->ace,toList_inj->acg
open _root_.List.Sublist renaming append->Xg,refl->Xt
open _root_.True renaming intro->Xv
open _root_.False renaming elim->XD
open _root_.Int renaming toNat_natCast->XJ,toNat_of_nonneg->Zt,emod_lt_of_pos->abJ,sub_zero->ab7,emod_nonneg->acw
open _root_.PySem.Sem renaming wp->Yr
open _root_.PySem.W.KasT renaming kasWp_bind->YC
open _root_.Or renaming inl->Y3,inr->acP
open _root_.PySem.Builtin.Str renaming occurrences->Zm
open _root_.List.Nodup renaming sublist->ZO
open _root_.List.Pairwise renaming map->ZY,filter->aa2
open _root_.PySem.StrLaws renaming partsFrom->Z0
open _root_.List.Perm renaming eq_of_pairwise->Z8,append_left->aaL,refl->aa5,cons->acI,swap->acJ
open _root_.PySem.SeqAt renaming EqAt->aar,list_indexAt->abG,in_listAt->acs
open _root_.PySem.SeqAt.EqAt renaming same->aaB,int_str->abw,str_int->abx
open _root_.PySem.Answers renaming of_false_none->aaM,of_false_int->aa6,of_false_str->aa7,of_true->acv
open _root_.Std.Legacy.Range renaming forIn_eq_forIn_range'->aa3,size->acQ
open _root_.PySem.Challenge renaming pw_ownroom_k48_trees->abi
open _root_.PySem.Around renaming under->abN
open _root_.PySem.Code renaming isFrame->abO
open _root_.PySem.SeqAt.RcNeAt renaming lists_lengths->abZ,lists->acL
open _root_.Decidable renaming not_not->ab1
open _root_.Nat.succ renaming inj->ab3
open _root_.PySem.IsL renaming update->acd
open _root_.Sum.inl renaming inj->acj
open _root_.Sum.inr renaming inj->ack
open _root_.ForInStep renaming yield->acu
open _root_.Int.ofNat renaming inj->acN
open _root_.PySem.IsRange renaming new->acR
open _root_.Prod renaming ext->acT
open _root_.PySem.Shared renaming heap->acU
theorem acV {c:Prop}{h:Decidable c}(n:¬c){α:Sort u}{t e:α}:ite c t e=e:=if_neg n
theorem acW {c:Prop}{h:Decidable c}(n:c){α:Sort u}{t e:α}:ite c t e=t:=if_pos n
abbrev qa0:=Addr->Prop
abbrev qa1:=List (Addr×Obj)
abbrev qa2:=Value->sh->Prop
abbrev qa3:=Str->Option Value
abbrev qa4:=Int->List Int
abbrev qa5:=Array Value
abbrev qa6:=List Value
abbrev qa7:=Option Value
abbrev qa8:=Option Addr
theorem qAi(n:Nat):(0:Int)<Int.ofNat (n+1):=Int.ofNat_lt.mpr (Nat.succ_pos n)
abbrev qAe:=List Ws
abbrev qAd:=Option Int
abbrev qAc:=List Addr
abbrev qAb:=List Str
abbrev qAa:=List Int
section
namespace Hd
open PySem PySem.W PyProof.Rows
def uK:List Obj->List Obj×List Obj
 | []=>([],[])
 | [a]=>([a],[])
 |a::b::r=>(a::(uK r).1,b::(uK r).2)
def build:Nat->List Obj->BT
 |0,_=>.nil
 |_+1,[]=>.nil
 |f+1,o::r=>.node o (build f (uK r).1) (build f (uK r).2)
def topT (tb:String->Option Builtin) (p:Program) (w:World) (m:Nat) (an:Option Value):Nat->SharedT->Thread->Option SharedT
 |0,_,_=>none
 |k+1,x,t=>match through t with
  |true=>some x
  |false=>match stepOk m an t with
   |false=>none
   |true=>match stepT (denote tb) p w x t with
    |some (y,u)=>topT tb p w m an k y u
    |none=>none
theorem topT_of {tb:String->Option Builtin}{p:Program}{w:World}{m:Nat}{an:Option Value}:∀{k:Nat}{x z:SharedT}{t:Thread},topT tb p w m an k x t=some z->topRun tb p w m an k x.abs t=some z.abs:=by
 intro k
 induction k with
 |zero=>intro x z t e;cases e
 |succ k F =>
  intro x z t e;unfold topT at e;unfold topRun;cases a:through t with
  |true=>rw[a]at e;cases e;rfl
  |false =>
   rw[a]at e;cases b:stepOk m an t with
   |false=>rw[b]at e;cases e
   |true =>
    rw[b]at e;cases c:stepT (denote tb) p w x t with
    |none=>rw[c]at e;cases e
    |some r =>
     obtain⟨y,u⟩:=r;rw[c]at e;rw[stepT_spec c];exact F e
def EV (p q:Program) (loose:List Str) (G:Shared->Bool) (F:Bool) (h:Heap) (s:Shared):=
 (staticsOk (importedModules p.main.body) h s.heap&&namesBound p s.heap&&gensDone s&&laidKept h s.heap,openSeen q loose (importedModules p.main.body) G F s)
theorem Jf {p q:Program}{loose:List Str}{G:Shared->Bool}{α:Type}{U:Shared->α}{L:World->α}{N M m:Nat}{I:Bool}{H:Params->Heap}{T:Params->BT}{life:Life}{gs:Array GenState}{d:Drawn}{k:Nat}{an:Option Value}
  (Y:∀w:World,(fencedOpening treeTable p w N).map (λs=>(s.heap,s.gens,s.drawn,s.toks))=some (H w.params,gs,d,k))
  (hT:∀P,absHeap (T P) m life=H P)
  (hS:∀w:World,((H w.params).isNs mainGlobals&&gs.size==0,(H w.params).objs.size,(H w.params).nsMap mainGlobals "__annotations__")=(true,m,an))
  (le:Nat.ble M N=true)
  (run:∀(w:World) (os:OsState),(topT treeTable p w m an M ⟨T w.params,m,life,gs,d,k,os⟩ (topStub p)).map (λs=>(EV p q loose G I (H w.params) s.abs,U s.abs))=some ((true,openGood q loose),L w)) :
  LeftO p q loose G U L N I:=by
 intro w;obtain⟨s,a,b⟩:=Option.map_eq_some_iff.mp (Y w);obtain⟨h,F,d',k',os⟩:=s;simp only[Prod.mk.injEq]at b;obtain⟨rfl,rfl,rfl,rfl⟩:=b;have z:=hS w;simp only[Prod.mk.injEq]at z;obtain⟨z1,z2,z3⟩:=z;obtain⟨x,c,e⟩:=Option.map_eq_some_iff.mp (run w os);have r:=topT_of c;have ab:(SharedT.mk (T w.params) m life F d' k' os).abs=⟨H w.params,F,d',k',os⟩:=by
  unfold SharedT.abs;rw[hT]
 rw[ab]at r;have r:=topRun_mono (N-M) _ _ _ _ r;rw[show M+(N-M)=N from Nat.add_sub_cancel' (le_of_ble_eq_true le)]at r;simp only[EV,Prod.mk.injEq]at e;obtain⟨⟨e1,Z⟩,e3⟩:=e;have t:topFrom treeTable p w N ⟨H w.params,F,d',k',os⟩=some x.abs:=by
  unfold topFrom;dsimp only;rw[z1,z2,z3,r];simp only[bind_some,e1]
 unfold openEnds;rw[a];simp only[bind_some,t,map_some,Z,e3]
theorem both {r:OpenRow}{q:Program}{loose:List Str}{d:DefRec}{F:List (Str×Expr)}{N:Nat}(H:Hook)
  (h1:defOf q r.name=some (d,F)) (h2:r.prog.theDef r.name=some (d.params,d.body,d.scope)) (I:kwWritten? d.params.kwonlyargs d.params.kw_defaults=some F) (U:(!r.writes||r.records.isEmpty)=true)
  (Y:r.wellSaid=true) (Z:(chainsOk q&&opensWell r.prog&&(frees r.toRowW&&r.within.isEmpty))=true) (G:r.prog.bare) (L:r.toRowW.promised)
  (h:LeftO r.prog q loose (λs=>xlAt q [] s&&recOk r.records s) H.obs H.val N/\WalkO q loose (XL q []) H.says r.toRowW d F λf vs=>PySem.call f vs):r.Holds :=
 holds_open h.1 H.of H.keeps (λs e=>xl_of s (Bool.and_eq_true_iff.mp e).1) XL.keeps h1 h2 I (λs e=>recFacts_of (Bool.and_eq_true_iff.mp e).2) U Y Z G L h.2
def Ja (s:SharedT) (a:Nat):Option Obj:=match Nat.blt a s.n with
 |true=>match s.tree.get a with
  |some o=>alive o
  |none=>alive default
 |false=>none
theorem Im (s:SharedT):s.abs.heap.get?=Ja s:=by
 funext a;unfold Ja;cases h:Nat.blt a s.n with
 |true =>
  have h:a<s.n:=le_of_ble_eq_true h;cases g:s.tree.get a with
  |some o=>exact abs_get h g
  |none =>
   show(absHeap s.tree s.n s.life).get? a=_;unfold Heap.get?;rw[absHeap_at,if_pos h,g];rfl
 |false=>exact abs_get_none λk=>by rw[show Nat.blt a s.n=true from Nat.ble_eq_true_of_le k]at h;cases h
noncomputable def KR (P:Params):BT:=build 12 (boot_heap P).objs.toList
open PySem.Challenge
def q:Program:=PySem.W.view pw_ownroom_k48_trees [115]
def loose:List Str:=(pw_ownroom_k48_trees.main.scope.names.map (·.1)).dropLast
theorem w1:namesResolve rw_ownroom_k48_trees.row.prog=true:=by kernel_rfl
theorem w2:(namesMeet rw_ownroom_k48_trees.row.prog rw_ownroom_k48_trees.row.prog.main.body λ_ n=>attrL n)=true:=by kernel_rfl
theorem w3:noRoadLSs { strict := !(importedModules rw_ownroom_k48_trees.row.prog.main.body).all cThrough.contains,foot:=none,bare:=(["vars","dir","locals"]:List Str).filter (readsOut rw_ownroom_k48_trees.row.prog rw_ownroom_k48_trees.row.prog.main.body) } rw_ownroom_k48_trees.row.prog.main.body=true:=by kernel_rfl
theorem w4:looksOpen rw_ownroom_k48_trees.row.prog=true:=by
 rw[looksOpen,w1,w2,w3];kernel_rfl
theorem ws:rw_ownroom_k48_trees.wellSaid=true:=by
 rw[OpenLaw.wellSaid,OpenRow.wellSaid,OpenRow.partSaid,w4];kernel_rfl
local macro_rules | `(tactic| o_law) => `(tactic| refine PySem.W.holds_law Hd.ws λ said=>?_)
local macro_rules | `(tactic| o_head $H) => `(tactic| refine Hd.both (q:=Hd.q) (loose:=Hd.loose) (N:=100000) $H (by rfl) (by rfl) (by rfl) (by rfl) (by assumption) aF ⟨rfl,rfl,rfl,rfl,rfl,aF⟩ ?$(Lean.mkIdent `hw):ident ?$(Lean.mkIdent `hc):ident)
open_top top for rw_ownroom_k48_trees
noncomputable def ru (p q:Program) (F:List Str) (G:_) (f:SharedT->List (Option Obj)) (w:World) (os:OsState):=(topT treeTable p w 11 (some (.ref 6)) 100000 ⟨KR w.params,11, {},Array.mk [],boot_drawn,boot_toks,os⟩ (topStub p)).map λs=>(EV p q F (λs=>xlAt q [] s&&recOk G s) true (boot_heap w.params) s.abs,f s)
noncomputable def Tg (p q:Program) (F:List Str) (G:_) (l:List Addr):=ru p q F G λs=>l.map (Ja s)
noncomputable def Rn (q:Program) (F:List Str) (K:Frag):=some ((true,openGood q F),K.map λp=>some p.2)
theorem Ek:Tg=Tg:=rfl
theorem FR:Rn=Rn:=rfl
name_quick hdL for Hd.Tg by Hd.Ek
name_quick hdR for Hd.Rn by Hd.FR
theorem run_ {p q:Program}{F:List Str}{G:_}{l:List Addr}{K:Frag}(w:World) (os:OsState) (h:PySem.W.Fast.hdL p q F G l w os=PySem.W.Fast.hdR q F K):ru p q F G (λs=>l.map s.abs.heap.get?) w os=Rn q F K:=by
 rw[show(λs:SharedT=>l.map s.abs.heap.get?)=λs=>l.map (Ja s)from funext λs=>by rw[Im]];exact(congrFun (congrFun (congrFun (congrFun (congrFun (congrFun (congrFun PySem.W.Fast.hdL_eq p) q) F) G) l) w) os).trans (h.trans (congrFun (congrFun (congrFun PySem.W.Fast.hdR_eq q) F) K).symm)
def top2:=λh=>Hd.top ⟨Jf (H:=boot_heap) (T:=KR) (life:={}) (m:=11) (M:=100000) (gs:=Array.mk []) (d:=boot_drawn) (k:=boot_toks) (an:=some (.ref 6)) (boot_open (by kernel_rfl) aE (λs=>by kernel_rfl)) (λP=>by kernel_rfl) (λw=>by kernel_rfl) aE (λw os=>run_ w os (by kernel_rfl)),h⟩
end Hd
open Lean in
def kQ9(s:String):Term:=
 let f k l:Syntax:=mkNode (`Lean.Parser.Term++k) l
 let m (l:List Term):=Syntax.mkApp l.head! l.tail!.toArray
 m ((s.splitOn " ").foldl (init:=([[]]:List (List Term))) fun|a::k,x=>let n:=(x.drop 1).toString;if x=="(" then []::a::k else if x==")" then match k with|b::k=>(b++[m a])::k|_=>k else (a++[⟨match x.front with|'?'=>f `syntheticHole ⟨[mkAtom "?",mkAtom "_"]⟩|'_'=>f `hole ⟨[mkAtom x]⟩|'.'=>f `dotIdent ⟨[mkAtom ".",mkIdent n.toName]⟩|'('=>f `paren ⟨[f `hygienicLParen ⟨[mkAtom x,mkNode `hygieneInfo ⟨[mkIdent .anonymous]⟩]⟩,Syntax.mkNumLit n,mkAtom ")"]⟩|_=>if x.isNat then Syntax.mkNumLit x else mkIdent x.toName⟩])::k|k,_=>k).head!
set_option hygiene false
open Lean in
local macro_rules|`(%[$xs,*|9])=>do
 let w (s:String):=(s.splitOn ";").map (·.splitOn " ")
 let C:=w "b k ej;e a 1;f i aX;g H bX;h a 2;j k ed;o x a;p bq b7;q a 0;r aw s;t i ed;u ek 0;x d 0;y a az;z cT c9;A el av;E az s;G ck 1;J d 1;M bq cZ;O i cI;Q O 2;V bI dH;Y a 3;ag ae cX;ah a 4;an b az;aq bV s;ay d u;aC C af;aE c8 cI;aF H gy;aG u 1;aH eo 0;aI a aw;aJ b4 bc;aL i dg;aO bq fJ;aQ bM D;aS cT bU;aU dE ep;aW cT eq;aY O 3;aZ rfl cd;a8 T eX T;a9 bq gg;ba d 2;bb f bZ;bf ae u c5;bg bq cw;bh aN c3;bk O 1;bs G E;bB H jg;bH cA af;bO d aw;bP c aa;bS d az;b1 H iG;b3 c ab;b5 L.E9 b8;b6 S fM;cc bq jP;cf B T.cC;cg bq jJ;ck b4 bt;co b iJ;ct H jh;cu b bV;cv c ac;cE az j9;cG B T.fz;cL B T.vG;cO T.len ds;cP u TD.cl;cQ B T.gJ;cR B T.pC;cS B T.gb;cU rfl rfl;cV Xl Xm;cX 0 dS;c3 ax V;c8 cT em;de T.sorted kR;dj c5 du;dm bf O.links;dE W en;dH ax 0"
 let T:=w "a ae _ af;c pc _ R aD _;d ae _ _;i ah _ _;k ai _;l aN aM ao T.len ds _;m aX hr;s aJ q0;v aZ bc _ _ bD;w br q1 _ _ _;B fZ _;C bG _;D bu _;F pB _ R _;H aH _ _ _ _;K eY q2 aw;P A _ _ _ _ _ _;S aN _ ao _ _ _;T F _;W bp _;X dC _;ae pm _ _ _ R aD _;ai hr.mono q3;al dS _;au dh _;av jo n N;ax aX R;aA dq _ _;aN aQ _ _ _ bD;aV T.xe _;aX bj _ _ aR;be eP WR _ _ _ _ _;bj gI _ _;bn gG _;bp fA _ _ _ _ rfl;bq aS _ _ _;br A _ _ _ _ _;bu bK az _;bw jV _ _;bz A _ _;bA gq rfl _;bC ig _ _;bE fS _;bG fO _ _ _ _;bI aQ _ _ az bD;bK iS _;bQ rZ _ _ _ R _;bU cM _ _ q4;bZ PW.pt _;b0 dU ao T.range _;b4 aZ _ _ aw bD;cb cf q5 ao T.list dt _;cd cA _;ce jO _ _ _;ch iw _;cj gh _ _ _;cl eP Xd _ _ _ _ _;cm jT _ _;cn rZ _ dA _ hr _;cs i9 _;cy iY _;cz jd _ _ _ ao _ _ cM aD _;cA bK aw _;cF i5 ao _ _;cH iK _ _ _;cI di n N _;cJ lO _;cK lU _;cN tN _;cT aG _ _;cW FL _ c5 O.fin R aD;cY qB _ _ set_list;c1 cf _ ao T.list dt _;c2 M q3;c9 bE _;db iy _ dq mR GR _ bR cM iZ _;dc iy _ dq mW GW _ bW cM iZ _;df pm _ _ _ _ _ _;dg eG WD rfl _ _ _;dh A _ _ _ _;di kO _ _ _;dk Y3 rfl;dl br oO _ _ bM;dn A _ _ _ _ _ _ _;dp aZ bc _ _ mI;dF mq _ _ _ _ _ _ _ _ _;dG yi hr.rR;dI FL _ dS _ R aD;dJ A _ _ _ _ _ _ _ _ _;dK br _ _ _ _;dL yY bc _ _ bD;dM mS _ _ p9;dN Z3 q0 q0;dO Wz rfl;dP cf oU ao T.int vD _;dQ oV rfl;dR rQ _;dT sZ _ _ _ _ _ _ _ _;dU tu _ _ _;dV tZ _ _ _ _ _ _ _ _ _;dW Ag _ _ _;dX Ao _;dY aZ _ _ _ _;dZ FL _ _ _ _ _;d0 vY _;d1 FG _;d2 wz _ _ _ _ _;d3 tH _;d4 Ew _;d5 Bp _ _ _ _ _ _;d6 rZ _ _ _ _ _;d7 uT _ _ _ _ _;d8 zQ _ _ _ _ _ _ _;d9 AD _;ea Bv _;eb AL _;ec bj _ _ _;ed aV _;ee eP _ _ _ _ _ _;ef pc _ _ _ _;eg pB _ _ _;eh G _;ei dU _ _ _;ej aI _;ek aW _ rfl;el bw _ _;em dZ _;en b6 rfl _ _ rfl rfl _;eo fI _ _ rfl;ep T.xm _;eq ya n N _"
 let a:=xs.getElems
 let hr:=a[1]!
 let nd:Term:=⟨mkIdent (a[0]!.raw.getId++`nd)⟩
 let W ← `([(by rfl),%[|2],#[1,1],(de (cl:=[]) (caps:=[])),%[|3],(by with_unfolding_all rfl),(show BR _ (lg K)from bt),(fQ (v:=.ty "str"))])
 let Q:List (String×Term):=("N",nd)::("R",hr)::("c6",hr)::("dD",nd)::("ao bJ bT b9 cp cq cC dC".splitOn " ").zip (W.raw[1].getSepArgs.toList.map TSyntax.mk)++("cM,.nil;c4,Z.cl;c5,O.cl;dq,TC.cl;ds,boot_len;du,O.kind;dw,.badName;dx,.taken;dy,.noNode;dz,G.cl;dA,TF.cl;dB,.notAllowed;dS,T.cl;q0,_;q1,bT;q2,cT;q3,aE;q4,bS;q5,cE".splitOn ";").map fun l=>let l:=l.splitOn ",";(l[0]!,kQ9 l[1]!)
 let mut p:=a[2:].toArray
 let mut k:Array Term:=Array.mk []
 for _ in [0:99999] do
  if p.isEmpty then break
  let x:=p.back!
  p:=p.pop
  let n:=x.raw.getId.toString false
  match C.find? (·.head! == n) with
  |some l=>p:=p++(l.tail!.map kQ9).toArray
  |_=>match T.find? (·.head! == n) with
   |some (_::f::ts)=>
    let mut v:Array Term:=Array.mk []
    for y in ts do
     if y=="_"||y=="n" then
      let z:=k.back!
      k:=k.pop
      v:=v.push (if y=="_"&&z.raw.isNatLit?.isSome then Syntax.mkApp (kQ9 "pv") (Array.mk [z]) else z)
     else v:=v.push ((Q.lookup y).getD (kQ9 y))
    k:=k.push (← match f with|"F"=>`(fun _ _ _ _=>$(v[0]!))|"G"=>`(fun _=>$(v[0]!))|"A"=>pure (Syntax.mkApp v[0]! v[1:].toArray)|"M"=>pure (Syntax.mkApp (mkIdent (hr.raw.getId++`mono)) v)|_=>pure (Syntax.mkApp (kQ9 f) v))
   |_=>k:=k.push ((Q.lookup n).getD x)
 return k.back!
set_option hygiene true
local macro_rules|`($x.$n:fieldIdx)=>match n.raw.isFieldIdx? with|some 9=>`($(x).length)|some 8=>`($(x).toArray)|some 7=>`($(x).toList)|some 6=>`($(x).symm)|some 5=>`($(x).toNat)|some 4=>`($(x).Nodup)|some 3=>`($(x).size)|some 10=>`($(x).isSome)|some 11=>`($(x).flatten)|some 12=>`($(x).natAbs)|_=>Lean.Macro.throwUnsupported
local macro_rules|`($x∣$y)=>`($x=some (.lst $y))
local macro_rules|`($x|||$y)=>`($x=some (.tup $y))
local macro_rules|`($x^^^$y)=>`($x=some (.dK $y))
theorem zA0{p:Prop}[Decidable p](h:decide p=true):p:=of_decide_eq_true h
theorem zA1{p:Prop}[Decidable p](h:p):decide p=true:=decide_eq_true h
theorem zA2{p:Prop}[Decidable p](h:¬p):decide p=false:=decide_eq_false h
theorem zA3{α:Sort _}{a b:α}(h:a≠b):b≠a:=Ne.symm h
open _root_.PySem.Heap renaming get?_push_of_some->zA4,get?_push_size->zA5,lt_size->zA6,get?_push_ne->zA7,size_update->zA8,size_push->zA9
open _root_.PySem renaming Addr->zB0
local macro_rules|`(tactic|show $t)=>`(tactic|refine $t)
open Lean in
local macro_rules|`(tactic|let $d:letDecl)=>`(tactic|have $d:letDecl)
local macro_rules|`(tactic|rwa $s:rwRuleSeq at $h:ident)=>`(tactic|(rw $s:rwRuleSeq at $h:ident;cases $h:ident))
local macro_rules|`(‹$t›)=>`(by simpa using $t)
local macro_rules|`(tactic|cases $h:ident : $t)=>`(tactic|by_cases $h:ident : $t)
local macro_rules|`($s⁻¹)=>`(Array.size (PySem.Heap.objs (PySem.Shared.heap $s)))
open Lean in
local macro_rules|`(tactic|intros $x*)=>`(tactic|intro $(mkIdent `pins):ident $(mkIdent `s):ident $(mkIdent `σ):ident $(mkIdent `H):ident $(x.map fun y=>⟨y⟩)*)
local macro_rules|`(tactic|intros)=>`(tactic|repeat intro)
open Lean in
local macro_rules|`(~~~$h $x*)=>`($(mkIdent `Inv) $(mkIdent `X) $(mkIdent `pins) $(mkIdent `σ) $h $x*)
open Lean in
local macro_rules|`(↑$f)=>`(wpAny (model $(mkIdent `X.prog) $(mkIdent `X.w)) $(mkIdent `X.A) $f)
open Lean in
local macro_rules|`(#v[$xs,*])=>do
 let y<-xs.getElems.mapM λ(x:Term)=>match x with|`(.$_:ident $_*)=>`(some $x)|_=>pure x
 `([$y,*])
open Lean in
local macro_rules|`(⇑$f)=>`($f $(mkIdent `P) $(mkIdent `w) $(mkIdent `K) $(mkIdent `mg) $(mkIdent `base) ($(mkIdent `cV) $(mkIdent `P) $(mkIdent `w)))
open Lean in
local macro_rules|`(↥$f)=>`($f $(mkIdent `P) $(mkIdent `w) $(mkIdent `K) $(mkIdent `mg) $(mkIdent `base) $(mkIdent `ba))
open Lean in
local macro_rules|`(tactic|exists $f,$o,$s,$e,$h)=>do
 let p (x:Term):MacroM (TSyntax `rcasesPat):=match x with|`($i:ident)=>`(rcasesPat|$i:ident)|_=>`(rcasesPat|_)
 let h:Ident:=⟨h.raw⟩
 `(tactic|(obtain ⟨$(←p s),$(←p e)⟩:=$(mkIdent `gv) (X:=$o) $f;generalize $(mkIdent `upd) _ _ $o=$h at *))
set_option hygiene false in open Lean in
local macro_rules|`(#[$xs,*])=>do
 let S:="_,rfl;rfl,rfl;_,_;rfl,?;rfl,_;?,?;_,0,rfl;0,z.a,CF,dy,_,.ref z.na,rfl;cF kf,z.na,dx,0,ho,hm _ aF;rfl,0,?;z.a,CF,dz,_,.ref z.na,rfl,hz;bJ aF aF,0;cF kf,0,z.na,m,aC,(0,N;m,aC,d,N;I.os,I.bare,I.base,I.loc,I.cell,I.free,I.i7,I.pin,I.bL,I.len;0,z.a,dy,0;k _ _ ( .inl rfl ) e;0,b.dr,c.CD,dx,_,.ref s'.dd,rfl;0,W.a,0;6,0,?;T.cl,T.nD;0,a,dx,0;0,(1,rfl;0,a,CN,dx,_,.ref b.dr,rfl;t1,t2,Calls.callWith_builtin rfl ( X5 ? );ok.mod,ok.kind,ok.glob,ok.blt,ok.above,ok.inj,ok.has,ok.LA;ok.frames,ok.Oq,ok.Q8,ok.bs,ok.GZ,ok.yw,ok.za,ok.l9,ok.Jp;Z.len _,Z.ok _;0,a,CP,dx;rfl,q _ ( I.bL.fresh ( G0 _ ) );gZ _ _ _ _ aF aF aF aF;m,W,N,S;a9.of ag;21,ho,11,a,b,s',aC,n,r,rfl;z,m,aC,(0,N,h;0,z.na,13,n;(0,(0;zA5 _ rfl;a9.of e3;iter,ifs,(0;0,p,C,dx,_,0;t,_,(0;20,cF kn,b.dr;I.cl,I.nN;(24,rfl,aE,aE,?;0,bU ?;0,bA ?;rfl,ho,T.cl;0,z.a,CF,Z,_,.ref z.na,rfl;.bh,false;L.cl,L.nN;rfl,ag;S ( lst v ),rfl;z.na,m8,aC,2,lst v;0,0,W,S,cells N,bs,w,lst u,k,b,rfl;?,rfl;a9.of G;By _ ( sx.mpr rfl );0,4,0,rfl;no _ aF aF;nd,rfl;G.cl,G.nN;0,t,_,(1,.int n,1,cX.of h1,89;.inl h.wd,rfl,94;T.cl,T.nB,qi _ _ _ _;l,0,.inl ( a9.of hl );1,cX.of G,84,9;D.p.nL,hb,D.p.v Y.at_,Y.pc;h _ _ ( I.tok _ ) ?;0,l,rfl;0,b.dr,c.CD,dx,_,.ref b.p;28,_,.ref m.kd,47,T.nK,Fn;28,_,.ref m.ls;.inl ( a9.of G );12,S,l1,ns,rfl;.bl _,H,I;a,b,s',aC;a,b,s,aC,n;lst v,rfl;cF kf,z.na;0,p,rfl,hp;_,e,rfl;0,n,rfl,I,0".splitOn ";"
 let C ← `([⟨0,t,_,(1),.str p,1,cX.of G,aL (j:=1) rfl⟩,
⟨aL (j:=0) rfl⟩,
⟨H,I.tok _,#[0],q⟩,
⟨λe I=>kE e I,λN' S' hk H' m' L st=>kQ _ _ hk H' m' _ L (ik.of st)⟩,
⟨by rw[dM];omega⟩,
⟨_, -1,.int (lst v),1⟩,
⟨aL (j:=1) rfl⟩,
⟨(by change 1<=sizeLine;omega)⟩,
⟨by rw[show(0:Int)+(i:Int)=(i:Int)by omega];rfl⟩,
⟨6,.inl #[aE,aE]⟩,
⟨by change 1<=sizeLine;omega⟩,
⟨by kernel_rfl⟩,
⟨.ref s⁻¹,_⟩,
⟨λ_ _ e _=>e⟩,
⟨λv q=>by cases(show Data.fields _=Data.cell v from q)⟩,
⟨15,U,bJ aF aF,83,z,m,aC,N,S,[],p,rfl⟩,
⟨G.laid (t':=F.toks) (λb u e=>zA4 _ e) (G0 _) ?_,rfl⟩,
⟨by change 2<=sizeLine;omega⟩,
⟨kd,(1),[]⟩,
⟨by change 1<1000;decide,?_⟩,
⟨λn=>?_⟩,
⟨dd,cs,bs,[]⟩,
⟨0,6,by rw[HP];omega⟩,
⟨b1,λx hx=>(b2 x hx).len⟩,
⟨o.ok,o.k,λ_ _ h=>h⟩,
⟨λi H=>H a=some (.frz o (.dK kvs))/\kvs.9<=i⟩,
⟨rfl,λi v h=>by cases h⟩,
⟨1,cX.of G,aL (j:=2) rfl⟩,
⟨λi H=>H a=some (.frz o (.dK kvs))/\i<kvs.9⟩,
⟨rfl,I.turned (t':=s.toks) eb f0 f1 f3 Z f5⟩,
⟨λa h=>.inl h⟩,
⟨λ_ _ h=>(by cases h)⟩,
⟨22,l1,_, -1,.str (b3 ns),1⟩,
⟨λh=>absurd h aE⟩,
⟨λv hv H3 q3 s3 f3 e3=>?_⟩,
⟨by rw[dM];rfl⟩,
⟨F _ σ H (G0 _) p,G0 _⟩,
⟨by rw[dM,dM,IF];omega⟩,
⟨(2),rfl,q3,_, -2,.int (cO v),1⟩,
⟨0,_,.inr (b9 (bs++[w])),.int k⟩,
⟨by rw[Wj av];show e⟩,
⟨by change 3<=sizeLine;omega⟩,
⟨by change 4<=sizeLine;omega⟩,
⟨6,by rw[len_app,HP];omega⟩,
⟨λx H' y=>?_⟩,
⟨(λ_ z=>nomatch z)⟩,
⟨by rw[dM,WM];omega⟩,
⟨λz=>?_⟩,
⟨by with_unfolding_all rfl⟩,
⟨λb o e n Z L=>?_⟩,
⟨λ_ _ e=>e⟩,
⟨λ_ h=>by cases h⟩,
⟨[.ref a],[]⟩])
 let mut r:Array Term:=Array.mk []
 let mut p:=xs.getElems.toList
 for _ in [0:9999] do
  match p with
  |[]=>break
  |x::q=>
   p:=q
   match x.raw.isNatLit? with
   |some k=>p:=(match S[k]? with|some s=>(s.splitOn ",").map kQ9|_=>C.raw[1].getSepArgs[k-83]![1].getSepArgs.toList.map TSyntax.mk)++q
   |_=>r:=r.push x
 `(⟨$r,*⟩)
open Lean in
local macro_rules|`(tactic|let $p:term:=$e)=>do
 let rec go (n:Nat)(t:Syntax):MacroM (TSyntax `rcasesPat):=do
  match n with
  |0=>Macro.throwUnsupported
  |n+1=>match t with
   |`($i:ident)=>`(rcasesPat|$i:ident)
   |`(_)=>`(rcasesPat|_)
   |`(#[$xs,*])=>do `(rcasesPat|⟨$(←xs.getElems.mapM fun x=>do `(Parser.Tactic.rcasesPatLo|$(←go n x):rcasesPat)),*⟩)
   |_=>Macro.throwUnsupported
 match p with
 |`(#[$_,*])=>do `(tactic|obtain $(←go 99 p):rcasesPat := $e)
 |_=>Macro.throwUnsupported
namespace L2
open PySem PySem.Spec PyProof.Rows
abbrev Key:=Sum Int Str
noncomputable def qU:Key->Value->Bool
 |.inl k,v=>Value.isInt k v
 |.inr x,v=>Value.isStrOf x v
noncomputable def Sq(w:Oi):Key->Int
 |.inl k=>hashInt k
 |.inr x=>hashStr w x
theorem cW:∀{k:Key}{v:Value},qU k v=true->(∃i t,k=V8 i/\v=Value.int i t)\/(∃x t,k=Xw x/\v=Value.str x t)
 |.inl i,v,h=>by
  let#[t,e]:=Value.isInt_shape (k:=i) (v:=v) h;show .inl #[i,t,rfl,e]
 |.inr x,v,h=>by
  let#[t,e]:=Value.isStrOf_shape (x:=x) (v:=v) h;show .inr #[x,t,rfl,e]
def Cf(i:Int)(t:Tok):qU (.inl i) (.int i t)=true:=by simp[qU,Value.isInt]
def BV(x:Str)(t:Tok):qU (.inr x) (.str x t)=true:=by simp[qU,Value.isStrOf]
theorem L6(a b:Int):decide ((V8 a:Key)=V8 b)=(a==b):=by
 cases e:a=b
 .subst e;simp
 .let h:¬ (V8 a:Key)=V8 b:=λq=>e (acj q);rw[zA2 h];show(beq_eq_false_iff_ne.mpr e).6
theorem Mr(a b:Str):decide ((Xw a:Key)=Xw b)=decide (a=b):=by
 cases e:a=b
 .subst e;simp
 .let h:¬ (Xw a:Key)=Xw b:=λq=>e (ack q);rw[zA2 h,zA2 e]
def La(a:Int)(b:Str):decide ((V8 a:Key)=Xw b)=false:=zA2 (λq=>nomatch q)
def Lj(a:Str)(b:Int):decide ((Xw a:Key)=V8 b)=false:=zA2 (λq=>nomatch q)
noncomputable def bO(prog:BY)(w:Oi):PySem.KeyKind prog w Key where
 is:=qU
 hash:=Sq w
 inj:=λv a b U I=>by
  rcases cW U with⟨i,t,rfl,rfl⟩|⟨x,t,rfl,rfl⟩
  .rcases cW I with⟨j,u,rfl,e⟩|⟨y,u,rfl,e⟩
   .injection e with F _;rw[F]
   .show nomatch e
  .rcases cW I with⟨j,u,rfl,e⟩|⟨y,u,rfl,e⟩
   .show nomatch e
   .injection e with F _;rw[F]
 byValue:=λk v h=>by
  rcases cW h with⟨i,t,rfl,rfl⟩|⟨x,t,rfl,rfl⟩<;>rfl
 pyHash:=λG h=>by
  rcases cW G with⟨i,t,rfl,rfl⟩|⟨x,t,rfl,rfl⟩
  .show wpAny_pyHash_int h
  .show wpAny_pyHash_str h
 eqBool:=λL G h=>by
  rcases cW L with⟨i,t,rfl,rfl⟩|⟨x,t,rfl,rfl⟩
  .rcases cW G with⟨j,u,rfl,rfl⟩|⟨y,u,rfl,rfl⟩
   .rw[L6]at h;show wpAny_eqBool_int h
   .rw[La]at h;show abw i t y u _ _ _ _ h
  .rcases cW G with⟨j,u,rfl,rfl⟩|⟨y,u,rfl,rfl⟩
   .rw[Lj]at h;show abx x t j u _ _ _ _ h
   .rw[Mr]at h;show wpAny_eqBool_str h
 «strs» := λk x t v h=>by
  rcases cW h with⟨i,u,rfl,e⟩|⟨y,u,rfl,e⟩
  .show nomatch e
  .injection e with F _;subst F;cases v<;>rfl
def xf(prog:BY)(w:Oi)(i:Int)(t:Tok):(bO prog w).is (.inl i) (.int i t)=true:=Cf i t
def wq(prog:BY)(w:Oi)(x:Str)(t:Tok):(bO prog w).is (.inr x) (.str x t)=true:=BV x t
set_option genInjectivity true in
inductive V where
 |bh|bl (b:Bool)|int (i:Int)|str (x:Str)|byt (b:Array UInt8)|flt (b:UInt64)|ref (a:zB0)|ty (n:String)
 deriving DecidableEq
abbrev qAg:=List (Key×V)
abbrev qAf:=List V
def RelV:V->Value->Prop
 |.bh,u=>u=Value.none
 |.bl b,u=>u=Value.bool b
 |.int i,u=>∃t,u=Value.int i t
 |.str x,u=>∃t,u=Value.str x t
 |.byt b,u=>∃t,u=Value.bytes b t
 |.flt b,u=>∃t,u=Value.float b t
 |.ref a,u=>u=Value.ref a
 |.ty n,u=>u=Value.type n
abbrev Vals:List V->List Value->Prop:=Paired RelV
variable{xs:qAf}{us:qa6}
theorem Vals.length(r:Vals xs us):xs.9=us.9:=Paired.length r
theorem Vals.get:∀{xs:qAf}{us:qa6}{i:Nat}{x:V},Vals xs us->xs[i]?=some x->∃u,us[i]?=some u/\RelV x u
 |_,_,_,_,.nil,e=>by simp at e
 |_,_,0,_,.cons r _,e=>by simp at e;subst e;show#[0,r]
 |_,_,i+1,x,.cons _ t,e=>by
  let#[u,h1,h2]:=Vals.get (i:=i) (x:=x) t ‹e›;show#[u,by simpa using h1,h2]
theorem Vals.set{x:V}{u:Value}(r:RelV x u):∀{xs:qAf}{us:qa6}(i:Nat),Vals xs us->Vals (xs.set i x) (us.set i u)
 |_,_,_,.nil=>.nil
 |_,_,0,.cons _ t=>.cons r t
 |_,_,i+1,.cons q t=>.cons q (Vals.set r i t)
theorem Vals.append:∀{xs ys:qAf}{us ws:qa6},Vals xs us->Vals ys ws->Vals (xs++ys) (us++ws)
 |_,_,_,_,.nil,s=>s
 |_,_,_,_,.cons r t,s=>.cons r (Vals.append t s)
theorem Vals.take:∀{xs:qAf}{us:qa6}(n:Nat),Vals xs us->Vals (xs.take n) (us.take n)
 |_,_,0,_=>.nil
 |_,_,_+1,.nil=>.nil
 |_,_,n+1,.cons r t=>.cons r (Vals.take n t)
theorem Vals.drop:∀{xs:qAf}{us:qa6}(n:Nat),Vals xs us->Vals (xs.drop n) (us.drop n)
 |_,_,0,r=>r
 |_,_,_+1,.nil=>.nil
 |_,_,n+1,.cons _ t=>Vals.drop n t
def jK:Option V->Option Value->Prop
 |some v,some u=>RelV v u
 |none,none=>True
 |_,_=>False
def KV{κ:Type}:List (κ×V)->List (κ×Value)->Prop:=Paired λ(p:κ×V)(q:κ×Value)=>p.1=q.1/\RelV p.2 q.2
noncomputable def kV:Key->V
 |.inl i=>.int i
 |.inr x=>.str x
set_option genInjectivity true in
inductive HO where
  |lst(xs:qAf)
  |tup(xs:qAf)
  |dK(kvs:qAg)|dT (kvs:List (List Key×V))
  |set(S:Int->Bool)(n:Nat)
  |ins(C dx:zB0)(fs:List (Str×V))
  |own(x:zB0)
  |xd(fs:List (Str×V))
  |met(f x:zB0)
  |qk(lo hi:Int)
  |frz(o:Obj)(u:HO)
  |tbl(ps:qa5)
  |ext(φ:Heap->Prop)
abbrev Hp:=zB0->Option HO
noncomputable def upd(H:Hp)(a:zB0)(o:HO):Hp:=λb=>if b=a then some o else H b
variable{H:Hp}{a:zB0}{o:HO}
def ag:upd H a o a=some o:=by unfold upd;rw[acW rfl]
variable{b:zB0}
def ay(h:b≠a):upd H a o b=H b:=by unfold upd;rw[acV h]
variable{u:HO}
def sU(h:H a=some o)(h':H b=some u)(d:o≠u):a≠b:=by
 intro e;subst e;rw[h]at h';show d (OR h')
def bb(h:H a=some o)(h':H b=none):a≠b:=by
 intro e;subst e;rwa[h]at h'
section
variable(P:BY)(w:Oi)
def cp(H:Hp)(h:Heap)(a:zB0):HO->Prop
 |.lst xs=>xs.9<=sizeLine/\∃(its:qa6)(n:Nat),Vals xs its/\h.get? a=some { cls:=.type "list",data:=.seq its.8 n }
 |.tup xs=>xs.9<=sizeLine/\∃its:List Value,Vals xs its/\IsTup h a its.8
 |.dK kvs=>kvs.9<=sizeLine/\(a==X3)=false/\∃vs,KV kvs vs/\h.DictOf (bO P w) a vs
 |.dT kvs=>kvs.9<=sizeLine/\(a==X3)=false/\∃xs:List (List Key×zB0×Value),
   Paired (λ(p:List Key×V)(q:List Key×zB0×Value)=>p.1=q.1/\H q.2.1|||(p.1.map kV)/\RelV p.2 q.2.2) kvs xs /\
   ∃o es ep,h.get? a=some o/\o.ExactDict/\o.data=.dict es ep/\es.7=xs.map (entryOfKey (Zz (bO P w)))/\(xs.map (·.1)).4
 |.set S n=>h.SetOf (intKind P w) a S n
 |.ins C dx fs=>H dx=some (.own a)/\fs.9<=1000/\dx≠a/\h.get? a=some (instObj C dx) /\
   ∃mA,h.Ns1 dx mA/\(∀f,jK (fs.lookup f) (mA f))/\abL mA (fs.map (·.1))
 |.own _=>∃o,h.get? a=some o
 |.xd fs=>∃mA,h.Ns1 a mA/\∀f,jK (fs.lookup f) (mA f)
 |.qk lo hi=>∃t u v,h.get? a=some { cls:=.type "range",data:=.fields ([.int lo t,.int hi u,.int 1 v].8) }
 |.frz o u=>h.get? a=some o/\cp H h a u
 |.tbl ps=>h.get? a=some { cls:=.none,data:=.fields ps }
 |.met f x=>h.get? a=some (methodObj (.ref f) (.ref x))
 |.ext F=>F h/\(∃o,h.get? a=some o)/\∀h1 h2:Heap, F h1->(∀o,h1.get? a=some o->h2.get? a=some o)->F h2
def lF(H:Hp)(h:Heap):Prop:=∀a o,H a=some o->cp P w H h a o
variable{P:BY}{w:Oi}{h:Heap}
theorem cp.lt(x:cp P w H h a o):a<h.objs.3:=by
 cases o with
 |lst xs=>let#[_,_,_,_,e]:=x;show zA6 e
 |tup xs=>let#[_,_,_,p]:=x;show p.lt
 |dK kvs=>let#[_,_,_,_,o,_,_,e,_]:=x;show zA6 e
 |dT kvs=>let#[_,_,_,_,o,_,_,e,_]:=x;show zA6 e
 |set S n=>let#[o,_,_,_,e,_]:=x;show zA6 e
 |ins C dx fs=>let#[_,_,_,e,_]:=x;show zA6 e
 |own y=>let#[_,e]:=x;show zA6 e
 |xd fs=>let#[_,#[_,_,_,e,_],_]:=x;show zA6 e
 |qk lo hi=>let#[_,_,_,e]:=x;show zA6 e
 |frz G u=>let#[e,_]:=x;show zA6 e
 |tbl ps=>show zA6 (show h.get? a=some _ from x)
 |met f y=>show zA6 (show h.get? a=some _ from x)
 |ext F=>let#[_,#[_,e],_]:=x;show zA6 e
theorem Paired.xb{α β:Type}{F G:α->β->Prop}:∀{l₁:List α}{l₂:List β},Paired F l₁ l₂->(∀a b,F a b->G a b)->Paired G l₁ l₂
 |_,_,.nil,_=>.nil
 |_,_,.cons r t,f=>.cons (f _ _ r) (Paired.xb t f)
variable{h':Heap}
theorem cp.jj{H':Hp}(x:cp P w H h a o)(k:∀b u,(b=a\/H b=some (.own a))->h.get? b=some u->h'.get? b=some u)
  (ho:∀b,H b=some (.own a)->H' b=some (.own a)) (I:∀b xs,H b|||xs->H' b|||xs):cp P w H' h' a o:=by
 induction o with
 |lst xs=>let#[z,its,n,r,e]:=x;show#[z,its,n,r,16]
 |tup xs=>let#[z,its,r,F,e,c]:=x;show#[z,its,r,F,16,c]
 |dK kvs=>let#[z,y,vs,r,F,es,ep,e,c]:=x;show#[z,y,vs,r,F,es,ep,16,c]
 |dT kvs =>
  let#[z,y,xs,r,F,es,ep,e,c]:=x;show#[z,y,xs,Paired.xb r λp q z=>#[z.1,I _ _ z.2.1,z.2.2],F,es,ep,16,c]
 |set S n=>let#[F,es,ep,t,e,c]:=x;show#[F,es,ep,t,16,c]
 |ins C dx fs =>
  let#[d,z,ne,e,mA,#[od,es,ep,L,c],r]:=x;show#[ho _ d,z,ne,16,mA,#[od,es,ep,k _ _ (.inr d) L,c],r]
 |own y=>let#[F,e]:=x;show#[F,16]
 |xd fs=>let#[mA,#[od,es,ep,e,c],r]:=x;show#[mA,#[od,es,ep,16,c],r]
 |qk lo hi=>let#[t,u,v,e]:=x;show#[t,u,v,16]
 |frz F u G=>let#[e,q]:=x;show#[16,G q]
 |tbl ps =>
  let e:h.get? a=some { cls:=.none,data:=.fields ps }:=x;change h'.get? a=some { cls:=.none,data:=.fields ps };show k a _ (.inl rfl) e
 |met f y =>
  let e:h.get? a=some (methodObj (.ref f) (.ref y)):=x;change h'.get? a=some (methodObj (.ref f) (.ref y));show k a _ (.inl rfl) e
 |ext U=>let#[p,#[o,e],st]:=x;show#[st _ _ p λo q=>k _ _ (.inl rfl) q,#[o,16],st]
theorem lF.lt(x:lF P w H h)(e:H a=some o):a<h.objs.3:=(x a o e).lt
theorem lF.fresh(x:lF P w H h)(e:h.objs.3<=a):H a=none:=by
 cases q:H a with
 |none=>rfl
 |some u=>show absurd (WS (x.lt q) e) (X7 _)
theorem lF.kept(x:lF P w H h)(k:∀b u,h.get? b=some u->h'.get? b=some u):lF P w H h':=λa o e =>
 (x a o e).jj (λb u _ q=>k b u q) (λ_ q=>q) λ_ _ q=>q
theorem lF.laid(x:lF P w H h)(k:∀b u,h.get? b=some u->h'.get? b=some u)(I:h.objs.3<=a)(new:cp P w (upd H a o) h' a o):lF P w (upd H a o) h':=λb u e=>by
 let G:=x.fresh I;cases F:b=a
 .subst F;rwa[ag]at e;show new
 .rw[ay F]at e;show(x b u e).jj (λc v _ q=>k c v q) (λc q=>by rw[ay (bb q G)];show q) λc xs q=>by rw[ay (bb q G)];show q
end
def Rd(H:Hp)(a:zB0)(u:HO):Prop:=H a=some u\/∃o,H a=some (.frz o u)
variable{P:BY}{w:Oi}{h:Heap}
def Rd.ok(r:Rd H a u)(x:lF P w H h):cp P w H h a u:=by
 rcases r with r|⟨o,r⟩
 .show x a u r
 .let#[_,q]:=x a _ r;show q
def Qt:Option HO->Prop
 |some (.lst _)=>True
 |some (.dK _)=>True
 |some (.dT _)=>True
 |some (.set _ _)=>True
 |some (.ins _ _ _)=>True
 |some (.ext _)=>True
 |_=>False
variable{h':Heap}{x e:zB0}
theorem lF.write{o':HO}(ok:lF P w H h)(F:Qt (H x))(Z:e=x\/H e=some (.own x))(k:∀b u,b≠e->h.get? b=some u->h'.get? b=some u)(aa:∃u,h'.get? e=some u)
  (new:cp P w (upd H x o') h' x o'):lF P w (upd H x o') h':=λb u q=>by
 let Y:∀c y,H c=some (.own y)->c≠x:=λc y r z=>(by subst z;rw[r]at F;show F);let ab:∀c xs,H c|||xs->c≠x:=λc xs r z=>(by subst z;rw[r]at F;show F);cases L:b=x
 .subst L;rwa[ag]at q;show new
 .rw[ay L]at q;cases G:b=e
  .let U:H b=some (.own x):=by
    rcases Z with z|z
    .show absurd (G.trans z) L
    .rw[G];show z
   rwa[q]at U;let#[v,hv]:=aa;show#[v,by rw[G];show hv]
  .show(ok b u q).jj (λc v I r=>k c v ?_ r) (λc r=>by rw[ay (Y c b r)];show r) λc xs r=>(by rw[ay (ab c xs r)];show r);rcases I with rfl|I
   .show G
   .rintro rfl;rcases Z with z|z
    .show Y c b I z
    .rw[I]at z;cases z;show L rfl
structure Un(fs ex:qAc)(H H':Hp)(h h':Heap):Prop where
 keep:∀b o,h.get? b=some o->H b=none->b∉fs->b∉ex->h'.get? b=some o
 slot:∀b o,h.get? b=some o->H b=none->b∈fs->b∉ex->∃sl,h'.get? b=some { o with slots:=sl }
 free:∀b o,h.get? b=some o->H b=none->b∉ex->H' b=none
 there:∀b o,h.get? b=some o->b∉ex->∃o',h'.get? b=some o'
 t9:∀b xs,H b|||xs->H' b|||xs
 sP:∀b o u,H b=some (.frz o u)->H' b=some (.frz o u)
 vk:∀b ps,H b=some (.tbl ps)->∃more,H' b=some (.tbl (ps++more))
section
variable{fs fs' ex ex':qAc}{H H1 H2:Hp}{h h1 h2 h':Heap}{a x e:zB0}{o:HO}
theorem Un.any(u:Un fs ex H H1 h h1){F:Obj}(q:h.get? b=some F)(n:H b=none)(I:b∉ex):∃sl,h1.get? b=some { F with slots:=sl }:=by
 cases G:b∈fs
 .show u.slot b F q n G I
 .show#[F.slots,u.keep b F q n G I]
theorem Un.kept(k:∀b u,h.get? b=some u->h'.get? b=some u):Un fs ex H H h h' :=
 #[λb F q _ _ _=>k b F q,λb F q _ _ _=>#[F.slots,k b F q],λ_ _ _ n _=>n,λb F q _=>#[F,k b F q],λ_ _ q=>q,λ_ _ _ q=>q,λ_ ps q=>#[([].8),by rw[q];simp]]
def Un.refl:Un fs ex H H h h:=Un.kept λ_ _ q=>q
theorem Un.laid(k:∀b u,h.get? b=some u->h'.get? b=some u)(G:h.objs.3<=a)(F:H a=none):Un fs ex H (upd H a o) h h' where
 keep:=λb u q _ _ _=>k b u q
 slot:=λb u q _ _ _=>#[u.slots,k b u q]
 free:=λb u q n _=>by rw[ay (WZ (WS (zA6 q) G))];show n
 there:=λb u q _=>#[u,k b u q]
 t9:=λb xs q=>by rw[ay (bb q F)];show q
 sP:=λb u xs q=>by rw[ay (bb q F)];show q
 vk:=λb ps q=>#[([].8),by rw[ay (bb q F),q];simp]
theorem Un.write(F:Qt (H x))(Z:e=x\/H e=some (.own x))(k:∀b u,b≠e->h.get? b=some u->h'.get? b=some u)(Y:∃u,h'.get? e=some u):Un fs ex H (upd H x o) h h':=by
 let L:∀b,H b=none->b≠x:=λb n z=>(by subst z;rw[n]at F;show F);let I:∀b,H b=none->b≠e:=λb n z=>by
  subst z;rcases Z with r|r
  .show L b n r
  .rw[n]at r;cases r
 let G:∀b u,H b=some u->¬ Qt (some u)->b≠x:=λb u q nm z=>(by subst z;rw[q]at F;show nm F);show#[λb u q n _ _=>k b u (I b n) q,λb u q n _ _=>#[u.slots,k b u (I b n) q],λb u _ n _=>by rw[ay (L b n)];show n,λb u q _=>?_,
  λb xs q=>by rw[ay (G b _ q λz=>z)];show q,λb u xs q=>by rw[ay (G b _ q λz=>z)];show q,λb ps q=>#[([].8),by rw[ay (G b _ q λz=>z),q];simp]]
 cases U:b=e
 .subst U;show Y
 .show#[u,k b u U q]
end
def Q3(h:Heap)(H:Hp):List zB0:=(Wu h.objs.3).filter λa=>(H a).10
def vd(h:Heap)(H:Hp):Heap:=hideAll h (Q3 h H)
def CS(h:Heap)(H:Hp):(vd h H).objs.3=h.objs.3:=PySem.W.hideAll_size _ _
variable{o:Obj}
theorem DH(e:h.get? b=some o)(n:H b=none):(vd h H).get? b=some o :=
 hideAll_get _ e λF=>by
  let q:(H b).10=true:=(WA.mp F).2;rw[n]at q;simp at q
theorem Jk(e:(vd h H).get? b=some o):h.get? b=some o/\H b=none:=by
 let F:h.get? b=some o:=of_hideAll (Q3 h H) e;show#[F,?_];cases q:H b with
 |none=>rfl
 |some x =>
  let G:b∈Q3 h H:=WA.mpr #[YO.mpr (zA6 F),by simp[q]];let z:(vd h H).get? b=none:=PySem.W.hideAll_none (Q3 h H) G;rwa[z]at e
structure Mod(K:Wa)(mg:qa3)(base:Heap):Prop where
 Js:K.In base
 glob:base.Ns WB mg
 blt:∃mb,base.Ns builtinsNs mb/\∀x:Str,x ≠ "__name__" -> mb x=WT x
 nolimit:base.NoLimit
structure Cx where
 prog:BY
 w:Oi
 K:Wa
 mg:Str->Option Value
 base:Heap
 A:Wv
 N:List Str
 s₀:sh
 H₀:Hp
 env:Env
 outer:List Env
 stack:List Env
 ex:List zB0
 fn:Str->Bool
 calm:Bool
 pn:List (zB0×Obj)
 xe:Value->sh->Prop
abbrev qAh(X:Cx)(e:Expr)(es:List Expr):=(starEach (e::es) X.env=(false,eval e X.env)::starEach es X.env)
def sL(l:List Env):List zB0:=l.filterMap (·.frame)
abbrev Cx.fs(X:Cx):List zB0:=sL X.outer
def Rj(F:Zr)(x:Str):Prop:=F.names.lookup x=some .local\/F.names.lookup x=some .cell\/F.names.lookup x=some .free
def Loc(F:Zr)(x:Str):Prop:=F.names.lookup x=some .local\/F.names.lookup x=some .cell
def Look(env:Env)(h:Heap)(m:qa3)(x:Str)(u:Value):Prop :=
 (env.kindOf x=some .local/\m x=some u)\/((env.kindOf x=some .cell\/env.kindOf x=some .free)/\∃c,env.cells.lookup x=some c/\h.IsCell c (some u))
structure Cx.Ok(X:Cx):Prop where
 mod:Mod X.K X.mg X.base
 kind:X.env.scope.kind=.function
 glob:X.env.globals=WB
 blt:X.env.builtins=builtinsNs
 above:X.s₀.heap.objs.3<=X.env.locals
 inj:∀x y c,X.env.cells.lookup x=some c->X.env.cells.lookup y=some c->x=y
 has:∀x,(X.env.kindOf x=some .cell\/X.env.kindOf x=some .free)->∃c,X.env.cells.lookup x=some c
 LA:∀x c,X.fn x=true->X.env.cells.lookup x=some c->X.s₀.heap.objs.3<=c
 hd:X.calm=true->X.A.handled=none
 frames:X.A.frames=some X.stack
 Oq:X.stack=X.outer\/(X.stack=X.env::X.outer/\X.env.frame=some X.env.locals)
 Q8:∀b∈X.ex,b≠X.env.locals/\∀x c,X.env.cells.lookup x=some c->c≠b
 bs:∀b o,X.base.get? b=some o->X.s₀.heap.get? b=some o/\X.H₀ b=none
 GZ:X.base.objs.3<=X.s₀.heap.objs.3
 yw:∀b o,X.base.get? b=some o->b∉X.ex
 za:∀b∈X.ex,b∉X.fs
 l9:X.s₀.heap.FunFrames X.base X.outer
 Jp:∀b∈X.fs,X.H₀ b=none
structure Inv(X:Cx)(pins:qa1)(σ:List (Option V))(H:Hp)(s:sh):Prop where
 ok:X.Ok
 os:s.os=X.s₀.os
 bare:Zx s.gens
 base:Un X.fs X.ex X.H₀ H X.s₀.heap s.heap
 loc:∃m,s.heap.Ns X.env.locals m/\∀(i:Nat)(x:Str)(v:V),X.N[i]?=some x->σ[i]?=some (some v)->Rj X.env.scope x->∃u,RelV v u/\Look X.env s.heap m x u
 cell:∀x c,X.env.cells.lookup x=some c->∃v,s.heap.IsCell c v
 free:H X.env.locals=none
 i7:∀x c,X.env.cells.lookup x=some c->H c=none
 pin:∀p∈X.pn++pins,s.heap.get? p.1=some p.2/\H p.1=none/\p.1≠X.env.locals/\p.1∉X.fs/\∀v,p.2.data≠.cell v
 bL:lF X.prog X.w H s.heap
 len:σ.9=X.N.9
variable{X:Cx}
def Cx.Ok.SG(ok:X.Ok)(e:X.base.get? b=some o):b∉X.fs:=λF=>by
 have:=(ok.l9.mem F).1;rwa[e]at this
variable{pins:qa1}{σ:List (Option V)}{s:sh}
theorem Inv.bs(I: ~~~H s):∀b o,X.base.get? b=some o->s.heap.get? b=some o/\H b=none:=λb o e =>
 #[I.base.keep b o (I.ok.bs b o e).1 (I.ok.bs b o e).2 (I.ok.SG e) (I.ok.yw b o e),I.base.free b o (I.ok.bs b o e).1 (I.ok.bs b o e).2 (I.ok.yw b o e)]
def Inv.bk(I: ~~~H s):∀b o,X.base.get? b=some o->s.heap.get? b=some o:=λb o e=>(I.bs b o e).1
theorem Inv.mod(I: ~~~H s):Mod X.K X.mg X.base:=I.ok.mod
def Inv.lS(I: ~~~H s):X.K.In s.heap:=I.ok.mod.Js.keeps I.bk
theorem Inv.lt(I: ~~~H s):X.env.locals<s⁻¹:=let ⟨_,F,_⟩:=I.loc;F.lt
def Inv.sz(I: ~~~H s):X.s₀.heap.objs.3<=s⁻¹:=WK I.ok.above (Yo I.lt)
theorem Inv.QN(I: ~~~H s)(h:s⁻¹<=a):a∉X.fs:=λF=>by
 let#[_,o,ho,_]:=I.ok.l9.mem F;show absurd (WS (zA6 ho) (WK I.sz h)) (X7 _)
theorem Inv.LU(I: ~~~H s):∀x c,X.env.cells.lookup x=some c->c≠X.env.locals:=λx c e z=>by
 let#[v,o,ho,hd]:=I.cell x c e;let#[m,#[o',es,ep,F,G,_],_]:=I.loc;rwa[z,F]at ho;rwa[G]at hd
theorem Inv.l9(I: ~~~H s):s.heap.FunFrames X.base X.outer:=by
 let all:∀(l:List Env),(∀b∈sL l,b∈X.fs)->X.s₀.heap.FunFrames X.base l->s.heap.FunFrames X.base l:=by
  intro l
  induction l with
  |nil=>intro _ _;trivial
  |cons env r ih =>
   intro hs Y;let#[hk,#[L,o,G,Z,ho,hd],hr]:=Y;let U:L∈X.fs:=hs L (by unfold sL;rw[Yp,G];show Wn);let#[sl,e]:=I.base.slot L o ho (I.ok.Jp L U) U λz=>I.ok.za L z U;show#[hk,#[L,_,G,Z,e,hd],ih (λb F=>hs b (by unfold sL;rw[Yp,G];show Wm _ F)) hr]
 show all X.outer (λ_ F=>F) I.ok.l9
theorem Inv.stack(I: ~~~H s):s.heap.FunFrames X.base X.stack:=by
 rcases I.ok.Oq with e|⟨e,G⟩
 .rw[e];show I.l9
 .rw[e];let#[m,F,_]:=I.loc;show .cons (by rw[I.ok.kind];decide) G F ?_ I.l9;show Heap.get?_none_of_le (WK I.ok.GZ I.ok.above)
theorem Inv.vh(I: ~~~H s):∀b∈sL X.stack,b∈X.env.locals::X.fs:=λb F=>by
 rcases I.ok.Oq with e|⟨e,G⟩
 .rw[e]at F;show Wm _ F
 .rw[e]at F;unfold sL at F;rw[Yp,G]at F;show F
theorem Inv.vb(I: ~~~H s):∀b∈sL X.stack,H b=none:=λb F=>by
 rcases We.mp (I.vh b F)with e|F
 .rw[e];show I.free
 .let#[_,o,ho,_]:=I.ok.l9.mem F;show I.base.free b o ho (I.ok.Jp b F) λz=>I.ok.za b z F
theorem Inv.step{X:Cx}{pins:qa1}{σ:List (Option V)}{H H':Hp}{s:sh}{h':Heap}{g':Array GenState}{t':Nat}{d':Drawn}{ch:qAc}(I: ~~~H s)
  (Y:∀b∈ch,(b∈X.ex\/X.s₀.heap.objs.3<=b)/\b≠X.env.locals/\(∀x c,X.env.cells.lookup x=some c->c≠b)/\∀p∈X.pn++pins,p.1≠b)
  (keep:∀b o,b≠X.env.locals->b∉X.fs->b∉ch->s.heap.get? b=some o->H b=none->h'.get? b=some o)
  (slot:∀b o,b≠X.env.locals->b∈X.fs->b∉ch->s.heap.get? b=some o->H b=none->∃sl,h'.get? b=some { o with slots:=sl }) (free:∀b o,b∉ch->s.heap.get? b=some o->H b=none->H' b=none)
  (there:∀b o,b∉ch->s.heap.get? b=some o->∃o',h'.get? b=some o')
  (t9:∀b xs,H b|||xs->H' b|||xs) (sP:∀b o u,H b=some (.frz o u)->H' b=some (.frz o u)) (vk:∀b ps,H b=some (.tbl ps)->∃ad,H' b=some (.tbl (ps++ad)))
  (ns:∀m,s.heap.Ns X.env.locals m->h'.Ns X.env.locals m) (bL:lF X.prog X.w H' h') (hg:Zx g') :
  ~~~H' { s with heap:=h',gens:=g',drawn:=d',toks:=t' }:=by
 let ab:∀b o,X.s₀.heap.get? b=some o->b≠X.env.locals:=λb o e=>WZ (WS (zA6 e) I.ok.above);let aa:∀b o,X.s₀.heap.get? b=some o->b∉X.ex->b∉ch:=λb o e F L=>by
  rcases(Y b L).1 with z|z
  .show F z
  .show absurd (WS (zA6 e) z) (X7 _)
 let ac:∀x c,X.env.cells.lookup x=some c->∀v,s.heap.IsCell c v->h'.IsCell c v:=λx c e v ak=>by
  let#[o,ho,hd]:=ak;let U:c∉ch:=λz=>(Y c z).2.2.1 x c e rfl;cases hc:c∈X.fs
  .let#[sl,q]:=slot c o (I.LU x c e) hc U ho (I.i7 x c e);show#[_,q,hd]
  .show#[o,keep c o (I.LU x c e) hc U ho (I.i7 x c e),hd]
 show#[I.ok,I.os,hg,#[λb o e n L F=>?_,λb o e n L F=>?_,λb o e n F=>?_,λb o e F=>?_,λb xs e=>t9 b xs (I.base.t9 b xs e),λb o xs e=>sP b o xs (I.base.sP b o xs e),λb ps e=>?_],?_,λx c e=>?_,?_,λx c e=>?_,λp hp=>?_,bL,I.len]
 .show keep b o (ab b o e) L (aa b o e F) (I.base.keep b o e n L F) (I.base.free b o e n F)
 .let#[sl,G]:=I.base.slot b o e n L F;let#[aj,Z]:=slot b _ (ab b o e) L (aa b o e F) G (I.base.free b o e n F);show#[aj,Z]
 .let#[o',G]:=I.base.there b o e F;show free b o' (aa b o e F) G (I.base.free b o e n F)
 .let#[o',G]:=I.base.there b o e F;show there b o' (aa b o e F) G
 .let#[m1,G]:=I.base.vk b ps e;let#[m2,Z]:=vk b _ G;show#[m1++m2,by rw[Z,Array.append_assoc]]
 .let#[m,hn,hl]:=I.loc;show#[m,ns m hn,λi x v G Z e3=>?_];let#[u,r,l]:=hl i x v G Z e3;show#[u,r,?_];rcases l with l|⟨k,c,e,z⟩
  .show .inl l
  .show .inr #[k,c,e,ac x c e _ z]
 .let#[v,z]:=I.cell x c e;show#[v,ac x c e v z]
 .let#[m,#[o,_,_,ho,_],_]:=I.loc;show free _ o (λz=>(Y _ z).2.1 rfl) ho I.free
 .let#[v,o,ho,_]:=I.cell x c e;show free c o (λz=>(Y c z).2.2.1 x c e rfl) ho (I.i7 x c e)
 .let#[e,n,ne,nf,d]:=I.pin p hp;let U:p.1∉ch:=λz=>(Y p.1 z).2.2.2 p hp rfl;show#[keep p.1 p.2 ne nf U e n,free p.1 p.2 U e n,ne,nf,d]
variable{H':Hp}{t':Nat}
theorem Inv.un(I: ~~~H s)(u:Un X.fs [] H H' s.heap h')(Y:lF X.prog X.w H' h'): ~~~H' { s with heap:=h',toks:=t' }:=by
 let#[m,#[o,es,ep,ho,_],_]:=id I.loc;let#[sl,hL]:=u.any ho I.free (by simp);show I.step (g':=s.gens) (d':=s.drawn) (ch:=[]) (λ_ z=>nomatch z) (λb o _ F _ e n=>u.keep b o e n F (by simp)) (λb o _ F _ e n=>u.slot b o e n F (by simp)) (λb o _ e n=>u.free b o e n (by simp)) (λb o _ e=>u.there b o e (by simp)) u.t9 u.sP u.vk (λm' U=>by
  let#[o',L,Z,G,r']:=U;rwa[ho]at G;show#[_,L,Z,hL,r']) Y I.bare
variable{ch:qAc}
theorem Inv.call{g':Array GenState}{d':Drawn}(I: ~~~H s)(u:Un (sL X.stack) ch H H' s.heap h')(bL:lF X.prog X.w H' h')(hg:Zx g')
  (L:∀b∈ch,(b∈X.ex\/X.s₀.heap.objs.3<=b)/\b≠X.env.locals/\(∀x c,X.env.cells.lookup x=some c->c≠b)/\∀p∈X.pn++pins,p.1≠b) :
  ~~~H' { s with heap:=h',gens:=g',drawn:=d',toks:=t' }:=by
 let#[m,#[o,es,ep,ho,_],_]:=id I.loc;let#[sl,G]:=u.any ho I.free λz=>(L _ z).2.1 rfl;show I.step (ch:=ch) L (λb o G hb F e n=>u.keep b o e n (λz=>(We.mp (I.vh b z)).elim G hb) F) (λb o _ _ F e n=>u.any e n F) (λb o F e n=>u.free b o e n F) (λb o F e=>u.there b o e F) u.t9 u.sP u.vk (λm' Y=>by
  let#[o',Z,aa,U,r']:=Y;rwa[ho]at U;show#[_,Z,aa,G,r']) bL hg
theorem Inv.Ak(I: ~~~H s)(k:∀b o,b∉ch->s.heap.get? b=some o->h'.get? b=some o)(G:∀b∈ch,H b=none/\b≠X.env.locals/\(b∈X.ex\/X.s₀.heap.objs.3<=b)/\(∀x c,X.env.cells.lookup x=some c->c≠b)/\∀p∈X.pn++pins,p.1≠b): ~~~H { s with heap:=h',toks:=t' }:=by
 let L:∀b u,H b=some u->b∉ch:=λb u e z=>(by rwa[(G b z).1]at e);show I.step (g':=s.gens) (d':=s.drawn) (ch:=ch) (λb hb=>?_) (λb o _ _ F e _=>k b o F e) (λb o _ _ F e _=>#[o.slots,k b o F e]) (λ_ _ _ _ n=>n)
  (λb o F e=>#[o,k b o F e]) (λ_ _ e=>e) (λ_ _ _ e=>e) (λb ps e=>#[([].8),by rw[e];simp]) (λm hm=>?_) (λb u e=>?_) I.bare
 .let#[_,f1,Z,U,Y]:=G b hb;show#[Z,f1,U,Y]
 .let#[o,es,ep,ho,r]:=hm;show#[o,es,ep,k _ o (λz=>(G _ z).2.1 rfl) ho,r]
 .show(I.bL b u e).jj (λc v F q=>k c v ?_ q) (λ_ q=>q) λ_ _ q=>q;rcases F with z|z
  .rw[z];show L b u e
  .show L c _ z
variable{it:zB0}
theorem Inv.turned(I: ~~~H s)(k:∀b o,b≠it->s.heap.get? b=some o->h'.get? b=some o)(L:H it=none)(U:it≠X.env.locals)
  (h1:it∈X.ex\/X.s₀.heap.objs.3<=it) (h2:∀x c,X.env.cells.lookup x=some c->c≠it) (G:∀p∈X.pn++pins,p.1≠it): ~~~H { s with heap:=h',toks:=t' }:=
 I.Ak (ch:=[it]) (λb o F e=>k b o (λz=>F (sx.mpr z)) e) λb F=>by cases sx.mp F;show#[L,U,h1,h2,G]
def Inv.tok(I: ~~~H s)(t:Nat): ~~~H { s with toks:=t }:=I.un (h':=s.heap) (t':=t) Un.refl I.bL
theorem Inv.kept(I: ~~~H s)(k:∀b u,s.heap.get? b=some u->h'.get? b=some u): ~~~H { s with heap:=h',toks:=t' }:=I.un (Un.kept k) (I.bL.kept k)
variable{o:HO}
theorem Inv.laid(I: ~~~H s)(k:∀b u,s.heap.get? b=some u->h'.get? b=some u)(F:s⁻¹<=a)(new:cp X.prog X.w (upd H a o) h' a o) :
  ~~~(upd H a o) { s with heap:=h',toks:=t' }:=I.un (Un.laid k F (I.bL.fresh F)) (I.bL.laid k F new)
theorem Inv.write(I: ~~~H s)(F:Qt (H x))(L:e=x\/H e=some (.own x))(k:∀b u,b≠e->s.heap.get? b=some u->h'.get? b=some u)(G:∃u,h'.get? e=some u)
  (new:cp X.prog X.w (upd H x o) h' x o): ~~~(upd H x o) { s with heap:=h',toks:=t' }:=I.un (Un.write F L k G) (I.bL.write F L k G new)
theorem Inv.qg{F:qa1}(I: ~~~H s)(h:∀p∈F,s.heap.get? p.1=some p.2/\H p.1=none/\p.1≠X.env.locals/\p.1∉X.fs/\∀v,p.2.data≠.cell v):Inv X F σ H s :=
 #[I.ok,I.os,I.bare,I.base,I.loc,I.cell,I.free,I.i7,λp G=>(Wf.mp G).elim (λz=>I.pin p (Wg _ z)) (h p),I.bL,I.len]
variable{N:qAb}{i:Nat}{x:Str}
theorem xG(G:N.4){j:Nat}(a:N[i]?=some x)(b:N[j]?=some x):i=j:=by
 let#[h1,I]:=u4.mp a;let#[h2,F]:=u4.mp b;show(aaN G).mp (I.trans F.6)
variable{M:abp}{A:Wv}{E:qa2}{v:V}{u:Value}{Q:Unit->sh->Prop}
theorem tO(I: ~~~H s)(hN:X.N.4)(hi:X.N[i]?=some x)(L:Loc X.env.scope x)(r:RelV v u)
  (h:∀s',Inv X pins (σ.set i (some v)) H s'->(∃a,Heap.SameBut a s.heap s'.heap/\(a=X.env.locals\/X.env.cells.lookup x=some a))->Q () s') (hf:X.fn x=true\/X.env.scope.names.lookup x=some .local:=by first|show .inl rfl|show .inr rfl|assumption):wpAny M A (storeName X.env x u) Q E s:=by
 let#[m,hn,hl]:=id I.loc;let aB:(X.env.scope.kind == .class||(X.env.scope.kind == .module&&X.env.locals != X.env.globals))=false:=(by rw[I.ok.kind];rfl);let ad:i<σ.9:=(by rw[I.len];show(u4.mp hi).1);let LU:=I.LU;let ab:∀{a:zB0}{h':Heap},(∃o,s.heap.get? a=some o/\H a=none)->Heap.SameBut a s.heap h'->lF X.prog X.w H h':=λ{a h'} ha hs b ob e=>by
  let#[_,_,am]:=ha;show(I.bL b ob e).jj (λc w' G q=>(hs.2 c ?_).trans q) (λ_ q=>q) λ_ _ q=>q;rintro rfl;rcases G with rfl|G
  .rw[am]at e;cases e
  .rw[am]at G;cases G
 rcases L with hk|hk
 .show wpAny_storeName_local hk hn (λh' as hs=>?_) aB;let#[oL,_,_,ap,_]:=id hn;show h _ #[I.ok,I.os,I.bare,#[132,132,I.base.free,λb o e L=>?_,I.base.t9,I.base.sP,I.base.vk],#[_,as,λj y v' F U e3=>?_],λy c e=>?_,I.free,I.i7,λp hp=>?_,ab #[oL,ap,I.free] hs,by simpa using I.len] #[_,hs,.inl rfl]
  .show(hs.2 b (WZ (WS (zA6 e) I.ok.above))).trans (I.base.keep b o e n Z L)
  .let#[sl,F]:=I.base.slot b o e n Z L;show#[sl,(hs.2 b (WZ (WS (zA6 e) I.ok.above))).trans F]
  .let#[o',F]:=I.base.there b o e L;show#[o',(hs.2 b (WZ (WS (zA6 e) I.ok.above))).trans F]
  .cases Y:j=i
   .subst Y;rwa[hi]at F;rwa[Xh ad]at U;show#[u,r,.inl #[hk,by simp]]
   .rw[W5 (zA3 Y)]at U;let#[u',r',q]:=hl j y v' F U e3;show#[u',r',?_];rcases q with⟨k,e⟩|⟨k,c,e,z⟩
    .show .inl #[k,?_];have:y≠x:=λe=>Y (xG hN F (e▸hi));simp[this,e]
    .show .inr #[k,c,e,z.sameBut hs (LU y c e)]
  .let#[w',z]:=I.cell y c e;show#[w',z.sameBut hs (LU y c e)]
  .let#[e,n,ne,nf,d]:=I.pin p hp;show#[(hs.2 p.1 ne).trans e,n,ne,nf,d]
 .let aa:X.fn x=true:=by
   rcases hf with z|z
   .show z
   .rw[z]at hk;cases hk
  let#[c,G]:=I.ok.has x (.inl hk);let#[w',z]:=I.cell x c G;show wpAny_storeName_cell I.ok.kind hk G z (λh' ac hs=>?_);let#[oc,aj,ar]:=id z;show h { s with heap:=h' } #[I.ok,I.os,I.bare,#[132,132,I.base.free,λb o e L=>?_,I.base.t9,I.base.sP,I.base.vk],#[m,hn.sameBut hs (zA3 (LU x c G)),λj y v' F U e3=>?_],λy c' e=>?_,I.free,I.i7,λp hp=>?_,ab #[oc,aj,I.i7 x c G] hs,by simpa using I.len] #[c,hs,.inr G]
  .show(hs.2 b (WZ (WS (zA6 e) (I.ok.LA x c aa G)))).trans (I.base.keep b o e n Z L)
  .let#[sl,F]:=I.base.slot b o e n Z L;show#[sl,(hs.2 b (WZ (WS (zA6 e) (I.ok.LA x c aa G)))).trans F]
  .let#[o',F]:=I.base.there b o e L;show#[o',(hs.2 b (WZ (WS (zA6 e) (I.ok.LA x c aa G)))).trans F]
  .cases Y:j=i
   .subst Y;rwa[hi]at F;rwa[Xh ad]at U;show#[u,r,.inr #[.inl hk,c,G,ac]]
   .rw[W5 (zA3 Y)]at U;let#[u',r',q]:=hl j y v' F U e3;show#[u',r',?_];rcases q with q|⟨k,c',e,z'⟩
    .show .inl q
    .show .inr #[k,c',e,z'.sameBut hs ?_];rintro rfl;show Y (xG hN F (I.ok.inj _ _ _ e G▸hi))
  .cases ak:c'=c
   .subst ak;show#[_,ac]
   .let#[w2,z2]:=I.cell y c' e;show#[w2,z2.sameBut hs ak]
  .let#[e,n,ne,nf,d]:=I.pin p hp;show#[(hs.2 p.1 ?_).trans e,n,ne,nf,d];intro q;rw[q,aj]at e;let q':oc=p.2:=OR e;show d w' (by rw[<-q'];show ar)
theorem rL(I: ~~~H s)(G:X.N.4)(hi:X.N[i]?=some x)(F:Loc X.env.scope x)(r:RelV v u)
  (h:∀s',Inv X pins (σ.set i (some v)) H s'->Q () s') (U:X.fn x=true\/X.env.scope.names.lookup x=some .local:=by first|show .inl rfl|show .inr rfl|assumption):wpAny M A (storeName X.env x u) Q E s :=
 tO I G hi F r (λs' L _=>h s' L) U
variable{s':sh}
theorem Inv.EM(I: ~~~H s)(ho:s'.os=s.os)(u:Un (sL X.stack) ch H H' s.heap s'.heap)(F:lF X.prog X.w H' s'.heap)(G:Zx s'.gens)
  (L:∀b∈ch,(b∈X.ex\/X.s₀.heap.objs.3<=b)/\b≠X.env.locals/\(∀x c,X.env.cells.lookup x=some c->c≠b)/\∀p∈X.pn++pins,p.1≠b): ~~~H' s':=by
 let#[h',g',d',t',o']:=s';let e:o'=s.os:=ho;subst e;show I.call (g':=g') (t':=t') (d':=d') u F G L
abbrev XK:=Value->Option zB0->Hp->Prop
abbrev St:=List (Option V)
abbrev VK:=V->Hp->Prop
abbrev TE:=St->Hp->VK->Prop
abbrev TT:=St->Hp->(Bool->Hp->Prop)->Prop
abbrev TA:=St->Hp->(List V->Hp->Prop)->Prop
structure Ends where
 nx:St->Hp->Prop
 rt:VK
 bk:St->Hp->Prop:=λ_ _=>False
 ct:St->Hp->Prop:=λ_ _=>False
abbrev TS:=Ends->St->Hp->Prop
def EP(X:Cx)(pins:qa1)(σ:St)(Q:VK)(u:Value)(s':sh):Prop:=∃v H',~~~H' s'/\RelV v u/\Q v H'
def TP(X:Cx)(pins:qa1)(σ:St)(Q:Bool->Hp->Prop)(b:Bool)(s':sh):Prop:=∃H',~~~H' s'/\Q b H'
def AP(X:Cx)(pins:qa1)(σ:St)(Q:List V->Hp->Prop)(us:qa6)(s':sh):Prop:=∃vs H',~~~H' s'/\Vals vs us/\Q vs H'
def SP(X:Cx)(pins:qa1)(D:Ends)(f:Flow)(s':sh):Prop :=
 match f with
 |.next=>∃F H',Inv X pins F H' s'/\D.nx F H'
 |.brk=>∃F H',Inv X pins F H' s'/\D.bk F H'
 |.cont=>∃F H',Inv X pins F H' s'/\D.ct F H'
 |.ret u=>∃v F H',Inv X pins F H' s'/\RelV v u/\D.rt v H'
def PE(X:Cx)(e:Ws)(t:TE):Prop :=
 ∀(pins:qa1)(s:sh)(σ:St)(H:Hp)(Q:VK),~~~H s->t σ H Q->↑(eval e X.env) (EP X pins σ Q) X.xe s
def PT(X:Cx)(e:Ws)(t:TT):Prop :=
 ∀(pins:qa1)(s:sh)(σ:St)(H:Hp)(Q:Bool->Hp->Prop),~~~H s->t σ H Q->↑(isTrue e X.env (eval e X.env)) (TP X pins σ Q) X.xe s
def PW(X:Cx)(e:Ws)(t:TT):Prop :=
 ∀(F:ZC Value)(pins:qa1)(s:sh)(σ:St)(H:Hp)(Q:Bool->Hp->Prop),~~~H s->t σ H Q->↑(isTrue e X.env F) (TP X pins σ Q) X.xe s
variable{e:Ws}
def PW.pt{t:TT}(h:PW X e t):PT X e t:=h _
def PA(X:Cx)(es:qAe)(t:TA):Prop :=
 ∀(pos:XU)(pins:qa1)(s:sh)(σ:St)(H:Hp)(Q:List V->Hp->Prop),~~~H s->t σ H Q->↑(spliced (backTo pos (starEach es X.env))) (AP X pins σ Q) X.xe s
def PS(X:Cx)(st:Wo)(t:TS):Prop :=
 ∀(pins:qa1)(s:sh)(σ:St)(H:Hp)(D:Ends),~~~H s->t D σ H->↑(exec st X.env) (SP X pins D) X.xe s
def uv(X:Cx)(st:List Wo)(t:TS):Prop :=
 ∀(pins:qa1)(s:sh)(σ:St)(H:Hp)(D:Ends),~~~H s->t D σ H->↑(execs st X.env) (SP X pins D) X.xe s
def cc{α:Type}{t:ZC α}{Q F:α->sh->Prop}(h:wpAny M A t Q E s)(G:∀a s,Q a s->F a s):wpAny M A t F E s:=W4 h G λ_ _ x=>x
inductive fX(i:Nat)(σ:St)(H:Hp)(Q:VK):Prop
 |mk(v:_)(_:σ[i]?=some (some v))(_:Q v H)
def tC(v:V):TE:=λ_ H Q=>Q v H
variable{pos:XU}
theorem LG(Y:X.N[i]?=some x)(U:Rj X.env.scope x)(hd:(x==("__debug__" : Str))=false:=by decide)(aa:(x==("__classdict__" : Str))=false:=by decide):PE X (.Name x pos) (fX i):=by
 intros Q I h;let#[v,e,h]:=h;let#[m,Z,L]:=I.loc;let#[u,r,l]:=L i x v Y e U;let fin:EP X pins σ Q u s:=#[v,H,I,r,h];rcases l with⟨hk,hm⟩|⟨hk,c,F,G⟩
 .show wpAny_Name (wpAny_loadName_local I.ok.kind hk Z hm fin) hd
 .rcases hk with hk|hk
  .show wpAny_Name (wpAny_loadName_cell I.ok.kind hk F G fin) hd
  .show wpAny_Name (wpAny_loadName_free I.ok.kind hk F G fin aa) hd
theorem aw{i j pos}:PE X (.Constant (.int i) j pos) (tC (.int i)):=λ_ _ _ H _ I h=>wpAny_Constant_int #[.int i,H,I.tok _,#[0],h]
def iJ{b j pos}:PE X (.Constant (.bool b) j pos) (tC (.bl b)):=λ_ _ _ H _ I h=>Constant_bool #[.bl b,H,I,rfl,h]
def bV{j pos}:PE X (.Constant .none j pos) (tC .bh):=λ_ _ _ H _ I h=>Constant_none #[.bh,H,I,rfl,h]
theorem az{x j pos}:PE X (.Constant (.str x) j pos) (tC (.str x)):=λ_ _ _ H _ I h=>Calls.Constant_str #[.str x,H,I.tok _,#[0],h]
def Gl(X:Cx)(x:Str):Prop:=X.env.kindOf x=some .globalImplicit
variable{σ:St}{Q:qa2}
theorem kY(I: ~~~H s)(G:Gl X x)(F:X.mg x=some u)(h:Q u s)
  (hd:(x==("__debug__" : Str))=false:=by decide):↑(eval (.Name x pos) X.env) Q E s :=
 Calls.Name_function_global I.ok.kind G (Calls.loadGlobal_global (by rw[I.ok.glob];show I.mod.glob.keeps I.bk) F h) hd
theorem kb(I: ~~~H s)(G:Gl X x)(U:X.mg x=none)(F:WT x=some u)(h:Q u s)
  (L:x ≠ "__name__" := by decide) (hd:(x==("__debug__" : Str))=false:=by decide):↑(eval (.Name x pos) X.env) Q E s:=by
 let#[Y,h1,h2]:=I.mod.blt;show Calls.Name_function_global I.ok.kind G (Calls.loadGlobal_builtin (by rw[I.ok.glob];show I.mod.glob.keeps I.bk) U (by rw[I.ok.blt];show h1.keeps I.bk) ((h2 x L).trans F) h) hd
theorem i5(G:Gl X x)(F:X.mg x=some u)(r:RelV v u)(hd:(x==("__debug__" : Str))=false:=by decide):PE X (.Name x pos) (tC v):=
 λ_ _ _ H _ I h=>kY I G F #[v,H,I,r,h] hd
theorem fQ(L:Gl X x)(F:X.mg x=none)(G:WT x=some u)(r:RelV v u)(U:x ≠ "__name__" := by decide)(hd:(x==("__debug__" : Str))=false:=by decide):PE X (.Name x pos) (tC v):=
 λ_ _ _ H _ I h=>kb I L F G #[v,H,I,r,h] U hd
def PC(X:Cx)(I:CmpOp)(a b:Ws)(t:TE):Prop :=
 ∀(pins:qa1)(s:sh)(σ:St)(H:Hp)(Q:VK),~~~H s->t σ H Q ->
  ↑(eval a X.env) (λv G=>↑(eval b X.env) (λu F=>↑(W8 I v u) (EP X pins σ Q) X.xe F) X.xe G) X.xe s
inductive VG(t:TE)(Q:Bool->Hp->Prop)(x:V)(H1:Hp):Prop
 |mk(c:_)(_:x=.bl c)(_:Q c H1)
def tB(t:TE):TT:=λσ H Q=>t σ H λx H1=>VG t Q x H1
variable{a b:Ws}{t:TE}
theorem gG{F:CmpOp}(h:PC X F a b t)(h1:Zc F b=false:=by first|show nobehind _ aE aE|rfl):PT X (.Compare a [F] [b] pos) (tB t):=by
 intros Q I Z;show aaE (cc (h pins s σ H _ I Z) λv s1 h1=>cc h1 λu s2 h2=>cc h2 λc s3 U=>?_) h1;let#[x,H1,L,Y,G]:=U;let#[d,rfl,q]:=G;cases Y;show XB #[H1,L,q]
theorem dC(h:PE X e t)(Z:∀F,isTrue e X.env F=(do let v <-F;acy e.pos;abc [v] (truthy v)):=by intro _;rfl):PT X e (tB t):=by
 intros Q I hw;show isTrue_plain (cc (h pins s σ H _ I hw) λv s1 Y=>?_) (Z _);let#[x,H1,L,U,G]:=Y;let#[d,rfl,q]:=G;cases U;show XB #[H1,L,q]
def SH(t u:TT):TT:=λσ H Q=>t σ H λc H1=>if c=true then u σ H1 Q else Q false H1
def VC(t u:TT):TT:=λσ H Q=>t σ H λc H1=>if c=true then Q true H1 else u σ H1 Q
def RG(t:TT):TT:=λσ H Q=>t σ H λc H1=>Q (!c) H1
variable{tA:TT}
theorem fS(F:PT X a tA):PW X (.BoolOp .And [a] pos) tA:=by
 intro G pins s σ H Q I h;show isTrue_and (cc (F pins s σ H Q I h) λc L e=>?_);cases c with
 |true=>show isTrue_and_nil e
 |false=>show e
theorem iS(F:PT X a tA):PW X (.BoolOp .Or [a] pos) tA:=by
 intro G pins s σ H Q I h;show isTrue_or (cc (F pins s σ H Q I h) λc L e=>?_);cases c with
 |false=>show isTrue_or_nil e
 |true=>show e
variable{tB':TT}{rest:qAe}
theorem ig(Y:PT X a tA)(Z:PW X (.BoolOp .And (b::rest) pos) tB'):PW X (.BoolOp .And (a::b::rest) pos) (SH tA tB'):=by
 intro wh pins s σ H Q I h;show isTrue_and (cc (Y pins s σ H _ I h) λc U L=>?_);let#[H1,G,F]:=L;cases c with
 |true=>show Z wh pins U σ H1 Q G F
 |false=>show#[H1,G,F]
theorem jV(Y:PT X a tA)(Z:PW X (.BoolOp .Or (b::rest) pos) tB'):PW X (.BoolOp .Or (a::b::rest) pos) (VC tA tB'):=by
 intro wh pins s σ H Q I h;show isTrue_or (cc (Y pins s σ H _ I h) λc L U=>?_);let#[H1,G,F]:=U;cases c with
 |true=>show#[H1,G,F]
 |false=>show Z wh pins L σ H1 Q G F
theorem lU(F:PT X a tA):PT X (.UnaryOp .Not a pos) (RG tA):=by
 intros Q I h;show isTrue_not (F pins s σ H (λc H1=>Q (!c) H1) I h)
inductive Dv(ta tb:TE)(σ:St)(Q:VK)(x:V)(H1:Hp):Prop
 |mk(c:_)(_:x=.bl c)(_:if c=true then tb σ H1 Q else Q (.bl false) H1)
def Gp(ta tb:TE):TE:=λσ H Q=>ta σ H λx H1=>Dv ta tb σ Q x H1
inductive Ez(ta:TE)(Q:VK)(x:V)(H1:Hp):Prop
 |mk(c:_)(_:x=.bl c)(_:Q (.bl (!c)) H1)
def QU(ta:TE):TE:=λσ H Q=>ta σ H λx H1=>Ez ta Q x H1
def lO{op}(h:PE X a t):PE X (.BoolOp op [a] pos) t:=λpins s σ H Q I F=>BoolOp_one (h pins s σ H Q I F)
variable{ta tb:TE}
theorem jT(Y:PE X a ta)(Z:PE X (.BoolOp .And (b::rest) pos) tb):PE X (.BoolOp .And (a::b::rest) pos) (Gp ta tb):=by
 intros Q I h;show BoolOp_and (cc (Y pins s σ H _ I h) λv U aa=>?_);let#[x,H1,G,L,F]:=aa;let#[c,rfl,F]:=F;cases L;show XB ?_;cases c with
 |true=>show Z pins U σ H1 Q G F
 |false=>show#[.bl false,H1,G,rfl,F]
theorem Lr(U:PE X a ta):PE X (.UnaryOp .Not a pos) (QU ta):=by
 intros Q I h;show UnaryOp_ (cc (U pins s σ H _ I h) λv Z Y=>?_);let#[x,H1,G,L,F]:=Y;let#[c,rfl,F]:=F;cases L;show not_of (XB #[.bl (!c),H1,G,rfl,F])
def VW(t:TT)(ta tb:TE):TE:=λσ H Q=>t σ H λc H1=>if c=true then ta σ H1 Q else tb σ H1 Q
variable{c:Ws}
theorem iK(Y:PT X c tA)(U:PE X a ta)(Z:PE X b tb):PE X (.IfExp c a b pos) (VW tA ta tb):=by
 intros Q I h;show wpAny_IfExp (cc (Y pins s σ H _ I h) λd L aa=>?_);let#[H1,G,F]:=aa;cases d with
 |true=>show U pins L σ H1 Q G F
 |false=>show Z pins L σ H1 Q G F
def a9(K:Wa)(H:Hp)(a:zB0)(xs:qAf):Prop :=
 Rd H a (.lst xs) \/
  ∃(o:Obj)(its:qa5)(n:Nat),K.lookup a=some o/\o.cls=.type "list" /\ o.dict=none/\o.data=.seq its n/\its.3<=sizeLine/\Vals xs its.7
def cX(K:Wa)(H:Hp)(a:zB0)(xs:qAf):Prop :=
 Rd H a (.tup xs) \/
  ∃(o:Obj)(its:qa5)(n:Nat),K.lookup a=some o/\o.cls=.type "tuple" /\ o.data=.seq its n/\its.3<=sizeLine/\Vals xs its.7
noncomputable def UW:Value->Option V
 |.none=>some .bh
 |.bool b=>some (.bl b)
 |.int i _=>some (.int i)
 |.str x _=>some (.str x)
 |.bytes b _=>some (.byt b)
 |.float b _=>some (.flt b)
 |.ref a=>some (.ref a)
 |.type n=>some (.ty n)
 |_=>none
variable{x:V}
theorem RelV.abs(r:RelV x u):UW u=some x:=by
 cases x with
 |bh=>cases r;rfl
 |bl _=>cases r;rfl
 |int _=>let#[t,rfl]:=r;rfl
 |str _=>let#[t,rfl]:=r;rfl
 |byt _=>let#[t,rfl]:=r;rfl
 |flt _=>let#[t,rfl]:=r;rfl
 |ref _=>cases r;rfl
 |ty _=>cases r;rfl
variable{y:V}
def RelV.inj(r:RelV x u)(q:RelV y u):x=y:=OR (r.abs.symm.trans q.abs)
theorem Vals.inj:∀{xs ys:qAf}{us:qa6},Vals xs us->Vals ys us->xs=ys
 |_,_,_,.nil,.nil=>rfl
 |_,_,_,.cons r t,.cons F t'=>by rw[r.inj F,Vals.inj t t']
variable{a:zB0}{K:Wa}
def a9.of(h:H a∣xs):a9 K H a xs:=.inl (.inl h)
def cX.of(h:H a|||xs):cX K H a xs:=.inl (.inl h)
theorem Inv.list(I: ~~~H s)(h:a9 X.K H a xs):∃its:List Value,Vals xs its/\PlainL s.heap a its.8/\xs.9<=sizeLine:=by
 rcases h with h|⟨o,its,n,hk,F,hd,hs,G,r⟩
 .let#[z,its,n,r,e]:=h.ok I.bL;show#[its,r,#[_,n,e,1,rfl],z]
 .show#[its.7,r,#[o,n,I.lS a o hk,F,hd,by simpa using hs],?_];let e:=r.9;simp only[Xe]at e;omega
theorem Inv.tuple(I: ~~~H s)(h:cX X.K H a xs):∃its:List Value,Vals xs its/\IsTup s.heap a its.8/\xs.9<=sizeLine:=by
 rcases h with h|⟨o,its,n,hk,F,hs,G,r⟩
 .let#[z,its,r,p]:=h.ok I.bL;show#[its,r,p,z]
 .show#[its.7,r,#[o,I.lS a o hk,F,n,by simpa using hs],?_];let e:=r.9;simp only[Xe]at e;omega
variable{ys:qAf}
theorem Inv.qE(I: ~~~H s)(h:a9 X.K H a xs)(h':a9 X.K H a ys):xs=ys:=by
 let#[its,r,#[o,n,e,_,_,d],_]:=I.list h;let#[its',L,#[o',U,F,_,_,d'],_]:=I.list h';rwa[e]at F;rw[d]at d';injection d' with G _;have:its=its':=‹congrArg toList G›;subst this;show r.inj L
theorem Inv.Cb(I: ~~~H s)(h:cX X.K H a xs)(h':cX X.K H a ys):xs=ys:=by
 let#[its,r,#[o,e,_,n,d],_]:=I.tuple h;let#[its',L,#[o',F,_,U,d'],_]:=I.tuple h';rwa[e]at F;rw[d]at d';injection d' with G _;have:its=its':=‹congrArg toList G›;subst this;show r.inj L
noncomputable abbrev Cx.iX(X:Cx)(E:qa2):Cx:={ X with xe:=E }
noncomputable abbrev Cx.pd(X:Cx):Cx:=X.iX λ_ _=>False
theorem Cx.Ok.iX(ok:X.Ok)(E:qa2):(X.iX E).Ok :=
 #[25,ok.hd,26]
def Cx.Ok.cm(ok:(X.iX E).Ok):X.Ok :=
 #[25,ok.hd,26]
theorem Inv.iX(I: ~~~H s)(E:qa2):Inv (X.iX E) pins σ H s:=#[I.ok.iX E,14]
theorem Inv.cm(I:Inv (X.iX E) pins σ H s): ~~~H s:=#[I.ok.cm,14]
variable{D:Ends}
theorem SP.cm{f:Flow}(h:SP (X.iX E) pins D f s'):SP X pins D f s':=by
 cases f with
 |next=>let#[F,H',I,q]:=h;show#[F,H',I.cm,q]
 |brk=>let#[F,H',I,q]:=h;show#[F,H',I.cm,q]
 |cont=>let#[F,H',I,q]:=h;show#[F,H',I.cm,q]
 |ret u=>let#[v,F,H',I,r,q]:=h;show#[v,F,H',I.cm,r,q]
variable{t:TS}
theorem uv.pd{st:List Wo}(h:uv X.pd st t):uv X st t:=λpins s σ H D I F =>
 W4 (h pins s σ H D (I.iX _) F) (λ_ _ q=>q.cm) λ_ _ z=>XD z
def nG:TS:=λD σ H=>D.nx σ H
def jA(t u:TS):TS:=λD σ H=>t { D with nx:=u D } σ H
def aR:uv X [] nG:=λ_ _ σ H _ I h=>XE #[σ,H,I,h]
variable{st:Wo}{u:TS}
theorem ah{rest:List Wo}(h1:PS X st t)(h2:uv X rest u):uv X (st::rest) (jA t u):=by
 intros D I h;show Y1 (cc (h1 pins s σ H { D with nx:=u D } I h) λf F q=>?_);cases f with
 |next =>
  let#[L,H',G,q]:=q;show h2 pins F L H' D G q
 |ret v=>show q
 |brk=>show q
 |cont=>show q
theorem ai(h1:PS X st t):uv X [st] t:=by
 intros D I h;show Y1 (cc (h1 pins s σ H D I h) λf F q=>?_);cases f with
 |next=>show XE q
 |ret v=>show q
 |brk=>show q
 |cont=>show q
def Hq:PS X (.Pass pos) nG:=λ_ _ σ H _ I h=>wpAny_Pass #[σ,H,I,h]
def Inv.quiet(I: ~~~H s):interactive X.env=false:=by simp[interactive,I.ok.kind]
def Kq(te:TE):TS:=λD σ H=>te σ H λ_ H1=>D.nx σ H1
variable{te:TE}
theorem aV(U:PE X e te)(hs:YK e none pos.line X.env=pure false:=by rfl):PS X (.Expr e pos) (Kq te):=by
 intros D I h;show wpAny_Expr_any (cc (U pins s σ H _ I h) λv Z G=>by let#[x,H1,L,Y,F]:=G;show#[σ,H1,L,F]) I.quiet hs
def JH(te:TE):TS:=λD σ H=>te σ H D.rt
theorem aI(L:PE X e te):PS X (.Return (some e) pos) (JH te):=by
 intros D I h;show wpAny_Return_some (cc (L pins s σ H _ I h) λv Z U=>by let#[x,H1,G,Y,F]:=U;show#[x,σ,H1,G,Y,F])
def xj(c:TT)(t u:TS):TS:=λD σ H=>c σ H λb H1=>if b=true then t D σ H1 else u D σ H1
variable{tc:TT}
theorem bj{a b:List Wo}(Y:PT X c tc)(U:uv X a t)(Z:uv X b u):PS X (.If c a b pos) (xj tc t u):=by
 intros D I h;show wpAny_If (cc (Y pins s σ H _ I h) λd L aa=>?_);let#[H1,G,F]:=aa;cases d with
 |true=>show U pins L σ H1 D G F
 |false=>show Z pins L σ H1 D G F
abbrev TG:=V->St->Hp->(St->Hp->Prop)->Prop
abbrev Ov:=List V->St->Hp->(St->Hp->Prop)->Prop
def PG(X:Cx)(G:Ws)(t:TG):Prop :=
 ∀(pins:qa1)(s:sh)(σ:St)(H:Hp)(v:V)(u:Value)(Q:St->Hp->Prop),~~~H s->RelV v u->t v σ H Q ->
  ↑(aby G X.env u) (λ_ s'=>∃F H',Inv X pins F H' s'/\Q F H') X.xe s
def Rt(X:Cx)(ts:qAe)(t:Ov):Prop :=
 ∀(pins:qa1)(s:sh)(σ:St)(H:Hp)(vs:qAf)(us:qa6)(Q:St->Hp->Prop),~~~H s->Vals vs us->t vs σ H Q ->
  ↑(assignInOrder ((ZD ts X.env).map (·.2)) us) (λ_ s'=>∃F H',Inv X pins F H' s'/\Q F H') X.xe s
abbrev K6:=V->V->V->Hp->(Hp->Prop)->Prop
def Qz(X:Cx)(t:K6):Prop :=
 ∀(pins:qa1)(s:sh)(σ:St)(H:Hp)(o i v:V)(ov F u:Value)(Q:Hp->Prop),~~~H s->RelV o ov->RelV i F->RelV v u->t o i v H Q ->
  ↑(setItem ov F u) (λ_ s'=>∃H',~~~H' s'/\Q H') X.xe s
def f9(i:Nat):TG:=λv σ H Q=>Q (σ.set i (some v)) H
variable{x:Str}
theorem i8(G:X.N.4)(hi:X.N[i]?=some x)(F:Loc X.env.scope x)(U:X.fn x=true\/X.env.scope.names.lookup x=some .local:=by first|show .inl rfl|show .inr rfl|assumption):PG X (.Name x pos) (f9 i):=by
 intros v u Q I r h;show wpAny_assign_Name (rL I G hi F r (λs' L=>#[_,H,L,h]) U)
theorem jo(i:Nat)(G:X.N.4)(hi:X.N[i]?=some x:=by rfl)(F:Loc X.env.scope x:=by first|show .inl rfl|show .inr rfl)(I:X.fn x=true\/X.env.scope.names.lookup x=some .local:=by first|show .inl rfl|show .inr rfl|assumption):PG X (.Name x pos) (f9 i):=i8 G hi F I
def Jb:Ov:=λvs σ H Q=>vs=[]/\Q σ H
inductive lB(t:TG)(u:Ov)(vs:qAf)(σ:St)(H:Hp)(Q:St->Hp->Prop):Prop
 |mk (v:_) (r:_) (_:vs=v::r) (_:t v σ H λσ' H'=>u r σ' H' Q):lB t u vs σ H Q
def fe:Rt X [] Jb:=by
 intros vs us Q I r h;let#[e,h]:=h;subst e;cases r;show assignInOrder_nil #[σ,H,I,h]
variable{es:qAe}
theorem bw{t:TG}{u:Ov}(h1:PG X e t)(h2:Rt X es u)
  (hs:(ZD (e::es) X.env).map (·.2)=aby e X.env::(ZD es X.env).map (·.2):=by rfl):Rt X (e::es) (lB t u):=by
 intros vs us Q I r h;let#[v,vr,L,h]:=h;subst L;cases r with
 |cons r rr =>
  rw[hs];show assignInOrder_cons (cc (h1 pins s σ H _ _ _ I r h) λ_ Y Z=>?_);let#[F,H1,U,G]:=Z;show h2 pins Y F H1 _ _ Q U rr G
inductive ED(K:Wa)(n:Nat)(t:Ov)(v:V)(σ:St)(H:Hp)(Q:St->Hp->Prop):Prop
 |mk(a:_)(xs:_)(_:v=.ref a)(_:cX K H a xs)(_:xs.9=n)(_:t xs σ H Q)
theorem gq{k:Nat}{t:Ov}{n:Nat}(hc:X.calm=true)(h:Rt X es t)
  (hn:(ZD es X.env).9=n:=by rfl) (L:(ZD es X.env).findIdx? (·.1)=none:=by rfl):PG X (.Tuple es k pos) (ED X.K n t):=by
 intros v u Q I r F;let#[a,xs,e1,hq,Y,F]:=F;subst e1;cases r;let#[its,G,U,_]:=I.tuple hq;show assign_Tuple_tuple (I.ok.hd hc) U (by simp[hn, <-Y,G.9]) L λh' Z=>?_;let I1: ~~~H { s with heap:=h' }:=I.kept (t':=s.toks) λb o e=>Z b o (WZ (zA6 e)) e;show h pins _ σ H xs _ Q I1 ‹G› F
def Ud(to F:TE)(t:K6):TG:=λv σ H Q=>to σ H λo H1=>F σ H1 λi H2=>t o i v H2 λG=>Q σ G
theorem qB{o i:Ws}{to G:TE}{t:K6}(ho:PE X o to)(hi:PE X i G)(hs:Qz X t)
  (ha:∀v,aby (.Subscript o i pos) X.env v=(do
   let ov <-abc [v] (eval o X.env)
   let F <-abc [v,ov] (eval i X.env)
   acy pos
   abc [v,ov,F] (setItem ov F v)
   release [v,ov,F] []):=by intro _;rfl):PG X (.Subscript o i pos) (Ud to G t):=by
 intros v u Q I r h;rw[ha];show u5 (Yw (cc (ho pins s σ H _ I h) λov s1 ab=>?_));let#[x,H1,Y,Z,q1]:=ab;show u5 (Yw (cc (hi pins s1 σ H1 _ Y q1) λF U aa=>?_));let#[y,H2,I2,r2,q2]:=aa;show u5 (Z4 (u5 (Yw (cc (hs pins U σ H2 x y v ov F u _ I2 Z r2 r q2) λ_ s3 ac=>?_))));let#[L,I3,q3]:=ac;show wpAny_release #[σ,L,I3,q3]
def zc(te:TE)(g:TG):TS:=λD σ H=>te σ H λx H1=>g x σ H1 D.nx
variable{tg:Ws}{g:TG}
theorem gI(he:PE X e te)(G:PG X tg g)(hs:swapsWithSole [tg] e pos.line X.env=pure false:=by rfl)(hw:swappedStores [tg] e X.env=pure none:=by rfl)
  (h1:(ZD [tg] X.env).map (·.2)=[aby tg X.env]:=by rfl):PS X (.Assign [tg] e pos) (zc te g):=by
 intros D I h;show wpAny_Assign_stores (cc (he pins s σ H _ I h) λv Z L=>?_) hs hw;let#[x,H1,U,Y,F]:=L;rw[h1];show cc (G pins Z σ H1 x v _ U Y F) λ_ s2 q=>q
variable{pos':XU}
theorem G1(L:X.N.4)(hi:X.N[i]?=some x)(G:Loc X.env.scope x)(he:PE X e te)(hs:YK e (some (.Name x pos')) pos.line X.env=pure false:=by rfl)(hf:X.fn x=true\/X.env.scope.names.lookup x=some .local:=by first|show .inl rfl|show .inr rfl|assumption) :
  PS X (.Assign [.Name x pos'] e pos) (zc te (f9 i)):=by
 intros D I h;show wpAny_Assign_Name (cc (he pins s σ H _ I h) λv s1 Z=>?_) hs;let#[y,H1,U,Y,F]:=Z;show rL U L hi G Y (λs2 I2=>#[_,H1,I2,F]) hf
theorem di(i:Nat)(G:X.N.4)(L:PE X e te)(hi:X.N[i]?=some x:=by rfl)(F:Loc X.env.scope x:=by first|show .inl rfl|show .inr rfl)(hs:YK e (some (.Name x pos')) pos.line X.env=pure false:=by rfl)(I:X.fn x=true\/X.env.scope.names.lookup x=some .local:=by first|show .inl rfl|show .inr rfl|assumption):PS X (.Assign [.Name x pos'] e pos) (zc te (f9 i)):=G1 G hi F L hs I
def N9(c:TT)(tb:TS):TS:=λD σ H=>∃W:Nat->St->Hp->Prop,(∃m,W m σ H)/\∀m σ H,W m σ H ->
 c σ H λb H1=>if b=true then ∃N:St->Hp->Prop,(∀F H',N F H'->∃m',m'<m/\W m' F H')/\tb { D with nx:=N,ct:=N,bk:=D.nx } σ H1 else D.nx σ H1
variable{body:List Wo}{tb:TS}
theorem ES(hp:ab9 (model X.prog X.w) X.A X.env X.xe)(hc:PT X c tc)(hb:uv X body tb):PS X (.While c body [] pos) (N9 tc tb):=by
 intros D I h;let#[W,#[m0,w0],ac]:=h;show wpAny_While (codeAny_whileLoop (λn s'=>∃aa H',Inv X pins aa H' s'/\W n aa H') ?_ m0 #[σ,H,I,w0]);rintro n s1 ⟨U,H1,I1,w1⟩;show W6 hp (cc (hc pins s1 U H1 _ I1 (ac n U H1 w1)) λb s2 ab=>?_);let#[H2,I2,Y]:=ab;cases b with
 |true =>
  let#[N,hN,Y]:=Y;rw[acW rfl];show W6 hp (cc (hb pins s2 U H2 _ I2 Y) λf s3 L=>?_);cases f with
  |next =>
   let#[G,F,I3,n3]:=L;let#[m',Z,w3]:=hN G F n3;show#[m',Z,G,F,I3,w3]
  |cont =>
   let#[G,F,I3,n3]:=L;let#[m',Z,w3]:=hN G F n3;show#[m',Z,G,F,I3,w3]
  |brk=>show L
  |ret v=>show L
 |false =>
  rw[acV V7];show XE #[U,H2,I2,Y]
structure It where
 go:Nat->Hp->Prop
 OB:Nat->Hp->V->Hp->Prop
 stop:Nat->Hp->Prop
def js(X:Cx)(pins:qa1)(H:Hp)(b:zB0):Prop :=
 H b=none/\b≠X.env.locals/\b∉X.fs/\(b∈X.ex\/X.s₀.heap.objs.3<=b)/\(∀x c,X.env.cells.lookup x=some c->c≠b)/\∀p∈X.pn++pins,p.1≠b
theorem Inv.nQ{b:zB0}(I: ~~~H s)(F:s⁻¹<=b)(G:H' b=none):js X pins H' b:=by
 show#[G,aaO (WS I.lt F),I.QN F,.inr (WK I.sz F),λx c e z=>?_,λp L z=>?_]
 .let#[v,q]:=I.cell x c e;show absurd (WS q.lt (by rw[z];show F)) (X7 _)
 .show absurd (WS (zA6 (I.pin p L).1) (by rw[z];show F)) (X7 _)
structure Turn(P:BY)(w:Oi)(K:Wa)(tg:Ws)(J:It)(fp:qAc)(it:zB0)(tn:Nat->Heap->Prop):Prop where
 mem:it∈fp
 obj:∀i h,tn i h->∀b∈fp,∃o,h.get? b=some o/\∀v,o.data≠.cell v
 keep:∀i h h',tn i h->(∀b∈fp,∀o,h.get? b=some o->h'.get? b=some o)->tn i h'
 item:∀(X:Cx),X.prog=P->X.w=w->X.K=K->X.calm=true->∀(i:Nat)(pins:qa1)(s:sh)(σ:St)(H:Hp)(E:qa2),~~~H s->(∀b∈fp,js X pins H b)->tn i s.heap->J.go i H ->
  wpAny (model P w) X.A (pyNext (.ref it)) (λr s1=>∃u,r=some u /\
   wpAny (model P w) X.A (Zp tg (.ref it) u) (λ_ s2=>∃x H',~~~H' s2/\RelV x u/\J.OB i H x H'/\tn (i+1) s2.heap/\∀b∈fp,H' b=none) E s1) E s
 done:∀(X:Cx),X.prog=P->X.w=w->X.K=K->X.calm=true->∀(i:Nat)(pins:qa1)(s:sh)(σ:St)(H:Hp)(E:qa2),~~~H s->(∀b∈fp,js X pins H b)->tn i s.heap->J.stop i H ->
  wpAny (model P w) X.A (pyNext (.ref it)) (λr s1=>r=none/\~~~H s1) E s
 self:∀(A:Wv)(i:Nat)(s:sh)(Q:qa2)(E:qa2),tn i s.heap->Q (.ref it) s->wpAny (model P w) A (pyIter (.ref it)) Q E s
abbrev TI:=St->Hp->(It->Hp->Prop)->Prop
def VD(X:Cx)(pins:qa1)(σ:St)(tg:Ws)(R:It->Hp->Prop)(I:Value)(F:sh):Prop :=
 ∃(it:zB0)(fp:qAc)(G:Nat->Heap->Prop)(J:It)(H':Hp),I=.ref it/\~~~H' F/\Turn X.prog X.w X.K tg J fp it G/\G 0 F.heap/\(∀b∈fp,js X pins H' b)/\R J H'
def PI(X:Cx)(tg iter:Ws)(wi:TI):Prop :=
 ∀(pins:qa1)(s:sh)(σ:St)(H:Hp)(R:It->Hp->Prop),~~~H s->wi σ H R ->
  ↑(eval iter X.env) (λv F=>↑(pyIter v) (VD X pins σ tg R) X.xe F) X.xe s
variable{o:Obj}
theorem sS{u:Value}{n:String}{vs:qa5}{Q:Unit->sh->Prop}(ho:s.heap.get? it=some o)(G:o.cls=.type n)(hd:o.data=.fields vs)
  (I:["enumerate","zip","dict_itemiterator","dict_reverseitemiterator","odict_iterator","itertools.zip_longest","itertools.pairwise"].contains n=false) (F:Q () s):wpAny M A (Zp tg (.ref it) u) Q E s:=by
 unfold Zp;cases tg<;>first
  |show Wi F
  |(cases u<;>first
    |show Wi F
    |(show u5 (wpAny_load ho ?_)
      rw[G,hd];change wpAny M A (if (["enumerate","zip","dict_itemiterator","dict_reverseitemiterator","odict_iterator","itertools.zip_longest","itertools.pairwise"].contains n&&vs[0]?==some (abz _))=true then _ else _) Q E s;rw[acV (by intro h;rwa[I,ZE]at h)];show Wi F))
def Il(K:Wa)(a:zB0):It :=
 #[λi H=>∃xs x,a9 K H a xs/\xs[i]?=some x,λi H x H'=>H'=H/\∀xs,a9 K H a xs->xs[i]?=some x,λi H=>∃xs,a9 K H a xs/\xs.9<=i]
def Lu(lo:Int)(n:Nat):It:=#[λi _=>i<n,λi H x H'=>H'=H/\x=.int (lo+i),λi _=>n<=i]
theorem CC(a it:zB0):Turn P w K tg (Il K a) [it] it (λi h=>h.IsListIter it a i) where
 mem:=by simp
 obj:=λi h st b F=>by
  let e:b=it:=‹F›;subst e;let#[o,e,_,d]:=st;show#[o,e,λv z=>by rwa[d]at z]
 keep:=λi h h' st k=>st.at λo e=>k it (by simp) o e
 item:=by
  intro X U hw hK hc i pins s σ H E I L st hg;subst U hw hK;let#[xs,x,G,hx]:=hg;let#[its,rv,p,_]:=I.list G;let#[u,hu,ru]:=rv.get hx;let#[f0,f1,_,f3,Y,Z]:=L it (by simp);show wpAny_pyNext_list_item st p.isList (x:=u) ‹hu› λh' aa sb=>?_;let I1: ~~~H { s with heap:=h' }:=I.turned (t':=s.toks) (λb o F e=>(sb.2 b F).trans e) f0 f1 f3 Y Z;let#[o,e,c,d]:=id aa;show#[u,rfl,sS (s:={ s with heap:=h' }) e c d aE #[x,H,I1,ru,#[rfl,λys hy=>by rw[I.qE hy G];show hx],aa,λb F=>(L b F).1]]
 done:=by
  intro X U hw hK hc i pins s σ H E I L st hg;subst U hw hK;let#[xs,G,hx]:=hg;let#[its,rv,p,_]:=I.list G;let#[f0,f1,_,f3,Y,Z]:=L it (by simp);let hl:=rv.9;show wpAny_pyNext_list_end (I.ok.hd hc) st p.isList (by simp;omega) λh' eb=>#[rfl,I.turned (t':=s.toks) eb f0 f1 f3 Y Z]
 self:=λ_ _ _ _ _ st h=>wpAny_pyIter_listiter st h
theorem zC(it:zB0)(lo:Int)(n:Nat):Turn P w K tg (Lu lo n) [it] it (λi h=>aaP h it (lo+(i:Nat)*1) ((n:Int)-(i:Nat)) 1) where
 mem:=by simp
 obj:=λi h st b F=>by
  let e:b=it:=‹F›;subst e;show#[_,st,λv z=>by
   let z':Data.fields _=Data.cell v:=z;cases z']
 keep:=λi h h' st k=>k it (by simp) _ st
 item:=by
  intro X L hw hK hc i pins s σ H E I G st hg;subst L hw hK;let#[f0,f1,_,Z,U,Y]:=G it (by simp);let W:=Walks.range (prog:=X.prog) (w:=X.w) (I.ok.hd hc) it lo 1 n;show W.item i s _ _ hg st λv h' tk hv aa kk=>?_;let#[t,rfl]:=hv;let I1: ~~~H { s with heap:=h',toks:=tk }:=I.turned (λb o F e=>kk b o ‹F› e) f0 f1 Z U Y;show#[0,sS (s:={ s with heap:=h',toks:=tk }) (n := "range_iterator") aa rfl rfl aE #[.int (lo+i),H,I1,#[t,?_],#[1],aa,λb F=>(G b F).1]];rw[Int.mul_one]
 done:=by
  intro X L hw hK hc i pins s σ H E I G st hg;subst L hw hK;let#[f0,f1,_,Z,U,Y]:=G it (by simp);show aaj (I.ok.hd hc) st (by have:n<=i:=hg;omega) λh' eb=>#[rfl,I.turned (t':=s.toks) eb f0 f1 Z U Y]
 self:=λ_ _ _ _ _ st h=>aak st h
def OJ(K:Wa)(tl:TE):TI:=λσ H R=>tl σ H λx H1=>∃a,x=.ref a/\(∃xs,a9 K H1 a xs)/\R (Il K a) H1
theorem cA{l:Ws}{tl:TE}(L:PE X l tl):PI X tg l (OJ X.K tl):=by
 intros R I h;show cc (L pins s σ H _ I h) λv G aa=>?_;let#[x,H1,F,Y,U]:=aa;let#[a,e,#[xs,hq],q]:=U;subst e;cases Y;let#[its,_,p,_]:=F.list hq;show wpAny_pyIter_list p.isList ?_;show#[G⁻¹,[G⁻¹],2,H1,rfl,F.kept (t':=G.toks) λb o e=>zA4 _ e,CC a _,#[_,37,1],λb Z=>?_,q];let e:b=G⁻¹:=‹Z›;subst e;show F.nQ (G0 _) (F.bL.fresh (G0 _))
variable{lo:Int}
theorem xJ{R:It->Hp->Prop}{hi:Int}{t u v:Tok}{tk:Nat}(I: ~~~H s)(h1 : -(2^62)<=lo)(h2:lo<2^62)(G : -(2^62)<=hi)(U:hi<2^62)
  (q:R (Lu lo (hi-lo).5) H):↑(pyIter (.ref s⁻¹)) (VD X pins σ tg R) E { s with heap:=s.heap.push { cls:=.type "range",data:=.fields ([.int lo t,.int hi u,.int 1 v].8) },toks:=tk }:=by
 show abA (acR ..) (small_one h1 h2 G U) ?_;let F: ~~~H { s with heap:=s.heap.push { cls:=.type "range",data:=.fields ([.int lo t,.int hi u,.int 1 v].8) },toks:=tk }:=I.kept λb o e=>zA4 _ e;show#[(s.heap.push { cls:=.type "range",data:=.fields ([.int lo t,.int hi u,.int 1 v].8) }).objs.3,[(s.heap.push { cls:=.type "range",data:=.fields ([.int lo t,.int hi u,.int 1 v].8) }).objs.3],2,H,rfl,
  F.kept (t':=tk) λb o e=>zA4 _ e,zC _ lo (hi-lo).5,?_,λb Y=>?_,q]
 .let L:lo+((0:Nat):Int)*1=lo:=(by simp);let Z:(((hi-lo).5:Nat):Int)-((0:Nat):Int)=Builtin.Range.rangeSize lo hi 1:=(by rw[rangeSize_one];split<;>omega);change aaP _ _ (lo+((0:Nat):Int)*1) ((((hi-lo).5:Nat):Int)-((0:Nat):Int)) 1;rw[L,Z];show zA5 _ rfl
 .let e:b=(s.heap.push { cls:=.type "range",data:=.fields ([.int lo t,.int hi u,.int 1 v].8) }).objs.3:=‹Y›;subst e;show F.nQ (G0 _) (F.bL.fresh (G0 _))
def PM(ta:TA):TI:=λσ H R=>ta σ H λvs H1=>∃j:Int,vs=[.int j] /\ -(2^62)<=j/\j<2^62/\R (Lu 0 j.5) H1
def PB(ta:TA):TI:=λσ H R=>ta σ H λvs H1=>AO λ(i j:Int)=>yd (vs=[.int i,.int j]) ((-(2^62)<=i/\i<2^62 /\ -(2^62)<=j/\j<2^62)) (R (Lu i (j-i).5) H1)
variable{a:Ws}{ta:TA}{p:XU}
theorem dU(G:Gl X "range")(hm:X.mg "range" = none)(ha:PA X [a] ta)(hs:starEach [a] X.env=[(false,eval a X.env)]:=by rfl):PI X tg (.Call (.Name "range" p) [a] [] pos) (PM ta):=by
 intros R I h;show Call_ (kb I G hm boot_range (W9 (cc (ha pos pins s σ H _ I h) λus s1 L=>?_) hs rfl));let#[vs,H1,U,Y,F]:=L;let#[j,e,F,Z,q]:=F;subst e;cases Y with
 |cons r rr =>
  cases rr;let#[t,rfl]:=r;show call_range_1 (xJ U av av F Z ‹q›)
theorem CV(hg:Gl X "range")(hm:X.mg "range" = none)(Z:PA X [a,b] ta)(hs:starEach [a,b] X.env=[(false,eval a X.env),(false,eval b X.env)]:=by rfl)(L:starEach [b] X.env=[(false,eval b X.env)]:=by rfl) :
  PI X tg (.Call (.Name "range" p) [a,b] [] pos) (PB ta):=by
 intros R I h;show Call_ (kb I hg hm boot_range (W9 (cc (Z pos pins s σ H _ I h) λus s1 ⟨vs,H1,U,Y,G⟩=>?_) (by rw[hs,L]) (by rw[L];rfl)));let#[i,j,e,#[G,q2,q3,q4],q]:=G;subst e;cases Y with
 |cons r F =>
  cases F with
  |cons r' F =>
   cases F;let#[t,rfl]:=r;let#[t',rfl]:=r';show call_range_2 (xJ U G q2 q3 q4 q)
def FW(J:It)(g:TG)(tb:TS)(D:Ends)(σ:St)(H1:Hp):Prop:=∃W:Nat->Nat->St->Hp->Prop,(∃m,W 0 m σ H1)/\∀i m σ H,W i m σ H ->
 (J.stop i H/\D.nx σ H)\/(J.go i H/\∃N:St->Hp->Prop,(∀F H',N F H'->∃m',m'<m/\W (i+1) m' F H')/\∀x H',J.OB i H x H'->g x σ H' λG H2=>tb { D with nx:=N,ct:=N,bk:=D.nx } G H2)
def OI(wi:TI)(g:TG)(tb:TS):TS:=λD σ H=>wi σ H λJ H1=>FW J g tb D σ H1
variable{n:Nat}
theorem Di{α:Type}{st G:Nat->Hp->Prop}{I:Nat->α->Hp->(α->Hp->Prop)->Prop}{dn:α->Hp->Prop}{a:α}(Pv:Nat->α->Hp->Prop)(Z:Pv 0 a H)(hd:∀a H,Pv n a H->dn a H)(he:∀a H,Pv n a H->st n H)(hi:∀i a H,i<n->Pv i a H->G i H/\I i a H (Pv (i+1))) :
  ∃W:Nat->Nat->α->Hp->Prop,(∃m,W 0 m a H)/\∀i m a H,W i m a H->(st i H/\dn a H)\/(G i H/\∃N:α->Hp->Prop,(∀L H',N L H'->∃m',m'<m/\W (i+1) m' L H')/\I i a H N):=by
 show#[λi m a H=>m=n-i/\i<=n/\Pv i a H,#[n,rfl,Xr _,Z],?_];rintro i m a H ⟨rfl,Y,p⟩;cases F:i<n
 .show .inr #[(hi i a H F p).1,Pv (i+1),λ_ _ U=>#[_,Nat.sub_succ_lt_self n i F,rfl,F,U],(hi i a H F p).2]
 .cases acr Y (aca F);show .inl #[he a H p,hd a H p]
noncomputable def oB(fp:qAc)(h:Heap):List (zB0×Obj):=fp.filterMap λb=>(h.get? b).map λo=>(b,o)
variable{fp:qAc}
def gM{b:zB0}(F:b∈fp)(e:h.get? b=some o):(b,o)∈oB fp h:=Yd.mpr #[b,F,by rw[e];rfl]
theorem Cn{p:zB0×Obj}(G:p∈oB fp h):p.1∈fp/\h.get? p.1=some p.2:=by
 let#[b,F,e]:=Yd.mp G;cases q:h.get? b with
 |none=>rwa[q]at e
 |some o =>
  rw[q]at e;let I:(b,o)=p:=OR e;subst I;show#[F,q]
theorem Inv.pinned(I: ~~~H s)(Y:∀b∈fp,js X pins H b)(ho:∀b∈fp,∃o,s.heap.get? b=some o/\∀v,o.data≠.cell v):Inv X (pins++oB fp s.heap) σ H s :=
 I.qg λp L=>(Wf.mp L).elim (λz=>I.pin p (By _ z)) λz=>by
  let#[G,e]:=Cn z;let#[U,Z,f2,_]:=Y p.1 G;let#[o,F,d]:=ho p.1 G;rwa[e]at F;show#[e,U,Z,f2,d]
def Inv.gk{pl:qa1}(I:Inv X (pins++pl) σ H s): ~~~H s:=I.qg λp F=>I.pin p (By _ (Wg _ F))
theorem eG{iter:Ws}{wi:TI}(Z:ab9 (model X.prog X.w) X.A X.env X.xe)(hc:X.calm=true)(hi:PI X tg iter wi)(hg:PG X tg g)(L:uv X body tb)
  (hs:∀x,XY iter X.env x=pure x:=by intro _;rfl):PS X (.For tg iter body [] pos) (OI wi g tb):=by
 intros D I h;show wpAny_For (cc (hi pins s σ H _ I h) λv s1 h1=>cc h1 λa2 s2 h2=>?_) hs;let#[it,fp,tn,J,H2,e,I2,T,am,f2,W,#[m0,w0],as]:=h2;subst e;let ac:∀{H':Hp},(∀b∈fp,H' b=none)->∀b∈fp,js X pins H' b:=λhn b L=>#[hn b L,(f2 b L).2];show abf (λn s'=>∃i ab H',Inv X pins ab H' s'/\tn i s'.heap/\(∀b∈fp,H' b=none)/\W i n ab H') ?_ m0 #[(0),σ,H2,I2,am,λb L=>(f2 b L).1,w0];rintro n s3 ⟨i,aa,H3,I3,aj,ak,w3⟩;rcases as i n aa H3 w3 with⟨aP,qn⟩|⟨go,N,hN,step⟩
 .show W6 Z (cc (T.done X rfl rfl rfl hc i pins s3 aa H3 X.xe I3 (ac ak) aj aP) λr s4 aT=>?_);let#[hr,I4]:=aT;subst hr;show XE #[aa,H3,I4,qn]
 .show W6 Z (cc (T.item X rfl rfl rfl hc i pins s3 aa H3 X.xe I3 (ac ak) aj go) λr s4 ap=>?_);let#[u,hr,h4]:=ap;subst hr;show W6 Z (cc h4 λ_ s5 aB=>?_);let#[x,H5,I5,r5,y5,ad,a1]:=aB;let ar:=I5.pinned (ac a1) (T.obj _ _ ad);show W6 Z (cc (hg _ s5 aa H5 x u _ ar r5 (step x H5 y5)) λ_ s6 a0=>?_);let#[aK,H6,I6,q6]:=a0;show W6 Z (cc (L _ s6 aK H6 _ I6 q6) λf s7 Y=>?_);let again:∀{G:St}{U:Hp},Inv X (pins++oB fp s5.heap) G U s7->N G U->∃m,m<n/\∃i ab H',Inv X pins ab H' s7/\tn i s7.heap/\(∀b∈fp,H' b=none)/\W i m ab H':=λ{G U} F n7=>by
   let#[m',hm,w7]:=hN G U n7;show#[m',hm,i+1,G,U,F.gk,T.keep _ _ _ ad λb L o e=>(F.pin (b,o) (By _ (By _ (gM L e)))).1,λb L=>?_,w7];let#[o,e,_]:=T.obj _ _ ad b L;show(F.pin (b,o) (By _ (By _ (gM L e)))).2.1
  cases f with
  |next=>let#[G,U,F,n7]:=Y;show again F n7
  |cont=>let#[G,U,F,n7]:=Y;show again F n7
  |brk=>let#[G,U,F,Y]:=Y;show#[G,U,F.gk,Y]
  |ret v=>let#[x7,G,U,F,r7,Y]:=Y;show#[x7,G,U,F.gk,r7,Y]
theorem gp{a:zB0}(Pv:Nat->St->Hp->Prop)(I:Pv 0 σ H)(F:∀i σ H,i<=xs.9->Pv i σ H->a9 K H a xs)
  (hs:∀i x σ H,xs[i]?=some x->Pv i σ H->g x σ H λL H2=>tb { D with nx:=Pv (i+1),ct:=Pv (i+1),bk:=D.nx } L H2) (hd:∀σ H,Pv xs.9 σ H->D.nx σ H) :
  FW (Il K a) g tb D σ H:=by
 show Di Pv I hd (λσ H p=>#[xs,119]) λi σ H G p=>?_;let q:=F i σ H (Yo G) p;show#[#[xs,xs[i],q,by simp[G]],127];let#[e,y]:=y;subst e;show hs i x σ _ (y xs q) p
theorem gQ(Pv:Nat->St->Hp->Prop)(G:Pv 0 σ H)
  (hs:∀i σ H,i<n->Pv i σ H->g (.int (lo+i)) σ H λI H2=>tb { D with nx:=Pv (i+1),ct:=Pv (i+1),bk:=D.nx } I H2) (hd:∀σ H,Pv n σ H->D.nx σ H) :
  FW (Lu lo n) g tb D σ H:=by
 show Di Pv G hd (λσ H _=>G0 _) λi σ H F p=>?_;show#[F,127];let#[e,y]:=y;subst e y;show hs i σ _ F p
abbrev R2:=V->V->Hp->VK->Prop
def lj(X:Cx)(f:Value->Value->ZC Value)(r:R2):Prop :=
 ∀(pins:qa1)(s:sh)(σ:St)(H:Hp)(x y:V)(v u:Value)(Q:VK),~~~H s->RelV x v->RelV y u->r x y H Q ->
  ↑(f v u) (EP X pins σ Q) X.xe s
def Sg(X:Cx)(f:Value->ZC Value)(r:V->Hp->VK->Prop):Prop :=
 ∀(pins:qa1)(s:sh)(σ:St)(H:Hp)(x:V)(v:Value)(Q:VK),~~~H s->RelV x v->r x H Q ->
  ↑(f v) (EP X pins σ Q) X.xe s
def eI(X:Cx)(f:Value)(r:List V->Hp->VK->Prop):Prop :=
 ∀(pins:qa1)(s:sh)(σ:St)(H:Hp)(xs:qAf)(us:qa6)(Q:VK),~~~H s->Vals xs us->r xs H Q ->
  ↑(call f us) (EP X pins σ Q) X.xe s
def wt(r:R2)(ta tb:TE):TE:=λσ H Q=>ta σ H λx H1=>tb σ H1 λy H2=>r x y H2 Q
def VT(r:V->Hp->VK->Prop)(ta:TE):TE:=λσ H Q=>ta σ H λx H1=>r x H1 Q
inductive rI(C:Int->Int->Prop)(g:Int->Int->V)(x:V)(y:V)(H:Hp)(Q:VK):Prop
 |mk(i:_)(j:_)(_:x=.int i)(_:y=.int j)(_:C i j)(_:Q (g i j) H)
inductive DJ(g:Int->Int->V)(x:V)(y:V)(H:Hp)(Q:VK):Prop
 |mk(i:_)(j:_)(_:x=.int i)(_:y=.int j)(_:Q (g i j) H)
inductive rU(g:Int->V)(x:V)(H:Hp)(Q:VK):Prop
 |mk(i:_)(_:x=.int i)(_:Q (g i) H)
variable{ta tb:TE}{f:Value->Value->ZC Value}
theorem Mi(ha:PE X a ta)(hb:PE X b tb){R:V->V->Hp->Prop}(I: ~~~H s)
  (h:ta σ H λx H1=>tb σ H1 λy H2=>R x y H2) 
  (hf:∀v u F x y H2,~~~H2 F->RelV x v->RelV y u->R x y H2->↑(f v u) Q X.xe F) :
  ↑(eval a X.env) (λv Y=>↑(eval b X.env) (λu G=>↑(f v u) Q X.xe G) X.xe Y) X.xe s:=by
 show cc (ha pins s σ H _ I h) λv s1 aa=>?_;let#[x,H1,Z,r1,L]:=aa;show cc (hb pins s1 σ H1 _ Z L) λu F U=>?_;let#[y,H2,I2,r2,q2]:=U;show hf v u F x y H2 I2 r1 r2 q2
theorem aS{F:Operator}{r:R2}(ho:lj X (Yx F) r)(Y:PE X a ta)(Z:PE X b tb):PE X (.BinOp a F b pos) (wt r ta tb):=by
 intros Q I h;show wpAny_BinOp (Mi Y Z I h λv u G x y H2 I2 L U q=>ho pins G σ H2 x y v u Q I2 L U q)
theorem eY{F:UnaryOp}{r:V->Hp->VK->Prop}(ho:Sg X (unaryOp F) r)(Z:PE X a ta):PE X (.UnaryOp F a pos) (VT r ta):=by
 intros Q I h;show UnaryOp_ (cc (Z pins s σ H _ I h) λv Y aa=>by let#[x,H1,L,U,G]:=aa;show ho pins Y σ H1 x v Q L U G)
variable{g:Int->Int->Int}
theorem UP{C:Int->Int->Prop}
  (rule:∀(i j:Int)(t u:Tok)(s:sh)(Q:qa2)(E:qa2),C i j->Q (.int (g i j) s.toks) { s with toks:=s.toks+1 }->↑(f (.int i t) (.int j u)) Q E s) :
  lj X f (rI C λi j=>.int (g i j)):=by
 intros x y v u Q I F G h;let#[i,j,rfl,rfl,L,q]:=h;let#[t,rfl]:=F;let#[t',rfl]:=G;show rule i j t t' s _ _ L #[.int (g i j),85]
theorem P9(rule:∀(i j:Int)(t u:Tok)(s:sh)(Q:qa2)(E:qa2),Q (.int (g i j) s.toks) { s with toks:=s.toks+1 }->↑(f (.int i t) (.int j u)) Q E s) :
  lj X f (DJ λi j=>.int (g i j)):=by
 intros x y v u Q I F G h;let#[i,j,rfl,rfl,q]:=h;let#[t,rfl]:=F;let#[t',rfl]:=G;show rule i j t t' s _ _ #[.int (g i j),85]
theorem JR{g:Int->Int->Bool}
  (rule:∀(i j:Int)(t u:Tok)(s:sh)(Q:qa2)(E:qa2),Q (.bool (g i j)) s->↑(f (.int i t) (.int j u)) Q E s) :
  lj X f (DJ λi j=>.bl (g i j)):=by
 intros x y v u Q I F G h;let#[i,j,rfl,rfl,q]:=h;let#[t,rfl]:=F;let#[t',rfl]:=G;show rule i j t t' s _ _ #[.bl (g i j),H,I,rfl,q]
def Vf(i j:Int):Prop:=0<j/\j<1073741824
def Lo(i j:Int):Prop:=(-(2^64)<i/\i<2^64)\/(-(2^64)<j/\j<2^64)
variable{i j:Int}
theorem Lo.ok(h:Lo i j):IntMulOk i j:=by
 rcases h with⟨h1,h2⟩|⟨h1,h2⟩
 .show .of_left (intBits_le_64 h1 h2)
 .show .of_right (intBits_le_64 h1 h2)
def b7:lj X (Yx .Add) (DJ λi j=>.int (i+j)):=P9 λ_ _ _ _ _ _ _ q=>add_int q
def fJ:lj X (Yx .Sub) (DJ λi j=>.int (i-j)):=P9 λ_ _ _ _ _ _ _ q=>sub_int q
def gg:lj X (Yx .Mult) (rI Lo λi j=>.int (i*j)):=UP λ_ _ _ _ _ _ _ F q=>mul_int q F.ok
theorem nR:lj X (Yx .FloorDiv) (rI Vf λi j=>.int (i/j)):=UP λi j _ _ _ _ _ F q=>by
 let h1:(0:Int)<j:=F.1;let h2:j<1073741824:=F.2;show floordiv_int av (by rw[Int.fdiv_eq_ediv_of_nonneg i av];show q) (.inl (PyProof.noPylong_small av))
theorem jJ:lj X (Yx .Mod) (rI (λ_ j=>0<j) λi j=>.int (i%j)):=UP λi j _ _ _ _ _ F q=>by
 show mod_int' av (by rw[Int.fmod_eq_emod_of_nonneg i av];show q)
theorem VM{f:Value->ZC Value}{g:Int->Int}
  (rule:∀(i:Int)(t:Tok)(s:sh)(Q:qa2)(E:qa2),Q (.int (g i) s.toks) { s with toks:=s.toks+1 }->↑(f (.int i t)) Q E s) :
  Sg X f (rU λi=>.int (g i)):=by
 intros x v Q I F h;let#[i,rfl,q]:=h;let#[t,rfl]:=F;show rule i t s _ _ #[.int (g i),85]
def cT:Sg X (unaryOp .USub) (rU λi=>.int (-i)):=VM λ_ _ _ _ _ q=>neg_int q
noncomputable def NY:V->V->Bool
 |.bh,.bh=>true|.bh,.int _=>true|.int _,.bh=>true|.bh,.bl _=>true|.bl _,.bh=>true|.bh,.str _=>true|.str _,.bh=>true
 |.int _,.int _=>true|.bl _,.bl _=>true|.str _,.str _=>true|.byt _,.byt _=>true
 |.int _,.str _=>true|.str _,.int _=>true|.bl _,.str _=>true|.str _,.bl _=>true
 |_,_=>false
def K1:R2:=λx y H Q=>NY x y=true/\Q (.bl (decide (x=y))) H
def VB:R2:=λx y H Q=>NY x y=true/\Q (.bl (!decide (x=y))) H
def AY:decide (V.int i=V.int j)=(i==j):=by
 rw[Zq];simp
def Ft{i j:Bool}:decide (V.bl i=V.bl j)=(i==j):=by
 rw[Zq];simp
def An{i j:Str}:decide (V.str i=V.str j)=(i==j):=by
 rw[Zq];simp
def zW{i j:Array UInt8}:decide (V.byt i=V.byt j)=(i.7==j.7):=by
 rw[Zq];cases i;cases j;simp
def b5{Q:VK}{k k':Bool}(I: ~~~H s)(q:Q (.bl k) H)(e:k=k'):EP X pins σ Q (.bool k') s:=by
 subst e;show#[.bl k,H,I,rfl,q]
theorem bX:lj X (W8 .Eq) K1:=by
 intros x y v u Q I G F h;let#[hs,q]:=h;cases x with
 |bh =>
  cases G;cases y with
  |bh=>cases F;show PySem.EqNone.eq_none_none (b5 I q (by simp))
  |bl j=>cases F;show PySem.EqNone.eq_none_bool (b5 I q (by simp))
  |int j=>let#[t',rfl]:=F;show PySem.EqNone.eq_none_int (b5 I q (by simp))
  |str j=>let#[t',rfl]:=F;show PySem.EqNone.eq_none_str (b5 I q (by simp))
  |_=>show absurd (show false=true from hs) V7
 |bl i =>
  cases G;cases y with
  |bh=>cases F;show PySem.EqNone.eq_bool_none (b5 I q (by simp))
  |bl j=>cases F;show eq_bool (b5 I q Ft)
  |str j=>let#[t',rfl]:=F;show PySem.EqMixed.eq_bool_str (b5 I q (by simp))
  |_=>show absurd (show false=true from hs) V7
 |int i =>
  let#[t,rfl]:=G;cases y with
  |bh=>cases F;show PySem.EqNone.eq_int_none (b5 I q (by simp))
  |int j=>let#[t',rfl]:=F;show eq_int (b5 I q AY)
  |str j=>let#[t',rfl]:=F;show PySem.EqMixed.eq_int_str (b5 I q (by simp))
  |_=>show absurd (show false=true from hs) V7
 |str i =>
  let#[t,rfl]:=G;cases y with
  |bh=>cases F;show PySem.EqNone.eq_str_none (b5 I q (by simp))
  |bl j=>cases F;show PySem.EqMixed.eq_str_bool (b5 I q (by simp))
  |int j=>let#[t',rfl]:=F;show PySem.EqMixed.eq_str_int (b5 I q (by simp))
  |str j=>let#[t',rfl]:=F;show eq_str (b5 I q An)
  |_=>show absurd (show false=true from hs) V7
 |byt i =>
  let#[t,rfl]:=G;cases y with
  |byt j=>let#[t',rfl]:=F;show PySem.W.eq_bytes (b5 I q zW)
  |_=>show absurd (show false=true from hs) V7
 |_=>cases y<;>show absurd (show false=true from hs) V7
theorem gy:lj X (W8 .NotEq) VB:=by
 intros x y v u Q I G F h;let#[hs,q]:=h;cases x with
 |bh =>
  cases G;cases y with
  |bh=>cases F;show PySem.EqNone.ne_none_none (b5 I q (by simp))
  |bl j=>cases F;show PySem.EqNone.ne_none_bool (b5 I q (by simp))
  |int j=>let#[t',rfl]:=F;show PySem.EqNone.ne_none_int (b5 I q (by simp))
  |str j=>let#[t',rfl]:=F;show PySem.EqNone.ne_none_str (b5 I q (by simp))
  |_=>show absurd (show false=true from hs) V7
 |bl i =>
  cases G;cases y with
  |bh=>cases F;show PySem.EqNone.ne_bool_none (b5 I q (by simp))
  |bl j=>cases F;show ne_bool (b5 I q (congrArg not Ft))
  |str j=>let#[t',rfl]:=F;show PySem.EqMixed.ne_bool_str (b5 I q (by simp))
  |_=>show absurd (show false=true from hs) V7
 |int i =>
  let#[t,rfl]:=G;cases y with
  |bh=>cases F;show PySem.EqNone.ne_int_none (b5 I q (by simp))
  |int j=>let#[t',rfl]:=F;show ne_int (b5 I q (congrArg not AY))
  |str j=>let#[t',rfl]:=F;show PySem.EqMixed.ne_int_str (b5 I q (by simp))
  |_=>show absurd (show false=true from hs) V7
 |str i =>
  let#[t,rfl]:=G;cases y with
  |bh=>cases F;show PySem.EqNone.ne_str_none (b5 I q (by simp))
  |bl j=>cases F;show PySem.EqMixed.ne_str_bool (b5 I q (by simp))
  |int j=>let#[t',rfl]:=F;show PySem.EqMixed.ne_str_int (b5 I q (by simp))
  |str j=>let#[t',rfl]:=F;show ne_str (b5 I q (congrArg not An))
  |_=>show absurd (show false=true from hs) V7
 |byt i =>
  let#[t,rfl]:=G;cases y with
  |byt j=>let#[t',rfl]:=F;show PySem.W.ne_bytes (b5 I q (congrArg not zW))
  |_=>show absurd (show false=true from hs) V7
 |_=>cases y<;>show absurd (show false=true from hs) V7
def sR:lj X (W8 .Lt) (DJ λi j=>.bl (decide (i<j))):=JR λ_ _ _ _ _ _ _ q=>lt_int q
def AW:lj X (W8 .LtE) (DJ λi j=>.bl (decide (i<=j))):=JR λ_ _ _ _ _ _ _ q=>le_int q
def jg:lj X (W8 .Gt) (DJ λi j=>.bl (decide (j<i))):=JR λ_ _ _ _ _ _ _ q=>gt_int q
def DW:lj X (W8 .GtE) (DJ λi j=>.bl (decide (j<=i))):=JR λ_ _ _ _ _ _ _ q=>ge_int q
theorem Ct:lj X (W8 .In) (λx y H Q=>∃i j,x=.str i/\y=.str j/\Q (.bl (!(Builtin.Str.occurrences j i 0 j.9 1).isEmpty)) H):=by
 intros x y v u Q I F G h;let#[i,j,rfl,rfl,q]:=h;let#[t,rfl]:=F;let#[t',rfl]:=G;show in_str (b5 I q rfl)
theorem iG:lj X (W8 .Is) (λx y H Q=>y=.bh/\Q (.bl (decide (x=.bh))) H):=by
 intros x y v u Q I F G h;let#[rfl,q]:=h;cases G;show is_none_gen (b5 I q ?_);cases x<;>first
  |(cases F;rfl)
  |(let#[t,rfl]:=F;rfl)
theorem jh:lj X (W8 .IsNot) (λx y H Q=>y=.bh/\Q (.bl (!decide (x=.bh))) H):=by
 intros x y v u Q I F G h;let#[rfl,q]:=h;cases G;show isnot_none_gen (b5 I q ?_);cases x<;>first
  |(cases F;rfl)
  |(let#[t,rfl]:=F;rfl)
variable{F:CmpOp}
theorem aJ(b:Ws)(h:F≠.In:=by decide)(h2:F≠.NotIn:=by decide):Zc F b=false:=by
 let G:(F==CmpOp.In)=false:=by cases F<;>first|rfl|show absurd rfl h
 let I:(F==CmpOp.NotIn)=false:=by cases F<;>first|rfl|show absurd rfl h2
 cases b<;>simp[Zc,G,I]
variable{r:R2}
theorem fO(ho:lj X (W8 F) r)(Y:PE X a ta)(Z:PE X b tb)(hm:Zc F b=false):PE X (.Compare a [F] [b] pos) (wt r ta tb):=by
 intros Q I h;show wpAny_Compare1 (Mi Y Z I h λv u G x y H2 I2 L U q=>ho pins G σ H2 x y v u Q I2 L U q) hm
inductive Fh(t:TE)(Q:Bool->Hp->Prop)(x:V)(H':Hp):Prop
 |mk(k:_)(_:x=.bl k)(_:Q k H')
def pb(t:TE):TT:=λσ H Q=>t σ H λx H'=>Fh t Q x H'
theorem aH(ho:lj X (W8 F) r)(ha:PE X a ta)(hb:PE X b tb)(hm:Zc F b=false):PT X (.Compare a [F] [b] pos) (pb (wt r ta tb)):=by
 intros Q I h;show aaE (cc (ha pins s σ H _ I h) λv s1 ⟨x,H1,I1,r1,L⟩=>cc (hb pins s1 σ H1 _ I1 L) λu Z ⟨y,H2,I2,r2,q2⟩ =>
  cc (ho pins Z σ H2 x y v u _ I2 r1 r2 q2) λc s3 ⟨z,U,G,Y,k,e,q3⟩=>?_) hm
 subst e;cases Y;show XB #[U,G,q3]
inductive Aj(r r':R2)(ta tb tc:TE)(σ:St)(Q:VK)(y:V)(z:V)(H3:Hp):Prop
 |mk (k:_) (_:z=.bl k) (_:(if k=true then tc σ H3 λw' H4=>r' y w' H4 Q else Q (.bl false) H3)):Aj r r' ta tb tc σ Q y z H3
def Ds(r G:R2)(ta tb tc:TE):TE:=λσ H Q=>ta σ H λx H1=>tb σ H1 λy H2=>r x y H2 λz F=>Aj r G ta tb tc σ Q y z F
theorem wz{tc:TE}{G:CmpOp}{r':R2}(ho:lj X (W8 G) r)(aa:lj X (W8 F) r')(ha:PE X a ta)(hb:PE X b tb)(hc:PE X c tc)
  (hm:lastMarks [G,F] [b,c]=false:=by with_unfolding_all rfl):PE X (.Compare a [G,F] [b,c] pos) (Ds r r' ta tb tc):=by
 intros Q I h;show Compare_chain (cc (ha pins s σ H _ I h) λv s1 ⟨x,H1,I1,r1,q1⟩=>chain_link (cc (hb pins s1 σ H1 _ I1 q1) λu s2 ⟨y,H2,I2,U,q2⟩ =>
  cc (ho pins s2 σ H2 x y v u _ I2 r1 U q2) λd s3 ⟨z,L,Z,r3,k,e,Y⟩=>?_)) hm
 subst e;cases r3;show XB ?_;cases k with
 |false=>show ite_ff #[.bl false,L,Z,rfl,Y]
 |true=>show ite_tt (chain_last (cc (hc pins s3 σ L _ Z Y) λw' s4 ab=>by let#[z',H4,I4,r4,q4]:=ab;show aa pins s4 σ H4 y z' u w' Q I4 U r4 q4))
def oy:(sizeLine:Nat)<2^63:=by rw[DD];decide
theorem cw:lj X (Yx .Add) (λx y H Q=>∃i j,x=.str i/\y=.str j/\i.9+j.9<=sizeLine/\Q (.str (i++j)) H):=by
 intros x y v u Q I F G h;let#[i,j,rfl,rfl,L,q]:=h;let#[t,rfl]:=F;let#[t',rfl]:=G;show add_str (λt' tk=>#[.str (i++j),85]) L
variable{x:V}
def vals1(r:Vals [x] us):∃u,us=[u]/\RelV x u:=by
 cases r with
 |cons F G=>cases G;show#[0,F]
theorem vals2(r:Vals [x,y] us):∃u F,us=[u,F]/\RelV x u/\RelV y F:=by
 cases r with
 |cons L U =>
  cases U with
  |cons G I=>cases I;show#[_,0,L,G]
theorem Gz:eI X (.builtin "abs") (λxs H Q=>∃i,xs=[.int i]/\Q (.int (if i<0 then -i else i)) H):=by
 intros xs us Q I r h;let#[i,rfl,q]:=h;let#[u,rfl,t,rfl]:=vals1 r;show call_abs_int λu tk=>#[.int (if i<0 then -i else i),85]
theorem Cc(G:X.calm=true):eI X (.builtin "max") (λxs H Q=>∃i j,xs=[.int i,.int j]/\Q (.int (if j>i then j else i)) H):=by
 intros xs us Q I r h;let#[i,j,rfl,q]:=h;let#[u,L,rfl,#[t,rfl],#[t',rfl]]:=vals2 r;show max_two_ints (I.ok.hd G) λh' tk k=>#[_,H,I.kept k,?_,q];cases F:j>i
 .rw[acW F,acW F];show#[0]
 .rw[acV F,acV F];show#[0]
theorem B5(G:X.calm=true):eI X (.builtin "min") (λxs H Q=>∃i j,xs=[.int i,.int j]/\Q (.int (if j<i then j else i)) H):=by
 intros xs us Q I r h;let#[i,j,rfl,q]:=h;let#[u,L,rfl,#[t,rfl],#[t',rfl]]:=vals2 r;show min_two_ints (I.ok.hd G) λh' tk k=>#[_,H,I.kept k,?_,q];cases F:j<i
 .rw[acW F,acW F];show#[0]
 .rw[acV F,acV F];show#[0]
theorem oU:eI X (.type "int") (λxs H Q=>(∃i,xs=[.int i]/\Q (.int i) H)\/∃k,xs=[.bl k]/\Q (.int (if k then 1 else 0)) H):=by
 intros xs us Q I r h;rcases h with⟨i,rfl,q⟩|⟨k,rfl,q⟩
 .let#[u,rfl,t,rfl]:=vals1 r;show call_int_int #[.int i,H,I,#[0],q]
 .let#[u,rfl,F]:=vals1 r;cases F;show call_int_bool #[.int (if k then 1 else 0),85]
structure yp(h:Heap)(x dx C:zB0)(mA:qa3):Prop where
 obj:h.get? x=some (instObj C dx)
 ns:h.Ns1 dx mA
 ne:dx≠x
variable{dx:zB0}{mA:qa3}
theorem CY(n:h.Ns1 dx mA):∃od,h.get? dx=some od/\∀name,lookIn name od=some (mA name):=by
 let#[o,es,ep,ho,hd,hk,_,G]:=n;show#[o,ho,λname=>?_];let e:=G name;unfold nsFind findBy at e;rw[<-Array.find?_toList]at e;unfold lookIn;rw[hd];dsimp only
 set_option tactic.hygienic true in split
 .rename_i y q;rw[q]at e;show congrArg some e
 .rename_i q;rw[q]at e;let a:es.toList.any (·.refKey)=false:=by
   rw[abM];intro y L;let#[z,t,F]:=hk y (Array.mem_toList_iff.mp L);simp[DictEntry.refKey,F]
  let I:¬ es.toList.any (·.refKey)=true:=(by rw[a];show V7);rw[acV I];show congrArg some e
variable{x C:zB0}
theorem yp.look(I:yp h x dx C mA):∃od,PySem.W.InstAt h x (instObj C dx) C (some od)/\∀name,lookIn name od=some (mA name):=
 let ⟨od,ho,F⟩:=CY I.ns
 #[od,#[I.obj,1,ho],F]
variable{prog:BY}{name:Str}{v:Value}
theorem get_map{U:Bool}(X:K.In s.heap)(I:yp s.heap x dx C mA)(L:acB K C name=true)(hh:hasDictIn K C=true)
  (Y:ZF K (.ref C) name=some none) (G:mA name=some v) (Z:handedIn v=true) (h:Q v { s with toks:=s.toks+1 }) :
  wpAny (model prog w) A (getAttr (.ref x) name U) Q E s:=by
 let#[od,J,F]:=I.look;show PySem.W.get_value X J (acm L).1 (PySem.W.findObj_own hh Y rfl (by rw[F,G])) Z h
variable{f:zB0}{pl:ZC Bool}
theorem DL{Q:Value×List Value->sh->Prop}(X:K.In s.heap)(I:yp s.heap x dx C mA)(F:acB K C name=true)
  (Y:ZF K (.ref C) name=some (some (.ref f))) (G:isFn K (.ref f)=true) (U:mA name=none) (h:Q (.ref f,[.ref x]) s) :
  wpAny (model prog w) A (getMethod (.ref x) name pl) Q E s:=by
 let#[od,J,L]:=I.look;show PySem.W.method_fn X J (acm F).1 (acm F).2 Y (beq_iff_eq.mp G) (by change(lookIn name od).map (·.isSome)=some false;rw[L,U];rfl) h
theorem Jd{ns:qAb}{Q:Unit->sh->Prop}(X:K.In s.heap)(I:yp s.heap x dx C mA)
  (hs:ZF K (.ref C) "__setattr__" = some (some (.builtin "object.__setattr__"))) (Z:plainOver K C=true) (U:takerIn K C name=some none) (hh:hasDictIn K C=true)
  (hw:abL mA ns) (hsz:ns.9<=sizeLine)
  (h:∀h',yp h' x dx C (λy=>if y=name then some v else mA y)->Heap.SameBut dx s.heap h'->Q () { s with heap:=h',toks:=s.toks+2 }) :
  wpAny (model prog w) A (setAttr (.ref x) name v) Q E s:=by
 let#[od,J,_]:=I.look;show PySem.W.set_plain X J hs (PySem.W.osa_open (s:={ s with toks:=s.toks+1 }) (r:=none) X J Z U λb=>?_);let#[cd,hc,ab]:=PySem.W.any_some hh;let Y:s.heap.get? x=some #[.ref C,some dx,.plain, ([].8)]:=I.obj;show u5 (Wi (u5 (u5 (wpAny_loadPart Y (u5 (PySem.W.Looks.here (s:={ s with toks:=s.toks+1 }) (PySem.W.looks_clsIn X hc) ?_))))));rw[ab];show Wi (a:=some dx) (u5 (Wi (u5 ?_)));show wpAny_nsSet1 (s:={ s with toks:=s.toks+1 }) I.ns λh' F G=>?_;let#[oD,ad,aj,L,ac,aa]:=F.count (PySem.Within.cons name v hw);show u5 (wpAny_lookBehind L (by rw[ac];show pastItsLine_dict (WK aa (by rw[WG];omega))) ?_);show Wi (h _ #[(G.2 _ (zA3 I.ne)).trans I.obj,F,I.ne] G)
theorem Fq{R:Result->sh->Prop}{vs:qa6}{F:List (Str×Value)}(X:K.In s.heap)(G:makesIn K C=true)
  (hi:ZF K (.ref C) "__init__" = some (some (.ref f))) (I:acb K (.ref f)=some (.type "function"))
  (h:aal (model prog w) (A.under (.builtin "type.__call__" #[.ref C::vs,F])) (.call (.ref f) #[.ref (s⁻¹+1)::vs,F]) (PySem.W.InitBack (s⁻¹+1) R)
   { s with heap:=(s.heap.push emptyDict).push (instObj C s⁻¹) }) :
  aal (model prog w) A (.call (.ref C) #[vs,F]) R s:=by
 let#[L,g,d,t,os]:=s;show PySem.W.make_core (PySem.W.makes_of X G) (PySem.W.looks_findIn X hi) (λself=>PySem.W.bind_fn X self I) (.inl rfl) h
noncomputable def bP(f:Str)(v:V):List (Str×V)->List (Str×V)
 | []=>[(f,v)]
 |(g,x)::r=>if g=f then(g,v)::r else(g,x)::bP f v r
theorem aY(f g:Str)(v:V):∀fs:List (Str×V),(bP f v fs).lookup g=if g=f then some v else fs.lookup g
 | []=>by
  change YL g [(f,v)]=_;cases h:g=f
  .let F:(g==f)=true:=beq_iff_eq.mpr h;simp only[YL,F,acW h]
  .let F:(g==f)=false:=beq_eq_false_iff_ne.mpr h;simp only[YL,F,acV h]
 |(k,x)::r=>by
  let G:=aY f g v r;rw[show bP f v ((k,x)::r)=(if k=f then(k,v)::r else(k,x)::bP f v r)from rfl];cases hk:k=f
  .rw[acW hk];cases h:g=k
   .let F:(g==k)=true:=beq_iff_eq.mpr h;simp only[YL,F,acW (h.trans hk)]
   .let F:(g==k)=false:=beq_eq_false_iff_ne.mpr h;simp only[YL,F,acV (λe:g=f=>h (e.trans hk.6))]
  .rw[acV hk];cases h:g=k
   .let F:(g==k)=true:=beq_iff_eq.mpr h;simp only[YL,F,acV (λe:g=f=>hk (h.symm.trans e))]
   .let F:(g==k)=false:=beq_eq_false_iff_ne.mpr h;simp only[YL,F];show G
theorem oS(f:Str)(v:V):∀fs:List (Str×V),f∈(bP f v fs).map (·.1)/\∀g,g∈fs.map (·.1)->g∈(bP f v fs).map (·.1)
 | []=>#[by simp[bP],λg h=>by simp at h]
 |(k,x)::r=>by
  let#[G,F]:=oS f v r;rw[show bP f v ((k,x)::r)=(if k=f then(k,v)::r else(k,x)::bP f v r)from rfl];cases hk:k=f
  .rw[acW hk];subst hk;show#[by simp,λg h=>by simpa using h]
  .rw[acV hk];show#[?_,λg h=>?_]
   .rw[Wy];show Wm _ G
   .rw[Wy]at h ⊢;rcases We.mp h with e|e
    .show We.mpr (.inl e)
    .show Wm _ (F g e)
theorem pf(f:Str)(v:V):∀fs:List (Str×V),(bP f v fs).9<=fs.9+1
 | []=>by simp[bP]
 |(k,x)::r=>by
  let F:=pf f v r;rw[show bP f v ((k,x)::r)=(if k=f then(k,v)::r else(k,x)::bP f v r)from rfl];cases hk:k=f
  .rw[acW hk,WG,WG];omega
  .rw[acV hk,WG,WG];omega
variable{v:V}{o:qa7}
theorem jK.some_of(r:jK (some v) o):∃u,o=some u/\RelV v u:=by
 cases o with
 |none=>show(show False from r).elim
 |some u=>show#[u,rfl,r]
def jK.none_of(r:jK none o):o=none:=by
 cases o with
 |none=>rfl
 |some u=>show(show False from r).elim
variable{u:Value}
theorem BF(r:RelV v u):handedIn u=true:=by
 cases v with
 |bh=>cases(show u=Value.none from r);rfl
 |bl b=>cases(show u=Value.bool b from r);rfl
 |int i=>let#[t,e]:=(show ∃t,u=Value.int i t from r);cases e;rfl
 |str x=>let#[t,e]:=(show ∃t,u=Value.str x t from r);cases e;rfl
 |byt b=>let#[t,e]:=(show ∃t,u=Value.bytes b t from r);cases e;rfl
 |flt b=>let#[t,e]:=(show ∃t,u=Value.float b t from r);cases e;rfl
 |ref a=>cases(show u=Value.ref a from r);rfl
 |ty n=>cases(show u=Value.type n from r);rfl
section
variable{P:BY}{w:Oi}{H H':Hp}{h h':Heap}{a C dx:zB0}{fs fs':List (Str×V)}
theorem qq(F:lF P w H h)(e:H a=some (.ins C dx fs)):∃mA,yp h a dx C mA/\(∀f,jK (fs.lookup f) (mA f))/\abL mA (fs.map (·.1))/\fs.9<=1000/\H dx=some (.own a):=by
 let#[d,z,ne,G,mA,n,r,q]:=(show cp P w H h a (.ins C dx fs)from F a _ e);show#[mA,#[G,n,ne],r,q,z,d]
end
structure qa(K:Wa)(C:zB0):Prop where
 pg:acB K C Str.empty=true
 hd:hasDictIn K C=true
 po:plainOver K C=true
 sa:ZF K (.ref C) "__setattr__" = some (some (.builtin "object.__setattr__"))
def qa.get(c:qa K C)(f:Str):acB K C f=true:=c.pg
def dj(K:Wa)(C:zB0)(f:Str):Prop:=ZF K (.ref C) f=some none
variable{f:Str}
def dj.Qu(n:dj K C f):takerIn K C f=some none:=by
 unfold takerIn;rw[show ZF K (.ref C) f=some none from n];rfl
structure Meth(K:Wa)(C:zB0)(m:Str)(f:zB0):Prop where
 at_:ZF K (.ref C) m=some (some (.ref f))
 fn:isFn K (.ref f)=true
 kp:Xc K (.ref f)=true
section
variable{X:Cx}{pins:qa1}{σ:St}{H:Hp}{s:sh}{a C dx:zB0}{fs:List (Str×V)}{f:Str}{v:V}{A:Wv}{E:qa2}
theorem qV{b:Bool}(I: ~~~H s)(e:H a=some (.ins C dx fs))(c:qa X.K C)(n:dj X.K C f)(l:fs.lookup f=some v)
  (h:∀u s',~~~H s'->RelV v u->Q u s'):wpAny (model X.prog X.w) A (getAttr (.ref a) f b) Q E s:=by
 let#[mA,O,r,_,_,_]:=qq I.bL e;let#[u,F,ru]:=jK.some_of (v:=v) (o:=mA f) (by rw[<-l];show r f);show get_map I.lS O (c.get f) c.hd n F (BF ru) (h u _ (I.tok _) ru)
theorem jR{m:Str}{g:zB0}{Q:Value×List Value->sh->Prop}(I: ~~~H s)(e:H a=some (.ins C dx fs))(c:qa X.K C)(k:Meth X.K C m g)(l:fs.lookup m=none)
  (h:Q (.ref g,[.ref a]) s):wpAny (model X.prog X.w) A (getMethod (.ref a) m pl) Q E s:=by
 let#[mA,O,r,_,_,_]:=qq I.bL e;let F:mA m=none:=jK.none_of (by rw[<-l];show r m);show DL I.lS O (c.get m) k.at_ k.fn F h
theorem rl{Q:Unit->sh->Prop}(I: ~~~H s)(e:H a=some (.ins C dx fs))(c:qa X.K C)(n:dj X.K C f)(hl:fs.9<1000)(L:RelV y u)
  (h:∀s',~~~(upd H a (.ins C dx (bP f y fs))) s'->Q () s'):wpAny (model X.prog X.w) A (setAttr (.ref a) f u) Q E s:=by
 let#[mA,O,r,wi,_,ho]:=qq I.bL e;let hz:(fs.map (·.1)).9<=sizeLine:=(by rw[dM,DD];omega);show Jd I.lS O c.sa c.po n.Qu c.hd wi hz λh' F Y=>h _ ?_;let hd:∃o,h'.get? dx=some o:=let ⟨o,_,_,U,_⟩:=F.ns;#[o,U];show I.write (x:=a) (e:=dx) (by rw[e];show Xv) (.inr ho) (λb q Z z=>(Y.2 b Z).trans z) hd ?_;show#[by rw[ay O.ne];show ho,?_,O.ne,F.obj,_,F.ns,λg=>?_,λg G=>?_]
 .have:=pf f y fs;omega
 .change jK ((bP f y fs).lookup g) (if g=f then some u else mA g);rw[aY];cases q:g=f
  .rw[acW q,acW q];show L
  .rw[acV q,acV q];show r g
 .cases q:g=f
  .rw[q];show(oS f y fs).1
  .show(oS f y fs).2 g (wi g λz=>G ?_);change(if g=f then some u else mA g)=none;rw[acV q];show z
theorem Inv.made(I: ~~~H s): ~~~(upd (upd H s⁻¹ (.own (s⁻¹+1))) (s⁻¹+1) (.ins C s⁻¹ []))
  { s with heap:=(s.heap.push emptyDict).push (instObj C s⁻¹) }:=by
 let F:(s.heap.push emptyDict).get? s⁻¹=some emptyDict:=zA5 s.heap rfl;let Y:((s.heap.push emptyDict).push (instObj C s⁻¹)).get? (s⁻¹+1)=some (instObj C s⁻¹):=by
  have:=zA5 (s.heap.push emptyDict) (o:=instObj C s⁻¹) rfl
  (rw[zA9]at this;assumption)
 let e3:(s.heap.push emptyDict).Ns s⁻¹ (λ_=>none):=#[emptyDict, ([].8),_,F,rfl,(λe L=>absurd L (by simp)),λ_=>rfl];let G:=I.laid (a:=s⁻¹) (o:=.own (s⁻¹+1)) (h':=s.heap.push emptyDict) (t':=s.toks) (λb u q=>zA4 _ q) (G0 _) #[_,F];show G.laid (a:=s⁻¹+1) (o:=.ins C s⁻¹ []) (t':=s.toks) (λb u q=>zA4 _ q) (Nat.le_of_eq (zA9 _ _)) ?_;let ne:s⁻¹≠s⁻¹+1:=WZ (Zy _);show#[by rw[ay ne,ag],Xr _,ne,Y,λ_=>none,(Heap.Ns1.of_empty e3).at λo q=>zA4 _ q,λ_=>Xv,λy U=>absurd rfl U]
theorem JW{env:Env}(F:Xx e f env (eval e env)=eval e env)
  (h:wpAny (model prog w) A (eval e env) (λo G=>wpAny (model prog w) A (getAttr o f true) Q E G) E s):wpAny (model prog w) A (eval (.Attribute e f pos) env) Q E s :=
 Attribute_any_ h (by rw[arm_eval_Attribute,F])
end
inductive KH(K:Wa)(ta:TE)(f:Str)(Q:VK)(x:V)(H1:Hp):Prop
 |mk(a:_)(C:_)(dx:_)(fs:_)(v:_)(_:x=.ref a)(_:H1 a=some (.ins C dx fs))(_:qa K C)(_:dj K C f)(_:fs.lookup f=some v)(_:Q v H1)
def Sh(K:Wa)(ta:TE)(f:Str):TE:=λσ H Q=>ta σ H λx H1=>KH K ta f Q x H1
def R8(K:Wa)(ta tv:TE)(f:Str):TS:=λD σ H=>tv σ H λy H1=>ta σ H1 λx H2=>T8 λa C dx fs=>Rg (x=.ref a) (H2 a=some (.ins C dx fs)) (qa K C) (dj K C f) (fs.9<1000) (D.nx σ (upd H2 a (.ins C dx (bP f y fs))))
def Nr(X:Cx)(F:Operator)(rd:V->V->Hp->VK->Prop):Prop :=
 ∀(pins:qa1)(s:sh)(σ:St)(H:Hp)(x y:V)(u v:Value)(Q:VK),~~~H s->RelV x u->RelV y v->rd x y H Q->↑(inplaceOp F u v) (EP X pins σ Q) X.xe s
def Hw(K:Wa)(ta tv:TE)(rd:V->V->Hp->VK->Prop)(f:Str):TS:=λD σ H=>ta σ H λx H1=>Vt λa C dx fs v=>Rg (x=.ref a) (H1 a=some (.ins C dx fs)) (qa K C) (dj K C f) (fs.lookup f=some v) (tv σ H1 λy H2=>rd v y H2 λz F=>∃G fs',F a=some (.ins C G fs')/\fs'.9<1000/\D.nx σ (upd F a (.ins C G (bP f z fs'))))
theorem aW(Z:PE X e ta)(U:Xx e f X.env (eval e X.env)=eval e X.env):PE X (.Attribute e f pos) (Sh X.K ta f):=by
 intros Q I h;show JW U (cc (Z pins s σ H _ I h) λu s1 F=>?_);let#[x,H1,L,G,a,C,dx,fs,v,ex,ea,c,n,l,q]:=F;subst ex;obtain rfl:u=Value.ref a:=G;show qV L ea c n l λu' s2 Y ru=>#[v,H1,Y,ru,q]
variable{o value:Ws}{tv:TE}
theorem fI(Y:PE X o ta)(F:PE X value tv)(hs:YK value (some (.Attribute o f pos')) pos.line X.env=pure false):PS X (.Assign [.Attribute o f pos'] value pos) (R8 X.K ta tv f):=by
 intros D I h;show plainObj_wpAny_Assign_Attribute (cc (F pins s σ H _ I h) λu s1 Z=>?_) hs;let#[y,H1,U,L,q]:=Z;show cc (Y pins s1 σ H1 _ U q) λov s2 G=>?_;let#[x,H2,I2,rx,a,C,dx,fs,ex,ea,c,n,l,q2]:=G;subst ex;obtain rfl:ov=Value.ref a:=rx;show rl I2 ea c n l L λs3 I3=>#[σ,_,I3,q2]
theorem tu{tpos:XU}{F:Operator}{rd:V->V->Hp->VK->Prop}(ha:PE X o ta)(G:PE X value tv)(ad:Nr X F rd):PS X (.AugAssign (.Attribute o f tpos) F value pos) (Hw X.K ta tv rd f):=by
 intros D I h;show wpAny_AugAssign_AttributeAny (cc (ha pins s σ H _ I h) λov s1 aj=>?_);let#[x,H1,I1,rx,a,C,dx,fs,v,ex,ea,c,n,l,q]:=aj;subst ex;obtain rfl:ov=Value.ref a:=rx;show qV I1 ea c n l λu U I2 ru=>cc (G pins U σ H1 _ I2 q) λw3 Y ab=>?_;let#[y,H2,I3,Z,q3]:=ab;show cc (ad pins Y σ H2 v y u w3 _ I3 ru Z q3) λw4 s4 aa=>?_;let#[z,H3,I4,L,ak,fs',ac,l',q4]:=aa;show rl I4 ac c n l' L λs5 I5=>#[σ,_,I5,q4]
inductive QG(x:V)(y:V)(H:Hp)(Q:VK):Prop
 |mk(i:_)(j:_)(_:x=.int i)(_:y=.int j)(_:Q (.int (i+j)) H)
inductive Ph(x:V)(y:V)(H:Hp)(Q:VK):Prop
 |mk(i:_)(j:_)(_:x=.int i)(_:y=.int j)(_:Q (.int (i-j)) H)
theorem Om:Nr X .Add QG:=by
 rintro pins s σ H x y u v Q I F G ⟨i,j,rfl,rfl,q⟩;let#[t,rfl]:=(show ∃t,u=Value.int i t from F);let#[t',rfl]:=(show ∃t',v=Value.int j t' from G);show iadd_int #[.int (i+j),85]
theorem K7:Nr X .Sub Ph:=by
 rintro pins s σ H x y u v Q I F G ⟨i,j,rfl,rfl,q⟩;let#[t,rfl]:=(show ∃t,u=Value.int i t from F);let#[t',rfl]:=(show ∃t',v=Value.int j t' from G);show isub_int #[.int (i-j),85]
inductive lY(K:Wa)(H:Hp):V->Value->Prop where
 |bh:lY K H .bh (.type "NoneType")
 |bl(x:Bool):lY K H (.bl x) (.type "bool")
 |int(i:Int):lY K H (.int i) (.type "int")
 |str(x:Str):lY K H (.str x) (.type "str")
 |flt(x:UInt64):lY K H (.flt x) (.type "float")
 |lst {a:zB0}{xs:qAf}(e:H a∣xs):lY K H (.ref a) (.type "list")
 |frz {a:zB0}{o:Obj}{xs:qAf}(e:H a=some (.frz o (.lst xs))):lY K H (.ref a) (.type "list")
 |tup {a:zB0}{xs:qAf}(e:H a|||xs):lY K H (.ref a) (.type "tuple")
 |dK {a:zB0}{kvs:qAg}(e:H a^^^kvs):lY K H (.ref a) (.type "dict")
 |dT {a:zB0}{kvs:List (List Key×V)}(e:H a=some (.dT kvs)):lY K H (.ref a) (.type "dict")
 |ins {a C dx:zB0}{fs:List (Str×V)}(e:H a=some (.ins C dx fs)) (cl:qa K C) (ha:ZF K (.ref C) "__class__" = some (some (.builtin "object.__class__")))
   (hn:ab8 K (.builtin "object.__class__") "__get__" = some (some (.builtin "getset_descriptor.__get__"))) (htk:PySem.W.takesIn K (.builtin "object.__class__")=some true)
   (hm:PySem.W.mroIn K C (.type "object")=some true):lY K H (.ref a) (.ref C)
theorem BE{c:Value}{b:Bool}{x:V}{t:Value}(I: ~~~H s)(F:RelV x u)(ty:lY X.K H x t)(e:kitOne X.K t c=some b)(h:∀tk,Q (.bool b) { s with toks:=tk }) :
  wpAny (model X.prog X.w) A (call (.builtin "isinstance") [u,c]) Q E s:=by
 cases ty with
 |bh=>cases(show u=Value.none from F);show Zd PySem.W.kitx_none I.lS Xv e (λz=>nomatch z) h
 |bl y=>cases(show u=Value.bool y from F);show Zd PySem.W.kitx_bool I.lS Xv e (λz=>nomatch z) h
 |int i=>let#[t,q]:=(show ∃t,u=Value.int i t from F);cases q;show Zd PySem.W.kitx_int I.lS Xv e (λz=>nomatch z) h
 |str y=>let#[t,q]:=(show ∃t,u=Value.str y t from F);cases q;show Zd PySem.W.kitx_str I.lS Xv e (λz=>nomatch z) h
 |flt y=>let#[t,q]:=(show ∃t,u=Value.float y t from F);cases q;show Zd PySem.W.kitx_float I.lS Xv e (λz=>nomatch z) h
 | @lst a xs G =>
  cases(show u=Value.ref a from F);let#[_,_,n,_,h1]:=(show cp X.prog X.w H s.heap a (.lst xs)from I.bL a _ G);show Zd kitx_list I.lS #[_,h1,rfl] e (λz=>nomatch z) h
 | @frz a ob xs G =>
  cases(show u=Value.ref a from F);let#[_,_,_,n,_,h1]:=(show cp X.prog X.w H s.heap a (.frz ob (.lst xs))from I.bL a _ G);show Zd kitx_list I.lS #[_,h1,rfl] e (λz=>nomatch z) h
 | @tup a xs G =>
  cases(show u=Value.ref a from F);let#[_,_,_,p]:=(show cp X.prog X.w H s.heap a (.tup xs)from I.bL a _ G);let#[o,h1,h2,_]:=p;show Zd PySem.W.kitx_tuple I.lS #[o,h1,h2] e (λz=>nomatch z) h
 | @dK a kvs G =>
  cases(show u=Value.ref a from F);let#[_,_,vs,_,p]:=(show cp X.prog X.w H s.heap a (.dK kvs)from I.bL a _ G);let#[o,es,ep,h1,h2,_]:=p;show Zd kitx_dict I.lS #[o,h1,h2.1] e (λz=>nomatch z) h
 | @dT a kvs G =>
  cases(show u=Value.ref a from F);let#[_,_,xs,_,o,es,ep,h1,h2,_]:=(show cp X.prog X.w H s.heap a (.dT kvs)from I.bL a _ G);show Zd kitx_dict I.lS #[o,h1,h2.1] e (λz=>nomatch z) h
 | @ins a C dx fs G cl U L Z Y =>
  cases(show u=Value.ref a from F);let#[mA,O,_]:=qq I.bL G;let#[od,J,_]:=O.look;show Zd (PySem.W.kitx_own (cl.get _) cl.hd U L Z Y) I.lS J e (λz=>nomatch z) h
structure dX(k:Nat)(A:Wv):Prop where
 hd:A.handled=none
 dp:A.depth+3*k+5<recursionLimit
 un:A.units+16*k+200<Yy
variable{j k:Nat}
def dX.mono(r:dX k A)(h:j<=k):dX j A:=#[r.hd,by have:=r.dp;omega,by have:=r.un;omega]
theorem dX.deeper(r:dX (k+1) A)(env:Env):dX k (A.deeper env):=
 #[r.hd,by have:=r.dp;change A.depth+1+3*k+5<_;omega,by have:=r.un;change A.units+3+16*k+200<_;omega]
variable{F:List (Str×Value)}
theorem zm:(A.under (.builtin "type.__call__" #[.ref C::us,F])).depth=A.depth+1:=by
 first|rfl|simp[abN,Code.weight,Code.isCreation,Code.isGuard,Code.isCaller,Code.frames,abO,guardIds]
theorem y4:(A.under (.builtin "type.__call__" #[.ref C::us,F])).units=A.units+1:=by
 first|rfl|simp[abN,Code.cUnits,Code.frames,abO]
theorem dX.make(r:dX (k+1) A)(C:zB0)(us:qa6)(F:List (Str×Value)):dX k (A.under (.builtin "type.__call__" #[.ref C::us,F])):=
 #[r.hd,by have:=r.dp;rw[zm];omega,by have:=r.un;rw[y4];omega]
theorem dX.depth(r:dX k A):A.depth<recursionLimit:=by have:=r.dp;omega
theorem dX.units(r:dX k A):A.units+64<Yy:=by have:=r.un;omega
def dX.rR(r:dX k A):A.units<Yy:=by have:=r.un;omega
def xI:TA:=λ_ H Q=>Q [] H
def tq(ta:TE)(tr:TA):TA:=λσ H Q=>ta σ H λx H1=>tr σ H1 λxs H2=>Q (x::xs) H2
def af:PA X [] xI:=λ_ _ _ _ H Q I h=>Calls.spliced_nil #[[],H,I,.nil,h]
variable{t:TA}
theorem ae(ha:PE X e te)(hr:PA X es t)(hs:qAh X e es:=by rfl):PA X (e::es) (tq te t):=by
 intro pos pins s σ H Q I h;rw[hs];change wpAny _ _ (spliced ((false,eval e X.env)::backTo pos (starEach es X.env))) _ _ s;show Calls.spliced_cons (cc (ha pins s σ H _ I h) λu Z aa=>?_);let#[x,H1,L,U,F]:=aa;show cc (hr pos pins Z σ H1 _ L F) λus s2 G=>by let#[xs,H2,I2,r2,Y]:=G;show#[x::xs,H2,I2,.cons U r2,Y]
def RD(t:TA):TE:=λσ H Q=>t σ H λxs H1=>xs.9<=sizeLine/\∀p,H1 p=none->Q (.ref p) (upd H1 p (.tup xs))
def Nu(t:TA):TE:=λσ H Q=>t σ H λxs H1=>xs.9<=sizeLine/\∀p,H1 p=none->Q (.ref p) (upd H1 p (.lst xs))
theorem dS{x1}(h:PA X es t):PE X (.Tuple es x1 pos) (RD t):=by
 intros Q I U;show abg (cc (h pos pins s σ H _ I U) λus F L=>?_);let#[xs,H1,G,r,z,q]:=L;show#[by rw[<-r.9];show z,?_];let Y:H1 F⁻¹=none:=G.bL.fresh (G0 _);show#[.ref F⁻¹,upd H1 F⁻¹ (.tup xs),99,q _ Y];show#[z,us,r,#[_,37,rfl,0]]
theorem bG(h:PA X es t):PE X (.List es pos) (Nu t):=by
 intros Q I U;show wpAny_List_spliced (cc (h pos pins s σ H _ I U) λus F L=>?_);let#[xs,H1,G,r,z,q]:=L;show#[by rw[<-r.9];show z,?_];let Y:H1 F⁻¹=none:=G.bL.fresh (G0 _);show#[.ref F⁻¹,upd H1 F⁻¹ (.lst xs),99,q _ Y];show#[z,us,(0),r,37]
abbrev Sp:=List V->Hp->VK->XK->Prop
abbrev p7:=List Env->Hp->sh->XK->Value->sh->Prop
structure zg(P:BY)(w:Oi)(K:Wa)(mg:qa3)(base:Heap)(A:Wv)(outer:List Env)(s:sh)(H:Hp):Prop where
 frames:A.frames=some outer
 mod:Mod K mg base
 bs:∀b o,base.get? b=some o->s.heap.get? b=some o/\H b=none
 GZ:base.objs.3<=s⁻¹
 l9:s.heap.FunFrames base outer
 Jp:∀b∈sL outer,H b=none
 bL:lF P w H s.heap
 bare:Zx s.gens
def CE(outer:List Env)(P:BY)(w:Oi)(H:Hp)(s:sh)(Q:VK)(u:Value)(s':sh):Prop :=
 ∃v H',s'.os=s.os/\Zx s'.gens/\Un (sL outer) [] H H' s.heap s'.heap/\lF P w H' s'.heap/\RelV v u/\Q v H'
def CR(CX:p7)(outer:List Env)(P:BY)(w:Oi)(H:Hp)(s:sh)(Q:VK)(E:XK)(r:Result)(s':sh):Prop :=
 match r with
 |.ok (.ret u)=>CE outer P w H s Q u s'
 |.ok _=>False
 |.error e=>CX outer H s E e s'
structure aU(P:BY)(w:Oi)(K:Wa)(mg:qa3)(base:Heap)(CX:p7)(k:Nat)(f:zB0)(fd:DO)(ps:qAb)(sp:Sp):Prop where
 len:∀vs H Q E,sp vs H Q E->vs.9=ps.9
 run:∀(A:Wv)(outer:List Env)(s:sh)(H:Hp)(args:Args)(us:qa6)(vs:qAf)(Q:VK)(E:XK),dX k A->zg P w K mg base A outer s H->abP s fd args (ps.zip us)->Vals vs us->sp vs H Q E ->
  aal (model P w) A (.call (.ref f) args) (CR CX outer P w H s Q E) s
variable{mg:qa3}{base:Heap}{CX:p7}{f:zB0}{fd:DO}{ps:qAb}{sp:Sp}
theorem aU.mono(F:aU P w K mg base CX j f fd ps sp)(h:j<=k) :
  aU P w K mg base CX k f fd ps sp:=#[F.len,λA outer s H args us vs Q E G=>F.run A outer s H args us vs Q E (G.mono h)]
theorem aU.imp{G:Sp}(F:aU P w K mg base CX k f fd ps sp)
  (h:∀vs H Q E,G vs H Q E->sp vs H Q E):aU P w K mg base CX k f fd ps G :=
 #[λvs H Q E q=>F.len vs H Q E (h _ _ _ _ q),λA outer s H args us vs Q E U Y L I hs=>F.run A outer s H args us vs Q E U Y L I (h _ _ _ _ hs)]
variable{outer:List Env}
theorem zg.make(e:zg P w K mg base A outer s H)(C:zB0)(us:qa6)(F:List (Str×Value)) :
  zg P w K mg base (A.under (.builtin "type.__call__" #[.ref C::us,F])) outer s H:=#[by first|show e.frames|(simpa[abN,Code.envs,abO,pushEnvs]using e.frames),e.mod,e.bs,e.GZ,e.l9,e.Jp,e.bL,e.bare]
theorem Inv.QX(I: ~~~H s):zg X.prog X.w X.K X.mg X.base X.A X.stack s H :=
 #[I.ok.frames,I.ok.mod,I.bs,WK I.ok.GZ I.sz,I.stack,I.vb,I.bL,I.bare]
variable{Q:VK}
theorem Inv.after(I: ~~~H s)(h:CE X.stack X.prog X.w H s Q u s'):EP X pins σ Q u s':=by
 let#[v,H',os,bare,un,L,r,q]:=h;let#[F,g,d,t,G]:=s';obtain rfl:G=s.os:=os;show#[v,H',I.call (h':=F) (g':=g) (d':=d) (t':=t) (ch:=[]) un L bare (λb z=>absurd z (by simp)),r,q]
def Bd(sp:Sp)(dvs:qAf)(E:XK)(t:TA):TE:=λσ H Q=>t σ H λvs H1=>sp (vs++dvs) H1 Q E
inductive Gq(C:zB0)(m:Str)(sp:Sp)(dvs:qAf)(E:XK)(ta:TE)(t:TA)(σ:St)(Q:VK)(x:V)(H1:Hp):Prop
 |mk (a:_) (dx:_) (fs:_) (_:x=.ref a) (_:H1 a=some (.ins C dx fs)) (_:fs.lookup m=none) (_:t σ H1 λvs H2=>sp (x::(vs++dvs)) H2 Q E):Gq C m sp dvs E ta t σ Q x H1
def Br(C:zB0)(m:Str)(sp:Sp)(dvs:qAf)(E:XK)(ta:TE)(t:TA):TE:=λσ H Q=>ta σ H λx H1=>Gq C m sp dvs E ta t σ Q x H1
def Qd(C:zB0)(sp:Sp)(dvs:qAf)(E:XK)(t:TA):TE:=λσ H Q=>t σ H λvs H1=>∀x dx,H1 x=none->H1 dx=none->dx≠x ->
 sp (.ref x::(vs++dvs)) (upd (upd H1 dx (.own x)) x (.ins C dx [])) (λv H2=>v=.bh/\Q (.ref x) H2) E
def Binds(K:Wa)(fd:DO)(ps:qAb)(ds:qa6):Prop :=
 ∀(s:sh)(us:qa6),K.In s.heap->(us++ds).9=ps.9->abP s fd #[us,[]] (ps.zip (us++ds))
theorem Binds.all(h:∀us:List Value,us.9=ps.9->abQ fd #[us,[]]=pure (ps.zip us)):Binds K fd ps []:=λs us _ F=>by
 rw[Wt]at F ⊢;show .of_eq (h us F)
def Passes(CX:p7)(X:Cx)(E:XK):Prop:=∀(pins:qa1)(σ:St)(H:Hp)(s:sh)(e:Value)(s':sh),~~~H s->CX X.stack H s E e s'->X.xe e s'
variable{dvs:qAf}{ds:qa6}{E:XK}{vs:qAf}
theorem zO{U:qa2}(F:aU X.prog X.w X.K X.mg X.base CX k f fd ps sp)(hr:dX k X.A)(hb:Binds X.K fd ps ds)(hd:Vals dvs ds)(Z:∀e s',CX X.stack H s E e s'->U e s')
  (I: ~~~H s) (r:Vals vs us) (h:sp (vs++dvs) H Q E):↑(call (.ref f) us) (EP X pins σ Q) U s:=by
 let L:Vals (vs++dvs) (us++ds):=r.append hd;let Y:(us++ds).9=ps.9:=(by rw[<-L.9];show F.len _ _ _ _ h);show wpAny_call (aam (F.run X.A X.stack s H #[us,[]] (us++ds) (vs++dvs) Q E hr I.QX (hb s us I.lS Y) L h) λr s' G=>?_);cases r with
 |error e=>show Z e s' G
 |ok fl =>
  cases fl with
  |ret u=>show I.after G
  |next=>show XD G
  |brk=>show XD G
  |cont=>show XD G
theorem uL(F:aU X.prog X.w X.K X.mg X.base CX k f fd ps sp)(U:dX k X.A)(G:Binds X.K fd ps ds)(hd:Vals dvs ds)(L:Passes CX X E)
  (I: ~~~H s) (r:Vals vs us) (h:sp (vs++dvs) H Q E):↑(call (.ref f) us) (EP X pins σ Q) X.xe s :=
 zO F U G hd (λe s' q=>L pins σ H s e s' I q) I r h
variable{x:Str}
theorem tZ(F:aU X.prog X.w X.K X.mg X.base CX k f fd ps sp)(hr:dX k X.A)(Y:Gl X x)(hm:X.mg x=some (.ref f))(hk:Xc X.K (.ref f)=true)(hb:Binds X.K fd ps ds)(hd:Vals dvs ds)(L:Passes CX X E)
  (Z:PA X (e::es) t) (U:(x==("__debug__" : Str))=false:=by decide) (he:qAh X e es:=by rfl) (ab:(backTo pos (starEach es X.env)).any (·.1)=false:=by rfl) :
  PE X (.Call (.Name x p) (e::es) [] pos) (Bd sp dvs E t):=by
 intros Q I h;show Ye (kY I Y hm ?_ U);show ZG (h₀:=X.base) I.ok.mod.Js hk (cc (Z pos pins s σ H _ I h) λus s1 aa=>?_) he ab;let#[vs,H1,G,r,q]:=aa;show#[G.lS,?_];show uL F hr hb hd L G r q
abbrev Ot(X:Cx)(o:Ws)(m:Str)(apos pos:XU)(pl:ZC Bool)(F:qAe):Prop:=eval (.Call (.Attribute o m apos) F [] pos) X.env=(do
   let ov <-eval o X.env
   acy apos.atName
   let (f,first) <-abc [ov] (getMethod ov m pl)
   callWith pos f first (backTo pos (starEach F X.env)) (aaQ pos (Zf [] X.env)))
variable{m:Str}{apos:XU}
theorem iy(he:PE X o ta)(c:qa X.K C)(L:Meth X.K C m f)(F:aU X.prog X.w X.K X.mg X.base CX k f fd ps sp)(hr:dX k X.A)(hb:Binds X.K fd ps ds)(hd:Vals dvs ds)(hx:Passes CX X E)(Y:PA X (e::es) t)
  (aa:qAh X e es:=by rfl) (Z:(backTo pos (starEach es X.env)).any (·.1)=false:=by rfl)
  (ht:Ot X o m apos pos pl (e::es):=by rfl) :
  PE X (.Call (.Attribute o m apos) (e::es) [] pos) (Br C m sp dvs E ta t):=by
 intros Q I h;show Ze (pl:=pl) (cc (he pins s σ H _ I h) λu s1 ac=>?_) ht;let#[x,H1,G,rx,a,dx,fs,ex,ea,l,q]:=ac;subst ex;obtain rfl:u=Value.ref a:=rx;show jR G ea c L l ?_;show ZG (first:=[.ref a]) (h₀:=X.base) I.ok.mod.Js L.kp (cc (Y pos pins s1 σ H1 _ G q) λus s2 ab=>?_) aa Z;let#[vs,H2,U,r,q2]:=ab;show#[U.lS,?_];show uL (us:=.ref a::us) (vs:=.ref a::vs) F hr hb hd hx U (.cons rfl r) q2
theorem DZ(he:PE X o ta)(c:qa X.K C)(L:Meth X.K C m f)(F:aU X.prog X.w X.K X.mg X.base CX k f fd ps sp)(hr:dX k X.A)(hb:Binds X.K fd ps ds)(hd:Vals dvs ds)(Y:Passes CX X E)
  (U:Ot X o m apos pos pl []:=by rfl) :
  PE X (.Call (.Attribute o m apos) [] [] pos) (Br C m sp dvs E ta xI):=by
 intros Q I h;show Ze (pl:=pl) (cc (he pins s σ H _ I h) λu s1 aa=>?_) U;let#[x,H1,G,Z,a,dx,fs,ex,ea,l,q]:=aa;subst ex;obtain rfl:u=Value.ref a:=Z;show jR G ea c L l ?_;show callWith_K0 (first:=[.ref a]) G.lS L.kp (uL (us:=[.ref a]) (vs:=[.ref a]) F hr hb hd Y G (.cons rfl .nil) q)
structure Mk(K:Wa)(C f:zB0):Prop where
 makes:makesIn K C=true
 init:ZF K (.ref C) "__init__" = some (some (.ref f))
 fn:isFn K (.ref f)=true
 kp:Xc K (.ref C)=true
theorem DT(M:Mk X.K C f)(F:aU X.prog X.w X.K X.mg X.base CX k f fd ps sp)(hr:dX (k+1) X.A)(hb:Binds X.K fd ps ds)(hd:Vals dvs ds)
  (hx:Passes CX X E) (I: ~~~H s) (r:Vals vs us)
  (h:∀x dx,H x=none->H dx=none->dx≠x->sp (.ref x::(vs++dvs)) (upd (upd H dx (.own x)) x (.ins C dx [])) (λv H2=>v=.bh/\Q (.ref x) H2) E) :
  ↑(call (.ref C) us) (EP X pins σ Q) X.xe s:=by
 let Y:=h (s⁻¹+1) s⁻¹ (I.bL.fresh (abd _)) (I.bL.fresh (G0 _)) (WZ (Zy _));let L:=Inv.made (C:=C) I;let U:Vals (V.ref (s⁻¹+1)::(vs++dvs)) (Value.ref (s⁻¹+1)::(us++ds)):=.cons rfl (r.append hd);let Z:(Value.ref (s⁻¹+1)::us++ds).9=ps.9:=by
  let e:=U.9;rw[F.len _ _ _ _ Y]at e;show e.6
 show wpAny_call (Fq (f:=f) I.lS M.makes M.init (beq_iff_eq.mp M.fn) (aam (F.run _ X.stack _ _ #[Value.ref (s⁻¹+1)::us,[]] (Value.ref (s⁻¹+1)::(us++ds)) _ _ E (hr.make C us [])
  (L.QX.make C us []) (hb _ (Value.ref (s⁻¹+1)::us) L.lS Z) U Y) λr s' G=>?_))
 cases r with
 |error e=>show hx pins σ _ _ e s' L G
 |ok fl =>
  cases fl with
  |ret u =>
   let#[v,H',I3,rv,ev,q3]:=L.after G;subst ev;show#[rv,#[V.ref (s⁻¹+1),H',I3,rfl,q3]]
  |next=>show XD G
  |brk=>show XD G
  |cont=>show XD G
theorem jd(M:Mk X.K C f)(F:aU X.prog X.w X.K X.mg X.base CX k f fd ps sp)(hr:dX (k+1) X.A)(Y:Gl X x)(hm:X.mg x=some (.ref C))(hb:Binds X.K fd ps ds)(hd:Vals dvs ds)(L:Passes CX X E)
  (Z:PA X (e::es) t) (U:(x==("__debug__" : Str))=false:=by decide) (he:qAh X e es:=by rfl) (ab:(backTo pos (starEach es X.env)).any (·.1)=false:=by rfl) :
  PE X (.Call (.Name x p) (e::es) [] pos) (Qd C sp dvs E t):=by
 intros Q I h;show Ye (kY I Y hm ?_ U);show ZG (h₀:=X.base) I.ok.mod.Js M.kp (cc (Z pos pins s σ H _ I h) λus s1 aa=>?_) he ab;let#[vs,H1,G,r,q]:=aa;show#[G.lS,?_];show DT M F hr hb hd L G r q
structure aA(N P:qAb)(sc:Zr):Prop where
 kind:sc.kind=.function
 co:sc.isCoroutine=false
 gen:sc.isGenerator=false
 nd:N.4
 pre:N.take P.9=P
 par:∀x∈P,sc.names.lookup x=some .local\/sc.names.lookup x=some .cell
 LY:∀y∈sc.names,y.2≠.free
variable{F:Zr}
theorem bg{P:qAb}(a:F.kind=.function:=by exact rfl)(b:F.isCoroutine=false:=by exact rfl)(c:F.isGenerator=false:=by exact rfl)(d:N.4:=by decide +kernel)(e:N.take P.9=P:=by exact rfl)(f:∀x∈P,F.names.lookup x=some .local\/F.names.lookup x=some .cell:=by decide +kernel)(g:∀y∈F.names,y.2≠.free:=by decide +kernel):aA N P F:=#[a,b,c,d,e,f,g]
theorem sW{kindOf:Str->Option NameKind}{x:Str}:∀{binds:List (Str×Value)}{m:qa3},(∀v,(x,v)∉binds)->bindL kindOf binds m x=m x
 | [],_,_=>rfl
 |(n,v)::r,m,h=>by
  unfold bindL;rw[sW λw F=>h w (Wm _ F)];split
  .have:x≠n:=(by rintro rfl;show h v Wn);simp[this]
  .rfl
theorem tU{kindOf:Str->Option NameKind}{x:Str}:∀{binds:List (Str×Value)}{m:qa3},(∀v,(x,v)∉binds)->bindC kindOf binds m x=m x
 | [],_,_=>rfl
 |(n,v)::r,m,h=>by
  unfold bindC;rw[tU λw F=>h w (Wm _ F)];split
  .rfl
  .have:x≠n:=(by rintro rfl;show h v Wn);simp[this]
theorem sY{kindOf:Str->Option NameKind}{x:Str}{v:Value}:∀{P:qAb}{vs:qa6}{i:Nat}{m:qa3},P.4->P[i]?=some x->vs[i]?=some v->kindOf x=some .local ->
  bindL kindOf (P.zip vs) m x=some v
 | [],_,_,_,_,h,_,_=>by simp at h
 |_::_,[],_,_,_,_,h,_=>by simp at h
 |p::P,w::vs,0,m,nd,h1,h2,hk=>by
  simp at h1 h2;subst h1;subst h2;change bindL kindOf ((p,w)::P.zip vs) m p=_;unfold bindL;rw[sW λv F=>(Wq.mp nd).1 (of_mem_zip F).1,acW hk];simp
 |p::P,w::vs,i+1,m,nd,h1,h2,hk=>by
  change bindL kindOf ((p,w)::P.zip vs) m x=_;unfold bindL;show sY (i:=i) (Wq.mp nd).2 ‹h1› ‹h2› hk
theorem tT{kindOf:Str->Option NameKind}{x:Str}{v:Value}:∀{P:qAb}{vs:qa6}{i:Nat}{m:qa3},P.4->P[i]?=some x->vs[i]?=some v->kindOf x≠some .local ->
  bindC kindOf (P.zip vs) m x=some v
 | [],_,_,_,_,h,_,_=>by simp at h
 |_::_,[],_,_,_,_,h,_=>by simp at h
 |p::P,w::vs,0,m,nd,h1,h2,hk=>by
  simp at h1 h2;subst h1;subst h2;change bindC kindOf ((p,w)::P.zip vs) m p=_;unfold bindC;rw[tU λv F=>(Wq.mp nd).1 (of_mem_zip F).1,acV hk];simp
 |p::P,w::vs,i+1,m,nd,h1,h2,hk=>by
  change bindC kindOf ((p,w)::P.zip vs) m x=_;unfold bindC;show tT (i:=i) (Wq.mp nd).2 ‹h1› ‹h2› hk
noncomputable def start(N:qAb)(vs:qAf):St:=vs.map some++TN (N.9-vs.9) none
noncomputable def vq(CX:p7)(P:BY)(w:Oi)(K:Wa)(mg:qa3)(base:Heap)(N:qAb)(F:Str)(scope:Zr)(f:zB0)(cd:Value)(A:Wv)(outer:List Env)(s:sh)(H:Hp)(E:XK):Cx where
 prog:=P
 w:=w
 K:=K
 mg:=mg
 base:=base
 A:=A.deeper (ZH F scope s⁻¹ f cd)
 N:=N
 s₀:=s
 H₀:=H
 env:=ZH F scope s⁻¹ f cd
 outer:=outer
 stack:=ZH F scope s⁻¹ f cd::outer
 ex:=[]
 calm:=true
 fn:=λ_=>true
 pn:=[]
 xe:=λe s'=>wpAny (model P w) (A.deeper (ZH F scope s⁻¹ f cd)) (leaving (ZH F scope s⁻¹ f cd) e) (λ_ G=>CX outer H s E e G) (λI G=>CX outer H s E I G) s'
theorem x5(h:F.names.lookup x=some .cell):∃c,(cellsFrom n F.names []).lookup x=some c:=by
 let q:=aao F.names n [] (.inl h);show Xy.mp q
variable{scope:Zr}
theorem B8{L:Str}{cd:Value}{s1:sh}
  (S:aA N ps scope) (hd:A.handled=none) (F:zg P w K mg base A outer s H) (hl:vs.9=ps.9) (r:Vals vs us)
  (x:InCallC s s⁻¹ (bindL (ZH L scope s⁻¹ f cd).kindOf (ps.zip us) λ_=>none) (cellsFrom (s⁻¹+1) scope.names []) (bindC (ZH L scope s⁻¹ f cd).kindOf (ps.zip us) λ_=>none) s1) :
  Inv (vq CX P w K mg base N L scope f cd A outer s H E) [] (start N vs) H s1:=by
 let aa:ps.9<=N.9:=(by have:=congrArg Zg S.pre;rw[IF]at this;omega);let#[h1,tk,rfl,hk]:=x.done;let U:∀b:zB0,b∉(vq CX P w K mg base N L scope f cd A outer s H E).ex:=λb z=>absurd (show b∈([]:qAc)from z) (by simp);show#[#[F.mod,S.kind,1,G0 _,λy z c h1 h2=>?_,λy G=>?_,λy c _ h=>?_,λ_=>hd,Around.frames_deeper F.frames,.inr #[1],λb z=>absurd z (U b),F.bs,F.GZ,λb _ _=>U b,λb z=>absurd z (U b),F.l9,F.Jp],
  rfl,F.bare,Un.kept hk,#[_,x.toInCall.ns,λi y v h1 h2 h3=>?_],λy c h=>#[_,x.cell y c h],F.bL.fresh (G0 _),λy c h=>?_,λp I=>absurd (show p∈([]:qa1)from I) (by simp),F.bL.kept hk,?_]
 .show name_of_addr x.apart (Xu h1) (Xu h2)
 .let G:scope.names.lookup y=some .cell\/scope.names.lookup y=some .free:=G;rcases G with G|G
  .show x5 G
  .show absurd rfl (S.LY _ (Xu G))
 .show Yo (x.above y c (Xu h))
 .let hi:i<vs.9:=by
   unfold start at h2;cases hi:i<vs.9
   .show hi
   .rw[Wb ‹hi›]at h2;rw[Yf]at h2;split at h2<;>cases h2
  let ha:vs[i]?=some v:=by
   unfold start at h2;rw[Wj ‹hi›,LW]at h2;cases e:vs[i]? with
   |none=>rwa[e]at h2
   |some a=>rwa[e]at h2;rfl
  let#[u,Y,rv]:=r.get ha;let I:ps[i]?=some y:=by
   rw[<-S.pre,List.getElem?_take_of_lt av];show h1
  let Z:ps.4:=(by rw[<-S.pre];show S.nd.sublist (abR _ _));show#[u,rv,?_];rcases S.par y (L1 I)with k|k
  .show .inl #[k,sY Z I Y k]
  .let#[c,e]:=x5 (n:=s⁻¹+1) k;show .inr #[.inl k,c,e,?_];let q:=x.cell y c e;rw[tT Z I Y (by change scope.names.lookup y≠_;rw[k];decide)]at q;show q
 .show F.bL.fresh (Yo (x.above y c (Xu h)))
 .unfold start;change _=N.9;rw[ti,dM,WM];omega
theorem Kj{F:Str}{ab:Arguments}{dV kV aa pm G ct oc:Value}{an od:qa8}
  {ak:Array (Option Value)}(lk:K.lookup f=some #[oc,od,.func (fnOf name F ab body scope dV kV aa pm an G ct),ak]) (ad:acC K G F=true) (S:aA N ps scope)
  (len:∀vs H Q E,sp vs H Q E->vs.9=ps.9)
  (ap:∀(A:Wv)(outer:List Env)(s:sh)(H:Hp)(vs:qAf)(Q:VK)(E:XK),dX k (A.deeper (ZH F scope s⁻¹ f G))->sp vs H Q E ->
   ∃t,uv (vq CX P w K mg base N F scope f G A outer s H E) body t/\t { nx:=λ_ H'=>Q .bh H',rt:=Q } (start N vs) H) :
  aU P w K mg base CX (k+1) f (fnOf name F ab body scope dV kV aa pm an G ct) ps sp:=by
 show#[len,λA outer s H args us vs Q E Y L hb r ac=>?_];let hl:=len _ _ _ _ ac;let KX:K.In s.heap:=L.mod.Js.keeps λb o e=>(L.bs b o e).1;let ar:s.heap.NoLimit:=L.mod.nolimit.keeps λb o e=>(L.bs b o e).1;let aj:∀y∈ps.zip us,scope.names.lookup y.1=some .local\/(scope.names.lookup y.1=some .cell/\((cellsFrom (s⁻¹+1) scope.names []).lookup y.1).10=true):=λam hy=>by
  let#[n,v]:=am;rcases S.par n (of_mem_zip hy).1 with q|q
  .show .inl q
  .show .inr #[q,aao _ _ _ (.inl q)]
 show codeAny_call_function Y.depth (KX _ _ lk) rfl S.co S.gen rfl (PySem.W.codeRec_of KX ad) (hb _ _ _ _ ?_);show wpAny_newFunctionEnv_cells S.kind aj λenv he s1 x=>?_;subst he;show#[ar.keeps x.toInCall.keep,codeAny_func ?_];let#[t,ht,hq]:=ap A outer s H vs Q E (Y.deeper _) ac;let I:Inv (vq CX P w K mg base N F scope f G A outer s H E) [] (start N vs) H s1:=B8 S Y.hd L hl r x;show W4 (ht [] s1 (start N vs) H _ I hq) (λfl s' hs=>?_) λe s' hs=>hs;let fin:∀{U:St}{H':Hp}{v:V}{u:Value},Inv (vq CX P w K mg base N F scope f G A outer s H E) [] U H' s'->RelV v u->Q v H'->CE outer P w H s Q u s' :=
  λ{U H' v u} J Z q=>#[v,H',J.os,J.bare,J.base,J.bL,Z,q]
 cases fl with
 |ret u =>
  let#[v,U,H',J,Z,q]:=hs;show fin J Z q
 |next =>
  let#[U,H',J,q]:=hs;show fin (v:=V.bh) (u:=Value.none) J rfl q
 |brk =>
  let#[_,_,_,q]:=hs;show XD q
 |cont =>
  let#[_,_,_,q]:=hs;show XD q
def SR(r:List V->Hp->VK->Prop)(t:TA):TE:=λσ H Q=>t σ H λvs H1=>r vs H1 Q
variable{r:List V->Hp->VK->Prop}
theorem aN{id:String}(hc:eI X (.builtin id) r)(U:Gl X x)(hm:X.mg x=none)(G:WT x=some (.builtin id))(ha:PA X (e::es) t)(Y:x ≠ "__name__" := by decide)(L:(x==("__debug__" : Str))=false:=by decide)
  (he:qAh X e es:=by rfl) (ab:(backTo pos (starEach es X.env)).any (·.1)=false:=by rfl):PE X (.Call (.Name x p) (e::es) [] pos) (SR r t):=by
 intros Q I h;show Ye (kb I U hm G ?_ Y L);show PyProof.Rows.callWith_builtin1 (cc (ha pos pins s σ H _ I h) λus s1 aa=>by let#[vs,H1,Z,r1,F]:=aa;show hc pins s1 σ H1 vs us Q Z r1 F) he ab
theorem cf{T:String}(hc:eI X (.type T) r)(U:Gl X x)(hm:X.mg x=none)(G:WT x=some (.type T))(ha:PA X (e::es) t)(Y:x ≠ "__name__" := by decide)(L:(x==("__debug__" : Str))=false:=by decide)
  (he:qAh X e es:=by rfl) (aa:(backTo pos (starEach es X.env)).any (·.1)=false:=by rfl):PE X (.Call (.Name x p) (e::es) [] pos) (SR r t):=by
 intros Q I h;show Ye (kb I U hm G ?_ Y L);show W9 (cc (ha pos pins s σ H _ I h) λus s1 ab=>by let#[vs,H1,Z,r1,F]:=ab;show hc pins s1 σ H1 vs us Q Z r1 F) he aa
end L2
namespace HT
open PySem PyProof.Rows
section
open PySem.SeqAt
open PySem.AutoSeq1 (wpAny_loadPart')
open PySem.MeetsSeq PySem.MeetsSeq2 PySem.MeetsSeq3
theorem IV{prog:BY}{w:Oi}{A:Wv}{E:qa2}{s:sh}{t b:zB0}{vs ws:qa6}{Q:qa2}(ht:IsTup s.heap t vs.8)(hb:IsTup s.heap b ws.8)(U:vs≠[])
  (h1:ws=[]->Q (.ref t) s) (h2:ws≠[]->Q (.ref s⁻¹) { s with heap:=s.heap.push { cls:=.type "tuple",data:=.seq (vs++ws).8 } })
  (hsz:vs.9+ws.9<=sizeLine):wpAny (model prog w) A (Yx .Add (.ref t) (.ref b)) Q E s:=by
 let#[#[cls,dd,data,sl],ho,Z,n,hd]:=id ht;let#[#[ac,Y,data2,L],G,ab,n2,aa]:=id hb;simp only at Z hd ab aa;subst Z hd ab aa;let e:vs.8++ws.8=(vs++ws).8:=(by simp);cases I:ws=[]
 .show concat_meets #[_,ho,rfl] #[_,G,rfl] noFill_tuple_add seq_tuple_add aap aaa (Z5 _ _)
   (tuple_addW1 t b vs.8 ws.8 n n2 dd Y sl L ‹U› (by simp[I])) #[ho,G,h1 I]
 .show concat_meets #[_,ho,rfl] #[_,G,rfl] noFill_tuple_add seq_tuple_add aap aaa (Z5 _ _)
   (tuple_addW2 t b vs.8 ws.8 n n2 dd Y sl L ‹U› ‹I› (by rw[V9,V9];show hsz)) #[ho,G,?_]
  rw[e];show h2 I
noncomputable def qN(n d:Nat):Option Int->Nat
 |none=>d
 |some v=>if v<0 then(v+(n:Int)).5 else min v.5 n
def mU(n d:Nat):qN n d none=d:=rfl
theorem kW(n d k:Nat):qN n d (some (k:Int))=min k n:=by
 change(if (k:Int)<0 then((k:Int)+(n:Int)).5 else min (k:Int).toNat n)=min k n;rw[acV av,XJ]
end
end HT
namespace L2
open PySem PySem.Spec PyProof.Rows
abbrev TO:=St->Hp->(Option Int->Hp->Prop)->Prop
def PO(X:Cx)(e:Option Ws)(t:TO):Prop :=
 ∀(pins:qa1)(s:sh)(σ:St)(H:Hp)(Q:Option Int->Hp->Prop),~~~H s->t σ H Q ->
  ↑(evalPart e X.env) (λu s'=>∃o H',~~~H' s'/\IsPart u o/\Q o H') X.xe s
def zS:TO:=λ_ H Q=>Q none H
def KQ(t:TE):TO:=λσ H Q=>t σ H λx H1=>∃i,x=.int i/\Q (some i) H1
theorem intsAre_of{ns:qAa}:∀{us:qa6},Vals (ns.map V.int) us->Yg us ns:=by
 induction ns with
 |nil=>intro us r;rwa[acz]at r;show .nil
 |cons n ns F =>
  intro us r;rw[Wy]at r;cases r with
  |cons G I =>
   let#[t,e]:=G;subst e;show .cons n t (F I)
variable{X:Cx}
def bM:PO X none zS:=by
 intros Q I h;rw[evalPart_none];show Wi #[none,H,I,.none,h]
variable{e:Ws}{te:TE}
theorem bu(h:PE X e te):PO X (some e) (KQ te):=by
 intros Q I U;rw[evalPart_some];show cc (h pins s σ H _ I U) λu Z Y=>?_;let#[x,H1,G,L,F]:=Y;let#[i,rfl,q]:=F;let#[t,rfl]:=L;show#[some i,H1,G,.int i t,q]
variable{lo hi:Option Ws}
def Q7(X:Cx)(r:V->Option Int->Option Int->Hp->VK->Prop):Prop :=
 ∀(pins:qa1)(s:sh)(σ:St)(H:Hp)(x:V)(v G F:Value)(lo hi:qAd)(sl:zB0)(Q:VK),~~~H s->RelV x v->s.heap.IsSliceOf sl G F .none->IsPart G lo->IsPart F hi->r x lo hi H Q ->
  ∃T id,typeLookup (.type T) "__getitem__" = pure (some (.builtin id))/\s.TypeIs v T/\↑(abS v (.ref sl)) (EP X pins σ Q) X.xe s
def Vv(r:V->Option Int->Option Int->Hp->VK->Prop)(te:TE)(tl th:TO):TE:=λσ H Q=>te σ H λx H1=>tl σ H1 λl H2=>th σ H2 λu F=>r x l u F Q
variable{pos:XU}
theorem br{tl th:TO}{p2:XU}{r:V->Option Int->Option Int->Hp->VK->Prop}(hr:Q7 X r)(he:PE X e te)(Z:PO X lo tl)(hu:PO X hi th):PE X (.Subscript e (.Slice lo hi none p2) pos) (Vv r te tl th):=by
 intros Q I h;show abB (cc (he pins s σ H _ I h) λv s1 Y=>?_);let#[x,H1,I1,r1,q1]:=Y;show wpAny_Slice (cc (Z pins s1 σ H1 _ I1 q1) λL s2 ab=>?_);let#[l,H2,I2,pl,q2]:=ab;show cc (hu pins s2 σ H2 _ I2 q2) λG F aa=>?_;let#[u,U,I3,pu,q3]:=aa;rw[evalPart_none];show Wi ?_;let I4: ~~~U { F with heap:=F.heap.push { cls:=.type "slice",data:=.fields ([L,G,.none].8) } }:=I3.kept (t':=F.toks) λb ob q=>zA4 _ q;let#[T,id,hT,ht,hg]:=hr pins { F with heap:=F.heap.push { cls:=.type "slice",data:=.fields ([L,G,.none].8) } } σ U x v L G l u F⁻¹ Q I4 r1 (Heap.IsSliceOf.new ..) pl pu q3;change ↑(abq e (.Slice lo hi none p2) v (.ref F⁻¹)) (EP X pins σ Q) X.xe { F with heap:=F.heap.push { cls:=.type "slice",data:=.fields ([L,G,.none].8) } };show tail_any (ops:=[.ref F⁻¹,v]) ht hT hg (by with_unfolding_all rfl)
noncomputable def d8(xs:qAf)(lo hi:qAd):List V:=(xs.drop (HT.qN xs.9 0 lo)).take (HT.qN xs.9 xs.9 hi-HT.qN xs.9 0 lo)
def xx(xs:qAf)(lo hi:qAd):(d8 xs lo hi).9<=xs.9:=by
 unfold d8;rw[IF,WC];omega
inductive Kl(K:Wa)(x:V)(y:V)(H:Hp)(Q:VK):Prop
 |mk(a:_)(b:_)(xs:_)(ys:_)(_:x=.ref a)(_:y=.ref b)(_:cX K H a xs)(_:cX K H b ys)(_:xs≠[])(_:xs.9+ys.9<=sizeLine)(_:(ys=[]->Q (.ref a) H))(_:(ys≠[]->∀p,H p=none->Q (.ref p) (upd H p (.tup (xs++ys)))))
variable{xs:qAf}{us:qa6}
def Vals.uq(r:Vals xs us):us=[]↔xs=[]:=by
 cases r with
 |nil=>simp
 |cons _ _=>simp
theorem Iw:lj X (Yx .Add) (Kl X.K):=by
 intros x y v u Q I Z ry h;let#[a,b,xs,ys,rfl,rfl,ha,hb,Y,L,U,q2]:=h;cases Z;cases ry;let#[its,G,p1,_]:=I.tuple ha;let#[aa,F,p2,_]:=I.tuple hb;show HT.IV p1 p2 (λz=>Y (G.uq.mp z)) (λz=>#[.ref a,H,I,rfl,U (F.uq.mp z)]) (λz=>?_) (by rw[<-G.9, <-F.9];show L);show#[95,I.laid (t':=s.toks) (o:=.tup (xs++ys)) (λb ob q=>zA4 _ q) (G0 _) ?_,rfl,q2 (λw=>z (F.uq.mpr w)) _ (I.bL.fresh (G0 _))];show#[by rw[ti];show L,_,G.append F,IsTup.new _ _]
noncomputable def yF(n:Nat)(i:Int):Option Nat:=if 0<=i then(if i<n then some i.5 else none)else if -(n:Int)<=i then some (i+n).5 else none
noncomputable def mv{α:Type}(xs:List α)(i:Int):Option α:=(yF xs.9 i).bind λj=>xs[j]?
variable{n:Nat}{i:Int}{j:Nat}
theorem AH(h:yF n i=some j):seqIndex? i n=some j/\j<n /\ -(n:Int)<=i/\i<n:=by
 unfold yF at h;cases F:0<=i
 .rw[acW F]at h;cases h1:i<n
  .rw[acW h1]at h;let e:i.5=j:=OR h;show#[by rw[acn F h1,e],av,av,h1]
  .rw[acV h1]at h;cases h
 .rw[acV F]at h;by_cases h1 : -(n:Int)<=i
  .rw[acW h1]at h;let e:(i+n).5=j:=OR h;show#[by rw[seqIndex_neg av h1,e],av,h1,av]
  .rw[acV h1]at h;cases h
theorem vL{α:Type}{xs:List α}{v:α}(h:mv xs i=some v):∃j,seqIndex? i xs.9=some j/\xs[j]?=some v/\j<xs.9 /\ -(xs.9:Int)<=i/\i<xs.9:=by
 unfold mv at h;cases e:yF xs.9 i with
 |none=>rwa[e]at h
 |some j =>
  rw[e]at h;let#[h1,h2,F,G]:=AH e;show#[j,h1,h,h2,F,G]
theorem aL{α:Type}{xs:List α}{v:α}(h:xs[j]?=some v):mv xs (j:Int)=some v:=by
 let F:j<xs.9:=(u4.mp h).1;let e:yF xs.9 (j:Int)=some j:=by
  unfold yF;rw[acW av,acW av];simp
 unfold mv;rw[e];show h
theorem mr{α:Type}(xs:List α)(v:α):mv (xs++[v]) (-1)=some v:=by
 let F:(xs++[v]).9=xs.9+1:=(by simp);let e:yF (xs++[v]).length (-1)=some xs.9:=by
  unfold yF;rw[F,acV aE,acW av];congr 1;omega
 unfold mv;rw[e];change(xs++[v])[xs.9]?=some v;simp
def uj(b:Ws):Prop:=∀o i,aaR b false o i=operate [o,i] (abS o i)
def BR(X:Cx)(r:R2):Prop :=
 ∀(value slice:Ws)(pins:qa1)(s:sh)(σ:St)(H:Hp)(x y:V)(v u:Value)(Q:VK),~~~H s->RelV x v->RelV y u->r x y H Q ->
  aaR slice false v u=operate [v,u] (abS v u)->↑(abq value slice v u) (EP X pins σ Q) X.xe s
def Kv(X:Cx)(id:String)(r:V->List V->Hp->VK->Prop):Prop :=
 ∀(pins:qa1)(s:sh)(σ:St)(H:Hp)(x:V)(xs:qAf)(v:Value)(us:qa6)(Q:VK),~~~H s->RelV x v->Vals xs us->r x xs H Q ->
  ↑(call (.builtin id) (v::us)) (EP X pins σ Q) X.xe s
variable{a b:Ws}
theorem aZ{ta tb:TE}{r:R2}(hr:BR X r)(U:PE X a ta)(Y:PE X b tb)(hs:uj b):PE X (.Subscript a b pos) (wt r ta tb):=by
 intros Q I h;show abB (Mi U Y I h λv u F x y H2 Z G L q=>hr a b pins F σ H2 x y v u Q Z G L q (hs _ _))
inductive P1(K:Wa)(x:V)(y:V)(H:Hp)(Q:VK):Prop
 |mk(p:_)(xs:_)(i:_)(v:_)(_:x=.ref p)(_:y=.int i)(_:a9 K H p xs)(_:mv xs i=some v)(_:Q v H)
inductive lg(K:Wa)(x:V)(y:V)(H:Hp)(Q:VK):Prop
 |mk(p:_)(xs:_)(i:_)(v:_)(_:x=.ref p)(_:y=.int i)(_:cX K H p xs)(_:mv xs i=some v)(_:Q v H)
inductive Qv(x:V)(y:V)(H:Hp)(Q:VK):Prop
 |mk(z:_)(i:_)(c:_)(_:x=.str z)(_:y=.int i)(_:z.9<=sizeLine)(_:mv z.cps.7 i=some c)(_:Q (.str #[([c].8)]) H)
theorem bc:BR X (P1 X.K):=by
 intro value slice pins s σ H x y v u Q I rx Z h hs;let#[p,xs,i,z,rfl,rfl,hq,he,q]:=h;cases rx;let#[t,rfl]:=Z;let#[its,r,pl,hz]:=I.list hq;let#[j,h1,h2,h3,h4,h5]:=vL he;let#[w,G,Y]:=r.get h2;let U:=r.9;let hn:=oy;let fin:EP X pins σ Q w s:=#[z,H,I,Y,q];cases L:0<=i
 .let F:i.5=j:=by
   rw[acn L h5]at h1;show OR h1
  show item_listR pl.isList L av (by rw[F];simpa using G) fin hs
 .let F:(i+(its.toArray.size:Int)).5=j:=by
   rw[seqIndex_neg av h4]at h1;rw[V9, <-U];show OR h1
  show aaq (x:=w) pl.isList.typeIs slot_list_getitem.lookup
   (wpAny_getItem_list_neg (Q:=λr s'=>r=w/\EP X pins σ Q r s') pl.isList av (by rw[V9]<;>omega) av (by rw[F];simpa using G) #[rfl,fin]) hs
theorem bt:BR X (lg X.K):=by
 intro value slice pins s σ H x y v u Q I Z L h hs;let#[p,xs,i,z,rfl,rfl,U,he,q]:=h;cases Z;let#[t,rfl]:=L;let#[its,r,pl,hz]:=I.tuple U;let#[j,h1,h2,_,h4,h5]:=vL he;let#[w,Y,G]:=r.get h2;let F:=r.9;let hn:=oy;let fin:EP X pins σ Q w s:=#[z,H,I,G,q];show aaq (x:=w) pl.typeIs slot_tuple_getitem.lookup
  (getItem_tuple (j:=j) (Q:=λr s'=>r=w/\EP X pins σ Q r s') pl av av (by rw[V9, <-F];show h1) ‹Y› #[rfl,fin]) hs
theorem MZ:BR X Qv:=by
 intro value slice pins s σ H x y v u Q I L U h hs;let#[z,i,c,rfl,rfl,hz,he,q]:=h;let#[t,rfl]:=L;let#[t',rfl]:=U;let#[j,h1,h2,h3,Y,Z]:=vL he;let F:z.cps.toList.length=z.9:=(by simp[Str.length]);rw[F]at h1 Y Z;let hn:=oy;show tail_any (Y2 s z t) slot_str_getitem.lookup (getItem_str (c:=c) (by
  let G:decide (i < -(2^63:Int))=false:=zA2 av;let e2:decide (i>=2^63)=false:=zA2 av;rw[G,e2,Bool.or_false]) (by rw[h1];simpa using h2) #[.str #[([c].8)],85]) hs
theorem yG(its:qa6)(n j:Nat)(u:Value):Obj.mapSeq (·.setIfInBounds j u) { cls:=.type "list",data:=.seq its.8 n }={ cls:=.type "list",data:=.seq (its.set j u).toArray n }:=by
 simp[Obj.mapSeq]
theorem Inv.lst{X:Cx}{pins:qa1}{σ:St}{H:Hp}{s:sh}{p:zB0}{xs:qAf}(I: ~~~H s)(h:H p∣xs) :
  ∃(its:qa6)(n:Nat),Vals xs its/\s.heap.get? p=some { cls:=.type "list",data:=.seq its.8 n }/\xs.9<=sizeLine:=by
 let#[z,its,n,r,e]:=I.bL p _ h;show#[its,n,r,e,z]
variable{pins:qa1}{σ:St}{H:Hp}{s:sh}{ys:qAf}{its its':qa6}
theorem Inv.LO{p:zB0}{F:Nat}{f:Obj->Obj}(I: ~~~H s)(h:H p∣xs)
  (ho:s.heap.get? p=some { cls:=.type "list",data:=.seq its.8 n }) (G:f { cls:=.type "list",data:=.seq its.8 n }={ cls:=.type "list",data:=.seq its'.8 F }) (r:Vals ys its') (U:ys.9<=sizeLine) (t:Nat) :
  ~~~(upd H p (.lst ys)) { s with heap:=s.heap.update p f,toks:=t }:=by
 let e:(s.heap.update p f).get? p=some { cls:=.type "list",data:=.seq its'.8 F }:=by
  rw[Heap.get?_update_self f ho (by rw[G]<;>rfl),G]
 show I.write (x:=p) (e:=p) (by rw[h];trivial) (.inl rfl) (λb u L q=>(Heap.get?_update_other _ _ (zA3 L)).trans q) #[_,e] ?_;show#[U,its',F,r,e]
inductive KG(o:V)(i:V)(v:V)(H:Hp)(Q:(Hp->Prop)):Prop
 |mk(p:_)(xs:_)(k:_)(j:_)(_:o=.ref p)(_:i=.int k)(_:H p∣xs)(_:yF xs.9 k=some j)(_:Q (upd H p (.lst (xs.set j v))))
theorem set_list:Qz X KG:=by
 intros o i v ov iv u Q I ro ri rv h;let#[p,xs,k,j,rfl,rfl,L,hj,q]:=h;cases ro;let#[t,rfl]:=ri;let#[its,n,r,ho,hz]:=I.lst L;let#[h1,h2,G,Y]:=AH hj;let F:=r.9;let hn:=oy;let Z: ~~~(upd H p (.lst (xs.set j v))) { s with heap:=s.heap.update p (Obj.mapSeq (·.setIfInBounds j u)) }:=
  I.LO L ho (yG its n j u) (r.set rv j) (by rw[YF];show hz) s.toks
 cases U:0<=k
 .let hk:k.5=j:=by
   rw[acn U Y]at h1;show OR h1
  show PySem.W.ki_setAt ho U av (by rw[V9, <-F];show Y) (by rw[hk];show#[_,Z,q])
 .let hk:(k+(its.toArray.size:Int)).5=j:=by
   rw[seqIndex_neg av G]at h1;rw[V9, <-F];show OR h1
  show PySem.W.ki_setBack ho av (by rw[V9, <-F];show G) av (by rw[hk];show#[_,Z,q])
theorem um(lo hi:qAd)(n:Nat):(YM lo hi none n).1=((HT.qN n 0 lo:Nat):Int)/\(YM lo hi none n).2.1=((HT.qN n n hi:Nat):Int)/\(YM lo hi none n).2.2=1:=by
 show#[5,rfl]
 .cases lo with
  |none=>simp[YM,HT.qN]
  |some i =>
   simp only[YM,HT.qN,getD_none,show(1:Int)>0 by decide,if_true];cases h:i<0
   .simp only[h,if_true]<;>omega
   .simp only[h,if_false]<;>omega
 .cases hi with
  |none=>simp[YM,HT.qN]
  |some i =>
   simp only[YM,HT.qN,getD_none,show(1:Int)>0 by decide,if_true];cases h:i<0
   .simp only[h,if_true]<;>omega
   .simp only[h,if_false]<;>omega
theorem sF(its:qa6)(lo hi:qAd):slicePick its.8 lo hi none=((its.drop (HT.qN its.9 0 lo)).take (HT.qN its.9 its.9 hi-HT.qN its.9 0 lo)).8:=by
 let#[h1,h2,F]:=um lo hi its.toArray.size;unfold slicePick;rw[h1,h2,F];simp only[sliceRange_one,pick_run,V9]<;>rfl
inductive HZ(K:Wa)(x:V)(lo:qAd)(hi:qAd)(H:Hp)(Q:VK):Prop
 |mk(a:_)(xs:_)(_:x=.ref a)(_:a9 K H a xs)(_:∀p,H p=none->Q (.ref p) (upd H p (.lst (d8 xs lo hi))))
theorem bT:Q7 X (HZ X.K):=by
 intros x v vl vu lo hi sl Q I U hs pl Z h;let#[a,xs,rfl,G,q]:=h;cases U;let#[its,r,F,Y]:=I.list G;let L:=r.9;show#["list",_,slot_list_getitem.lookup,F.isList.typeIs,?_];show wpAny_getItem_list_slice F.isList hs pl Z .none (by simp) ?_ (by rw[V9]<;>omega);rw[sF, <-L];show#[95,I.laid (t':=s.toks) (o:=.lst (d8 xs lo hi)) (λb ob q=>zA4 _ q) (G0 _) ?_,29];show#[WK (xx xs lo hi) Y,_,(0),(r.drop (HT.qN xs.9 0 lo)).take (HT.qN xs.9 xs.9 hi-HT.qN xs.9 0 lo),37]
noncomputable def d9:V->Bool
 |.bh=>true
 |.bl _=>true
 |.int _=>true
 |.str _=>true
 |_=>false
noncomputable def jx:V->V->Bool
 |.bh,.bh=>true
 |.bl a,.bl b=>a==b
 |.bl a,.int b=>(if a then 1 else 0)==b
 |.int a,.bl b=>a==(if b then 1 else 0)
 |.int a,.int b=>a==b
 |.str a,.str b=>a==b
 |_,_=>false
variable{y x:V}{u v:Value}
theorem FQ{A:Wv}(G:RelV y u)(F:RelV x v)(L:d9 y=true)(I:d9 x=true):aar A s u v (jx y x):=by
 cases y with
 |bh =>
  cases G;cases x with
  |bh=>cases F;show aaB _
  |bl b=>cases F;show SeqAt.EqAt.none_bool b
  |int b=>let#[t,rfl]:=F;show SeqAt.EqAt.none_int b t
  |str b=>let#[t,rfl]:=F;show SeqAt.EqAt.none_str b t
  |_=>show absurd (show false=true from I) V7
 |bl a =>
  cases G;cases x with
  |bh=>cases F;show SeqAt.EqAt.bool_none a
  |bl b=>cases F;show SeqAt.EqAt.bool_bool a b
  |int b=>let#[t,rfl]:=F;show SeqAt.EqAt.bool_int a b t
  |str b=>let#[t,rfl]:=F;show SeqAt.EqAt.bool_str a b t
  |_=>show absurd (show false=true from I) V7
 |int a =>
  let#[t',rfl]:=G;cases x with
  |bh=>cases F;show SeqAt.EqAt.int_none a t'
  |bl b=>cases F;show SeqAt.EqAt.int_bool a t' b
  |int b=>let#[t,rfl]:=F;show SeqAt.EqAt.int_int a t' b t
  |str b=>let#[t,rfl]:=F;show abw a t' b t
  |_=>show absurd (show false=true from I) V7
 |str a =>
  let#[t',rfl]:=G;cases x with
  |bh=>cases F;show SeqAt.EqAt.str_none a t'
  |bl b=>cases F;show SeqAt.EqAt.str_bool a t' b
  |int b=>let#[t,rfl]:=F;show abx a t' b t
  |str b=>let#[t,rfl]:=F;show SeqAt.EqAt.str_str a t' b t
  |_=>show absurd (show false=true from I) V7
 |_=>show absurd (show false=true from L) V7
noncomputable def sM(x:V)(u:Value):Bool:=match u with
 |.none=>jx .bh x
 |.bool b=>jx (.bl b) x
 |.int i _=>jx (.int i) x
 |.str z _=>jx (.str z) x
 |_=>false
theorem uw(r:RelV y u)(f:d9 y=true):sM x u=jx y x:=by
 cases y with
 |bh=>cases r;rfl
 |bl b=>cases r;rfl
 |int i=>let#[t,rfl]:=r;rfl
 |str z=>let#[t,rfl]:=r;rfl
 |_=>show absurd (show false=true from f) V7
theorem mX{x:V}:∀{xs:qAf}{us:qa6},Vals xs us->xs.all d9=true->us.any (sM x)=xs.any λy=>jx y x
 |_,_,.nil,_=>rfl
 |y::xs,u::us,.cons r t,f=>by
  rw[acD,X8]at f;rw[abT,abT,uw r f.1,mX t f.2]
theorem ib{A:Wv}{s:sh}{x:V}{v:Value}(G:RelV x v)(I:d9 x=true):∀{xs:qAf}{us:qa6},Vals xs us->xs.all d9=true->∀u∈us,aar A s u v (sM x u)
 |_,_,.nil,_=>λu F=>by cases F
 |y::xs,u::us,.cons r t,f=>λL F=>by
  rw[acD,X8]at f;rcases We.mp F with rfl|F
  .rw[uw r f.1];show FQ r G f.1 I
  .show ib G I t f.2 L F
noncomputable def rJ(x:V)(xs:qAf):Bool:=xs.any λy=>jx y x
inductive Q9(K:Wa)(neg:Bool)(x:V)(y:V)(H:Hp)(Q:VK):Prop
 |mk(p:_)(xs:_)(_:y=.ref p)(_:(a9 K H p xs\/cX K H p xs))(_:d9 x=true)(_:xs.all d9=true)(_:Q (.bl (if neg then !rJ x xs else rJ x xs)) H)
theorem kH:lj X (W8 .In) (Q9 X.K false):=by
 intros x y v u Q I L Y h;let#[p,xs,rfl,F,U,fs,q]:=h;cases Y;rcases F with F|F
 .let#[its,r,pl,_]:=I.list F;show acs (sM x) pl.isList (λw G=>ib L U r fs w ‹G›) #[75,3];rw[show its.toArray.any (sM x)=its.any (sM x)by simp,mX r fs];show q
 .let#[its,r,pl,_]:=I.tuple F;show SeqAt.in_tupleAt (sM x) pl (λw G=>ib L U r fs w ‹G›) #[75,3];rw[show its.toArray.any (sM x)=its.any (sM x)by simp,mX r fs];show q
theorem jN:lj X (W8 .NotIn) (Q9 X.K true):=by
 intros x y v u Q I L Y h;let#[p,xs,rfl,F,U,fs,q]:=h;cases Y;rcases F with F|F
 .let#[its,r,pl,_]:=I.list F;show SeqAt.notIn_listAt (sM x) pl.isList (λw G=>ib L U r fs w ‹G›) #[75,3];rw[show its.toArray.any (sM x)=its.any (sM x)by simp,mX r fs];show q
 .let#[its,r,pl,_]:=I.tuple F;show SeqAt.notIn_tupleAt (sM x) pl (λw G=>ib L U r fs w ‹G›) #[75,3];rw[show its.toArray.any (sM x)=its.any (sM x)by simp,mX r fs];show q
theorem aM:eI X (.builtin "len") (λxs H Q=>∃p ys,xs=[.ref p]/\(a9 X.K H p ys\/cX X.K H p ys)/\Q (.int ys.9) H):=by
 intros xs us Q I r h;let#[p,ys,rfl,F,q]:=h;let#[u,rfl,U]:=vals1 r;cases U;let Z:=oy;rcases F with F|F
 .let#[its,L,pl,Y]:=I.list F;let G:=L.9;show Calls.call_len_list pl.isList (by simp only[V9]<;>omega) #[.int ys.9,H,I.tok _,#[s.toks+1,by rw[V9,G]],q]
 .let#[its,L,pl,Y]:=I.tuple F;let G:=L.9;show len_tuple pl (by simp only[V9]<;>omega) #[.int ys.9,H,I.tok _,#[s.toks+1,by rw[V9,G]],q]
theorem jS:eI X (.builtin "len") (λxs H Q=>∃z,xs=[.str z]/\z.9<=sizeLine/\Q (.int z.9) H):=by
 intros xs us Q I r h;let#[z,rfl,F,q]:=h;let#[u,rfl,t,rfl]:=vals1 r;let G:=oy;show len_str av #[.int z.9,85]
theorem cE:eI X (.type "list") (λxs H Q=>∃p ys,xs=[.ref p]/\(a9 X.K H p ys\/cX X.K H p ys)/\∀l,H l=none->Q (.ref l) (upd H l (.lst ys))):=by
 intros xs us Q I r h;let#[p,ys,rfl,U,q]:=h;let#[u,rfl,rx]:=vals1 r;cases rx;let fin:∀(its:qa6),Vals ys its->ys.9<=sizeLine->∀(h':Heap)(c':Nat),(∀b o',s.heap.get? b=some o'->h'.get? b=some o') ->
   h'.get? s⁻¹=some { cls:=.type "list",dict:=none,data:=.seq its.8 c',slots := ([].8) }->EP X pins σ Q (.ref s⁻¹) { s with heap:=h' }:=λits F L h' c' G e =>
  #[95,I.laid (t':=s.toks) G (G0 _) (show cp X.prog X.w _ h' _ (.lst ys)from#[L,its,c',F,e]),29]
 rcases U with U|U
 .let#[its,F,pl,L]:=I.list U;let Z:=F.9;let#[o,ho,Y,n,hd]:=pl.isList;show call_list_seq p (.inl rfl) ho Y hd (λh' c' G e=>fin its F L h' c' G e) (by simp only[V9]<;>omega)
 .let#[its,F,pl,L]:=I.tuple U;let Z:=F.9;let#[o,ho,Y,n,hd]:=pl;show call_list_seq p (.inr rfl) ho Y hd (λh' c' G e=>fin its F L h' c' G e) (by simp only[V9]<;>omega)
def Ur(K:Wa)(T:String)(x:V)(H:Hp):Prop:=match x with
 |.str _=>T = "str"
 |.int _=>T = "int"
 |.ref p=>(T = "list" /\ ∃xs,a9 K H p xs)\/(T = "tuple" /\ ∃o,K.lookup p=some o/\o.cls=.type "tuple" /\ o.dict=none) \/
   (T = "dict" /\ ((∃kvs,H p^^^kvs)\/∃kvs,H p=some (.dT kvs)))\/(T = "set" /\ ∃S n,H p=some (.set S n))
 |_=>False
variable{T:String}
theorem Eu(I: ~~~H s)(r:RelV x v)(ty:Ur X.K T x H) :
  s.TypeIs v T/\∀a,v=.ref a->∃G,s.heap.get? a=some G/\G.dict=none:=by
 cases x with
 |str z =>
  let#[t,rfl]:=r;cases(show T = "str" from ty);show#[Y2 s z t,λ_ e=>nomatch e]
 |int i =>
  let#[t,rfl]:=r;cases(show T = "int" from ty);show#[typeIs_int s i t,λ_ e=>nomatch e]
 |ref p =>
  cases r;rcases ty with⟨rfl,xs,U⟩|⟨rfl,o,hk,L,hd⟩|⟨rfl,hk⟩|⟨rfl,S,n,hk⟩
  .let#[its,_,pl,_]:=I.list U;show#[pl.isList.typeIs,λa e=>?_];cases e;let#[o,n,e,_,hd,_]:=pl;show#[o,e,hd]
  .show#[#[o,I.lS p o hk,L],λa e=>?_];cases e;show#[o,I.lS _ o hk,hd]
  .let z:∃o,s.heap.get? p=some o/\o.ExactDict:=by
    rcases hk with⟨kvs,hk⟩|⟨kvs,hk⟩
    .let#[_,_,_,_,o,_,_,e,ex,_]:=I.bL p _ hk;show#[o,e,ex]
    .let#[_,_,_,_,o,_,_,e,ex,_]:=I.bL p _ hk;show#[o,e,ex]
   let#[o,e,ex]:=z;show#[#[o,e,ex.1],λa F=>?_];cases F;show#[o,e,ex.2.1]
  .let#[o,_,_,_,e,ex,_]:=I.bL p _ hk;show#[#[o,e,ex.1],λa F=>?_];cases F;show#[o,e,ex.2.1]
 |_=>show XD ty
def Fb(K:Wa)(T:String)(r:V->List V->Hp->VK->Prop)(to:TE):TE:=λσ H Q=>to σ H λx H1=>Ur K T x H1/\r x [] H1 Q
def Vy(K:Wa)(T:String)(r:V->List V->Hp->VK->Prop)(to:TE)(t:TA):TE:=λσ H Q=>to σ H λx H1=>Ur K T x H1/\t σ H1 λxs H2=>r x xs H2 Q
variable{o:Ws}{to:TE}{name:Str}{apos cpos:XU}{id:String}{r:V->List V->Hp->VK->Prop}
theorem uT(Z:PlainAttrs T)(slot:Slot T name id)(U:typeOf (.builtin id)=pure (.type "method_descriptor"))(hm:Kv X id r)(ho:PE X o to)
  (ab:Xx o name X.env (eval o X.env)=eval o X.env:=by rfl) (Y:(apos.endLine==cpos.line)=true:=by rfl):PE X (.Call (.Attribute o name apos) [] [] cpos) (Fb X.K T r to):=by
 intros Q I h;show XC ab Y (cc (ho pins s σ H _ I h) λv s1 aa=>?_);let#[x,H1,F,G,ty,L]:=aa;let#[h1,h2]:=Eu F G ty;show#[T,id,Z,slot,U,h1,h2,Calls.callWith_builtin rfl (X5 (hm pins s1 σ H1 x [] v [] Q F G .nil L))]
theorem eP{es:qAe}{t:TA}(Z:PlainAttrs T)(slot:Slot T name id)(aj:typeOf (.builtin id)=pure (.type "method_descriptor"))(hm:Kv X id r)(ho:PE X o to)(ha:PA X (e::es) t)
  (ab:Xx o name X.env (eval o X.env)=eval o X.env:=by rfl)
  (aa:((backTo cpos (starEach (e::es) X.env)).all (λx => !x.1)&&(aaQ cpos (Zf [] X.env)).all (λx=>x.1.10)
   && decide ((e::es).9+([]:List aan).9+(if ([]:List aan).isEmpty then 0 else 1)<30))=true:=by rfl)
  (U:(apos.endLine==cpos.line)=true:=by rfl) (hs:qAh X e es:=by rfl) (ac:(backTo cpos (starEach es X.env)).any (·.1)=false:=by rfl) :
  PE X (.Call (.Attribute o name apos) (e::es) [] cpos) (Vy X.K T r to t):=by
 intros Q I h;show wpAny_Call_method_late ab aa U rfl (cc (ho pins s σ H _ I h) λv s1 ak=>?_);let#[x,H1,F,G,ty,q1]:=ak;let#[h1,h2]:=Eu F G ty;show#[T,id,Z,slot,aj,h1,h2,?_];let L:=ha cpos pins s1 σ H1 _ F q1;rw[hs]at L ⊢;show Calls.callWith_builtin (by change(false||(backTo cpos (starEach es X.env)).any (·.1))=false;rw[ac]<;>rfl) (Calls.evalArgs_plain ?_);show cc L λus Y ad=>by let#[vs,H2,I2,r2,q2]:=ad;show hm pins Y σ H2 x vs v us Q I2 G r2 q2
def IA(X:Cx)(id:String)(r:V->List V->Hp->VK->Prop):Prop :=
 ∀(pins:qa1)(s:sh)(σ:St)(H:Hp)(x:V)(xs:qAf)(v:Value)(us:qa6)(Q:VK),~~~H s->RelV x v->Vals xs us->r x xs H Q ->
  ↑(call (.builtin id) (v::us)) (EP X pins σ Q) X.xe s
theorem Vals.one:∀{x:V}{us:qa6},Vals [x] us->∃u,us=[u]/\RelV x u
 |_,_,.cons r .nil=>#[0,r]
theorem Vals.zero:∀{us:qa6},Vals [] us->us=[]
 |_,.nil=>rfl
theorem Vals.dropLast(h:Vals xs us):Vals xs.dropLast us.dropLast:=by
 induction h with
 |nil=>show .nil
 |cons r t F =>
  cases t with
  |nil=>show .nil
  |cons q t'=>show .cons r F
theorem Vals.rep{xs:qAf}{us:qa6}(h:Vals xs us):∀k:Nat,Vals (TN k xs).flatten (TN k us).11
 |0=>.nil
 |k+1=>by
  rw[Xz,Xz,XZ,XZ];show Vals.append h (Vals.rep h k)
theorem zE{α:Type}(l:List α):l.eraseIdx (l.9-1)=l.dropLast:=by
 induction l with
 |nil=>rfl
 |cons a r F =>
  cases r with
  |nil=>rfl
  |cons b r =>
   let e:(a::b::r).9-1=((b::r).9-1)+1:=by
    let h1:(a::b::r).9=r.9+2:=rfl;let h2:(b::r).9=r.9+1:=rfl;omega
   rw[e,List.eraseIdx_cons_succ,F]
   all_goals rfl
theorem foldl_rep(its:qa6):∀(k:Nat)(F:qa6),
  foldl (λG I=>G++I) F.8 (TN k its.8)=(F++(TN k its).11).8
 |0,F=>by simp
 |k+1,F=>by
  let e:F.8++its.8=(F++its).8:=(by simp);let L:(F++its)++(TN k its).11=F++(TN (k+1) its).11:=by
   rw[Xz,XZ,WI]
  rw[<-L, <-foldl_rep its k (F++its), <-e,Xz,List.foldl_cons]
variable{l:zB0}{t':Nat}
theorem Inv.IH{f:Array Value->Array Value}(I: ~~~H s)(F:H l∣xs)
  (e:s.heap.get? l=some { cls:=.type "list",data:=.seq its.8 n }) (Z:f its.8=its'.8) (G:Vals ys its') (Y:ys.9<=sizeLine) :
  ~~~(upd H l (.lst ys)) { s with heap:=s.heap.update l (Obj.mapSeq f),toks:=t' }:=by
 let q:=acd e f;rw[Z]at q;show I.write (x:=l) (e:=l) (by rw[F];show trivial) (.inl rfl) (λb' u U L=>(Heap.get?_update_other s.heap (Obj.mapSeq f) (zA3 U)).trans L) #[_,q] ?_;show#[Y,its',_,G,q]
theorem Inv.OO(I: ~~~H s)(F:Vals ys its)(G:ys.9<=sizeLine) :
  ~~~(upd H s⁻¹ (.lst ys)) { s with heap:=s.heap.push { cls:=.type "list",data:=.seq its.8 },toks:=t' }:=
 I.laid (λ_ _ q=>zA4 _ q) (G0 _) #[G,its,(0),F,37]
theorem Inv.fresh(I: ~~~H s):H s⁻¹=none:=I.bL.fresh (G0 _)
theorem Inv.pG(I: ~~~H s)(F:H l∣xs):xs.9<=sizeLine/\∃(its:qa6)(n:Nat),Vals xs its/\xs.9=its.9/\s.heap.get? l=some { cls:=.type "list",data:=.seq its.8 n }:=by
 let#[z,its,n,r,e]:=I.bL l _ F;show#[z,its,n,r,r.9,e]
def wM(h:n<=sizeLine):Builtin.List.listTooLong n=false:=by
 unfold Builtin.List.listTooLong;show zA2 av
inductive Bf(x:V)(vs:qAf)(H:Hp)(Q:VK):Prop
 |mk(l:_)(xs:_)(y:_)(_:x=.ref l)(_:vs=[y])(_:H l∣xs)(_:xs.9<sizeLine)(_:Q .bh (upd H l (.lst (xs++[y]))))
theorem iz:IA X "list.append" Bf:=by
 intros x vs v us Q I L U h;let#[l,xs,y,rfl,rfl,G,Z,q]:=h;cases L;let#[u,rfl,ru]:=U.one;let#[z,its,n,r,Y,e]:=I.pG G;show XG F.slot_list_append #[81] F.entry_list_append (F.args_list_append_2 _ _) (list_append l its.8 n u (by rw[V9];omega)) #[e,?_];show#[.bh,_,I.IH (its':=its++[u]) G e (by simp) (r.append (.cons ru .nil)) ?_,rfl,q];rw[ti,NC];omega
variable{b:zB0}{zs:qAf}
inductive Bk(x:V)(vs:qAf)(H:Hp)(Q:VK):Prop
 |mk(l:_)(b:_)(xs:_)(zs:_)(_:x=.ref l)(_:vs=[.ref b])(_:H l∣xs)(_:H b∣zs)(_:xs.9+zs.9<=sizeLine)(_:Q .bh (upd H l (.lst (xs++zs))))
theorem kP:IA X "list.extend" Bk:=by
 intros x vs v us Q I U Z h;let#[l,b,xs,zs,rfl,rfl,L,hB,hz,q]:=h;cases U;let#[u,rfl,ru]:=Z.one;cases ru;let#[_,its,n,r,hl,e]:=I.pG L;let#[_,G,n2,Y,ab,e2]:=I.pG hB;let hsz:its.toArray.size+G.toArray.size<=sizeLine:=(by rw[V9,V9];omega);let aa:¬ (!its.toArray.isEmpty&&Builtin.List.listTooLong (its.toArray.size+G.toArray.size))=true:=by
  rw[wM hsz,acE];show V7
 show XG F.slot_list_extend #[81] F.entry_list_extend (F.args_list_extend_2 _ _)
  (AutoSeq1.list_extend_list_list_0 l its.8 n b G.8 n2 aa (by rw[V9];omega) av) #[e,e2,?_]
 show#[.bh,_,I.IH (its':=its++G) L e (by simp) (r.append Y) ?_,rfl,q];rw[ti];omega
inductive OX(x:V)(vs:qAf)(H:Hp)(Q:VK):Prop
 |mk(l:_)(xs:_)(y:_)(_:x=.ref l)(_:vs=[])(_:H l∣xs)(_:xs[xs.9-1]?=some y)(_:Q y (upd H l (.lst xs.dropLast)))
theorem M0:IA X "list.pop" OX:=by
 intros x vs v us Q I Z rv h;let#[l,xs,y,rfl,rfl,G,hy,q]:=h;cases Z;let Y:=rv.zero;subst Y;let#[z,its,n,r,L,e]:=I.pG G;let#[u,U,ru]:=r.get hy;let aa:its.8[its.toArray.size-1]?=some u:=by
  change its.8[its.9-1]?=some u;rw[<-Yh, <-L];show U
 show XG F.slot_list_pop #[81] F.entry_list_pop (F.args_list_pop_1 _) (MeetsSeq.list_pop_last l its.8 n u aa (by rw[V9];omega)) #[e,?_];show#[y,_,I.IH (its':=its.dropLast) G e ?_ r.dropLast ?_,ru,q]
 .change its.toArray.eraseIdxIfInBounds (its.toArray.size-1)=its.dropLast.8;rw[V9,List.eraseIdxIfInBounds_toArray,zE]
 .rw[List.length_dropLast];omega
inductive EO(x:V)(vs:qAf)(H:Hp)(Q:VK):Prop
 |mk(l:_)(xs:_)(_:x=.ref l)(_:vs=[])(_:H l∣xs)(_:Q .bh (upd H l (.lst [])))
theorem FI:IA X "list.clear" EO:=by
 intros x vs v us Q I U Y h;let#[l,xs,rfl,rfl,G,q]:=h;cases U;let L:=Y.zero;subst L;let#[z,its,n,_,Z,e]:=I.pG G;show XG F.slot_list_clear #[81] F.entry_list_clear (F.args_list_clear_1 _) (AutoSeq1.list_clear_list_0 l its.8 n (by rw[V9];omega)) #[e,?_];show#[.bh,_,I.IH (its':=[]) (ys:=[]) G e rfl .nil (Xr _),rfl,q]
inductive PL(x:V)(y:V)(H:Hp)(Q:VK):Prop
 |mk(l:_)(b:_)(xs:_)(zs:_)(_:x=.ref l)(_:y=.ref b)(_:H l∣xs)(_:H b∣zs)(_:xs.9+zs.9<=sizeLine)(_:∀p,H p=none->Q (.ref p) (upd H p (.lst (xs++zs))))
theorem cZ:lj X (Yx .Add) PL:=by
 intros x y v u Q I L U h;let#[l,b,xs,zs,rfl,rfl,G,hB,hz,q]:=h;cases L;cases U;let#[_,its,n,r,hl,e]:=I.pG G;let#[_,F,n2,Y,aa,e2]:=I.pG hB;show PySem.P.add_list e e2 ?_ (by rw[V9,V9];omega);let Z:its.8++F.8=(its++F).8:=(by simp);rw[Z];show#[.ref _,_,I.OO (t':=s.toks) (r.append Y) (by rw[ti];omega),rfl,q _ I.fresh]
inductive QA(x:V)(y:V)(H:Hp)(Q:VK):Prop
 |mk(l:_)(k:_)(xs:_)(_:x=.ref l)(_:y=.int k)(_:H l∣xs)(_ : -(2^63)<=k)(_:k<2^63)(_:xs.9*k.5<=sizeLine)(_:∀p,H p=none->Q (.ref p) (upd H p (.lst (TN k.5 xs).11)))
theorem len_rep{α:Type}(xs:List α)(k:Nat):(TN k xs).flatten.9=k*xs.9:=by
 induction k with
 |zero=>simp
 |succ k F=>rw[Xz,XZ,ti,F,Nat.succ_mul,abU]
theorem jP:lj X (Yx .Mult) QA:=by
 intros x y v u Q I rx ry h;let#[l,k,xs,rfl,rfl,hH,h1,h2,Y,q]:=h;cases rx;let#[t,rfl]:=ry;let#[_,its,n,r,hl,e]:=I.pG hH;let ac:its.toArray.size*k.5<=sizeLine:=(by rw[V9, <-hl];show Y);let Z:¬ its.toArray.size*k.5>(2^63-1)/8:=by
  have:(sizeLine:Nat)<=(2^63-1)/8:=aE;omega
 let ab:¬ (!Builtin.List.listFitsIndex k)=true:=by
  rw[fitsIndex_both h1 h2];show V7
 let aa:¬ Builtin.List.listTooLong (its.toArray.size*k.5)=true:=by
  rw[wM ac];show V7
 let ad:foldl (λL G=>L++G) ([].8) (TN (if its.toArray.isEmpty=true then 0 else k.5) its.8)=(TN k.5 its).flatten.8:=by
  let f0:∀m:Nat,foldl (λL G=>L++G) ([].8) (TN m its.8)=(TN m its).flatten.8:=λm=>by
   have:=foldl_rep its m [];rw[ZI]at this;show this
  rw[f0];cases its with
  |nil=>simp
  |cons a r'=>rw[acV (by simp)]
 show wpAny_binaryOp_repeat_ref (T := "list") (U := "int") aE #[81] (λs'=>typeIs_int s' k t) noFill_list_mul F.fills_int_mul F.slot_int_rmul repeat_list F.slot_int_index.lookup
  (XG F.slot_int_rmul (typeIs_int s k t) F.entry_int_rmul (F.args_int_rmul_2 _ _) (int___rmul___int_list k t l its.8 n)
   #[e,rfl,#[81],XG F.slot_list_mul #[81] F.entry_list_mul (F.args_list_mul_2 _ _) (AutoListH.list___mul___list_int_3 l its.8 n k t ab Z aa) #[e,?_]])
 rw[ad];show#[.ref _,_,I.OO (t':=s.toks) (r.rep k.5) (by rw[len_rep,Nat.mul_comm];show Y),rfl,q _ I.fresh]
end L2
namespace Att
open PySem PySem.W PySem.Calls PyProof.Rows
variable{P:Params}{h:Heap}
theorem pH:∀(ns:qAa)(vs:qa6),WellAll P h vs (ns.map WData.int)->Yg vs ns:=by
 intro ns
 induction ns with
 |nil =>
  intro vs w;rwa[acz]at w;show .nil
 |cons n ns F =>
  intro vs w;rw[Wy]at w;cases w with
  |cons a b =>
   cases a;show .cons _ _ (F _ b)
variable{l:Zh}{n:Nat}
theorem Cy(hn:l.most=some n){args:List WData}{I:qa6}
  (U:l.row.toRowW.claim.pre args=true) (Z:WellAll P h I args) :
  ∃a vs ns,I=[Value.ref a]/\args=[WData.list (ns.map WData.int)]/\h.get? a=some { cls:=.type "list",data:=.seq vs.8 }/\Yg vs ns/\ns.9<=n:=by
 let ab:WShape.hasAll [] args [.list .int]=true:=(pre_splitW U).1;let L:l.pre.holds [] { args:=args }=true:=(pre_splitW U).2;let#[d,r,rfl,h1,h2]:=hasAllW_cons ab;obtain rfl:=hasAllW_nil h2;let#[xs,rfl,Y]:=hasW_list h1;let#[ns,rfl]:=items_int Y;let aa:ns.9<=n:=by
  unfold OpenLaw.pre at L;let F:(WTm.not (.lt (.lit (.int (n:Int))) (.len (.arg 0)))).holds [] { args:=[.list (ns.map .int)] }=true:=by
   let F:=(holds_andW L).1;rw[hn]at F;show F
  let G:=condW_of F (w_not (w_lt w_lit (w_len_list (w_arg rfl))));rw[dM]at G;show aca λq=>?_;let q':(n:Int)<((ns.9:Nat):Int):=av
  first
   |(rw[zA1 q']at G;show absurd G aE)
   |(simp at G;omega)
 cases Z with
 |cons w1 w2 =>
  cases w2;cases w1 with
  |list ho ac=>show#[2,ns,1,ho,pH ns _ ac,aa]
theorem C6(l:Zh)(args:List WData):l.row.toRowW.claim.post args (.bool true) args=true :=
 postW_of (r:=l.row.toRowW) (X:=(true==true))
  (show WShape.has [] (.bool true) .bool=true by first|rfl|decide|simp[WShape.has,WShape.arms,WShape.armsAll])
  (show(WTm.eq .res (.lit (.bool true))).value [] { args:=args,res:=some (.bool true),after:=args }=some (.bool (true==true))from w_eq_bool (w_res rfl) w_lit) rfl
theorem xU{q:BY}{loose:qAb}{XP:(Str->Option Value)->Heap->Prop}{YP:Oi->Heap->Prop}{d:DefRec}
  (hn:l.most=some n) (ad:d.params.defaults=[])
  (call:∀(w:Oi)(s₀ F:sh)(mg L:qa3)(I:zB0)(o:Obj)(pm cd U:Value)(a:zB0)(vs:qa6)(ns:qAa),
   Ground q loose [] XP w s₀ mg L F.heap->YP w F.heap ->
   F.heap.get? I=some o->o.data=.func (docDef d.name d.params d.body d.scope pm cd U)->F.heap.CodeRec cd d.name->mg d.name=some (.ref I) ->
   F.heap.get? a=some { cls:=.type "list",data:=.seq vs.8 }->Yg vs ns->ns.9<=n->F.gens = ([].8) ->
   aal (model l.prog w) abe (.call (.ref I) #[135]) (λr s'=>r=.ok (.ret (.bool true))/\OldK F.heap s'.heap/\s'.os=F.os/\Zx s'.gens) F) :
  acA q loose XP YP l.row.toRowW d [] (λf vs=>acF f vs):=by
 intro w s₀ F mg L G Y I o pm cd U dV kV ho hd ak Z am hg args aB as ap aK ar aa _;obtain rfl:dV=.none:=Dflts.none Z ad;obtain rfl:kV=.none:=Dflts.noKw Z;let#[a,vs,ns,rfl,rfl,ab,ac,aj]:=Cy hn ap aa;show enter_call (aam (call w s₀ F mg L I o pm cd U a vs ns G Y ho (fd_plain hd) ak am ab ac aj hg) λr s' hq=>?_);let#[rfl,h2,h3,h4]:=hq;show#[.inl #[.bool true,.bool true,[],rfl,λ_=>rfl,.bool true,C6 l _,λ_=>#[List.Pairwise.nil,λ_ hm=>(nomatch hm)]],h2,h3,h4]
end Att
namespace L2
open PySem PySem.Spec PyProof.Rows
theorem oW:∀{vs:qa6}{ns:qAa},Yg vs ns->Vals (ns.map V.int) vs
 |_,_,.nil=>.nil
 |_,_,.cons n t h=>.cons #[t,rfl] (oW h)
def MY(H:Hp):Prop:=∀b,H b=none\/∃o xs,H b=some (.frz o (.lst xs))
variable{P:BY}{w:Oi}{mg:qa3}{k:Nat}{fd:DO}{x:Str}
theorem Ed{K:Wa}{Z:qa3}{CX:p7}{fa a:zB0}{sp:Sp}{G:sh}{vs:qa6}{ns:qAa}
  (KX:K.In G.heap) (ab:G.heap.Ns WB mg) (I:G.heap.Ns builtinsNs Z) (am:∀x:Str,x ≠ "__name__" -> Z x=WT x) (aB:G.heap.NoLimit) (hg:G.gens = ([].8))
  (U:G.heap.get? a=some { cls:=.type "list",data:=.seq vs.8 }) (hi:Yg vs ns) (hl:ns.9<=sizeLine) (hr:dX k abe)
  (F:∀base:Heap,K.In base->base.Ns WB mg->aU P w K mg base CX k fa fd [x] sp) (aj:∀(s:sh)(u:Value),abP s fd #[[u],[]] [(x,u)])
  (as:∀H:Hp,MY H->a9 K H a (ns.map V.int)->sp [.ref a] H (λv _=>v=.bl true) λ_ _ _=>False)
  (aK:∀H e s',CX [] H G (λ_ _ _=>False) e s'->False) :
  aal (model P w) abe (.call (.ref fa) #[135]) (λr s'=>r=.ok (.ret (.bool true))/\OldK G.heap s'.heap/\s'.os=G.os/\Zx s'.gens) G:=by
 let rv:=oW hi;let ap:=hi.9;let ac:∀H:Hp,MY H->a9 K H a (ns.map V.int)->lF P w H G.heap->(∀b,H b≠none->b=a)->(H a≠none->K.lookup a=none) ->
   aal (model P w) abe (.call (.ref fa) #[135]) (λr s'=>r=.ok (.ret (.bool true))/\OldK G.heap s'.heap/\s'.os=G.os/\Zx s'.gens) G:=by
  intro H hO hS bL hA hK;let aa:∀{b:zB0}{o:Obj},G.heap.get? b=some o->H b=none->(vd G.heap H).get? b=some o:=λe n=>DH e n;let ak:∀{b:zB0}{o:Obj}{es:Array DictEntry}{ep:Nat},G.heap.get? b=some o->o.data=.dict es ep->H b=none:=λ{b o es ep} e d=>by
   cases q:H b with
   |none=>rfl
   |some u =>
    let e':b=a:=hA b (by rw[q];simp);subst e';rwa[U]at e;let d':Data.seq vs.8 _=Data.dict es ep:=d;cases d'
  let Y:∀{b:zB0}{m:qa3},G.heap.Ns b m->(vd G.heap H).Ns b m:=λ{b m} aP=>(by let#[o,es,ep,e,d,r]:=aP;show#[o,es,ep,aa e (ak e d),d,r]);let ad:K.In (vd G.heap H):=λb o e=>aa (KX b o e) (by
   cases q:H b with
   |none=>rfl
   |some u =>
    let e':b=a:=hA b (by rw[q];simp);subst e';rwa[hK (by rw[q];simp)]at e)
  let hM:Mod K mg (vd G.heap H):=#[ad,Y ab,#[Z,Y I,am],let ⟨mc,h1,h2⟩:=aB;#[mc,Y h1,h2]];let e0:zg P w K mg (vd G.heap H) abe [] G H:=#[rfl,hM,λb o e=>Jk e,Nat.le_of_eq (CS _ _),trivial,λb I=>absurd (show b∈([]:qAc)from I) (by simp),bL,.of_eq hg];show aam ((F _ ad (Y ab)).run abe [] G H #[135] [.ref a] [.ref a] _ _ hr e0 (aj G (.ref a)) (.cons rfl .nil) (as H hO hS)) λr s' h=>?_;cases r with
  |error e=>show(aK H e s' h).elim
  |ok fl =>
   cases fl with
   |next=>show XD h
   |brk=>show XD h
   |cont=>show XD h
   |ret u =>
    let#[v,H',os,bare,un,ar,r',q]:=h;let q':v=.bl true:=q;subst q';obtain rfl:u=Value.bool true:=r';show#[rfl,OldK.of_keep λb o e=>?_,os,bare];cases q:H b with
    |none=>show un.keep b o e q (by intro z;show absurd (show b∈([]:qAc)from z) (by simp)) (by simp)
    |some u =>
     rcases hO b with z|⟨ob,xs,z⟩
     .rw[q]at z;cases z
     .let z2:=un.sP b ob _ z;let#[e1,_]:=bL b _ z;let#[e2,_]:=ar b _ z2;rwa[e]at e1;show e2
 cases hk:K.lookup a with
 |some o =>
  let e:=KX a o hk;rwa[U]at e;show ac (λ_=>none) (λ_=>.inl rfl) (.inr #[_,vs.8,_,hk,1,rfl,by rw[V9,ap];show hl,by simpa using rv]) (λb u z=>by let L:(none:Option HO)=some u:=z;cases L) (λb z=>absurd rfl z) λz=>absurd rfl z
 |none =>
  show ac (λb=>if b=a then some (.frz { cls:=.type "list",data:=.seq vs.8 } (.lst (ns.map V.int)))else none) (λb=>?_) (.inl (.inr #[{ cls:=.type "list",data:=.seq vs.8 },acW rfl])) (λb u z=>?_) (λb z=>?_) λ_=>hk
  .cases I:b=a
   .show .inr #[2,acW I]
   .show .inl (acV I)
  .cases I:b=a
   .let L:=(acW I).symm.trans z;cases L;subst I;show#[U,by rw[dM];show hl,vs,_,rv,U]
   .let L:=(acV I).symm.trans z;cases L
  .cases I:b=a
   .show I
   .show absurd (acV I) z
theorem IW{l:Zh}{n:Nat}{q:BY}{loose:qAb}{XP:(Str->Option Value)->Heap->Prop}{Z:Oi->Heap->Prop}{d:DefRec}{K:Params->Wa}{CX:Oi->p7}{sp:Oi->Sp}
  (hn:l.most=some n) (aa:n<=sizeLine) (ad:d.params.defaults=[]) (hr:dX k abe)
  (hY:∀(w:Oi)(h:Heap),Z w h->(K w.params).In h)
  (F:∀(w:Oi)(mg:qa3)(I:zB0)(h:Heap),(K w.params).In h->h.Ns WB mg->mg d.name=some (.ref I) ->
   ∃fd:DO,(∀(s:sh)(u:Value),abP s fd #[[u],[]] [(x,u)]) /\
    ∀base:Heap,(K w.params).In base->base.Ns WB mg->aU l.prog w (K w.params) mg base (CX w) k I fd [x] (sp w))
  (am:∀(w:Oi)(H:Hp)(a:zB0)(ns:qAa),ns.9<=n->MY H->a9 (K w.params) H a (ns.map V.int)->sp w [.ref a] H (λv _=>v=.bl true) λ_ _ _=>False)
  (aj:∀(w:Oi)(H:Hp)(s:sh)(e:Value)(s':sh),CX w [] H s (λ_ _ _=>False) e s'->False) :
  acA q loose XP Z l.row.toRowW d [] (λf vs=>acF f vs):=by
 show Att.xU hn ad λw s₀ ak mg mb I o pm cd ar a vs ns G Y _ _ _ ap ab ac U hg=>?_;let L:=hY w _ Y;let#[fd,hb,hF]:=F w mg I _ L G.T.g ap;show Ed L G.T.g G.T.b G.T.builtins G.T.nolimit hg ab ac (WK U aa) hr hF hb (λH hO hS=>am w H a ns U hO hS) λH e s'=>aj w H ak e s'
def inClass(s:Wo)(j:Nat):Wo:=match s with
 |.ClassDef _ _ _ body _ _ _ _ _ _ _=>body.getD j (.Pass #[36,36])
 |_=>.Pass #[36,36]
noncomputable def hZ(s:Wo):Arguments:=match s with
 |.FunctionDef _ a _ _ _ _ _ _ _ _=>a
 |_=>{ posonlyargs:=[],args:=[],vararg:=none,kwonlyargs:=[],kw_defaults:=[],kwarg:=none,defaults:=[] }
noncomputable def eW(s:Wo):List Wo:=match s with
 |.FunctionDef _ _ b _ _ _ _ _ _ _=>b
 |_=>[]
noncomputable def ax(s:Wo):Zr:=match s with
 |.FunctionDef _ _ _ _ _ _ F _ _ _=>F
 |_=>{ kind:=.function,names:=[],isGenerator:=false,isCoroutine:=false }
abbrev ba:p7:=λ_ _ _ _ _ _=>False
abbrev E0:XK:=λ_ _ _=>False
variable{X:Cx}
def aD:Passes ba X E0:=λ_ _ _ _ _ _ _ h=>h.elim
structure b4(K:Wa)(x qual:Str)(st:Wo)(f:zB0)(fd:DO):Prop where
 ex:∃(oc:Value)(od:qa8)(kV doc pm:Value)(an:qa8)(cdv ct:Value)(osl:Array (Option Value)),
  fd=fnOf x qual (hZ st) (eW st) (ax st) .none kV doc pm an cdv ct/\K.lookup f=some #[oc,od,.func fd,osl]/\acC K cdv qual=true
 kp:Xc K (.ref f)=true
variable{K:Wa}{base:Heap}{st:Wo}{f:zB0}{N ps:qAb}{sp:Sp}
theorem b4.ok{I:Str}(F:b4 K x I st f fd)(S:aA N ps (ax st))(len:∀vs H Q E,sp vs H Q E->vs.9=ps.9)
  (L:∀(G:Value)(A:Wv)(outer:List Env)(s:sh)(H:Hp)(vs:qAf)(Q:VK)(E:XK),dX k (A.deeper (ZH I (ax st) s⁻¹ f G))->sp vs H Q E ->
   let X:=(vq ba P w K mg base N I (ax st) f G A outer s H E).pd
   let D:Ends:={ nx:=λ_ H'=>Q .bh H',rt:=Q }
   ∃t,uv X (eW st) t/\t D (start N vs) H):↥aU (k+1) f fd ps sp:=by
 let#[oc,od,kV,ab,pm,an,G,ct,aa,rfl,lk,Y]:=F.ex;show Kj lk Y S len λA outer s H vs Q E Z U=>?_;let#[t,h,q]:=L G A outer s H vs Q E Z U;show#[t,h.pd,q]
theorem b4.dg{qual:Str}(F:b4 K x qual st f fd)(S:aA N ps (ax st))
  (hb:∀(cdv:Value)(A:Wv)(outer:List Env)(s:sh)(H:Hp)(vs:qAf)(Q:VK)(E:XK)(hr:dX k (A.deeper (ZH qual (ax st) s⁻¹ f cdv)))(h:sp vs H Q E),let X:=(vq ba P w K mg base N qual (ax st) f cdv A outer s H E).pd
   let D:Ends:={ nx:=λ_ H'=>Q .bh H',rt:=Q }
   ∃t,uv X (eW st) t/\t D (start N vs) H) (len:∀vs H Q E,sp vs H Q E->vs.9=ps.9:=by intro vs H Q E h;first|(cases h<;>subst_vars<;>rfl)|((repeat let#[_,h]:=h);all_goals(subst_vars;rfl))):↥aU (k+1) f fd ps sp:=F.ok S len hb
theorem b4.binds{L:Str}(F:b4 K x L st f fd)
  (h:∀(kV I pm:Value)(an:qa8)(G ct:Value)(us:qa6),us.9=ps.9->abQ (fnOf x L (hZ st) (eW st) (ax st) .none kV I pm an G ct) #[us,[]]=pure (ps.zip us)):Binds K fd ps []:=by
 let#[oc,od,kV,I,pm,an,G,ct,U,rfl,_,_]:=F.ex;show .all (h kV I pm an G ct)
theorem oj{F:Str}{oc:Value}{od an:qa8}{L:Array (Option Value)}{kV I pm G ct:Value}(l:K.lookup f=some #[oc,od,.func (fnOf x F (hZ st) (eW st) (ax st) .none kV I pm an G ct),L])
  (c:acC K G F=true) (k:Xc K (.ref f)=true):b4 K x F st f (fnOf x F (hZ st) (eW st) (ax st) .none kV I pm an G ct):=#[#[oc,od,kV,I,pm,an,G,ct,L,rfl,l,c],k]
def aX{A:Wv}(F:dX k A):A.units+1<Yy:=Nat.lt_of_le_of_lt (abh (by decide:1<=64) _) F.units
theorem pv(i:Nat){pos:XU}(G:X.N[i]?=some x:=by rfl)(F:Rj X.env.scope x:=by first|show Y3 rfl|show acP (Y3 rfl)|show acP (acP rfl))(hd:(x==("__debug__" : Str))=false:=by decide)
  (I:(x==("__classdict__" : Str))=false:=by decide):PE X (.Name x pos) (fX i):=LG G F hd I
variable{A B:Prop}
def bA(h:B):if false=true then A else B:=by
 rw[acV V7];show h
def bU(h:A):if true=true then A else B:=by
 rw[acW rfl];show h
theorem cQ{c:Prop}[Decidable c](h1:c->A)(h2:¬ c->B):if c then A else B:=by
 cases h:c
 .rw[acW h];show h1 h
 .rw[acV h];show h2 h
def aO(H H':Hp):Prop:=∀b o,H b=some o->H' b=some o
def aO.refl(H:Hp):aO H H:=λ_ _ h=>h
variable{H:Hp}
def aO.trans{H1 H2:Hp}(a:aO H H1)(b:aO H1 H2):aO H H2:=λc o h=>b c o (a c o h)
def aO.free{H':Hp}(e:aO H H'){l:zB0}(h:H' l=acS):H l=acS:=by
 cases q:H l with
 |none=>rfl
 |some o =>
  rwa[e l o q]at h
end L2
namespace PySem
open PySem.Sem (wp)
end PySem
namespace Srt
open PySem PyProof.Rows PySem.W
section
structure Od(n:Nat)(le:Nat->Nat->Bool)(cmp:Nat->Nat->(Bool->sh->Prop)->sh->Prop)(s:sh):Prop where
 pos:0<n
 ask:∀{i j:Nat}{C:Bool->sh->Prop},i<n->j<n->C (!le j i) s->cmp i j C s
 inj:∀{i j:Nat},i<n->j<n->le i j=true->le j i=true->i=j
 tr:∀{i j k:Nat},le i j=true->le j k=true->le i k=true
 aC:∀{i j:Nat},¬ le i j=true->le j i=true
abbrev Pn(n:Nat)(p:Array Nat):Prop:=p.Perm (Wu n).8
abbrev kt(le:Nat->Nat->Bool)(p:Array Nat)(i j:Nat):Prop:=le (p.getD i 0) (p.getD j 0)=true
variable{n:Nat}{p:Array Nat}
def Pn.sz(h:Pn n p):p.3=n:=by simpa using h.size_eq
theorem Pn.lt(h:Pn n p)(F:0<n)(i:Nat):p.getD i 0<n:=by
 cases c:i<p.3
 .have:=(Yq.mp h).mem_iff.mp (show p[i]∈p.7 by simp);simpa[abC,c]using this
 .simpa[abC,c]using F
variable{le:Nat->Nat->Bool}{cmp:Nat->Nat->(Bool->sh->Prop)->sh->Prop}{s:sh}{i j:Nat}
theorem Pn.ne(h:Pn n p)(O:Od n le cmp s)(hi:i<j)(F:j<n)(a:kt le p i j)(b:kt le p j i):False:=by
 let sz:=h.sz;let e:=O.inj (h.lt O.pos i) (h.lt O.pos j) a b;let nd:p.toList.Nodup:=(Yq.mp h).nodup_iff.mpr ‹aaS›;have:=W3.mp nd i j (by simp;omega) (by simp;omega) hi;simp[abC,show i<p.3 by omega,show j<p.3 by omega]at e;show this ‹e›
def Od.rf(O:Od n le cmp s):le i i=true:=WJ λc=>c (O.aC c)
theorem Od.qu(O:Od n le cmp s)(h:Pn n p){α:Type}{k:Bool->KasT α}{Q:α->sh->Prop}(t:¬ kt le p j i->(k true).kasWp cmp Q s)(f:kt le p j i->(k false).kasWp cmp Q s):(KasT.ask (p.getD i 0) (p.getD j 0) k).kasWp cmp Q s:=O.ask (h.lt O.pos _) (h.lt O.pos _) (by
 rcases c:le (p.getD j 0) (p.getD i 0) with _|_
 .show t λz=>V7 (c.symm.trans z)
 .show f c)
def SA(le:Nat->Nat->Bool)(p:Array Nat)(m:Nat):Prop:=∀i j,i<=j->j<m->kt le p i j
abbrev DA(le:Nat->Nat->Bool)(p:Array Nat)(m:Nat):Prop:=SA (λi j=>le j i) p m
theorem SA.step{le:Nat->Nat->Bool}{p:Array Nat}{m:Nat}(rf:∀{i},le i i=true)(tr:∀{i j k},le i j=true->le j k=true->le i k=true)(hs:SA le p m)(c:kt le p (m-1) m):SA le p (m+1):=λi j F G=>by
 cases z:j<m
 .show hs i j F z
 .obtain rfl:j=m:=av;cases y:i=j
  .rw[y];show rf
  .show tr (hs i (j-1) av av) c
theorem asc(O:Od n le cmp s)(h:Pn n p){Q:Nat->sh->Prop}:∀f m,m+f=n->1<=m->SA le p m->(∀m,1<=m->m<=n->SA le p m->(m=n\/¬ kt le p (m-1) m)->Q m s)->(kas_asc p f m).kasWp cmp Q s
 |0,m,e,h1,hs,k=>k m h1 av hs (.inl e)
 |f+1,m,e,h1,hs,k=>O.qu h (λc=>k m h1 av hs (.inr c)) (λc=>asc O h f (m+1) av av (hs.step O.rf O.tr c) k)
theorem desc(O:Od n le cmp s)(h:Pn n p){Q:Array Nat×Nat×Nat->sh->Prop}:∀f m,m+f=n->1<=m->DA le p m->(∀m,1<=m->m<=n->DA le p m->Q (p,m,0) s)->(kas_desc f p m 0).kasWp cmp Q s
 |0,m,e,h1,hs,k=>k m h1 av hs
 |f+1,m,e,h1,hs,k=>O.qu h (λc=>desc O h f (m+1) av av (hs.step O.rf (λa b=>O.tr b a) (O.aC c)) k) (λc=>O.qu h (i:=m-1) (j:=m) (λ_=>k m h1 av hs) λd=>(h.ne O (i:=m-1) (j:=m) av av c d).elim)
variable{Q:Nat×Array Nat->sh->Prop}
theorem tail3(O:Od n le cmp s)(h:Pn n p){m:Nat}(h1:1<=m)(G:m<=n)(hd:DA le p m)(k:∀m p,Pn n p->1<=m->m<=n->SA le p m->Q (m,p) s):(kas_tail3 m n p).kasWp cmp Q s:=by
 unfold kas_tail3;rw[YC];let F:Pn n (kas_rev p 0 m):=(mirror_perm ..).trans h;show asc O F (n-m) m av h1 (λi j L I=>?_) λm' a b c _=>k m' _ F a b c;let e:∀k,k<m->(kas_rev p 0 m).getD k 0=p.getD (m-1-k) 0:=λk hk=>by
  have:=getElem?_mirror_all (xs:=p) (i:=0) (j:=m) (by rw[h.sz];show G) k;rw[acW #[Xr _,hk],show 0+m-1-k=m-1-k by omega]at this;rw[XO,XO];show congrArg (λx=>Option.getD x 0) this
 unfold kt;rw[e i av,e j I];show hd _ _ av av
theorem count(O:Od n le cmp s)(h:Pn n p)(k:∀m p,Pn n p->1<=m->m<=n->SA le p m->Q (m,p) s):(kas_count n p).kasWp cmp Q s:=by
 have:=O.pos;unfold kas_count;rw[YC];show asc O h (n-1) 1 av (G0 _) (λi j U I=>by rw[show i=j by omega];show O.rf) λm h1 F hs L=>?_;cases e:m=n
 .rw[acW ‹e›];show k m p h h1 F hs
 .rw[acV ‹e›];let G:=L.resolve_left e;cases g:m>1
  .rw[acW g];show O.qu h (λ_=>k m p h h1 F hs) λd=>(h.ne O (i:=0) (j:=m-1) av av (hs 0 (m-1) av av) d).elim
  .rw[acV g];obtain rfl:m=1:=av;unfold kas_descPart;rw[YC];show desc O h (n-2) 2 av av (SA.step O.rf (λa b=>O.tr b a) (λi j U I=>by rw[show i=j by omega];show O.rf) (O.aC G)) λm' a b hd=>?_;rw[acV (X7 0)];show tail3 O h a b hd k
theorem place(O:Od n le cmp s)(h:Pn n p){k:Nat}(hs:SA le p k){Q:Nat->sh->Prop}:∀f l r,r-l<=f->l<=r->r<=k->(∀i,i<l->kt le p i k)->(∀i,r<=i->i<k->kt le p k i)->(∀l,l<=k->(∀i,i<l->kt le p i k)->(∀i,l<=i->i<k->kt le p k i)->Q l s)->(kas_place p k f l r).kasWp cmp Q s
 |0,l,r,e,G,F,h1,h2,q=>by
  obtain rfl:l=r:=av;show q l F h1 h2
 |f+1,l,r,e,G,F,h1,h2,q=>by
  unfold kas_place;cases g:l>=r
  .rw[acW g];obtain rfl:l=r:=av;show q l F h1 h2
  .rw[acV g];show O.qu h (λc=>place O h hs f l ((l+r)/2) av av av h1 (λi a b=>O.tr (O.aC c) (hs _ _ a b)) q)
    (λc=>place O h hs f ((l+r)/2+1) r av av F (λi a=>O.tr (hs _ _ av av) c) h2 q)
theorem bin(O:Od n le cmp s){Q:Array Nat->sh->Prop}:∀f p k,Pn n p->k+f=n->SA le p k->(∀p,Pn n p->SA le p n->Q p s)->(kas_bin f p k).kasWp cmp Q s
 |0,p,k,h,e,hs,q=>q p h (by rw[<-e];show hs)
 |f+1,p,k,h,e,hs,q=>by
  unfold kas_bin;rw[YC];show place O h hs k 0 k (G0 _) (Xr _) (G0 _) (λi a=>absurd a (aaT _)) (λi a b=>absurd a av) λl lk h1 h2=>?_;show bin O f _ (k+1) ((bubble_perm ..).trans h) av (λi j I L=>?_) q;let e:∀i,(bubble p k (k-l)).getD i 0=if i=l then p.getD k 0 else if l<i/\i<=k then p.getD (i-1) 0 else p.getD i 0:=λi=>by
   have:=getElem?_bubble (xs:=p) (src:=k) (by rw[h.sz];omega) (k-l) (Nat.sub_le _ _) i;rw[show k-(k-l)=l by omega]at this;rw[XO,this];split
   .rw[XO]
   .split<;>rw[XO]
  unfold kt;rw[e i,e j];cases c1:i=l
  .rw[acW c1];cases c2:j=l
   .rw[acW c2];show O.rf
   .rw[acV c2,acW av];show h2 _ av av
  .rw[acV c1];cases c2:j=l
   .rw[acW c2,acV av];show h1 _ av
   .rw[acV c2];cases G:l<i/\i<=k
    .rw[acW G,acW av];show hs _ _ av av
    .rw[acV G];cases F:l<j/\j<=k
     .rw[acW F];show hs _ _ av av
     .rw[acV F];show hs _ _ I av
theorem sorts(O:Od n le cmp s){Q:Array Nat->sh->Prop}(q:∀p,Pn n p->SA le p n->Q p s):(kas_sort n).kasWp cmp Q s:=by
 unfold kas_sort;rw[YC];show count O (.refl _) λm p h h1 F hs=>?_;dsimp only;rw[Nat.max_eq_left h1];cases c:m<n
 .rw[acW c];show bin O _ p m h av hs q
 .rw[acV c];obtain rfl:m=n:=av;show q p h hs
variable{prog:BY}{w:Oi}{A:Wv}{E:qa2}{κ:aaU}{vs:qa6}{α:Type}{num:Value->α}{le:α->α->Bool}
structure Ln(le:α->α->Bool):Prop where
 tr:∀a b c,le a b=true->le b c=true->le a c=true
 aC:∀a b,(le a b||le b a)=true
 Tp:∀{a b},le a b=true->le b a=true->a=b
def OC(prog:BY)(w:Oi)(A:Wv)(κ:aaU)(num:Value->α)(le:α->α->Bool)(vs:qa6)(s:sh):Prop:=∀x∈vs,∀y∈vs,∀Q:Bool->sh->Prop,Q (!le (num y) (num x)) s->wpAny (model prog w) A (keyLt' κ x y) Q (λ_ _=>False) s
theorem Cm(N:Ln le)(nd:(vs.map num).4)(L:OC prog w A κ num le vs s)(h2:2<=vs.9)(aa:vs.9<64):kasC (model prog w) A E sortRuns' (λ_ st s'=>yd (s'=s) (failedOf st=none) (((arrOf st).map (·.2)).toList.Perm vs/\((arrOf st).map (·.2)).toList.Pairwise λx y=>le (num x) (num y)=true)) (SortSt.mk' κ (aas vs) ([].8) 7 none) s:=by
 let I:=pairsOf_size vs;let Y:∀{i:Nat},i<(aas vs).3->∃h:i<vs.9,vs.getD i Value.none=vs[i]:=λh=>#[by rw[<-I];show h,by simp[<-I,h]];have:=kas_runs (prog:=prog) (w:=w) (A:=A) (E:=E) (κ:=κ) (it:=aas vs) (n:=(aas vs).3) (s:=s) (Q:=λ_ st s'=>yd (s'=s) (failedOf st=none) (((arrOf st).map (·.2)).toList.Perm vs/\((arrOf st).map (·.2)).toList.Pairwise λx y=>le (num x) (num y)=true)) (G:=λp s'=>s'=s/\Pn (aas vs).size p/\SA (λi j=>le (num (vs.getD i Value.none)) (num (vs.getD j Value.none))) p (aas vs).3) (by rw[I];show h2) (by rw[I];show aa) (λp st s' hz ac hf ⟨e,hp,hs⟩=>?_) (sorts (le:=λi j=>le (num (vs.getD i Value.none)) (num (vs.getD j Value.none))) #[by rw[I];omega,λ{i j C} hi F h=>?_,λ{i j} hi F a b=>?_,λ{i j k} a b=>N.tr _ _ _ a b,λ{i j} a=>?_] λp a b=>#[rfl,a,b])
 .unfold kas_st at this
  (rw[kas_range]at this;assumption)
 .let U:((arrOf st).map (·.2)).7=p.toList.map λi=>vs.getD i Value.none:=by
   rw[ac];simp only[Array.map_map,ace];show Xs λi _=>by change(kas_item (aas vs) i).2=_;rw[aco]
  show#[e,hf,5]
  .rw[U];have:=(Yq.mp hp).map λi=>vs.getD i Value.none
   (rw[I,show(Wu vs.9).toArray.toList.map (λi=>vs.getD i Value.none)=vs from List.ext_getElem (by simp) λi a b=>by simp[b]]at this;assumption)
  .rw[U,Xa,W3];intro i j hi F ab;rw[Xe]at hi F;have:=hs i j (Yo ab) (by rw[<-hp.sz];show F);simpa[kt,abC,hi,F]using this
 .unfold kas_cmp;rw[aco,aco];let#[a,U]:=Y hi;let#[b,Z]:=Y F;show L _ (by rw[U];show Xo a) _ (by rw[Z];show Xo b) _ h
 .let e:=N.Tp a b;let#[a,U]:=Y hi;let#[b,Z]:=Y F;rw[U,Z]at e;show(aaN (h₀:=by simpa using a) (h₁:=by simpa using b) nd).mp (by rw[aaV,aaV];show e)
 .have:=N.aC (num (vs.getD i Value.none)) (num (vs.getD j Value.none))
  (rw[W0.mpr a]at this;assumption)
noncomputable def pM(s:sh)(a:zB0)(vs:qa6):sh:={ s with heap:=((s.heap.update a (Obj.mapSeq λ_ => ([].8))).push (seqObj "tuple" vs.toArray 0)).push (seqObj "list" ([].8) 0) }
theorem rC{a:zB0}{P:Fin->sh->Prop}(F:s.heap.get? a=some (seqObj "list" vs.toArray n))(hz:vs.9<=63)(N:Ln le)(k1:(vs.map num).4)(hL:OC prog w A κ num le vs (pM s a vs))(hK:2<=vs.9->∀Q:aaU->sh->Prop,Q κ (pM s a vs)->wpAny (model prog w) A (keyKind' vs.8) Q E (pM s a vs))
  (k:∀out:Array Value,out.toList.Perm vs->(out.toList.Pairwise λx y=>le (num x) (num y)=true)->P (.done (.ret .none)) { s with heap:=sortedHeap s.heap a vs out }):wpAny (model prog w) A (Builtin.«list.sort» #[135]) P E s:=by
 let lz:sizeLine=16777216:=DD;rw[list_sort_plain];let lt:=zA6 F;show u5 (listItems_at F rfl (u5 (abr F rfl ?_ (by simp only[V9];omega))));obtain⟨ep,I⟩:∃ep,(s.heap.update a (Obj.mapSeq λ_ => ([].8))).get? a=some (seqObj "list" ([].8) ep):=#[_,get?_update_seq F λ_ => ([].8)];show u5 (acp I rfl (u5 (wpAny_newTuple (u5 (abt (Yw ?_))))));let G:(pM s a vs).heap.get? a=some (seqObj "list" ([].8) ep):=by
  let l1:a<((s.heap.update a (Obj.mapSeq λ_ => ([].8))).push (seqObj "tuple" vs.toArray 0)).objs.3:=(by rw[Y4,zA8];show ZV lt);unfold pM;rw[zA7 _ _ _ (WZ l1),zA7 _ _ _ (by rw[zA8];show WZ lt)];show I
 change wpAny (model prog w) A _ P E (pM s a vs);dsimp only;cases two:vs.toArray.size<2
 .rw[acW two,acW two];show u5 (Wi ?_);rw[StateT.run_pure];show u5 (Wi (u5 (acp G rfl (u5 (abr G rfl ?_ (Xr _) ?_)))))
  .simp only[bne_self_eq_false,abD,if_false];let U:((vs.toArray.zip vs.8).map (·.2)).7=vs:=by
    rw[ace];show(congrArg (aaW (·.2)) (pairsOf_toList vs)).trans (List.map_snd_zip (G0 _))
   show Wi (k _ (by rw[U]) ?_);rw[U,W3];intro i j hi hj Y;rw[V9]at two;show absurd Y av
  .change(Array.map (λx:Keyed=>x.2) (vs.toArray.zip vs.8)).3<=sizeLine+1;rw[Array.size_map];change(aas vs).3<=sizeLine+1;rw[pairsOf_size];omega
 .rw[acV two,acV two];rw[V9]at two;show u5 (hK av _ (u5 (W4 (Cm N k1 hL av av) ?_ λ_ _ e=>e)));rintro⟨⟨⟩,aa⟩ s' ⟨rfl,q2,L,Z⟩;dsimp only;show u5 (acp G rfl (u5 (abr G rfl ?_ (Xr _) ?_)))
  .rw[q2];simp only[bne_self_eq_false,abD,if_false];show Wi (k _ L Z)
  .change(Array.map (λx:Keyed=>x.2) (arrOf aa)).3<=sizeLine+1;have:=L.length_eq;rw[Xe]at this;rw[this];omega
noncomputable def KY(s:sh)(vs:qa6):sh:={ s with heap:=((s.heap.push (seqObj "list" ([].8) 0)).update s⁻¹ (Obj.mapSeq (· ++ vs.8))).push (seqObj "list" vs.toArray 0) }
theorem pF{l:zB0}{Q:qa2}(Y:s.heap.IsList l vs.8)(I:vs.9<=63)(N:Ln le)(k1:(vs.map num).4)(L:∀A,OC prog w A κ num le vs (pM (KY s vs) (s⁻¹+1) vs))(U:2<=vs.9->∀(A:Wv)(Q:aaU->sh->Prop),Q κ (pM (KY s vs) (s⁻¹+1) vs)->wpAny (model prog w) A (keyKind' vs.8) Q E (pM (KY s vs) (s⁻¹+1) vs))
  (k:∀out:Array Value,out.toList.Perm vs->(out.toList.Pairwise λx y=>le (num x) (num y)=true)->Q (.ref (s⁻¹+1)) { s with heap:=sortedAll s.heap vs out }):wpAny (model prog w) A (call (.builtin "sorted") [.ref l]) Q E s:=by
 let Z:sizeLine=16777216:=DD;show Calls.call_function_entry kind_sorted plain_sorted entry_sorted (args_sorted1 _) ?_;show u5 (m:=checkCount "sorted" 1 1 _) (Wi (u5 (collect_list Y (u5 (abt ?_)) av)));let G:((s.heap.push (seqObj "list" ([].8) 0)).update s⁻¹ (Obj.mapSeq (· ++ vs.8))).objs.3=s⁻¹+1:=(by rw[zA8,Y4]);let F:=zA5 ((s.heap.push (seqObj "list" ([].8) 0)).update s⁻¹ (Obj.mapSeq (· ++ vs.8))) (o:=seqObj "list" vs.toArray 0) rfl;rw[G]at F;change wpAny _ _ _ _ _ (KY s vs);rw[G];show u5 (Yw (X9 slot_list_sort #[_,F,rfl] entry_list_sort (rC (s:=KY s vs) F I N k1 (L _) (λh Q=>U h _ Q) λout w1 w2=>#[0,Wi #[0,k out w1 w2]]) (args_list_sort _)))
end
def Ou(a b:Int):Bool:=decide (a<=b)
theorem Nq:Ln Ou:=#[λa b c h1 h2=>zA1 (Int.le_trans (zA0 h1) (zA0 h2)),λa b=>by unfold Ou;rcases Int.le_total a b with h|h<;>simp[h],λh1 h2=>Int.le_antisymm (zA0 h1) (zA0 h2)]
variable{prog:BY}{w:Oi}{A:Wv}{s:sh}{vs:qa6}
theorem ltI(h:∀v∈vs,∃n t,v=Value.int n t):OC prog w A oneType' numOf Ou vs s:=λx F y G Q q=>by
 let#[a,t,rfl]:=h x F;let#[b,u,rfl]:=h y G;show kat_lt_int ?_;rw[show decide (a<b) = !Ou b a by unfold Ou;rw[<-decide_not];show decide_eq_decide.mpr Int.not_le.symm];show q
theorem ints_map:∀{vs:qa6},(∀v∈vs,∃n t,v=Value.int n t)->Yg vs (vs.map numOf)
 | [],_=>.nil
 |v::vs,h=>by
  let#[n,t,rfl]:=h v Wn;show .cons n t (ints_map λu F=>h u (Wm _ F))
theorem qG:∀{vs:qa6}{ns:qAa},Yg vs ns->∀v∈vs,∃n t,v=Value.int n t
 |_,_,.nil,v,h=>by cases h
 |_,_,.cons n t r,v,h=>by
  rcases We.mp h with rfl|h
  .show#[n,t,rfl]
  .show qG r v h
variable{E:qa2}{ns:qAa}
theorem Ck(F:Yg vs ns)(h2:2<=vs.9){Q:aaU->sh->Prop}(q:Q oneType' s):wpAny (model prog w) A (keyKind' vs.8) Q E s:=by
 match vs,h2,F with
 | [],h2,_=>show absurd h2 aE
 | [_],h2,_=>show absurd h2 (by rw[NC];decide)
 |G::v2::I,_,F=>rw[keyKind_ints F];show Wi q
theorem E8(I:Yg vs ns){out:qa6}(G:out.Perm vs)(hs:out.Pairwise λx y=>Ou (numOf x) (numOf y)=true):∃F,Yg out F/\F.Perm ns/\F.Pairwise (· <= ·):=
 #[_,ints_map λv h=>qG I v (G.mem_iff.mp h),by rw[<-I.nums];show G.map _,Xa.mpr (hs.imp λh=>zA0 h)]
theorem CL{a:zB0}{n:Nat}{P:Fin->sh->Prop}(I:s.heap.get? a=some (seqObj "list" vs.toArray n))(G:Yg vs ns)(L:ns.4)(Y:vs.9<=63)
  (k:∀(out:qa5)(F:qAa),Yg out.7 F->F.Perm ns->F.Pairwise (· <= ·)->P (.done (.ret .none)) { s with heap:=sortedHeap s.heap a vs out }):wpAny (model prog w) A (Builtin.«list.sort» #[135]) P E s :=
 rC I Y Nq (by rw[G.nums];show L) (ltI (qG G)) (λh2 Q q=>Ck G h2 q) λout w1 w2=>by
  let#[F,z1,z2,U]:=E8 G w1 w2;show k out F z1 z2 U
end Srt
namespace L2
open PySem PySem.Spec PyProof.Rows
noncomputable def pE(X:Cx)(F:qAb)(scope:Zr)(cl:List (Str×zB0))(C:zB0)(s₀:sh)(H₀:Hp)(ex:qAc):Cx where
 prog:=X.prog
 w:=X.w
 K:=X.K
 mg:=X.mg
 base:=X.base
 A:=X.A
 N:=F
 s₀:=s₀
 H₀:=H₀
 env:=acG scope cl C X.env
 outer:=X.stack
 stack:=X.stack
 ex:=ex
 fn:=λ_=>false
 calm:=X.calm
 pn:=[]
 xe:=λ_ _=>False
def Bz(t:Str)(caps:List (Str×Nat)):List Str:=t::caps.map (·.1)
noncomputable def mH(caps:List (Str×Nat))(σ:St)(v:Option V):St:=v::caps.map λp=>(σ[p.2]?).join
def fo(ts:qAb)(caps:List (Str×Nat)):List Str:=ts++caps.map (·.1)
noncomputable def qJ(caps:List (Str×Nat))(σ vs:St):St:=vs++caps.map λp=>(σ[p.2]?).join
structure so(X:Cx)(scope:Zr)(cl:List (Str×zB0))(ts:qAb)(caps:List (Str×Nat)):Prop where
 kind:scope.kind=.function
 yC:∀y∈scope.names,y.2≠.cell
 names:∀y∈scope.names,y.2=.local->scope.names.lookup y.1=some .local
 FU:closureFor scope X.env=pure cl
 sub:∀p∈cl,X.env.cells.lookup p.1=some p.2
 has:((relabel scope X.env).names.all λy => !(y.2 == .cell||y.2 == .free)||(cl.lookup y.1).10)=true
 Sx:∀p∈caps,X.N[p.2]?=some p.1/\(X.env.kindOf p.1=some .cell\/X.env.kindOf p.1=some .free)/\((relabel scope X.env).names.lookup p.1=some .cell\/(relabel scope X.env).names.lookup p.1=some .free)
 nd:(fo ts caps).4
structure tE(X:Cx)(scope:Zr)(cl:List (Str×zB0))(t:Str)(caps:List (Str×Nat)):Prop where
 kind:scope.kind=.function
 yC:∀y∈scope.names,y.2≠.cell
 names:∀y∈scope.names,y.2=.local->scope.names.lookup y.1=some .local
 VE:scope.names.lookup t=some .local
 FU:closureFor scope X.env=pure cl
 sub:∀p∈cl,X.env.cells.lookup p.1=some p.2
 has:((relabel scope X.env).names.all λy => !(y.2 == .cell||y.2 == .free)||(cl.lookup y.1).10)=true
 Sx:∀p∈caps,X.N[p.2]?=some p.1/\(X.env.kindOf p.1=some .cell\/X.env.kindOf p.1=some .free)/\((relabel scope X.env).names.lookup p.1=some .cell\/(relabel scope X.env).names.lookup p.1=some .free)
 nd:(Bz t caps).4
variable{X:Cx}{scope:Zr}{cl:List (Str×zB0)}{ts:qAb}{caps:List (Str×Nat)}{x:Str}
def so.look(K:so X scope cl ts caps){c:zB0}(h:cl.lookup x=some c):X.env.cells.lookup x=some c:=K.sub (x,c) (Xu h)
theorem so.hs(K:so X scope cl ts caps)(h:(relabel scope X.env).names.lookup x=some .cell\/(relabel scope X.env).names.lookup x=some .free):∃c,cl.lookup x=some c:=by
 let F:∀k,(relabel scope X.env).names.lookup x=some k->(k==NameKind.cell||k==NameKind.free)=true->∃c,cl.lookup x=some c:=λk e hk=>by
  have:=Xp.mp K.has (x,k) (Xu e);dsimp only at this;rw[hk]at this;show Xy.mp ‹this›
 rcases h with h|h
 .show F _ h rfl
 .show F _ h rfl
variable{pins:qa1}{σ:St}{H:Hp}{s:sh}{C:zB0}{fp:qAc}
theorem Vu(I: ~~~H s)(K:so X scope cl ts caps)(G:∀b∈fp,js X pins H b)(ho:∀b∈fp,b<s⁻¹)(L:s⁻¹<=C):(pE X (fo ts caps) scope cl C s H fp).Ok where
 mod:=I.ok.mod
 kind:=K.kind
 glob:=I.ok.glob
 blt:=I.ok.blt
 above:=L
 inj:=λx y c h1 h2=>I.ok.inj x y c (K.look h1) (K.look h2)
 has:=λx U=>K.hs U
 LA:=λx _ h=>nomatch (show false=true from h)
 hd:=I.ok.hd
 frames:=I.ok.frames
 Oq:=.inl rfl
 Q8:=λb F=>#[WZ (WS (ho b F) L),λx c e=>(G b F).2.2.2.2.1 x c (K.look e)]
 bs:=I.bs
 GZ:=WK I.ok.GZ I.sz
 yw:=λb o e F=>by
  rcases(G b F).2.2.2.1 with z|z
  .show I.ok.yw b o e z
  .show absurd (WS (zA6 e) (WK I.ok.GZ z)) (X7 _)
 za:=λb F Y=>by
  rcases We.mp (I.vh b Y)with e|e
  .show(G b F).2.1 e
  .show(G b F).2.2.1 e
 l9:=I.stack
 Jp:=I.vb
theorem T7{h₁:Heap}{m:qa3}{tk:Nat}(I: ~~~H s)(K:so X scope cl ts caps)(hf:∀b∈fp,js X pins H b)(ho:∀b∈fp,b<s⁻¹)(hC:s⁻¹<=C)
  (old:∀b o,s.heap.get? b=some o->h₁.get? b=some o) (ns:h₁.Ns C m):Inv (pE X (fo ts caps) scope cl C s H fp) [] (qJ caps σ (ts.map λ_=>none)) H { s with heap:=h₁,toks:=tk }:=by
 let Z:∀c v,s.heap.IsCell c v->h₁.IsCell c v:=λc v ad=>(by let#[o,e,d]:=ad;show#[o,old c o e,d]);show#[Vu I K hf ho hC,rfl,I.bare,Un.kept old,#[m,ns,λi x v e1 e2 e3=>?_],λx c e=>?_,I.bL.fresh hC,λx c e=>I.i7 x c (K.look e),λp L=>absurd (show p∈([]:qa1)from L) (by simp),I.bL.kept old,by simp[qJ,fo,pE]]
 .let ln:(ts.map λ_=>(none:Option V)).9=ts.9:=dM ..;let F:(ts.map (λ_=>(none:Option V))++caps.map λp=>(σ[p.2]?).join)[i]?=some (some v):=e2;rcases Nat.lt_or_ge i ts.9 with hi|hi
  .rw[Wj (by rw[ln];show hi),LW]at F;let#[_,_,z]:=HC.mp F;cases z
  .let G:(ts++caps.map (·.1))[i]?=some x:=e1;rw[Wb hi,LW]at G;rw[Wb (by rw[ln];show hi),LW,ln]at F;generalize i-ts.9=j at G F;cases L:caps[j]? with
   |none=>rwa[L]at G
   |some p =>
    rw[L]at G F;let ex:p.1=x:=OR G;let U:(σ[p.2]?).join=some v:=OR F;let ac:σ[p.2]?=some (some v):=by
     cases q:σ[p.2]? with
     |none=>rwa[q]at U
     |some z=>rw[q]at U;show congrArg some U
    let#[hN,hk,aa]:=K.Sx p (L1 L);subst ex;let#[m',_,hl]:=I.loc;let ab:Rj X.env.scope p.1:=by
     rcases hk with z|z
     .show .inr (.inl z)
     .show .inr (.inr z)
    let#[u,r,l]:=hl p.2 p.1 v hN ac ab;let#[c,hc]:=K.hs aa;rcases l with⟨z,_⟩|⟨_,c',Y,aj⟩
    .rcases hk with y|y<;>(rwa[y]at z)
    .rw[K.look hc]at Y;cases Y;show#[u,r,.inr #[aa,c,hc,Z c _ aj]]
 .let#[v,z]:=I.cell x c (K.look e);show#[v,Z c v z]
def tE.g{t:Str}(K:tE X scope cl t caps):so X scope cl [t] caps:=#[K.kind,K.yC,K.names,K.FU,K.sub,K.has,K.Sx,K.nd]
variable{ys:qAf}{its:qa6}{n:Nat}
theorem Inv.QL{D:zB0}(I: ~~~H s)(f:js X pins H D)(e:s.heap.get? D=some { cls:=.type "list",data:=.seq its.8 n })(r:Vals ys its)(hz:ys.9<=sizeLine) :
  ~~~(upd H D (.lst ys)) s:=by
 let#[G,f1,f2,Y,L,U]:=f;let#[Z,g,d,tk,os]:=s;show I.step (g':=g) (d':=d) (t':=tk) (h':=Z) (ch:=[D]) (λb F=>?_) (λb o _ _ _ e _=>e) (λb o _ _ _ e _=>#[o.slots,e]) (λb o F _ n=>?_) (λb o _ e=>#[o,e]) (λb xs q=>?_) (λb o u q=>?_) (λb ps q=>#[([].8),?_]) (λm hm=>hm) (λb u q=>?_) I.bare
 .let z:b=D:=‹F›;subst z;show#[Y,f1,L,U]
 .rw[ay (λz=>F (by simp[z]))];show n
 .rw[ay (bb q G)];show q
 .rw[ay (bb q G)];show q
 .rw[ay (bb q G),q];simp
 .cases F:b=D
  .subst F;rwa[ag]at q;show#[hz,its,n,r,e]
  .rw[ay F]at q;show(I.bL b u q).jj (λ_ _ _ z=>z) (λc z=>by rw[ay (bb z G)];show z) λc xs z=>by rw[ay (bb z G)];show z
def NN(X:Cx)(ifs:qAe)(t:TT):Prop :=
 ∀(pins:qa1)(s:sh)(σ:St)(H:Hp)(Q:Bool->Hp->Prop),~~~H s->t σ H Q ->
  ↑(forIn ifs true λc r=>if r=true then do let ok <-isTrue c X.env (eval c X.env);pure (acu ok)else pure (acu r)) (TP X pins σ Q) X.xe s
def pN:TT:=λ_ H Q=>Q true H
def eX:NN X [] pN:=λ_ _ _ H _ I h=>wpAny_tests_nil #[H,I,h]
def iw{c:Ws}{t:TT}(h:PT X c t):NN X [c] t:=λpins s σ H Q I q=>wpAny_tests_one (h pins s σ H Q I q)
def wB(n:Nat)(caps:List (Str×Nat))(g:TG)(tt:TT)(te:TE)(σ:St)(J:It)(Q:List V->Hp->Prop)(W:Nat->Nat->List V->Hp->Prop):Prop :=
 ∀i m ys H,W i m ys H->(J.stop i H/\Q ys H)\/(J.go i H/\∃N:List V->Hp->Prop,(∀G H',N G H'->∃m',m'<m/\W (i+1) m' G H')/\∀x H',J.OB i H x H'->∀vs:St,vs.9=n->g x (qJ caps σ vs) H' λF H1=>∃us:St,us.9=n/\F=qJ caps σ us/\tt F H1 λc H2 =>
  if c=true then te F H2 (λy I=>ys.9<sizeLine/\N (ys++[y]) I)else N ys H2)
def jz(caps:List (Str×Nat))(tt:TT)(te:TE)(σ:St)(J:It)(Q:List V->Hp->Prop)(W:Nat->Nat->List V->Hp->Prop):Prop :=
 ∀i m ys H,W i m ys H->(J.stop i H/\Q ys H)\/(J.go i H/\∃N:List V->Hp->Prop,(∀F H',N F H'->∃m',m'<m/\W (i+1) m' F H')/\∀x H',J.OB i H x H'->tt (mH caps σ (some x)) H' λb H2 =>
  if b=true then te (mH caps σ (some x)) H2 (λy G=>ys.9<sizeLine/\N (ys++[y]) G)else N ys H2)
def Gb(caps:List (Str×Nat))(wi:TI)(tt:TT)(te:TE):TE:=λσ H Q=>wi σ H λJ H1 =>
 ∃W:Nat->Nat->List V->Hp->Prop,(∃m,W 0 m [] H1)/\jz caps tt te σ J (λys H2=>∀p,H2 p=none->Q (.ref p) (upd H2 p (.lst ys))) W
section
variable{ts:qAb}{tg:Ws}{g:TG}
theorem kq{elt iter:Ws}{ifs:qAe}{pos:XU}{tt:TT}{te:TE}{J:It}{it:zB0}{tn:Nat->Heap->Prop}{W:Nat->Nat->List V->Hp->Prop}{QE:List V->Hp->Prop}{E:qa2}{RR:Value->zB0->Result->sh->Prop}{m0:Nat}
  (K:so X scope cl ts caps) (hc:X.calm=true)
  (bY:∀C s₀ H₀ ex,PG (pE X (fo ts caps) scope cl C s₀ H₀ ex) tg g)
  (ht:∀C s₀ H₀ ex,NN (pE X (fo ts caps) scope cl C s₀ H₀ ex) ifs tt) (he:∀C s₀ H₀ ex,PE (pE X (fo ts caps) scope cl C s₀ H₀ ex) elt te)
  (I: ~~~H s) (T:Turn X.prog X.w X.K tg J fp it tn) (st:tn 0 s.heap) (Z:∀b∈fp,js X pins H b) (w0:W 0 m0 [] H) (hW:wB ts.9 caps g tt te σ J QE W)
  (fin:∀D C ys H' s' m,H' D=none->~~~(upd H' D (.lst ys)) s'->s'.heap.Ns C m->js X pins (upd H' D (.lst ys)) C->QE ys H'->RR (.ref D) C (.ok .next) s') :
  ↑(newList []) (λa0 ab=>↑(newFunctionEnv scope X.env.globals cl [] X.env.qual none .none (some X.env)) (λbe bn =>
   aal (model X.prog X.w) X.A (.compStart (.ListComp elt [#[tg,39]] scope pos) 0 (.ref it) a0 { be with scope:=relabel scope X.env }) (RR a0 be.locals) bn) E ab) E s:=by
 show ZW (wpAny_newFunctionEnv K.yC (by intro y hy;simp at hy) (λh₁ aj ad=>?_) K.kind);dsimp only at aj ad ⊢;generalize ap:s.heap.push { cls:=.type "list",dict:=none,data:=.seq ([]:qa6).8 }=H2 at aj ad ⊢;let hC:H2.objs.3=s⁻¹+1:=(by rw[<-ap,zA9]);let ac:s⁻¹≠H2.objs.3:=(by rw[hC];show WZ (Zy _));let ar:s⁻¹<=H2.objs.3:=(by rw[hC];show abd _);let below:∀b,b<s⁻¹->b≠H2.objs.3:=λb G=>(by rw[hC];show WZ (ZV G));let old:∀b o,s.heap.get? b=some o->h₁.get? b=some o:=λb o e=>ad.extBut b o (below b (zA6 e)) (zA4 _ (ap▸zA4 _ e));let bN:h₁.get? s⁻¹=some { cls:=.type "list",data:=.seq ([]:qa6).8 }:=ad.extBut _ _ ac (zA4 _ (ap▸zA5 _ rfl));let ho:∀b∈fp,b<s⁻¹:=λb G=>let ⟨_,e,_⟩:=T.obj 0 _ st b G;zA6 e;let aP:s⁻¹∉fp:=λhm=>X7 _ (ho _ hm);let aK:tn 0 h₁:=T.keep 0 _ _ st λb _ o e=>old b o e;let bR:s⁻¹∉sL X.stack:=λz=>by
  rcases We.mp (I.vh _ z)with e|e
  .show absurd (e▸I.lt) (X7 _)
  .show I.QN (G0 _) e
 let bx:∀x c,cl.lookup x=some c->c≠s⁻¹:=λx c e z=>by
  let#[v,q]:=I.cell x c (K.look e);show absurd (z▸q.lt) (X7 _)
 let ak:∀{pl:qa1}{L:Hp},(∀b∈fp,L b=none)->(∀p∈pl,p.1∉fp)->∀b∈fp,js (pE X (fo ts caps) scope cl H2.objs.3 s H fp) pl L b:=λ{pl L} hn Y b G =>
  #[hn b G,below b (ho b G),(Vu I K Z ho ar).za b G,.inl G,λx c e=>(Z b G).2.2.2.2.1 x c (K.look e),λp b2 z=>by
   let ci:p∈pl:=b2;show Y p ci (z▸G)]
 let bd:∀ab:sh,ab={ s with heap:=h₁,toks:=s.toks+([]:List (Str×Value)).9 } ->
   aal (model X.prog X.w) X.A (.compLoop (.ListComp elt [#[tg,39]] scope pos) 0 (.ref it) (.ref s⁻¹) (acG scope cl H2.objs.3 X.env)) (RR (.ref s⁻¹) H2.objs.3) ab:=by
  rintro ab rfl;show codeAny_loop rfl (λn s'=>∃i ys its nn L vs,vs.9=ts.9/\Inv (pE X (fo ts caps) scope cl H2.objs.3 s H fp) [] (qJ caps σ vs) L s'/\tn i s'.heap/\(∀b∈fp,L b=none)/\L s⁻¹=none /\
   s'.heap.get? s⁻¹=some { cls:=.type "list",data:=.seq its.8 nn }/\Vals ys its/\ys.9<=sizeLine/\W i n ys L) (λn s' hI=>?_) m0
   #[(0),[],[],(0),H,_,dM ..,T7 I K Z ho ar old aj,aK,λb G=>(Z b G).1,I.bL.fresh (G0 _),bN,.nil,Xr _,w0]
  let#[i,ys,its,nn,L,vs,lv,I3,a6,a7,as,e3,r3,z3,w3]:=hI;change wpAny _ X.A ((compTurn (.ListComp elt [#[tg,39]] scope pos) 0 (.ref it) (.ref s⁻¹) (acG scope cl H2.objs.3 X.env)).onRaise (λx=>do noteFrame x (acG scope cl H2.objs.3 X.env);theTreesLotGoes x)) _ _ s';show wpAny_noted ?_;rw[compTurn_list];let aT:Inv (pE X (fo ts caps) scope cl H2.objs.3 s H fp) [(s⁻¹, { cls:=.type "list",data:=.seq its.8 nn })] (qJ caps σ vs) L s':=I3.qg λp Y=>by
   let ep:p=(s⁻¹, { cls:=.type "list",data:=.seq its.8 nn }):=‹Y›;subst ep;show#[e3,as,ac,bR,λv z=>by cases(show Data.seq its.8 nn=Data.cell v from z)]
  let pD:∀p∈[((s⁻¹:zB0),({ cls:=.type "list",data:=.seq its.8 nn }:Obj))],p.1∉fp:=λp Y=>by
   let ep:p=(s⁻¹, { cls:=.type "list",data:=.seq its.8 nn }):=‹Y›;subst ep;show aP
  rcases hW i n ys L w3 with⟨bW,q⟩|⟨go,N,hN,step⟩
  .show u5 (Z4 (u5 (cc (T.done (pE X (fo ts caps) scope cl H2.objs.3 s H fp) rfl rfl rfl hc i _ s' _ L _ aT (ak a7 pD) a6 bW) λr s4 bm=>?_)));let#[hr,I4]:=bm;subst hr;show Wi ?_;let I5: ~~~L s4:=I.EM (ch:=fp) I4.os I4.base I4.bL I4.bare λb G=>#[(Z b G).2.2.2.1,(Z b G).2.1,(Z b G).2.2.2.2.1,(Z b G).2.2.2.2.2];let e4:=(I4.pin _ (By _ Wn)).1;let fD:js X pins L s⁻¹:=I.nQ (G0 _) as;let I6:=I5.QL fD e4 r3 z3;let#[m,hn,_]:=I4.loc;show fin _ _ ys L s4 m as I6 hn (I.nQ ar ?_) q;rw[ay (zA3 ac)];show I4.free
  .show u5 (Z4 (u5 (cc (T.item (pE X (fo ts caps) scope cl H2.objs.3 s H fp) rfl rfl rfl hc i _ s' _ L _ aT (ak a7 pD) a6 go) λr s4 ca=>?_)));let#[u,hr,h4]:=ca;subst hr;show u5 (cc h4 λ_ s5 bl=>?_);let#[x,H5,I5,r5,y5,am,bv]:=bl;let bF:=I5.pinned (ak bv pD) (T.obj _ _ am);let pd:∀{α:Type}{tr:ZC α}{Q:α->sh->Prop}{E':qa2}{U:sh},↑tr Q (λ_ _=>False) U->↑tr Q E' U:=λh=>W4 h (λ_ _ z=>z) λ_ _ z=>z.elim;show u5 (pd (cc (bY _ _ _ _ _ s5 _ H5 x u _ bF r5 (step x H5 y5 vs lv)) λ_ s6 b0=>?_));let#[τ,H6,I6,us,lu,b1,q6]:=b0;subst b1;show u5 (pd (cc (ht _ _ _ _ _ s6 _ H6 _ I6 q6) λok s7 bi=>?_));let#[H7,I7,q7]:=bi;let a5:∀{aa:St}{H':Hp}{U:sh},Inv (pE X (fo ts caps) scope cl H2.objs.3 s H fp) ([(s⁻¹, { cls:=.type "list",data:=.seq its.8 nn })]++oB fp s5.heap) aa H' U ->
     U.heap.get? s⁻¹=some { cls:=.type "list",data:=.seq its.8 nn }/\H' s⁻¹=none/\tn (i+1) U.heap/\(∀b∈fp,H' b=none):=λ{aa H' U} Ix=>by
    let a:=Ix.pin _ (By _ (Wg _ Wn));show#[a.1,a.2.1,T.keep _ _ _ am λb G o e=>(Ix.pin (b,o) (By _ (By _ (gM G e)))).1,λb G=>?_];let#[o,e,_]:=T.obj _ _ am b G;show(Ix.pin (b,o) (By _ (By _ (gM G e)))).2.1
   let bare:∀{pl:qa1}{aa:St}{H':Hp}{U:sh},Inv (pE X (fo ts caps) scope cl H2.objs.3 s H fp) pl aa H' U->Inv (pE X (fo ts caps) scope cl H2.objs.3 s H fp) [] aa H' U:=λIx=>Ix.qg λp Y=>absurd Y (by simp);cases ok with
   |false =>
    rw[acV V7]at q7;let#[m',hm,w7]:=hN _ _ q7;let#[a1,a2,a3,a4]:=a5 I7;show Wi #[rfl,m',hm,i+1,ys,its,nn,H7,us,lu,bare I7,a3,a4,a2,a1,r3,z3,w7]
   |true =>
    rw[acW rfl]at q7;show u5 (u5 (pd (cc (he _ _ _ _ _ s7 _ H7 _ I7 q7) λy s8 bo=>?_)));let#[yv,H8,I8,r8,co,n8]:=bo;let#[m',hm,w8]:=hN _ _ n8;let#[a1,a2,a3,a4]:=a5 I8;let ck:=r3.9;show u5 (XG F.slot_list_append #[_,a1,rfl] F.entry_list_append (F.args_list_append_2 _ _) (list_append s⁻¹ its.8 nn y (by rw[V9];omega)) #[a1,?_]);obtain⟨aB,q⟩:∃aB:Nat,(s8.heap.update s⁻¹ (Obj.mapSeq (·.push y))).get? s⁻¹=some { cls:=.type "list",data:=.seq (its++[y]).toArray aB }:=by
     let q:=acd a1 (·.push y);let ea:its.toArray.push y=(its++[y]).8:=(by simp);rw[ea]at q;show#[_,q]
    let I9:Inv (pE X (fo ts caps) scope cl H2.objs.3 s H fp) [] (qJ caps σ us) H8 { s8 with heap:=s8.heap.update s⁻¹ (Obj.mapSeq (·.push y)) }:=
     (bare I8).turned (t':=s8.toks) (λb o G e=>(Heap.get?_update_other _ _ (zA3 G)).trans e) a2 ac (.inr (G0 _)) bx (λp Y=>absurd (show p∈([]:qa1)from Y) (by simp))
    show Wi (Wi #[rfl,m',hm,i+1,ys++[yv],its++[y],aB,H8,us,lu,I9,T.keep _ _ _ a3 λb G o e=>(Heap.get?_update_other _ _ (show s⁻¹≠b from λz=>aP (by rw[z];show G))).trans e,a4,a2,q,r3.append (.cons r8 .nil),?_,w8])
    .rw[ti,NC];omega
 show codeAny_compStart_list (bd _ rfl) (T.self _ 0 _ _ _ aK (bd _ rfl))
end
variable{tt:TT}{te:TE}
theorem jz.g{J:It}{F:List V->Hp->Prop}{W:Nat->Nat->List V->Hp->Prop}(L:jz caps tt te σ J F W):wB 1 caps (f9 0) tt te σ J F W:=λi m ys H h=>(L i m ys H h).imp id λh=>by
 let#[I,N,G,step]:=h;show#[I,N,G,λx H' y vs l=>?_];let#[v,rfl]:=aat.mp l;show#[[some x],1,step x H' y]
variable{t:Str}{px:XU}
theorem tE.pg(K:tE X scope cl t caps)(C:zB0)(s₀:sh)(H₀:Hp)(ex:qAc):PG (pE X (Bz t caps) scope cl C s₀ H₀ ex) (.Name t px) (f9 0):=i8 (i:=0) K.nd rfl (.inl (WH K.VE)) (.inr (WH K.VE))
variable{elt iter:Ws}{ifs:qAe}{pos:XU}{wi:TI}
theorem de(K:tE X scope cl t caps)(hc:X.calm=true)(hi:PI X (.Name t px) iter wi)
  (ht:∀C s₀ H₀ ex,NN (pE X (Bz t caps) scope cl C s₀ H₀ ex) ifs tt) (he:∀C s₀ H₀ ex,PE (pE X (Bz t caps) scope cl C s₀ H₀ ex) elt te)
  (hs:∀x,XY iter X.env x=pure x:=by intro _;rfl):PE X (.ListComp elt [#[.Name t px,39]] scope pos) (Gb caps wi tt te):=by
 intros Q I h;rw[eval_ListComp];show Yz (use:=none) rfl hs K.FU K.kind K.names (cc (hi pins s σ H _ I h) λv s1 h1=>cc h1 λab s2 h2=>?_);let#[it,fp,tn,J,H2,e,I2,T,U,f2,W,#[m0,w0],hW]:=h2;subst e;show kq (RR:=λY C=>compPost (model X.prog X.w) X.A X.xe none (EP X pins σ Q) Y C) K.g hc K.pg ht he I2 T U f2 w0 (jz.g hW) ?_;intro D C ys H' s' m Z I' G hC q;show#[m,G,λh' aa=>?_];let#[L,c1,_,c3,c4,F]:=hC;show#[.ref D,_,I'.turned (t':=s'.toks) (λb o hb e=>(aa.2 b hb).trans e) L c1 c3 c4 F,rfl,q D Z]
theorem vj{i:Nat}{y:Str}{F L:XU}(hN:X.N.4)(Z:X.N[i]?=some y)(hy:Loc X.env.scope y)(K:tE X scope cl t caps)(hc:X.calm=true)(hi:PI X (.Name t px) iter wi)
  (ht:∀C s₀ H₀ ex,NN (pE X (Bz t caps) scope cl C s₀ H₀ ex) ifs tt) (he:∀C s₀ H₀ ex,PE (pE X (Bz t caps) scope cl C s₀ H₀ ex) elt te)
  (ac:YK (.ListComp elt [#[.Name t px,39]] scope pos) (some (.Name y F)) L.line X.env=pure true:=by rfl)
  (hs:∀x,XY iter X.env x=pure x:=by intro _;rfl) (hf:X.fn y=true\/X.env.scope.names.lookup y=some .local:=by first|show .inl rfl|show .inr rfl|assumption) :
  PS X (.Assign [.Name y F] (.ListComp elt [#[.Name t px,39]] scope pos) L) (zc (Gb caps wi tt te) (f9 i)):=by
 intros D I h;rw[exec_Assign_Name_used _ _ _ _ ac];show u5 (Z4 (u5 ?_));change wpAny _ X.A (do let _ <-comprehension (.ListComp elt [#[.Name t px,39]] scope pos) scope X.env _ (newList []) false (eval iter X.env) (some (aby (.Name y F) X.env))) _ _ s;show u5 (cc (Yz (use:=some (aby (.Name y F) X.env)) (Q:=λ_ s'=>SP X pins D .next s') rfl hs K.FU K.kind K.names
  (cc (hi pins s σ H _ I h) λv s1 h1=>cc h1 λap s2 h2=>?_)) λ_ s' hq=>Wi (Wi hq))
 let#[it,fp,tn,J,H2,e,I2,T,ab,f2,W,#[m0,w0],hW]:=h2;subst e;show kq (RR:=λaj C=>compPost (model X.prog X.w) X.A X.xe (some (aby (.Name y F) X.env)) (λ_ s'=>SP X pins D .next s') aj C) K.g hc K.pg ht he I2 T ab f2 w0 (jz.g hW) ?_;intro G C ys H' s' m hD I' Y hC q;let#[c0,c1,_,c3,U,c5]:=hC;change wpAny _ X.A (aby (.Name y F) X.env (.ref G)) _ _ s';show wpAny_assign_Name (tO (v:=.ref G) I' hN Z hy rfl (λs3 I3 am=>?_) hf);let#[a,aa,ha]:=am;let ad:C≠a:=by
  rcases ha with z|z
  .rw[z];show c1
  .show λw=>U y a z w.6
 show#[m,Y.sameBut aa ad,λh' ak=>?_];show#[2,I3.turned (t':=s3.toks) (λb o hb e=>(ak.2 b hb).trans e) c0 c1 c3 U c5,q G hD]
variable{lo:Int}{F:List V->Hp->Prop}
theorem iU(Pv:Nat->List V->Hp->Prop)(L:Pv 0 [] H)
  (hs:∀i ys H,i<n->Pv i ys H->tt (mH caps σ (some (.int (lo+i)))) H λb H2=>if b=true then te (mH caps σ (some (.int (lo+i)))) H2 (λy I=>ys.9<sizeLine/\Pv (i+1) (ys++[y]) I)else Pv (i+1) ys H2)
  (hd:∀ys H,Pv n ys H->F ys H):∃W:Nat->Nat->List V->Hp->Prop,(∃m,W 0 m [] H)/\jz caps tt te σ (Lu lo n) F W:=by
 show Di Pv L hd (λys H _=>G0 _) λi ys H G p=>?_;show#[G,127];let#[e,y]:=y;subst e y;show hs i ys _ G p
variable{K:Wa}{a:zB0}{xs:qAf}
theorem iA{G:List V->Hp->Prop}(Pv:Nat->List V->Hp->Prop)(U:Pv 0 [] H)(F:∀i ys H,i<=xs.9->Pv i ys H->a9 K H a xs)
  (hs:∀i x ys H,xs[i]?=some x->Pv i ys H->tt (mH caps σ (some x)) H λb H2=>if b=true then te (mH caps σ (some x)) H2 (λy L=>ys.9<sizeLine/\Pv (i+1) (ys++[y]) L)else Pv (i+1) ys H2)
  (hd:∀ys H,Pv xs.9 ys H->G ys H):∃W:Nat->Nat->List V->Hp->Prop,(∃m,W 0 m [] H)/\jz caps tt te σ (Il K a) G W:=by
 show Di Pv U hd (λys H p=>#[xs,F _ ys H (G0 _) p,G0 _]) λi ys H I p=>?_;let q:=F i ys H (Yo I) p;show#[#[xs,xs[i],q,by simp[I]],127];let#[e,y]:=y;subst e;show hs i x ys _ (y xs q) p
theorem xZ(Pv:Nat->List V->Hp->Prop)(I:Pv 0 [] H)
  (hs:∀i ys H,i<n->Pv i ys H->te (mH caps σ (some (.int (lo+i)))) H (λy G=>ys.9<sizeLine/\Pv (i+1) (ys++[y]) G))
  (hd:∀ys H,Pv n ys H->F ys H):∃W:Nat->Nat->List V->Hp->Prop,(∃m,W 0 m [] H)/\jz caps pN te σ (Lu lo n) F W :=
 iU Pv I (λi ys H hi p=>by
  change if true=true then _ else Pv (i+1) ys H
  rw[acW rfl];show hs i ys H hi p) hd
theorem gO(Pv:Nat->List V->Hp->Prop)(L:Pv 0 [] H)(G:∀i ys H,i<=xs.9->Pv i ys H->a9 K H a xs)
  (hs:∀i x ys H,xs[i]?=some x->Pv i ys H->te (mH caps σ (some x)) H (λy I=>ys.9<sizeLine/\Pv (i+1) (ys++[y]) I))
  (hd:∀ys H,Pv xs.9 ys H->F ys H):∃W:Nat->Nat->List V->Hp->Prop,(∃m,W 0 m [] H)/\jz caps pN te σ (Il K a) F W :=
 iA Pv L G (λi x ys H hi p=>by
  change if true=true then _ else Pv (i+1) ys H
  rw[acW rfl];show hs i x ys H hi p) hd
def dt:WT "list" = some (.type "list"):=aF
def rF:WT "tuple" = some (.type "tuple"):=aF
def vD:WT "int" = some (.type "int"):=aF
def IX:WT "bool" = some (.type "bool"):=aF
def LP:WT "max" = some (.builtin "max"):=aF
def b8:WT "isinstance" = some (.builtin "isinstance"):=aF
def kR:WT "sorted" = some (.builtin "sorted"):=aF
noncomputable def lQ:List V->List V->Bool
 | [],[]=>true
 |x::xs,y::ys=>jx x y&&lQ xs ys
 |_,_=>false
theorem qZ:∀{xs ys:qAf},xs.9≠ys.9->lQ xs ys=false
 | [],[],h=>absurd rfl h
 | [],_::_,_=>rfl
 |_::_,[],_=>rfl
 |x::xs,y::ys,h=>by
  let F:=qZ (xs:=xs) (ys:=ys) λe=>h (by simp[e]);change(jx x y&&lQ xs ys)=false;rw[F,acE]
theorem lW:∀{xs ys:qAf},xs.9=ys.9->(Wu xs.9).all (λj=>jx (xs.getD j .bh) (ys.getD j .bh))=lQ xs ys
 | [],[],_=>rfl
 |x::xs,y::ys,h=>by
  let F:=lW (xs:=xs) (ys:=ys) ‹h›;rw[WG,YQ,acD,abV];change(jx x y&&_)=(jx x y&&lQ xs ys);rw[<-F];rfl
 | [],_::_,h=>by simp at h
 |_::_,[],h=>by simp at h
def JY(a b:Int):jx (.int a) (.int b)=decide (a=b):=by
 change(a==b)=_;rw[Bool.beq_eq_decide_eq]
theorem tI:∀(xs ys:qAa),lQ (xs.map V.int) (ys.map V.int)=decide (xs=ys)
 | [],[]=>rfl
 | [],_::_=>rfl
 |_::_,[]=>rfl
 |x::xs,y::ys=>by
  let F:=tI xs ys;change(jx (.int x) (.int y)&&lQ (xs.map V.int) (ys.map V.int))=_;rw[F,JY];cases h1:x=y
  .cases h2:xs=ys
   .simp[h1,h2]
   .simp[h1,h2]
  .simp[h1]
def sQ(xs:qAa):(xs.map V.int).all d9=true:=by
 rw[abV];show Xp.mpr λ_ _=>rfl
inductive My(K:Wa)(x:V)(y:V)(H:Hp)(Q:VK):Prop
 |mk(p:_)(q:_)(xs:_)(ys:_)(_:x=.ref p)(_:y=.ref q)(_:a9 K H p xs)(_:a9 K H q ys)(_:xs.all d9=true)(_:ys.all d9=true)(_:Q (.bl (lQ xs ys)) H)
theorem Kh{A:Wv}{F:qa6}(r:Vals xs its)(L:Vals ys F)(Y:xs.all d9=true)(fy:ys.all d9=true)(j:Nat)(h1:j<its.toArray.size)(h2:j<F.toArray.size):aar A s its.8[j] F.8[j] (jx (xs.getD j .bh) (ys.getD j .bh)):=by
 let I:j<xs.9:=(by rw[r.9];simpa using h1);let G:j<ys.9:=(by rw[L.9];simpa using h2);let#[a,ea,ra]:=r.get (i:=j) (x:=xs[j]) (by simp[I]);let#[b,U,rb]:=L.get (i:=j) (x:=ys[j]) (by simp[G]);let#[_,aa]:=u4.mp ea;let#[_,Z]:=u4.mp U;rw[show xs.getD j .bh=xs[j]by simp[I],show ys.getD j .bh=ys[j]by simp[G],show its.8[j]=a by simpa using aa,show F.8[j]=b by simpa using Z];show FQ ra rb (Xp.mp Y _ (Xo I)) (Xp.mp fy _ (Xo G))
theorem Ma(G:X.A.units<Yy):lj X (W8 .Eq) (My X.K):=by
 intros x y v u Q I rx ry h;let#[p,q,xs,ys,rfl,rfl,Z,hy,fx,fy,Y]:=h;cases rx;cases ry;let#[its,r,pl,_]:=I.list Z;let#[ab,L,U,_]:=I.list hy;let F:=r.9;let aa:=L.9;cases e:xs.9=ys.9
 .show SeqAt.eq_listAt (e:=λj=>jx (xs.getD j .bh) (ys.getD j .bh)) pl.isList U.isList (by rw[V9,V9];omega) G (Kh r L fx fy) #[.bl (lQ xs ys),H,I,?_,Y];change Value.bool _=Value.bool _;rw[V9, <-F,lW e]
 .show SeqAt.eq_list_lengthsAt pl.isList U.isList ?_ G #[.bl (lQ xs ys),H,I,?_,Y]
  .rw[V9,V9, <-F, <-aa];show bne_iff_ne.mpr e
  .change Value.bool _=Value.bool _;rw[qZ e]
theorem fM:eI X (.builtin "isinstance") (λxs H Q=>∃x n t b,xs=[x,.ty n]/\lY X.K H x t/\kitOne X.K t (.type n)=some b/\Q (.bl b) H):=by
 intros xs us Q I r h;let#[x,n,t,b,rfl,ty,e,q]:=h;let#[u,c,rfl,ru,F]:=vals2 r;obtain rfl:c=Value.type n:=F;show BE I ru ty e λtk=>#[.bl b,H,I.tok _,rfl,q]
def Mx(K:Wa):kitOne K (.type "int") (.type "int")=some true:=rfl
def MX(K:Wa):kitOne K (.type "int") (.type "bool")=some false:=by with_unfolding_all rfl
end L2
namespace PySem.W
open PySem PySem.Spec PySem.Calls PyProof.Rows Builtin Builtin.ObjectAttr Builtin.Getset_descriptor
end PySem.W
namespace L2
open PySem PySem.Spec PyProof.Rows PySem.W
def C2(e:zB0)(h:Heap):Prop:=∃o vs,h.get? e=some o/\o.data=.fields vs/\vs[2]?=some .none
def UT(f:Obj->Obj):Prop:=∀o vs,o.data=.fields vs->vs[2]?=some .none->∃F,(f o).data=.fields F/\F[2]?=some .none
inductive Pl{α:Type}:ZC α->Prop
 |pure(a:α):Pl (.pure a)
 |raise(e:Value):Pl (.raise e)
 |unsupported(x:String):Pl (.unsupported x)
 |finish(x:Ending):Pl (.finish x)
 |rule(tag:String)(k:Unit->ZC α)(h:∀u,Pl (k u)):Pl (.rule tag k)
 |at_(p:XU)(k:Unit->ZC α)(h:∀u,Pl (k u)):Pl (.at p k)
 |load(a:zB0)(part:qa7)(k:Obj->ZC α)(h:∀o,Pl (k o)):Pl (.load a part k)
 |update(a:zB0)(part:qa7)(f:Obj->Obj)(k:Unit->ZC α)(hf:UT f)(h:∀u,Pl (k u)):Pl (.update a part f k)
 |alloc(o:Obj)(k:zB0->ZC α)(h:∀a,Pl (k a)):Pl (.alloc o k)
 |loadIfAlive(a:zB0)(k:Option Obj->ZC α)(h:∀o,Pl (k o)):Pl (.loadIfAlive a k)
 |point(l:qa6)(k:Unit->ZC α)(h:∀u,Pl (k u)):Pl (.point l k)
 |register(a:zB0)(k:Unit->ZC α):Pl (.register a k)
 |fresh(k:Tok->ZC α)(h:∀t,Pl (k t)):Pl (.fresh k)
 |ask(k:Setting->ZC α)(h:∀t,Pl (k t)):Pl (.ask k)
 |handled(own:Bool)(k:Option Value->ZC α)(h:∀t,Pl (k t)):Pl (.handled own k)
 |stack(k:List (Code×XU)->ZC α)(h:∀t,Pl (k t)):Pl (.stack k)
theorem Pl.bind{α β:Type}{t:ZC α}{k:α->ZC β}(h:Pl t)(hk:∀a,Pl (k a)):Pl (t>>=k):=by
 change Pl (Sem.bind t k)
 induction h with
 |pure a=>show hk a
 |raise e=>show .raise e
 |unsupported x=>show .unsupported x
 |finish x=>show .finish x
 |rule L k' _ F=>show .rule _ _ F
 |at_ p k' _ F=>show .at_ _ _ F
 |load a part k' _ F=>show .load _ _ _ F
 |update a part f k' G _ F=>show .update _ _ _ _ G F
 |alloc o k' _ F=>show .alloc _ _ F
 |loadIfAlive a k' _ F=>show .loadIfAlive _ _ F
 |point l k' _ F=>show .point _ _ F
 |register a k'=>show .register _ _
 |fresh k' _ F=>show .fresh _ F
 |ask k' _ F=>show .ask _ F
 |handled I k' _ F=>show .handled _ _ F
 |stack k' _ F=>show .stack _ F
variable{e:zB0}{h:Heap}
theorem C2.push{o:Obj}(c:C2 e h):C2 e (h.push o):=let ⟨x,vs,h1,h2⟩:=c;#[x,vs,zA4 _ h1,h2]
variable{a:zB0}
theorem C2.update{f:Obj->Obj}(c:C2 e h)(G:UT f):C2 e (h.update a f):=by
 let#[x,vs,h1,h2,F]:=c;cases q:a=e
 .subst q;let#[I,g1,g2]:=G x vs h2 F;show#[f x,I,Heap.get?_update_self _ h1 (Obj.isFreed_of_fields g1),g1,g2]
 .show#[x,vs,(Heap.get?_update_other _ _ q).trans h1,h2,F]
variable{M:abp}
theorem Pl.wp{α:Type}{G:PySem.Ctx}{t:ZC α}{Q:α->XU->sh->Prop}{E:Value->XU->sh->Prop}(h:Pl t):∀(p:XU)(s:sh),Yr M G t Q E p s->C2 e s.heap ->
  Yr M G t (λa p s=>Q a p s/\C2 e s.heap) (λx p s=>E x p s/\C2 e s.heap) p s:=by
 induction h with
 |pure a=>intro p s q c;rw[Yr]at q ⊢;show#[q,c]
 |raise e=>intro p s q c;rw[Yr]at q ⊢;show#[q,c]
 |unsupported x=>intro p s q c;rw[Yr]at q;show q.elim
 |finish x=>intro p s q c;rw[Yr]at q;show q.elim
 |rule Y k _ F=>intro p s q c;rw[Yr]at q ⊢;show F () p s q c
 |at_ I k _ F=>intro p s q c;rw[Yr]at q ⊢;show F () I s q c
 |load a part k _ F=>intro p s q c;rw[Yr]at q ⊢;let#[o,ho,q]:=q;show#[o,ho,F o p s q c]
 |update a part f k L _ F=>intro p s q c;rw[Yr]at q ⊢;show#[q.1,F () p _ q.2 (c.update L)]
 |alloc o k _ F=>intro p s q c;rw[Yr]at q ⊢;show F _ p _ q c.push
 |loadIfAlive a k _ F=>intro p s q c;rw[Yr]at q ⊢;show F _ p s q c
 |point l k _ F=>intro p s q c;rw[Yr]at q ⊢;show F () p s q c
 |register a k=>intro p s q c;rw[Yr]at q;show q.elim
 |fresh k _ F=>intro p s q c;rw[Yr]at q ⊢;show F _ p _ q c
 |ask k _ F=>intro p s q c;rw[Yr]at q ⊢;show F _ p s q c
 |handled U k _ F=>intro p s q c;rw[Yr]at q ⊢;show F _ p s q c
 |stack k _ F=>intro p s q c;rw[Yr]at q ⊢;show F _ p s q c
variable{A:Wv}{s:sh}
theorem Pl.any{α:Type}{t:ZC α}{Q:α->sh->Prop}{E:qa2}(h:Pl t)(q:wpAny M A t Q E s)(c:C2 e s.heap):wpAny M A t (λa s=>Q a s/\C2 e s.heap) (λx s=>E x s/\C2 e s.heap) s :=
 λG p F=>h.wp p s (q G p F) c
theorem M5{i:Nat}{v:Value}(h:i≠2):UT (Obj.mapFields (·.setIfInBounds i v)):=λo vs hd h2=>#[_,Obj.data_mapFields hd _,by rw[Array.getElem?_setIfInBounds_ne h];show h2]
def uc(a:zB0):Pl (load a):=.load _ _ _ λo=>.pure o
theorem B3(v:Value):Pl (fieldsOf v):=by
 unfold fieldsOf;split
 .show Pl.bind (uc _) λo=>?_;split
  .show .pure _
  .show .unsupported _
 .show .unsupported _
theorem nE(v:Value)(i:Nat):Pl (field v i):=by
 unfold field;show Pl.bind (B3 v) λvs=>?_;split
 .show .pure _
 .show .unsupported _
theorem ko(v:Value)(i:Nat)(x:Value)(h:i≠2):Pl (setField v i x):=by
 unfold setField;split
 .unfold updateField;show Pl.bind (uc _) λo=>?_;split
  .split
   .show .update _ _ _ _ (M5 h) λu=>.pure u
   .show .unsupported _
  .show .unsupported _
 .show .unsupported _
def qH:Pl stack:=.stack _ λl=>.pure l
theorem vO(ty:String)(vs:qa6):Pl (newFields ty vs):=by
 let F:Pl (newObjAsIs (Value.type ty) (Data.fields vs.8)):=Pl.bind (.alloc _ _ λa=>.pure a) λa=>.pure _;unfold newFields newObj;dsimp only;split
 .show Pl.bind (.unsupported _) λ_=>F
 .show F
def Ij:Pl frameEnvs:=by
 unfold frameEnvs;show Pl.bind qH λl=>.pure _
theorem CO(env:Env)(outer:List Env):Pl (behindIsImport env outer):=by
 unfold behindIsImport;split
 .show .pure _
 .split
  .show .pure _
  .show Pl.bind (nE _ _) λ_=>.pure _
def EN:Pl aaX:=by
 unfold aaX;show Pl.bind qH λ_=>.pure _
theorem JE(env:Env)(i:Bool)(l:List Env):Pl (keptBack env i l):=by
 unfold keptBack;split
 .split
  .show .pure _
  .show Pl.bind EN λ_=>.pure _
 .show .pure _
theorem xa:∀l:List Env,Pl (readyFrames l)
 | []=>.pure _
 |env::outer=>by
  unfold readyFrames;split
  .show Pl.bind (uc _) λo=>?_;split
   .show .pure _
   .show Pl.bind (CO _ _) λi=>Pl.bind (JE _ _ _) λb=>Pl.bind (.update _ _ _ _ (λo vs h1 h2=>#[vs,h1,h2]) λu=>.pure u) λ_=>xa outer
  .show .unsupported _
theorem rS(l:List Env):Pl (frameObject l):=by
 cases l with
 |nil=>show .pure _
 |cons env outer =>
  unfold frameObject;show Pl.bind (xa _) λ_=>.pure _
theorem zr(env:Env):Pl (abu env):=by
 unfold abu;show Pl.bind Ij λl=>Pl.bind (rS _) λo=>?_;split
 .show .pure _
 .show .unsupported _
def Dw(f:zB0)(b:Bool):Pl (abW f b):=by
 unfold abW;show Pl.bind qH λl=>?_;split
 .show .pure _
 .show .pure _
theorem Ce(v:Value)(f:qa8):Pl (setFlight v f):=by
 unfold setFlight;show Pl.bind (nE _ _) λtb=>?_;split
 .show ko _ _ _ aE
 .show .pure _
theorem Bu(v:Value)(env:Env):Pl (noteFrame v env):=by
 unfold noteFrame;split
 .show Pl.bind (nE _ _) λhd=>?_;let rest:∀f:zB0,Pl (do
    let a <-abu env
    let pl <-abW f (hd != .none)
    let b <-EntryCells.newEntry hd a .none (abz f) .none pl
    setField v 1 b):=λf=>Pl.bind (zr _) λa=>Pl.bind (Dw _ _) λq=>Pl.bind (vO _ _) λb=>ko _ _ _ aE
  split
  .show Pl.bind (nE _ _) λx=>?_;split
   .show .pure _
   .show Pl.bind (ko _ _ _ aE) λ_=>rest _
  .show rest _
 .show .unsupported _
def zH(env:Env)(v:Value):Pl (leaving env v):=by
 unfold leaving;show Pl.bind (Bu _ _) λ_=>Ce _ _
def wV(B:Heap)(l:List Env)(e:zB0)(cls G:Value)(h:Heap):Prop :=
 B.StaysIn h/\B.get? e=none/\h.FunFrames B l/\∃F vs,h.get? e=some F/\F.cls=cls/\F.data=.fields vs/\vs[0]?=some G/\vs[1]?=some .none
def FH(X:Cx)(pins:qa1)(σ:St)(H:Hp)(B:Heap)(s:sh):Prop :=
 ∀(h':Heap)(tk:Nat),B.StaysIn h'->s.heap.UpToSlots h'->~~~H { s with heap:=h',toks:=tk }
structure Ke(X:Cx)(pins:qa1)(H:Hp)(e:zB0):Prop where
 old:X.s₀.heap.get? e=none
 loc:e≠X.env.locals
 fs:e∉X.fs
 cell:∀x c,X.env.cells.lookup x=some c->c≠e
 pin:∀p∈X.pn++pins,p.1≠e
 free:H e=none
abbrev XR:=St->Value->Hp->Prop
def XP(X:Cx)(pins:qa1)(R:XR)(x:Value)(s':sh):Prop :=
 ∃(e:zB0)(cls F:Value)(B:Heap)(σ:St)(H:Hp),x=.ref e/\(wV B X.stack e cls F s'.heap\/Heap.FlyingW B X.stack e cls F s'.heap\/∃L,X.env.frame=some L/\Heap.HeldW B X.stack e cls F L s'.heap)/\C2 e s'.heap/\FH X pins σ H B s'/\Ke X pins H e/\R σ cls H
def cV(P:BY)(w:Oi):p7:=λouter H s E x s' =>
 ∃(e:zB0)(cls F:Value)(B:Heap)(H':Hp),x=.ref e/\s'.os=s.os/\Zx s'.gens/\s.heap.get? e=none/\H' e=none/\Heap.FlyingW B outer e cls F s'.heap/\C2 e s'.heap /\
  (∀h',B.StaysIn h'->s'.heap.UpToSlots h'->Un (sL outer) [] H H' s.heap h'/\lF P w H' h')/\E cls none H'
variable{P:BY}{w:Oi}{X:Cx}
def iZ:Passes (cV P w) X E0:=λ_ _ _ _ _ _ _ ⟨_,_,_,_,_,_,_,_,_,_,_,_,_,h⟩=>h.elim
variable{pins:qa1}{σ:St}{H H':Hp}
theorem Inv.Ko(I: ~~~H s)(hex:X.ex=[])(h:s.heap.get? e=none)(G:H' e=none):Ke X pins H' e:=by
 let old:X.s₀.heap.get? e=none:=by
  cases q:X.s₀.heap.get? e with
  |none=>rfl
  |some o =>
   let#[o',z]:=I.base.there e o q (by rw[hex];simp);rwa[h]at z
 show#[old,130,130,λx c q z=>?_,λp F z=>?_,G]
 .let#[m,#[o,_,_,ho,_],_]:=I.loc;rwa[<-z,h]at ho
 .let#[_,o,ho,_]:=I.ok.l9.mem z;rwa[old]at ho
 .let#[v,o,ho,_]:=I.cell x c q;rwa[z,h]at ho
 .have:=(I.pin p F).1;rwa[z,h]at this
variable{s':sh}{x:Value}
theorem Inv.comes{E:XK}(I: ~~~H s)(hex:X.ex=[])(h:cV X.prog X.w X.stack H s E x s'):XP X pins (λL cls H'=>L=σ/\E cls none H') x s':=by
 let#[e,cls,F,B,H',rfl,os,bare,new,free,fl,c2,keep,q]:=h;show#[e,cls,F,B,σ,H',rfl,.inr (.inl fl),c2,λh' tk k u=>?_,I.Ko hex new free,rfl,q];let#[un,G]:=keep h' k u;show I.EM (s':={ s' with heap:=h',toks:=tk }) (ch:=[]) os un G bare (λb z=>absurd z (by simp))
theorem XP.imp{R F:XR}(h:XP X pins R x s')(I:∀σ cls H,R σ cls H->F σ cls H):XP X pins F x s':=by
 let#[e,cls,L,B,σ,H,U,Y,c2,e3,G,q]:=h;show#[e,cls,L,B,σ,H,U,Y,c2,e3,G,I _ _ _ q]
variable{B:Heap}
def FH.now(b:FH X pins σ H B s)(k:B.StaysIn s.heap): ~~~H s:=b s.heap s.toks k (Heap.UpToSlots.refl _)
abbrev Ho:=St->Hp->VK->(Value->Hp->Prop)->Prop
abbrev sy:=Ends->XR->St->Hp->Prop
def Fe(X:Cx)(e:Ws)(t:Ho):Prop :=
 ∀(pins:qa1)(s:sh)(σ:St)(H:Hp)(Q:VK)(R:Value->Hp->Prop),~~~H s->t σ H Q R ->
  ↑(eval e X.env) (EP X pins σ Q) (XP X pins λF cls H'=>F=σ/\R cls H') s
def Hk(X:Cx)(st:Wo)(t:sy):Prop :=
 ∀(pins:qa1)(s:sh)(σ:St)(H:Hp)(D:Ends)(R:XR),~~~H s->t D R σ H->↑(exec st X.env) (SP X pins D) (XP X pins R) s
def qK(X:Cx)(st:List Wo)(t:sy):Prop :=
 ∀(pins:qa1)(s:sh)(σ:St)(H:Hp)(D:Ends)(R:XR),~~~H s->t D R σ H->↑(execs st X.env) (SP X pins D) (XP X pins R) s
section
variable{E:qa2}{Q:VK}
theorem EP.cm{u:Value}(h:EP (X.iX E) pins σ Q u s'):EP X pins σ Q u s':=by
 let#[v,H',I,r]:=h;show#[v,H',I.cm,r]
variable{t:TS}{st:Wo}
theorem dZ(h:PS X.pd st t):Hk X st (λD _ σ H=>t D σ H):=λpins s σ H D R I q =>
 W4 (h pins s σ H D (I.iX _) q) (λ_ _ z=>z.cm) λ_ _ z=>z.elim
theorem dh{sts:List Wo}(h:uv X.pd sts t):qK X sts (λD _ σ H=>t D σ H):=λpins s σ H D R I q =>
 W4 (h pins s σ H D (I.iX _) q) (λ_ _ z=>z.cm) λ_ _ z=>z.elim
def tj(t u:sy):sy:=λD R σ H=>t { D with nx:=u D R } R σ H
variable{ts us:sy}
theorem aG{rest:List Wo}(h1:Hk X st ts)(h2:qK X rest us):qK X (st::rest) (tj ts us):=by
 intros D R I h;show Y1 (cc (h1 pins s σ H _ R I h) λf G F=>?_);cases f with
 |next =>
  let#[U,H',L,q]:=F;show h2 pins G U H' D R L q
 |brk=>show F
 |cont=>show F
 |ret u=>show F
theorem bp(h1:Hk X st ts):qK X [st] ts:=by
 intros D R I h;show Y1 (cc (h1 pins s σ H D R I h) λf F q=>?_);cases f with
 |next=>show XE q
 |ret v=>show q
 |brk=>show q
 |cont=>show q
def yD:sy:=λD _ σ H=>D.nx σ H
def bS:qK X [] yD:=λ_ _ σ H _ _ I h=>XE #[σ,H,I,h]
theorem nx{α:Type}{tr:ZC α}{Q F:α->sh->Prop}(h:wpAny M A tr Q (λ_ _=>False) s)(G:∀a s,Q a s->F a s):wpAny M A tr F E s :=
 W4 h G λ_ _ z=>z.elim
def Na(te:Ho):sy:=λD R σ H=>te σ H (λ_ H1=>D.nx σ H1) (R σ)
def XP.at{R:XR}(h:XP X pins (λF cls H'=>F=σ/\R σ cls H') x s'):XP X pins R x s':=h.imp λ_ _ _ ⟨e,q⟩=>e▸q
variable{e:Ws}{tx:Ho}{pos:XU}
theorem bE(L:Fe X e tx)(hs:YK e none pos.line X.env=pure false:=by rfl):Hk X (.Expr e pos) (Na tx):=by
 intros D R I h;show wpAny_Expr_any (W4 (L pins s σ H _ _ I h) (λv Y ⟨x,H1,G,U,F⟩=>#[σ,H1,G,F]) λ_ _ z=>z.at) I.quiet hs
def OZ(te:Ho):sy:=λD R σ H=>te σ H D.rt (R σ)
theorem iY(G:Fe X e tx):Hk X (.Return (some e) pos) (OZ tx):=by
 intros D R I h;show wpAny_Return_some (W4 (G pins s σ H _ _ I h) (λv Y ⟨x,H1,L,U,F⟩=>#[x,σ,H1,L,U,F]) λ_ _ z=>z.at)
def Kd(te:Ho)(i:Nat):sy:=λD R σ H=>te σ H (λv H1=>D.nx (σ.set i (some v)) H1) (R σ)
variable{x:Str}{pos':XU}
theorem Ia{i:Nat}(L:X.N.4)(hi:X.N[i]?=some x)(G:Loc X.env.scope x)(he:Fe X e tx)(hs:YK e (some (.Name x pos')) pos.line X.env=pure false:=by rfl)(hf:X.fn x=true\/X.env.scope.names.lookup x=some .local:=by first|show .inl rfl|show .inr rfl|assumption) :
  Hk X (.Assign [.Name x pos'] e pos) (Kd tx i):=by
 intros D R I h;show wpAny_Assign_Name (W4 (he pins s σ H _ _ I h) (λv s1 ⟨y,H1,U,Y,F⟩=>?_) λ_ _ z=>z.at) hs;show rL U L hi G Y (λs2 Z=>#[_,H1,Z,F]) hf
theorem ya(i:Nat)(G:X.N.4)(L:Fe X e tx)(hi:X.N[i]?=some x:=by rfl)(F:Loc X.env.scope x:=by first|show .inl rfl|show .inr rfl)(hs:YK e (some (.Name x pos')) pos.line X.env=pure false:=by rfl)(I:X.fn x=true\/X.env.scope.names.lookup x=some .local:=by first|show .inl rfl|show .inr rfl|assumption):Hk X (.Assign [.Name x pos'] e pos) (Kd tx i):=Ia G hi F L hs I
def Mb(c:TT)(t u:sy):sy:=λD R σ H=>c σ H λb H1=>if b=true then t D R σ H1 else u D R σ H1
theorem cM{c:Ws}{a b:List Wo}{tc:TT}(Y:PT X.pd c tc)(U:qK X a ts)(Z:qK X b us):Hk X (.If c a b pos) (Mb tc ts us):=by
 intros D R I h;show wpAny_If (nx (Y pins s σ H _ (I.iX _) h) λd L ⟨H1,G,F⟩=>?_);cases d with
 |true=>show U pins L σ H1 D R G.cm F
 |false=>show Z pins L σ H1 D R G.cm F
variable{k:Nat}{f C:zB0}{fd:DO}{ps:qAb}{sp:Sp}{dvs:qAf}{ds:qa6}{x m:Str}{p apos:XU}{o:Ws}{es:qAe}{ta:TE}{t:TA}
theorem uZ{R:Value->Hp->Prop}{us:qa6}{vs:qAf}(F:aU X.prog X.w X.K X.mg X.base (cV X.prog X.w) k f fd ps sp)(L:dX k X.A)(G:Binds X.K fd ps ds)(hd:Vals dvs ds)(hex:X.ex=[])
  (I: ~~~H s) (r:Vals vs us) (h:sp (vs++dvs) H Q λcls _ H'=>R cls H'):↑(call (.ref f) us) (EP X pins σ Q) (XP X pins λU cls H'=>U=σ/\R cls H') s :=
 zO F L G hd (λ_ _ q=>I.comes (E:=λcls _ H'=>R cls H') hex q) I r h
def DU(sp:Sp)(dvs:qAf)(t:TA):Ho:=λσ H Q R=>t σ H λvs H1=>sp (vs++dvs) H1 Q λcls _ H'=>R cls H'
def zG(C:zB0)(m:Str)(sp:Sp)(dvs:qAf)(ta:TE)(t:TA):Ho:=λσ H Q R=>ta σ H λx H1=>∃a dx fs,x=.ref a/\H1 a=some (.ins C dx fs)/\fs.lookup m=none /\
 t σ H1 λvs H2=>sp (x::(vs++dvs)) H2 Q λcls _ H'=>R cls H'
theorem DX(F:aU X.prog X.w X.K X.mg X.base (cV X.prog X.w) k f fd ps sp)(hr:dX k X.A)(hex:X.ex=[])(U:Gl X x)(hm:X.mg x=some (.ref f))(hk:Xc X.K (.ref f)=true)(Z:Binds X.K fd ps ds)(hd:Vals dvs ds)
  (Y:PA X.pd (e::es) t) (L:(x==("__debug__" : Str))=false:=by decide) (he:qAh X e es:=by rfl) (aa:(backTo pos (starEach es X.env)).any (·.1)=false:=by rfl) :
  Fe X (.Call (.Name x p) (e::es) [] pos) (DU sp dvs t):=by
 intros Q R I h;show Ye (kY I U hm ?_ L);show ZG (h₀:=X.base) I.ok.mod.Js hk (nx (Y pos pins s σ H _ (I.iX _) h) λus s1 ⟨vs,H1,G,r,q⟩=>#[G.cm.lS,?_]) he aa;show uZ F hr Z hd hex G.cm r q
variable{pl:ZC Bool}
theorem mq(he:PE X.pd o ta)(c:qa X.K C)(L:Meth X.K C m f)(F:aU X.prog X.w X.K X.mg X.base (cV X.prog X.w) k f fd ps sp)(hr:dX k X.A)(hex:X.ex=[])(hb:Binds X.K fd ps ds)(hd:Vals dvs ds)(Y:PA X.pd (e::es) t)
  (aa:qAh X e es:=by rfl) (Z:(backTo pos (starEach es X.env)).any (·.1)=false:=by rfl)
  (ht:Ot X o m apos pos pl (e::es):=by rfl) :
  Fe X (.Call (.Attribute o m apos) (e::es) [] pos) (zG C m sp dvs ta t):=by
 intros Q R I h;show Ze (pl:=pl) (nx (he pins s σ H _ (I.iX _) h) λu s1 ⟨x,H1,G,rx,a,dx,fs,ex,ea,l,q⟩=>?_) ht;subst ex;obtain rfl:u=Value.ref a:=rx;show jR G.cm ea c L l ?_;show ZG (first:=[.ref a]) (h₀:=X.base) I.ok.mod.Js L.kp (nx (Y pos pins s1 σ H1 _ G q) λus s2 ⟨vs,H2,U,r,q2⟩=>#[U.cm.lS,?_]) aa Z;show uZ (us:=.ref a::us) (vs:=.ref a::vs) F hr hb hd hex U.cm (.cons rfl r) q2
theorem sZ(he:PE X.pd o ta)(c:qa X.K C)(L:Meth X.K C m f)(F:aU X.prog X.w X.K X.mg X.base (cV X.prog X.w) k f fd ps sp)(hr:dX k X.A)(hex:X.ex=[])(Z:Binds X.K fd ps ds)(hd:Vals dvs ds)
  (U:Ot X o m apos pos pl []:=by rfl) :
  Fe X (.Call (.Attribute o m apos) [] [] pos) (zG C m sp dvs ta xI):=by
 intros Q R I h;show Ze (pl:=pl) (nx (he pins s σ H _ (I.iX _) h) λu s1 ⟨x,H1,G,Y,a,dx,fs,ex,ea,l,q⟩=>?_) U;subst ex;obtain rfl:u=Value.ref a:=Y;show jR G.cm ea c L l ?_;show callWith_K0 (first:=[.ref a]) G.cm.lS L.kp (uZ (us:=[.ref a]) (vs:=[.ref a]) F hr Z hd hex G.cm (.cons rfl .nil) q)
end
def pe:List Value:=[.type "ValueError",.type "Exception",.type "BaseException",.type "object"]
variable{K:Wa}{C:zB0}
theorem HV{U:qa6}{L:String}(X:K.In h)(q:abX K C U L=true) :
  ∃bm N nm q bs hdct sn sub ab col dd k0 k1 k2 k3 k5 mN,h.get? C=some (excClassObj nm q C N bs bm hdct sn sub ab col dd k0 k1 k2 k3 k5 L)/\h.Ns N mN/\mN "__init__" = none/\OwnTail h U bm:=by
 unfold abX at q
 set_option tactic.hygienic true in split at q
 .rename_i dd cd sl ho
  set_option tactic.hygienic true in split at q
  .rename_i C' bm k0 k1 k2 k3 n k5 G hs;simp only[X8,beq_iff_eq,Bool.not_eq_true']at q;let#[#[#[#[#[rfl,rfl],I],ht],F],Y]:=q;let#[nm,bs,ac,ns,Z,hd,sn,sub,ab,col,ad]:=cd;dsimp only at G I F Y;subst G I;let aa:sl = ([k0,k1,k2,k3,some (.builtin n),k5].8):=by
    let#[l]:=sl;simp only at hs;rw[hs]
   subst aa;show#[bm,ns,nm,Z,bs,hd,sn,sub,ab,col,dd,k0,k1,k2,k3,k5,_,X _ _ ho,.of_isNs (PySem.W.isNs_of_in X F),PySem.W.nsMap_none_of_in X F Y,PySem.W.tail_of_in X ht]
  .cases q
 .cases q
theorem xB{o:HO}(x:cp P w H h a o):∃F,h.get? a=some F:=by
 cases o with
 |lst xs=>let#[_,_,_,_,e]:=x;show#[_,e]
 |tup xs=>let#[_,_,_,p]:=x;let#[o,e,_]:=p;show#[_,e]
 |dK kvs=>let#[_,_,_,_,o,_,_,e,_]:=x;show#[_,e]
 |dT kvs=>let#[_,_,_,_,o,_,_,e,_]:=x;show#[_,e]
 |set S n=>let#[o,_,_,_,e,_]:=x;show#[_,e]
 |ins C dx fs=>let#[_,_,_,e,_]:=x;show#[_,e]
 |own y=>let#[_,e]:=x;show#[_,e]
 |xd fs=>let#[_,#[_,_,_,e,_],_]:=x;show#[_,e]
 |qk lo hi=>let#[_,_,_,e]:=x;show#[_,e]
 |frz F u=>let#[e,_]:=x;show#[_,e]
 |tbl ps=>show#[_,(show h.get? a=some _ from x)]
 |met f y=>show#[_,(show h.get? a=some _ from x)]
 |ext G=>let#[_,e,_]:=x;show e
variable{cls:Value}
theorem Inv.raised{h':Heap}{vs:qa6}(I: ~~~H s)(hex:X.ex=[])(G:Heap.MadeExcOf s.heap h' e cls vs):XP X pins (λac c H'=>ac=σ/\c=cls/\H'=H) (.ref e) { s with heap:=h' }:=by
 let#[t,L,_,_]:=G.there;let ab:∀env∈X.stack,∀a,env.frame=some a->a∈sL X.stack:=λenv L a hf=>Yd.mpr #[env,L,hf];let nf:∀b u,H b=some u->b∉sL X.stack:=λb u q z=>(by rwa[I.vb b z]at q);let hB:∀b,s.heap.get? b=none->(hideAll s.heap (sL X.stack)).get? b=none:=λb q=>by
  cases z:(hideAll s.heap (sL X.stack)).get? b with
  |none=>rfl
  |some o=>rwa[of_hideAll _ z]at q
 show#[e,cls,.ref t,hideAll s.heap (sL X.stack),σ,H,rfl,.inl #[λb o q=>G.keeps b o (of_hideAll _ q),hB e G.new,?_,2,L,1,1],#[2,L,1],λY tk k u=>?_,I.Ko hex G.new ?_,1,rfl]
 .show(PySem.W.funFrames_hide I.stack ab).of_keeps λb o q _=>#[o,G.keeps b o q,rfl]
 .let U:∀b o,s.heap.get? b=some o->b∉sL X.stack->Y.get? b=some o:=λb o q nb=>k b o (hideAll_get _ q nb);let sl:∀b o,s.heap.get? b=some o->b∈sL X.stack->∃sl,Y.get? b=some { o with slots:=sl }:=λb o q F=>by
   let#[_,o',aa,hd]:=I.stack.mem F;rwa[q]at aa;show u b o (G.keeps b o q) hd
  show I.EM (s':={ s with heap:=Y,toks:=tk }) (ch:=[]) rfl #[λb o q _ F _=>U b o q F,λb o q _ F _=>sl b o q F,λb o _ n _=>n,λb o q _=>?_,λb xs q=>q,λb o u q=>q,λb ps q=>#[([].8),by rw[q];simp]] (λa o q=>?_) I.bare (λb z=>absurd z (by simp))
  .cases F:b∈sL X.stack
   .let#[ad,q']:=sl b o q F;show#[_,q']
   .show#[o,U b o q F]
  .show(I.bL a o q).jj (λc v hc qc=>U c v qc ?_) (λ_ z=>z) λ_ _ z=>z;rcases hc with z|z
   .rw[z];show nf a o q
   .show nf c _ z
 .cases z:H e with
  |none=>rfl
  |some o =>
   let#[ob,Z]:=xB (I.bL e o z);rwa[G.new]at Z
abbrev TJ:=Str->St->Hp->(Str->Hp->Prop)->Prop
def PJ(X:Cx)(vs:qAe)(t:TJ):Prop :=
 ∀(pins:qa1)(s:sh)(σ:St)(H:Hp)(F:Str)(Q:Str->Hp->Prop),~~~H s->t F σ H Q->Joins (model X.prog X.w) X.A X.xe (evalEach vs X.env) F (λout G=>∃H',~~~H' G/\Q out H') s
def O9:TJ:=λacc _ H Q=>Q acc H
def K8(te:TE)(t:TJ):TJ:=λF σ H Q=>te σ H λx H1=>∃y,x=.str y/\(F++y).9<=sizeLine/\t (F++y) σ H1 Q
def j9:PJ X [] O9:=λ_ s _ H _ _ I h=>show ∃H',_ from#[H,I,h]
variable{v:Ws}{vs:qAe}{te:TE}{t:TJ}
theorem dq(Z:PE X v te)(Y:PJ X vs t):PJ X (v::vs) (K8 te t):=by
 intros aa Q I h;change wpAny _ _ (eval v X.env) _ _ s;show cc (Z pins s σ H _ I h) λu U ⟨x,H1,G,L,y,ex,F,q⟩=>?_;subst ex;let#[tk,rfl]:=L;show#[y,tk,rfl,F,Y pins U σ H1 _ Q G q]
variable{pos:XU}
theorem i9{v2:Ws}(h:PJ X (v::v2::vs) t):PE X (.JoinedStr (v::v2::vs) pos) (λσ H Q=>t Str.empty σ H λout H'=>out.9<=sizeLine/\Q (.str out) H'):=by
 intros Q I q;show wpAny_JoinedStr ?_;let z:=h pins s σ H Str.empty _ I q;let Y:∀(l:List (ZC Value))(G:Str)(s:sh),Joins (model X.prog X.w) X.A X.xe l G (λout F=>∃H',~~~H' F/\out.9<=sizeLine/\Q (.str out) H') s ->
   Joins (model X.prog X.w) X.A X.xe l G (λout F=>out.9<=sizeLine/\EP X pins σ Q (.str out F.toks) { F with toks:=F.toks+1 }) s:=by
  intro l
  induction l with
  |nil =>
   intro G s ⟨H',I',L,U⟩;show#[L,.str G,H',I'.tok _,#[0],U]
  |cons a r ih =>
   intro G s Z;show cc Z λu F ⟨y,tk,e,L,U⟩=>#[y,tk,e,L,ih _ _ U]
 show Y _ _ _ z
theorem tN(U:PE X v te):PE X (.FormattedValue v (-1) none pos) (λσ H Q=>te σ H λx H1=>∃i:Int,x=.int i/\i.natAbs.log2<1920/\Q (.str (toString i)) H1):=by
 intros Q I h;show ZJ (cc (U pins s σ H _ I h) λu Y ⟨x,H1,G,L,i,ex,F,q⟩=>?_);subst ex;let#[tk,rfl]:=L;show wpAny_formatField_int F #[.str (toString i),H1,G.tok _,#[0],q]
def len_app(a b:Str):(a++b).9=a.9+b.9:=strLen_append a b
theorem kG{i:Int}(h:i.natAbs.log2<1920):(toString i:Str).9<=1921:=by
 let e:=int_text_length_le (k:=1920) aE h;change(Str.ofString (toString i)).9<=1921;rw[PySem.ofString_length];show e
variable{x:Str}{t:TA}
theorem b6{np cpos:XU}{e₀:Ws}{es:qAe}(hg:Gl X x)(Z:X.mg x=some (.ref C))(hq:abX X.K C pe "ValueError.__new__" = true)(hc:X.calm=true)(hex:X.ex=[])(Y:PA X.pd (e₀::es) t)
  (L:starEach (e₀::es) X.env=(false,eval e₀ X.env)::starEach es X.env:=by rfl) (aa:(backTo cpos (starEach es X.env)).any (·.1)=false:=by rfl) (hd:(x==("__debug__" : Str))=false:=by decide) :
  Hk X (.Raise (some (.Call (.Name x np) (e₀::es) [] cpos)) none pos) (λ_ R σ H=>t σ H λvs H1=>vs.9<=sizeLine/\R σ (.ref C) H1):=by
 intros D R I h;let#[tl,N,nm,q,bs,hdct,sn,sub,ab,col,dd,k0,k1,k2,k3,k5,mN,hC,hN,ac,T]:=HV I.ok.mod.Js hq;show wpAny_Raise_call_subT (C:=C) (nm:=nm) (q:=q) (N:=N) (bs:=bs) (bm:=tl) (hdct:=hdct) (sn:=sn) (sub:=sub) (ab:=ab) (col:=col) (dd:=dd) (k0:=k0) (k1:=k1) (k2:=k2) (k3:=k3) (k5:=k5)
  F.excBase_ValueError (mN:=mN) (T.hasType F.excBase_ValueError.hasBase) (I.ok.hd hc) (by rw[L];change(false||(backTo cpos (starEach es X.env)).any (·.1))=false;rw[aa];rfl) ac (kY I hg Z #[3] hd)
 let h2:=Y cpos pins s σ H _ (I.iX _) h;rw[L]at h2 ⊢;show Calls.evalArgs_plain (nx h2 λus s2 ⟨vs,H1,G,r,U,q1⟩=>#[3,G.cm.bk _ _ hC,hN.keeps G.cm.bk,T.keeps G.cm.bk,λh' e hx=>?_])
 .change us.9<=sizeLine;rw[<-r.9];show U
 .show(G.cm.raised hex hx).imp λ_ _ _ ⟨a,b,c⟩=>by subst a b c;show q1
variable{E:qa2}{env:Env}{outer:List Env}{L:zB0}{F:Value}{Q:Unit->sh->Prop}
theorem vP(Y:A.frames=some (env::outer)) (G:env.frame=some L) (h:wV B (env::outer) e cls F s.heap\/Heap.FlyingW B (env::outer) e cls F s.heap\/∃L,env.frame=some L/\Heap.HeldW B (env::outer) e cls F L s.heap)
  (I:∀h',Heap.FlyingW B outer e cls F h'->s.heap.UpToSlots h'->Q () { s with heap:=h' }):wpAny M A (leaving env (.ref e)) Q E s:=by
 rcases h with⟨h1,h2,h3,oe,vs,he,hc,hd,h0,aa⟩|h|⟨L',Z,U⟩
 .subst hc;show wpAny_leaving_firstW Y h3 G he h1 h2 hd aa h0 λh' ⟨k1,⟨_,_,k2⟩,k3,k4⟩=>I h' #[k1,h2,k2,k3] k4
 .show wpAny_leaves_onW Y G h I
 .rw[G]at Z;cases Z;let#[_,_,_,g4]:=id U;show u5 (aau G g4 (wpAny_landsW U λh' fl up=>I h' #[fl.1,fl.2.1,?_,fl.2.2.2] up));show(show h'.FunFrames B (env::outer)from fl.2.2.1).2.2
theorem xc(Y:A.frames=some (env::outer)) (I:env.frame=some L) (h:wV B (env::outer) e cls F s.heap\/Heap.FlyingW B (env::outer) e cls F s.heap\/∃L,env.frame=some L/\Heap.HeldW B (env::outer) e cls F L s.heap) (c:C2 e s.heap)
  (U:∀h',Heap.FlyingW B outer e cls F h'->s.heap.UpToSlots h'->C2 e h'->Q () { s with heap:=h' }):wpAny M A (leaving env (.ref e)) Q E s :=
 W4 ((zH env (.ref e)).any (E:=λ_ _=>False) (vP (Q:=λ_ s'=>∃h',s'={ s with heap:=h' }/\Heap.FlyingW B outer e cls F h'/\s.heap.UpToSlots h') Y I h λh' f u=>#[h',rfl,f,u]) c)
  (λ_ s' ⟨⟨h',G,f,u⟩,c'⟩=>by subst G;show U h' f u c') λ_ _ z=>z.1.elim
variable{mg:qa3}{base:Heap}{st:Wo}{f:zB0}{fd:DO}{N ps:qAb}{sp:Sp}
theorem b4.VX{U:Str}{k:Nat}(F:b4 K x U st f fd)(S:aA N ps (ax st))(len:∀vs H Q E,sp vs H Q E->vs.9=ps.9)
  (ab:∀(G:Value)(A:Wv)(outer:List Env)(s:sh)(H:Hp)(vs:qAf)(Q:VK)(E:XK),dX k (A.deeper (ZH U (ax st) s⁻¹ f G))->sp vs H Q E ->
   let X:=vq (cV P w) P w K mg base N U (ax st) f G A outer s H E
   let D:Ends:={ nx:=λ_ H'=>Q .bh H',rt:=Q }
   let R:XR:=λ_ cls H'=>E cls none H'
   ∃t,qK X (eW st) t/\t D R (start N vs) H):⇑aU (k+1) f fd ps sp:=by
 let#[oc,od,kV,am,pm,an,G,ct,ak,rfl,lk,aj]:=F.ex;show Kj lk aj S len λA outer s H vs Q E hr ad=>?_;let#[t,h,q]:=ab G A outer s H vs Q E hr ad;show#[λD σ H'=>t D (λ_ cls H'=>E cls none H') σ H',λpins s1 σ H1 D I q1=>?_,q];show W4 (h pins s1 σ H1 D _ I q1) (λ_ _ z=>z) λv Z hx=>?_;let#[e,cls,a0,B,ap,H2,rfl,fl,c2,be,new,hE]:=hx;let jj:B.StaysIn Z.heap:=by
  rcases fl with z|z|⟨_,_,z⟩
  .show z.1
  .show z.1
  .show z.1
 let Y:=be.now jj;show xc (L:=s⁻¹) Y.ok.frames rfl fl c2 λh' aa up c3=>?_;show#[e,cls,a0,B,H2,rfl,Y.os,Y.bare,new.old,new.free,aa,c3,λac k u=>(λJ=>#[J.base,J.bL]) (be ac Z.toks k (up.trans u)),hE]
theorem b4.gx{qual:Str}{k:Nat}(F:b4 K x qual st f fd)(S:aA N ps (ax st))
  (hb:∀(cdv:Value)(A:Wv)(outer:List Env)(s:sh)(H:Hp)(vs:qAf)(Q:VK)(E:XK)(hr:dX k (A.deeper (ZH qual (ax st) s⁻¹ f cdv)))(h:sp vs H Q E),let X:=vq (cV P w) P w K mg base N qual (ax st) f cdv A outer s H E
   let D:Ends:={ nx:=λ_ H'=>Q .bh H',rt:=Q }
   let R:XR:=λ_ cls H'=>E cls none H'
   ∃t,qK X (eW st) t/\t D R (start N vs) H) (len:∀vs H Q E,sp vs H Q E->vs.9=ps.9:=by intro vs H Q E h;first|(cases h<;>subst_vars<;>rfl)|((repeat let#[_,h]:=h);all_goals(subst_vars;rfl))):⇑aU (k+1) f fd ps sp:=F.VX S len hb
noncomputable abbrev Cx.hand(X:Cx)(e:zB0):Cx:={ X with A:=X.A.mark (some (.ref e)),calm:=false }
theorem Cx.Ok.hand(ok:X.Ok)(e:zB0):(X.hand e).Ok :=
 #[25,(λz=>Bool.noConfusion z),26]
theorem Inv.hand(I: ~~~H s)(e:zB0):Inv (X.hand e) pins σ H s:=#[I.ok.hand e,14]
def Inv.Ll(I:Inv (X.hand e) pins σ H s)(ok:X.Ok): ~~~H s:=#[ok,14]
theorem xl{G:Value}
  (Y:A.frames=some (env::outer)) (F:env.frame=some L) (h:wV B (env::outer) e cls G s.heap\/Heap.FlyingW B (env::outer) e cls G s.heap\/∃L,env.frame=some L/\Heap.HeldW B (env::outer) e cls G L s.heap)
  (I:∀h',Heap.HeldW B (env::outer) e cls G L h'->s.heap.UpToSlots h'->Q () { s with heap:=h' }):wpAny M A (noteFrame (.ref e) env) Q E s:=by
 rcases h with⟨h1,h2,h3,oe,vs,he,hc,hd,h0,aa⟩|h|⟨L',Z,U⟩
 .subst hc;unfold noteFrame;simp only[F];show u5 (Yb he hd aa ?_);rw[acV aE];show wpAny_entryW Y h3 F he h1 h2 hd (ZK.mp aa).1 h0 λh' ⟨k1,k2,k3,k4⟩=>I h' #[k1,h2,k2,k3] k4
 .show wpAny_looks_onW Y F h I
 .rw[F]at Z;cases Z;show aau F U.2.2.2 (I s.heap U (Heap.UpToSlots.refl _))
theorem qM(Y:A.frames=some (env::outer)) (I:env.frame=some L) (h:wV B (env::outer) e cls F s.heap\/Heap.FlyingW B (env::outer) e cls F s.heap\/∃L,env.frame=some L/\Heap.HeldW B (env::outer) e cls F L s.heap) (c:C2 e s.heap)
  (U:∀h',Heap.HeldW B (env::outer) e cls F L h'->s.heap.UpToSlots h'->C2 e h'->Q () { s with heap:=h' }):wpAny M A (noteFrame (.ref e) env) Q E s :=
 W4 ((Bu (.ref e) env).any (E:=λ_ _=>False) (xl (Q:=λ_ s'=>∃h',s'={ s with heap:=h' }/\Heap.HeldW B (env::outer) e cls F L h'/\s.heap.UpToSlots h') Y I h λh' f u=>#[h',rfl,f,u]) c)
  (λ_ s' ⟨⟨h',G,f,u⟩,c'⟩=>by subst G;show U h' f u c') λ_ _ z=>z.1.elim
section
variable{κ:Type}[DecidableEq κ]
noncomputable def gr(kvs:List (κ×V))(k:κ):Option V:=(kvs.find? λF=>decide (F.1=k)).map (·.2)
noncomputable def putK(kvs:List (κ×V))(k:κ)(v:V):List (κ×V):=
 if (kvs.any λF=>decide (F.1=k))=true then kvs.map (λF=>if F.1=k then(F.1,v)else F)else kvs++[(k,v)]
noncomputable def nI(kvs:List (κ×V))(k:κ):List (κ×V):=kvs.filter λF=>decide (F.1≠k)
def ka{p:κ×V}{r:List (κ×V)}{k:κ}(e:p.1=k):gr (p::r) k=some p.2:=by simp[gr,Y5,e]
def jD{p:κ×V}{r:List (κ×V)}{k:κ}(e:¬ p.1=k):gr (p::r) k=gr r k:=by simp[gr,Y5,e]
theorem nX(k:κ):∀kvs:List (κ×V),(kvs.any λF=>decide (F.1=k))=(gr kvs k).10
 | []=>rfl
 |p::r=>by
  rw[abT];cases e:p.1=k
  .simp only[ka e,zA1 e,Bool.true_or,Option.isSome_some]
  .rw[jD e,zA2 e,acK];show nX k r
def km(kvs:List (κ×V))(k:κ)(v:V):(putK kvs k v).9<=kvs.9+1:=by
 unfold putK;split
 .rw[dM];omega
 .rw[ti,WG,abE];omega
def wj{kvs:List (κ×V)}{k:κ}(v:V)(h:gr kvs k=none):putK kvs k v=kvs++[(k,v)]:=by
 unfold putK;rw[nX,h];show acV aE
variable{o:Option V}{u:qa7}
theorem jK.jF(r:jK o u):o.10=u.10:=by
 cases o with
 |none=>cases u with
  |none=>rfl
  |some _=>show(show False from r).elim
 |some _=>cases u with
  |none=>show(show False from r).elim
  |some _=>rfl
theorem jK.getD{d:V}{d':Value}(r:jK o u)(rd:RelV d d'):RelV (o.getD d) (u.getD d'):=by
 cases o with
 |none=>cases u with
  |none=>show rd
  |some _=>show(show False from r).elim
 |some _=>cases u with
  |none=>show(show False from r).elim
  |some _=>show r
theorem KV.val{kvs:List (κ×V)}{vs:List (κ×Value)}(r:KV kvs vs)(k:κ):jK (gr kvs k) (aav vs k):=by
 unfold KV at r
 induction r with
 |nil=>show Xv
 | @cons p q ps qs h _ G =>
  let#[h1,h2]:=h;cases e:p.1=k
  .let F:q.1=k:=h1.symm.trans e;let b:aav (q::qs) k=some q.2:=(by simp[aav,Y5,F]);rw[ka e,b];show h2
  .let F:¬ q.1=k:=λz=>e (h1.trans z);let b:aav (q::qs) k=aav qs k:=(by simp[aav,Y5,F]);rw[jD e,b];show G
theorem KV.any{kvs:List (κ×V)}{vs:List (κ×Value)}(r:KV kvs vs)(k:κ):(kvs.any λF=>decide (F.1=k))=vs.any λF=>decide (F.1=k):=by
 unfold KV at r
 induction r with
 |nil=>rfl
 |cons h t G=>rw[abT,abT,G,h.1]
variable{y:V}{u:Value}
theorem KV.Lw{kvs:List (κ×V)}{vs:List (κ×Value)}(r:KV kvs vs)(k:κ)(G:RelV y u) :
  KV (kvs.map λF=>if F.1=k then(F.1,y)else F) (vs.map λF=>if F.1=k then(F.1,u)else F):=by
 unfold KV at r ⊢
 induction r with
 |nil=>show .nil
 | @cons p q ps qs h t I =>
  rw[Wy,Wy];show .cons ?_ I;let#[h1,h2]:=h;cases e:p.1=k
  .rw[acW e,acW (h1.symm.trans e)];show#[h1,G]
  .rw[acV e,acV (λz=>e (h1.trans z))];show#[h1,h2]
theorem KV.put{kvs:List (κ×V)}{vs:List (κ×Value)}(r:KV kvs vs)(k:κ)(F:RelV y u):KV (putK kvs k y) (stored vs k u):=by
 unfold putK stored;rw[r.any k];cases e:(vs.any λG=>decide (G.1=k))=true
 .rw[acW e,acW e];show r.Lw k F
 .rw[acV e,acV e];show Paired.snoc r #[rfl,F]
theorem KV.drop{kvs:List (κ×V)}{vs:List (κ×Value)}(r:KV kvs vs)(k:κ):KV (nI kvs k) (without vs k):=by
 unfold KV at r ⊢;unfold nI without
 induction r with
 |nil=>show .nil
 | @cons p q ps qs h _ F =>
  let#[h1,h2]:=h;rw[Zi,Zi];cases e:p.1=k
  .let a:¬ decide (p.1≠k)=true:=(by simp[e]);let b:¬ decide (q.1≠k)=true:=(by simp[h1.symm.trans e]);rw[acV a,acV b];show F
  .let G:¬ q.1=k:=λz=>e (h1.trans z);let a:decide (p.1≠k)=true:=(by simp[e]);let b:decide (q.1≠k)=true:=(by simp[G]);rw[acW a,acW b];show .cons #[h1,h2] F
theorem KV.keys{kvs:List (κ×V)}{vs:List (κ×Value)}(r:KV kvs vs):kvs.map (·.1)=vs.map (·.1):=by
 unfold KV at r
 induction r with
 |nil=>rfl
 |cons h t F=>rw[Wy,Wy,F,h.1]
theorem KV.length{kvs:List (κ×V)}{vs:List (κ×Value)}(r:KV kvs vs):kvs.9=vs.9:=Paired.length r
def Gn(kvs:List (κ×V))(k:κ):(nI kvs k).9<=kvs.9:=WL _ _
end
variable{u:Value}
theorem mY{k:Key}(r:RelV (kV k) u):(bO P w).is k u=true:=by
 cases k with
 |inl i=>let#[t,e]:=(show ∃t,u=Value.int i t from r);subst e;show xf P w i t
 |inr x=>let#[t,e]:=(show ∃t,u=Value.str x t from r);subst e;show wq P w x t
theorem tK{P:BY}{w:Oi}:∀{ks:List Key}{us:qa6},Vals (ks.map kV) us->ItemsAre (bO P w) ks us
 | [],_,r=>by rwa[acz]at r;show .nil
 |k::ks,_,r=>by
  rw[Wy]at r;cases r with
  |cons h t=>show .cons (mY h) (tK t)
abbrev KT(H:Hp):List (List Key×V)->List (List Key×zB0×Value)->Prop:=Paired λp q=>p.1=q.1/\H q.2.1|||(p.1.map kV)/\RelV p.2 q.2.2
variable{kvs:List (List Key×V)}{xs:List (List Key×zB0×Value)}
theorem KT.val(r:KT H kvs xs)(k:List Key):jK (gr kvs k) ((acq xs k).map (·.2)):=by
 induction r with
 |nil=>show Xv
 | @cons p q ps qs h _ G =>
  let#[h1,_,h2]:=h;cases e:p.1=k
  .let F:q.1=k:=h1.symm.trans e;let b:acq (q::qs) k=some q.2:=(by simp[acq,Y5,F]);rw[ka e,b];show h2
  .let F:¬ q.1=k:=λz=>e (h1.trans z);let b:acq (q::qs) k=acq qs k:=(by simp[acq,Y5,F]);rw[jD e,b];show G
variable{y:V}
theorem KT.Lw(r:KT H kvs xs)(k:List Key)(I:RelV y u) :
  KT H (kvs.map λF=>if F.1=k then(F.1,y)else F) (xs.map (putAt k u)):=by
 induction r with
 |nil=>show .nil
 | @cons p q ps qs h t L =>
  rw[Wy,Wy];show .cons ?_ L;let#[h1,h2,G]:=h;unfold putAt;cases e:p.1=k
  .rw[acW e,acW (h1.symm.trans e)];show#[h1,h2,I]
  .rw[acV e,acV (λz=>e (h1.trans z))];show#[h1,h2,G]
theorem KT.put(r:KT H kvs xs)(k:List Key){b:zB0}(G:H b|||(k.map kV))(F:RelV y u) :
  KT H (putK kvs k y) (storedH xs k b u):=by
 let e:(kvs.any λI=>decide (I.1=k))=(acq xs k).10:=by
  rw[nX,(r.val k).jF,YG]
 unfold putK storedH;rw[e];cases q:(acq xs k).10=true
 .rw[acW q,acW q];show r.Lw k F
 .rw[acV q,acV q];show Paired.snoc r #[rfl,G,F]
def KT.keeps(r:KT H kvs xs)(F:∀b ys,H b|||ys->H' b|||ys):KT H' kvs xs :=
 Paired.xb r λ_ _ z=>#[z.1,F _ _ z.2.1,z.2.2]
def Kp{u:HO}(ok:lF P w H h)(e:Rd H a u):cp P w H h a u:=e.ok ok
variable{kvs:qAg}
theorem jW(ok:lF P w H h)(e:Rd H a (.dK kvs)):kvs.9<=sizeLine/\(a==X3)=false/\∃vs,KV kvs vs/\h.DictOf (bO P w) a vs :=
 show cp P w H h a (.dK kvs)from Kp ok e
theorem lH(ok:lF P w H h)(e:H a^^^kvs):kvs.9<=sizeLine/\(a==X3)=false/\∃vs,KV kvs vs/\h.DictOf (bO P w) a vs:=jW ok (.inl e)
theorem lV{ks:List Key}(ok:lF P w H h)(e:H a|||(ks.map kV)):(Zz (bO P w)).is h ks a:=by
 let#[_,its,r,o,h1,h2,n,F]:=(show cp P w H h a (.tup (ks.map kV))from ok a _ e);show#[o,its.8,n,h1,h2,F,by simpa using tK r]
variable{kvs:List (List Key×V)}
theorem pq(ok:lF P w H h)(e:Rd H a (.dT kvs)):kvs.9<=sizeLine/\(a==X3)=false /\
  ∃xs,KT H kvs xs/\h.DictOfH (Zz (bO P w)) a xs:=by
 let#[z,y,xs,r,o,es,ep,h1,h2,I,L,U]:=(show cp P w H h a (.dT kvs)from Kp ok e);show#[z,y,xs,r,o,es,ep,h1,h2,I,L,λx F=>?_,U];let all:∀{l:List (List Key×V)}{m:List (List Key×zB0×Value)},KT H l m->∀x∈m,(Zz (bO P w)).is h x.1 x.2.1:=by
  intro l m q
  induction q with
  |nil=>intro x F;show nomatch F
  | @cons p q _ qs G _ Y =>
   intro x F;rcases We.mp F with e|F
   .subst e;show lV ok (by rw[<-G.1];show G.2.1)
   .show Y x F
 show all r x F
theorem Qr(ok:lF P w H h)(e:H a=some (.dT kvs)):kvs.9<=sizeLine/\(a==X3)=false /\
  ∃xs,KT H kvs xs/\h.DictOfH (Zz (bO P w)) a xs:=pq ok (.inl e)
def dG(H:Hp)(a:zB0)(y:V)(r:Option V):Prop :=
 (∃kvs k,Rd H a (.dK kvs)/\y=kV k/\r=gr kvs k)\/∃kvs k b,Rd H a (.dT kvs)/\y=.ref b/\H b|||(k.map kV)/\r=gr kvs k
def j3(H:Hp)(a:zB0)(y v:V)(H':Hp):Prop :=
 (∃kvs k,H a^^^kvs/\y=kV k/\kvs.9<sizeLine/\H'=upd H a (.dK (putK kvs k v))) \/
 ∃kvs k b,H a=some (.dT kvs)/\y=.ref b/\H b|||(k.map kV)/\kvs.9<sizeLine/\H'=upd H a (.dT (putK kvs k v))
variable{kvs:qAg}
theorem dG.k{k:Key}(e:H a^^^kvs):dG H a (kV k) (gr kvs k):=.inl #[kvs,k,.inl e,1]
theorem j3.k{k:Key}{v:V}(e:H a^^^kvs)(F:kvs.9<sizeLine):j3 H a (kV k) v (upd H a (.dK (putK kvs k v))):=.inl #[kvs,k,e,rfl,F,rfl]
section
def Inv.big(I: ~~~H s):X3<s⁻¹:=by
 let h:WB<s⁻¹:=(I.mod.glob.keeps I.bk).lt;show abY aE h
variable{v:V}{Q:qa2}
theorem CU(hu:A.units+1<Yy)(I: ~~~H s)(g:dG H a y (some v))(Z:RelV y u)(h:∀F s',~~~H s'->RelV v F->Q F s') :
  wpAny (model X.prog X.w) A (abS (.ref a) u) Q E s:=by
 rcases g with⟨kvs,k,e,U,l⟩|⟨kvs,k,b,e,U,eb,l⟩
 .subst U;let#[_,_,vs,L,dd]:=jW I.bL e;let#[F,Y,G]:=jK.some_of (v:=v) (o:=aav vs k) (by rw[l];show L.val k);show wpAny_getItem_of (mY Z) dd.mapOf Y (h F _ (I.tok _) G)
 .subst U;cases(show u=Value.ref b from Z);let#[_,_,xs,L,dd]:=pq I.bL e;let#[F,Y,G]:=jK.some_of (v:=v) (o:=(acq xs k).map (·.2)) (by rw[l];show L.val k);let#[p,hp,aa]:=HC.mp Y;show wpAny_getItem_heap (XN hu) (lV I.bL eb) dd hp ?_;rw[aa];show h F _ (I.tok _) G
variable{o:Option V}
theorem U7(Y:A.units+1<Yy)(I: ~~~H s)(g:dG H a y o)(L:RelV y u)(h:∀s',~~~H s'->Q (.bool o.10) s') :
  wpAny (model X.prog X.w) A (W8 .In u (.ref a)) Q E s:=by
 rcases g with⟨kvs,k,e,G,l⟩|⟨kvs,k,b,e,G,U,l⟩
 .subst G;let#[_,hd,vs,F,dd]:=jW I.bL e;show wpAny_in_of (mY L) hd dd.mapOf ?_;rw[<-(F.val k).jF, <-l];show h _ (I.tok _)
 .subst G;cases(show u=Value.ref b from L);let#[_,hd,xs,F,dd]:=pq I.bL e;show wpAny_in_heap (XN Y) (lV I.bL U) hd dd ?_;let q:=(F.val k).jF;rw[YG]at q;rw[<-q, <-l];show h _ (I.tok _)
theorem HX(Y:A.units+1<Yy)(I: ~~~H s)(g:dG H a y o)(L:RelV y u)(h:∀s',~~~H s'->Q (.bool (!o.10)) s') :
  wpAny (model X.prog X.w) A (W8 .NotIn u (.ref a)) Q E s:=by
 rcases g with⟨kvs,k,e,G,l⟩|⟨kvs,k,b,e,G,U,l⟩
 .subst G;let#[_,hd,vs,F,dd]:=jW I.bL e;show wpAny_notIn_of (mY L) hd dd.mapOf ?_;rw[<-(F.val k).jF, <-l];show h _ (I.tok _)
 .subst G;cases(show u=Value.ref b from L);let#[_,hd,xs,F,dd]:=pq I.bL e;show wpAny_notIn_heap (XN Y) (lV I.bL U) hd dd ?_;let q:=(F.val k).jF;rw[YG]at q;rw[<-q, <-l];show h _ (I.tok _)
variable{h':Heap}
theorem pX{t':Nat}{F:HO}(I: ~~~H s)(L:Qt (H a))(hs:Heap.SameBut a s.heap h')(U:∃q,h'.get? a=some q)(new:cp X.prog X.w (upd H a F) h' a F) :
  ~~~(upd H a F) { s with heap:=h',toks:=t' }:=
 I.write (x:=a) (e:=a) L (.inl rfl) (λb _ G z=>(hs.2 b G).trans z) U new
theorem yh{vs:List (Key×Value)}(z:kvs.9<=sizeLine)(hd:(a==X3)=false)(F:KV kvs vs)(dd:h'.DictOf (bO P w) a vs) :
  cp P w H' h' a (.dK kvs):=#[z,hd,vs,F,dd]
theorem BD{r:Value}{Q:Unit->sh->Prop}(hu:A.units+1<Yy)(I: ~~~H s)(g:j3 H a y v H')(ry:RelV y u)(rv:RelV v r)(h:∀s',~~~H' s'->Q () s') :
  wpAny (model X.prog X.w) A (setItem (.ref a) u r) Q E s:=by
 rcases g with⟨kvs,k,e,Y,l,eH⟩|⟨kvs,k,b,e,Y,eb,l,eH⟩
 .subst Y eH;let#[z,hd,vs,F,dd]:=lH I.bL e;let Z:vs.9<=sizeLine:=(by rw[<-F.9];show z);let U:(putK kvs k v).9<=sizeLine:=(by have:=km kvs k v;omega);show wpAny_setItem_pairs (hsz:=Z) (mY ry) dd λh' G hs=>h _ ?_;let he:∃q,h'.get? a=some q:=let ⟨q,_,_,L,_⟩:=G;#[q,L];show pX I (by rw[e];show Xv) hs he (yh U hd (F.put k rv) G)
 .subst Y eH;cases(show u=Value.ref b from ry);let#[z,hd,xs,F,dd]:=Qr I.bL e;let Z:xs.9<=sizeLine:=(by rw[<-Paired.length F];show z);let U:(putK kvs k v).9<=sizeLine:=(by have:=km kvs k v;omega);show wpAny_setItem_heap (hsz:=Z) (XN hu) (lV I.bL eb) dd λh' G hs=>h _ ?_;let#[q,es,ep,L,h2,h3,h4,_,h5]:=G;show pX I (by rw[e];show Xv) hs #[q,L] #[U,hd,_,(F.put k eb rv).keeps λc ys ec=>?_,q,es,ep,L,h2,h3,h4,h5];rw[ay (sU ec e (λz=>nomatch z))];show ec
variable{kvs:qAg}{k:Key}
theorem Qh{G:qa6}(I: ~~~H s)(e:H a^^^kvs)(U:RelV (kV k) u)(l:gr kvs k=some v)(Z:G=[]\/∃x,G=[x])
  (h:∀L s',~~~(upd H a (.dK (nI kvs k))) s'->RelV v L->Q L s'):wpAny (model X.prog X.w) A (call (.builtin "dict.pop") (.ref a::u::G)) Q E s:=by
 let#[z,hd,vs,Y,dd]:=lH I.bL e;let#[L,hw,ab]:=jK.some_of (v:=v) (o:=aav vs k) (by rw[<-l];show Y.val k);let hp:(keyPart u).10=true:=by
  cases k with
  |inl i=>let#[t,q]:=(show ∃t,u=Value.int i t from U);subst q;rfl
  |inr x=>let#[t,q]:=(show ∃t,u=Value.str x t from U);subst q;rfl
 let ha:argsOk "dict.pop" #[.ref a::u::G,[]]:=by
  rcases Z with q|⟨x,q⟩
  .subst q;show PySem.F.args_dict_pop_2 _ _
  .subst q;show PySem.F.args_dict_pop_3 _ _ _
 show X1 aaF dd.typeIs PySem.F.entry_dict_pop ha (meets_dict_pop_there (bO X.prog X.w) a (mY U) G Z hp)
  #[vs,L,dd,by rw[<-Y.9];show z,hw,λh' aa hs=>h L _ ?_ ab]
 let he:∃q,h'.get? a=some q:=let ⟨q,_,_,hq,_⟩:=aa;#[q,hq];show pX I (by rw[e];show Xv) hs he (yh (WK (Gn kvs k) z) hd (Y.drop k) aa)
theorem P8(I: ~~~H s)(e:Rd H a (.dK kvs))(h:∀t s',~~~H s'->Q (.int kvs.9 t) s'):wpAny (model X.prog X.w) A (call (.builtin "len") [.ref a]) Q E s:=by
 let#[z,hd,vs,F,dd]:=jW I.bL e;show call_len_dict hd dd (by rw[<-F.9];rw[DD]at z;omega) ?_;rw[<-F.9];show h _ _ (I.tok _)
end
def Qb(i:Ws):Prop:=∀ov F,aaR i false ov F=operate [ov,F] (abS ov F)
variable{value:Ws}{Q:qa2}
theorem JJ{prog:BY}{slice:Ws}{T id:String}
  (Y:typeLookup (.type T) "__getitem__" = pure (some (.builtin id))) (hs:Qb slice)
  (h:wpAny (model prog w) A (eval value env) (λo L=>wpAny (model prog w) A (eval slice env) (λi F=>F.TypeIs o T/\wpAny (model prog w) A (abS o i) Q E F) E L) E s) :
  wpAny (model prog w) A (eval (.Subscript value slice pos) env) Q E s:=by
 show abB (W4 h (λo L h₁=>W4 h₁ (λi F G=>?_) λ_ _ x=>x) λ_ _ x=>x);let#[I,G]:=G;unfold abq;show u5 ?_;rw[getitemInPython_of_ne I.not_modules];show u5 (wpAny_specialOf I Y ?_);let fin:wpAny (model prog w) A (aaR slice false o i) (λr U=>wpAny (model prog w) A (letTemporaryGo value o r>>=λ_=>pure r) Q E U) E F:=by
  rw[hs o i];show wpAny_operating (W4 G (λr U Z=>u5 (wpAny_letTemporaryGo (Wi Z))) λ_ _ x=>x)
 first
  |show Wi (u5 fin)
  |show u5 (Wi (u5 fin))
  |show u5 fin
theorem wI{o:Option V}(I: ~~~H s)(g:dG H a y o):s.TypeIs (.ref a) "dict" := by
 rcases g with⟨kvs,k,e,_,_⟩|⟨kvs,k,b,e,_,_,_⟩
 .let#[_,_,vs,_,dd]:=jW I.bL e;show dd.typeIs
 .let#[_,_,xs,_,dd]:=pq I.bL e;show dd.typeIs
inductive Dp(td ty:TE)(Q:VK)(x:V)(y:V)(H2:Hp):Prop
 |mk(a:_)(v:_)(_:x=.ref a)(_:dG H2 a y (some v))(_:Q v H2)
def jC(td ty:TE):TE:=λσ H Q=>td σ H λx H1=>ty σ H1 λy H2=>Dp td ty Q x y H2
inductive KW(ty td:TE)(Q:VK)(y:V)(x:V)(H2:Hp):Prop
 |mk(a:_)(o:_)(_:x=.ref a)(_:dG H2 a y o)(_:Q (.bl o.10) H2)
def NQ(ty td:TE):TE:=λσ H Q=>ty σ H λy H1=>td σ H1 λx H2=>KW ty td Q y x H2
inductive xT(ty td:TE)(Q:VK)(y:V)(x:V)(H2:Hp):Prop
 |mk(a:_)(o:_)(_:x=.ref a)(_:dG H2 a y o)(_:Q (.bl (!o.10)) H2)
def Ic(ty td:TE):TE:=λσ H Q=>ty σ H λy H1=>td σ H1 λx H2=>xT ty td Q y x H2
def PZ(td ty tv:TE):TS:=λD σ H=>tv σ H λv H1=>td σ H1 λx H2=>ty σ H2 λy G=>AO λa F=>yd (x=.ref a) (j3 G a y v F) (D.nx σ F)
variable{o i:Ws}{td ty:TE}
theorem aQ(L:X.A.units+1<Yy)(ho:PE X o td)(hi:PE X i ty)(hs:Qb i):PE X (.Subscript o i pos) (jC td ty):=by
 intros Q I h;show JJ PySem.F.slot_dict_getitem.lookup hs (cc (ho pins s σ H _ I h) λu s1 ab=>?_);let#[x,H1,Z,rx,q1]:=ab;show cc (hi pins s1 σ H1 _ Z q1) λiv s2 aa=>?_;let#[y,H2,G,Y,a,v,ex,g,q2]:=aa;subst ex;obtain rfl:u=Value.ref a:=rx;show#[wI G g,CU L G g Y λw' s3 I3 U=>#[v,H2,I3,U,q2]]
theorem jO(U:X.A.units+1<Yy)(hi:PE X i ty)(ho:PE X o td):PC X .In i o (NQ ty td):=by
 intros Q I h;show cc (hi pins s σ H _ I h) λiv s1 F=>?_;let#[y,H1,Z,Y,L]:=F;show cc (ho pins s1 σ H1 _ Z L) λu s2 aa=>?_;let#[x,H2,I2,rx,a,ov,ex,g,q2]:=aa;subst ex;obtain rfl:u=Value.ref a:=rx;show U7 U I2 g Y λs3 G=>#[.bl ov.10,H2,G,rfl,q2]
theorem kO(L:X.A.units+1<Yy)(hi:PE X i ty)(ho:PE X o td):PC X .NotIn i o (Ic ty td):=by
 intros Q I h;show cc (hi pins s σ H _ I h) λiv s1 Y=>?_;let#[y,H1,I1,Z,G]:=Y;show cc (ho pins s1 σ H1 _ I1 G) λu s2 U=>?_;let#[x,H2,I2,rx,a,ov,ex,g,q2]:=U;subst ex;obtain rfl:u=Value.ref a:=rx;show HX L I2 g Z λs3 F=>#[.bl (!ov.10),H2,F,rfl,q2]
variable{tv:TE}
theorem fA{pos':XU}(G:X.A.units+1<Yy)(ho:PE X o td)(hi:PE X i ty)(F:PE X value tv)(hs:YK value (some (.Subscript o i pos')) pos.line X.env=pure false) :
  PS X (.Assign [.Subscript o i pos'] value pos) (PZ td ty tv):=by
 intros D I h;show wpAny_Assign_Subscript (cc (F pins s σ H _ I h) λr s1 aa=>?_) hs;let#[v,H1,Y,rv,q1]:=aa;show cc (ho pins s1 σ H1 _ Y q1) λu L Z=>?_;let#[x,H2,I2,rx,q2]:=Z;show cc (hi pins L σ H2 _ I2 q2) λiv s3 ab=>?_;let#[y,H3,I3,U,a,H4,ex,g,q3]:=ab;subst ex;obtain rfl:u=Value.ref a:=rx;show BD G I3 g U rv λs4 I4=>#[σ,H4,I4,q3]
theorem wO(h:Heap)(F:X3<h.objs.3):cp P w H (h.push { cls:=.type "dict",data:=.dict ([].8) }) h.objs.3 (.dK []):=
 #[Xr _,beq_eq_false_iff_ne.mpr (zA3 (WZ F)),[],.nil,Heap.DictOf.new h]
def yy:TE:=λ_ H Q=>∀p,H p=none->Q (.ref p) (upd H p (.dK []))
theorem iT:PE X (.Dict [] [] pos) yy:=λpins s σ H Q I h =>
 wpAny_Dict_empty #[95,I.laid (a:=s⁻¹) (o:=.dK []) (t':=s.toks) (λ_ _ q=>zA4 _ q) (G0 _) (wO s.heap I.big),rfl,h _ (I.bL.fresh (G0 _))]
def y9:List (TE×TE)->St->Hp->(List (V×V)->Hp->Prop)->Prop
 | [],_,H,Q=>Q [] H
 |(tk,tv)::r,σ,H,Q=>tk σ H λx H1=>tv σ H1 λy H2=>y9 r σ H2 λps F=>Q ((x,y)::ps) F
abbrev VV:List (V×V)->List (Value×Value)->Prop:=Paired λp q=>RelV p.1 q.1/\RelV p.2 q.2
def QC(X:Cx)(pos:XU)(keys:List (Option Ws))(values:qAe)(trs:List (TE×TE)):Prop :=
 ∀(pins:qa1)(s:sh)(σ:St)(H:Hp)(Q:List (V×V)->Hp->Prop),~~~H s->y9 trs σ H Q ->
  ↑(evalPairs (pairTrees keys values X.env pos)) (λvs s'=>∃ps H',~~~H' s'/\VV ps vs/\Q ps H') X.xe s
def p9:QC X pos [] [] []:=λpins s σ H Q I h=>pairTrees_nil_walk #[[],H,I,.nil,h]
variable{trs:List (TE×TE)}
theorem mS{k:Ws}{ks:List (Option Ws)}{tk:TE}(hk:PE X k tk)(F:PE X v tv)(hr:QC X pos ks vs trs) :
  QC X pos (some k::ks) (v::vs) ((tk,tv)::trs):=λpins s σ H Q I h =>
 pairTrees_cons_walk (cc (hk pins s σ H _ I h) λu s1 ⟨x,H1,U,rx,q1⟩=>cc (F pins s1 σ H1 _ U q1) λw2 L ⟨y,H2,I2,Y,q2⟩ =>
  cc (hr pins L σ H2 _ I2 q2) λws s3 ab=>by let#[ps,G,I3,aa,Z]:=ab;show#[(x,y)::ps,G,I3,.cons #[rx,Y] aa,Z])
noncomputable def cY(kvs I:qAg):List (Key×V):=I.foldl (λG F=>putK G F.1 F.2) kvs
theorem KV.merge:∀{F:qAg}{rs:List (Key×Value)}{kvs:qAg}{vs:List (Key×Value)},KV F rs->KV kvs vs->KV (cY kvs F) (merged vs rs):=by
 intro F rs kvs vs r;unfold KV at r
 induction r generalizing kvs vs with
 |nil=>intro q;show q
 | @cons p q _ _ h _ I =>
  intro G;let e:KV (putK kvs p.1 p.2) (stored vs q.1 q.2):=by
   have:=G.put p.1 h.2;rw[<-h.1];show this
  show I e
theorem lG:∀(F kvs:qAg),(cY kvs F).9<=kvs.9+F.9
 | [],kvs=>by change kvs.9<=kvs.9+0;omega
 |p::r,kvs=>by
  let h1:=lG r (putK kvs p.1 p.2);let h2:=km kvs p.1 p.2;change(cY (putK kvs p.1 p.2) r).9<=_;rw[WG];omega
theorem qv{P:BY}{w:Oi}:∀{kvs:qAg}{ws:List (Value×Value)},VV (kvs.map λF=>(kV F.1,F.2)) ws->∃rs,Carries (bO P w) ws rs/\KV kvs rs
 | [],_,r=>by rwa[acz]at r;show#[[],Xv,.nil]
 |p::kvs,_,r=>by
  rw[Wy]at r;cases r with
  | @cons a b L bs h t =>
   let#[rs,c,q]:=qv (P:=P) (w:=w) t;let#[I,G]:=b;show#[(p.1,G)::rs,#[mY h.1,rfl,c],.cons #[rfl,h.2] q]
def qC(trs:List (TE×TE)):TE:=λσ H Q=>∀p,H p=none->y9 trs σ (upd H p (.dK [])) λps H2=>H2 p^^^[]/\∃kvs:List (Key×V),ps=kvs.map (λF=>(kV F.1,F.2))/\kvs.9<=15/\Q (.ref p) (upd H2 p (.dK (cY [] kvs)))
theorem qj{keys:List (Option Ws)}{values:qAe}(h:QC X pos keys values trs)(Z:keys.all (·.isSome)=true)(L:keys.9=values.9)(h0:keys≠[])
  (aa:keys.9<=15):PE X (.Dict keys values pos) (qC trs):=by
 intros Q I q;let U:=I.bL.fresh (G0 s⁻¹);let Y:=I.laid (a:=s⁻¹) (o:=.dK []) (h':=s.heap.push { cls:=.type "dict",data:=.dict ([].8) }) (t':=s.toks) (λ_ _ q=>zA4 _ q) (G0 _) (wO s.heap I.big);show wpAny_Dict_walk (knd:=bO X.prog X.w) Z L h0 aa (cc (h pins _ σ _ _ Y (q _ U)) λws s2 ac=>?_);let#[ps,H2,G,ab,e,kvs,ep,lk,q2]:=ac;subst ep;let#[rs,c,rk]:=qv (P:=X.prog) (w:=X.w) ab;let#[_,hd,ad,r0,dd]:=lH G.bL e;cases r0;show#[rs,c,dd,λh' F hs=>#[95,55,q2]];let hz:(cY [] kvs).9<=sizeLine:=by
  let h1:=lG kvs [];rw[abE]at h1;rw[DD];omega
 let he:∃q,h'.get? s⁻¹=some q:=let ⟨q,_,_,hq,_⟩:=F;#[q,hq];show pX G (by rw[e];show Xv) hs he (yh hz hd (rk.merge .nil) F)
structure M1(X:Cx)(o:Ws)(m:Str)(apos:XU)(e:Ws)(cpos:XU):Prop where
 base:Xx o m X.env (eval o X.env)=eval o X.env
 Ru:((backTo cpos (starEach [e] X.env)).all (λx => !x.1)&&(aaQ cpos (Zf [] X.env)).all (λx=>x.1.10)
  && decide (([e]:qAe).9+([]:List aan).9+(if ([]:List aan).isEmpty then 0 else 1)<30))=true
 line:(apos.endLine==cpos.line)=true
 trees:backTo cpos (starEach [e] X.env)=[(false,eval e X.env)]
structure M2(X:Cx)(o:Ws)(m:Str)(apos:XU)(e f:Ws)(cpos:XU):Prop where
 base:Xx o m X.env (eval o X.env)=eval o X.env
 Ru:((backTo cpos (starEach [e,f] X.env)).all (λx => !x.1)&&(aaQ cpos (Zf [] X.env)).all (λx=>x.1.10)
  && decide (([e,f]:qAe).9+([]:List aan).9+(if ([]:List aan).isEmpty then 0 else 1)<30))=true
 line:(apos.endLine==cpos.line)=true
 trees:backTo cpos (starEach [e,f] X.env)=[(false,eval e X.env),(false,eval f X.env)]
def Ra(H:Hp)(a:zB0):Prop:=(∃kvs,Rd H a (.dK kvs))\/∃kvs,Rd H a (.dT kvs)
theorem lM(I: ~~~H s)(d:Ra H a) :
  s.TypeIs (.ref a) "dict" /\ (∀b,Value.ref a=.ref b->∃F,s.heap.get? b=some F/\F.dict=none)/\(a==X3)=false:=by
 rcases d with⟨kvs,e⟩|⟨kvs,e⟩
 .let#[_,hd,vs,_,dd]:=jW I.bL e;show#[dd.typeIs,λb q=>?_,hd];cases q;let#[F,_,_,h1,h2,_]:=dd;show#[F,h1,h2.2.1]
 .let#[_,hd,xs,_,dd]:=pq I.bL e;show#[dd.typeIs,λb q=>?_,hd];cases q;let#[F,_,_,h1,h2,_]:=dd;show#[F,h1,h2.2.1]
variable{o:Option V}
theorem Mu(hu:A.units+1<Yy)(I: ~~~H s)(g:dG H a y o)(U:RelV y u)(h:∀Y s',~~~H s'->RelV (o.getD .bh) Y->Q Y s') :
  wpAny (model X.prog X.w) A (call (.builtin "dict.get") [.ref a,u]) Q E s:=by
 rcases g with⟨kvs,k,e,L,l⟩|⟨kvs,k,b,e,L,Z,l⟩
 .subst L;let#[_,hd,vs,G,dd]:=jW I.bL e;show X1 YA dd.typeIs ZL (aab _ _) (meets_dict_get (bO X.prog X.w) a (mY U) hd) #[_,dd.mapOf,68];rw[l];show(G.val k).getD rfl
 .subst L;cases(show u=Value.ref b from U);let#[_,hd,xs,G,dd]:=pq I.bL e;show X1 YA dd.typeIs ZL (aab _ _) (meetsH_dict_get (Zz (bO X.prog X.w)) a b hd) #[XN hu,k,xs,lV I.bL Z,dd,68];rw[l];show(G.val k).getD rfl
theorem K3{d:V}{r:Value}(hu:A.units+1<Yy)(I: ~~~H s)(g:dG H a y o)(U:RelV y u)(rd:RelV d r)(h:∀Y s',~~~H s'->RelV (o.getD d) Y->Q Y s') :
  wpAny (model X.prog X.w) A (call (.builtin "dict.get") [.ref a,u,r]) Q E s:=by
 rcases g with⟨kvs,k,e,L,l⟩|⟨kvs,k,b,e,L,Z,l⟩
 .subst L;let#[_,hd,vs,G,dd]:=jW I.bL e;show X1 YA dd.typeIs ZL (aac _ _ _) (meets_dict_get_default (bO X.prog X.w) a (mY U) hd r) #[_,dd.mapOf,68];rw[l];show(G.val k).getD rd
 .subst L;cases(show u=Value.ref b from U);let#[_,hd,xs,G,dd]:=pq I.bL e;show X1 YA dd.typeIs ZL (aac _ _ _) (meetsH_dict_get_default (Zz (bO X.prog X.w)) a b hd r) #[XN hu,k,xs,lV I.bL Z,dd,68];rw[l];show(G.val k).getD rd
inductive AN(td ty:TE)(σ:St)(Q:VK)(x:V)(H1:Hp):Prop
 |mk (a:_) (_:x=.ref a) (_:Ra H1 a) (_:ty σ H1 λy H2=>∃o,dG H2 a y o/\Q (o.getD .bh) H2):AN td ty σ Q x H1
def LJ(td ty:TE):TE:=λσ H Q=>td σ H λx H1=>AN td ty σ Q x H1
inductive AV(td ty tx:TE)(σ:St)(Q:VK)(x:V)(H1:Hp):Prop
 |mk (a:_) (_:x=.ref a) (_:Ra H1 a) (_:ty σ H1 λy H2=>tx σ H2 λz H3=>∃o,dG H3 a y o/\Q (o.getD z) H3):AV td ty tx σ Q x H1
def N5(td ty tx:TE):TE:=λσ H Q=>td σ H λx H1=>AV td ty tx σ Q x H1
inductive Bb(td ty:TE)(σ:St)(Q:VK)(x:V)(H1:Hp):Prop
 |mk (a:_) (_:x=.ref a) (_:Ra H1 a) (_:ty σ H1 λy H2=>∃kvs k v,H2 a^^^kvs/\y=kV k/\gr kvs k=some v/\Q v (upd H2 a (.dK (nI kvs k)))):Bb td ty σ Q x H1
def Ny(td ty:TE):TE:=λσ H Q=>td σ H λx H1=>Bb td ty σ Q x H1
section
variable{o e:Ws}{apos cpos:XU}
theorem Fd(L:X.A.units+1<Yy)(ho:PE X o td)(he:PE X e ty)(m:M1 X o "get" apos e cpos):PE X (.Call (.Attribute o "get" apos) [e] [] cpos) (LJ td ty):=by
 intros Q I h;show ZX m.base m.Ru m.line XW YA aaG (cc (ho pins s σ H _ I h) λu s1 ab=>?_);let#[x,H1,G,rx,a,ex,d,q1]:=ab;subst ex;obtain rfl:u=Value.ref a:=rx;let#[t1,Y,_]:=lM G d;show#[t1,Y,?_];rw[m.trees];show Calls.callWith_builtin rfl (Calls.evalArgs_plain (Calls.spliced_cons (cc (he pins s1 σ H1 _ G q1) λiv s2 aa=>?_)));let#[y,H2,I2,Z,ov,g,q2]:=aa;show Calls.spliced_nil ?_;show Mu L I2 g Z λw' s3 I3 U=>#[_,H2,I3,U,q2]
theorem Gx{f:Ws}{tx:TE}(Y:X.A.units+1<Yy)(ho:PE X o td)(he:PE X e ty)(hf:PE X f tx)(m:M2 X o "get" apos e f cpos):PE X (.Call (.Attribute o "get" apos) [e,f] [] cpos) (N5 td ty tx):=by
 intros Q I h;show ZX m.base m.Ru m.line XW YA aaG (cc (ho pins s σ H _ I h) λu s1 ab=>?_);let#[x,H1,G,rx,a,ex,d,q1]:=ab;subst ex;obtain rfl:u=Value.ref a:=rx;let#[t1,t2,_]:=lM G d;show#[t1,t2,?_];rw[m.trees];show Calls.callWith_builtin rfl (Calls.evalArgs_plain (Calls.spliced_cons (cc (he pins s1 σ H1 _ G q1) λiv Z ⟨y,H2,I2,ry,q2⟩ =>
  Calls.spliced_cons (cc (hf pins Z σ H2 _ I2 q2) λfv s3 ⟨z,L,I3,U,ov,g,q3⟩=>Calls.spliced_nil ?_))))
 show K3 Y I3 g ry U λw' s4 I4 aa=>#[_,L,I4,aa,q3]
theorem gh(ho:PE X o td)(he:PE X e ty)(m:M1 X o "pop" apos e cpos):PE X (.Call (.Attribute o "pop" apos) [e] [] cpos) (Ny td ty):=by
 intros Q I h;show ZX m.base m.Ru m.line XW aaF PySem.F.type_dict_pop (cc (ho pins s σ H _ I h) λu s1 aa=>?_);let#[x,H1,G,rx,a,ex,d,q1]:=aa;subst ex;obtain rfl:u=Value.ref a:=rx;let#[t1,U,_]:=lM G d;show#[t1,U,?_];rw[m.trees];show Calls.callWith_builtin rfl (Calls.evalArgs_plain (Calls.spliced_cons (cc (he pins s1 σ H1 _ G q1) λiv s2 Z=>?_)));let#[y,H2,I2,Y,kvs,k,v,ea,ey,l,q2]:=Z;show Calls.spliced_nil ?_;subst ey;show Qh I2 ea Y l (.inl rfl) λw' s3 I3 L=>#[v,_,I3,L,q2]
theorem BM:eI X (.builtin "len") (λxs H Q=>∃a kvs,xs=[V.ref a]/\H a^^^kvs/\Q (.int kvs.9) H):=by
 intros xs us Q I r h;let#[a,kvs,rfl,F,q]:=h;let#[u,rfl,ru]:=vals1 r;cases ru;show P8 I (.inl F) λt s' G=>#[.int kvs.9,H,G,#[t,rfl],q]
variable{κ:Type}[DecidableEq κ]{k:Key}{r:Value}{d:V}
variable{o:Obj}
theorem Inv.swap{u:HO}{w:HO}(I: ~~~H s)(h:H a=some u)(h1:∀o F,X.H₀ a≠some (.frz o F))(h2:∀xs,u≠.tup xs)(Y:∀ps,u≠.tbl ps)(h4:∀x,u≠.own x)(new:cp X.prog X.w (upd H a w) s.heap a w): ~~~(upd H a w) s:=by
 let ne:∀b,H b=none->b≠a:=λb q z=>(by rwa[z,h]at q);show#[I.ok,I.os,I.bare,#[I.base.keep,I.base.slot,λb o q nn Z=>?_,I.base.there,λb xs q=>?_,λb o F q=>?_,λb ps q=>?_],I.loc,I.cell,?_,λy c q=>?_,λp hp=>?_,λb v q=>?_,I.len]
 .let z:=I.base.free b o q nn Z;rw[ay (ne b z)];show z
 .let z:=I.base.t9 b xs q;rw[ay (λe=>h2 xs (by rw[e,h]at z;show OR z))];show z
 .let z:=I.base.sP b o F q;rw[ay (λe=>h1 o F (by rw[<-e];show q))];show z
 .let#[U,z]:=I.base.vk b ps q;show#[U,by rw[ay (λe=>Y _ (by rw[e,h]at z;show OR z))];show z]
 .rw[ay (ne _ I.free)];show I.free
 .rw[ay (ne _ (I.i7 y c q))];show I.i7 y c q
 .let#[a1,G,a3]:=I.pin p hp;show#[a1,by rw[ay (ne _ G)];show G,a3]
 .cases L:b=a
  .subst L;rwa[ag]at q;show new
  .rw[ay L]at q;show(I.bL b v q).jj (λ_ _ _ z=>z) (λc z=>by rw[ay (λe=>h4 b (by rw[e,h]at z;show OR z))];show z) λc xs z=>by rw[ay (λe=>h2 xs (by rw[e,h]at z;show OR z))];show z
theorem Inv.freeze(I: ~~~H s)(h:H a^^^kvs)(ho:s.heap.get? a=some o)(h1:∀o F,X.H₀ a≠some (.frz o F)): ~~~(upd H a (.frz o (.dK kvs))) s :=
 I.swap h h1 (λ_ z=>nomatch z) (λ_ z=>nomatch z) (λ_ z=>nomatch z) #[ho,(show cp X.prog X.w H s.heap a (.dK kvs)from I.bL a _ h)]
theorem Inv.Of(I: ~~~H s)(h:H a=some (.frz o (.dK kvs)))(h1:∀o F,X.H₀ a≠some (.frz o F)): ~~~(upd H a (.dK kvs)) s :=
 I.swap h h1 (λ_ z=>nomatch z) (λ_ z=>nomatch z) (λ_ z=>nomatch z) (show cp X.prog X.w H s.heap a (.frz o (.dK kvs))from I.bL a _ h).2
end
def Dl(o:Obj):Nat:=match o.data with
 |.dict _ ep=>ep
 |_=>0
noncomputable def Ro(a:zB0)(o:Obj)(kvs:qAg):It :=
 #[111,λi H x H'=>H'=H/\∃k v,kvs[i]?=some (k,v)/\x=kV k,108]
theorem va{k:Key}(h:(bO P w).is k u=true):RelV (kV k) u:=by
 rcases cW (show qU k u=true from h)with⟨i,t,rfl,rfl⟩|⟨x,t,rfl,rfl⟩
 .show#[t,rfl]
 .show#[t,rfl]
variable{o:Obj}
theorem oM(ok:lF P w H h)(e:H a=some (.frz o (.dK kvs))):(a==X3)=false/\∃vs,KV kvs vs/\h.DictAt (bO P w) a vs (Dl o):=by
 let#[ho,_,hd,vs,r,o',es,ep,h1,h2,F,G]:=(show cp P w H h a (.frz o (.dK kvs))from ok a _ e);rwa[ho]at h1;let I:Dl o=ep:=(by unfold Dl;rw[F]);show#[hd,vs,r,o,es,ho,h2,by rw[I];show F,G]
variable{tg:Ws}
theorem CW(a it:zB0)(ak:a≠it)(o:Obj)(kvs:qAg):Turn P w K tg (Ro a o kvs) [it] it (λi h=>h.IsKeyIter it a i kvs.9 (Dl o)) where
 mem:=by simp
 obj:=λi h st b G=>by
  let e:b=it:=‹G›;subst e;let#[ob,h1,_,Z]:=st;show#[ob,h1,λv z=>by rwa[Z]at z]
 keep:=λi h h' st k=>st.at λo e=>k it (by simp) o e
 item:=by
  intro X Y hw hK hc i pins s σ H E I U st hg;subst Y hw hK;let#[aa,L]:=hg;let#[f0,f1,_,f3,f4,f5]:=U it (by simp);let#[_,vs,r,da]:=oM I.bL aa;let F:=r.9;obtain⟨⟨k,x⟩,hx⟩:∃p,vs[i]?=some p:=#[vs[i]'(abF L F),by simp];let ac:∃v,kvs[i]?=some (k,v):=by
   let hi:i<kvs.9:=L;show#[(kvs[i]).2,?_];let e:=r.keys;let e1:(kvs.map (·.1))[i]?=(vs.map (·.1))[i]?:=(by rw[e]);rw[LW,LW,hx,y0 hi]at e1;let e2:kvs[i].1=k:=OR e1;rw[y0 hi, <-e2]
  let#[v,hv]:=ac;rw[F]at st ⊢;show wpAny_pyNext_dict_item st da hx λkey h' aj ab ad=>?_;let I1: ~~~H { s with heap:=h',toks:=s.toks }:=I.turned (λb o G e=>(ad.2 b G).trans e) f0 f1 f3 f4 f5;let#[ob,h1,h2,Z]:=id ab;show#[0,sS (s:={ s with heap:=h' }) (n := "dict_keyiterator") h1 h2 Z aE #[kV k,H,I1,va aj,#[rfl,k,v,hv,rfl],ab,λb G=>(U b G).1]]
 done:=by
  intro X Y hw hK hc i pins s σ H E I U st hg;subst Y hw hK;let#[aa,L]:=hg;let#[f0,f1,_,f3,f4,f5]:=U it (by simp);let#[_,vs,r,da]:=oM I.bL aa;let F:=r.9;rw[F]at st;show wpAny_pyNext_dict_end (I.ok.hd hc) st da (by simp;show le_of_eq_of_le (id (Eq.symm F)) L) λh' eb=>#[rfl,I.turned (t':=s.toks) eb f0 f1 f3 f4 f5]
 self:=λ_ _ _ _ _ st h=>wpAny_pyIter_keyiter st h
def Pd(H₀:Hp)(td:TE):TI:=λσ H R=>td σ H λx H1=>AO λa kvs=>Hj (x=.ref a) (H1 a^^^kvs) ((∀o F,H₀ a≠some (.frz o F))) (∀o,R (Ro a o kvs) (upd H1 a (.frz o (.dK kvs))))
theorem ID{l:Ws}(Z:PE X l td):PI X tg l (Pd X.H₀ td):=by
 intros R I h;show cc (Z pins s σ H _ I h) λv F ab=>?_;let#[x,H1,U,r1,a,kvs,e,Y,hn,q]:=ab;subst e;cases r1;let#[_,hd,vs,aa,dd]:=lH U.bL Y;let#[G,es,ep,h1,h2,h3,h4]:=id dd;let L:=U.freeze Y h1 hn;let lt:a<F⁻¹:=zA6 h1;let da:F.heap.DictAt (bO X.prog X.w) a vs (Dl G):=#[G,es,h1,h2,by unfold Dl;rw[h3],h4];show wpAny_pyIter_dict hd da ?_;show#[F⁻¹,[F⁻¹],_,Ro a G kvs,0,L.kept (t':=F.toks) λb o e=>zA4 _ e,CW a _ (WZ lt) G kvs,#[_,37,3],λb hb=>?_,q G]
 .rw[aa.9];rfl
 .let e:b=F⁻¹:=‹hb›;subst e;show L.nQ (G0 _) (L.bL.fresh (G0 _))
def PH(H₀:Hp)(t:TS):TS:=λD σ H=>t { D with
 nx:=λG H'=>∃a o kvs,H' a=some (.frz o (.dK kvs))/\(∀o F,H₀ a≠some (.frz o F))/\D.nx G (upd H' a (.dK kvs))
 rt:=λv H'=>∃a o kvs,H' a=some (.frz o (.dK kvs))/\(∀o F,H₀ a≠some (.frz o F))/\D.rt v (upd H' a (.dK kvs)) } σ H
theorem Ao{t:TS}(h:PS X st t):PS X st (PH X.H₀ t):=by
 intros D I q;show cc (h pins s σ H _ I q) λf s1 F=>?_;cases f with
 |next =>
  let#[Z,H',Y,a,o,kvs,U,G,L]:=F;show#[Z,_,Y.Of U G,L]
 |ret u =>
  let#[v,Z,H',Y,r,a,o,kvs,U,G,L]:=F;show#[v,Z,_,Y.Of U G,r,L]
 |brk=>show F
 |cont=>show F
theorem Hf{g:TG}{tb:TS}{D:Ends}(Pv:Nat->St->Hp->Prop)(I:Pv 0 σ H)(F:∀i σ H,i<=kvs.9->Pv i σ H->H a=some (.frz o (.dK kvs)))
  (hs:∀i k v σ H,kvs[i]?=some (k,v)->Pv i σ H->g (kV k) σ H λL H2=>tb { D with nx:=Pv (i+1),ct:=Pv (i+1),bk:=D.nx } L H2) (hd:∀σ H,Pv kvs.9 σ H->D.nx σ H) :
  FW (Ro a o kvs) g tb D σ H:=by
 show Di Pv I hd (λσ H p=>#[119]) λi σ H G p=>?_;let q:=F i σ H (Yo G) p;show#[#[q,G],127];let#[e,k,v,hk,ex]:=y;subst e ex;show hs i k v σ _ hk p
inductive OW(K:Wa)(x:V)(y:V)(H:Hp)(Q:VK):Prop
 |mk(p:_)(q:_)(xs:_)(ys:_)(_:x=.ref p)(_:y=.ref q)(_:a9 K H p xs)(_:a9 K H q ys)(_:xs.all d9=true)(_:ys.all d9=true)(_:Q (.bl (!lQ xs ys)) H)
theorem yi(G:X.A.units<Yy):lj X (W8 .NotEq) (OW X.K):=by
 intros x y v u Q I rx ry h;let#[p,q,xs,ys,rfl,rfl,Z,hy,fx,fy,Y]:=h;cases rx;cases ry;let#[its,r,pl,_]:=I.list Z;let#[ab,L,U,_]:=I.list hy;let F:=r.9;let aa:=L.9;cases e:xs.9=ys.9
 .show acL (e:=λj=>jx (xs.getD j .bh) (ys.getD j .bh)) pl.isList U.isList (by rw[V9,V9];omega) G (Kh r L fx fy) _ _ _ _ #[.bl (!lQ xs ys),H,I,?_,Y];change Value.bool _=Value.bool _;rw[V9, <-F,lW e]
 .show abZ pl.isList U.isList ?_ G _ _ _ _ #[.bl (!lQ xs ys),H,I,?_,Y]
  .rw[V9,V9, <-F, <-aa];show bne_iff_ne.mpr e
  .change Value.bool _=Value.bool _;rw[qZ e];rfl
def HM(lo st:Int)(n:Nat):It:=#[λi _=>i<n,λi H x H'=>H'=H/\x=.int (lo+i*st),λi _=>n<=i]
theorem xh(it:zB0)(lo st:Int)(n:Nat):Turn P w K tg (HM lo st n) [it] it (λi h=>aaP h it (lo+(i:Nat)*st) ((n:Int)-(i:Nat)) st) where
 mem:=by simp
 obj:=λi h st b F=>by
  let e:b=it:=‹F›;subst e;show#[_,st,λv z=>by
   let z':Data.fields _=Data.cell v:=z;cases z']
 keep:=λi h h' st k=>k it (by simp) _ st
 item:=by
  intro X L hw hK hc i pins s σ H E I G aa hg;subst L hw hK;let#[f0,f1,_,Z,U,Y]:=G it (by simp);let W:=Walks.range (prog:=X.prog) (w:=X.w) (I.ok.hd hc) it lo st n;show W.item i s _ _ hg aa λv h' tk hv ab kk=>?_;let#[t,rfl]:=hv;let I1: ~~~H { s with heap:=h',toks:=tk }:=I.turned (λb o F e=>kk b o ‹F› e) f0 f1 Z U Y;show#[0,sS (s:={ s with heap:=h',toks:=tk }) (n := "range_iterator") ab rfl rfl aE #[.int (lo+i*st),H,I1,#[t,rfl],#[1],ab,λb F=>(G b F).1]]
 done:=by
  intro X L hw hK hc i pins s σ H E I G aa hg;subst L hw hK;let#[f0,f1,_,Z,U,Y]:=G it (by simp);show aaj (I.ok.hd hc) aa (by have:n<=i:=hg;omega) λh' eb=>#[rfl,I.turned (t':=s.toks) eb f0 f1 Z U Y]
 self:=λ_ _ _ _ _ st h=>aak st h
def Pu(ta:TA):TI:=λσ H R=>ta σ H λvs H1=>∃(i j st:Int)(n:Nat),vs=[.int i,.int j,.int st]/\Builtin.Range.small i j st=true/\Builtin.Range.rangeSize i j st=(n:Int)/\st≠0/\Builtin.divisionGoesByPylong (j-i) st=false/\R (HM i st n) H1
theorem BZ{a b c:Ws}{ta:TA}{p:XU}(hg:Gl X "range")(hm:X.mg "range" = none)(ha:PA X [a,b,c] ta)(hs:starEach [a,b,c] X.env=[(false,eval a X.env),(false,eval b X.env),(false,eval c X.env)]:=by rfl)(Y:starEach [b,c] X.env=[(false,eval b X.env),(false,eval c X.env)]:=by rfl) :
  PI X tg (.Call (.Name "range" p) [a,b,c] [] pos) (Pu ta):=by
 intros R I h;show Call_ (kb I hg hm boot_range (W9 (cc (ha pos pins s σ H _ I h) λus G ⟨vs,H1,I1,r1,L⟩=>?_) (by rw[hs,Y]) (by rw[Y];rfl)));let#[i,j,st,n,e,L,q2,q3,q4,q]:=L;subst e;cases r1 with
 |cons r F =>
  cases F with
  |cons r' F =>
   cases F with
   |cons aa F =>
    cases F;let#[t,rfl]:=r;let#[t',rfl]:=r';let#[Z,rfl]:=aa;show call_range_3 q3 ?_ (.inl q4);show abA (acR ..) L ?_;let U: ~~~H1 { G with heap:=G.heap.push { cls:=.type "range",data:=.fields ([.int i t,.int j t',.int st Z].8) },toks:=G.toks }:=I1.kept λb o e=>zA4 _ e;show#[_,[_],2,H1,rfl,U.kept (t':=G.toks) λb o e=>zA4 _ e,xh _ i st n,?_,λb hb=>?_,q]
    .let e1:i+((0:Nat):Int)*st=i:=(by simp);let e2:(n:Int)-((0:Nat):Int)=Builtin.Range.rangeSize i j st:=(by rw[q2];omega);change aaP _ _ (i+((0:Nat):Int)*st) ((n:Int)-((0:Nat):Int)) st;rw[e1,e2];show zA5 _ rfl
    .let e:=sx.mp hb;subst e;show U.nQ (G0 _) (U.bL.fresh (G0 _))
end L2
namespace Srt
open PySem PyProof.Rows
theorem zR:∀{vs:qa6}{ns:qAa},vs.9=ns.9->(∀(j:Nat)(v:Value),vs[j]?=some v->∃(m:Int)(t:Tok),ns[j]?=some m/\v=.int m t)->Yg vs ns
 | [],[],_,_=>.nil
 |v::vs,n::ns,F,h=>by
  let#[m,t,e,rfl]:=h 0 v rfl;cases e;show .cons n t (zR ‹F› λj u G=>by simpa using h (j+1) u ‹G›)
 | [],_::_,F,_=>by simp at F
 |_::_,[],F,_=>by simp at F
theorem zp{prog:BY}{w:Oi}{A:Wv}{E:qa2}{s:sh}{T:String}{r d:zB0}{n:Nat}{P:Nat->Value->Prop}{OK:Heap->Prop}{ns:qAa}{Q:qa2}(S:PySem.W.KdlSrc prog w T r d n P OK)(hh:A.handled=none)(bL:OK s.heap)(Y:∀(i:Nat)(v:Value),P i v->∃(m:Int)(t:Tok),ns[i]?=some m/\v=.int m t)(hl:ns.9=n)(Z:ns.4)(hz:n<=63)
  (k:∀(h1 h':Heap)(tk:Nat)(out:qa5)(G:qAa)(e:Nat),(∀b o,s.heap.get? b=some o->h1.get? b=some o)->(∀b o,h1.get? b=some o->h'.get? b=some o)->h'.get? h1.objs.3=some (seqObj "list" out e)->Yg out.7 G->G.Perm ns->G.Pairwise (· <= ·)->Q (.ref h1.objs.3) { s with heap:=h',toks:=tk }) :
  wpAny (model prog w) A (call (.builtin "sorted") [.ref r]) Q E s:=by
 let lz:sizeLine=16777216:=DD;show Calls.call_function_entry kind_sorted plain_sorted entry_sorted (args_sorted1 _) ?_;show u5 (m:=checkCount "sorted" 1 1 _) (Wi (u5 (PySem.W.kdu_collect (A:=A.in1) S hh bL av λh1 tk F k1 U=>?_)));let ln:F.toList.length=n:=(by rw[Xe];show U.1);show u5 (abt ?_ av);let hI:Yg F.7 ns:=zR av λj v e=>Y j v (U.2 j v (by rw[<-Yh];show e));let I:=zA5 h1 (o:=seqObj "list" F.toList.toArray 0) rfl;change wpAny _ _ _ _ _ { s with heap:=h1.push (seqObj "list" F.toList.toArray 0),toks:=tk };show u5 (Yw (X9 slot_list_sort #[_,I,rfl] entry_list_sort (CL I hI Z av λout G w1 w2 w3=>#[0,Wi #[0,?_]]) (args_list_sort _)));let#[e,he]:=sortedHeap_at (vs:=F.7) (out:=out) I;show k h1 _ tk out G e k1 (λb o L=>?_) he w1 w2 w3;let lt:=zA6 L;rw[sortedHeap_old (WZ lt) (by rw[Y4];show ZV lt),zA7 _ _ _ (WZ lt)];show L
end Srt
namespace L2
open PySem PySem.Spec PyProof.Rows
def vw(v a:zB0):HO:=.ext λh=>PySem.W.KdlKeysView h v a
inductive zV(td:TE)(Q:VK)(x:V)(H1:Hp):Prop
 |mk(a:_)(kvs:_)(_:x=.ref a)(_:H1 a^^^kvs)(_:∀v,H1 v=none->Q (.ref v) (upd H1 v (vw v a)))
def Mf(td:TE):TE:=λσ H Q=>td σ H λx H1=>zV td Q x H1
theorem rQ{X:Cx}{o:Ws}{apos cpos:XU}{td:TE}(ho:PE X o td)(ab:Xx o "keys" X.env (eval o X.env)=eval o X.env:=by rfl)(aa:(apos.endLine==cpos.line)=true:=by rfl):PE X (.Call (.Attribute o "keys" apos) [] [] cpos) (Mf td):=by
 intros Q I h;show XC ab aa (cc (ho pins s σ H _ I h) λu L ⟨x,H1,G,rx,a,kvs,ex,Z,q⟩=>?_);subst ex;obtain rfl:u=Value.ref a:=rx;let#[t1,t2,hd]:=lM G (.inl #[kvs,.inl Z]);let#[_,_,vs,_,dd]:=lH G.bL Z;show#["dict","dict.keys",XW,aaw,PySem.F.type_dict_keys,24];show X1 aaw dd.typeIs PySem.F.entry_dict_keys (PySem.F.args_dict_keys_1 _) (PySem.W.kdl_meets_keys (bO X.prog X.w) a hd) #[#[vs,dd],?_];let Y:=zA5 L.heap (o:={ cls:=.type "dict_keys",data:=.fields ([.ref a].8) }) rfl;show#[.ref L⁻¹,_,G.laid (t':=L.toks) (λb o e=>zA4 _ e) (G0 _) (show cp X.prog X.w _ _ _ (vw _ a)from#[#[_,Y,1],#[_,Y],λha hb z kk=>?_]),rfl,q _ (G.bL.fresh (G0 _))];let#[U,e1,e2,e3]:=z;show#[U,kk U e1,e2,e3]
end L2
namespace Srt
open PySem PyProof.Rows
end Srt
namespace L2
open PySem PySem.Spec PyProof.Rows
theorem uX:∀{xs:qAf}{vs:qa6},xs.9=vs.9->(∀(j:Nat)(x:V)(v:Value),xs[j]?=some x->vs[j]?=some v->RelV x v)->Vals xs vs
 | [],[],_,_=>.nil
 |x::xs,v::vs,F,h=>.cons (h 0 x v rfl rfl) (uX ‹F› λj a b I G=>h (j+1) a b ‹I› ‹G›)
 | [],_::_,F,_=>by simp at F
 |_::_,[],F,_=>by simp at F
end L2
namespace PySem
open PyProof.Rows
namespace F
end F
section
variable{prog:BY}{w:Oi}{K:Type}[DecidableEq K]{knd:KeyKind prog w K}{A:Wv}{E:qa2}
end
end PySem
namespace L2
open PySem PySem.Spec PyProof.Rows
noncomputable def xi(t:Str×Str)(caps:List (Str×Nat)):List Str:=t.1::t.2::caps.map (·.1)
noncomputable def O8(caps:List (Str×Nat))(σ:St)(v F:Option V):St:=v::F::caps.map λp=>(σ[p.2]?).join
abbrev Oo(X:Cx)(scope:Zr)(cl:List (Str×zB0))(t:Str×Str)(caps:List (Str×Nat)):Prop:=so X scope cl [t.1,t.2] caps
theorem U8{α:Type}:∀{l:List α},l.9=2->∃a b,l=[a,b]
 | [a,b],_=>#[a,b,rfl]
abbrev LR:=wB 2
def Eb(n:Nat)(caps:List (Str×Nat))(g:TG)(wi:TI)(tt:TT)(te:TE):TE:=λσ H Q=>wi σ H λJ H1 =>
 ∃W:Nat->Nat->List V->Hp->Prop,(∃m,W 0 m [] H1)/\wB n caps g tt te σ J (λys H2=>∀p,H2 p=none->Q (.ref p) (upd H2 p (.lst ys))) W
variable{X:Cx}{scope:Zr}{cl:List (Str×zB0)}{caps:List (Str×Nat)}{elt iter:Ws}{ifs:qAe}{px pos:XU}{es:qAe}{kx:Nat}{g:TG}{wi:TI}{tt:TT}{te:TE}
theorem wF{ts:qAb}(K:so X scope cl ts caps)(hc:X.calm=true)(hi:PI X (.Tuple es kx px) iter wi)
  (F:∀C s₀ H₀ ex,PG (pE X (fo ts caps) scope cl C s₀ H₀ ex) (.Tuple es kx px) g)
  (ht:∀C s₀ H₀ ex,NN (pE X (fo ts caps) scope cl C s₀ H₀ ex) ifs tt) (he:∀C s₀ H₀ ex,PE (pE X (fo ts caps) scope cl C s₀ H₀ ex) elt te)
  (hs:∀x,XY iter X.env x=pure x:=by intro _;rfl):PE X (.ListComp elt [#[.Tuple es kx px,39]] scope pos) (Eb ts.9 caps g wi tt te):=by
 intros Q I h;rw[eval_ListComp];show Yz (use:=none) rfl hs K.FU K.kind K.names (cc (hi pins s σ H _ I h) λv s1 h1=>cc h1 λab s2 h2=>?_);let#[it,fp,tn,J,H2,e,I2,T,Y,f2,W,#[m0,w0],hW]:=h2;subst e;show kq (RR:=λZ C=>compPost (model X.prog X.w) X.A X.xe none (EP X pins σ Q) Z C) K hc F ht he I2 T Y f2 w0 hW ?_;intro D C ys H' s' m hD I' L hC q;show#[m,L,λh' aa=>?_];let#[U,c1,_,c3,c4,G]:=hC;show#[.ref D,_,I'.turned (t':=s'.toks) (λb o hb e=>(aa.2 b hb).trans e) U c1 c3 c4 G,rfl,q D hD]
abbrev NG:=Eb 2
theorem Dy{t:Str×Str}(K:Oo X scope cl t caps)(L:X.calm=true)(hi:PI X (.Tuple es kx px) iter wi)
  (G:∀C s₀ H₀ ex,PG (pE X (xi t caps) scope cl C s₀ H₀ ex) (.Tuple es kx px) g)
  (F:∀C s₀ H₀ ex,NN (pE X (xi t caps) scope cl C s₀ H₀ ex) ifs tt) (I:∀C s₀ H₀ ex,PE (pE X (xi t caps) scope cl C s₀ H₀ ex) elt te)
  (hs:∀x,XY iter X.env x=pure x:=by intro _;rfl):PE X (.ListComp elt [#[.Tuple es kx px,39]] scope pos) (NG caps g wi tt te):=wF (ts:=[t.1,t.2]) K L hi G F I hs
def Nt:WT "zip" = some (.type "zip"):=aF
def uG:WT "enumerate" = some (.type "enumerate"):=aF
def FF:WT "all" = some (.builtin "all"):=aF
def N6:WT "abs" = some (.builtin "abs"):=aF
def Mo:WT "min" = some (.builtin "min"):=aF
variable{pins:qa1}{σ:St}{H:Hp}{s:sh}
theorem Inv.mE{h':Heap}{t':Nat}{ch:qAc}(I: ~~~H s)(k:∀b o,b∉ch->s.heap.get? b=some o->h'.get? b=some o)(G:∀b∈ch,js X pins H b): ~~~H { s with heap:=h',toks:=t' }:=
 I.Ak k λb F=>let ⟨a,b,_,c⟩:=G b F;#[a,b,c]
theorem Inv.yf{D:zB0}{ys:qAf}{its:qa6}(I: ~~~H s)(f:js X pins H D)(e:IsTup s.heap D its.8)(r:Vals ys its)(hz:ys.9<=sizeLine) :
  ~~~(upd H D (.tup ys)) s:=by
 let#[G,f1,f2,Y,L,U]:=f;let#[Z,g,d,tk,os]:=s;show I.step (g':=g) (d':=d) (t':=tk) (h':=Z) (ch:=[D]) (λb F=>?_) (λb o _ _ _ e _=>e) (λb o _ _ _ e _=>#[o.slots,e]) (λb o F _ n=>?_) (λb o _ e=>#[o,e]) (λb xs q=>?_) (λb o u q=>?_) (λb ps q=>#[([].8),?_]) (λm hm=>hm) (λb u q=>?_) I.bare
 .let z:b=D:=‹F›;subst z;show#[Y,f1,L,U]
 .rw[ay (λz=>F (by simp[z]))];show n
 .rw[ay (bb q G)];show q
 .rw[ay (bb q G)];show q
 .rw[ay (bb q G),q];simp
 .cases F:b=D
  .subst F;rwa[ag]at q;show#[hz,its,r,e]
  .rw[ay F]at q;show(I.bL b u q).jj (λ_ _ _ z=>z) (λc z=>by rw[ay (bb z G)];show z) λc xs z=>by rw[ay (bb z G)];show z
def zi:2<=sizeLine:=by rw[DD];decide
noncomputable def R9(K:Wa)(l:zB0):It :=
 #[λi H=>∃xs x,a9 K H l xs/\xs[i]?=some x,
  λi H v H'=>∃T x,v=.ref T/\H T=none/\H'=upd H T (.tup [.int i,x])/\∀xs,a9 K H l xs->xs[i]?=some x,
  λi H=>∃xs,a9 K H l xs/\xs.9<=i]
def VQ(e it l:zB0)(i:Nat)(h:Heap):Prop:=(∃old,IsEnum h e it i old)/\h.IsListIter it l i
variable{P:BY}{w:Oi}{K:Wa}{it:zB0}
theorem Cd{e l:zB0}(D:e≠it):Turn P w K (.Tuple es kx px) (R9 K l) [e,it] e (VQ e it l) where
 mem:=by simp
 obj:=by
  rintro i h ⟨⟨old,G⟩,h1⟩ b F;simp only[We,WX,or_false]at F;rcases F with rfl|rfl
  .show#[_,G,97]
  .let#[o,e,_,d]:=h1;show#[o,e,λv q=>by rwa[d]at q]
 keep:=λi h h' ⟨⟨old,G⟩,h1⟩ k=>#[#[old,k e (by simp) _ G],h1.at λo q=>k it (by simp) o q]
 item:=by
  intro X hP hw hK hc i pins s σ H E I L st hg;subst hP hw hK;let#[#[old,G],h1]:=st;let#[xs,x,Z,Y]:=hg;let#[am,ab,p1,_]:=I.list Z;let#[u1,aj,ac]:=ab.get Y;show wpAny_pyNext_enum_item G h1 p1.isList (x:=u1) ‹aj› D λh' eo a1 pT _ kk=>?_;let I1: ~~~H { s with heap:=h',toks:=s.toks+1 }:=I.mE (t':=s.toks+1) (ch:=[e,it]) (λb o F q=>kk b o (λz=>F (by simp[z])) (λz=>F (by simp[z])) q) L;show#[0,wpAny_letOwnedTupleGo_enum eo λaa e2 U=>?_];replace U:Heap.SameBut e h' aa:=U;let I2: ~~~H { s with heap:=aa,toks:=s.toks+1 }:=I1.mE (s:={ s with heap:=h',toks:=s.toks+1 }) (h':=aa) (t':=s.toks+1) (ch:=[e]) (λb o F q=>(U.2 b (λz=>F (by simp[z]))).trans q) λb F=>L b (by simp only[sx]at F;simp[F]);let fT:js X pins H s⁻¹:=I.nQ (G0 _) (I.bL.fresh (G0 _));let ne:s⁻¹≠e:=aaO (zA6 G);let ap:=U.extBut _ _ ne pT;let I3: ~~~(upd H s⁻¹ (.tup [.int i,x])) { s with heap:=aa,toks:=s.toks+1 }:=I2.yf (its:=[.int i s.toks,u1]) fT #[_,ap,rfl,0] (.cons #[0] (.cons ac .nil)) zi;show#[95,I3,rfl,#[_,x,rfl,fT.1,rfl,λzs ak=>by rw[I.qE ak Z];show Y],#[#[u1,?_],a1.extBut U.extBut (zA3 D)],λb F=>?_]
  .let ec:((i+1:Nat):Int)=(i:Int)+1:=(by push_cast;rfl);rw[ec];show e2
  .let nb:b≠s⁻¹:=by
    intro q;simp only[We,WX,or_false]at F;let#[o1,g1,_]:=h1;rcases F with z|z<;>rw[z]at q
    .show ne q.6
    .show WZ (zA6 g1) q
   rw[ay nb];show(L b F).1
 done:=by
  intro X hP hw hK hc i pins s σ H E I L st hg;subst hP hw hK;let#[#[old,G],h1]:=st;let#[xs,Z,Y]:=hg;let#[am,ab,p1,_]:=I.list Z;let ad:=ab.9;let#[f0,f1,_,f3,f4,f5]:=L it (by simp);show wpAny_pyNext_enum_end (I.ok.hd hc) G h1 p1.isList (by simp;show le_of_eq_of_le (id (Eq.symm ad)) Y) λh' eb=>#[rfl,I.turned (t':=s.toks) eb f0 f1 f3 f4 f5]
 self:=λ_ _ _ _ _ st h=>let ⟨⟨_,G⟩,_⟩:=st;wpAny_pyIter_enum G h
def PU(K:Wa)(ta:TA):TI:=λσ H R=>ta σ H λvs H1=>∃l,vs=[.ref l]/\(∃xs,a9 K H1 l xs)/\R (R9 K l) H1
theorem Ag{a:Ws}{ta:TA}{p:XU}(hg:Gl X "enumerate")(hm:X.mg "enumerate" = none)(ha:PA X [a] ta)(hs:starEach [a] X.env=[(false,eval a X.env)]:=by rfl) :
  PI X (.Tuple es kx px) (.Call (.Name "enumerate" p) [a] [] pos) (PU X.K ta):=by
 intros R I h;show Call_ (kb I hg hm uG (W9 (cc (ha pos pins s σ H _ I h) λus F aa=>?_) hs rfl));let#[vs,H1,G,Z,q1]:=aa;let#[l,rfl,#[xs,g1],q]:=q1;let#[u1,rfl,Y]:=vals1 Z;obtain rfl:u1=Value.ref l:=Y;let#[ab,_,p1,_]:=G.list g1;show call_enumerate_list p1.isList λh' U hi _ hk=>?_;show wpAny_pyIter_enum U ?_;show#[F⁻¹+1,[F⁻¹+1,F⁻¹],2,H1,rfl,G.kept (t':=F.toks) hk,Cd (l:=l) (Nat.succ_ne_self _),#[#[_,U],hi],λb L=>?_,q];let le:F⁻¹<=b:=by
  simp only[We,WX,or_false]at L;rcases L with e|e<;>rw[e]<;>first|show G0 _|show aad _ _
 show G.nQ le (G.bL.fresh le)
theorem Bc:∀{bs:List Bool}{its:qa6},Vals (bs.map V.bl) its->its=bs.map Value.bool
 | [],_,.nil=>rfl
 |b::bs,_,.cons r t=>by rw[Bc t,show _=Value.bool b from r];rfl
theorem tH(hc:X.calm=true):eI X (.builtin "all") (λxs H Q=>∃(l:zB0)(bs:List Bool),xs=[.ref l]/\a9 X.K H l (bs.map V.bl)/\Q (.bl (bs.all id)) H):=by
 intros xs us Q I r h;let#[l,bs,rfl,Y,q]:=h;let#[u,rfl,ru]:=vals1 r;obtain rfl:u=Value.ref l:=ru;let#[its,rv,p,_]:=I.list Y;let ei:=Bc rv;subst ei;let L:=p.isList;let aa:l<s⁻¹:=let ⟨_,e,_⟩:=L;zA6 e;show call_all_walk (wpAny_pyIter_list L ?_);show#[s⁻¹,[s⁻¹,l],[s⁻¹],(bs.map Value.bool).toArray.size,2,λi=>(bs[i]?).getD true,rfl,Walks.list (A:=X.A.in1) (I.ok.hd hc) _ l (WZ aa) (bs.map Value.bool).8,
  #[#[_,37,1],L.push _],λi v s' Q' E' hP U=>?_,λh' tk hk=>?_]
 .let Z:(bs.map Value.bool).8[i]?=some v:=hP;let F:(bs.map Value.bool)[i]?=some v:=‹Z›;rw[LW]at F;cases G:bs[i]? with
  |none=>rwa[G]at F
  |some b =>
   rw[G]at F;let e2:Value.bool b=v:=OR F;subst e2;simp only[G,Option.getD_some]at U;show XB U
 .let e:((Wu (bs.map Value.bool).toArray.size).all λi=>(bs[i]?).getD true)=bs.all id:=by
   rw[V9,dM];show LSm.range_all bs
  rw[e];show#[.bl _,H,I.kept (LSm.kept_iter hk),rfl,q]
abbrev g2(K:Wa):TG:=ED K 2 (lB (f9 0) (lB (f9 1) Jb))
theorem vZ{a:zB0}{xs:qAf}{tb:TS}{D:Ends}(Pv:Nat->St->Hp->Prop)(Y:Pv 0 σ H)(F:∀i σ H,i<=xs.9->Pv i σ H->a9 K H a xs)
  (hs:∀i x σ H T,xs[i]?=some x->H T=none->Pv i σ H->g (.ref T) σ (upd H T (.tup [.int i,x])) λZ H2=>tb { D with nx:=Pv (i+1),ct:=Pv (i+1),bk:=D.nx } Z H2) (hd:∀σ H,Pv xs.9 σ H->D.nx σ H) :
  FW (R9 K a) g tb D σ H:=by
 show Di Pv Y hd (λσ H p=>#[xs,119]) λi σ H I p=>?_;let G:=F i σ H (Yo I) p;show#[#[xs,xs[i],G,by simp[I]],?_];rintro v H' ⟨T,x,rfl,L,rfl,U⟩;show hs i x σ H T (U xs G) L p
def Bo(K:Wa):List V->Hp->VK->Prop:=λxs H Q=>∃p ys,xs=[.ref p]/\(a9 K H p ys\/cX K H p ys)/\∀l,H l=none->Q (.ref l) (upd H l (.lst ys))
def yt:eI X (.type "list") (Bo X.K):=cE
theorem uk(hc:X.calm=true):eI X (.builtin "sorted") (λxs H Q=>∃(a:zB0)(kvs:qAg)(ns:qAa),xs=[.ref a]/\H a^^^kvs/\kvs.map (·.1)=ns.map V8/\ns.4/\ns.9<=63 /\
  ∀(l:zB0)(F:qAa),H l=none->F.Perm ns->F.Pairwise (· <= ·)->Q (.ref l) (upd H l (.lst (F.map V.int)))):=by
 intros xs us Q I r h;let#[a,kvs,ns,rfl,ha,hk,Z,hn,q]:=h;let#[u,rfl,ru]:=vals1 r;cases ru;let#[_,hd,vs,ab,dd]:=lH I.bL ha;let#[ep,aa]:=dd.dictAt;let Y:vs.map (·.1)=ns.map V8:=(by rw[<-ab.keys];show hk);let ll:ns.9=vs.9:=by
  have:=congrArg Zg Y;simpa using this.6
 let hs:=DD;show Srt.zp (PySem.W.kdl_dict (knd:=bO X.prog X.w) (kvs:=vs) (ep:=ep) (d:=a) hd) (I.ok.hd hc) aa (ns:=ns) (λi w' hw=>?_) ll Z av λh1 h' tk out F e k1 k2 he a1 G a3=>?_
 .let#[k,x,e1,e2]:=hw;let e3:(vs.map (·.1))[i]?=some k:=(by rw[LW,e1];rfl);rw[Y,LW]at e3;cases U:ns[i]? with
  |none=>rwa[U]at e3
  |some m =>
   rw[U]at e3;obtain rfl:V8 m=k:=OR e3;let#[t,rfl]:=va e2;show#[m,t,1]
 .let L: ~~~H { s with heap:=h1,toks:=tk }:=I.kept k1;show#[.ref h1.objs.3,_,L.laid (t':=tk) k2 (G0 _) (show cp X.prog X.w _ _ _ (.lst (F.map V.int))from#[by rw[dM,G.length_eq];omega,out.7,e,oW a1,by simpa using he]),rfl,q _ F (L.bL.fresh (G0 _)) G a3]
inductive Bt(H₀:Hp)(t:TE)(Q:VK)(v:V)(H':Hp):Prop
 |mk(a:_)(o:_)(kvs:_)(_:H' a=some (.frz o (.dK kvs)))(_:(∀o u',H₀ a≠some (.frz o u')))(_:Q v (upd H' a (.dK kvs)))
def Fx(H₀:Hp)(t:TE):TE:=λσ H Q=>t σ H λv H'=>Bt H₀ t Q v H'
theorem AD{e:Ws}{t:TE}(h:PE X e t):PE X e (Fx X.H₀ t):=by
 intros Q I q;show cc (h pins s σ H _ I q) λu Z Y=>?_;let#[v,H',U,r,a,o,kvs,L,F,G]:=Y;show#[v,_,U.Of L F,r,G]
theorem qx:entryFor table "dict_itemiterator.__iter__" = some Builtin.«dict_keyiterator.__iter__» :=
 entryFor_alias (id' := "dict_keyiterator.__iter__") (by kernel_rfl) (by first|rfl|decide +kernel|(unfold String.splitOn;simp +decide [String.splitOnAux])) aF (by kernel_rfl)
variable{i:Nat}
theorem jX{prog:BY}{A:Wv}{E:qa2}{d:zB0}{n ep:Nat}{ok ov:Value}{Q:qa2}(I:IsItemIter s.heap it d i n ep ok ov)(h:Q (.ref it) s):wpAny (model prog w) A (pyIter (.ref it)) Q E s:=by
 let G:s.TypeIs (.ref it) "dict_itemiterator" := #[_,I,rfl];show wpAny_pyIter_slot G YB (X9 YB G qx ?_ (PySem.F.args_dict_itemiterator_iter_1 _));change wpAny _ _ (ret (.ref it)) _ _ s;show Wi #[0,"dict_itemiterator",_,G,PySem.F.slot_dict_itemiterator_next.lookup,h]
noncomputable def Ri(a:zB0)(o:Obj)(kvs:qAg):It :=
 #[111,λi H x H'=>∃T k v,x=.ref T/\H T=none/\kvs[i]?=some (k,v)/\H'=upd H T (.tup [kV k,v]),108]
theorem E3:∀{kvs:qAg}{vs:List (Key×Value)},Paired (λ(p:Key×V)(q:Key×Value)=>p.1=q.1/\RelV p.2 q.2) kvs vs->∀{i:Nat},i<kvs.9->∃k v x,kvs[i]?=some (k,v)/\vs[i]?=some (k,x)/\RelV v x
 |_,_,.nil,_,h=>by simp at h
 |p::_,F::_,.cons q _,0,_=>#[p.1,p.2,F.2,rfl,by rw[q.1];rfl,q.2]
 |_::_,_::_,.cons _ t,i+1,h=>by
  let#[k,v,x,G,I,e3]:=E3 t (i:=i) ‹h›;show#[k,v,x,by simpa using G,by simpa using I,e3]
theorem FC{kvs:qAg}{vs:List (Key×Value)}(r:KV kvs vs)(hi:i<kvs.9):∃k v x,kvs[i]?=some (k,v)/\vs[i]?=some (k,x)/\RelV v x:=E3 r hi
theorem yQ(a it:zB0)(am:a≠it)(o:Obj)(kvs:qAg):Turn P w K (.Tuple es kx px) (Ri a o kvs) [it] it (λi h=>∃ok ov,IsItemIter h it a i kvs.9 (Dl o) ok ov) where
 mem:=by simp
 obj:=λi h st b F=>by
  let e:b=it:=‹F›;subst e;let#[ok,ov,st]:=st;show#[_,st,97]
 keep:=λi h h' st k=>let ⟨ok,ov,st⟩:=st;#[ok,ov,k it (by simp) _ st]
 item:=by
  intro X hP hw hK hc i pins s σ H E I U st hg;subst hP hw hK;let#[ab,ad]:=hg;let#[Z,f1,_,L,G,Y]:=U it (by simp);let#[_,vs,r,da]:=oM I.bL ab;let ac:=r.9;let#[k,v,x,e1,e2,e3]:=FC r ad;let#[ok,ov,st]:=st;rw[ac]at st ⊢;show wpAny_pyNext_items_item st da e2 λkey h' ak ho hT _ hk=>?_;let I1: ~~~H { s with heap:=h',toks:=s.toks }:=I.turned hk Z f1 L G Y;show#[0,wpAny_letOwnedTupleGo_items ho λaa e4 sb=>?_];replace sb:Heap.SameBut it h' aa:=sb;let I2: ~~~H { s with heap:=aa,toks:=s.toks }:=I1.turned (s:={ s with heap:=h',toks:=s.toks }) (h':=aa) (t':=s.toks) (λb o F e=>(sb.2 b F).trans e) Z f1 L G Y;let fT:js X pins H s⁻¹:=I.nQ (G0 _) (I.bL.fresh (G0 _));let ne:s⁻¹≠it:=aaO (zA6 st);let aj:=sb.extBut _ _ ne hT;let I3: ~~~(upd H s⁻¹ (.tup [kV k,v])) { s with heap:=aa,toks:=s.toks }:=I2.yf (its:=[key,x]) fT #[_,aj,rfl,0] (.cons (va ak) (.cons e3 .nil)) zi;show#[95,I3,rfl,#[_,k,v,rfl,fT.1,e1,rfl],#[2,e4],λb F=>?_];let nb:b≠s⁻¹:=λq=>ne (by rw[<-q];simpa using F);rw[ay nb];show(U b F).1
 done:=by
  intro X hP hw hK hc i pins s σ H E I U st hg;subst hP hw hK;let#[ab,ad]:=hg;let#[Z,f1,_,L,G,Y]:=U it (by simp);let#[_,vs,r,da]:=oM I.bL ab;let ac:=r.9;let#[ok,ov,st]:=st;rw[ac]at st;show wpAny_pyNext_items_end (I.ok.hd hc) st da (by simp;omega) λh' eb=>#[rfl,I.turned (t':=s.toks) eb Z f1 L G Y]
 self:=λ_ _ _ _ _ st h=>by
  let#[ok,ov,st]:=st;show jX st h
def LK(H₀:Hp)(td:TE):TI:=λσ H R=>td σ H λx H1=>AO λa kvs=>Hj (x=.ref a) (H1 a^^^kvs) ((∀o F,H₀ a≠some (.frz o F))) (∀o,R (Ri a o kvs) (upd H1 a (.frz o (.dK kvs))))
variable{o:Ws}{apos cpos:XU}{td:TE}
theorem DR(ho:PE X o td)(ab:Xx o "items" X.env (eval o X.env)=eval o X.env:=by rfl)(aa:(apos.endLine==cpos.line)=true:=by rfl):PI X (.Tuple es kx px) (.Call (.Attribute o "items" apos) [] [] cpos) (LK X.H₀ td):=by
 intros R I h;show XC ab aa (cc (ho pins s σ H _ I h) λu G aj=>?_);let#[x,H1,Y,rx,a,kvs,ex,U,hn,q]:=aj;subst ex;obtain rfl:u=Value.ref a:=rx;let#[t1,t2,hd]:=lM Y (.inl #[kvs,.inl U]);let#[_,_,vs,_,dd]:=lH Y.bL U;show#["dict","dict.items",XW,aae,PySem.F.type_dict_items,24];show X1 aae dd.typeIs PySem.F.entry_dict_items (PySem.F.args_dict_items_1 _) (meets_dict_items (bO X.prog X.w) a hd) #[#[vs,dd],?_];let nw:=zA5 G.heap (o:={ cls:=.type "dict_items",data:=.fields ([.ref a].8) }) rfl;let I2: ~~~H1 { G with heap:=G.heap.push { cls:=.type "dict_items",data:=.fields ([.ref a].8) },toks:=G.toks }:=Y.kept λb o e=>zA4 _ e;let#[_,_,ac,am,ak]:=lH I2.bL U;let#[L,ad,ep,g1,g2,g3,g4]:=id ak;let Z:=I2.freeze U g1 hn;let lt:a<(G.heap.push { cls:=.type "dict_items",data:=.fields ([.ref a].8) }).objs.3:=zA6 g1;let da:(G.heap.push { cls:=.type "dict_items",data:=.fields ([.ref a].8) }).DictAt (bO X.prog X.w) a ac (Dl L):=#[L,ad,g1,g2,by unfold Dl;rw[g3],g4];show wpAny_pyIter_items #[_,nw,1] da ?_;show#[(G.heap.push { cls:=.type "dict_items",data:=.fields ([.ref a].8) }).objs.3,[(G.heap.push { cls:=.type "dict_items",data:=.fields ([.ref a].8) }).objs.3],_,Ri a L kvs,0,Z.kept (t':=G.toks) λb o e=>zA4 _ e,yQ a _ (WZ lt) L kvs,#[.none,.none,?_],λb hb=>?_,q L]
 .rw[am.9];show zA5 _ rfl
 .let e:b=(G.heap.push { cls:=.type "dict_items",data:=.fields ([.ref a].8) }).objs.3:=‹hb›;subst e;show Z.nQ (G0 _) (Z.bL.fresh (G0 _))
def Q2(a:zB0)(o:Obj)(kvs:qAg):It :=
 #[111,λi H x H'=>H'=H/\∃k,kvs[i]?=some (k,x),108]
variable{tg:Ws}
theorem BW(a it:zB0)(ak:a≠it)(o:Obj)(kvs:qAg):Turn P w K tg (Q2 a o kvs) [it] it (λi h=>h.IsValIter it a i kvs.9 (Dl o)) where
 mem:=by simp
 obj:=λi h st b G=>by
  let e:b=it:=‹G›;subst e;let#[U,h1,_,F]:=st;show#[U,h1,λv z=>by rwa[F]at z]
 keep:=λi h h' ⟨U,h1,h2,F⟩ k=>#[U,k it (by simp) _ h1,h2,F]
 item:=by
  intro X Y hw hK hc i pins s σ H E I L st hg;subst Y hw hK;let#[aa,ac]:=hg;let#[f0,f1,_,f3,Z,f5]:=L it (by simp);let#[_,vs,r,da]:=oM I.bL aa;let ab:=r.9;let#[k,v,x,e1,e2,e3]:=FC r ac;rw[ab]at st ⊢;show wpAny_pyNext_values_item st da e2 λh' ad aj=>?_;let I1: ~~~H { s with heap:=h',toks:=s.toks }:=I.turned (λb o G e=>(aj.2 b G).trans e) f0 f1 f3 Z f5;let#[U,h1,h2,F]:=id ad;show#[0,sS (s:={ s with heap:=h' }) (n := "dict_valueiterator") h1 h2 F aE #[v,H,I1,e3,#[rfl,k,e1],ad,λb G=>(L b G).1]]
 done:=by
  intro X Y hw hK hc i pins s σ H E I L st hg;subst Y hw hK;let#[aa,ac]:=hg;let#[f0,f1,_,f3,Z,f5]:=L it (by simp);let#[_,vs,r,da]:=oM I.bL aa;let ab:=r.9;rw[ab]at st;show wpAny_pyNext_values_end (I.ok.hd hc) st da (by simp;omega) λh' eb=>#[112]
 self:=λ_ _ _ _ _ st h=>wpAny_pyIter_valiter st h
def KD(H₀:Hp)(td:TE):TI:=λσ H R=>td σ H λx H1=>AO λa kvs=>Hj (x=.ref a) (H1 a^^^kvs) ((∀o F,H₀ a≠some (.frz o F))) (∀o,R (Q2 a o kvs) (upd H1 a (.frz o (.dK kvs))))
theorem Bv(ho:PE X o td)(ac:Xx o "values" X.env (eval o X.env)=eval o X.env:=by rfl)(aa:(apos.endLine==cpos.line)=true:=by rfl):PI X tg (.Call (.Attribute o "values" apos) [] [] cpos) (KD X.H₀ td):=by
 intros R I h;show XC ac aa (cc (ho pins s σ H _ I h) λu G ab=>?_);let#[x,H1,Y,rx,a,kvs,ex,U,hn,q]:=ab;subst ex;obtain rfl:u=Value.ref a:=rx;let#[t1,t2,hd]:=lM Y (.inl #[kvs,.inl U]);let#[_,_,vs,_,dd]:=lH Y.bL U;show#["dict","dict.values",XW,Y6,Z6,24];show X1 Y6 dd.typeIs ZQ (ZM _) (meets_dict_values (bO X.prog X.w) a hd) #[#[vs,dd],?_];let nw:=zA5 G.heap (o:={ cls:=.type "dict_values",data:=.fields ([.ref a].8) }) rfl;let I2: ~~~H1 { G with heap:=G.heap.push { cls:=.type "dict_values",data:=.fields ([.ref a].8) },toks:=G.toks }:=Y.kept λb o e=>zA4 _ e;let#[_,_,ad,am,ak]:=lH I2.bL U;let#[L,aj,ep,g1,g2,g3,g4]:=id ak;let Z:=I2.freeze U g1 hn;let lt:a<(G.heap.push { cls:=.type "dict_values",data:=.fields ([.ref a].8) }).objs.3:=zA6 g1;let da:(G.heap.push { cls:=.type "dict_values",data:=.fields ([.ref a].8) }).DictAt (bO X.prog X.w) a ad (Dl L):=#[L,aj,g1,g2,by unfold Dl;rw[g3],g4];show wpAny_pyIter_values #[_,nw,1] da ?_;show#[(G.heap.push { cls:=.type "dict_values",data:=.fields ([.ref a].8) }).objs.3,[(G.heap.push { cls:=.type "dict_values",data:=.fields ([.ref a].8) }).objs.3],_,Q2 a L kvs,0,Z.kept (t':=G.toks) λb o e=>zA4 _ e,BW a _ (WZ lt) L kvs,?_,λb hb=>?_,q L]
 .rw[am.9];show#[_,37,1]
 .let e:b=(G.heap.push { cls:=.type "dict_values",data:=.fields ([.ref a].8) }).objs.3:=‹hb›;subst e;show Z.nQ (G0 _) (Z.bL.fresh (G0 _))
end L2
namespace Dk
open PySem L2
def top(i:Nat):Wo:=abi.main.body.getD i (.Pass #[36,36])
noncomputable abbrev DQ:Wo:=inClass (top 19) 0
abbrev GX:Wo:=inClass (top 19) 1
abbrev zF:Wo:=inClass (top 19) 2
abbrev yB:Wo:=inClass (top 19) 6
abbrev rG:Wo:=inClass (top 19) 7
abbrev u7:Wo:=inClass (top 19) 8
variable{H:Hp}{l:zB0}{X:HO}
def au(h:H l=none):aO H (upd H l X):=λb o e=>by rw[ay (bb e h)];show e
def Off(B:qa0)(H H':Hp):Prop:=∀b o,H b=some o->¬ B b->H' b=some o
def gv(h:H l=none):aO H (upd H l X)/\upd H l X l=some X:=#[au h,ag]
variable{B:qa0}{H':Hp}
def Off.trans{H'':Hp}(o:Off B H H')(o':Off B H' H''):Off B H H'':=λb u e F=>o' b u (o b u e F) F
def Off.mono{F:qa0}(o:Off B H H')(h:∀b,B b->F b):Off F H H':=λb u e G=>o b u e λz=>G (h b z)
def Off.of(s:aO H H'):Off B H H':=λb u e _=>s b u e
def k1:¬ (("blocks" : Str) = "done"):=aF
def k2:¬ (("blocks" : Str) = "until_fall"):=aF
def k3:¬ (("blocks" : Str) = "fallen"):=aF
def k4:¬ (("done" : Str) = "until_fall"):=aF
def k5:¬ (("done" : Str) = "fallen"):=aF
def k6:¬ (("until_fall" : Str) = "fallen"):=aF
noncomputable def fY(I:zB0)(d:Int)(F:V)(G:Bool):List (Str×V):=bP "fallen" (.bl G) (bP "until_fall" F (bP "done" (.int d) (bP "blocks" (.ref I) [])))
def jv(f:Str)(v:V):bP f v []=[(f,v)]:=rfl
variable{f g:Str}{v x:V}{r:List (Str×V)}
def qf(h:g=f):bP f v ((g,x)::r)=(g,v)::r:=by
 change(if g=f then(g,v)::r else(g,x)::bP f v r)=_;rw[acW h]
def eZ(h:¬ g=f):bP f v ((g,x)::r)=(g,x)::bP f v r:=by
 change(if g=f then(g,v)::r else(g,x)::bP f v r)=_;rw[acV h]
theorem fE(I:zB0)(d:Int)(F:V)(G:Bool):fY I d F G=([("blocks",V.ref I),("done",V.int d),("until_fall",F),("fallen",V.bl G)]:List (Str×V)):=by
 unfold fY;rw[jv,eZ k1,jv,eZ k2,eZ k4,jv,eZ k3,eZ k5,eZ k6,jv]
def P0(I:zB0)(d e:Int)(F:V)(G:Bool):bP "done" (.int e) (fY I d F G)=fY I e F G:=by
 rw[fE,fE,eZ k1,qf rfl]
def QP(G:zB0)(d:Int)(L I:V)(F:Bool):bP "until_fall" I (fY G d L F)=fY G d I F:=by
 rw[fE,fE,eZ k2,eZ k4,qf rfl]
def PD(I:zB0)(d:Int)(F:V)(L G:Bool):bP "fallen" (.bl G) (fY I d F L)=fY I d F G:=by
 rw[fE,fE,eZ k3,eZ k5,eZ k6,qf rfl]
theorem qi(F:zB0)(d:Int)(G:V)(I:Bool):(fY F d G I).lookup ("blocks" : Str)=some (.ref F):=by
 unfold fY;rw[aY,acV k3,aY,acV k2,aY,acV k1,aY,acW rfl]
theorem Oc(I:zB0)(d:Int)(F:V)(G:Bool):(fY I d F G).lookup ("done" : Str)=some (.int d):=by
 unfold fY;rw[aY,acV k5,aY,acV k4,aY,acW rfl]
theorem zv(I:zB0)(d:Int)(F:V)(G:Bool):(fY I d F G).lookup ("until_fall" : Str)=some F:=by
 unfold fY;rw[aY,acV k6,aY,acW rfl]
def K9(I:zB0)(d:Int)(G:V)(F:Bool):(fY I d G F).lookup ("fallen" : Str)=some (.bl F):=by
 unfold fY;rw[aY,acW rfl]
theorem gZ(L:zB0)(d:Int)(F:V)(G:Bool){m:Str}(h1:¬ m = "fallen")(h2:¬ m = "until_fall")(I:¬ m = "done")(U:¬ m = "blocks"):(fY L d F G).lookup m=none:=by
 unfold fY;rw[aY,acV h1,aY,acV h2,aY,acV I,aY,acV U]
 all_goals rfl
def rK(I:zB0)(d:Int)(F:V)(G:Bool):(fY I d F G).9<1000:=by
 rw[fE];change 4<1000;decide
abbrev lI(H:Hp)(a:zB0)(ns:qAa):Prop:=H a∣(ns.map V.int)/\ns.9=16
abbrev Rows(H:Hp)(cs:qAc)(bs:List (List Int)):Prop:=Paired (lI H) cs bs
variable{cs:qAc}{bs:List (List Int)}
theorem Rows.off(o:Off B H H')(h:∀a ns,lI H a ns->¬ B a)(r:Rows H cs bs):Rows H' cs bs:=Paired.xb r λa ns q=>#[o _ _ q.1 (h a ns q),q.2]
def Rows.same(s:aO H H')(r:Rows H cs bs):Rows H' cs bs:=Paired.xb r λa ns q=>#[s _ _ q.1,q.2]
theorem iO{α β:Type}{F:α->β->Prop}:∀{xs:List α}{ys:List β}{i:Nat}{y:β},Paired F xs ys->ys[i]?=some y->∃x,xs[i]?=some x/\F x y
 |_,_,_,_,.nil,e=>by simp at e
 |_,_,0,_,.cons r _,e=>by simp at e;subst e;show#[0,r]
 |_,_,i+1,y,.cons _ t,e=>by
  let#[u,h1,h2]:=iO (i:=i) (y:=y) t ‹e›;show#[u,by simpa using h1,h2]
theorem qL{α β:Type}{F:α->β->Prop}{x:α}{y:β}(r:F x y):∀{xs:List α}{ys:List β}(i:Nat),Paired F xs ys->Paired F (xs.set i x) (ys.set i y)
 |_,_,_,.nil=>.nil
 |_,_,0,.cons _ t=>.cons r t
 |_,_,i+1,.cons q t=>.cons q (qL r i t)
theorem jL{α β:Type}{F:α->β->Prop}:∀{xs:List α}{ys:List β},Paired F xs ys->xs.9=ys.9
 |_,_,.nil=>rfl
 |_,_,.cons _ t=>by rw[WG,WG,jL t]
theorem j7{α β:Type}{F:α->β->Prop}{x:α}{y:β}(r:F x y):∀{xs:List α}{ys:List β},Paired F xs ys->Paired F (xs++[x]) (ys++[y])
 |_,_,.nil=>.cons r .nil
 |_,_,.cons q t=>.cons q (j7 r t)
theorem iI{α β:Type}{F G:α->β->Prop}:∀{xs:List α}{ys:List β},Paired F xs ys->(∀a∈xs,∀b,F a b->G a b)->Paired G xs ys
 |_,_,.nil,_=>.nil
 |_,_,.cons r t,h=>.cons (h _ Wn _ r) (iI t λa I b q=>h a (Wm _ I) b q)
theorem ir{H:Hp}:∀{cs:qAc}{bs:List (List Int)},Rows H cs bs->∀a∈cs,∃ns,lI H a ns
 |_,_,.nil,a,h=>(WX h).elim
 |_,_,.cons r t,a,h=>by
  rcases We.mp h with rfl|h
  .show#[_,r]
  .show ir t a h
variable{a:zB0}
theorem Hg{b:zB0}{ns:qAa}(h:lI H a ns)(h':H b∣(cs.map V.ref)):a≠b:=sU h.1 h' λz=>by
 cases ns with
 |nil=>have:=h.2;simp at this
 |cons x r =>
  cases cs with
  |nil=>cases z
  |cons c t =>
   injection z with z;let F:V.int x::r.map V.int=V.ref c::t.map V.ref:=z;injection F with z1 _;cases z1
structure bI(C:zB0)(H:Hp)(p bl:zB0)(d:Int)(uf:V)(fa:Bool)(cs:qAc)(bs:List (List Int)):Prop where
 ob:∃dx,H p=some (.ins C dx (fY bl d uf fa))
 hb:H bl∣(cs.map V.ref)
 hc:Rows H cs bs
variable{p C:zB0}
def jf{dx:zB0}{fs:List (Str×V)}{xs:qAf}(h:H p=some (.ins C dx fs))(h':H a∣xs):p≠a:=sU h h' (by intro z;cases z)
variable{d:Int}
theorem bI.same{I:zB0}{F:V}{G:Bool}(D:bI C H p I d F G cs bs)(s:aO H H'):bI C H' p I d F G cs bs :=
 let ⟨dx,h⟩:=D.ob
 #[#[dx,s _ _ h],s _ _ D.hb,D.hc.same s]
theorem bI.off{F:zB0}{G:V}{I:Bool}(D:bI C H p F d G I cs bs)(o:Off B H H')(U:¬ B p)(Y:¬ B F)(L:∀a ns,lI H a ns->¬ B a):bI C H' p F d G I cs bs :=
 let ⟨dx,h⟩:=D.ob
 #[#[dx,o _ _ h U],o _ _ D.hb Y,D.hc.off o L]
def bI.len{I:zB0}{F:V}{G:Bool}(D:bI C H p I d F G cs bs):cs.9=bs.9:=jL D.hc
structure Txt(K:Wa)(mg:qa3)(C:zB0):Prop where
 cl:qa K C
 nB:dj K C "blocks"
 nD:dj K C "done"
 nU:dj K C "until_fall"
 nF:dj K C "fallen"
 len:mg "len" = none
 list:mg "list" = none
 range:mg "range" = none
 bn:∃u,mg "BLOCK_NUMBERS" = some u/\RelV (.int 16) u
structure Jg(K:Wa)(mg:qa3)(x:Str)(CN:zB0):Prop where
 Kk:mg x=some (.ref CN)
 VH:abX K CN pe "ValueError.__new__" = true
def Wr(p F:zB0):zB0->Prop:=λb=>b=p\/b=F
def C9(bs:List (List Int))(n:Int):Prop:=n<0\/(bs.9:Int)<=n
def ow(C CN:zB0):Sp:=λvs H Q E=>∃(p I:zB0)(d:Int)(F:V)(G:Bool)(cs:qAc)(bs:List (List Int))(n:Int),vs=[.ref p,.int n]/\bI C H p I d F G cs bs/\n.natAbs.log2<1920/\(¬ C9 bs n->Q .bh H)/\(C9 bs n->E (.ref CN) none H)
def rV(C CF:zB0):Sp:=λvs H Q E=>∃(p I:zB0)(d:Int)(G:V)(F:Bool)(cs:qAc)(bs:List (List Int)),vs=[.ref p]/\bI C H p I d G F cs bs/\(F=false->Q .bh H)/\(F=true->E (.ref CF) none H)
def qX(C CN CF:zB0):Sp:=λvs H Q E=>∃(p I:zB0)(d:Int)(G:V)(F:Bool)(cs:qAc)(bs:List (List Int))(n:Int),vs=[.ref p,.int n]/\bI C H p I d G F cs bs/\n.natAbs.log2<1920 /\
 (C9 bs n->E (.ref CN) none H)/\(¬ C9 bs n->F=true->E (.ref CF) none H)/\(¬ C9 bs n->F=false->∀ns,bs[n.5]?=some ns->∀l,H l=none->Q (.ref l) (upd H l (.lst (ns.map V.int))))
noncomputable def oZ:V->V
 |.int i=>.int (i-1)
 |v=>v
def Qy(F:V):Prop:=F=.bh\/∃i:Int,F=.int i
def pY(K:Wa)(C CN CF:zB0):Sp:=λvs H Q E=>∃(p G c:zB0)(d:Int)(F:V)(I:Bool)(cs:qAc)(bs:List (List Int))(n:Int)(ns:qAa),vs=[.ref p,.int n,.ref c]/\bI C H p G d F I cs bs/\Qy F/\n.natAbs.log2<1920/\a9 K H c (ns.map V.int)/\ns.9=16 /\
 (C9 bs n->E (.ref CN) none H) /\
 (¬ C9 bs n->I=true\/F=.int 0->∀H',bI C H' p G d F true cs bs->Off (· = p) H H'->E (.ref CF) none H') /\
 (¬ C9 bs n->I=false->F≠.int 0->∀H' L,bI C H' p G (d+1) (oZ F) false L (bs.set n.5 ns)->(∀a∈L,a∈cs\/H a=none)->Off (Wr p G) H H'->Q .bh H')
def Am(C:zB0):Sp:=λvs H Q _=>∃(p I:zB0)(d:Int)(F:V)(G:Bool)(cs:qAc)(bs:List (List Int)),vs=[.ref p]/\bI C H p I d F G cs bs/\bs.9<=300 /\
 ∀(H':Hp)(l:zB0)(fs:qAc),aO H H'->H l=none->H' l∣(fs.map V.ref)->Rows H' fs bs->(∀a∈fs,H a=none)->fs.4->Q (.ref l) H'
theorem OU{i:Int}{t:Str}(h:i.natAbs.log2<1920)(F:t.9<=100):(Str.empty++toString i:Str).9<=sizeLine/\(Str.empty++toString i++t:Str).9<=sizeLine:=by
 let h1:=kG h;let hs:=DD;let G:(Str.empty:Str).9=0:=rfl;rw[len_app,len_app,len_app];omega
def V1:aA ["self","n"] ["self","n"] (ax rG):=L2.bg
variable{P:BY}{w:Oi}{K:Wa}{mg:qa3}{base:Heap}{f CN:zB0}{fd:DO}
theorem yT(F:b4 K "refuse_no_block" "Disk.refuse_no_block" rG f fd)(T:Txt K mg C)(U:Jg K mg "NoBlock" CN):⇑aU 1 f fd ["self","n"] (ow C CN):=by
 show F.gx V1 ?_;intros;let#[p,bl,d,uf,fa,cs,bs,n,rfl,D,I,k,Z]:=h;let#[dx,h1]:=D.ob;let L:=D.len;let#[Y,f2]:=OU (i:=n) (t := " is no block") I aF;show#[_,%[0,0,W,bU,bZ,bw,H,sR,1,r,bK,H,DW,1,l,a,u,s,dE,U.Kk,U.VH,a,cs,aA,cN,1,aA,cE|9],?_];show#[0,19];show cQ (λc=>?_) (λc=>?_)
 .show bU ?_;let c':n<0:=‹c›;show#[82,Y,0,f2,f2,wQ,Z (.inl c')]
 .let c':¬ n<0:=‹c›;show#[0,40,h1,64,bl,0,.inl (a9.of D.hb),19];show cQ (λe=>?_) (λe=>?_)
  .let G:(bs.9:Int)<=n:=(by rw[<-L];simpa using e);show#[82,Y,0,f2,f2,wQ,Z (.inr G)]
  .let G:¬ (bs.9:Int)<=n:=(by rw[<-L];simpa using e);show k λz=>z.elim c' G
def VN:aA ["self"] ["self"] (ax u7):=L2.bg
variable{CF:zB0}
theorem BQ(F:b4 K "refuse_fallen" "Disk.refuse_fallen" u7 f fd)(T:Txt K mg C)(G:Jg K mg "Fallen" CF):⇑aU 1 f fd ["self"] (rV C CF):=by
 show F.gx VN ?_;intros;let#[p,Y,d,U,I,cs,bs,rfl,D,k,L]:=h;let#[dx,h1]:=D.ob;show#[_,%[0,0,W,bU,X,u,dE,G.Kk,G.VH,y|9],?_];show#[40,h1,T.cl,T.nF,K9 _ _ _ _,I,3];show cQ (λc=>?_) (λc=>?_)
 .show#[wQ,L c]
 .show k ‹c›
def rep1{α:Type}(x:α)(n:Nat):(TN n [x]).11=TN n x:=by
 induction n with
 |zero=>rfl
 |succ n F=>rw[Xz,XZ,F,Xz];rfl
def Fp{α:Type}(x:α)(n:Nat):TN n x++[x]=TN (n+1) x:=by
 rw[aaY]
def VP:aA ["self","many"] ["self","many"] (ax DQ):=L2.bg
def V5:aA ["self","n"] ["self","n"] (ax GX):=L2.bg
variable{fN fF:zB0}
theorem JZ{Y U:DO}(F:b4 K "read" "Disk.read" GX f fd)(T:Txt K mg C)
  (GN:⇑aU 1 fN Y ["self","n"] (ow C CN)) (bN:Binds K Y ["self","n"] []) (mN:Meth K C "refuse_no_block" fN)
  (GF:⇑aU 1 fF U ["self"] (rV C CF)) (bF:Binds K U ["self"] []) (mF:Meth K C "refuse_fallen" fF):⇑aU 2 f fd ["self","n"] (qX C CN CF):=by
 show F.gx V5 ?_;intros;let#[p,I,d,L,Z,cs,bs,n,rfl,D,hb,kN,kF,k]:=h;let#[dx,h1]:=D.ob;show#[_,%[0,0,z,dF,cX,mN,GN,ai,rfl,bN,cM,e,z,dT,cX,mF,GF,ai,rfl,bF,cM,au,b,cb,a,v,aG|9],?_]
 show#[0,p,dx,0,h1,30,0,p,I,d,L,Z,cs,bs,n,rfl,D,hb,λG=>?_,kN];show#[0,p,dx,0,h1,30,p,I,d,L,Z,cs,bs,rfl,D,λhf=>?_,kF G];let h0:0<=n:=by
  cases z:n<0
  .show absurd (Y3 z) G
  .omega
 let aa:n<bs.9:=by
  cases z:(bs.9:Int)<=n
  .show absurd (acP z) G
  .omega
 obtain⟨j,rfl⟩:∃j:Nat,n=j:=#[n.5,av];let hj:j<bs.9:=av;let eg:bs[((j:Nat):Int).5]?=some bs[j]:=(by rw[XJ,y0 hj]);let#[a,ha,ra]:=iO D.hc (y0 hj);show#[40,h1,64,0,I,_,j,.ref a,1,a9.of D.hb,aL (by rw[LW,ha];rfl),a,0,.inl (a9.of ra.1),k G hf _ eg]
def V2:aA ["self","n","numbers"] ["self","n","numbers"] (ax zF):=L2.bg
theorem DN{dN dF:DO}(F:b4 K "write" "Disk.write" zF f fd)(T:Txt K mg C)
  (GN:⇑aU 1 fN dN ["self","n"] (ow C CN)) (bN:Binds K dN ["self","n"] []) (mN:Meth K C "refuse_no_block" fN)
  (GF:⇑aU 1 fF dF ["self"] (rV C CF)) (bF:Binds K dF ["self"] []) (mF:Meth K C "refuse_fallen" fF):⇑aU 2 f fd ["self","n","numbers"] (pY K C CN CF):=by
 show F.gx V2 ?_;intros;let#[p,G,c,d,I,U,cs,bs,n,ns,rfl,D,hu,L,hq,ad,kN,kF,k]:=h;let#[dx,h1]:=id D.ob;let aa:p≠G:=jf h1 D.hb;let hl:=D.len;let nm:∀(d:Int)(I:V)(U:Bool),(fY G d I U).lookup ("refuse_fallen" : Str)=none:=λd I U=>gZ _ _ _ _ aF aF aF aF;show#[_,%[0,0,z,dF,cX,mN,GN,ai,rfl,bN,cM,e,c8,aX,g,u,r,k,aH,iJ,z,dT,cX,mF,GF,ai,rfl,bF,cM,au,i,bj,cb,h,cY,aG,i,dU,0,aw,Om,k,aX,ct,u,aq,k,dU,0,aw,K7|9],?_]
 show#[0,p,dx,0,h1,30,0,p,G,d,I,U,cs,bs,n,rfl,D,L,λY=>?_,kN];let ak:NY I (.int 0)=true:=by rcases hu with rfl|⟨i,rfl⟩<;>rfl
 show#[40,h1,T.cl,T.nU,zv _ _ _ _,ak,0,?_];show cQ (λc0=>?_) (λc0=>?_)
 ·-- the disk falls at this write
  let c':I=.int 0:=zA0 c0;show#[0,p,C,dx,0,h1,T.cl,T.nF,rK _ _ _ _,?_];rw[PD];let D2:bI C (upd H p (.ins C dx (fY G d I true))) p G d I true cs bs:=#[#[dx,ag],by rw[ay (zA3 aa)];show D.hb,Paired.xb D.hc λa ns q=>#[by rw[ay (zA3 (jf h1 q.1))];show q.1,q.2]];show#[0,p,dx,0,ag,nm _ _ _,p,G,d,I,true,cs,bs,rfl,D2,(λz=>nomatch z),λ_=>kF Y (.inr c') _ D2 λb o e L=>by rw[ay L];show e]
 .let c':I≠.int 0:=λz=>c0 (zA1 z);show#[0,p,dx,0,h1,nm _ _ _,p,G,d,I,U,cs,bs,rfl,D,λZ=>?_,λZ=>?_]
  .let h0:0<=n:=by
    cases z:n<0
    .show absurd (Y3 z) Y
    .omega
   let ap:n<bs.9:=by
    cases z:(bs.9:Int)<=n
    .show absurd (acP z) Y
    .omega
   obtain⟨j,rfl⟩:∃j:Nat,n=j:=#[n.5,av];let k':=k Y Z c';rw[XJ]at k';show#[0,c,0,.inl hq,λl ac=>?_];let nl:∀{b:zB0}{o:HO},H b=some o->b≠l:=λe=>bb e ac;show#[40,by rw[ay (nl h1)];show h1,64,0,G,_,j,j,1,by rw[ay (nl D.hb)];show D.hb,5]
   .unfold yF;rw[dM,acW av,acW av];simp
   let e1:(cs.map V.ref).set j (.ref l)=(cs.set j l).map V.ref:=(by rw[List.map_set]);rw[e1];let h3:(upd (upd H l (.lst (ns.map V.int))) G (.lst ((cs.set j l).map V.ref))) p=some (.ins C dx (fY G d I U)):=(by rw[ay aa,ay (nl h1)];show h1);let am:l≠G:=zA3 (nl D.hb);let lp:l≠p:=zA3 (nl h1);show#[40,h3,20,Oc _ _ _ _,d,(1),1,dx,_,h3,rK _ _ _ _,?_];rw[P0];show#[40,ag,T.cl,T.nU,zv _ _ _ _,9];let fin:∀(ab:V)(H':Hp),ab=oZ I->H' p=some (.ins C dx (fY G (d+1) ab U))->(∀b,b≠p->H' b=upd (upd H l (.lst (ns.map V.int))) G (.lst ((cs.set j l).map V.ref)) b)->Q .bh H':=by
    intro ab H' e aj ho;subst e;subst Z;show k' H' (cs.set j l) #[#[dx,aj],by rw[ho G (zA3 aa),ag],?_] (λa ha=>(List.mem_or_eq_of_mem_set ha).imp id λz=>by rw[z];show ac) λb o e L=>?_
    .show qL #[by rw[ho l lp,ay am,ag],ad] j (Paired.xb D.hc λa ms q=>#[?_,q.2]);rw[ho a (zA3 (jf h1 q.1)),ay (Hg q D.hb),ay (nl q.1)];show q.1
    .rw[ho b (λz=>L (.inl z)),ay (λz=>L (.inr z)),ay (nl e)];show e
   rcases hu with rfl|⟨i,rfl⟩
   .show bA ?_;show fin .bh _ rfl ag λb L=>by rw[ay L]
   .show bU ?_;show#[40,ag,T.cl,T.nU,zv _ _ _ _,i,(1),1,dx,_,ag,rK _ _ _ _,?_];rw[QP];show fin (.int (i-1)) _ rfl ag λb L=>by rw[ay L,ay L]
  .subst Z;show kF Y (.inl rfl) H D λb o e _=>e
def UL:aA ["self"] ["self"] (ax yB):=L2.bg
theorem G4(F:b4 K "image" "Disk.image" yB f fd)(T:Txt K mg C):↥aU 1 f fd ["self"] (Am C):=by
 show F.dg UL ?_;intros;let#[p,bl,d,uf,fa,cs,bs,rfl,D,hl,k]:=h;let#[dx,h1]:=D.ob;let hs:=DD;let ad:=D.len;show#[_,%[0,0,b,P,b9,bJ,aZ,u,a8,c1,(show eI _ _ (Bo K)from yt),q|9],?_];show#[40,h1,64,bl,rfl,#[_,a9.of D.hb],?_];show gO (K:=K) (a:=bl) (xs:=cs.map V.ref) (λi ys H2=>∃fs:List zB0,ys=fs.map V.ref/\fs.9=i/\Rows H2 fs (bs.take i)/\aO H H2/\(∀a∈fs,H a=none)/\fs.4) #[[],1,by rw[XX];show .nil,aO.refl H,λa h=>(WX h).elim,.nil] (λi ys H2 _ ⟨_,_,_,_,G,_⟩=>a9.of (G _ _ D.hb)) ?_ ?_
 .rintro i x ys H2 hx ⟨fs,rfl,hi,R,G,U,nd⟩;rw[LW]at hx;let#[c,hc,rfl]:=HC.mp hx;let aj:i<cs.9:=(u4.mp hc).1;let ac:i<bs.9:=av;let#[c',aa,Z]:=iO D.hc (y0 ac);rwa[hc]at aa;show#[0,c,0,.inl (a9.of (G _ _ Z.1)),λl I=>#[5]]
  .rw[dM];omega
  let sl:=au (X:=.lst ((bs[i]).map V.int)) I;show#[fs++[l],by rw[yl];rfl,by rw[ti,hi];rfl,?_,G.trans sl,λa L=>?_,?_]
  .rw[List.take_succ,y0 ac];show j7 #[ag,Z.2] (R.same sl)
  .rcases Wf.mp L with z|z
   .show U a z
   .rw[sx.mp z];show G.free I
  .show Wl.mpr #[nd,(by simp),λa L b hb z=>?_];rw[sx.mp hb]at z;subst z;let#[j,hj,ej]:=Zs L;obtain⟨ns,_,rr⟩:∃ns,(bs.take i)[j]?=some ns/\lI H2 fs[j] ns:=by
    let ab:j<(bs.take i).9:=(by rw[<-jL R];show hj);let#[q,e,r]:=iO R (y0 ab);rwa[y0 hj]at e;show#[_,y0 ab,r]
   rw[ej]at rr;let Y:=rr.1;rwa[I]at Y
 .rintro ys H2 ⟨fs,rfl,hi,R,G,U,nd⟩ l I;rw[dM]at hi R;rw[V6 av]at R;let sl:=au (X:=.lst (fs.map V.ref)) I;show k _ l fs (G.trans sl) (G.free I) ag (R.same sl) U nd
structure Def(K:Wa)(mg:qa3)(x:Str)(f:zB0)(fd:DO)(ps:qAb):Prop where
 mg:mg x=some (.ref f)
 kp:Xc K (.ref f)=true
 b:Binds K fd ps []
end Dk
namespace L2
open PySem PySem.Spec PyProof.Rows
variable{X:Cx}{pins:qa1}{R:XR}
theorem XP.passes(U:X.stack=X.env::X.outer)(F:X.env.frame=some X.env.locals):ab9 (model X.prog X.w) X.A X.env (XP X pins R):=by
 intro x Z hx;let#[e,cls,a0,B,ac,H1,rfl,fl,c2,Y,new,q]:=hx;let jj:B.StaysIn Z.heap:=by
  rcases fl with z|z|⟨_,_,z⟩
  .show z.1
  .show z.1
  .show z.1
 let I1:=Y.now jj;let L:=I1.ok.frames;rw[U]at fl L;show qM L F fl c2 λh4 aa ab c4=>?_;let#[_,_,_,oe,vs,T,oT,ts,k1,#[_,_],k4,k5,_,_,G,k9,I]:=id aa;change wpAny _ _ _ _ _ _;rw[F];show u5 (Yb k1 k4 k5 ?_);rw[acV (by simp)];unfold setFlight;show u5 (Yb k1 k4 k5 ?_);rw[acW (by simp)];show aaZ G k9 (ZK.mp I).1 ?_;let eu:=Heap.update_setField_same h4 T oT ts 3 (abz X.env.locals) G k9 I;change XP X pins R (.ref e) { Z with heap:=h4.update T (Obj.mapFields λx=>x.setIfInBounds 3 (abz X.env.locals)) };rw[eu];show#[e,cls,a0,B,ac,H1,rfl,.inr (.inr #[X.env.locals,F,by rw[U];show aa]),c4,λh' tk k u=>Y h' tk k (ab.trans u),new,q]
theorem XP.gk{pl:qa1}{x:Value}{s':sh}(h:XP X (pins++pl) R x s'):XP X pins R x s':=by
 let#[e,cls,I,B,F,H1,rfl,fl,c2,G,new,q]:=h;show#[e,cls,I,B,F,H1,rfl,fl,c2,λh' tk k u=>(G h' tk k u).gk,#[new.old,new.loc,new.fs,new.cell,λp L=>new.pin p ?_,new.free],q];rcases Wf.mp L with m|m
 .show Wg _ m
 .show By _ (Wg _ m)
def PQ(wi:TI)(g:TG)(tb:sy):sy:=λD R σ H=>OI wi g (λD' F H'=>tb D' R F H') D σ H
variable{body:List Wo}{tb:sy}{pos:XU}
theorem Bp{tg:Ws}{iter:Ws}{wi:TI}{g:TG}(aT:X.stack=X.env::X.outer)(hf:X.env.frame=some X.env.locals)(hc:X.calm=true)(hi:PI X.pd tg iter wi)(hg:PG X.pd tg g)(F:qK X body tb)
  (hs:∀x,XY iter X.env x=pure x:=by intro _;rfl):Hk X (.For tg iter body [] pos) (PQ wi g tb):=by
 intros D R I h;let Z:ab9 (model X.prog X.w) X.A X.env (XP X pins R):=XP.passes aT hf;show wpAny_For (nx (hi pins s σ H _ (I.iX _) h) λv s1 h1=>nx h1 λa1 s2 h2=>?_) hs;let#[it,fp,tn,J,H2,e,as,T,am,aP,W,#[m0,w0],ar]:=h2;let I2:=as.cm;let f2:∀b∈fp,js X pins H2 b:=λb F=>aP b F;subst e;let ac:∀{H':Hp},(∀b∈fp,H' b=none)->∀b∈fp,js X pins H' b:=λhn b F=>#[hn b F,(f2 b F).2];show abf (λn s'=>∃i ab H',Inv X pins ab H' s'/\tn i s'.heap/\(∀b∈fp,H' b=none)/\W i n ab H') ?_ m0 #[(0),σ,H2,I2,am,λb F=>(f2 b F).1,w0];rintro n s3 ⟨i,aa,H3,I3,aj,ak,w3⟩;rcases ar i n aa H3 w3 with⟨aK,qn⟩|⟨go,N,hN,step⟩
 .show W6 Z (cc (T.done X rfl rfl rfl hc i pins s3 aa H3 _ I3 (ac ak) aj aK) λr s4 ⟨hr,I4⟩=>?_);subst hr;show XE #[aa,H3,I4,qn]
 .show W6 Z (cc (T.item X rfl rfl rfl hc i pins s3 aa H3 _ I3 (ac ak) aj go) λr s4 ⟨u,hr,h4⟩=>?_);subst hr;show W6 Z (cc h4 λ_ s5 ⟨x,H5,I5,r5,y5,ad,a0⟩=>?_);let ap:=I5.pinned (ac a0) (T.obj _ _ ad);show W6 Z (nx (hg _ s5 aa H5 x u _ (ap.iX _) r5 (step x H5 y5)) λ_ s6 ⟨aB,H6,I6,q6⟩=>?_);show W6 Z (W4 (F _ s6 aB H6 _ R I6.cm q6) (λf s7 Y=>?_) λ_ _ z=>z.gk);let again:∀{L:St}{U:Hp},Inv X (pins++oB fp s5.heap) L U s7->N L U->∃m,m<n/\∃i ab H',Inv X pins ab H' s7/\tn i s7.heap/\(∀b∈fp,H' b=none)/\W i m ab H':=λ{L U} G n7=>by
   let#[m',hm,w7]:=hN L U n7;show#[m',hm,i+1,L,U,G.gk,T.keep _ _ _ ad λb F o e=>(G.pin (b,o) (By _ (By _ (gM F e)))).1,λb F=>?_,w7];let#[o,e,_]:=T.obj _ _ ad b F;show(G.pin (b,o) (By _ (By _ (gM F e)))).2.1
  cases f with
  |next=>let#[L,U,G,n7]:=Y;show again G n7
  |cont=>let#[L,U,G,n7]:=Y;show again G n7
  |brk=>let#[L,U,G,Y]:=Y;show#[L,U,G.gk,Y]
  |ret v=>let#[x7,L,U,G,r7,Y]:=Y;show#[x7,L,U,G.gk,r7,Y]
def QO(K:Wa)(C:zB0)(tb:sy)(ts:TS):TS:=λD σ H=>tb D (λF cls H'=>exmOne K cls (.ref C)=some true/\ts D F H') σ H
theorem J7{C:zB0}{x:Str}{np hpos:XU}{suite:List Wo}{b₀:Wo}{ts:TS}(ar:X.stack=X.env::X.outer)(hf:X.env.frame=some X.env.locals)(hg:Gl X x)(hm:X.mg x=some (.ref C))
  (hb:qK X body tb) (hs:∀e,uv (X.hand e).pd (b₀::suite) ts) (hd:(x==("__debug__" : Str))=false:=by decide) :
  PS X (.Try body [.ExceptHandler (some (.Name x np)) none (b₀::suite) hpos] [] [] pos) (QO X.K C tb ts):=by
 intros D I h;show wpAny_Try_except (W4 (hb pins s σ H D _ I h) (λf U q=>?_) λv U hx=>?_)
 .cases f with
  |next=>show XE q
  |ret v=>show q
  |brk=>show q
  |cont=>show q
 let#[e,cls,a0,B,aT,H1,rfl,fl,c2,be,new,ak,hk]:=hx;let jj:B.StaysIn U.heap:=by
  rcases fl with z|z|⟨_,_,z⟩
  .show z.1
  .show z.1
  .show z.1
 let I1:=be.now jj;let ac:=I1.ok.frames;rw[ar]at fl ac;let aB:=I1.ok;show qM ac hf fl c2 λh4 as aj _=>?_;show wpAny_landsW as λZ aa ad=>?_;let ab:=aj.trans ad;let I5:=(be Z U.toks aa.1 ab).hand e;let#[ob,ap,am]:=aa.there;show wpAny_handleBy_cons (codeAny_handlers_test (kY (X:=X.hand e) I5 hg hm ?_ hd)) (by intro q;cases q);let LT:PySem.W.Looks (model X.prog X.w) Z (typeOf (.ref e)) cls:=am▸(PySem.W.Looks.ld ap).andThen .now;show(PySem.W.exm_one I5.lS LT ak).here (s:={ U with heap:=Z }) ?_;show codeAny_handlers_suite ?_;show lands_againW aa λh6 aK aP=>?_;let I6:=(be h6 U.toks aK.1 (ab.trans aP)).hand e;show nx (hs e pins _ _ _ _ (I6.iX _) hk) λf s8 Y=>?_;let fin:∀{G:St}{L:Hp},Inv (X.hand e).pd pins G L s8->Inv X pins G L s8:=λF=>(F.cm).Ll aB;cases f with
 |next =>
  let#[G,L,F,q]:=Y;show#[2,fin F,q]
 |brk =>
  let#[G,L,F,q]:=Y;show#[2,fin F,q]
 |cont =>
  let#[G,L,F,q]:=Y;show#[2,fin F,q]
 |ret u =>
  let#[v,G,L,F,rv,q]:=Y;show#[v,2,fin F,rv,q]
end L2
namespace Srt
open PySem PyProof.Rows
end Srt
namespace L2
open PySem PySem.Spec PyProof.Rows
theorem tF{K:Wa}{a:zB0}{xs:qAf}{g:TG}{tb:sy}{R:XR}{D:Ends}{σ:St}{H:Hp}(Pv:Nat->St->Hp->Prop)(L:Pv 0 σ H)(I:∀i σ H,i<=xs.9->Pv i σ H->a9 K H a xs)
  (hs:∀i x σ H,xs[i]?=some x->Pv i σ H->g x σ H λF H2=>tb { D with nx:=Pv (i+1),ct:=Pv (i+1),bk:=D.nx } R F H2) (hd:∀σ H,Pv xs.9 σ H->D.nx σ H) :
  ∃W:Nat->Nat->St->Hp->Prop,(∃m,W 0 m σ H)/\∀i m σ H,W i m σ H ->
   ((Il K a).stop i H/\D.nx σ H)\/((Il K a).go i H/\∃N:St->Hp->Prop,(∀G H',N G H'->∃m',m'<m/\W (i+1) m' G H')/\∀x H',(Il K a).OB i H x H'->g x σ H' λF H2=>tb { D with nx:=N,ct:=N,bk:=D.nx } R F H2):=
 gp (tb:=λD σ H=>tb D R σ H) Pv L I hs hd
end L2
namespace Sp
open PySem PySem.StrLaws PySem.Builtin PySem.Builtin.Str
end Sp
namespace L2
open PySem PySem.Spec PyProof.Rows PySem.Builtin PySem.Builtin.Str
inductive zK(x:V)(vs:qAf)(H:Hp)(Q:VK):Prop
 |mk(a:_)(b:_)(_:x=.str a)(_:vs=[.str b])(_:Q (.bl (Txt.startswith a b)) H)
variable{X:Cx}
theorem oi:Kv X "str.startswith" zK:=by
 intros x vs v us Q I F G h;let#[a,b,rfl,rfl,q]:=h;let#[t,rfl]:=F;let#[u,rfl,ru]:=G.one;let#[t',rfl]:=ru;show SC.startswith #[75,rfl,q]
theorem tG:∀{l:List (Str×Tok)},Vals ((l.map (·.1)).map V.str) (acf l)
 | []=>.nil
 |(x,t)::l=>.cons #[t,rfl] tG
inductive DY(x:V)(vs:qAf)(H:Hp)(Q:VK):Prop
 |mk(a:_)(b:_)(_:x=.str a)(_:vs=[.str b])(_:(b.9==0)=false)(_:a.9+2<=sizeLine)(_:∀p,H p=none->Q (.ref p) (upd H p (.lst ((Txt.split a b).map V.str))))
theorem tP(x y:Str):(partsBetween x (occurrences x y 0 x.9 (x.9+1)) y.9).9<=x.9+2:=by
 rw[length_partsBetween];have:=StrLaws.occ_length_le x y 0 x.9 (x.9+1);show Zj this 1
theorem x9:Kv X "str.split" DY:=by
 intros x vs v us Q I rx Y h;let#[a,b,rfl,rfl,L,G,q]:=h;let#[t,rfl]:=rx;let#[u,rfl,ru]:=Y.one;let#[t',rfl]:=ru;let hs:=DD;let fin:∀(l:List (Str×Tok))(k:Nat),l.map (·.1)=Txt.split a b->l.9<=sizeLine->EP X pins σ Q (.ref s⁻¹) { s with heap:=s.heap.push { cls:=.type "list",data:=.seq (acf l).8 },toks:=k }:=λl k e U=>by
  let I':=I.laid (t':=k) (o:=.lst ((Txt.split a b).map V.str)) (λb ob q=>zA4 { cls:=.type "list",data:=.seq (acf l).8 } q) (G0 _) (by
   rw[<-e];show#[by rw[dM,dM];show U,_,(0),tG,37])
  show#[95,I',29]
 rcases(Bool.eq_false_or_eq_true (decide (a.9<b.9)||decide (Builtin.Str.strKind a<Builtin.Str.strKind b))).6 with h1|h1
 .rcases F:(occurrences a b 0 a.9 (a.9+1)).isEmpty with _|_
  .let Z:=tP a b;show XG YR (Y2 _ _ _) aaC (aaf _ _) (meets_str_split_sep a b t t' h1 L F (Nat.le_of_add_right_le G) (WK Z G)) ?_;change wants _ _ _ { s with toks:=_,heap:=s.heap.push { cls:=.type "list",data:=.seq (strsFrom s.toks (partsBetween a (occurrences a b 0 a.9 (a.9+1)) b.9)).8 } };rw[strsFrom_eq];show fin (numbered s.toks _) _ ((numbered_texts _ _).trans ((acV (ne_true_of_eq_false h1)).trans (acV (ne_true_of_eq_false F))).6) ?_;have:=congrArg Zg (numbered_texts s.toks (partsBetween a (occurrences a b 0 a.9 (a.9+1)) b.9));rw[dM]at this;omega
  .show XG YR (Y2 _ _ _) aaC (aaf _ _) (meets_str_split_not_found a b t t' h1 L F)
    (fin [(a,t)] s.toks ((acV (ne_true_of_eq_false h1)).trans (acW F)).symm wQ)
 .show XG YR (Y2 _ _ _) aaC (aaf _ _) (meets_str_split_cannot_occur a b t t' h1)
   (fin [(a,t)] s.toks (acW h1).symm wQ)
inductive rJoin(K:Wa)(x:V)(vs:qAf)(H:Hp)(Q:VK):Prop
 |mk(a:_)(p:_)(ss:_)(_:x=.str a)(_:vs=[.ref p])(_:a9 K H p (ss.map V.str))(_:JoinOk a ss=true)(_:Q (.str (Txt.join a ss)) H)
theorem Ar:∀{ss:qAb}{vs:qa6},Vals (ss.map V.str) vs->∃l:List (Str×Tok),acf l=vs/\l.map (·.1)=ss
 | [],_,h=>by
  cases h;show#[[],1]
 |x::ss,_,h=>by
  cases h with
  |cons q t =>
   let#[k,rfl]:=q;let#[l,F,G]:=Ar t;show#[(x,k)::l,by rw[<-F];rfl,by rw[<-G];rfl]
theorem IL:Kv X "str.join" (rJoin X.K):=by
 intros x vs v us Q I F U h;let#[a,p,ss,rfl,rfl,Y,L,q]:=h;let#[t,rfl]:=F;let#[u,rfl,ru]:=U.one;cases ru;let#[its,r,pl,_]:=I.list Y;let#[l,G,Z]:=Ar r;show SC.join (l:=l) (by rw[G];show pl.isList) Z L λt' k=>#[.str (Txt.join a ss),85]
inductive QT(x:V)(lo:qAd)(hi:qAd)(H:Hp)(Q:VK):Prop
 |mk(a:_)(_:x=.str a)(_:a.9<=sizeLine)(_:Q (.str (Txt.slice a lo hi)) H)
theorem part_of{v:Value}{lo:qAd}(h:IsPart v lo):∃l:Option (Int×Tok),v=partValue l/\lo=l.map (·.1):=by
 cases h with
 |none=>show#[none,1]
 |int i t=>show#[some (i,t),1]
theorem oO:Q7 X QT:=by
 intros x v vl Z lo hi sl Q I L hs pl Y h;let#[a,rfl,U,q]:=h;let#[t,rfl]:=L;let#[l,rfl,rfl]:=part_of pl;let#[u,rfl,rfl]:=part_of Y;show#["str",_,PySem.F.slot_str_getitem.lookup,Y2 _ _ _,?_];show wpAny_getItem_str_slice (st:=none) hs aE ?_;let G:=Txt.slice_le a (l.map (·.1)) (u.map (·.1));unfold sliceMade;unfold Txt.slice at q G;split
 .rename_i h;rw[acW (show((1:Int)==1&&(strSliceIndices (l.map (·.1)) (u.map (·.1)) 1 a.9).9==a.9)=true from h)]at q;show#[.str a,H,I,#[0],q]
 .rename_i h;rw[acV (show ¬ ((1:Int)==1&&(strSliceIndices (l.map (·.1)) (u.map (·.1)) 1 a.9).9==a.9)=true from h)]at q G;show#[WK G U,#[.str _,85]]
theorem vY(Y:X.calm=true):eI X (.builtin "sum") (λxs H Q=>∃(p:zB0)(ns:qAa),xs=[.ref p]/\a9 X.K H p (ns.map V.int)/\Q (.int ns.sum) H):=by
 intros xs us Q I r h;let#[p,ns,rfl,L,q]:=h;let#[u,rfl,ru]:=vals1 r;cases ru;let#[its,Z,pl,_]:=I.list L;let G:=intsAre_of Z;let U:=G.numsOf;let#[ys,e]:=G.allInts.items;let F:=pl.isList;rw[e]at F;show sum_intListG (I.ok.hd Y) F λh' tk t' hk=>?_;let hs:preSum (numAt ys) ys.3=ns.sum:=by
  rw[preSum_eq,V6 (by simp), <-nums_intItems, <-e];rw[show its.toArray.toList=its from rfl,U]
 show#[.int ns.sum,H,I.kept hk,#[_,by rw[hs]],q]
def Rw(x:Str):It:=#[λi _=>i<x.cps.3,λi H v H'=>H'=H/\∃c,x.cps[i]?=some c/\v=.str #[([c].8)],λi _=>x.cps.3<=i]
variable{tg:Ws}
theorem ER{P:BY}{w:Oi}{K:Wa}(x:Str)(t:Tok)(it:zB0):Turn P w K tg (Rw x) [it] it (λi h=>h.IsStrIter it (YN x) x t i) where
 mem:=by simp
 obj:=λi h st b Y=>by
  let e:b=it:=‹Y›;subst e;let#[o,e,_,d]:=st;show#[o,e,λv z=>by rwa[d]at z]
 keep:=λi h h' st k=>let ⟨o,ho,r⟩:=st;#[o,k it (by simp) o ho,r]
 item:=by
  intro X hP hw hK hc i pins s σ H E I hf st hg;subst hP hw hK;let aa:i<x.cps.3:=hg;let F:x.cps[i]?=some (x.cps[i]'(aa)):=Array.getElem?_eq_getElem aa;let#[f0,f1,_,f3,Z,f5]:=hf it (by simp);let L:∀h',h'.IsStrIter it (YN x) x t (i+1)->Heap.SameBut it s.heap h'->∃u,some (Value.str #[([x.cps[i]'(aa)].8)] s.toks)=some u /\
    ↑(Zp tg (.ref it) u) (λ_ s2=>∃x' H',~~~H' s2/\RelV x' u/\(Rw x).OB i H x' H'/\s2.heap.IsStrIter it (YN x) x t (i+1)/\∀b∈[it],H' b=none) E { s with heap:=h',toks:=s.toks+1 }:=λh' G U=>by
   let I1: ~~~H { s with heap:=h',toks:=s.toks+1 }:=I.turned (t':=s.toks+1) (λb o Y e=>(U.2 b Y).trans e) f0 f1 f3 Z f5;let#[o,e,c,d]:=id G;show#[0,sS (s:={ s with heap:=h',toks:=s.toks+1 }) e c d ?_ #[.str #[([x.cps[i]'(aa)].8)],H,I1,#[0],#[4,F,rfl],G,λb Y=>(hf b Y).1]];unfold YN;split<;>decide
  revert st L;unfold YN;split
  .intro st L;show wpAny_pyNext_ascii_item st F λh' G U=>L h' G U
  .intro st L;show wpAny_pyNext_wide_item st F λh' G U=>L h' G U
 done:=by
  intro X hP hw hK hc i pins s σ H E I hf st hg;subst hP hw hK;let#[f0,f1,_,f3,Z,f5]:=hf it (by simp);let F:x.cps[i]?=none:=(by simp;show hg);revert st;unfold YN;split
  .intro st;show wpAny_pyNext_ascii_end (I.ok.hd hc) st F λh' eb=>#[112]
  .intro st;show wpAny_pyNext_wide_end (I.ok.hd hc) st F λh' eb=>#[112]
 self:=λA i s Q E st h=>by
  revert st;unfold YN;split
  .intro st;show wpAny_pyIter_striter_ascii st h
  .intro st;show wpAny_pyIter_striter_wide st h
def Vq(td:TE):TI:=λσ H R=>td σ H λv H1=>∃x,v=.str x/\R (Rw x) H1
variable{e:Ws}
theorem FG{td:TE}(Z:PE X e td):PI X tg e (Vq td):=by
 intros R I h;show cc (Z pins s σ H _ I h) λv F Y=>?_;let#[x,H1,G,L,y,ex,q]:=Y;subst ex;let#[t,rfl]:=L;show wpAny_pyIter_strU ?_;show#[F⁻¹,[F⁻¹],2,H1,rfl,G.kept (t':=F.toks) λb o e=>zA4 _ e,ER y t _,#[_,37,1],λb U=>?_,q];let e:b=F⁻¹:=‹U›;subst e;show G.nQ (G0 _) (G.bL.fresh (G0 _))
variable{x:Str}{te:TE}{σ:St}{H:Hp}
theorem tQ{caps:List (Str×Nat)}{F:List V->Hp->Prop}(Pv:Nat->List V->Hp->Prop)(L:Pv 0 [] H)
  (hs:∀i c ys H,x.cps[i]?=some c->Pv i ys H->te (mH caps σ (some (.str #[([c].8)]))) H (λy G=>ys.9<sizeLine/\Pv (i+1) (ys++[y]) G))
  (hd:∀ys H,Pv x.cps.3 ys H->F ys H):∃W:Nat->Nat->List V->Hp->Prop,(∃m,W 0 m [] H)/\jz caps pN te σ (Rw x) F W:=by
 show Di Pv L hd (λys H _=>G0 _) λi ys H I p=>?_;show#[I,?_];rintro v H' ⟨rfl,c,U,rfl⟩;unfold pN;dsimp only;rw[acW rfl];show hs i c ys _ U p
variable{pos:XU}
theorem Ew{v:Ws}(U:PE X v te):PE X (.FormattedValue v 114 none pos) (λσ H Q=>te σ H λx H1=>∃a:Str,x=.str a/\(ZN a).9<=sizeLine/\Q (.str (ZN a)) H1):=by
 intros Q I h;show wpAny_FormattedValue_repr (cc (U pins s σ H _ I h) λu Z Y=>?_);let#[x,H1,G,L,a,ex,F,q]:=Y;subst ex;let#[tk,rfl]:=L;show wpAny_pyReprObj_str (aaH ?_ ?_ F) F
 .show#[.str (ZN a),H1,G.tok _,#[0],q]
 .show#[.str (ZN a),H1,(G.tok _).tok _,#[0],q]
def ux(K:Wa):List V->Hp->VK->Prop:=λxs H Q=>∃p ys,xs=[.ref p]/\(a9 K H p ys\/cX K H p ys)/\Q (.int (ys.9:Nat)) H
def tp:eI X (.builtin "len") (ux X.K):=aM
variable{u:TS}{D:Ends}
theorem fj{i:Nat}(k:∀Q:V->Hp->Prop,(∀x H1,u D (σ.set i (some x)) H1->Q x H1)->te σ H Q):jA (zc te (f9 i)) u D σ H:=k _ λ_ _ h=>h
def wY(k:∀Q:V->Hp->Prop,(∀x H1,D.nx σ H1->Q x H1)->te σ H Q):Kq te D σ H:=k _ λ_ _ h=>h
variable{Q:Bool->Hp->Prop}
theorem bQ{A B:Hp->Prop}(e:Q=λb H1=>if b=true then A H1 else B H1):(∀H1,A H1->Q true H1)/\∀H1,B H1->Q false H1:=by
 subst e;show#[λ_ h=>bU h,λ_ h=>bA h]
variable{t:TS}{c:TT}
theorem HJ{r:TS}(k:∀Q:Bool->Hp->Prop,(∀H1,t { D with nx:=r D } σ H1->Q true H1)->(∀H1,r D σ H1->Q false H1)->c σ H Q):jA (xj c t nG) r D σ H:=k _ (bQ rfl).1 (bQ (A:=λH1=>t { D with nx:=r D } σ H1) rfl).2
theorem Bs(k:∀Q:Bool->Hp->Prop,(∀H1,t D σ H1->Q true H1)->(∀H1,D.nx σ H1->Q false H1)->c σ H Q):xj c t nG D σ H:=k _ (bQ rfl).1 (bQ (A:=λH1=>t D σ H1) rfl).2
def UM{b:Bool}(t:b=true->Q true H)(f:¬ b=true->Q false H):Q b H:=by
 cases b
 .show f (by intro z;cases z)
 .show t rfl
def share(Pr:St->Hp->Prop)(mk:∀F,(∀σ H,Pr σ H->F D σ H)->jA t F D σ H)(h:∀σ H,Pr σ H->u D σ H):jA t u D σ H:=mk u h
inductive Md(P:BY)(w:Oi)(K:Wa)(mg:qa3)(base:Heap)(cx:p7)(k:Nat)(C:zB0)(m:Str)(sp:Sp):Prop
 |mk(f:zB0)(fd:DO)(ps:qAb)(_:aU P w K mg base cx k f fd ps sp)(_:Binds K fd ps [])(_:Meth K C m f)
inductive Df(P:BY)(w:Oi)(K:Wa)(mg:qa3)(base:Heap)(cx:p7)(k:Nat)(x:Str)(sp:Sp):Prop
 |mk(f:zB0)(fd:DO)(ps:qAb)(_:aU P w K mg base cx k f fd ps sp)(_:Binds K fd ps [])(_:mg x=some (.ref f))(_:Xc K (.ref f)=true)
variable{CX:p7}{k j:Nat}{C:zB0}{sp:Sp}{E:XK}{m:Str}{apos:XU}{o:Ws}{es:qAe}{ta:TE}{t:TA}{pl:ZC Bool}
theorem pm(Y:PE X o ta)(c:qa X.K C)(F:Md X.prog X.w X.K X.mg X.base CX k C m sp)(U:dX j X.A)(L:Passes CX X E)(ha:PA X (e::es) t)(hk:k<=j:=by decide)
  (G:qAh X e es:=by rfl) (Z:(backTo pos (starEach es X.env)).any (·.1)=false:=by rfl)
  (I:Ot X o m apos pos pl (e::es):=by rfl) :
  PE X (.Call (.Attribute o m apos) (e::es) [] pos) (Br C m sp [] E ta t):=by
 let#[f,fd,_,g,b,q]:=F;show iy Y c q g (U.mono hk) b .nil L ha G Z I
theorem FL(U:PE X o ta)(c:qa X.K C)(F:Md X.prog X.w X.K X.mg X.base CX k C m sp)(L:dX j X.A)(I:Passes CX X E)(hk:k<=j:=by decide)
  (G:Ot X o m apos pos pl []:=by rfl) :
  PE X (.Call (.Attribute o m apos) [] [] pos) (Br C m sp [] E ta xI):=by
 let#[f,fd,_,g,b,q]:=F;show DZ U c q g (L.mono hk) b .nil I G
theorem pc{p:XU}(F:Df X.prog X.w X.K X.mg X.base CX k x sp)(U:dX j X.A)(G:Passes CX X E)(ha:PA X (e::es) t)(L:Gl X x:=by rfl)(hk:k<=j:=by decide)
  (I:(x==("__debug__" : Str))=false:=by decide) (Y:qAh X e es:=by rfl) (Z:(backTo pos (starEach es X.env)).any (·.1)=false:=by rfl) :
  PE X (.Call (.Name x p) (e::es) [] pos) (Bd sp [] E t):=by
 let#[f,fd,_,g,b,q,r]:=F;show tZ g (U.mono hk) L q r b .nil G ha I Y Z
end L2
namespace HT
open PySem PySem.Spec PyProof.Rows
end HT
namespace L2
open PySem PySem.Spec PyProof.Rows
variable{a:zB0}{o:Obj}{kvs:qAg}{σ:St}{H:Hp}
theorem BN{g:TG}{tb:TS}{D:Ends}(Pv:Nat->St->Hp->Prop)(U:Pv 0 σ H)(F:∀i σ H,i<=kvs.9->Pv i σ H->H a=some (.frz o (.dK kvs)))
  (hs:∀i k v σ H T,kvs[i]?=some (k,v)->H T=none->Pv i σ H->g (.ref T) σ (upd H T (.tup [kV k,v])) λY H2=>tb { D with nx:=Pv (i+1),ct:=Pv (i+1),bk:=D.nx } Y H2) (hd:∀σ H,Pv kvs.9 σ H->D.nx σ H) :
  FW (Ri a o kvs) g tb D σ H:=by
 show Di Pv U hd (λσ H p=>#[119]) λi σ H G p=>?_;let q:=F i σ H (Yo G) p;show#[#[q,G],?_];rintro v H' ⟨T,k,x,rfl,L,I,rfl⟩;show hs i k x σ H T I L p
theorem zu{caps:List (Str×Nat)}{te:TE}{G:List V->Hp->Prop}(Pv:Nat->List V->Hp->Prop)(Z:Pv 0 [] H)
  (F:∀i zs H,i<=kvs.9->Pv i zs H->H a=some (.frz o (.dK kvs)))
  (hs:∀i k v zs H,kvs[i]?=some (k,v)->Pv i zs H->te (mH caps σ (some v)) H (λz U=>zs.9<sizeLine/\Pv (i+1) (zs++[z]) U))
  (hd:∀zs H,Pv kvs.9 zs H->G zs H):∃W:Nat->Nat->List V->Hp->Prop,(∃m,W 0 m [] H)/\jz caps pN te σ (Q2 a o kvs) G W:=by
 show Di Pv Z hd (λzs H p=>#[F _ zs H (G0 _) p,G0 _]) λi zs H I p=>?_;let L:=F i zs H (Yo I) p;show#[#[L,I],?_];rintro v H' ⟨rfl,k,Y⟩;unfold pN;dsimp only;rw[acW rfl];show hs i k v zs H' Y p
end L2
namespace Tb
open PySem L2
section
variable{α:Type}
noncomputable def look(l:List (Int×α))(k:Int):Option α:=(l.find? λx=>decide (x.1=k)).map (·.2)
def dk(f:α->V)(l:List (Int×α)):List (Key×V):=l.map λx=>(V8 x.1,f x.2)
noncomputable def dI(l:List (Int×α))(k:Int)(a:α):List (Int×α):=l.map λx=>if x.1=k then(k,a)else x
noncomputable def fU(l:List (Int×α))(k:Int):List (Int×α):=l.filter λx=>decide (x.1≠k)
def nj(k:Int):look ([]:List (Int×α)) k=none:=rfl
theorem bH(x:Int×α)(l:List (Int×α))(k:Int):look (x::l) k=if x.1=k then some x.2 else look l k:=by
 unfold look;rw[Y5];cases h:x.1=k
 .rw[zA1 h,acW h];rfl
 .rw[zA2 h,acV h]
theorem cz(f:α->V)(k:Int):∀l:List (Int×α),gr (dk f l) (V8 k)=(look l k).map f
 | []=>rfl
 |x::l=>by
  let F:=cz f k l;change gr ((V8 x.1,f x.2)::dk f l) (V8 k)=_;rw[bH];cases h:x.1=k
  .rw[acW h,ka (by rw[h])];rfl
  .rw[acV h,jD (λe=>h (acj e)),F]
variable{k:Int}
theorem d7{l:List (Int×α)}{a:α}(h:look l k=some a):(k,a)∈l:=by
 unfold look at h;let#[x,F,e]:=HC.mp h;let h1:=List.mem_of_find?_eq_some F;let h2:x.1=k:=‹List.find?_some F›;rw[<-h2, <-e];show h1
theorem iD{l:List (Int×α)}(h:look l k=none):¬ k∈l.map (·.1):=by
 unfold look at h;rw[aax,List.find?_eq_none]at h;rintro m;let#[x,F,e]:=z4.mp m;show h x F (zA1 e)
theorem kK{l:List (Int×α)}{a:α}(nd:(l.map (·.1)).4)(h:(k,a)∈l):look l k=some a:=by
 induction l with
 |nil=>cases h
 |cons x l I =>
  rw[bH];let#[G,F]:=Wq.mp (show(x.1::l.map (·.1)).4 from nd);rcases We.mp h with e|m
  .rw[<-e,acW rfl]
  .have:¬ x.1=k:=λe=>G (e▸z4.mpr #[_,m,rfl]);rw[acV this];show I F m
theorem M6(f:α->V)(l:List (Int×α))(k:Int):((dk f l).any λF=>decide (F.1=V8 k))=(look l k).10:=by
 rw[nX,cz];cases look l k<;>rfl
theorem gc{f:α->V}{l:List (Int×α)}{a:α}(h:look l k=none):putK (dk f l) (V8 k) (f a)=dk f (l++[(k,a)]):=by
 rw[wj _ (by rw[cz,h];rfl)];unfold dk;rw[yl];rfl
theorem ju{f:α->V}{l:List (Int×α)}{a b:α}(h:look l k=some b):putK (dk f l) (V8 k) (f a)=dk f (dI l k a):=by
 unfold putK;rw[acW (by rw[M6,h];rfl)];unfold dk dI;rw[WU,WU];congr 1;funext x;change(if (V8 x.1:Key)=V8 k then((V8 x.1:Key),f a)else(V8 x.1,f x.2))=((V8 (if x.1=k then(k,a)else x).1:Key),f (if x.1=k then(k,a)else x).2);cases e:x.1=k
 .rw[acW (by rw[e]),acW e,e]
 .rw[acV (λz=>e (acj z)),acV e]
theorem j6(f:α->V)(l:List (Int×α))(k:Int):nI (dk f l) (V8 k)=dk f (fU l k):=by
 unfold nI dk fU;rw[filter_map];congr 1;congr 1;funext x;change decide (¬ (V8 x.1:Key)=V8 k)=decide (¬ x.1=k);cases e:x.1=k
 .rw[e];simp
 .simp[e]
theorem gD{l:List (Int×α)}{a:α}(j:Int)(h:look l k=none):look (l++[(k,a)]) j=if j=k then some a else look l j:=by
 induction l with
 |nil =>
  change look [(k,a)] j=_;rw[bH,nj];cases e:j=k
  .rw[acW e,acW e.6]
  .rw[acV e,acV (zA3 e)]
 |cons x l G =>
  rw[bH]at h;cases e:x.1=k
  .rw[acW e]at h;cases h
  .rw[acV e]at h;change look (x::(l++[(k,a)])) j=_;rw[bH,bH,G h];cases F:x.1=j
   .rw[acW F,acW F,acV (λz=>e (F.trans z))]
   .rw[acV F,acV F]
theorem iM{l:List (Int×α)}{a b:α}(j:Int)(h:look l k=some b):look (dI l k a) j=if j=k then some a else look l j:=by
 induction l with
 |nil=>cases h
 |cons x l G =>
  rw[bH]at h;change look ((if x.1=k then(k,a)else x)::dI l k a) j=_;cases e:x.1=k
  .rw[acW e,bH,bH];cases F:j=k
   .rw[acW F.6,acW F]
   .rw[acV (zA3 F),acV F,acV (λz=>F (z.symm.trans e))];clear G h
    induction l with
    |nil=>rfl
    |cons y l G =>
     change look ((if y.1=k then(k,a)else y)::dI l k a) j=_;cases e3:y.1=k
     .rw[acW e3,bH,bH,acV (zA3 F),acV (λz=>F (z.symm.trans e3)),G]
     .rw[acV e3,bH,bH,G]
  .rw[acV e]at h;rw[acV e,bH,bH,G h];cases F:x.1=j
   .rw[acW F,acW F,acV (λz=>e (F.trans z))]
   .rw[acV F,acV F]
theorem mP(l:List (Int×α))(k j:Int):look (fU l k) j=if j=k then none else look l j:=by
 induction l with
 |nil =>
  change look [] j=if j=k then none else look [] j
  rw[nj];split<;>rfl
 |cons x l G =>
  unfold fU at *;rw[Zi];cases e:x.1=k
  .rw[acV (by simp[e]),G,bH];cases F:j=k
   .rw[acW F,acW F]
   .rw[acV F,acV F,acV (λz=>F (z.symm.trans e))]
  .rw[acW (by simp[e]),bH,bH,G];cases F:x.1=j
   .rw[acW F,acW F,acV (λz=>e (F.trans z))]
   .rw[acV F,acV F]
theorem kr(l:List (Int×α))(k:Int)(a:α):(dI l k a).map (·.1)=l.map (·.1):=by
 unfold dI;rw[WU];congr 1;funext x;change(if x.1=k then(k,a)else x).1=x.1;cases e:x.1=k
 .rw[acW e,e]
 .rw[acV e]
theorem qT(l:List (Int×α))(k:Int):(fU l k).map (·.1)=(l.map (·.1)).filter λx=>decide (x≠k):=by
 unfold fU;rw[filter_map];rfl
def AK(l:List (Int×α))(k:Int)(a:α):(dI l k a).9=l.9:=by unfold dI;rw[dM]
theorem mem_set{l:List (Int×α)}{a:α}{x:Int×α}(h:x∈dI l k a):x=(k,a)\/(x∈l/\x.1≠k):=by
 unfold dI at h;let#[y,F,e]:=z4.mp h;cases c:y.1=k
 .rw[acW c]at e;show .inl e.6
 .rw[acV c]at e;subst e;show .inr #[F,c]
def pW{l:List (Int×α)}{x:Int×α}(h:x∈fU l k):x∈l/\x.1≠k:=by
 unfold fU at h;let#[h1,h2]:=WA.mp h;show#[h1,zA0 h2]
def gz(f:α->V)(l:List (Int×α)):(dk f l).9=l.9:=by unfold dk;rw[dM]
end
theorem OA:∀(n:Nat)(a:Int)(l:qAa),l.4->(∀x∈l,a<=x/\x<a+n)->l.9<=n
 |0,a,l,_,h=>by
  cases l with
  |nil=>show G0 _
  |cons x r=>have:=h x Wn;omega
 |n+1,a,l,nd,h=>by
  let Y:=OA n a (l.filter λx=>decide (x≠a+n)) (nd.filter _) λx F=>by
   let#[h1,h2]:=WA.mp F;let Z:=h x h1;omega
  let e:(l.filter λx=>decide (x≠a+n)).9+1>=l.9:=by
   clear Y h
   induction l with
   |nil=>simp
   |cons x r L =>
    let#[G,I]:=Wq.mp nd;rw[Zi];cases c:x=a+n
    .rw[acV (by simp[c])];have:r.filter (λx=>decide (x≠a+n))=r:=by
      rw[abj];intro y U;have:y≠a+n:=λe=>G (by rw[c, <-e];show U);simpa using this
     rw[this];simp
    .rw[acW ‹c›];have:=L I;rw[WG,WG];omega
  omega
end Tb
namespace Dk
open PySem L2
abbrev uy:Wo:=top 22
abbrev qA:Wo:=top 23
abbrev uY:Wo:=top 24
open Tb
abbrev Hl:=List (Int×zB0×List Int)
def fC(x:zB0×List Int):V:=.ref x.1
abbrev mT(L:Hl):List (Key×V):=dk fC L
structure oY(H:Hp)(a:zB0)(L:Hl)(len:Nat):Prop where
 hd:H a^^^(mT L)
 hr:∀x∈L,lI H x.2.1 x.2.2
 nd:(L.map (·.1)).4
 rg:∀x∈L,28<=x.1/\x.1<len
 l1:1<=L.9
 l2:L.9<=24
variable{H H':Hp}{a:zB0}{L:Hl}{len:Nat}
theorem oY.same(c:oY H a L len)(s:aO H H'):oY H' a L len:=#[s _ _ c.hd,λx F=>#[s _ _ (c.hr x F).1,(c.hr x F).2],c.nd,c.rg,c.l1,c.l2]
variable{b:zB0}{kvs:qAg}
def Lm{xs:qAf}(h:H a^^^kvs)(h':H b∣xs):a≠b:=sU h h' (by intro z;cases z)
variable{C:zB0}
def Ng{dx:zB0}{fs:List (Str×V)}(h:H a^^^kvs)(h':H b=some (.ins C dx fs)):a≠b:=sU h h' (by intro z;cases z)
theorem oY.off{B:qa0}(c:oY H a L len)(o:Off B H H')(I:¬ B a)(G:∀a ns,lI H a ns->¬ B a):oY H' a L len:=#[o _ _ c.hd I,λx F=>#[o _ _ (c.hr x F).1 (G _ _ (c.hr x F)),(c.hr x F).2],c.nd,c.rg,c.l1,c.l2]
noncomputable def oF:List Int:=TN 16 0
structure Jt(mg:qa3):Prop where
 bn:∃u,mg "BLOCK_NUMBERS" = some u/\RelV (.int 16) u
 fl:∃u,mg "FIRST_LIST" = some u/\RelV (.int 2) u
 sorted:mg "sorted" = none
 enumerate:mg "enumerate" = none
 len:mg "len" = none
 range:mg "range" = none
theorem dY{n:Int}(h1 : -1000<=n)(h2:n<=1000):n.natAbs.log2<1920:=by
 cases z:n.12=0
 .rw[z];decide
 .rw[Nat.log2_lt z];let F:n.12<=1000:=av;omega
def n9(C:zB0):Sp:=λvs H Q _=>∃(p G:zB0)(d:Int)(cs:qAc)(bs:List (List Int))(I U:qAa),vs=[.ref p]/\bI C H p G d .bh false cs bs/\29<=bs.9/\bs.9<=300/\bs[0]?=some I/\bs[1]?=some U /\
 ((I[0]?=some 0/\∀H',aO H H'->Q (.int 0) H') \/
  ∃(ns rest:qAa),I++U=(ns.9:Int)::(ns++rest)/\1<=ns.9/\ns.9<=24/\ns.4/\(∀n∈ns,28<=n/\n<bs.9) /\
  ∀(H':Hp)(d':Int)(L:qAc)(F:List (List Int)),bI C H' p G d' .bh false L F->F.9=bs.9->(∀(k:Nat)(n:Int),ns[k]?=some n->F[n.5]?=bs[2+k]?)->(∀j:Nat,28<=j->((j:Nat):Int)∉ns->F[j]?=bs[j]?)->F[0]?=some oF->(∀x∈L,x∈cs\/H x=none)->Off (Wr p G) H H'->Q (.int ns.9) H')
variable{p:zB0}
theorem Off.none{G x:zB0}(o:Off (Wr p G) H H')(L:H' p≠none)(I:H' G≠none)(F:H' x=none):H x=none:=by
 cases e:H x with
 |none=>rfl
 |some u =>
  cases z:Wr p G x
  .rcases z with rfl|rfl
   .show absurd F L
   .show absurd F I
  .rw[o x u e z]at F;cases F
variable{d:Int}{cs:qAc}{bs:List (List Int)}
def bI.np{I:zB0}{F:V}{G:Bool}(D:bI C H p I d F G cs bs):H p≠none:=by
 let#[dx,h]:=D.ob;rw[h];simp
def bI.nb{F:zB0}{G:V}{I:Bool}(D:bI C H p F d G I cs bs):H F≠none:=by
 rw[D.hb];simp
variable{ns:qAa}
def mw(R:Rows H cs bs){i:Nat}(h:bs[i]?=some ns):ns.9=16:=by
 let#[a,_,q]:=iO R h;show q.2
def qP(C CF:zB0):Sp:=λvs H Q E=>∃(p G:zB0)(d:Int)(F:V)(cs:qAc)(bs:List (List Int)),vs=[.ref p]/\bI C H p G d F false cs bs/\Qy F/\1<=bs.9 /\
 (F=.int 0->∀H',bI C H' p G d F true cs bs->Off (Wr p G) H H'->E (.ref CF) none H') /\
 (F≠.int 0->∀H' I,bI C H' p G (d+1) (oZ F) false I (bs.set 0 oF)->(∀a∈I,a∈cs\/H a=none)->Off (Wr p G) H H'->Q .bh H')
def Jj:aA ["disk"] ["disk"] (ax uY):=L2.bg
variable{P:BY}{w:Oi}{K:Wa}{mg:qa3}{base:Heap}{f CN CF:zB0}{fd:DO}
theorem BH{Y:zB0}{U:DO}(F:b4 K "forget" "forget" uY f fd)(T:Jt mg)(TC:Txt K mg C)
  (GW:⇑aU 2 Y U ["self","n","numbers"] (pY K C CN CF)) (bW:Binds K U ["self","n","numbers"] []) (mW:Meth K C "write" Y):⇑aU 3 f fd ["disk"] (qP C CF):=by
 let#[ap,aa,am]:=T.bn;show F.gx Jj ?_;intros;let#[p,Z,d,uf,cs,bs,rfl,D,hu,lb,kE,kQ]:=h;let hs:=DD;let#[dx,h1]:=id D.ob;let ac:(fY Z d uf false).lookup ("write" : Str)=none:=gZ _ _ _ _ aF aF aF aF;show#[_,%[0,0,W,c9,dF,0,dq,mW,GW,ai,rfl,bW,cM,bO,a,cc,C,aI,cF,aa,am|9],?_];show#[0,p,dx,0,h1,ac,aE,λl1 aj=>#[l1,(16),0,51,av,av,by rw[NC];omega,λq hq=>?_]];rw[rep1 (V.int 0)];let sz:=(au (X:=.lst [V.int 0]) aj).trans (au (X:=.lst (TN ((16:Int)).toNat (V.int 0))) hq);show#[p,Z,q,2,false,cs,bs,(0),oF,rfl,D.same sz,hu,dY aE aE,a9.of (by rw[ag];unfold oF;rw[Yl];rfl),aF,λz=>(by rcases z with z|z<;>omega),λ_ z I G L=>?_,λ_ _ ak I ad G ab L=>?_]
 .rcases z with z|z
  .cases z
  .show kE z I G (λb u e nb=>L _ _ (sz _ _ e) λe=>nb (.inl e))
 .show kQ ak I ad G (λa ha=>(ab a ha).imp id sz.free) (λb u e nb=>L _ _ (sz _ _ e) nb)
def HU:aA ["disk","head","many","k"] ["disk"] (ax qA):=L2.bg
variable{fR fW:zB0}{dR dW:DO}
theorem zD{bi:zB0}{a4:DO}(F:b4 K "recover" "recover" qA f fd)(T:Jt mg)(TC:Txt K mg C)
  (GR:⇑aU 2 fR dR ["self","n"] (qX C CN CF)) (bR:Binds K dR ["self","n"] []) (mR:Meth K C "read" fR)
  (GW:⇑aU 2 fW dW ["self","n","numbers"] (pY K C CN CF)) (bW:Binds K dW ["self","n","numbers"] []) (mW:Meth K C "write" fW)
  (b2:⇑aU 3 bi a4 ["disk"] (qP C CF)) (ar:Def K mg "forget" bi a4 ["disk"]):↥aU 4 f fd ["disk"] (n9 C):=by
 let#[cx,_,_]:=T.bn;let#[u2,m2,r2]:=T.fl;show F.dg HU ?_;intros;let#[p,U,d,cs,bs,b0,b1,rfl,D,co,cr,e0,e1,k]:=h;let hs:=DD;let#[dx,h1]:=id D.ob;let nm:∀{d:Int}{m:Str},¬ m = "fallen" -> ¬ m = "until_fall" -> ¬ m = "done" -> ¬ m = "blocks" -> (fY U d .bh false).lookup m=none:=λh1 h2 h3 h4=>gZ _ _ _ _ h1 h2 h3 h4;let aP:∀{d:Int},(fY U d .bh false).lookup ("read" : Str)=none:=nm aF aF aF aF;let bx:∀{d:Int},(fY U d .bh false).lookup ("write" : Str)=none:=nm aF aF aF aF;let l0:=mw D.hc e0;let l1:=mw D.hc e1;let g:∀{n:Int}{aa:List (List Int)},aa.9=bs.9->0<=n->n<bs.9->¬ C9 aa n:=λG a b z=>by rcases z with z|z<;>omega
 show#[_,%[HU,0,bk,M,db,0,ai,aI,db,0,ai,aI,Q,aJ,1,f,g,2,r,b,aw,aL,b0,h,av,3,j,dc,0,ai,d,v,1,p,aw,3,a,db,0,ai,a,p,cF,m2,r2,3,t,dV,b2,ai,ao,ar.mg,ar.kp,ar.b,cM,iZ,q,b,2|9],?_]
 show#[0,p,dx,0,h1,aP,p,U,d,49,cs,bs,(0),rfl,D,dY aE aE,λz=>absurd z (g rfl aE av),128,λ_ _ x0 a7 l hl=>?_];rwa[show((0:Int)).5=0 from rfl,e0]at a7;let s1:=au (X:=.lst (b0.map V.int)) hl;show#[0,p,dx,0,s1 _ _ h1,aP,p,U,d,49,cs,bs,(1),rfl,D.same s1,dY aE aE,λz=>absurd z (g rfl aE av),128,λ_ _ x1 bo l' bF=>?_];rwa[show((1:Int)).5=1 from rfl,e1]at bo;let s2:=au (X:=.lst (b1.map V.int)) bF;show#[l,l',6,s2 _ _ ag,ag,by rw[dM,dM];omega,λhd ci=>?_];rw[<-yl];exists ci,(.lst ((b0++b1).map V.int)),s3,aT,H3;let S3:=(s1.trans s2).trans s3;let D3:=D.same S3;rcases k with⟨kz,k⟩|⟨ns,rest,eh,n1,n2,nd,rg,k⟩
 .let a0:((b0++b1).map V.int)[0]?=some (.int 0):=by
   rw[LW,Wj av,kz];rfl
  show#[0,hd,_,(0),.int 0,1,a9.of aT,aL (j:=0) a0,?_];show#[0,9];rw[zA1 rfl];show bU (k _ S3)
 .let a0:((b0++b1).map V.int)[0]?=some (.int (ns.9:Int)):=by
   rw[eh];rfl
  show#[0,hd,_,(0),.int (ns.9:Int),1,a9.of aT,aL (j:=0) a0,?_];show#[0,9];rw[zA2 (λz=>by injection z with z;omega)];show bA ?_;show#[0,(ns.9:Int),rfl,av,av,?_];obtain⟨aK,a3⟩:∃aK,cs=aK:=#[0];show gQ (lo:=0) (n:=((ns.9:Nat):Int).5) (λi σ H4=>∃(v3:Option V)(d:Int)(cs:qAc)(aa:List (List Int)),σ=#v[.ref p,.ref hd,.int (ns.9:Int),v3]/\bI C H4 p U d .bh false cs aa/\aa.9=bs.9 /\
   H4 hd∣((b0++b1).map V.int)/\(∀(k:Nat)(n:Int),k<i->ns[k]?=some n->aa[n.5]?=bs[2+k]?)/\(∀j:Nat,(∀(k:Nat)(n:Int),k<i->ns[k]?=some n->j≠n.5)->aa[j]?=bs[j]?)/\Off (Wr p U) H3 H4/\∀x∈cs,x∈aK\/H x=none)
   #[_,d,cs,bs,rfl,D3,rfl,aT,λk n hk=>absurd hk av,λj _=>rfl,λb o e _=>e,λx hx=>.inl (a3▸hx)] ?_ ?_
  .rintro i σ H4 hi ⟨v3,d4,ad,ab,rfl,I,aj,am,ha,G,o4,a2⟩;rw[Int.zero_add];let ac:i<ns.9:=av;let#[bm,h4]:=id I.ob;let cq:=rg ns[i] (Xo ac);let bv:((b0++b1).map V.int)[1+i]?=some (.int ns[i]):=by
    rw[eh,LW,show 1+i=i+1 from abU 1 i,List.getElem?_cons_succ,Wj ac,y0 ac];rfl
   let as:ab[2+i]?=bs[2+i]?:=G (2+i) λk n _ Y z=>by
    have:=(rg n (L1 Y)).1;omega
   let be:2+i<bs.9:=av;rw[y0 be]at as;show#[0,p,bm,0,h4,bx,0,0,6,hd,2,.int ns[i],1,a9.of am,5]
   .rw[show(1+(i:Int))=((1+i:Nat):Int)by push_cast;rfl];show aL bv
   show#[0,p,bm,0,h4,aP,0,6,p,U,d4,49,ad,ab,2+(i:Int),rfl,I,dY av av,λz=>absurd z (g aj av av),128,λ_ _ xr a5 lr ca=>?_];rwa[show(2+(i:Int)).5=2+i by omega,as]at a5;let bN:=mw I.hc as;let L:=au (X:=.lst ((bs[2+i]).map V.int)) ca;show#[p,U,lr,d4,49,ad,ab,ns[i],bs[2+i],rfl,I.same L,.inl rfl,dY av av,32,bN,λz=>absurd z (g aj av av),λ_ z=>?_,λ_ _ _ H6 aB D6 ap o6=>?_]
   .rcases z with z|z<;>cases z
   rw[show oZ V.bh=V.bh from rfl]at D6;let bY:(ns[i]).5<ab.9:=av;show#[_,d4+1,aB,0,D6,by rw[YF];show aj,?_,λk n hk Z=>?_,λj hj=>?_,?_]
   .let h5:=L _ _ h4;show o6 _ _ (L _ _ am) λz=>z.elim (λz=>jf h5 (L _ _ am) z.6) λz=>by
     let a6:=(I.same L).hb;let bd:=L _ _ am;rw[z]at bd;rw[bd]at a6;let hz:=OR a6;injection hz with hz;rw[eh]at hz;cases ad with
     |nil=>cases hz
     |cons c t=>injection (show V.int _::_=V.ref c::_ from hz)with z1;cases z1
   .cases e:k=i
    .subst e;rwa[y0 ac]at Z;rw[Xh bY,y0 be]
    .let ck:k<i:=av;let bL:n.5≠(ns[i]).5:=λz=>by
      let ak:k<ns.9:=av;rwa[y0 ak]at Z;let a1:=(rg ns[k] (Xo ak)).1;have:ns[k]=ns[i]:=av;show e ((aaN nd).mp this)
     rw[W5 (zA3 bL)];show ha k n ck Z
   .rw[W5 (zA3 (hj i ns[i] (Zy i) (y0 ac)))];show G j λk n hk Y=>hj k n av Y
   .show#[o4.trans λb o e G=>o6 _ _ (L _ _ e) G,λx hx=>?_];rcases ap x hx with z|z
    .show a2 x z
    .show .inr (Off.none (H':=upd H4 lr (.lst ((bs[2+i]).map V.int))) (λb o e G=>L _ _ (o4 _ _ (S3 _ _ e) G)) (I.same L).np (I.same L).nb z)
  .rintro σ H4 ⟨v3,d4,ad,ab,rfl,I,aj,_,ha,G,o4,a2⟩;rw[show((ns.9:Nat):Int).5=ns.9 from XJ _]at ha G;let#[_,_]:=id I.ob;show#[0,p,U,d4,.bh,ad,ab,rfl,I,.inl rfl,av,λz=>(by cases z),λ_ H6 aB D6 ap o6=>?_];rw[show oZ V.bh=V.bh from rfl]at D6;show#[0,k H6 (d4+1) aB _ D6 (by rw[YF];show aj) (λk n Y=>?_) (λj hj Y=>?_) (by rw[Xh av]) (λx hx=>?_) ?_]
   .let ak:k<ns.9:=(u4.mp Y).1;have:=(rg n (L1 Y)).1;rw[W5 av];show ha k n ak Y
   .rw[W5 av];show G j λk n _ Z z=>Y ?_;have:=(rg n (L1 Z)).1;rw[z,show((n.5:Nat):Int)=n by omega];show L1 Z
   .rcases ap x hx with z|z
    .show a3▸a2 x z
    .show .inr (Off.none (λb o e G=>o4 _ _ (S3 _ _ e) G) I.np I.nb z)
   .show λb o e G=>o6 _ _ (o4 _ _ (S3 _ _ e) G) G
def xQ(C:zB0):Sp:=λvs H Q _=>∃(p G a:zB0)(d:Int)(cs:qAc)(bs:List (List Int))(L:Hl),vs=[.ref p,.ref a]/\bI C H p G d .bh false cs bs/\29<=bs.9/\bs.9<=300/\oY H a L bs.9 /\
 ∀(H':Hp)(d':Int)(I:qAc)(F:List (List Int)),bI C H' p G d' .bh false I F->F.9=bs.9->(∀j:Nat,28<=j->F[j]?=((look L (j:Int)).map (·.2)).or bs[j]?)->F[0]?=some oF->(∀x∈I,x∈cs\/H x=none)->Off (Wr p G) H H'->Q .bh H'
theorem AU(h:H a∣(ns.map V.int))(F:1<=ns.9)(h':H b∣(cs.map V.ref)):a≠b:=sU h h' λz=>by
 injection z with z;cases ns with
 |nil=>simp at F
 |cons x r =>
  cases cs with
  |nil=>cases z
  |cons c t=>injection (show V.int x::r.map V.int=V.ref c::t.map V.ref from z)with z1 _;cases z1
variable{xs:qAa}
theorem Og(h:xs.9=32):d8 (xs.map V.int) (some 16) none=(xs.drop 16).map V.int:=by
 unfold d8;rw[dM,h];rw[show HT.qN 32 0 (some 16)=16 from rfl,show HT.qN 32 32 none=32 from rfl, <-ab0, <-aa0];congr 1;show V6 (by rw[WC];omega)
theorem Nf(h:xs.9=32):d8 (xs.map V.int) none (some 16)=(xs.take 16).map V.int:=by
 unfold d8;rw[dM,h];rw[show HT.qN 32 0 none=0 from rfl,show HT.qN 32 32 (some 16)=16 from rfl,Ym,aa0]
def yA:aA ["disk","changes","numbers","n","k","head"] ["disk","changes"] (ax uy):=L2.bg
theorem Co{fV:zB0}{dV:DO}(F:b4 K "commit" "commit" uy f fd)(T:Jt mg)(TC:Txt K mg C)
  (GR:⇑aU 2 fR dR ["self","n"] (qX C CN CF)) (bR:Binds K dR ["self","n"] []) (mR:Meth K C "read" fR)
  (GW:⇑aU 2 fW dW ["self","n","numbers"] (pY K C CN CF)) (bW:Binds K dW ["self","n","numbers"] []) (mW:Meth K C "write" fW)
  (GV:↥aU 4 fV dV ["disk"] (n9 C)) (DV:Def K mg "recover" fV dV ["disk"]):↥aU 5 f fd ["disk","changes"] (xQ C):=by
 let#[dv,as,ar]:=T.bn;let#[u2,m2,r2]:=T.fl;show F.dg yA ?_;intros;let#[p,I,a,d,cs,bs,L,rfl,D,dp,dr,c,k]:=h;let hs:=DD;let nm:∀{d:Int}{m:Str},¬ m = "fallen" -> ¬ m = "until_fall" -> ¬ m = "done" -> ¬ m = "blocks" -> (fY I d .bh false).lookup m=none:=λh1 h2 h3 h4=>gZ _ _ _ _ h1 h2 h3 h4;let cP:∀{d:Int},(fY I d .bh false).lookup ("read" : Str)=none:=nm aF aF aF aF;let aK:∀{d:Int},(fY I d .bh false).lookup ("write" : Str)=none:=nm aF aF aF aF;let g:∀{n:Int}{aa:List (List Int)},aa.9=bs.9->0<=n->n<bs.9->¬ C9 aa n:=λG a b z=>by rcases z with z|z<;>omega
 let c1:=c.l1;let c2:=c.l2;show#[_,%[yA,0,Q,S,bz,uk,rfl,de,e,aL,cd,2,av,3,j,db,0,ai,Y,aL,dW,ao,T.enumerate,h,bA,A,4,A,3,fe,j,dc,0,ai,d,p,cF,m2,r2,4,a,aN,m,1,3,O,5,M,C,a,l,h,2,O,5,M,5,cc,C,aI,aO,a9,aw,cF,as,ar,l,a,5,t,dc,0,ai,bO,a,w,5,D,cF,as,ar,bM,t,dc,0,ai,bO,a,w,5,aQ,cF,as,ar,j,dV,GV,ai,ao,DV.mg,DV.kp,DV.b,cM,aD,q|9],?_]
 show#[0,a,mT L,L.map (·.1),rfl,c.hd,by unfold mT dk;rw[WU,WU];rfl,c.nd,87,λl ns hl hp _=>?_];let s1:=au (X:=.lst (ns.map V.int)) hl;let dd:ns.9=L.9:=(by rw[hp.length_eq,dM]);let nd:ns.4:=hp.symm.nodup c.nd;let rg:∀n∈ns,28<=n/\n<bs.9/\∃x,look L n=some x/\(n,x)∈L:=λn hn=>by
  let#[x,U,e]:=z4.mp (hp.mem_iff.mp hn);let#[q1,q2]:=c.rg x U;rw[e]at q1 q2;let bi:(n,x.2)∈L:=(by rw[<-e];show U);show#[q1,q2,x.2,kK c.nd bi,bi]
 let mem:∀{n:Int}{x:zB0×List Int},look L n=some x->n∈ns:=λh=>hp.mem_iff.mpr (z4.mpr #[_,d7 h,rfl]);show#[69,#[_,32],?_];show gp (K:=K) (a:=l) (xs:=ns.map V.int) (λ_ σ H2=>∃v3:Option V,σ=#v[.ref p,.ref a,.ref l,v3,none,none]/\aO (upd H l (.lst (ns.map V.int))) H2) #[0,aO.refl _] (λi σ H2 _ ⟨_,_,s2⟩=>a9.of (s2 _ _ ag)) ?_ ?_
 .rintro i x σ H2 U ⟨v3,rfl,s2⟩;rw[LW]at U;let#[n,hn,rfl]:=HC.mp U;let#[q1,q2,_]:=rg n (L1 hn);let D2:=D.same (s1.trans s2);let#[bo,h2]:=id D2.ob;show#[0,p,bo,0,h2,cP,0,p,I,d,49,cs,bs,n,rfl,D2,dY av av,λz=>absurd z (g rfl av q2),128,λ_ _ xs _ lr cR=>?_];show#[0,s2.trans (au cR)]
 rintro σ H2 ⟨v3,rfl,s2⟩;let S2:=s1.trans s2;let D2:=D.same S2;let ap:H2 l∣(ns.map V.int):=s2 _ _ ag;let C2:=c.same S2;clear s1 s2;show#[69,#[_,a9.of ap],?_];let keep:∀{Y:Hp},Off (Wr p I) H2 Y->Y l∣(ns.map V.int)/\oY Y a L bs.9:=λ{Y} o=>by
  let#[bo,h2]:=id D2.ob;show#[o _ _ ap λz=>z.elim (λz=>jf h2 ap z.6) λz=>AU ap av D2.hb z,C2.off o (λz=>z.elim (Ng C2.hd h2) (Lm C2.hd D2.hb)) λb ms q z=>z.elim (λz=>jf h2 q.1 z.6) λz=>Hg q D2.hb z]
 obtain⟨a0,a4⟩:∃a0,cs=a0:=#[0];show vZ (K:=K) (a:=l) (xs:=ns.map V.int) (λi σ Y=>∃(v3 v4:Option V)(d:Int)(cs:qAc)(aa:List (List Int)),σ=#v[.ref p,.ref a,.ref l,v3,v4,none]/\bI C Y p I d .bh false cs aa/\aa.9=bs.9 /\
  (∀(k:Nat)(n:Int),k<i->ns[k]?=some n->aa[2+k]?=(look L n).map (·.2))/\(∀j:Nat,28<=j->aa[j]?=bs[j]?)/\Off (Wr p I) H2 Y/\∀x∈cs,x∈a0\/H x=none)
  #[2,d,cs,bs,rfl,D2,rfl,λk n hk=>absurd hk av,λj _=>rfl,λb o e _=>e,λx U=>.inl (a4▸U)] (λi σ Y _ ⟨_,_,_,_,_,_,_,_,_,_,o,_⟩=>a9.of (keep o).1) ?_ ?_
 .rintro i x σ Y Tt U cC ⟨v3,v4,d4,aP,ac,rfl,D4,ab,ha,G,o4,a3⟩;rw[LW]at U;let#[n,hn,rfl]:=HC.mp U;let db:i<ns.9:=(u4.mp hn).1;let#[q1,q2,#[ad,row],a6,cq]:=rg n (L1 hn);let#[_,C4]:=keep o4;let sT:=au (X:=.tup [.int i,.int n]) cC;let D5:=D4.same sT;let C5:=C4.same sT;let#[da,h5]:=id D5.ob;let bm:lI (upd Y Tt (.tup [.int i,.int n])) ad row:=C5.hr _ cq;show#[Tt,[.int i,.int n],rfl,cX.of ag,rfl,.int i,[.int n],rfl,.int n,[],1,?_];let hg:dG (upd Y Tt (.tup [.int i,.int n])) a (.int n) (some (.ref ad)):=by
   let q:=dG.k (k:=V8 n) C5.hd;rw[cz,a6]at q;show q
  show#[0,p,da,0,h5,aK,0,6,0,0,a,.ref ad,rfl,hg,?_];show#[p,I,ad,d4,49,aP,ac,2+(i:Int),row,rfl,D5,.inl rfl,dY av av,a9.of bm.1,bm.2,λz=>absurd z (g ab av av),λ_ z=>?_,λ_ _ _ H6 b2 D6 bN o6=>?_]
  .rcases z with z|z<;>cases z
  rw[show oZ V.bh=V.bh from rfl,show(2+(i:Int)).5=2+i by omega]at D6;show#[2,d4+1,b2,0,D6,by rw[YF];show ab,λk n' hk aB=>?_,λj hj=>?_,(λb o e G=>o6 _ _ (sT _ _ (o4 _ _ e G)) G),λx U=>?_]
  .cases e:k=i
   .subst e;rwa[hn]at aB;rw[Xh av,a6];rfl
   .rw[W5 av];show ha k n' av aB
  .rw[W5 av];show G j hj
  .rcases bN x U with z|z
   .show a3 x z
   .show .inr (Off.none (λb o e G=>sT _ _ (o4 _ _ (S2 _ _ e) G)) D5.np D5.nb z)
 rintro σ Y ⟨v3,v4,d4,aP,ac,rfl,D4,ab,ha,G,o4,a3⟩;rw[dM]at ha;let#[aT,_]:=keep o4;let a2:(ns.map V.int).9=ns.9:=dM ..;show#[0,l,0,.inl (a9.of aT),wQ,λh0 bx=>#[0,h0,l,6,ag,by rw[ay (bb aT bx)];show aT,by rw[a2];change 1+ns.9<=sizeLine;omega,λh1 bv=>?_]];rw[a2]at bv ⊢;exists bv,(.lst ([V.int (ns.9:Int)]++ns.map V.int)),sN,a1,H5;let t1:=(au (X:=.lst [V.int (ns.9:Int)]) bx).trans sN;let aj:([V.int (ns.9:Int)]++ns.map V.int).9=1+ns.9:=(by rw[ti,a2];rfl);show#[0,aE,λz0 a7=>#[92,0,h1,0,.inl (a9.of (by rw[ay (bb a1 a7)];show a1)),6,z0,6,ag,5,?_,λz1 cJ=>?_]]
 .rw[aj];omega
 .rw[aj];omega
 .rw[aj,NC];omega
 let t2:=(au (X:=.lst [V.int 0]) a7);let t3:=au (X:=.lst (TN (2*16-(([V.int (ns.9:Int)]++ns.map V.int).9:Int)).toNat [V.int 0]).11) cJ;let ez:((TN (2*16-(([V.int (ns.9:Int)]++ns.map V.int).9:Int)).toNat [V.int 0]).11)=(TN (31-ns.9) (0:Int)).map V.int:=by
  rw[rep1,aj,Yl,show(2*16-((1+ns.9:Nat):Int)).5=31-ns.9 by omega]
 rw[ez]at t3 ⊢;show#[h1,z1,6,(t2.trans t3) _ _ a1,ag,by rw[aj,dM,WM];omega,λh2 cB=>?_];let c7:([V.int (ns.9:Int)]++ns.map V.int)++(TN (31-ns.9) (0:Int)).map V.int=((ns.9:Int)::(ns++TN (31-ns.9) 0)).map V.int:=by
  rw[Wy,yl];rfl
 rw[c7];exists cB,(.lst (((ns.9:Int)::(ns++TN (31-ns.9) 0)).map V.int)),t4,ak,H6;let S6:=((t1.trans t2).trans t3).trans t4;let be:((ns.9:Int)::(ns++TN (31-ns.9) 0)).9=32:=(by rw[WG,ti,WM];omega);let D6:=D4.same S6;let o6:Off (Wr p I) H2 H6:=λb o e G=>S6 _ _ (o4 _ _ e G);generalize c4:((ns.9:Int)::(ns++TN (31-ns.9) 0))=hd at *;let#[bY,h6]:=id D6.ob;show#[0,p,bY,0,h6,aK,0,(16),rfl,h2,0,a9.of ak,λsl c6=>?_];rw[Og be];let Z:=au (X:=.lst ((hd.drop 16).map V.int)) c6;show#[p,I,sl,d4,49,aP,ac,(1),hd.drop 16,rfl,D6.same Z,.inl rfl,dY aE aE,32,by rw[WC];omega,λz=>absurd z (g ab aE av),λ_ z=>?_,λ_ _ _ H8 ca D8 co o8=>?_]
 .rcases z with z|z<;>cases z
 rw[show oZ V.bh=V.bh from rfl,show((1:Int)).5=1 from rfl]at D8;let h7:=Z _ _ h6;let bL:H8 h2∣(hd.map V.int):=o8 _ _ (Z _ _ ak) λz=>z.elim (λz=>jf h7 (Z _ _ ak) z.6) λz=>AU (Z _ _ ak) av (D6.same Z).hb z;let#[cr,h8]:=id D8.ob;show#[0,p,cr,0,h8,aK,0,(16),rfl,h2,0,a9.of bL,λsm b0=>?_];rw[Nf be];let s9:=au (X:=.lst ((hd.take 16).map V.int)) b0;show#[p,I,sm,d4+1,49,ca,_,(0),hd.take 16,rfl,D8.same s9,.inl rfl,dY aE aE,32,by rw[IF];omega,λz=>absurd z (g (by rw[YF];show ab) aE av),λ_ z=>?_,λ_ _ _ c3 ck am b1 c5=>?_]
 .rcases z with z|z<;>cases z
 rw[show oZ V.bh=V.bh from rfl,show((0:Int)).5=0 from rfl]at am;let bF:Off (Wr p I) H c3:=λb o e G=>c5 _ _ (s9 _ _ (o8 _ _ (Z _ _ (o6 _ _ (S2 _ _ e) G)) G)) G;let bd:((ac.set 1 (hd.drop 16)).set 0 (hd.take 16)).9=bs.9:=(by rw[YF,YF];show ab);show#[0,p,I,_,ck,_,hd.take 16,hd.drop 16,rfl,am,av,av,5,.inr #[ns,TN (31-ns.9) 0,?_,av,av,nd,λn hn=>?_,λH' d' c0 aa D' ci hA hB cD cN o'=>?_]]
 .rw[Xh (by rw[YF];omega)]
 .rw[W5 av,Xh av]
 .rw[Xf, <-c4]
 .rw[bd];show#[(rg n hn).1,(rg n hn).2.1]
 let a5:∀j:Nat,2<=j->((ac.set 1 (hd.drop 16)).set 0 (hd.take 16))[j]?=ac[j]?:=λj hj=>(by rw[W5 av,W5 av]);let q8:Off (Wr p I) H (upd H6 sl (.lst ((hd.drop 16).map V.int))):=λb o e G=>Z _ _ (o6 _ _ (S2 _ _ e) G);let cx:Off (Wr p I) H (upd H8 sm (.lst ((hd.take 16).map V.int))):=λb o e G=>s9 _ _ (o8 _ _ (q8 _ _ e G) G);show k H' d' c0 aa D' (ci.trans bd) (λj hj=>?_) cD (λx U=>?_) λb o e G=>o' _ _ (bF _ _ e G) G
 rotate_left
 .rcases cN x U with z|z
  .rcases b1 x z with z|z
   .rcases co x z with z|z
    .show a4▸a3 x z
    .show .inr (Off.none q8 (D6.same Z).np (D6.same Z).nb z)
   .show .inr (Off.none cx (D8.same s9).np (D8.same s9).nb z)
  .show .inr (Off.none bF am.np am.nb z)
 cases hm:((j:Nat):Int)∈ns
 .let#[q,hq,eq]:=Zs hm;let e1:=hA q (j:Int) (by rw[y0 hq,eq]);rw[XJ,a5 _ av,ha q (j:Int) hq (by rw[y0 hq,eq])]at e1;let#[_,_,x,ex,_]:=rg _ hm;rw[e1,ex];rfl
 .rw[hB j hj hm,a5 _ av,G j hj];cases e:look L (j:Int)with
  |none=>rfl
  |some x=>show absurd (mem e) hm
end Dk
namespace Fs
open PySem L2 Dk Tb
noncomputable def f2(a b:Str)(x y:V):List (Str×V):=bP b y (bP a x [])
variable{a b:Str}{x y:V}
def cF(h:¬ a=b):(f2 a b x y).lookup a=some x:=by unfold f2;rw[aY,acV h,aY,acW rfl]
def vz:(f2 a b x y).lookup b=some y:=by unfold f2;rw[aY,acW rfl]
def bJ{m:Str}(h1:¬ m=b)(h2:¬ m=a):(f2 a b x y).lookup m=none:=by unfold f2;rw[aY,acV h1,aY,acV h2];rfl
def kh(h:¬ a=b):f2 a b x y=[(a,x),(b,y)]:=by unfold f2;rw[jv,eZ h,jv]
def OS{z:V}(h:¬ a=b):bP b z (f2 a b x y)=f2 a b x z:=by rw[kh h,kh h,eZ h,qf rfl]
def NZ(h:¬ a=b):(f2 a b x y).9<1000:=by rw[kh h];change 2<1000;decide
structure DA where
 C:zB0
 CD:zB0
structure BA where
 dr:zB0
 p:zB0
 bl:zB0
structure BS where
 dd:zB0
 cs:List zB0
 bs:List (List Int)
 D:Hl
def kd:¬ (("disk" : Str) = "drafted"):=aF
structure ve(c:DA)(H:Hp)(b:BA)(s:BS):Prop where
 ob:∃dx,H b.dr=some (.ins c.CD dx (f2 "disk" "drafted" (.ref b.p) (.ref s.dd)))
 dk:∃d,bI c.C H b.p b.bl d .bh false s.cs s.bs
 hd:H s.dd^^^(mT s.D)
 hr:∀x∈s.D,lI H x.2.1 x.2.2
 nd:(s.D.map (·.1)).4
 rg:∀x∈s.D,28<=x.1/\x.1<s.bs.9
 ln:48<=s.bs.9/\s.bs.9<=300
 z0:s.bs[0]?=some oF
def jZ(b:BA)(s:BS)(a:zB0):Prop:=a=b.dr\/a=b.p\/a=b.bl\/a=s.dd\/a∈s.cs\/∃x∈s.D,a=x.2.1
noncomputable def lb(s:BS)(j:Int):Option (List Int):=((look s.D j).map (·.2)).or s.bs[j.5]?
noncomputable def se(s:BS)(x:Int×zB0×List Int):Bool:=decide (¬ s.bs[x.1.5]?=some x.2.2)
noncomputable def dn(s:BS):Nat:=(s.D.filter (se s)).9
theorem Ae{α:Type}{p:Int×α->Bool}{k:Int}{a b:α}:∀{l:List (Int×α)},(l.map (·.1)).4->look l k=some b->((dI l k a).filter p).9+(if p (k,b)=true then 1 else 0)=(l.filter p).9+(if p (k,a)=true then 1 else 0)
 | [],_,h=>by cases h
 |x::l,nd,h=>by
  rw[Wy,Wq]at nd;rw[bH]at h;let one:∀(y:Int×α)(m:List (Int×α)),((y::m).filter p).9=(if p y=true then 1 else 0)+(m.filter p).9:=λy m=>by
   cases c:p y=true
   .rw[WO c,acW c,WG];omega
   .rw[WQ c,acV c];omega
  change(((if x.1=k then(k,a)else x)::dI l k a).filter p).9+_=_;rw[one,one];cases e:x.1=k
  .rw[acW e]at h ⊢;cases h;let id:dI l k a=l:=by
    unfold dI
    conv=>rhs;rw[<-map_id l]
    show Xs λy F=>?_;rw[acV (λz=>nd.1 (z4.mpr #[y,F,z.trans e.6]))];rfl
   rw[id,show(k,x.2)=x by rw[<-e]];omega
  .rw[acV e]at h ⊢;have:=Ae (p:=p) (a:=a) nd.2 h;omega
def dJ(b:BA)(s:BS)(H:Hp)(s':BS)(H':Hp):Prop:=Off (jZ b s) H H'/\∀a,jZ b s' a->jZ b s a\/H a=none
variable{c:DA}{H H':Hp}{b:BA}{s:BS}
theorem ve.off{B:qa0}(A:ve c H b s)(o:Off B H H')(n:∀a,jZ b s a->¬ B a):ve c H' b s:=by
 let#[dx,h1]:=A.ob;let#[d,#[I,h2],G,U]:=A.dk;show#[#[dx,o _ _ h1 (n _ (.inl rfl))],#[d,#[I,o _ _ h2 (n _ (.inr (.inl rfl)))],o _ _ G (n _ (.inr (.inr (.inl rfl)))),iI U λa L ns q=>#[o _ _ q.1 (n _ (.inr (.inr (.inr (.inr (.inl L)))))),q.2]],
  o _ _ A.hd (n _ (.inr (.inr (.inr (.inl rfl))))),λx F=>#[o _ _ (A.hr x F).1 (n _ (.inr (.inr (.inr (.inr (.inr #[x,F,rfl])))))),(A.hr x F).2],A.nd,A.rg,A.ln,A.z0]
def ve.same(A:ve c H b s)(o:aO H H'):ve c H' b s:=A.off (B:=λ_=>False) (Off.of o) λ_ _=>id
theorem ve.live(A:ve c H b s){a:zB0}(h:jZ b s a):H a≠none:=by
 let#[dx,h1]:=A.ob;let#[d,D]:=A.dk;rcases h with h|h|h|h|h|⟨x,F,h⟩
 .rw[h,h1];nofun
 .rw[h];show D.np
 .rw[h];show D.nb
 .rw[h,A.hd];nofun
 .let#[ns,q]:=ir D.hc a h;rw[q.1];nofun
 .rw[h,(A.hr x F).1];nofun
def dJ.same(o:aO H H'):dJ b s H s H':=#[Off.of o,λ_ h=>.inl h]
theorem ve.row(A:ve c H b s){j:Int}{r:qAa}(h:lb s j=some r):r.9=16:=by
 let#[d,D]:=A.dk;unfold lb at h;cases e:look s.D j with
 |none=>rw[e]at h;show mw D.hc h
 |some x=>rwa[e]at h;show(A.hr _ (d7 e)).2
theorem ve.dl(A:ve c H b s):s.D.9<=300:=by
 have:=OA 300 0 (s.D.map (·.1)) A.nd λx F=>by
  let#[y,G,rfl]:=z4.mp F;have:=A.rg y G;have:=A.ln;omega
 (rw[dM]at this;assumption)
inductive uI(c:DA)(v:qAf)(H:Hp)(Q:VK)(e:XK):Prop
 |mk(dr dx p bl:zB0)(d:Int)(cs:qAc)(bs:List (List Int))(_:v=[.ref dr,.ref p])(_:H dr=some (.ins c.CD dx []))(_:bI c.C H p bl d .bh false cs bs)(_:48<=bs.9/\bs.9<=300)(_:bs[0]?=some oF)(_:∀(H':Hp)(dd:zB0),ve c H' #[dr,p,bl] #[104]->Off (· = dr) H H'->H dd=none->Q .bh H')
inductive kX(c:DA)(v:qAf)(H:Hp)(Q:VK)(e:XK):Prop
 |mk(b:BA)(s:BS)(n:Int)(r:qAa)(_:v=[.ref b.dr,.int n])(_:ve c H b s)(_:0<=n)(_:lb s n=some r)(_:n<s.bs.9)(_:∀(H':Hp)(l:zB0),aO H H'->H l=none->H' l∣(r.map V.int)->Q (.ref l) H')
inductive mL(K:Wa)(c:DA)(v:qAf)(H:Hp)(Q:VK)(e:XK):Prop
 |mk(b:BA)(s:BS)(n:Int)(l:zB0)(r:qAa)(_:v=[.ref b.dr,.int n,.ref l])(_:ve c H b s)(_:28<=n)(_:n<s.bs.9)(_:a9 K H l (r.map V.int))(_:r.9=16)(_:∀(H':Hp)(D':Hl),ve c H' b { s with D:=D' }->(∀j,lb { s with D:=D' } j=if j=n then some r else lb s j)->(∀x∈D',x∈s.D\/(x.1=n/\x.2.2=r))->Off (· = s.dd) H H'->dJ b s H { s with D:=D' } H'->dn { s with D:=D' }<=dn s+(if lb s n=some r then 0 else 1)->Q .bh H')
abbrev UQ:Wo:=inClass (top 26) 0
abbrev SU:Wo:=inClass (top 26) 1
abbrev Sb:Wo:=inClass (top 26) 2
abbrev Vn:Wo:=inClass (top 26) 3
structure Fl(K:Wa)(mg:qa3)(c:DA):Prop where
 cl:qa K c.CD
 nK:dj K c.CD "disk"
 nD:dj K c.CD "drafted"
 list:mg "list" = none
 len:mg "len" = none
def UC:aA ["self","disk"] ["self","disk"] (ax UQ):=L2.bg
variable{P:BY}{w:Oi}{K:Wa}{mg:qa3}{base:Heap}{f:zB0}{fd:DO}
theorem FD(F:b4 K "__init__" "Draft.__init__" UQ f fd)(T:Fl K mg c):↥aU 1 f fd ["self","disk"] (uI c):=by
 show F.dg UC ?_;intros;let#[G,dx,p,Y,d,cs,bs,rfl,ho,D,ln,L,k]:=h;show#[_,%[0,0,i,aH,1,k,aH,iT|9],?_]
 show#[0,0,G,c.CD,dx,[],47,T.nK,aE,?_];dsimp only;intro dd hd;let nd:dd≠G:=λe=>(by rwa[e,ag]at hd);let I:H dd=none:=(by rw[ay nd]at hd;show hd);show#[0,G,c.CD,dx,0,by rw[ay (zA3 nd),ag],20,102];let o:Off (· = G) H (upd (upd (upd H G (.ins c.CD dx (bP "disk" (.ref p) []))) dd (.dK [])) G (.ins c.CD dx (bP "drafted" (.ref dd) (bP "disk" (.ref p) [])))):=λb o e w=>by
  rw[ay w,ay (bb e I),ay w];show e
 show k _ dd #[#[dx,ag],#[d,D.off o (λe=>?_) (λe=>?_) λa ns q e=>?_],by rw[ay nd,ag];rfl,nofun,.nil,nofun,ln,L] o I
 .let#[U,h2]:=D.ob;rw[e,ho]at h2;simp only[Xi,HO.ins.injEq]at h2;have:=h2.2.2;rwa[fE]at this
 .have:=D.hb;rwa[e,ho]at this
 .have:=q.1;rwa[e,ho]at this
def UU:aA ["self","n"] ["self","n"] (ax SU):=L2.bg
variable{CN CF:zB0}
theorem G7(F:b4 K "read" "Draft.read" SU f fd)(T:Fl K mg c)(TC:Txt K mg c.C)(U:⇑Md 2 c.C "read" (qX c.C CN CF)):↥aU 3 f fd ["self","n"] (kX c):=by
 show F.dg UU ?_;intros;let#[b,s',n,r,rfl,B,n0,G,n1,k]:=h;let#[dx,ho]:=B.ob;let#[d,D]:=B.dk;show#[_,%[0,hr,f,bn,ce,ax,1,u,b,cb,a,aN,ax,aG,b,df,u,dq,U,c6,iZ,e|9],?_]
 show HJ λ_ Y je=>?_;show#[0,17,ho,20,vz,s'.dd,0,dG.k (k:=V8 n) B.hd,?_];rw[cz];unfold lb at G;cases e:look s'.D n with
 |some x =>
  rwa[e]at G;show#[true,rfl,Y _ ?_];show#[17,ho,20,vz,0,s'.dd,fC x,3,?_]
  .let q:=dG.k (k:=V8 n) B.hd;rw[cz,e]at q;show q
  .show#[x.1,0,.inl (a9.of (B.hr _ (d7 e)).1),λl G=>k _ l (au G) G ag]
 |none =>
  rw[e]at G;show#[false,rfl,je _ ?_];let#[Z,h2]:=D.ob;show#[70,47,T.nK,cF kd,b.p,Z,0,h2,30,0,b.p,b.bl,d,49,s'.cs,s'.bs,n,rfl,D,dY av (by have:=B.ln;omega),130,λ_ z=>?_,λ_ _ ns I l L=>?_]
  .show absurd z (by unfold C9;omega)
  .cases z
  .rw[show s'.bs[n.5]?=some r from G]at I;cases I;show k _ l (au L) L ag
def Sd:aA ["self","n","numbers"] ["self","n","numbers"] (ax Sb):=L2.bg
theorem Cz(F:b4 K "write" "Draft.write" Sb f fd)(T:Fl K mg c):↥aU 1 f fd ["self","n","numbers"] (mL K c):=by
 show F.dg Sd ?_;intros;let#[b,s',n,l,r,rfl,B,n0,n1,L,lr,k]:=h;let ld:=B.dl;let#[dx,ho]:=B.ob;let hs:=DD;show#[_,%[0,0,k,bp,m,aG,cb,h|9],?_];show#[0,l,0,.inl L,λa U=>?_];let Z:=au (X:=.lst (r.map V.int)) U;let B1:=B.same Z;show#[17,Z _ _ ho,20,vz,0,s'.dd,0,j3.k (k:=V8 n) B1.hd (by unfold mT dk;rw[dM];omega),?_];let ea:upd H a (.lst (r.map V.int)) a∣(r.map V.int):=ag;generalize upd H a (.lst (r.map V.int))=H1 at *;let na:a≠s'.dd:=λe=>(by rw[e]at U;rwa[B.hd]at U);let I:∀X,Off (· = s'.dd) H (upd H1 s'.dd X):=λX b o e w=>(by rw[ay w];show Z _ _ e);let nx:∀{y xs},H y∣xs->y≠s'.dd:=λe z=>(by rwa[z,B.hd]at e);let#[d,#[aa,h2],h3,h4]:=id B.dk;let ab:∀X,bI c.C (upd H1 s'.dd X) b.p b.bl d .bh false s'.cs s'.bs:=λX=>#[#[aa,I X _ _ h2 λe=>by rwa[e,B.hd]at h2],I X _ _ h3 (nx h3),iI h4 λy Y ns q=>#[I X _ _ q.1 (nx q.1),q.2]];let fin:∀D':Hl,putK (mT s'.D) (V8 n) (fC (a,r))=mT D'->(∀j,look D' j=if j=n then some (a,r)else look s'.D j)->(∀x∈D',x∈s'.D\/x=(n,a,r))->(D'.map (·.1)).4->dn { s' with D:=D' }<=dn s'+(if lb s' n=some r then 0 else 1)->Q .bh (upd H1 s'.dd (.dK (putK (mT s'.D) (V8 n) (fC (a,r))))):=λD' e1 e2 e3 e4 e5=>by
  show k _ D' #[#[dx,I _ _ _ ho λe=>by rwa[e,B.hd]at ho],#[d,ab _],by rw[ag,e1],λx G=>?_,e4,λx G=>?_,B.ln,B.z0] (λj=>?_) (λx G=>(e3 x G).imp id λz=>by rw[z];show#[1]) (I _) #[(I _).mono λy z=>.inr (.inr (.inr (.inl z))),λy z=>?_] e5
  .rcases e3 x G with z|z
   .show#[I _ _ _ (B.hr x z).1 (nx (B.hr x z).1),(B.hr x z).2]
   .rw[z];show#[by rw[ay na];show ea,lr]
  .rcases e3 x G with z|z
   .show B.rg x z
   .rw[z];show#[n0,n1]
  .unfold lb;rw[show(look (BS.mk s'.dd s'.cs s'.bs D').D j)=_ from e2 j];cases z:j=n
   .rw[acW z,acW z];rfl
   .rw[acV z,acV z]
  .rcases z with z|z|z|z|z|⟨x,G,z⟩
   .show .inl (.inl z)
   .show .inl (.inr (.inl z))
   .show .inl (.inr (.inr (.inl z)))
   .show .inl (.inr (.inr (.inr (.inl z))))
   .show .inl (.inr (.inr (.inr (.inr (.inl z)))))
   .rcases e3 x G with y|y
    .show .inl (.inr (.inr (.inr (.inr (.inr #[x,y,z])))))
    .rw[z,y];show .inr U
 cases e:look s'.D n with
 |none =>
  show fin (s'.D++[(n,a,r)]) (gc e) (λj=>gD j e) (λx G=>?_) ?_ ?_
  .rcases Wf.mp G with z|z
   .show .inl z
   .show .inr (sx.mp z)
  .rw[yl,Wl];show#[B.nd,by simp,λx G y Y=>by rw[sx.mp (show y∈[n]from Y)];show λz=>iD e (z▸G)]
  .let L:lb s' n=s'.bs[n.5]?:=(by unfold lb;rw[e];rfl);change((s'.D++[(n,a,r)]).filter (se s')).9<=dn s'+_;rw[Xk,ti,L];cases z:s'.bs[n.5]?=some r
   .rw[acW z,WQ (by change ¬ decide _=true;rw[zA2 (λw=>w z)];nofun),YH];show G0 _
   .rw[acV z];show abh (WL _ _) _
 |some x =>
  show fin (dI s'.D n (a,r)) (ju e) (λj=>iM j e) (λy Y=>?_) (by rw[kr];show B.nd) ?_
  .let#[y',h1,h2]:=z4.mp Y;cases z:y'.1=n
   .rw[acW z]at h2;show .inr h2.6
   .rw[acV z]at h2;rw[<-h2];show .inl h1
  .let q:=Ae (p:=se s') (a:=(a,r)) B.nd e;let L:lb s' n=some x.2:=(by unfold lb;rw[e];rfl);change((dI s'.D n (a,r)).filter (se s')).9<=dn s'+_;unfold dn;rw[L];cases z:some x.2=some r
   .let ed:se s' (n,a,r)=se s' (n,x):=(by change decide (¬ s'.bs[n.5]?=some r)=decide (¬ s'.bs[n.5]?=some x.2);rw[z]);rw[acW z];rw[ed]at q;omega
   .rw[acV z];have:(if se s' (n,a,r)=true then 1 else 0)<=1:=(by split<;>omega);omega
inductive yz(c:DA)(v:qAf)(H:Hp)(Q:VK)(e:XK):Prop
 |mk(b:BA)(s:BS)(_:v=[.ref b.dr])(_:ve c H b s)(_:dn s<=24)(_:∀(H':Hp)(s':BS),ve c H' b s'->s'.D=[]->(∀j,28<=j->lb s' j=lb s j)->s'.bs.9=s.bs.9->dJ b s H s' H'->Q .bh H')
theorem xR{α:Type}{l:List (Int×α)}{p:Int×α->Bool}(nd:(l.map (·.1)).4)(j:Int):look (l.filter p) j=(look l j).bind λa=>if p (j,a)=true then some a else none:=by
 induction l with
 |nil=>rfl
 |cons x l F =>
  rw[Wy,Wq]at nd;rw[bH];cases e:x.1=j
  .rw[acW e];let G:look (l.filter p) j=none:=by
    rw[F nd.2];cases q:look l j with
    |none=>rfl
    |some a=>show absurd (z4.mpr #[_,d7 q,e.6]) nd.1
   cases c:p x=true
   .rw[WO c,bH,acW e,ZA,acW (by rw[<-e];show c)]
   .rw[WQ c,G,ZA,acV (by rw[<-e];show c)]
  .rw[acV e, <-F nd.2];cases c:p x=true
   .rw[WO c,bH,acV e]
   .rw[WQ c]
theorem wR{l:qAa}(nd:l.4){i j:Nat}{x:Int}(hi:l[i]?=some x)(I:l[j]?=some x):i=j:=by
 let#[h1,F]:=u4.mp hi;let#[h2,G]:=u4.mp I;rcases Nat.lt_trichotomy i j with h|h|h
 .show absurd (F.trans G.6) (W3.mp nd i j h1 h2 h)
 .show h
 .show absurd (G.trans F.6) (W3.mp nd j i h2 h1 h)
def Lc:aA ["self","changes","n"] ["self"] (ax Vn):=L2.bg
theorem yo(F:b4 K "finish" "Draft.finish" Vn f fd)(T:Fl K mg c)(TC:Txt K mg c.C)(GR:⇑Md 2 c.C "read" (qX c.C CN CF))(GC:↥Df 5 "commit" (xQ c.C)):↥aU 6 f fd ["self"] (yz c):=by
 show F.dg Lc ?_;intros;let#[b,s',rfl,B,ld,k]:=h;let l3:=B.dl;let ld:(s'.D.filter (se s')).9<=24:=ld;let hs:=DD;let#[dx,ho]:=B.ob;let#[d,D]:=B.dk;let ab:=B.hd;show#[_,%[Lc,hr,bk,iT,i,dX,dg,bz,ID,u,av,2,k,aX,H,dG,aN,ax,u,2,df,u,dq,GR,c6,iZ,h,s,k,bp,ax,1,2,aN,ax,u,2,i,aH,iT,k,aX,bB,S,BM,cO,e,r,j,c,GC,ay,e|9],?_]
 show fj λ_ jt=>?_;intro ch Z;show jt _ _ ?_;clear jt;exists Z,(.dK []),s1,c1,H1;let aa:ch≠s'.dd:=λe=>(by rwa[e,ab]at Z);let aP:∀(o:Obj) u',H s'.dd≠some (.frz o u'):=λo u' z=>(by rwa[ab]at z);show#[17,s1 _ _ ho,20,vz,s'.dd,0,s1 _ _ ab,aP,λo=>?_];let o1:Off (· = s'.dd) H (upd H1 s'.dd (.frz o (.dK (mT s'.D)))):=λa u e z=>(by rw[ay z];show s1 _ _ e);let c2:upd H1 s'.dd (.frz o (.dK (mT s'.D))) ch^^^[]:=(by rw[ay aa];show c1);let d2:upd H1 s'.dd (.frz o (.dK (mT s'.D))) s'.dd=some (.frz o (.dK (mT s'.D))):=ag;generalize upd H1 s'.dd (.frz o (.dK (mT s'.D)))=HF at *;let nl:∀{a xs},H a∣xs->HF a∣xs:=λ{a xs} e=>o1 _ _ e λz=>(by rwa[z,ab]at e);let ak:∀{a C dx fs},H a=some (.ins C dx fs)->HF a=some (.ins C dx fs):=λ{a C dx fs} e=>o1 _ _ e λz=>(by rwa[z,ab]at e);let free:∀{a},HF a=none->H a=none:=λ{a} e=>by
  cases q:H a with
  |none=>rfl
  |some u =>
   cases z:a=s'.dd
   .rw[z,d2]at e;cases e
   .rw[o1 _ _ q z]at e;cases e
 show Hf (a:=s'.dd) (o:=o) (kvs:=mT s'.D) (λi σ H2=>∃v2:Option V,yd (σ=#v[.ref b.dr,.ref ch,v2]) (H2 ch^^^(mT ((s'.D.take i).filter (se s')))) (Off (· = ch) HF H2)) #[0,by rw[XX];show c2,96] (λi σ H2 _ z=>by let#[_,_,_,L]:=z;show L _ _ d2 (zA3 aa)) ?_ ?_
 .rintro i kk v σ H2 hk ⟨v2,rfl,h2,L⟩;let aK:(s'.D.map λx:Int×zB0×List Int=>((V8 x.1:Key),fC x.2))[i]?=some (kk,v):=hk;rw[LW]at aK;let#[x,I,e]:=HC.mp aK;cases e;let ap:=L1 I;let lk:=kK B.nd (show(x.1,x.2)∈s'.D from ap);let rg:=B.rg x ap;let len:=B.ln;let as:∀{a u},H a=some u->a≠ch:=λe z=>(by rwa[z,Z]at e);let L2:∀{a xs},H a∣xs->H2 a∣xs:=λe=>L _ _ (nl e) (as e);let I2:∀{a C dx fs},H a=some (.ins C dx fs)->H2 a=some (.ins C dx fs):=λe=>L _ _ (ak e) (as e);let gd:∀{J:Hp},J s'.dd=some (.frz o (.dK (mT s'.D)))->dG J s'.dd (.int x.1) (some (fC x.2)):=λe=>.inl #[_,V8 x.1,.inr #[_,e],rfl,by rw[cz,lk];rfl];let e2:=L _ _ d2 (zA3 aa);let#[ac,Y]:=D.ob;let D2:bI c.C H2 b.p b.bl d .bh false s'.cs s'.bs:=#[#[ac,I2 Y],L2 D.hb,iI D.hc λa _ ns q=>#[L2 q.1,q.2]];obtain⟨ns,am⟩:∃ns,s'.bs[x.1.5]?=some ns:=#[_,y0 av];show Bs λQQ ji je=>?_;show#[17,I2 ho,20,vz,0,s'.dd,0,gd e2,70,rfl,I2 ho,T.cl,T.nK,cF kd,b.p,ac,0,I2 Y,30,0,b.p,b.bl,d,49,s'.cs,s'.bs,x.1,rfl,D2,dY av av,λz=>absurd z (by unfold C9;omega),λ_ z=>(by cases z),λ_ _ a6 hn l hl=>?_];rwa[am]at hn;let U:=au (X:=.lst (ns.map V.int)) hl;let h3:=U _ _ h2;let hr:=(B.hr x ap).1;show#[x.2.1,l,x.2.2.map V.int,ns.map V.int,1,a9.of (U _ _ (L2 hr)),32,sQ _,sQ _,0,?_];rw[tI];let ht:s'.D.take (i+1)=s'.D.take i++[x]:=(by rw[WE,I];rfl);let o3:Off (· = ch) HF (upd H2 l (.lst (ns.map V.int))):=λa u e z=>U _ _ (L _ _ e z);generalize upd H2 l (.lst (ns.map V.int))=H3 at *;cases z:x.2.2=ns
  .let hd:se s' x=false:=zA2 (λw=>w (by rw[am,z]));rw[zA1 z];show je _ #[0,?_,o3];rw[ht,Xk,WQ (by rw[hd];nofun),YH,Wt];show h3
  .let hd:se s' x=true:=zA1 (λw=>z (by rw[am]at w;show(OR w).6));rw[zA2 z];show ji _ ?_;show#[17,o3 _ _ (ak ho) (as ho),20,vz,0,s'.dd,0,gd (o3 _ _ d2 (zA3 aa)),0,0,ch,0,j3.k (k:=V8 x.1) h3 (by unfold mT dk;rw[dM];have:=WL (se s') (s'.D.take i);rw[IF]at this;omega),0,?_,λa u e z=>by rw[ay z];show o3 _ _ e z];rw[ag,ht,Xk,WO hd,YH];show congrArg (λy=>some (HO.dK y)) (gc (f:=fC) (a:=x.2) ?_);cases q:look ((s'.D.take i).filter (se s')) x.1 with
   |none=>rfl
   |some u =>
    exfalso;let m1:=(WA.mp (d7 q)).1;let#[j,hj,e3]:=Zs m1;rw[List.getElem_take]at e3;rw[IF]at hj;let hi:=(u4.mp I).1;let ij:=wR (x:=x.1) B.nd (i:=j) (j:=i) (by rw[LW,y0 av,e3];rfl) (by rw[LW,I];rfl);omega
 .rintro σ H2 ⟨v2,rfl,h2,L⟩;rw[show(mT s'.D).9=s'.D.9 by unfold mT dk;rw[dM],WV]at h2;show#[s'.dd,o,_,L _ _ d2 (zA3 aa),aP,?_];let o3:Off (· = ch) H (upd H2 s'.dd (.dK (mT s'.D))):=λa u e z=>by
   cases y:a=s'.dd
   .rw[y,ag, <-ab, <-y,e]
   .rw[ay y];show L _ _ (o1 _ _ e y) z
  let U:aO H (upd H2 s'.dd (.dK (mT s'.D))):=λa u e=>o3 a u e λz=>(by rwa[z,Z]at e);let h3:upd H2 s'.dd (.dK (mT s'.D)) ch^^^(mT (s'.D.filter (se s'))):=(by rw[ay aa];show h2);let f3:∀{a},upd H2 s'.dd (.dK (mT s'.D)) a=none->H a=none:=λ{a} e=>by
   cases q:H a with
   |none=>rfl
   |some u=>rwa[U _ _ q]at e
  generalize upd H2 s'.dd (.dK (mT s'.D))=H3 at *;clear h2 L o3 o1 c2 d2 nl ak free c1 s1;intro G a0;let f4:=f3 a0;let s4:=au (X:=.dK []) a0;let a3:G≠b.dr:=λe=>(by rwa[e,ho]at f4);show#[0,b.dr,c.CD,dx,0,s4 _ _ (U _ _ ho),20,NZ kd,?_];rw[OS kd];let o5:Off (· = b.dr) H (upd (upd H3 G (.dK [])) b.dr (.ins c.CD dx (f2 "disk" "drafted" (.ref b.p) (.ref G)))):=λa u e z=>(by rw[ay z];show s4 _ _ (U _ _ e));let a4:ch≠b.dr:=λe=>(by rwa[e,ho]at Z);let h5:upd (upd H3 G (.dK [])) b.dr (.ins c.CD dx (f2 "disk" "drafted" (.ref b.p) (.ref G))) ch^^^(mT (s'.D.filter (se s'))):=(by rw[ay a4];show s4 _ _ h3);let e5:upd (upd H3 G (.dK [])) b.dr (.ins c.CD dx (f2 "disk" "drafted" (.ref b.p) (.ref G))) G^^^[]:=(by rw[ay a3,ag]);let r5:upd (upd H3 G (.dK [])) b.dr (.ins c.CD dx (f2 "disk" "drafted" (.ref b.p) (.ref G))) b.dr=some (.ins c.CD dx (f2 "disk" "drafted" (.ref b.p) (.ref G))):=ag;generalize upd (upd H3 G (.dK [])) b.dr (.ins c.CD dx (f2 "disk" "drafted" (.ref b.p) (.ref G)))=H5 at *;let nr:∀{a xs},H a∣xs->a≠b.dr:=λe z=>(by rwa[z,ho]at e);let#[ac,Y]:=D.ob;let aB:b.p≠b.dr:=λz=>by
   rw[z,ho]at Y;simp only[Xi,HO.ins.injEq]at Y;have:=Y.2.2;rwa[kh kd,fE]at this
  let D5:bI c.C H5 b.p b.bl d .bh false s'.cs s'.bs:=#[#[ac,o5 _ _ Y aB],o5 _ _ D.hb (nr D.hb),iI D.hc λa _ ns q=>#[o5 _ _ q.1 (nr q.1),q.2]];let aT:∀(ar:qAc)(a1:List (List Int)),(∀y∈ar,y∈s'.cs\/H y=none)->∀a,jZ b #[G,ar,a1,[]] a->jZ b s' a\/H a=none:=λar a1 hc a z=>by
   rcases z with z|z|z|z|z|⟨x,I,_⟩
   .show .inl (.inl z)
   .show .inl (.inr (.inl z))
   .show .inl (.inr (.inr (.inl z)))
   .show .inr (by rw[z];show f4)
   .show(hc a z).imp (λy=>.inr (.inr (.inr (.inr (.inl y))))) id
   .cases I
  let ad:∀{α:Type}{p:Int×α->Prop},∀x∈([]:List (Int×α)),p x:=λx I=>(by cases I);dsimp only;show Bs λQQ ji je=>?_;show#[0,ch,0,h5,19];let lk:(mT (s'.D.filter (se s'))).9=(s'.D.filter (se s')).9:=(by unfold mT dk;rw[dM]);cases z:(0:Int)<((mT (s'.D.filter (se s'))).9:Int)
  .rw[zA1 z];show ji _ ?_;show#[70,rfl,r5,T.cl,T.nK,cF kd,0,b.p,b.bl,ch,d,s'.cs,s'.bs,s'.D.filter (se s'),rfl,D5,by have:=B.ln;omega,B.ln.2,#[h5,λx I=>?_,?_,λx I=>B.rg x (WA.mp I).1,av,ld],λH6 d6 a2 aj D6 l6 e6 z6 c6 o6=>?_]
   .let q:=B.hr x (WA.mp I).1;show#[o5 _ _ q.1 (nr q.1),q.2]
   .show ZO ((Ya).map _) B.nd
   .let a5:∀{a u},H5 a=some u->(∀C dx fs,u≠.ins C dx fs)->(∀xs,u≠.lst xs)->H6 a=some u:=λ{a u} e n1 n2=>o6 _ _ e λy=>by
     rcases y with y|y
     .rw[y]at e;let#[_,q]:=D5.ob;rw[q]at e;show n1 _ _ _ (OR e).6
     .rw[y,D5.hb]at e;show n2 _ (OR e).6
    let f5:∀{a},H5 a=none->H a=none:=λ{a} e=>by
     cases q:H a with
     |none=>rfl
     |some u =>
      cases y:a=b.dr
      .rw[y,r5]at e;cases e
      .rw[o5 _ _ q y]at e;cases e
    show k H6 #[G,a2,aj,[]] #[#[dx,o6 _ _ r5 λy=>?_],#[d6,D6],a5 e5 nofun nofun,ad,.nil,ad,by change 48<=aj.9/\_;rw[l6];show B.ln,z6] rfl (λj hj=>?_) l6 #[λa u e y=>?_,aT _ _ λy hy=>(c6 y hy).imp id f5]
    .rcases y with y|y
     .show aB y.6
     .show nr D.hb y.6
    .let q:=e6 j.5 av;rw[Zt av,xR B.nd]at q;change((look ([]:Hl) j).map (·.2)).or aj[j.5]?=_;rw[nj,map_none,none_or,q];unfold lb;cases e:look s'.D j with
     |none=>rfl
     |some x =>
      rw[ZA];cases y:se s' (j,x)=true
      .rw[acW y]
      .rw[acV y,map_none,none_or,acH,some_or];show ab1.mp λw=>y (zA1 w)
    .show o6 _ _ (o5 _ _ e λw=>y (.inl w)) λw=>y ?_;rcases w with w|w
     .show .inr (.inl w)
     .show .inr (.inr (.inl w))
  .rw[zA2 z];show je _ ?_;show k H5 #[G,s'.cs,s'.bs,[]] #[#[dx,r5],#[d,D5],e5,ad,.nil,ad,B.ln,B.z0] rfl (λj _=>?_) rfl #[λa u e y=>o5 _ _ e λw=>y (.inl w),aT _ _ λy hy=>.inl hy];change((look ([]:Hl) j).map (·.2)).or s'.bs[j.5]?=_;unfold lb;rw[nj,map_none,none_or];cases e:look s'.D j with
   |none=>rfl
   |some x =>
    rw[acH,some_or];show ab1.mp λw=>?_;let m:(j,x)∈s'.D.filter (se s'):=WA.mpr #[d7 e,zA1 w];have:=List.length_pos_of_mem m;omega
end Fs
namespace L2
open PySem PySem.Spec PyProof.Rows
theorem fZ{X:Cx}{x:Str}{v:V}{pos:XU}(h:∃u,X.mg x=some u/\RelV v u)(F:Gl X x:=by rfl)(hd:(x==("__debug__" : Str))=false:=by decide):PE X (.Name x pos) (tC v):=by
 let#[u,m,r]:=h;show i5 F m r hd
theorem cX.up{K:Wa}{a:zB0}{xs:qAf}(h:cX K (λ_=>none) a xs)(H:Hp):cX K H a xs:=by
 rcases h with h|h
 .rcases h with h|⟨_,h⟩<;>cases h
 .show .inr h
variable{ws:qAa}{s:Nat}
theorem pR{n:Nat}:d8 (ws.map V.int) (some (s:Int)) (some ((s:Int)+(n:Int)))=((ws.drop s).take n).map V.int:=by
 unfold d8;rw[show((s:Int)+(n:Int))=((s+n:Nat):Int)by omega,HT.kW,HT.kW,dM, <-ab0, <-aa0];show congrArg (aaW V.int) ?_;cases h:s<=ws.9
 .rw[Zk h];cases h2:s+n<=ws.9
  .rw[Zk h2,Nat.add_sub_cancel_left]
  .rw[YS av,V6 (by rw[WC];omega),V6 (by rw[WC];omega)]
 .rw[YS (show ws.9<=s by omega),Xb (G0 _),Xb (show ws.9<=s by omega),aa1,aa1]
theorem jm:d8 (ws.map V.int) none (some (s:Int))=(ws.take s).map V.int:=by
 unfold d8;rw[HT.kW,HT.mU,Ym,Nat.sub_zero,dM, <-aa0];show congrArg (aaW V.int) ?_;cases h:s<=ws.9
 .rw[Zk h]
 .rw[YS av,V6 (G0 _),V6 av]
theorem iW:d8 (ws.map V.int) (some (s:Int)) none=(ws.drop s).map V.int:=by
 unfold d8;rw[HT.kW,HT.mU,dM, <-ab0, <-aa0];show congrArg (aaW V.int) ?_;cases h:s<=ws.9
 .rw[Zk h,V6 (by rw[WC];omega)]
 .rw[YS av,Xb (G0 _),Xb av,aa1]
end L2
namespace Fs
open PySem L2 Dk Tb
structure Node where
 dir:Bool
 ln:Int
 cs:List Int
abbrev NS:=Int->Option Node
noncomputable def fill(xs:qAa)(m:Nat):List Int:=xs++TN (m-xs.9) 0
noncomputable def rb(n:Int):Int:=28+8*n/16
noncomputable def rs(n:Int):Nat:=(8*n%16).5
structure mJ(K:Wa)(mg:qa3)(CN:zB0):Prop where
 cl:qa K CN
 nD:dj K CN "draft"
 nT:dj K CN "total"
 cC:∃u,mg "BLOCK_NUMBERS" = some u/\RelV (.int 16) u
 pC:∃u,mg "NODES" = some u/\RelV (.int 24) u
 yP:∃u,mg "FIRST_ROWS" = some u/\RelV (.int 28) u
 iQ:∃u,mg "FIRST_CONTENTS" = some u/\RelV (.int 48) u
 fz:∃u,mg "ROW_NUMBERS" = some u/\RelV (.int 8) u
 gJ:∃u,mg "ROW_BLOCKS" = some u/\RelV (.int 5) u
 gb:∃u,mg "NEAR_BLOCKS" = some u/\RelV (.int 4) u
 KN:∃a,(∃u,mg "KINDS" = some u/\RelV (.ref a) u)/\cX K (λ_=>none) a [.bh,.str "file",.str "dir"]
 KT:∀a,(∃u,mg "KINDS" = some u/\RelV (.ref a) u)->∃o,K.lookup a=some o/\o.cls=.type "tuple" /\ o.dict=none
 len:mg "len" = none
 range:mg "range" = none
 enumerate:mg "enumerate" = none
def kn:¬ (("draft" : Str) = "total"):=aF
structure NO(c:DA)(CN:zB0)(H:Hp)(a:zB0)(b:BA)(s:BS)(aC:Nat):Prop where
 ob:∃dx,H a=some (.ins CN dx (f2 "draft" "total" (.ref b.dr) (.int aC)))
 B:ve c H b s
 tt:s.bs.9=48+aC
variable{c:DA}{CN:zB0}{H H':Hp}{s:BS}{aC:Nat}
theorem NO.same{a:zB0}{b:BA}(A:NO c CN H a b s aC)(o:aO H H'):NO c CN H' a b s aC:=by
 let#[dx,h]:=A.ob;show#[#[dx,o _ _ h],A.B.same o,A.tt]
variable{n:Int}
def rB(F:0<=n)(h1:n<24):28<=rb n/\rb n<40/\rs n+8<=16:=by unfold rb rs;omega
inductive HD(v:qAf)(H:Hp)(Q:VK)(e:XK):Prop
 |mk(a:zB0)(n:Int)(_:v=[.ref a,.int n])(_:Q (.int (rb n)) H)
inductive jc(c:DA)(CN:zB0)(v:qAf)(H:Hp)(Q:VK)(e:XK):Prop
 |mk(a:zB0)(b:BA)(s:BS)(aC:Nat)(n:Int)(r:qAa)(_:v=[.ref a,.int n])(_:NO c CN H a b s aC)(_:0<=n)(_:n<24)(_:lb s (rb n)=some r)(_:∀(H':Hp)(l:zB0),aO H H'->H l=none->H' l∣(((r.drop (rs n)).take 8).map V.int)->Q (.ref l) H')
inductive og(v:qAf)(H:Hp)(Q:VK)(e:XK):Prop
 |mk(l:zB0)(xs:qAa)(m:Nat)(_:v=[.ref l,.int m])(_:H l∣(xs.map V.int))(_:m<=1000)(_:xs.9<=1000)(_:∀(H':Hp)(q:zB0),aO H H'->H q=none->H' q∣((fill xs m).map V.int)->Q (.ref q) H')
noncomputable def jY(r row:qAa)(st:Nat):List Int:=r.take st++row++r.drop (st+8)
def SW{p:Prop}[Decidable p]{a b:Nat}(h:a<=b+(if p then 0 else 1)):a<=b+1:=WK h (by split<;>omega)
inductive jq(c:DA)(CN:zB0)(v:qAf)(H:Hp)(Q:VK)(e:XK):Prop
 |mk(a:zB0)(b:BA)(s:BS)(aC:Nat)(n k ln sz:Int)(l:zB0)(xs r:qAa)(_:v=[.ref a,.int n,.int k,.int ln,.int sz,.ref l])(_:NO c CN H a b s aC)(_:0<=n)(_:n<24)(_:lb s (rb n)=some r)(_:H l∣(xs.map V.int))(_:xs.9<=5)(_:∀(H':Hp)(s':BS),NO c CN H' a b s' aC->(∀j,lb s' j=if j=rb n then some (jY r ([k,ln,sz]++fill xs 5) (rs n))else lb s j)->dn s'<=dn s+(if lb s (rb n)=some (jY r ([k,ln,sz]++fill xs 5) (rs n))then 0 else 1)->dJ b s H s' H'->Q .bh H')
abbrev R4:Wo:=inClass (top 41) 12
abbrev Uk:Wo:=inClass (top 41) 10
abbrev Sw:Wo:=inClass (top 41) 11
abbrev TZ:Wo:=top 40
def R1:aA ["self","n"] ["self","n"] (ax R4):=L2.bg
variable{P:BY}{w:Oi}{K:Wa}{mg:qa3}{base:Heap}{f:zB0}{fd:DO}
theorem IG(F:b4 K "block_of_row" "Nodes.block_of_row" R4 f fd)(T:mJ K mg CN):↥aU 1 f fd ["self","n"] HD:=by
 show F.dg R1 ?_;intros;let#[a,n,rfl,k]:=h;show#[_,%[0,0,b,p,B,T.yP,bq,nR,a9,cG,1,cf|9],?_];show#[0,92,6,#[aE,aE],6,k]
def Sy:aA ["numbers","many"] ["numbers","many"] (ax TZ):=L2.bg
theorem JG(F:b4 K "filled" "filled" TZ f fd)(T:mJ K mg CN):↥aU 1 f fd ["numbers","many"] og:=by
 show F.dg Sy ?_;intros;let#[l,xs,m,rfl,U,hm,hx,k]:=h;let hs:=DD;show#[_,%[0,0,b,M,0,cc,C,aI,aO,1,l,q|9],?_];show#[0,aE,λq1 h1=>?_];let Y:=au (X:=.lst [V.int 0]) h1;show#[0,0,l,0,.inl (a9.of (Y _ _ U)),6,q1,6,ag,5,?_,λq2 h2=>?_]
 .rw[dM];omega
 .rw[dM];omega
 .rw[dM,NC];omega
 let e:((m:Int)-((xs.map V.int).9:Nat)).5=m-xs.9:=(by rw[dM];omega);rw[rep1,e];exists h2,(.lst (TN (m-xs.9) (V.int 0))),sN,e2,H2;let I:=Y.trans sN;show#[l,q2,6,I _ _ U,e2,129,λL G=>?_];let Z:H L=none:=by
  cases q:H L with
  |none=>rfl
  |some u=>rwa[I _ _ q]at G
 show k _ L (I.trans (au G)) Z ?_;rw[ag];unfold fill;rw[yl,Yl]
def Pj:aA ["self","n","start"] ["self","n"] (ax Uk):=L2.bg
theorem FK(F:b4 K "row_of" "Nodes.row_of" Uk f fd)(T:mJ K mg CN)(Z:Fl K mg c)(GB:↥Md 1 CN "block_of_row" HD)(GD:↥Md 3 c.CD "read" (kX c)):↥aU 4 f fd ["self","n"] (jc c CN):=by
 show F.dg Pj ?_;intros;let#[a,b,s',aC,n,r,rfl,N,n0,n1,L,k]:=h;let#[dx,ho]:=N.ob;let#[aa,h2]:=N.B.ob;let rg:=rB n0 n1;let ln:=N.B.ln;show#[_,%[Pj,hr,Q,cg,a9,cG,1,cf,b,w,ae,u,c4,GD,a,ag,GB,e,D,2,D,p,2,cG|9],?_]
 show#[0,92,6,(qAi 15),?_];show#[23,ho,42,aa,0,h2,11,a,dx,0,ho,11,a,n,rfl,b,s',rb n,r,rfl,N.B,av,L,av,λH1 l I _ Y=>?_];show#[0,8*n%16,rfl,0,6,8*n%16+8,rfl,l,0,a9.of Y,λq G=>?_];let ec:d8 (r.map V.int) (some (8*n%16)) (some (8*n%16+8))=((r.drop (rs n)).take 8).map V.int:=by
  have:8*n%16=((rs n:Nat):Int):=(by unfold rs;omega);rw[this];show pR (n:=8)
 rw[ec];let U:H q=none:=by
  cases e:H q with
  |none=>rfl
  |some u=>rwa[I _ _ e]at G
 show k _ q (I.trans (au G)) U ag
def a8(s:aO H H'){a:zB0}(h:H' a=none):H a=none:=by
 cases e:H a with
 |none=>rfl
 |some u=>rwa[s _ _ e]at h
def dQ{xs:qAa}{m:Nat}(h:xs.9<=m):(fill xs m).9=m:=by
 unfold fill;rw[ti,WM];omega
variable{r row:qAa}{st:Nat}
def Eo(h1:r.9=16)(h2:row.9=8)(F:st+8<=16):(jY r row st).9=16:=by
 unfold jY;rw[ti,ti,IF,WC];omega
theorem dJ.pre{b:BA}{s':BS}{H1:Hp}(o:aO H H1)(st:dJ b s H1 s' H'):dJ b s H s' H':=#[λa u e z=>st.1 a u (o _ _ e) z,λa z=>(st.2 a z).imp id (a8 o)]
inductive vv(c:DA)(CN:zB0)(vs:qAf)(H:Hp)(Q:VK)(e:XK):Prop
 |mk(a:zB0)(b:BA)(s:BS)(aC:Nat)(n:Int)(_:vs=[.ref a,.int n])(_:NO c CN H a b s aC)(_:(n<0\/24<=n->Q .bh H))(_:(0<=n->n<24->∃(r:qAa)(k:Int)(v:V),lb s (rb n)=some r/\r[rs n]?=some k/\0<=k/\k<3/\[V.bh,.str "file",.str "dir"][k.5]?=some v/\∀H',aO H H'->Q v H'))
inductive lE(i:Nat)(c:DA)(CN:zB0)(v:qAf)(H:Hp)(Q:VK)(e:XK):Prop
 |mk(a:zB0)(b:BA)(s:BS)(aC:Nat)(n:Int)(r:qAa)(k:Int)(_:v=[.ref a,.int n])(_:NO c CN H a b s aC)(_:0<=n)(_:n<24)(_:lb s (rb n)=some r)(_:r[rs n+i]?=some k)(_:∀H',aO H H'->Q (.int k) H')
inductive me(c:DA)(CN:zB0)(v:qAf)(H:Hp)(Q:VK)(e:XK):Prop
 |mk(a:zB0)(b:BA)(s:BS)(aC:Nat)(n:Int)(r:qAa)(_:v=[.ref a,.int n])(_:NO c CN H a b s aC)(_:0<=n)(_:n<24)(_:lb s (rb n)=some r)(_:∀(H':Hp)(s':BS),NO c CN H' a b s' aC->(∀j,lb s' j=if j=rb n then some (jY r (TN 8 0) (rs n))else lb s j)->dn s'<=dn s+(if lb s (rb n)=some (jY r (TN 8 0) (rs n))then 0 else 1)->dJ b s H s' H'->Q .bh H')
inductive vf(c:DA)(CN:zB0)(v:qAf)(H:Hp)(Q:VK)(e:XK):Prop
 |mk(a:zB0)(b:BA)(s:BS)(aC:Nat)(n m:Int)(r:qAa)(k l z:Int)(xs:qAa)(_:v=[.ref a,.int n,.int m])(_:NO c CN H a b s aC)(_:0<=n)(_:n<24)(_:lb s (rb n)=some r)(_:(r.drop (rs n)).take 8=[k,l,z]++xs)(_:xs.9=5)(_:∀(H':Hp)(s':BS),NO c CN H' a b s' aC->(∀j,lb s' j=if j=rb n then some (jY r ([k,m,z]++xs) (rs n))else lb s j)->dn s'<=dn s+1->dJ b s H s' H'->Q .bh H')
abbrev Sl:Wo:=inClass (top 41) 1
abbrev RW:Wo:=inClass (top 41) 2
abbrev Tn:Wo:=inClass (top 41) 3
abbrev Tu:Wo:=inClass (top 41) 6
abbrev Uv:Wo:=inClass (top 41) 7
theorem yn{i:Nat}{k:Int}(h:r[st+i]?=some k)(hi:i<8):mv (((r.drop st).take 8).map V.int) (i:Int)=some (.int k):=aL (by
 rw[LW,Xq,acW hi,XM,h];rfl)
theorem IZ:aA ["self","n","kind","links","size","blocks","start","rows","row"] ["self","n","kind","links","size","blocks"] (ax Sw):=L2.bg
theorem B6(F:b4 K "put_row" "Nodes.put_row" Sw f fd)(T:mJ K mg CN)(TD:Fl K mg c)(GB:↥Md 1 CN "block_of_row" HD)(GD:↥Md 3 c.CD "read" (kX c))(GW:↥Md 1 c.CD "write" (mL K c))(GF:↥Df 1 "filled" og):↥aU 4 f fd ["self","n","kind","links","size","blocks"] (jq c CN):=by
 show F.dg IZ ?_;intros;let#[a,b,s',aC,n,L,ln,sz,l,xs,r,rfl,N,n0,n1,hl,hx,lx,k]:=h;let#[dx,ho]:=N.ob;let#[aa,h2]:=N.B.ob;let rg:=rB n0 n1;let bl:=N.B.ln;let hs:=DD;let lr:=N.B.row hl;let e8:8*n%16=((rs n:Nat):Int):=(by unfold rs;omega);show#[_,%[IZ,hr,O,6,cg,a9,cG,1,cf,O,7,ae,cP,GD,a,ag,GB,e,O,8,M,C,ba,d,3,ah,c,GF,d,5,a,cQ,j,ae,cP,GW,d,ag,GB,e,a,M,M,w,7,aQ,6,8,w,7,D,p,6,cG,bM|9],?_]
 show fj λ_ G=>?_;show#[0,92,6,(qAi 15),G _ _ ?_];clear G;show fj λ_ G=>?_;show#[23,ho,42,aa,0,h2,11,a,dx,0,ho,11,a,n,rfl,b,s',rb n,r,rfl,N.B,av,hl,av,λH1 l1 s1 _ e1=>G _ _ ?_];clear G;show fj λ_ G=>?_;show#[0,0,0,Ue,λl2 ad=>?_];exists ad,(.lst [V.int L,V.int ln,V.int sz]),I,e2,H2;let s2:=s1.trans I;let e2:H2 l2∣([L,ln,sz].map V.int):=e2;let d2:=I _ _ e1;show#[0,l,xs,(5),rfl,s2 _ _ hx,aE,av,λH3 l3 Y _ e3=>?_];show#[l2,l3,6,Y _ _ e2,e3,by rw[dM,dM,dQ lx];change 3+5<=sizeLine;omega,λl4 f4=>G _ _ ?_];clear G;rw[<-yl];exists f4,(.lst (([L,ln,sz]++fill xs 5).map V.int)),I,e4,H4;let U:=(s2.trans Y).trans I;let d4:=I _ _ (Y _ _ d2);let ab:([L,ln,sz]++fill xs 5).9=8:=(by rw[ti,dQ lx];rfl);generalize [L,ln,sz]++fill xs 5=row at *;show wY λQQ G=>?_;show#[23,U _ _ ho,42,aa,0,U _ _ h2,11,a,dx,0,U _ _ ho,11,a,n,3];show#[0,0,8*n%16,rfl,l1,0,a9.of d4,λl5 f5=>?_];rw[show d8 (r.map V.int) none (some (8*n%16))=(r.take (rs n)).map V.int by rw[e8];show jm];exists f5,(.lst ((r.take (rs n)).map V.int)),s5,e5,H5;show#[0,l5,l4,6,e5,s5 _ _ e4,120,λl6 f6=>?_];rw[<-yl];exists f6,(.lst ((r.take (rs n)++row).map V.int)),s6,e6,H6;show#[0,0,6,8*n%16+8,rfl,l1,0,a9.of (s6 _ _ (s5 _ _ d4)),λl7 f7=>?_];rw[show d8 (r.map V.int) (some (8*n%16+8)) none=(r.drop (rs n+8)).map V.int by
  rw[e8,show((rs n:Nat):Int)+8=((rs n+8:Nat):Int)by omega];show iW]
 exists f7,(.lst ((r.drop (rs n+8)).map V.int)),s7,e7,H7;show#[l6,l7,6,s7 _ _ e6,e7,by rw[dM,dM,ti,IF,WC];omega,λl8 f8=>?_];rw[<-yl];exists f8,(.lst ((r.take (rs n)++row++r.drop (rs n+8)).map V.int)),I,Z,H8;let S8:=(((U.trans s5).trans s6).trans s7).trans I;let Z:H8 l8∣((jY r row (rs n)).map V.int):=Z;show#[b,s',rb n,l8,jY r row (rs n),rfl,(N.same S8).B,av,av,a9.of Z,Eo lr ab rg.2.2,λH9 D9 B9 g9 _ o9 ac aj=>G _ _ ?_];let na:a≠s'.dd:=λe=>(by have:=N.B.hd;rwa[<-e,ho]at this);show k H9 _ #[#[dx,o9 _ _ (S8 _ _ ho) na],B9,N.tt] g9 aj (ac.pre S8)
def UZ:aA ["self","n"] ["self","n"] (ax Sl):=L2.bg
theorem BC(F:b4 K "kind_of" "Nodes.kind_of" Sl f fd)(T:mJ K mg CN)(GO:↥Md 4 CN "row_of" (jc c CN)):↥aU 5 f fd ["self","n"] (vv c CN):=by
 let#[aK,mK,hK]:=T.KN;show F.dg UZ ?_;intros;let#[a,b,s',aC,n,rfl,N,L,kS]:=h;let#[dx,ho]:=N.ob;show#[_,%[0,hr,bb,bw,H,sR,1,r,bK,H,DW,1,cR,s,cu,b,dY,bt,B,mK,aJ,ag,GO,e,bD|9],?_]
 show HJ λQQ G je=>?_;show#[0,19];show cQ (λz=>G _ (L (.inl (zA0 z)))) (λz=>?_);show#[0,19];show UM (λy=>G _ (L (.inr (zA0 y)))) (λy=>je _ ?_);let#[r,I,v,U,hk,k0,_,Y,q]:=kS av av;show#[33,N,av,av,U,λH1 l s1 _ Z=>?_];show#[l,_,(0),.int I,1,a9.of Z,yn (i:=0) hk aE,aK,_,I,v,1,hK.up _,?_,q _ s1];rw[<-Zt k0];show aL Y
def Vg:aA ["self","n"] ["self","n"] (ax RW):=L2.bg
theorem yq(F:b4 K "links_of" "Nodes.links_of" RW f fd)(T:mJ K mg CN)(L:↥Md 4 CN "row_of" (jc c CN)):↥aU 5 f fd ["self","n"] (lE 1 c CN):=by
 show F.dg Vg ?_;intros;let#[a,b,s',aC,n,r,U,rfl,N,Y,n1,G,hk,k]:=h;let#[dx,ho]:=N.ob;show#[_,%[0,hr,b,aJ,ag,L,e|9],?_];show#[33,N,Y,n1,G,λH1 l Z _ I=>#[l,_,(1),.int U,1,a9.of I,yn (i:=1) hk aE,k _ Z]]
def SJ:aA ["self","n"] ["self","n"] (ax Tn):=L2.bg
theorem CT(F:b4 K "size_of" "Nodes.size_of" Tn f fd)(T:mJ K mg CN)(L:↥Md 4 CN "row_of" (jc c CN)):↥aU 5 f fd ["self","n"] (lE 2 c CN):=by
 show F.dg SJ ?_;intros;let#[a,b,s',aC,n,r,U,rfl,N,Y,n1,G,hk,k]:=h;let#[dx,ho]:=N.ob;show#[_,%[0,hr,b,aJ,ag,L,e|9],?_];show#[33,N,Y,n1,G,λH1 l Z _ I=>#[l,_,(2),.int U,1,a9.of I,yn (i:=2) hk aE,k _ Z]]
def Tz:aA ["self","n"] ["self","n"] (ax Tu):=L2.bg
theorem zb(F:b4 K "end_node" "Nodes.end_node" Tu f fd)(T:mJ K mg CN)(GP:↥Md 4 CN "put_row" (jq c CN)):↥aU 5 f fd ["self","n"] (me c CN):=by
 show F.dg Tz ?_;intros;let#[a,b,s',aC,n,r,rfl,N,n0,n1,I,k]:=h;let#[dx,ho]:=N.ob;show#[_,%[0,hr,j,ag,GP,J,bO,bO,bO,a,aC|9],?_];show#[21,ho,11,aE,λl hf=>?_];let G:=au (X:=.lst []) hf;show#[76,n,36,(0),l,[],r,rfl,N.same G,n0,n1,I,ag,aE,λH' U L g2 Y Z=>k H' U L g2 Y (Z.pre G)]
def QY:aA ["self","n","links","row"] ["self","n","links"] (ax Uv):=L2.bg
theorem xq(F:b4 K "put_links" "Nodes.put_links" Uv f fd)(T:mJ K mg CN)(GO:↥Md 4 CN "row_of" (jc c CN))(GP:↥Md 4 CN "put_row" (jq c CN)):↥aU 5 f fd ["self","n","links"] (vf c CN):=by
 show F.dg QY ?_;intros;let#[a,b,s',aC,n,m,r,G,L,z,xs,rfl,N,n0,n1,U,ab,lx,k]:=h;let#[dx,ho]:=N.ob;show#[_,%[QY,hr,aY,ag,GO,e,j,ag,GP,J,d,aJ,3,ba,d,aJ,3,a,w,3,D,aO,cG,cQ,bM|9],?_]
 show fj λ_ Z=>?_;show#[33,N,n0,n1,U,λH1 l s1 _ I=>Z _ _ ?_];clear Z;rw[ab]at I;let i0:mv (([G,L,z]++xs).map V.int) 0=some (.int G):=aL (j:=0) rfl;let i2:mv (([G,L,z]++xs).map V.int) 2=some (.int z):=aL (j:=2) rfl;show#[21,s1 _ _ ho,11,0,l,_,(0),.int G,1,a9.of I,i0,0,0,l,_,(2),.int z,1,a9.of I,i2,0,6,(3),rfl,l,0,a9.of I,λl2 aa=>?_];rw[show d8 (([G,L,z]++xs).map V.int) (some 3) none=xs.map V.int from iW (s:=3)];let Y:=s1.trans (au (X:=.lst (xs.map V.int)) aa);show#[76,n,G,m,z,l2,xs,r,rfl,N.same Y,n0,n1,U,ag,av,λH' s3 N3 g3 d3 ac=>k H' s3 N3 (λj=>?_) (SW d3) (ac.pre Y)];rw[g3 j,show fill xs 5=xs by unfold fill;rw[lx];show Wt _]
def nb(k:Nat):Nat:=(k+15)/16
noncomputable def bf(k:Nat):Nat:=if 4<nb k then nb k+1 else nb k
noncomputable def cb(b:qAa):List Int:=b.take 4++b.drop 5
noncomputable def ch(cs:qAa)(k:Nat):List Int:=fill ((cs.drop (16*k)).take 16) 16
def qW(cs:qAa)(k:Nat):(ch cs k).9=16:=dQ (by rw[IF];omega)
def JM(cs:qAa)(k:Nat):ch cs (k+1)=ch (cs.drop 16) k:=by unfold ch;rw[drop_drop,show 16*(k+1)=16+16*k by omega]
theorem VF:∀(m:Nat)(cs:qAa),cs.9<=16*m->(((Wu m).map (ch cs)).11).take cs.9=cs
 |0,cs,h=>by
  have:cs=[]:=Yc av;subst this;rfl
 |m+1,cs,h=>by
  rw[YQ,Wy,WU,XZ];let e:(ch cs∘Nat.succ)=ch (cs.drop 16):=funext λk=>JM cs k;rw[e,XA,qW];let F:(ch cs 0)=fill (cs.take 16) 16:=rfl;cases z:cs.9<=16
  .rw[show cs.9-16=0 by omega,XX,Wt,F,V6 z];unfold fill;rw[XA,V6 (G0 _),X2,XX,Wt]
  .let G:=VF m (cs.drop 16) (by rw[WC];omega);rw[WC]at G;rw[G,V6 (by rw[qW];omega),F];unfold fill;rw[IF,show 16-min 16 cs.9=0 by omega,abk,Wt,Xf]
theorem Ai(cs:qAa):∀i,(((Wu i).map (ch cs)).11).9=16*i
 |0=>rfl
 |i+1=>by
  rw[Ys,yl,Yt,ti,Ai cs i];change _+((ch cs i)++[]).9=_;rw[Wt,qW];omega
variable{b:qAa}{k:Nat}
def Ec(h:b.9=bf k):(cb b).9=nb k:=by
 unfold cb bf at *;rw[ti,IF,WC];split at h<;>omega
noncomputable def vA(x:Option Node)(b:qAa):List Int:=match x with
 |none=>TN 8 0
 |some n=>[if n.dir=true then 2 else 1,n.ln,(n.cs.9:Int)]++fill (b.take 5) 5
noncomputable def wx(x:Option Node):Nat:=match x with
 |none=>0
 |some n=>bf n.cs.9
structure Rep(lb:Int->Option (List Int))(aC:Nat)(N:NS)(bk:qa4):Prop where
 row:∀n,0<=n->n<24->∃r,lb (rb n)=some r/\(r.drop (rs n)).take 8=vA (N n) (bk n)
 len:∀n,(bk n).9=wx (N n)
 Rp:∀(n x:Int),(bk n)[4]?=some x->lb x=some (fill ((bk n).drop 5) 16)
 QF:∀n nd,N n=some nd->∀(k:Nat)(x:Int),(cb (bk n))[k]?=some x->lb x=some (ch nd.cs k)
 rg:∀n x,x∈bk n->48<=x/\x<48+aC
 Hn:∀(n m:Int)(i j:Nat)(x:Int),(bk n)[i]?=some x->(bk m)[j]?=some x->n=m/\i=j
 use:∀n nd,N n=some nd->0<=n/\n<24
 xS:∀n nd,N n=some nd->nd.cs.9<=320
structure NR(c:DA)(CN:zB0)(H:Hp)(a:zB0)(b:BA)(s:BS)(aC:Nat)(N:NS)(bk:qa4)(d:Nat):Prop where
 O:NO c CN H a b s aC
 R:Rep (lb s) aC N bk
 d:dn s<=d
section
variable{c:DA}{CN a:zB0}{H H':Hp}{b:BA}{s s':BS}{aC d:Nat}{N:NS}{bk:qa4}{lb:Int->Option (List Int)}{n:Int}{nd:Node}
theorem NR.same(A:NR c CN H a b s aC N bk d)(o:aO H H'):NR c CN H' a b s aC N bk d:=#[A.O.same o,A.R,A.d]
def KS(h:k<=320):bf k<=21:=by unfold bf nb;split<;>omega
theorem Rep.le(R:Rep lb aC N bk)(n:Int):(bk n).9<=21:=by
 rw[R.len];unfold wx;cases e:N n with
 |none=>show Xr _
 |some nd=>show KS (R.xS n nd e)
def kD(nd:Node)(b:qAa):vA (some nd) b=[if nd.dir=true then 2 else 1,nd.ln,(nd.cs.9:Int)]++fill (b.take 5) 5:=rfl
theorem I0(x:Option Node){b:qAa}(h:x=none->b=[]):∃k l,vA x b=[k,l,(match x with|none=>0|some n=>(n.cs.9:Int))]++fill (b.take 5) 5:=by
 cases x with
 |none=>rw[h rfl];show#[36,rfl]
 |some n=>show#[_,0]
theorem Rep.none(R:Rep lb aC N bk)(h:N n=none):bk n=[]:=by
 have:=R.len n;rw[h]at this;show Yc this
end
inductive sv(v:qAf)(H:Hp)(Q:VK)(e:XK):Prop
 |mk(k:Nat)(_:v=[.int k])(_:Q (.int (bf k)) H)
inductive HA(v:qAf)(H:Hp)(Q:VK)(e:XK):Prop
 |mk(a l:zB0)(b:qAa)(_:v=[.ref a,.ref l])(_:H l∣(b.map V.int))(_:b.9<=1000)(_:∀(H':Hp)(q:zB0),aO H H'->H q=none->H' q∣((cb b).map V.int)->Q (.ref q) H')
inductive FN(c:DA)(CN:zB0)(v:qAf)(H:Hp)(Q:VK)(e:XK):Prop
 |mk(a:zB0)(b:BA)(s:BS)(aC d:Nat)(N:NS)(bk:qa4)(n:Int)(_:v=[.ref a,.int n])(_:NR c CN H a b s aC N bk d)(_:0<=n)(_:n<24)(_:∀(H':Hp)(q:zB0),aO H H'->H q=none->H' q∣((bk n).map V.int)->Q (.ref q) H')
inductive LF(c:DA)(CN:zB0)(v:qAf)(H:Hp)(Q:VK)(e:XK):Prop
 |mk(a:zB0)(b:BA)(s:BS)(aC d:Nat)(N:NS)(bk:qa4)(n:Int)(nd:Node)(_:v=[.ref a,.int n])(_:NR c CN H a b s aC N bk d)(_:N n=some nd)(_:∀(H':Hp)(q:zB0),aO H H'->H q=none->H' q∣(nd.cs.map V.int)->Q (.ref q) H')
abbrev U3:Wo:=top 37
abbrev R7:Wo:=inClass (top 41) 14
abbrev UH:Wo:=inClass (top 41) 13
abbrev RZ:Wo:=inClass (top 41) 4
theorem Pf(I:4<b.9)(G:b.9<=21)(F:b.9≠5):(fill (b.take 5) 5++fill (b.drop 5) 16).take b.9=b:=by
 unfold fill;rw[IF,show 5-min 5 b.9=0 by omega,abk,Wt, <-WI,Xf,XA,V6 (G0 _),X2,XX,Wt]
def Pe(h:¬ 4<b.9):(fill (b.take 5) 5).take b.9=b:=by
 unfold fill;rw[V6 (show b.9<=5 by omega),XA,V6 (G0 _),X2,XX,Wt]
def P7:aA ["size","begun"] ["size"] (ax U3):=L2.bg
theorem ug(F:b4 K "blocks_for" "blocks_for" U3 f fd)(T:mJ K mg CN):↥aU 1 f fd ["size"] sv:=by
 show F.dg P7 ?_;intros;let#[k,rfl,q]:=h;show#[_,%[P7,0,bk,bq,nR,aO,p,0,cf,aw,cf,b,cH,bB,1,cS,s,p,1,aw,1|9],?_]
 show fj λ_ G=>?_;show#[0,_,0,4,58,#[aE,aE],G _ _ ?_];let e:((k:Int)+16-1)/16=((nb k:Nat):Int):=(by unfold nb;omega);rw[e];clear G;show#[0,19];unfold bf at q;cases z:4<nb k
 .rw[acW z]at q;rw[zA1 (show(4:Int)<((nb k:Nat):Int)by omega)];show bU #[0,_,0,3];rw[show((nb k:Nat):Int)+1=((nb k+1:Nat):Int)by omega];show q
 .rw[acV z]at q;rw[zA2 (show ¬ (4:Int)<((nb k:Nat):Int)by omega)];show bA #[0,q]
def Vm:aA ["self","blocks"] ["self","blocks"] (ax R7):=L2.bg
theorem sq(F:b4 K "cell_blocks" "Nodes.cell_blocks" R7 f fd)(T:mJ K mg CN):↥aU 1 f fd ["self","blocks"] HA:=by
 show F.dg Vm ?_;intros;let#[a,l,b,rfl,G,lb,k]:=h;let hs:=DD;show#[_,%[0,0,b,M,w,1,aQ,cS,w,1,D,cQ,bM|9],?_];show#[0,(4),rfl,l,0,56,λq1 f1=>?_];rw[show d8 (b.map V.int) none (some 4)=(b.take 4).map V.int from jm (s:=4)];let Y:=au (X:=.lst ((b.take 4).map V.int)) f1;show#[0,(5),rfl,l,0,a9.of (Y _ _ G),λq2 I=>?_];rw[show d8 (b.map V.int) (some 5) none=(b.drop 5).map V.int from iW (s:=5)];let L:=Y.trans (au (X:=.lst ((b.drop 5).map V.int)) I);show#[q1,q2,6,au (X:=.lst ((b.drop 5).map V.int)) I _ _ ag,ag,by rw[dM,dM,IF,WC];omega,λZ U=>?_];rw[<-yl];show k _ Z (L.trans (au U)) (a8 L U) ag
def Gu:aA ["self","n","row","blocks","many"] ["self","n"] (ax UH):=L2.bg
theorem vW(F:b4 K "blocks_of" "Nodes.blocks_of" UH f fd)(T:mJ K mg CN)(TD:Fl K mg c)(GO:↥Md 4 CN "row_of" (jc c CN))(ak:↥Df 1 "blocks_for" sv)(GD:↥Md 3 c.CD "read" (kX c)):↥aU 5 f fd ["self","n"] (FN c CN):=by
 show F.dg Gu ?_;intros;let#[a,b,s',aC,d,N,bk,n,rfl,G,n0,n1,k]:=h;let hs:=DD;let#[r,hl,aa]:=G.R.row n n0 n1;let#[dx,ho]:=G.O.ob;let#[ad,h2]:=G.O.B.ob;let#[kk,ll,er]:=I0 (N n) (b:=bk n) G.R.none;obtain⟨sz,ac,ab⟩:∃sz:Nat,(match N n with|none=>0|some x=>(x.cs.9:Int))=(sz:Int)/\(bk n).9=bf sz:=by
  have:=G.R.len n;unfold wx at this;cases e:N n with
  |none=>rw[e]at this;show#[(0),rfl,this]
  |some x=>rw[e]at this;show#[0,this]
 rw[ac]at er;rw[er]at aa;let am:=G.R.le n;let l5:(fill ((bk n).take 5) 5).9=5:=dQ (by rw[IF];omega);show#[_,%[Gu,hr,Q,ag,GO,e,aY,w,2,D,aO,cG,cQ,bM,O,4,c,ak,a,aJ,2,f,bB,4,cS,s,k,cI,3,M,3,ae,cP,GD,a,v,3,cS,b,w,3,aQ,4|9],?_]
 show fj λ_ I=>?_;show#[33,G.O,n0,n1,hl,λH1 l1 s1 _ U=>I _ _ ?_];clear I;rw[aa]at U;show fj λ_ I=>?_;show#[0,6,(3),rfl,l1,0,a9.of U,λl2 aj=>I _ _ ?_];clear I;rw[show d8 (([kk,ll,(sz:Int)]++fill ((bk n).take 5) 5).map V.int) (some 3) none=(fill ((bk n).take 5) 5).map V.int from iW (s:=3)];exists aj,(.lst ((fill ((bk n).take 5) 5).map V.int)),sN,Y,H2;let L:=s1.trans sN;let d2:=sN _ _ U;show fj λ_ I=>?_;show#[0,l1,_,(2),.int sz,1,a9.of d2,aL (j:=2) rfl,sz,rfl,I _ _ ?_];clear I;rw[<-ab];let fin:∀(l:zB0)(ys:qAa)(J:Hp),aO H J->J l∣(ys.map V.int)->ys.take (bk n).9=bk n->JH (Vv (HZ K) (fX 3) zS (KQ (fX 4))) { nx:=λ_ H'=>Q .bh H',rt:=Q } #v[.ref a,.int n,.ref l1,.ref l,.int ((bk n).9:Nat)] J:=λl ys J sJ eJ et=>by
  show#[0,0,(((bk n).9:Nat):Int),rfl,l,0,a9.of eJ,λq fq=>?_];rw[jm,et];show k _ q (sJ.trans (au fq)) (a8 sJ fq) ag
 show HJ λQQ ji je=>?_;show#[0,19];cases z:4<(bk n).9
 .rw[zA1 (show(4:Int)<(((bk n).9:Nat):Int)by omega)];show ji _ ?_;let e4:(bk n)[4]?=some ((bk n)[4]'z):=y0 z;let fr:=G.R.Rp n _ e4;let rg:=G.R.rg n ((bk n)[4]'z) (Xo z);let tt:=G.O.tt;let i4:mv ((fill ((bk n).take 5) 5).map V.int) 4=some (.int ((bk n)[4]'z)):=aL (j:=4) (by
   unfold fill;rw[LW,Wj (by rw[IF];omega),Xq,acW av,e4];rfl)
  show fj λ_ I=>?_;show#[0,23,L _ _ ho,42,ad,0,L _ _ h2,11,l2,_,(4),0,rfl,a9.of Y,i4,b,s',_,0,(G.O.same L).B,av,fr,av,λH3 l3 Z _ e3=>?_];show#[l2,l3,6,Z _ _ Y,e3,by rw[dM,dM,l5,dQ (by rw[WC];omega)];omega,λl4 f4=>I _ _ ?_];rw[<-yl];show fin l4 _ _ ((L.trans Z).trans (au f4)) ag (Pf z am ?_);intro w;rw[ab]at w;unfold bf nb at w;split at w<;>omega
 .rw[zA2 (show ¬ (4:Int)<(((bk n).9:Nat):Int)by omega)];show je _ ?_;show fin l2 _ _ L Y (Pe z)
def Mv:aA ["self","n","cells","block"] ["self","n"] (ax RZ):=L2.bg
theorem yH(F:b4 K "cells_of" "Nodes.cells_of" RZ f fd)(T:mJ K mg CN)(TD:Fl K mg c)(am:↥Md 5 CN "blocks_of" (FN c CN))(ak:↥Md 1 CN "cell_blocks" HA)(GD:↥Md 3 c.CD "read" (kX c))(GS:↥Md 5 CN "size_of" (lE 2 c CN)):↥aU 6 f fd ["self","n"] (LF c CN):=by
 show F.dg Mv ?_;intros;let#[a,b,s',aC,d,N,bk,n,nd,rfl,G,I,k]:=h;let hs:=DD;let#[n0,n1]:=G.R.use n nd I;let#[dx,ho]:=G.O.ob;let#[aj,h2]:=G.O.B.ob;let no:∀m:Str,¬ m = "total" -> ¬ m = "draft" -> (f2 "draft" "total" (.ref b.dr) (.int aC)).lookup m=none:=λm=>bJ;let aT:=G.R.le n;let l3:=G.R.xS n nd I;let ad:(cb (bk n)).9=nb nd.cs.9:=Ec (by rw[G.R.len n,I];rfl);let aK:nb nd.cs.9<=20:=(by unfold nb;omega);show#[_,%[Mv,hr,Q,aC,aL,cd,ag,ak,a,ag,am,e,av,3,j,be,Y7,Y8,kP,2,a,ae,cP,GD,Y,b,w,2,aQ,ag,GS,e|9],?_]
 show fj λ_ Y=>?_;show#[aE,λl1 f1=>Y _ _ ?_];clear Y;exists f1,(.lst []),s1,e1,H1;show#[21,s1 _ _ ho,59,21,s1 _ _ ho,59,0,76,d,N,bk,n,rfl,G.same s1,n0,n1,λH2 l2 s2 ap e2=>?_];show#[a,l2,bk n,rfl,e2,av,λH3 ab s3 f3 e3=>#[ab,rfl,#[_,38],?_]];let S3:=s2.trans s3;let as:ab≠l1:=λe=>(by rwa[e,s2 _ _ e1]at f3);let ar:=S3 _ _ e1;let sH:aO H H3:=s1.trans S3;clear e2 ap s2 s3;show gp (K:=K) (a:=ab) (xs:=(cb (bk n)).map V.int) (λi σ J=>∃v3:Option V,Hj (σ=#v[.ref a,.int n,.ref l1,v3]) (J l1∣((((Wu i).map (ch nd.cs)).11).map V.int)) (Off (· = l1) H3 J) (i<=nb nd.cs.9)) #[0,ar,96,Xr _] (λi σ J _ z=>by let#[_,_,_,o,_]:=z;show a9.of (o _ _ e3 as)) ?_ ?_
 .rintro i x σ J hx ⟨v3,rfl,L,Z,hi⟩;rw[LW]at hx;let#[y,hy,rfl]:=HC.mp hx;let aP:=(u4.mp hy).1;let cl:=G.R.QF n nd I i y hy;let ym:y∈bk n:=by
   have:=L1 hy;unfold cb at this;rcases Wf.mp this with w|w
   .show WY w
   .show XH w
  let rg:=G.R.rg n y ym;let tt:=G.O.tt;let aa:∀{q u},H q=some u->q≠l1:=λe z=>(by rwa[z,f1]at e);let oH:∀q u,H q=some u->J q=some u:=λq u e=>Z _ _ (sH _ _ e) (aa e);let BJ:=G.O.B.same (H':=J) oH;let lf:((((Wu i).map (ch nd.cs)).11).map V.int).9=16*i:=by
   rw[dM];show Ai nd.cs i
  show wY λQQ Y=>?_;show#[0,.inl #[4,a9.of L],?_];show#[23,oH _ _ ho,42,aj,0,oH _ _ h2,11,b,s',y,0,BJ,av,cl,av,λJ2 l4 U _ e4=>?_];show#[l1,l4,6,U _ _ L,e4,by rw[lf,dM,qW];omega,Y _ _ #[0,?_,λq u e z=>by rw[ay z];show U _ _ (Z _ _ e z),av]];rw[ag, <-yl,Ys,yl (l₁:=Wu i),Yt];change _=some (HO.lst (aaW V.int (_++(ch nd.cs i++[]))));rw[Wt]
 .rintro σ J ⟨v3,rfl,L,Z,_⟩;rw[dM,ad]at L;let aa:∀{q u},H q=some u->q≠l1:=λe z=>(by rwa[z,f1]at e);let sJ:aO H J:=λq u e=>Z _ _ (sH _ _ e) (aa e);let#[r,hl,ac]:=G.R.row n n0 n1;rw[I,kD]at ac;let aB:r[rs n+2]?=some (nd.cs.9:Int):=by
   let q:((r.drop (rs n)).take 8)[2]?=some (nd.cs.9:Int):=(by rw[ac];rfl);rw[Xq,acW aE,XM]at q;show q
  show#[0,21,sJ _ _ ho,59,0,76,n,r,0,G.O.same sJ,n0,n1,hl,aB,λJ2 U=>#[0,l1,0,a9.of (U _ _ L),λq fq=>?_]];rw[jm,VF _ _ (by unfold nb;omega)];let s5:=sJ.trans U;show k _ q (s5.trans (au fq)) (a8 s5 fq) ag
def fT(_:Unit):V:=.bl true
theorem Jl{α:Type}(f:α->V)(l:List (Int×α))(x:Int)(a:α):∃F,putK (dk f l) (V8 x) (f a)=dk f F/\(∀y,(look F y).10=(decide (y=x)||(look l y).10))/\F.9<=l.9+1:=by
 cases e:look l x with
 |none =>
  show#[_,gc e,λy=>?_,by rw[ti];show G0 _];rw[gD y e];cases z:y=x
  .rw[acW z,zA1 z];rfl
  .rw[acV z,zA2 z];rfl
 |some b =>
  show#[_,ju e,λy=>?_,by rw[AK];omega];rw[iM y e];cases z:y=x
  .rw[acW z,zA1 z];rfl
  .rw[acV z,zA2 z];rfl
noncomputable def yx(bk:qa4)(m:Nat):List Int:=((Wu m).map λi:Nat=>bk (i:Int)).11
def mi(bk:qa4)(m:Nat):yx bk (m+1)=yx bk m++bk (m:Int):=by
 unfold yx;rw[Ys,yl,Yt];change _++(bk (m:Int)++[])=_;rw[Wt]
noncomputable def yb(bk:qa4)(x:Int):Bool:=decide (¬ x∈yx bk 24)
noncomputable def ub(aC:Nat)(bk:qa4):List Int:=((Wu aC).map λi:Nat=>48+(i:Int)).filter (yb bk)
inductive Mj(c:DA)(CN:zB0)(v:qAf)(H:Hp)(Q:VK)(e:XK):Prop
 |mk(a:zB0)(b:BA)(s:BS)(aC d:Nat)(N:NS)(bk:qa4)(_:v=[.ref a])(_:NR c CN H a b s aC N bk d)(_:∀(H':Hp)(q:zB0),aO H H'->H q=none->H' q∣((ub aC bk).map V.int)->Q (.ref q) H')
inductive qY(c:DA)(CN:zB0)(v:qAf)(H:Hp)(Q:VK)(e:XK):Prop
 |mk(a:zB0)(b:BA)(s:BS)(aC d:Nat)(N:NS)(bk:qa4)(_:v=[.ref a])(_:NR c CN H a b s aC N bk d)(_:d<=24)(_:∀(H':Hp)(s':BS),NR c CN H' a b s' aC N bk 0->s'.D=[]->dJ b s H s' H'->Q .bh H')
abbrev UI:Wo:=inClass (top 41) 15
abbrev U4:Wo:=inClass (top 41) 9
variable{l1 l2:Int->Option (List Int)}{N:NS}{bk:qa4}
theorem Rep.lb(R:Rep l1 aC N bk)(h:∀j,28<=j->l2 j=l1 j):Rep l2 aC N bk:=by
 show#[λn G I=>?_,R.len,λn x F=>?_,λn nd L k x F=>?_,R.rg,R.Hn,R.use,R.xS]
 .let#[r,e,q]:=R.row n G I;show#[r,by rw[h _ (rB G I).1];show e,q]
 .rw[h x (by have:=R.rg n x (L1 F);omega)];show R.Rp n x F
 .let m:x∈bk n:=by
   have:=L1 F;unfold cb at this;rcases Wf.mp this with w|w
   .show WY w
   .show XH w
  rw[h x (by have:=R.rg n x m;omega)];show R.QF n nd L k x F
def U6:aA ["self"] ["self"] (ax U4):=L2.bg
theorem yR(F:b4 K "finish" "Nodes.finish" U4 f fd)(T:mJ K mg CN)(Z:Fl K mg c)(U:↥Md 6 c.CD "finish" (yz c)):↥aU 7 f fd ["self"] (qY c CN):=by
 show F.dg U6 ?_;intros;let#[a,b,s',aC,d,N,bk,rfl,G,hd,k]:=h;let#[dx,ho]:=G.O.ob;let#[aa,h2]:=G.O.B.ob;show#[_,%[0,0,j,dZ,u,c4,U,hr,aD|9],?_];show#[23,ho,42,aa,0,h2,bJ aF aF,b,s',rfl,G.O.B,WK G.d hd,λH' Y B2 L l2 n2 st=>?_];let na:¬ jZ b s' a:=λz=>by
  rcases z with z|z|z|z|z|⟨x,hx,z⟩
  .rw[z,h2]at ho;simp only[Xi,HO.ins.injEq]at ho;have:=ho.2.2;rw[kh kd,kh kn]at this;injection this with t _;injection t with t1 _;show absurd t1 aF
  .let#[I,#[ab,q],_]:=G.O.B.dk;rw[z,q]at ho;simp only[Xi,HO.ins.injEq]at ho;have:=ho.2.2;rw[fE,kh kn]at this;injection this with _ t;injection t with _ t;cases t
  .let#[I,D]:=G.O.B.dk;rwa[z,D.hb]at ho
  .rw[z,G.O.B.hd]at ho;cases ho
  .let#[I,D]:=G.O.B.dk;let#[ns,q]:=ir D.hc a z;rwa[q.1]at ho
  .rw[z,(G.O.B.hr x hx).1]at ho;cases ho
 show k H' Y #[#[#[dx,st.1 _ _ ho na],B2,by rw[n2];show G.O.tt],G.R.lb l2,by unfold dn;rw[L];show G0 _] L st
def Ir:aA ["self","used","n","block"] ["self"] (ax UI):=L2.bg
theorem CJ(F:b4 K "unused_blocks" "Nodes.unused_blocks" UI f fd)(T:mJ K mg CN)(ab:↥Md 5 CN "blocks_of" (FN c CN)):↥aU 6 f fd ["self"] (Mj c CN):=by
 show F.dg Ir ?_;intros;let#[a,b,s',aC,d,N,bk,rfl,U,k]:=h;let hs:=DD;let#[dx,ho]:=U.O.ob;let tt:=U.O.tt;let bl:=U.O.B.ln;show#[_,%[Ir,hr,bk,iT,aL,b0,a,cR,av,2,k,dg,cd,ag,ab,h,av,3,k,bp,ax,1,3,iJ,b,P,(de (cl:=[("used",s⁻¹+1)]) (caps:=[("used",1)])),cp,rfl,dh,CV,ao,T.range,d,B,T.iQ,a,p,B,T.iQ,u,T,ch,bn,di,dH,1,T,0|9],?_]
 show fj λ_ jt=>?_;intro u fu;show jt _ _ ?_;clear jt;exists fu,(.dK []),s1,e1,H1;let e1:H1 u^^^(dk fT []):=e1;let nu:∀{q o},H q=some o->q≠u:=λe z=>(by rwa[z,fu]at e);show#[44];show gQ (lo:=0) (n:=24) (λi σ J=>OF λ(v2 G:Option V)(l:List (Int×Unit))=>Qs (σ=#v[.ref a,.ref u,v2,G]) (J u^^^(dk fT l)) ((∀x,(look l x).10=decide (x∈yx bk i))) (l.9<=21*i) (Off (· = u) H1 J)) #[2,[],rfl,e1,λx=>rfl,Xr _,96] ?_ ?_
 .rintro i σ J hi ⟨v2,G,l,rfl,Z,hk,ll,oJ⟩;let I:aO H J:=λq o e=>oJ _ _ (s1 _ _ e) (nu e);show#[21,I _ _ ho,11,76,d,N,bk,(i:Int),91,U.same I,av,av,λJ2 q s2 L eq=>#[q,rfl,#[_,a9.of eq],?_]];let nq:q≠u:=λe=>(by rwa[e,Z]at L);let ac:=U.R.le (i:Int);show gp (K:=K) (a:=q) (xs:=(bk (i:Int)).map V.int) (λj σ Y=>AO λ(G:Option V)(l:List (Int×Unit))=>Qs (σ=#v[.ref a,.ref u,.int (0+(i:Int)),G]) (Y u^^^(dk fT l)) ((∀x,(look l x).10=decide (x∈yx bk i++(bk (i:Int)).take j))) (l.9<=21*i+j) (Off (· = u) J2 Y)) #[_,l,rfl,s2 _ _ Z,λx=>by rw[XX,Wt];show hk x,ll,96] (λj σ Y _ z=>by let#[_,_,_,_,_,_,o]:=z;show a9.of (o _ _ eq nq)) ?_ ?_
  .rintro j x σ Y hx ⟨G,l,rfl,h3,aa,l3,o3⟩;rw[LW]at hx;let#[y,hy,rfl]:=HC.mp hx;let hj:=(u4.mp hy).1;let#[l',p1,p2,p3]:=Jl fT l y ();show#[0,0,u,0,j3.k (k:=V8 y) h3 (by rw[gz];omega),_,l',rfl,by rw[ag];show congrArg (λz=>some (HO.dK z)) p1,λx=>?_,av,λq' o e z=>by rw[ay z];show o3 _ _ e z];rw[p2 x,aa x,WE,hy];cases z:x=y
   .rw[zA1 z,Bool.true_or];show(zA1 (by rw[z];simp)).6
   .rw[zA2 z,acK];show decide_eq_decide.mpr ?_;rw[<-WI,Wf (s:=yx bk i++(bk (i:Int)).take j)];show#[.inl,λw=>w.resolve_right λy'=>z ‹y'›]
  .rintro σ Y ⟨G,l,rfl,h3,aa,l3,o3⟩;rw[dM,WV, <-mi]at aa;rw[dM]at l3;show#[2,l,rfl,h3,aa,av,λq' o e z=>o3 _ _ (s2 _ _ (oJ _ _ e z)) z]
 .rintro σ J ⟨v2,G,l,rfl,Z,hk,_,oJ⟩;let I:aO H J:=λq o e=>oJ _ _ (s1 _ _ e) (nu e);show#[0,a,CN,dx,_,.int aC,rfl,I _ _ ho,T.cl,T.nT,vz,_,0,4,0,#[aE,aE,av,av],?_];let et:((48:Int)+(aC:Int)-48).5=aC:=av;rw[et];show iU (lo:=48) (n:=aC) (λi ys J2=>ys=((((Wu i).map λi:Nat=>48+(i:Int)).filter (yb bk)).map V.int)/\J2=J) #[1] ?_ ?_
  .rintro i ys J2 hi ⟨rfl,rfl⟩;let q:=dG.k (k:=V8 (48+(i:Int))) Z;rw[cz]at q;show#[0,0,u,0,q,?_];let eb:(!((look l (48+(i:Int))).map fT).10)=yb bk (48+(i:Int)):=by
    rw[YG,hk];unfold yb;cases z:48+(i:Int)∈yx bk 24
    .rw[zA1 z,zA2 (λw=>w z)];rfl
    .rw[zA2 z,zA1 z];rfl
   show#[0,?_];rw[eb];let ef:(((Wu (i+1)).map λi:Nat=>48+(i:Int)).filter (yb bk))=((Wu i).map λi:Nat=>48+(i:Int)).filter (yb bk)++[48+(i:Int)].filter (yb bk):=(by rw[Ys,yl,Xk];rfl);let lf:((((Wu i).map λi:Nat=>48+(i:Int)).filter (yb bk)).map V.int).9<=300:=by
    rw[dM];have:=WL (yb bk) ((Wu i).map λi:Nat=>48+(i:Int));rw[dM,YT]at this;omega
   cases z:yb bk (48+(i:Int))with
   |true =>
    rw[acW rfl];show#[0,av,55];rw[ef,WO z,YH,yl];rfl
   |false =>
    rw[acV (by nofun)];show#[55];rw[ef,WQ (by rw[z];nofun),YH,Wt]
  .rintro ys J2 ⟨rfl,rfl⟩ q L;show k _ q (I.trans (au L)) (a8 I L) ag
noncomputable def cy(N:NS)(n:Int)(x:Option Node):NS:=λm=>if m=n then x else N m
noncomputable def rj(bk:qa4)(n:Int)(b:qAa):Int->List Int:=λm=>if m=n then b else bk m
def AS(n:Int):rs n=0\/rs n=8:=by unfold rs;omega
variable{m:Int}
def MG(G:0<=n)(F:0<=m)(h:rb n=rb m)(h2:rs n=rs m):n=m:=by unfold rb rs at *;omega
theorem Jc(h1:r.9=16)(h2:row.9=8)(F:st+8<=16):((jY r row st).drop st).take 8=row:=by
 unfold jY;rw[WI,Zl,IF,show st-min st r.9=0 by omega,Ym,Xb (by rw[IF];omega),ZI,XA,h2,X2,XX,Wt,V6 av]
theorem Ef{t:Nat}(h1:r.9=16)(h2:row.9=8)(hs:st=0\/st=8)(F:t=0\/t=8)(ne:st≠t):((jY r row st).drop t).take 8=(r.drop t).take 8:=by
 unfold jY;rcases hs with rfl|rfl<;>rcases F with rfl|rfl
 .show absurd rfl ne
 .rw[XX,ZI,Zl,h2,Xb (show row.9<=8 by omega),ZI,X2,Ym]
 .rw[Ym,WI,XA,IF,show 8-min 8 r.9=0 by omega,XX,Wt,List.take_take,Ym];rfl
 .show absurd rfl ne
theorem wG(x:Option Node)(b:qAa):(vA x b).9=8:=by
 cases x with
 |none=>rfl
 |some n =>
  rw[kD,ti,dQ (by rw[IF];omega)];rfl
theorem qR{x:Int}(h:(cb b)[k]?=some x):x∈b:=by
 have:=L1 h;unfold cb at this;rcases Wf.mp this with w|w
 .show WY w
 .show XH w
theorem Rep.upd(R:Rep l1 aC N bk)(Z:0<=n)(n1:n<24)(x:Option Node)(F:qAa)(lr:r.9=16)(hr:l1 (rb n)=some r)(len:F.9=wx x)(rg:∀y∈F,48<=y/\y<48+aC)(Hn:∀(i j:Nat)(y:Int),F[i]?=some y->F[j]?=some y->i=j)(aa:∀m,m≠n->∀y∈F,¬ y∈bk m)(xS:∀nd,x=some nd->nd.cs.9<=320)
  (e1:l2 (rb n)=some (jY r (vA x F) (rs n))) (ho:∀j,j≠rb n->¬ j∈F->l2 j=l1 j) (hf:∀y,F[4]?=some y->l2 y=some (fill (F.drop 5) 16)) (hc:∀nd,x=some nd->∀(k:Nat)(y:Int),(cb F)[k]?=some y->l2 y=some (ch nd.cs k)):Rep l2 aC (cy N n x) (rj bk n F):=by
 let rn:=rB Z n1;let key:∀m y,m≠n->y∈bk m->l2 y=l1 y:=λm y h1 h2=>ho y (by have:=R.rg m y h2;omega) λw=>aa m h1 y w h2;show#[λm Y m1=>?_,λm=>?_,λm y G=>?_,λm nd I k y G=>?_,λm y G=>?_,λp q i j y hi L=>?_,λm nd I=>?_,λm nd I=>?_]
 .cases z:m=n
  .subst z;show#[_,e1,?_];rw[show cy N m x m=x from acW rfl,show rj bk m F m=F from acW rfl];show Jc lr (wG _ _) rn.2.2
  .rw[show cy N n x m=N m from acV z,show rj bk n F m=bk m from acV z];let#[r',U,q]:=R.row m Y m1;cases y:rb m=rb n
   .rw[y,hr]at U;injection U with U;subst U;show#[_,by rw[y];show e1,?_];rw[Ef lr (wG _ _) (AS n) (AS m) (λw=>z (MG Y Z y w.6))];show q
   .show#[r',by rw[ho _ y λw=>by have:=rg _ w;have:=rB Y m1;omega];show U,q]
 .cases z:m=n
  .rw[show cy N n x m=x from acW z,show rj bk n F m=F from acW z];show len
  .rw[show cy N n x m=N m from acV z,show rj bk n F m=bk m from acV z];show R.len m
 .cases z:m=n
  .rw[show rj bk n F m=F from acW z]at G ⊢;show hf y G
  .rw[show rj bk n F m=bk m from acV z]at G ⊢;rw[key m y z (L1 G)];show R.Rp m y G
 .cases z:m=n
  .rw[show cy N n x m=x from acW z]at I;rw[show rj bk n F m=F from acW z]at G;show hc nd I k y G
  .rw[show cy N n x m=N m from acV z]at I;rw[show rj bk n F m=bk m from acV z]at G;rw[key m y z (qR G)];show R.QF m nd I k y G
 .cases z:m=n
  .rw[show rj bk n F m=F from acW z]at G;show rg y G
  .rw[show rj bk n F m=bk m from acV z]at G;show R.rg m y G
 .cases z:p=n
  .rw[show rj bk n F p=F from acW z]at hi;cases v:q=n
   .rw[show rj bk n F q=F from acW v]at L;show#[z.trans v.6,Hn i j y hi L]
   .rw[show rj bk n F q=bk q from acV v]at L;show absurd (L1 L) (aa q v y (L1 hi))
  .rw[show rj bk n F p=bk p from acV z]at hi;cases v:q=n
   .rw[show rj bk n F q=F from acW v]at L;show absurd (L1 hi) (aa p z y (L1 L))
   .rw[show rj bk n F q=bk q from acV v]at L;show R.Hn p q i j y hi L
 .cases z:m=n
  .rw[z];show#[Z,n1]
  .rw[show cy N n x m=N m from acV z]at I;show R.use m nd I
 .cases z:m=n
  .rw[show cy N n x m=x from acW z]at I;show xS nd I
  .rw[show cy N n x m=N m from acV z]at I;show R.xS m nd I
noncomputable def yc(aC:Nat)(bk:qa4)(n:Int)(cs:qAa):List Int:=(bk n++ub aC bk).take (bf cs.9)
theorem qh{bk:qa4}{y:Int}:∀{m:Nat},y∈yx bk m↔∃i:Nat,i<m/\y∈bk (i:Int)
 |0=>Iff.intro (λh=>by cases h) (λh=>by let#[_,h,_]:=h;omega)
 |m+1=>by
  rw[mi,Wf,qh];show Iff.intro (λh=>?_) (λh=>?_)
  .rcases h with⟨i,h1,h2⟩|h
   .show#[i,av,h2]
   .show#[m,av,h]
  .let#[i,h1,h2]:=h;cases z:i=m
   .subst z;show .inr h2
   .show .inl #[i,av,h2]
variable{y:Int}
theorem ur(h:y∈ub aC bk):48<=y/\y<48+aC/\¬ y∈yx bk 24:=by
 unfold ub at h;rw[WA,z4]at h;let#[#[i,hi,rfl],h2]:=h;rw[YO]at hi;show#[av,av,zA0 h2]
def Fw(aC:Nat)(bk:qa4):(ub aC bk).4:=by
 unfold ub;show aa2 _ (ZY _ (λa b h e=>h av) aaS)
theorem Rep.Ap(R:Rep l1 aC N bk)(h:y∈bk m):y∈yx bk 24:=by
 cases e:N m with
 |none=>rwa[R.none e]at h
 |some nd =>
  let#[a,c]:=R.use m nd e;show qh.mpr #[m.5,av,?_];rw[Zt a];show h
theorem Rep.nodup(R:Rep l1 aC N bk)(n:Int)(cs:qAa):(yc aC bk n cs).4:=by
 unfold yc;show ZO (abR _ _) ?_;show Wl.mpr #[?_,Fw _ _,λx F y I e=>(ur I).2.2 (e▸R.Ap F)];show W3.mpr λi j hi G L e=>?_;have:=(R.Hn n n i j _ (y0 hi) (by rw[e];show y0 G)).2;omega
variable{cs:qAa}
theorem Rep.VU(R:Rep l1 aC N bk)(h:y∈yc aC bk n cs):48<=y/\y<48+aC:=by
 rcases Wf.mp (WY h)with w|w
 .show R.rg n y w
 .show#[(ur w).1,(ur w).2.1]
theorem Rep.Tq(R:Rep l1 aC N bk)(G:m≠n)(h:y∈yc aC bk n cs):¬ y∈bk m:=by
 intro F;rcases Wf.mp (WY h)with w|w
 .let#[i,hi]:=Yi F;let#[j,I]:=Yi w;show G (R.Hn m n i j y hi I).1
 .show(ur w).2.2 (R.Ap F)
noncomputable def MB(old cs:qAa)(k:Nat):Bool:=decide (¬ (k<nb old.9/\ch old k=ch cs k))
noncomputable def r9(old cs:qAa)(m:Nat):Nat:=((Wu m).filter (MB old cs)).9
theorem wD(old cs:qAa)(m:Nat):r9 old cs (m+1)=r9 old cs m+(if MB old cs m=true then 1 else 0):=by
 unfold r9;rw[Ys,Xk,ti,Zi,YH];cases z:MB old cs m=true
 .rw[acW z,acW z];rfl
 .rw[acV z,acV z];rfl
theorem KL(k:Nat):(cb b)[k]?=if k<4/\k<b.9 then b[k]? else if b.9<=4 then none else b[k+1]?:=by
 unfold cb;cases z:k<4/\k<b.9
 .rw[acW z,Wj (by rw[IF];omega),Xq,acW z.1]
 .rw[acV z,Wb (by rw[IF];omega),IF,XM];cases y:b.9<=4
  .rw[acW y];show aaI av
  .rw[acV y];show congrArg (λt=>b[t]?) ?_;omega
theorem Jx(R:Rep l1 aC N bk){nd:Node}(F:N n=some nd)(hk:k<nb nd.cs.9)(h:(cb (yc aC bk n cs))[k]?=some y):(cb (bk n))[k]?=some y:=by
 let lb:(bk n).9=bf nd.cs.9:=(by rw[R.len,F];rfl);let pre:∀i y,i<(bk n).9->(yc aC bk n cs)[i]?=some y->(bk n)[i]?=some y:=λi y hi h=>by
  unfold yc at h;rw[Xq]at h;split at h
  .rw[Wj hi]at h;show h
  .cases h
 unfold bf at lb;rw[KL]at h ⊢;split at h
 .rename_i z;rw[acW #[z.1,by split at lb<;>omega]];show pre k y (by split at lb<;>omega) h
 .rename_i z;split at h
  .cases h
  .rename_i v;let k4:¬ k<4:=λw=>z #[w,av];have:4<nb nd.cs.9:=av;rw[acW this]at lb;rw[acV (λw=>k4 w.1),acV av];show pre (k+1) y av h
end Fs
namespace L2
theorem Ui{a u:TS}{D:Ends}{σ:St}{H:Hp}(k:∀R:St->Hp->Prop,(∀σ H,u D σ H->R σ H)->a { D with nx:=R } σ H):jA a u D σ H:=k _ λ_ _ h=>h
end L2
namespace Fs
open PySem L2 Dk Tb
theorem dJ.trans{b:BA}{s G F:BS}{H H1 H2:Hp}(p:dJ b s H G H1)(q:dJ b G H1 F H2):dJ b s H F H2:=by
 show#[λa u e z=>q.1 a u (p.1 a u e z) λw=>?_,λa w=>?_]
 .rcases p.2 a w with w|w
  .show z w
  .rw[e]at w;cases w
 .rcases q.2 a w with w|w
  .show p.2 a w
  .cases z:jZ b s a
   .show .inl z
   .show .inr ?_;cases e:H a with
    |none=>rfl
    |some u=>rwa[p.1 a u e z]at w
theorem GH{b:qAa}(h:b.4):(cb b).4:=by
 show ZO ?_ h;have:(b.take 4++b.drop 5).Sublist (b.take 4++b.drop 4):=Xg (Xt _) (by rw[show b.drop 5=(b.drop 4).drop 1 by rw[drop_drop]];show List.drop_sublist _ _);rw[Xf]at this;show this
inductive NV(c:DA)(CN:zB0)(v:qAf)(H:Hp)(Q:VK)(e:XK):Prop
 |mk(a:zB0)(b:BA)(s:BS)(aC d:Nat)(N:NS)(bk:qa4)(n:Int)(nd:Node)(l:zB0)(cs:qAa)(_:v=[.ref a,.int n,.ref l])(_:NR c CN H a b s aC N bk d)(_:N n=some nd)(_:H l∣(cs.map V.int))(_:¬ jZ b s l)(_:cs.9<=320)(_:bf cs.9<=(bk n).9+(ub aC bk).9)(_:∀(H':Hp)(s':BS)(bk':qa4),NR c CN H' a b s' aC (cy N n (some { nd with cs:=cs })) bk' (d+r9 nd.cs cs (nb cs.9)+2)->dJ b s H s' H'->Q .bh H')
abbrev SI:Wo:=inClass (top 41) 8
def EA:aA ["self","n","cells","blocks","k","block","row"] ["self","n","cells"] (ax SI):=L2.bg
theorem xO{P:BY}{w:Oi}{K:Wa}{mg:qa3}{base:Heap}{f CN:zB0}{fd:DO}{c:DA}(F:b4 K "put_cells" "Nodes.put_cells" SI f fd)(T:mJ K mg CN)(TD:Fl K mg c)(bR:↥Md 5 CN "blocks_of" (FN c CN))(GU:↥Md 6 CN "unused_blocks" (Mj c CN))(bY:↥Df 1 "blocks_for" sv)(a6:↥Md 1 CN "cell_blocks" HA)(GW:↥Md 1 c.CD "write" (mL K c))(GF:↥Df 1 "filled" og)(GO:↥Md 4 CN "row_of" (jc c CN))(GP:↥Md 4 CN "put_row" (jq c CN)):↥aU 7 f fd ["self","n","cells"] (NV c CN):=by
 show F.dg EA ?_;intros;let#[a,b,s',aC,d,N,bk,n,nd,l,cs,rfl,I,hn,hl,a1,aK,sp,k]:=h;let hs:=DD;let#[n0,n1]:=I.R.use n nd hn;let#[dx,ho]:=I.O.ob;let#[_,_]:=I.O.B.ob;let tt:=I.O.tt;let ci:=I.O.B.ln;let cq:=I.R.le n;let no:∀m:Str,¬ m = "total" -> ¬ m = "draft" -> (f2 "draft" "total" (.ref b.dr) (.int aC)).lookup m=none:=λm=>bJ;let co:(ub aC bk).9<=aC:=by
  unfold ub;show WK (WL _ _) ?_;rw[dM,YT];show G0 _
 let#[r,aj,_]:=I.R.row n n0 n1;let lr:=I.O.B.row aj;let ck:=rB n0 n1;show#[_,%[EA,hr,aY,w,M,ag,bR,e,dI,0,GU,aQ,c,bY,a,l,h,aL,dW,ao,T.enumerate,a,ag,a6,Y,bA,A,4,A,5,fe,j,ae,cP,GW,d,5,a,c,GF,d,w,2,D,a9,cf,4,D,a9,cf,p,4,aw,a,cf,f,bB,l,Y,cS,s,j,ae,cP,GW,d,v,3,cS,a,c,GF,d,w,3,D,cQ,bM,a,cf,O,6,ag,GO,e,j,ag,GP,J,d,aJ,6,d,aJ,6,d,l,h,a,w,3,aQ,cQ|9],?_]
 show fj λ_ jt=>?_;show#[21,ho,59,0,76,d,N,bk,n,rfl,I,n0,n1,λH1 p1 s1 f1 e1=>?_];show#[21,s1 _ _ ho,59,76,d,N,bk,rfl,I.same s1,λH2 p2 L bW e2=>?_];show#[p1,p2,6,L _ _ e1,e2,by rw[dM,dM];omega,λp3 f3=>?_];rw[<-yl];exists f3,(.lst ((bk n++ub aC bk).map V.int)),sN,e3,H3;let S3:=(s1.trans L).trans sN;show#[0,l,0,.inl (a9.of (S3 _ _ hl)),cs.9,118,?_];show#[0,p3,0,38,λp4 f4=>jt _ _ ?_];clear jt;rw[jm,show(bk n++ub aC bk).take (bf cs.9)=yc aC bk n cs from rfl];exists f4,(.lst ((yc aC bk n cs).map V.int)),sN,e4,H4;let S4:=S3.trans sN;let bN:H p4=none:=a8 S3 f4;clear e1 e2 e3 f1 bW f3 f4 s1 L S3;let aP:(yc aC bk n cs).9=bf cs.9:=by
  unfold yc;rw[IF,ti];omega
 let ad:=I.R.nodup n cs;let aa:∀y∈yc aC bk n cs,48<=y/\y<48+aC:=λy=>I.R.VU;let a7:∀m,m≠n->∀y∈yc aC bk n cs,¬ y∈bk m:=λm hm y=>I.R.Tq hm;let b1:∀{k:Nat}{y:Int},k<nb nd.cs.9->(cb (yc aC bk n cs))[k]?=some y->(cb (bk n))[k]?=some y:=λhk h=>Jx I.R hn hk h;let ca:=KS aK;generalize yc aC bk n cs=G at *;let bv:(cb G).9=nb cs.9:=Ec aP;show#[21,S4 _ _ ho,59,0,a,p4,G,rfl,e4,av,λH5 p5 s5 f5 e5=>#[p5,rfl,#[_,a9.of e5],?_]];let S5:=S4.trans s5;let bm:H p5=none:=a8 S4 f5;let a0:=s5 _ _ e4;let aT:=S5 _ _ hl;let n4:¬ jZ b s' p4:=λw=>I.O.B.live w bN;let n5:¬ jZ b s' p5:=λw=>I.O.B.live w bm;clear e4 f5 s5;show vZ (K:=K) (a:=p5) (xs:=(cb G).map V.int) (λi σ J=>OF λ(v4 v5:Option V)(Y:BS)=>Rg (σ=#v[.ref a,.int n,.ref l,.ref p4,v4,v5,none]) (NO c CN J a b Y aC) (dJ b s' H5 Y J) (∀(k:Nat)(x:Int),k<i->(cb G)[k]?=some x->lb Y x=some (ch cs k)) (∀j,(∀k:Nat,k<i->¬ (cb G)[k]?=some j)->lb Y j=lb s' j) (dn Y<=dn s'+r9 nd.cs cs i)) #[2,s',rfl,I.O.same S5,dJ.same (λ_ _ e=>e),λk x hk=>absurd hk (aaT _),λj _=>rfl,G0 _] (λi σ J _ z=>by let#[_,_,_,_,_,st,_]:=z;show a9.of (st.1 _ _ e5 n5)) ?_ ?_
 .rintro i x σ J Tt hx bo ⟨v4,v5,Y,rfl,Z,st,hc,ab,hd⟩;rw[LW]at hx;let#[y,U,rfl]:=HC.mp hx;let bi:=qR U;let yr:=aa y bi;exists bo,(.tup [.int i,.int y]),sT,eT,J1;let O1:=Z.same sT;let#[dy,ak]:=O1.ob;let#[am,aB]:=O1.B.ob;let bx:=sT _ _ (st.1 _ _ aT a1);show#[Tt,[.int i,.int y],rfl,cX.of eT,rfl,.int i,[.int y],rfl,.int y,[],1,?_];show wY λQQ jt=>?_;show#[0,a,CN,dy,_,.ref b.dr,rfl,ak,42,am,0,aB,11,0,0,92,16*(i:Int),rfl,0,_,58,.inl #[aE,aE],16*((i:Int)+1),rfl,l,0,a9.of bx,λq fq=>?_];rw[show d8 (cs.map V.int) (some (16*(i:Int))) (some (16*((i:Int)+1)))=((cs.drop (16*i)).take 16).map V.int by
   rw[show 16*(i:Int)=((16*i:Nat):Int)by omega,show 16*((i:Int)+1)=((16*i:Nat):Int)+((16:Nat):Int)by omega];show pR]
  exists fq,(.lst (((cs.drop (16*i)).take 16).map V.int)),sN,eq,J2;let L:=sT.trans sN;show#[q,_,(16),rfl,eq,aE,by rw[IF];omega,λJ3 q3 s3 _ e3=>?_];let S3:=L.trans s3;let O3:=Z.same S3;show#[b,Y,y,q3,ch cs i,rfl,O3.B,av,by rw[Z.tt];omega,38,qW _ _,λJ4 D4 B4 g4 _ o4 ar d4=>jt _ _ ?_];let#[dz,ac]:=O3.ob;let na:a≠Y.dd:=λe=>(by have:=O3.B.hd;rwa[<-e,ac]at this);let a4:∀k,k<i->¬ (cb G)[k]?=some y:=λk hk h=>(by have:=wR (GH ad) h U;omega);show#[2,0,#[#[dz,o4 _ _ ac na],B4,Z.tt],st.trans (ar.pre S3),λk x hk h=>?_,λj hj=>?_,?_]
  .rw[g4 x];cases z:k=i
   .subst z;rw[U]at h;injection h with h;rw[acW h.6]
   .rw[acV (λe=>a4 k av (by rw[<-e];show h))];show hc k x av h
  .rw[g4 j,acV (λe=>hj i av (by rw[e];show U))];show ab j λk hk=>hj k av
  .rw[wD];show WK d4 ?_;have:(if lb Y y=some (ch cs i)then 0 else 1)<=(if MB nd.cs cs i=true then 1 else 0):=by
    cases z:MB nd.cs cs i=true
    .rw[acW z];split<;>omega
    .rw[acV z];unfold MB at z;let z':i<nb nd.cs.9/\ch nd.cs i=ch cs i:=by
      show WJ λw=>z (zA1 w)
     rw[acW]
     .show G0 _
     .rw[ab y a4,I.R.QF n nd hn i y (b1 z'.1 U),z'.2]
   omega
 .rintro σ J ⟨v4,v5,Y,rfl,Z,st,hc,ab,hd⟩;rw[dM,bv]at hc ab hd;let as:=st.1 _ _ a0 n4;let#[dy,ak]:=Z.ob;let#[am,aB]:=Z.B.ob;let a5:∀j,¬ j∈G->lb Y j=lb s' j:=λj hj=>ab j λk _ h=>hj (qR h);dsimp only;show Ui λR jr=>?_;let fin:∀(J2:Hp)(L:BS),NO c CN J2 a b L aC->dJ b s' H5 L J2->(∀(k:Nat)(x:Int),(cb G)[k]?=some x->lb L x=some (ch cs k))->(∀j,¬ j∈G->lb L j=lb s' j)->(∀y,G[4]?=some y->lb L y=some (fill (G.drop 5) 16))->dn L<=dn s'+r9 nd.cs cs (nb cs.9)+1->R #v[.ref a,.int n,.ref l,.ref p4,v4,v5,none] J2:=λJ2 L O2 ap c2 o2 bL d2=>jr _ _ (by
   clear jr;let#[dz,a3]:=O2.ob;let a2:lb L (rb n)=some r:=(by rw[o2 _ λw=>by have:=aa _ w;omega];show aj);let be:(r.drop (rs n)).take 8=vA (some nd) (bk n):=by
    let#[r',e1,e2]:=I.R.row n n0 n1;rw[aj]at e1;injection e1 with e1;rw[e1,e2,hn]
   show fj λ_ jt=>?_;show#[0,a,dz,0,a3,59,0,a,b,L,aC,n,r,rfl,O2,n0,n1,a2,λJ3 q3 s3 _ e3=>jt _ _ ?_];clear jt;rw[be,kD]at e3;let bd:=s3 _ _ (ap.1 _ _ a0 n4);let b2:=s3 _ _ (ap.1 _ _ aT a1);let i0:mv (([if nd.dir=true then 2 else 1,nd.ln,(nd.cs.9:Int)]++fill ((bk n).take 5) 5).map V.int) 0=some (.int (if nd.dir=true then 2 else 1)):=aL (j:=0) rfl;let i1:mv (([if nd.dir=true then 2 else 1,nd.ln,(nd.cs.9:Int)]++fill ((bk n).take 5) 5).map V.int) 1=some (.int nd.ln):=aL (j:=1) rfl;show#[0,a,dz,0,s3 _ _ a3,59,0,0,q3,_,(0),0,rfl,38,i0,0,q3,_,(1),0,rfl,38,i1,0,l,0,.inl (a9.of b2),0,(5),rfl,p4,0,a9.of bd,λq4 f4=>?_];rw[show d8 (G.map V.int) none (some 5)=(G.take 5).map V.int from jm (s:=5)];let s4:=s3.trans (au (X:=.lst ((G.take 5).map V.int)) f4);show#[a,b,L,aC,n,if nd.dir=true then 2 else 1,nd.ln,(cs.9:Int),q4,G.take 5,r,118,O2.same s4,n0,n1,a2,ag,by rw[IF];omega,λJ5 s5 O5 g5 d5 bn=>?_];let dA:=I.d;show k J5 s5 (rj bk n G) #[O5,I.R.upd n0 n1 (some { nd with cs:=cs }) G lr aj aP aa (λi j y=>wR ad) a7 (λbF e=>by injection e with e;rw[<-e];show aK) (by rw[g5,acW rfl];rfl) (λj h1 h2=>by rw[g5,acV h1];show o2 j h2) (λy U=>by rw[g5,acV (by have:=aa y (L1 U);omega)];show bL y U) (λbF e kk y U=>by injection e with e;rw[<-e,g5,acV (by have:=aa y (qR U);omega)];show c2 kk y U),av] ((ap.trans (bn.pre s4)).pre S5))
  show Bs λQQ ji je=>?_;show#[0,p4,0,.inl (a9.of as),19];rw[dM];cases z:4<G.9
  .rw[zA1 (show(4:Int)<((G.9:Nat):Int)by omega)];show ji _ ?_;let e4:G[4]?=some (G[4]'z):=y0 z;let r4:=aa _ (Xo z);let i4:mv (G.map V.int) 4=some (.int (G[4]'z)):=aL (j:=4) (by rw[LW,e4];rfl);let b0:∀k:Nat,¬ (cb G)[k]?=some (G[4]'z):=λk h=>by
    rw[KL]at h;split at h
    .have:=wR ad h e4;omega
    .split at h
     .cases h
     .have:=wR ad h e4;omega
   show wY λQQ jt=>?_;show#[0,a,CN,dy,_,.ref b.dr,rfl,ak,42,am,0,aB,11,p4,_,(4),0,rfl,a9.of as,i4,0,(5),rfl,p4,0,a9.of as,λq fq=>?_];rw[show d8 (G.map V.int) (some 5) none=(G.drop 5).map V.int from iW (s:=5)];let L:=au (X:=.lst ((G.drop 5).map V.int)) fq;show#[q,_,(16),51,aE,by rw[WC];omega,λJ3 q3 s3 _ e3=>?_];let S3:=L.trans s3;let O3:=Z.same S3;show#[b,Y,_,q3,fill (G.drop 5) 16,rfl,O3.B,av,by rw[Z.tt];omega,38,dQ (by rw[WC];omega),λJ4 D4 B4 g4 _ o4 ar d4=>jt _ _ ?_];let#[dz,ac]:=O3.ob;let na:a≠Y.dd:=λe=>(by have:=O3.B.hd;rwa[<-e,ac]at this);show fin J4 _ #[#[dz,o4 _ _ ac na],B4,Z.tt] (st.trans (ar.pre S3)) (λk x h=>?_) (λj hj=>?_) (λy U=>?_) ?_
   .rw[g4,acV (λe=>b0 k (by rw[<-e];show h))];show hc k x (by have:=(u4.mp h).1;omega) h
   .rw[g4,acV (λe=>hj (by rw[e];show Xo z))];show a5 j hj
   .rw[e4]at U;injection U with U;rw[g4,acW U.6]
   .show WK d4 ?_;split<;>omega
  .rw[zA2 (show ¬ (4:Int)<((G.9:Nat):Int)by omega)];show je _ ?_;show fin J Y Z st (λk x h=>hc k x (by have:=(u4.mp h).1;omega) h) a5 (λy U=>absurd (u4.mp U).1 z) av
end Fs
namespace L2
open PySem PySem.Spec PyProof.Rows
theorem qI{prog:BY}{w:Oi}{A:Wv}{E:qa2}{s:sh}{t:zB0}{its:qa6}{x:Value}{e:Value->Bool}{j:Nat}{P:Fin->sh->Prop}(Y:IsTup s.heap t its.8)(he:∀y∈its,aar A s y x (e y))(G:(its[j]?).map e=some true)(L:∀i,i<j->(its[i]?).map e=some false)
  (h:P (.done (.ret (.int j s.toks))) { s with toks:=s.toks+1 }):wpAny (model prog w) A (Builtin.«tuple.index» #[[.ref t,x],[]]) P E s:=by
 change wpAny _ _ (Builtin.Tuple.tupleItemsOf (.ref t)>>=_) _ _ s;show u5 (tupleItemsOf_ Y ?_);simp only[pure_bind];rw[Nat.min_self,V9,aa3];let jl:j<its.9:=by
  cases q:its[j]? with
  |none=>rwa[q]at G
  |some y=>show(u4.mp q).1
 show u5 (wpAny_forIn_list _ (λrest b s'=>b.1=none/\s'=s/\∃i,i<=j/\rest=List.range' i (its.9-i)) _ ?_ ?_ _ _ #[1,(0),Xr _,by simp[acQ]])
 .rintro k rest b s' ⟨_,rfl,i,hi,I⟩;obtain⟨m,Z⟩:∃m,its.9-i=m+1:=#[its.9-i-1,av];rw[Z,List.range'_succ]at I;injection I with h1 h2;subst h1 h2;let F:k<its.9:=av;let U:its.8[k]?=some its[k]:=(by simp[F]);rw[U];show u5 (he _ (Xo F) prog w E _ ?_);cases z:k=j
  .subst z;rw[y0 F]at G;rw[OR G,acW rfl];show u5 (u5 (wpAny_mkInt (Wi (Wi (Wi h)))))
  .have:=L k av;rw[y0 F]at this;rw[OR this,acV (by nofun)];show Wi #[1,k+1,av,by rw[show its.9-(k+1)=m by omega]]
 .rintro⟨b1,b2⟩ s' ⟨_,rfl,i,hi,I⟩;have:=congrArg Zg I;rw[List.length_range']at this;simp at this;omega
inductive zY(K:Wa)(x:V)(vs:qAf)(H:Hp)(Q:VK):Prop
 |mk (p:zB0) (xs:qAf) (y:V) (j:Nat) (_:x=.ref p) (_:vs=[y]) (_:cX K H p xs) (_:xs.all d9=true) (_:d9 y=true) (_:(xs[j]?).map (λz=>jx z y)=some true) (_:∀i,i<j->(xs[i]?).map (λz=>jx z y)=some false) (_:Q (.int (j:Nat)) H):zY K x vs H Q
theorem CA{X:Cx}:IA X "tuple.index" (zY X.K):=by
 intros x vs v us Q I rx Z h;let#[p,xs,y,j,rfl,rfl,hT,U,f2,h1,h2,q]:=h;cases rx;let#[u,rfl,ru]:=Z.one;let#[its,r,L,_]:=I.tuple hT;let key:∀i b,(xs[i]?).map (λz=>jx z y)=some b->(its[i]?).map (sM y)=some b:=λi b hb=>by
  let#[z,G,e2]:=HC.mp hb;let#[w,ew,Y]:=r.get G;rw[ew,acH,uw Y (Xp.mp U z (L1 G)),e2]
 show X9 Z7 L.typeIs PySem.F.entry_tuple_index (qI (e:=sM y) L (ib ru f2 r U) (key j true h1) (λi hi=>key i false (h2 i hi)) #[0,#[.int (j:Nat),85]]) (PySem.F.args_tuple_index_2 _ _)
end L2
namespace Fs
open PySem L2 Dk Tb
noncomputable def n6(d:Bool):Str:=if d=true then "dir" else "file"
noncomputable def K0(x:Option Node):V:=match x with
 |none=>.bh
 |some nd=>.str (n6 nd.dir)
variable{c:DA}{CN a:zB0}{H:Hp}{b:BA}{s:BS}{aC d:Nat}{N:NS}{bk:qa4}{n:Int}
theorem NR.at(A:NR c CN H a b s aC N bk d)(L:0<=n)(I:n<24):∃r,lb s (rb n)=some r/\r.9=16/\(r.drop (rs n)).take 8=vA (N n) (bk n)/\∀i k,i<8->(vA (N n) (bk n))[i]?=some k->r[rs n+i]?=some k:=by
 let#[r,F,G]:=A.R.row n L I;show#[r,F,A.O.B.row F,G,λi k hi hk=>?_];rw[<-G,Xq,acW hi,XM]at hk;show hk
theorem NR.out(A:NR c CN H a b s aC N bk d)(h:n<0\/24<=n):N n=none:=by
 cases e:N n with
 |none=>rfl
 |some nd=>have:=A.R.use n nd e;omega
variable{H':Hp}{Q:VK}{e3:XK}
theorem NR.kind(A:NR c CN H a b s aC N bk d)(q:∀H',aO H H'->Q (K0 (N n)) H'):vv c CN [.ref a,.int n] H Q e3:=by
 show#[77,rfl,A.O,λh=>?_,λI G=>?_]
 .rw[A.out h]at q;show q H λ_ _ e=>e
 .let#[r,F,_,_,g]:=A.at I G;cases e:N n with
  |none =>
   rw[e]at g q;show#[r,(0),.bh,F,g 0 0 aE rfl,aE,aE,rfl,q]
  |some nd =>
   rw[e]at g q;show#[r,if nd.dir=true then 2 else 1,.str (n6 nd.dir),F,g 0 _ aE rfl,5,?_,q]
   .split<;>decide
   .split<;>decide
   .unfold n6;split<;>rfl
variable{nd:Node}
theorem NR.links(A:NR c CN H a b s aC N bk d)(G:N n=some nd)(q:∀H',aO H H'->Q (.int nd.ln) H'):lE 1 c CN [.ref a,.int n] H Q e3:=by
 let#[I,F]:=A.R.use n nd G;let#[r,L,_,_,g]:=A.at I F;rw[G]at g;show#[77,r,0,A.O,I,F,L,g 1 _ aE rfl,q]
theorem NR.size(A:NR c CN H a b s aC N bk d)(G:N n=some nd)(q:∀H',aO H H'->Q (.int nd.cs.9) H'):lE 2 c CN [.ref a,.int n] H Q e3:=by
 let#[I,F]:=A.R.use n nd G;let#[r,L,_,_,g]:=A.at I F;rw[G]at g;show#[77,r,0,A.O,I,F,L,g 2 _ aE rfl,q]
variable{s':BS}
theorem NR.bare(A:NR c CN H a b s aC N bk d)(L:0<=n)(U:n<24){r:qAa}(G:lb s (rb n)=some r)(x:Option Node)(I:wx x=0)(Y:∀nd,x=some nd->nd.cs=[])(O:NO c CN H' a b s' aC)(g:∀j,lb s' j=if j=rb n then some (jY r (vA x []) (rs n))else lb s j)(dd:dn s'<=dn s+1):NR c CN H' a b s' aC (cy N n x) (rj bk n []) (d+1):=
 #[O,A.R.upd L U x [] (A.O.B.row G) G (by rw[I];rfl) (λy F=>by cases F) (λi j y F=>by cases F) (λm _ y F=>by cases F) (λnd e=>by rw[Y nd e];show Xr _) (by rw[g,acW rfl]) (λj h _=>by rw[g,acV h]) (λy F=>by cases F) (λnd _ k y F=>by cases k<;>cases F),WK dd (Zj A.d 1)]
theorem NR.Sr(A:NR c CN H a b s aC N bk d)(G:0<=n)(F:n<24)(k:∀(H':Hp)(s':BS),NR c CN H' a b s' aC (cy N n none) (rj bk n []) (d+1)->dJ b s H s' H'->Q .bh H'):me c CN [.ref a,.int n] H Q e3:=by
 let#[r,I,_]:=A.at G F;show#[77,r,rfl,A.O,G,F,I,λH' s' O g dd st=>k H' s' (A.bare G F I none rfl (λ_ e=>by cases e) O g (SW dd)) st]
theorem NR.putL(A:NR c CN H a b s aC N bk d)(G:N n=some nd)(m:Int)(k:∀(H':Hp)(s':BS),NR c CN H' a b s' aC (cy N n (some { nd with ln:=m })) bk (d+1)->dJ b s H s' H'->Q .bh H'):vf c CN [.ref a,.int n,.int m] H Q e3:=by
 let#[I,L]:=A.R.use n nd G;let#[r,Z,lr,hr,_]:=A.at I L;let l5:(fill ((bk n).take 5) 5).9=5:=dQ (by rw[IF];omega);rw[G,kD]at hr;let U:=A.R.rg n;let ab:=rB I L;let eb:rj bk n (bk n)=bk:=funext λj=>by
  unfold rj;cases z:j=n
  .rw[acW z,z]
  .rw[acV z]
 show#[77,m,r,2,_,0,A.O,I,L,Z,hr,l5,λH' s' O g dd st=>k H' s' #[O,?_,WK dd (Zj A.d 1)] st];have:=A.R.upd (l2:=lb s') I L (some { nd with ln:=m }) (bk n) lr Z (by rw[A.R.len n,G];rfl) U (λi j y hi Y=>(A.R.Hn n n i j y hi Y).2) (λp hp y F w=>by
  let#[i,hi]:=Yi F;let#[j,Y]:=Yi w;show hp (A.R.Hn p n j i y Y hi).1) (λaa e=>by injection e with e;rw[<-e];show A.R.xS n nd G) (by rw[g,acW rfl];rfl) (λj h _=>by rw[g,acV h]) (λy F=>by rw[g,acV (by have:=U y (L1 F);omega)];show A.R.Rp n y F) (λaa e kk y F=>by injection e with e;rw[<-e,g,acV (by have:=U y (qR F);omega)];show A.R.QF n nd G kk y F)
 rw[eb]at this;show this
inductive JS(c:DA)(CN:zB0)(v:qAf)(H:Hp)(Q:VK)(e:XK):Prop
 |mk(a:zB0)(b:BA)(s:BS)(aC d:Nat)(N:NS)(bk:qa4)(n:Int)(kd:Bool)(_:v=[.ref a,.int n,.str (n6 kd)])(_:NR c CN H a b s aC N bk d)(_:0<=n)(_:n<24)(_:∀(H':Hp)(s':BS),NR c CN H' a b s' aC (cy N n (some #[101])) (rj bk n []) (d+1)->dJ b s H s' H'->Q .bh H')
abbrev Se:Wo:=inClass (top 41) 5
def UG:aA ["self","n","kind"] ["self","n","kind"] (ax Se):=L2.bg
theorem vg{P:BY}{w:Oi}{K:Wa}{mg:qa3}{base:Heap}{f:zB0}{fd:DO}(F:b4 K "begin_node" "Nodes.begin_node" Se f fd)(T:mJ K mg CN)(GP:↥Md 4 CN "put_row" (jq c CN)):↥aU 5 f fd ["self","n","kind"] (JS c CN):=by
 let#[Z,mK,hK]:=T.KN;show F.dg UG ?_;intros;let#[a,b,s',aC,d,N,bk,n,kd,rfl,G,I,L,k]:=h;let#[dx,ho]:=G.O.ob;let#[r,U,_]:=G.at I L;show#[_,%[0,hr,j,ag,GP,J,d,ee,PySem.F.plainAttrs_tuple,Z7,PySem.F.type_tuple_index,CA,B,mK,h,bO,bO,a,aC|9],?_];show#[21,ho,11,?_];show#[.inr (.inl #[rfl,T.KT Z mK]),0,Z,_,.str (n6 kd),if kd=true then 2 else 1,1,hK.up _,1,5,?_]
 .cases kd<;>decide +kernel
 .cases kd
  .intro i hi;have:i=0:=(by(simp at hi;omega));subst this;decide +kernel
  .intro i hi;have:i=0\/i=1:=(by(simp at hi;omega));rcases this with rfl|rfl<;>decide +kernel
 show#[aE,λl hf=>?_];let Y:=au (X:=.lst []) hf;show#[76,n,_,(1),(0),l,[],r,rfl,G.O.same Y,I,L,U,ag,aE,λH' s2 N2 g2 d2 aa=>k H' s2 (G.bare I L U (some #[101]) (show bf 0=0 by decide) (λnd e=>by injection e with e;rw[<-e]) N2 (λj=>?_) (SW d2)) (aa.pre Y)];rw[g2 j];cases kd<;>rfl
end Fs
namespace L2
open PySem PySem.Spec PyProof.Rows
theorem Md.imp{P:BY}{w:Oi}{K:Wa}{mg:qa3}{base:Heap}{I:p7}{k k':Nat}{C:zB0}{m:Str}{sp L:Sp}(G:Md P w K mg base I k C m sp)(hk:k<=k')(h:∀vs H Q E,L vs H Q E->sp vs H Q E):Md P w K mg base I k' C m L:=by
 let#[f,fd,ps,F,B,M]:=G;show#[f,fd,ps,(F.mono hk).imp h,B,M]
end L2
namespace Fs
open PySem L2 Dk Tb
noncomputable def us(N:NS)(m:Nat):Nat:=((Wu m).map λi:Nat=>wx (N (i:Int))).sum
def m5(N:NS)(m:Nat):us N (m+1)=us N m+wx (N (m:Int)):=by
 unfold us;rw[Ys,yl,sum_append];change _+(_+0)=_;omega
theorem Kw(N:NS)(n:Int)(x:Option Node)(G:0<=n):∀m:Nat,us (cy N n x) m+(if n<m then wx (N n)else 0)=us N m+(if n<m then wx x else 0)
 |0=>by rw[acV av,acV av];rfl
 |m+1=>by
  let F:=Kw N n x G m;rw[m5,m5];cases z:(m:Int)=n
  .rw[acV av,acV av]at F;rw[acW av,acW av,show cy N n x (m:Int)=x from acW z,z];omega
  .rw[show cy N n x (m:Int)=N (m:Int)from acV z];cases y:n<m
   .rw[acW y,acW y]at F;rw[acW av,acW av];omega
   .rw[acV y,acV y]at F;rw[acV av,acV av];omega
variable{aC:Nat}{N:NS}{bk:qa4}{l1:Int->Option (List Int)}
theorem Rep.AG(R:Rep l1 aC N bk):∀m,(yx bk m).9=us N m
 |0=>rfl
 |m+1=>by rw[mi,ti,R.AG m,m5,R.len]
theorem Rep.G3(R:Rep l1 aC N bk)(n:Int):(bk n).4:=by
 show W3.mpr λi j hi F G e=>?_;have:=(R.Hn n n i j _ (y0 hi) (by rw[e];show y0 F)).2;omega
theorem Rep.tS(R:Rep l1 aC N bk):∀m,(yx bk m).4
 |0=>Xj
 |m+1=>by
  rw[mi];show Wl.mpr #[R.tS m,R.G3 m,λx F y L e=>?_];subst e;let#[i,h1,h2]:=qh.mp F;let#[p,G]:=Yi h2;let#[q,I]:=Yi L;have:=(R.Hn _ _ p q x G I).1;omega
theorem Rep.Fj(R:Rep l1 aC N bk):(ub aC bk).9+us N 24=aC:=by
 rw[<-R.AG 24];let G:((Wu aC).map λi:Nat=>48+(i:Int)).4:=ZY _ (λa b h e=>h av) aaS;let F:=R.tS 24;let sub:∀x∈yx bk 24,x∈(Wu aC).map λi:Nat=>48+(i:Int):=λx I=>by
  let#[i,_,h2]:=qh.mp I;have:=R.rg _ x h2;show z4.mpr #[(x-48).5,YO.mpr av,av]
 let p:(((Wu aC).map λi:Nat=>48+(i:Int)).filter λx => !yb bk x).Perm (yx bk 24):=by
  show(Yu (G.filter _) F).mpr λx=>?_;rw[WA];unfold yb;show#[λh=>?_,λh=>#[sub x h,?_]]
  .show WJ λw=>?_;rw[zA1 w]at h;show absurd h.2 (by nofun)
  .rw[zA2 (λw=>w h)];rfl
 rw[<-p.length_eq];let e:=YU (yb bk) (l:=(Wu aC).map λi:Nat=>48+(i:Int));rw[Xn,Xn]at e;let L:(((Wu aC).map λi:Nat=>48+(i:Int)).filter λx=>decide (¬ yb bk x=true))=((Wu aC).map λi:Nat=>48+(i:Int)).filter λx => !yb bk x:=congrArg (λf=>List.filter f _) (funext λx=>by cases yb bk x<;>rfl);rw[L]at e;rw[dM,YT]at e;unfold ub;omega
structure Je(aC:Nat)(N:NS):Prop where
 use:∀n nd,N n=some nd->0<=n/\n<24
 xS:∀n nd,N n=some nd->nd.cs.9<=320
 fit:us N 24<=aC
 tt:aC<=252
structure cU where
 C:zB0
 St:Type
 At:Hp->zB0->St->Nat->NS->Nat->Prop
 own:St->zB0->Prop
abbrev cU.Step(M:cU)(m:M.St)(H:Hp)(m':M.St)(H':Hp):Prop:=Off (M.own m) H H'/\∀a,M.own m' a->M.own m a\/H a=none
section
variable(M:cU)
inductive Az(v:qAf)(H:Hp)(Q:VK)(e:XK):Prop
 |mk(a:zB0)(m:M.St)(aC d:Nat)(N:NS)(n:Int)(_:v=[.ref a,.int n])(_:M.At H a m aC N d)(_:∀H',aO H H'->Q (K0 (N n)) H')
inductive vm(v:qAf)(H:Hp)(Q:VK)(e:XK):Prop
 |mk(a:zB0)(m:M.St)(aC d:Nat)(N:NS)(n:Int)(nd:Node)(_:v=[.ref a,.int n])(_:M.At H a m aC N d)(_:N n=some nd)(_:∀H',aO H H'->Q (.int nd.ln) H')
inductive Bq(v:qAf)(H:Hp)(Q:VK)(e:XK):Prop
 |mk(a:zB0)(m:M.St)(aC d:Nat)(N:NS)(n:Int)(nd:Node)(_:v=[.ref a,.int n])(_:M.At H a m aC N d)(_:N n=some nd)(_:∀H',aO H H'->Q (.int nd.cs.9) H')
inductive vt(v:qAf)(H:Hp)(Q:VK)(e:XK):Prop
 |mk(a:zB0)(m:M.St)(aC d:Nat)(N:NS)(n:Int)(nd:Node)(_:v=[.ref a,.int n])(_:M.At H a m aC N d)(_:N n=some nd)(_:∀(H':Hp)(q:zB0),aO H H'->H q=none->H' q∣(nd.cs.map V.int)->Q (.ref q) H')
inductive vN(v:qAf)(H:Hp)(Q:VK)(e:XK):Prop
 |mk(a:zB0)(m:M.St)(aC d:Nat)(N:NS)(n:Int)(kd:Bool)(_:v=[.ref a,.int n,.str (n6 kd)])(_:M.At H a m aC N d)(_:N n=none)(_:0<=n)(_:n<24)(_:∀(H':Hp)(m':M.St),M.At H' a m' aC (cy N n (some #[101])) (d+1)->M.Step m H m' H'->Q .bh H')
inductive Jv(v:qAf)(H:Hp)(Q:VK)(e:XK):Prop
 |mk(a:zB0)(m:M.St)(aC d:Nat)(N:NS)(n:Int)(nd:Node)(_:v=[.ref a,.int n])(_:M.At H a m aC N d)(_:N n=some nd)(_:∀(H':Hp)(m':M.St),M.At H' a m' aC (cy N n none) (d+1)->M.Step m H m' H'->Q .bh H')
inductive zJ(v:qAf)(H:Hp)(Q:VK)(e:XK):Prop
 |mk(a:zB0)(m:M.St)(aC d:Nat)(N:NS)(n ln:Int)(nd:Node)(_:v=[.ref a,.int n,.int ln])(_:M.At H a m aC N d)(_:N n=some nd)(_:∀(H':Hp)(m':M.St),M.At H' a m' aC (cy N n (some { nd with ln:=ln })) (d+1)->M.Step m H m' H'->Q .bh H')
inductive Ax(v:qAf)(H:Hp)(Q:VK)(e:XK):Prop
 |mk(a:zB0)(m:M.St)(aC d:Nat)(N:NS)(n:Int)(nd:Node)(l:zB0)(cs:qAa)(_:v=[.ref a,.int n,.ref l])(_:M.At H a m aC N d)(_:N n=some nd)(_:H l∣(cs.map V.int))(_:¬ M.own m l)(_:cs.9<=320)(_:us N 24+bf cs.9<=aC+bf nd.cs.9)(_:∀(H':Hp)(m':M.St),M.At H' a m' aC (cy N n (some { nd with cs:=cs })) (d+r9 nd.cs cs (nb cs.9)+2)->M.Step m H m' H'->Q .bh H')
inductive Hu(v:qAf)(H:Hp)(Q:VK)(e:XK):Prop
 |mk(a:zB0)(m:M.St)(aC d:Nat)(N:NS)(_:v=[.ref a])(_:M.At H a m aC N d)(_:d<=24)(_:∀(H':Hp)(m':M.St),M.At H' a m' aC N 0->M.Step m H m' H'->Q .bh H')
end
noncomputable def V4:List Str:=["kind_of","links_of","size_of","cells_of","begin_node","end_node","put_links","put_cells","finish"]
structure cU.Ok(M:cU)(P:BY)(w:Oi)(K:Wa)(mg:qa3)(base:Heap):Prop where
 cl:qa K M.C
 nT:dj K M.C "total"
 ob:∀{H:Hp}{a:zB0}{m:M.St}{aC:Nat}{N:NS}{d:Nat},M.At H a m aC N d->∃dx fs,H a=some (.ins M.C dx fs)/\fs.lookup ("total" : Str)=some (V.int (aC:Nat))/\∀x∈V4,fs.lookup x=none
 na:∀{H a m aC N d},M.At H a m aC N d->¬ M.own m a
 live:∀{H a m aC N d x},M.At H a m aC N d->M.own m x->H x≠none
 nt:∀{H a m aC N d x ys},M.At H a m aC N d->M.own m x->H x≠some (.tup ys)
 off:∀{H H' a m aC N d}{B:qa0},M.At H a m aC N d->Off B H H'->(∀x,M.own m x->¬ B x)->¬ B a->M.At H' a m aC N d
 ok:∀{H a m aC N d},M.At H a m aC N d->Je aC N
 le:∀{H a m aC N d e},M.At H a m aC N d->d<=e->M.At H a m aC N e
 kind:↥Md 7 M.C "kind_of" (Az M)
 links:↥Md 7 M.C "links_of" (vm M)
 size:↥Md 7 M.C "size_of" (Bq M)
 cells:↥Md 7 M.C "cells_of" (vt M)
 begin:↥Md 7 M.C "begin_node" (vN M)
 end_:↥Md 7 M.C "end_node" (Jv M)
 putL:↥Md 7 M.C "put_links" (zJ M)
 yI:↥Md 7 M.C "put_cells" (Ax M)
 fin:↥Md 7 M.C "finish" (Hu M)
variable{M:cU}{P:BY}{w:Oi}{K:Wa}{mg:qa3}{base:Heap}{H H':Hp}{a:zB0}{d:Nat}
theorem cU.Ok.same(O:M.Ok P w K mg base){m:M.St}(A:M.At H a m aC N d)(s:aO H H'):M.At H' a m aC N d:=O.off (B:=λ_=>False) A (λx u e _=>s x u e) (λ_ _ z=>z) id
noncomputable abbrev tX(c:DA)(CN:zB0):cU:=#[CN,BA×BS×(Int->List Int),λH a m aC N d=>NR c CN H a m.1 m.2.1 aC N m.2.2 d,λm x=>jZ m.1 m.2.1 x]
variable{c:DA}{CN:zB0}
theorem NR.na{b:BA}{s:BS}(F:NR c CN H a b s aC N bk d):¬ jZ b s a:=λz=>by
 let#[dx,ho]:=F.O.ob;let#[Y,h2]:=F.O.B.ob;rcases z with z|z|z|z|z|⟨x,I,z⟩
 .rw[z,h2]at ho;simp only[Xi,HO.ins.injEq]at ho;have:=ho.2.2;rw[kh kd,kh kn]at this;injection this with t _;injection t with L _;show absurd L aF
 .let#[G,#[U,q],_]:=F.O.B.dk;rw[z,q]at ho;simp only[Xi,HO.ins.injEq]at ho;have:=ho.2.2;rw[fE,kh kn]at this;injection this with _ t;injection t with _ t;cases t
 .let#[G,D]:=F.O.B.dk;rwa[z,D.hb]at ho
 .rw[z,F.O.B.hd]at ho;cases ho
 .let#[G,D]:=F.O.B.dk;let#[ns,q]:=ir D.hc a z;rwa[q.1]at ho
 .rw[z,(F.O.B.hr x I).1]at ho;cases ho
theorem Lx(T:mJ K mg CN)(gK:↥Md 5 CN "kind_of" (vv c CN))(gL:↥Md 5 CN "links_of" (lE 1 c CN))(gS:↥Md 5 CN "size_of" (lE 2 c CN))(gC:↥Md 6 CN "cells_of" (LF c CN))(Z:↥Md 5 CN "begin_node" (JS c CN))(gE:↥Md 5 CN "end_node" (me c CN))(gP:↥Md 5 CN "put_links" (vf c CN))(ab:↥Md 7 CN "put_cells" (NV c CN))(gF:↥Md 7 CN "finish" (qY c CN)):(tX c CN).Ok P w K mg base where
 cl:=T.cl
 nT:=T.nT
 ob A:=by
  let#[dx,h]:=A.O.ob;show#[dx,_,h,vz,λx I=>bJ ?_ ?_]
  .intro e;subst e;show absurd I aF
  .intro e;subst e;show absurd I aF
 na A:=A.na
 live A h:=A.O.B.live h
 nt A h e:=by
  let#[ad,h2]:=A.O.B.ob;let#[d0,D]:=A.O.B.dk;let#[ac,q0]:=D.ob;rcases h with z|z|z|z|z|⟨x,I,z⟩
  .rw[z,h2]at e;cases e
  .rw[z,q0]at e;cases e
  .rw[z,D.hb]at e;cases e
  .rw[z,A.O.B.hd]at e;cases e
  .let#[ns,q]:=ir D.hc _ z;rwa[q.1]at e
  .rw[z,(A.O.B.hr x I).1]at e;cases e
 off A o h1 h2:=by
  let#[dx,h]:=A.O.ob;show#[#[#[dx,o _ _ h h2],A.O.B.off o h1,A.O.tt],A.R,A.d]
 ok A:=#[A.R.use,A.R.xS,by have:=A.R.Fj;omega,by have:=A.O.tt;have:=A.O.B.ln;omega]
 le A h:=#[A.O,A.R,WK A.d h]
 kind:=gK.imp aE λvs H Q E h=>by
  let#[a,m,aC,d,N,n,rfl,A,q]:=h;show A.kind q
 links:=gL.imp aE λvs H Q E h=>by
  let#[a,m,aC,d,N,n,nd,rfl,A,F,q]:=h;show A.links F q
 size:=gS.imp aE λvs H Q E h=>by
  let#[a,m,aC,d,N,n,nd,rfl,A,F,q]:=h;show A.size F q
 cells:=gC.imp aE λvs H Q E h=>by
  let#[a,m,aC,d,N,n,nd,rfl,A,F,q]:=h;show#[a,2,aC,d,N,_,n,60,A,F,q]
 begin:=Z.imp aE λvs H Q E h=>by
  let#[a,m,aC,d,N,n,kd,rfl,A,_,L,U,q]:=h;show#[a,2,aC,d,N,_,n,kd,rfl,A,L,U,λH' s' G st=>q H' (m.1,s',_) G st]
 end_:=gE.imp aE λvs H Q E h=>by
  let#[a,m,aC,d,N,n,nd,rfl,A,F,q]:=h;let#[L,U]:=A.R.use n nd F;show A.Sr L U λH' s' G st=>q H' (m.1,s',_) G st
 putL:=gP.imp aE λvs H Q E h=>by
  let#[a,m,aC,d,N,n,ln,nd,rfl,A,F,q]:=h;show A.putL F ln λH' s' G st=>q H' (m.1,s',_) G st
 yI:=ab.imp aE λvs H Q E h=>by
  let#[a,m,aC,d,N,n,nd,l,cs,rfl,A,F,Y,no,l3,sp,q]:=h;let e:=A.R.Fj;let e2:(m.2.2 n).9=bf nd.cs.9:=(by rw[A.R.len n,F];rfl);show#[a,2,aC,d,N,_,n,nd,l,cs,rfl,A,F,Y,no,l3,av,λH' s' aa G st=>q H' (m.1,s',aa) G st]
 fin:=gF.imp aE λvs H Q E h=>by
  let#[a,m,aC,d,N,rfl,A,hd,q]:=h;show#[a,2,aC,d,N,0,A,hd,λH' s' G _ st=>q H' (m.1,s',_) G st]
noncomputable def Fo(t k l s:V):List (Str×V):=bP "lists" s (bP "links" l (bP "kinds" k (bP "total" t [])))
variable{t k l s:V}
def PY:(Fo t k l s).lookup ("total" : Str)=some t:=by unfold Fo;rw[aY,acV aF,aY,acV aF,aY,acV aF,aY,acW rfl]
def Fn:(Fo t k l s).lookup ("kinds" : Str)=some k:=by unfold Fo;rw[aY,acV aF,aY,acV aF,aY,acW rfl]
def z9:(Fo t k l s).lookup ("links" : Str)=some l:=by unfold Fo;rw[aY,acV aF,aY,acW rfl]
def xN:(Fo t k l s).lookup ("lists" : Str)=some s:=by unfold Fo;rw[aY,acW rfl]
theorem Ml{m:Str}(h1:¬ m = "total")(h2:¬ m = "kinds")(G:¬ m = "links")(F:¬ m = "lists"):(Fo t k l s).lookup m=none:=by unfold Fo;rw[aY,acV F,aY,acV G,aY,acV h2,aY,acV h1];rfl
abbrev PV:=zB0×Node
noncomputable def fk(x:PV):V:=.str (n6 x.2.dir)
def fl(x:PV):V:=.int x.2.ln
def fs(x:PV):V:=.ref x.1
structure PS where
 kd:zB0
 lk:zB0
 ls:zB0
 L:List (Int×PV)
structure xH(CP:zB0)(H:Hp)(a:zB0)(m:PS)(aC:Nat)(N:NS)(d:Nat):Prop where
 ob:∃dx,H a=some (.ins CP dx (Fo (.int aC) (.ref m.kd) (.ref m.lk) (.ref m.ls)))
 hk:H m.kd^^^(dk fk m.L)
 hl:H m.lk^^^(dk fl m.L)
 hs:H m.ls^^^(dk fs m.L)
 hr:∀x∈m.L,H x.2.1∣(x.2.2.cs.map V.int)
 nd:(m.L.map (·.1)).4
 ne:m.kd≠m.lk/\m.kd≠m.ls/\m.lk≠m.ls
 eN:∀n,N n=(look m.L n).map (·.2)
 ok:Je aC N
def yu(m:PS)(x:zB0):Prop:=x=m.kd\/x=m.lk\/x=m.ls\/∃y∈m.L,x=y.2.1
abbrev j4(CP:zB0):cU:=#[CP,PS,xH CP,yu]
structure Dh(K:Wa)(mg:qa3)(CP:zB0):Prop where
 cl:qa K CP
 nT:dj K CP "total"
 nK:dj K CP "kinds"
 nL:dj K CP "links"
 nS:dj K CP "lists"
 len:mg "len" = none
 list:mg "list" = none
variable{CP:zB0}{m:PS}{n:Int}
theorem xH.at{nd:Node}(A:xH CP H a m aC N d)(F:N n=some nd):∃q,look m.L n=some (q,nd)/\H q∣(nd.cs.map V.int):=by
 rw[A.eN]at F;let#[#[q,G],e,rfl]:=HC.mp F;show#[q,e,A.hr _ (d7 e)]
theorem xH.len(A:xH CP H a m aC N d):m.L.9<=24:=by
 have:=OA 24 0 (m.L.map (·.1)) A.nd λx G=>by
  let#[y,F,rfl]:=z4.mp G;let e:=kK A.nd (show(y.1,y.2)∈m.L from F);have:=A.ok.use y.1 y.2.2 (by rw[A.eN,e];rfl);omega
 (rw[dM]at this;assumption)
variable{x:zB0}
theorem xH.live(A:xH CP H a m aC N d)(h:yu m x):H x≠none:=by
 rcases h with rfl|rfl|rfl|⟨y,F,rfl⟩
 .rw[A.hk];nofun
 .rw[A.hl];nofun
 .rw[A.hs];nofun
 .rw[A.hr y F];nofun
theorem xH.na(A:xH CP H a m aC N d):¬ yu m a:=λh=>by
 let#[dx,e]:=A.ob;rcases h with h|h|h|⟨y,F,h⟩
 .rw[h,A.hk]at e;cases e
 .rw[h,A.hl]at e;cases e
 .rw[h,A.hs]at e;cases e
 .rw[h,A.hr y F]at e;cases e
theorem xH.off{B:qa0}(A:xH CP H a m aC N d)(o:Off B H H')(h1:∀x,yu m x->¬ B x)(h2:¬ B a):xH CP H' a m aC N d:=by
 let#[dx,e]:=A.ob;show#[#[dx,o _ _ e h2],o _ _ A.hk (h1 _ (.inl rfl)),o _ _ A.hl (h1 _ (.inr (.inl rfl))),o _ _ A.hs (h1 _ (.inr (.inr (.inl rfl)))),λx F=>o _ _ (A.hr x F) (h1 _ (.inr (.inr (.inr #[x,F,rfl])))),A.nd,A.ne,A.eN,A.ok]
abbrev To:Wo:=inClass (top 78) 1
abbrev Ni:Wo:=inClass (top 78) 2
abbrev M3:Wo:=inClass (top 78) 3
abbrev LC:Wo:=inClass (top 78) 4
abbrev Ob:Wo:=inClass (top 78) 9
def Tj:aA ["self","n"] ["self","n"] (ax To):=L2.bg
variable{f:zB0}{fd:DO}
theorem Gk(F:b4 K "kind_of" "PlainNodes.kind_of" To f fd)(T:Dh K mg CP):↥aU 1 f fd ["self","n"] (Az (j4 CP)):=by
 show F.dg Tj ?_;intros;let#[a,m,aC,d,N,n,rfl,G,q]:=h;let#[dx,ho]:=G.ob;show#[_,%[0,0,b,br,Fd,m,aG,bT|9],?_];let g:=dG.k (k:=V8 n) G.hk;rw[cz]at g;show#[71,m.kd,rfl,.inl #[_,.inl G.hk],0,_,g,?_];let e:((look m.L n).map fk).getD .bh=K0 (N n):=by
  rw[G.eN n];cases look m.L n<;>rfl
 rw[e];show q H λ_ _ e=>e
def OQ:aA ["self","n"] ["self","n"] (ax Ni):=L2.bg
theorem C7(F:b4 K "links_of" "PlainNodes.links_of" Ni f fd)(T:Dh K mg CP):↥aU 1 f fd ["self","n"] (vm (j4 CP)):=by
 show F.dg OQ ?_;intros;let#[a,m,aC,d,N,n,nd,rfl,G,I,q]:=h;let#[dx,ho]:=G.ob;let#[p,L,_]:=G.at I;show#[_,%[0,0,b,aN,m,aG|9],?_];let g:=dG.k (k:=V8 n) G.hl;rw[cz,L]at g;show#[28,_,.ref m.lk,47,T.nL,z9,0,m.lk,0,g,q H λ_ _ e=>e]
def Q0:aA ["self","n"] ["self","n"] (ax M3):=L2.bg
theorem GY(F:b4 K "size_of" "PlainNodes.size_of" M3 f fd)(T:Dh K mg CP):↥aU 1 f fd ["self","n"] (Bq (j4 CP)):=by
 show F.dg Q0 ?_;intros;let#[a,m,aC,d,N,n,nd,rfl,G,I,q]:=h;let#[dx,ho]:=G.ob;let#[p,L,U]:=G.at I;show#[_,%[0,0,b,l,a,aN,m,aG|9],?_];let g:=dG.k (k:=V8 n) G.hs;rw[cz,L]at g;show#[72,47,T.nS,xN,0,m.ls,0,g,p,0,.inl (a9.of U),?_];rw[dM];show q H λ_ _ e=>e
def OP:aA ["self","n"] ["self","n"] (ax LC):=L2.bg
theorem CG(F:b4 K "cells_of" "PlainNodes.cells_of" LC f fd)(T:Dh K mg CP):↥aU 1 f fd ["self","n"] (vt (j4 CP)):=by
 show F.dg OP ?_;intros;let#[a,m,aC,d,N,n,nd,rfl,G,L,q]:=h;let#[dx,ho]:=G.ob;let#[p,U,Y]:=G.at L;show#[_,%[0,0,b,cb,a,aN,m,aG|9],?_];let g:=dG.k (k:=V8 n) G.hs;rw[cz,U]at g;show#[72,47,T.nS,xN,0,m.ls,0,g,p,0,.inl (a9.of Y),λl I=>q _ l (au I) I ag]
def Po:aA ["self"] ["self"] (ax Ob):=L2.bg
theorem JC(F:b4 K "finish" "PlainNodes.finish" Ob f fd)(T:Dh K mg CP):↥aU 1 f fd ["self"] (Hu (j4 CP)):=by
 show F.dg Po ?_;intros;let#[a,m,aC,d,N,rfl,G,_,q]:=h;show#[_,(ai Hq),q H m #[G.ob,G.hk,G.hl,G.hs,G.hr,G.nd,G.ne,G.eN,G.ok] #[96,λ_ h=>.inl h]]
def Gg{y:zB0}{v:HO}(h:upd H x v y=none):H y=none:=by
 cases z:y=x
 .subst z;rwa[ag]at h
 .rw[ay z]at h;show h
theorem qd{f:PV->V}{l:List (Int×PV)}{k:Int}{a b:PV}(nd:(l.map (·.1)).4)(h:look l k=some b)(e:f a=f b):dk f (dI l k a)=dk f l:=by
 unfold dk dI;rw[WU];show Xs λx F=>?_;change(V8 (if x.1=k then(k,a)else x).1,f (if x.1=k then(k,a)else x).2)=_;cases z:x.1=k
 .have:=kK nd (show(x.1,x.2)∈l from F);rw[z,h]at this;injection this with this;rw[acW z, <-this,e,z]
 .rw[acV z]
theorem Je.up(K:Je aC N)(G:0<=n)(F:n<24)(x:Option Node)(I:∀nd,x=some nd->nd.cs.9<=320)(h:us N 24+wx x<=aC+wx (N n)):Je aC (cy N n x):=by
 show#[λm nd e=>?_,λm nd e=>?_,?_,K.tt]
 .cases z:m=n
  .rw[z];show#[G,F]
  .rw[show cy N n x m=N m from acV z]at e;show K.use m nd e
 .cases z:m=n
  .rw[show cy N n x m=x from acW z]at e;show I nd e
  .rw[show cy N n x m=N m from acV z]at e;show K.xS m nd e
 .have:=Kw N n x G 24;rw[acW (show n<((24:Nat):Int)from F),acW (show n<((24:Nat):Int)from F)]at this;omega
theorem xH.re{d':Nat}{N':NS}(A:xH CP H a m aC N d)(F:List (Int×PV))(hk:H' m.kd^^^(dk fk F))(Z:H' m.lk^^^(dk fl F))(hs:H' m.ls^^^(dk fs F))(o:∀x u,H x=some u->x≠m.kd->x≠m.lk->x≠m.ls->H' x=some u)(Y:∀x∈F,(H x.2.1=none/\H' x.2.1∣(x.2.2.cs.map V.int))\/(∃y∈m.L,x.2.1=y.2.1/\x.2.2.cs=y.2.2.cs))(nd:(F.map (·.1)).4)(eN:∀n,N' n=(look F n).map (·.2))(ok:Je aC N'):xH CP H' a #[m.kd,m.lk,m.ls,F] aC N' d'/\(j4 CP).Step m H #[m.kd,m.lk,m.ls,F] H':=by
 let na:=A.na;let#[dx,ho]:=A.ob;let nl:∀y∈m.L,y.2.1≠m.kd/\y.2.1≠m.lk/\y.2.1≠m.ls:=λy G=>by
  let e:=A.hr y G;show#[130,130,130]
  .rw[z,A.hk]at e;cases e
  .rw[z,A.hl]at e;cases e
  .rw[z,A.hs]at e;cases e
 show#[#[#[dx,o _ _ ho (λz=>na (.inl z)) (λz=>na (.inr (.inl z))) λz=>na (.inr (.inr (.inl z)))],hk,Z,hs,λx I=>?_,nd,A.ne,eN,ok],λx u e z=>o x u e (λy=>z (.inl y)) (λy=>z (.inr (.inl y))) (λy=>z (.inr (.inr (.inl y)))),λx I=>?_]
 .rcases Y x I with h|⟨y,G,U,e2⟩
  .show h.2
  .let#[z1,z2,z3]:=nl y G;rw[U,e2];show o _ _ (A.hr y G) z1 z2 z3
 .rcases I with h|h|h|⟨y,G,h⟩
  .show .inl (.inl h)
  .show .inl (.inr (.inl h))
  .show .inl (.inr (.inr (.inl h)))
  .rcases Y y G with q|⟨y2,aa,U,_⟩
   .show .inr (by rw[h];show q.1)
   .show .inl (.inr (.inr (.inr #[y2,aa,h.trans U])))
noncomputable abbrev Mq:Wo:=inClass (top 78) 5
abbrev MV:Wo:=inClass (top 78) 6
abbrev NT:Wo:=inClass (top 78) 7
abbrev NF:Wo:=inClass (top 78) 8
def Qc:aA ["self","n","links"] ["self","n","links"] (ax NT):=L2.bg
theorem EI(F:b4 K "put_links" "PlainNodes.put_links" NT f fd)(T:Dh K mg CP):↥aU 1 f fd ["self","n","links"] (zJ (j4 CP)):=by
 show F.dg Qc ?_;intros;let#[a,m,aC,d,N,n,ln,nd,rfl,G,U,q]:=h;let hs:=DD;let#[dx,ho]:=G.ob;let#[p,I,_]:=G.at U;let#[n0,n1]:=G.ok.use n nd U;let ll:=G.len;show#[_,%[0,0,k,bp,m,aG,2|9],?_];show#[0,28,_,.ref m.lk,47,T.nL,z9,0,m.lk,0,j3.k (k:=V8 n) G.hl (by rw[gz];omega),?_];rw[show putK (dk fl m.L) (V8 n) (V.int ln)=dk fl (dI m.L n (p, { nd with ln:=ln }))from ju (f:=fl) (a:=(p, { nd with ln:=ln })) I];let#[Y,st]:=G.re (d':=d+1) (H':=upd H m.lk (.dK (dk fl (dI m.L n (p, { nd with ln:=ln }))))) (N':=cy N n (some { nd with ln:=ln })) (dI m.L n (p, { nd with ln:=ln })) (by rw[ay G.ne.1,qd (f:=fk) (a:=(p, { nd with ln:=ln })) G.nd I rfl];show G.hk) ag (by rw[ay G.ne.2.2.6,qd (f:=fs) (a:=(p, { nd with ln:=ln })) G.nd I rfl];show G.hs) (λx u e _ z _=>by rw[ay z];show e) (λx Z=>by
  rcases mem_set Z with rfl|h
  .show .inr #[_,d7 I,1]
  .show .inr #[x,h.1,1]) (by rw[kr];show G.nd) (λj=>by
  rw[iM j I];cases z:j=n
  .rw[show cy N n _ j=_ from acW z,acW z];rfl
  .rw[show cy N n _ j=N j from acV z,acV z];show G.eN j) (G.ok.up n0 n1 _ (λaa e=>by injection e with e;rw[<-e];show G.ok.xS n nd U) (by
  rw[U];change _+bf _<=_+bf _;have:=G.ok.fit;omega))
 show q _ _ Y st
def Pk:aA ["self","n","cells"] ["self","n","cells"] (ax NF):=L2.bg
theorem Gi(F:b4 K "put_cells" "PlainNodes.put_cells" NF f fd)(T:Dh K mg CP):↥aU 1 f fd ["self","n","cells"] (Ax (j4 CP)):=by
 show F.dg Pk ?_;intros;let#[a,m,aC,d,N,n,nd,l,cs,rfl,G,Z,hl,_,l3,sp,q]:=h;let hs:=DD;let#[dx,ho]:=G.ob;let#[p,Y,_]:=G.at Z;let#[n0,n1]:=G.ok.use n nd Z;let ll:=G.len;show#[_,%[0,0,k,bp,m,aG,cb,h|9],?_];show#[0,65,λr U=>?_];let I:=au (X:=.lst (cs.map V.int)) U;show#[72,rfl,I _ _ ho,T.cl,T.nS,xN,0,m.ls,0,j3.k (k:=V8 n) (I _ _ G.hs) (by rw[gz];omega),?_];rw[show putK (dk fs m.L) (V8 n) (V.ref r)=dk fs (dI m.L n (r, { nd with cs:=cs }))from ju (f:=fs) (a:=(r, { nd with cs:=cs })) Y];let nr:r≠m.ls:=λe=>(by rwa[e,G.hs]at U);let#[A2,st]:=G.re (d':=d+r9 nd.cs cs (nb cs.9)+2) (H':=upd (upd H r (.lst (cs.map V.int))) m.ls (.dK (dk fs (dI m.L n (r, { nd with cs:=cs }))))) (N':=cy N n (some { nd with cs:=cs })) (dI m.L n (r, { nd with cs:=cs })) (by rw[ay G.ne.2.1,qd (f:=fk) (a:=(r, { nd with cs:=cs })) G.nd Y rfl];show I _ _ G.hk) (by rw[ay G.ne.2.2,qd (f:=fl) (a:=(r, { nd with cs:=cs })) G.nd Y rfl];show I _ _ G.hl) ag (λx u e _ _ z=>by rw[ay z];show I _ _ e) (λx hx=>by
  rcases mem_set hx with rfl|h
  .show .inl #[U,by rw[ay nr,ag]]
  .show .inr #[x,h.1,1]) (by rw[kr];show G.nd) (λj=>by
  rw[iM j Y];cases z:j=n
  .rw[show cy N n _ j=_ from acW z,acW z];rfl
  .rw[show cy N n _ j=N j from acV z,acV z];show G.eN j) (G.ok.up n0 n1 _ (λaa e=>by injection e with e;rw[<-e];show l3) (by rw[Z];show sp))
 show q _ _ A2 st
def QB:aA ["self","n","kind"] ["self","n","kind"] (ax Mq):=L2.bg
theorem BB(F:b4 K "begin_node" "PlainNodes.begin_node" Mq f fd)(T:Dh K mg CP):↥aU 1 f fd ["self","n","kind"] (vN (j4 CP)):=by
 show F.dg QB ?_;intros;let#[a,m,aC,d,N,n,kd,rfl,G,hn,n0,n1,q]:=h;let hs:=DD;let#[dx,ho]:=G.ob;let ll:=G.len;let na:=G.na;let U:look m.L n=none:=by
  have:=G.eN n;rw[hn]at this;show aax.mp this.6
 let pk:∀r:zB0,putK (dk fk m.L) (V8 n) (.str (n6 kd))=dk fk (m.L++[(n,(r,#[101]))]):=λr=>gc (f:=fk) (a:=(r,#[101])) U;let pl:∀r:zB0,putK (dk fl m.L) (V8 n) (.int 1)=dk fl (m.L++[(n,(r,#[101]))]):=λr=>gc (f:=fl) (a:=(r,#[101])) U;let ac:∀r:zB0,putK (dk fs m.L) (V8 n) (.ref r)=dk fs (m.L++[(n,(r,#[101]))]):=λr=>gc (f:=fs) (a:=(r,#[101])) U;show#[_,%[0,0,i,bp,m,aG,2,i,bp,m,aG,aw,k,bp,m,aG,aC|9],?_]
 show#[0,71,0,m.kd,0,j3.k (k:=V8 n) G.hk (by rw[gz];omega),?_];let k1:upd H m.kd (.dK (putK (dk fk m.L) (V8 n) (.str (n6 kd)))) m.kd^^^(putK (dk fk m.L) (V8 n) (.str (n6 kd))):=ag;let Y:∀x u,H x=some u->x≠m.kd->upd H m.kd (.dK (putK (dk fk m.L) (V8 n) (.str (n6 kd)))) x=some u:=λx u e z=>(by rw[ay z];show e);let f1:∀x,upd H m.kd (.dK (putK (dk fk m.L) (V8 n) (.str (n6 kd)))) x=none->H x=none:=λx=>Gg;generalize upd H m.kd (.dK (putK (dk fk m.L) (V8 n) (.str (n6 kd))))=H1 at *;let ab:a≠m.kd:=λz=>na (.inl z);let am:a≠m.lk:=λz=>na (.inr (.inl z));let ak:=Y _ _ G.hl G.ne.1.6;show#[28,_,.ref m.lk,rfl,Y _ _ ho ab,T.cl,T.nL,z9,0,m.lk,0,j3.k (k:=V8 n) ak (by rw[gz];omega),?_];let k2:upd H1 m.lk (.dK (putK (dk fl m.L) (V8 n) (.int 1))) m.lk^^^(putK (dk fl m.L) (V8 n) (.int 1)):=ag;let Z:∀x u,H1 x=some u->x≠m.lk->upd H1 m.lk (.dK (putK (dk fl m.L) (V8 n) (.int 1))) x=some u:=λx u e z=>(by rw[ay z];show e);let ad:∀x,upd H1 m.lk (.dK (putK (dk fl m.L) (V8 n) (.int 1))) x=none->H1 x=none:=λx=>Gg;generalize upd H1 m.lk (.dK (putK (dk fl m.L) (V8 n) (.int 1)))=H2 at *;show#[aE,λr fr=>?_];exists fr,(.lst []),I,k3,H3;let aj:=I _ _ (Z _ _ (Y _ _ G.hs G.ne.2.1.6) G.ne.2.2.6);show#[72,rfl,I _ _ (Z _ _ (Y _ _ ho ab) am),T.cl,T.nS,xN,0,m.ls,0,j3.k (k:=V8 n) aj (by rw[gz];omega),?_];let aa:H r=none:=f1 _ (ad _ fr);let nr:r≠m.ls:=λe=>(by rwa[e,G.hs]at aa);rw[ac r];rw[pk r]at k1;rw[pl r]at k2;let#[A2,st]:=G.re (d':=d+1) (H':=upd H3 m.ls (.dK (dk fs (m.L++[(n,(r,#[101]))])))) (N':=cy N n (some #[101])) (m.L++[(n,(r,#[101]))]) (by rw[ay G.ne.2.1];show I _ _ (Z _ _ k1 G.ne.1)) (by rw[ay G.ne.2.2];show I _ _ k2) ag (λx u e z1 z2 z3=>by rw[ay z3];show I _ _ (Z _ _ (Y _ _ e z1) z2)) (λx hx=>by
  rcases Wf.mp hx with h|h
  .show .inr #[x,h,1]
  .rw[sx]at h;subst h;show .inl #[aa,by rw[ay nr];show k3]) (by
  rw[yl];show Wl.mpr #[G.nd,by simp,λx hx y hy e=>?_];have:y=n:=‹hy›;show iD U (by rw[<-this, <-e];show hx)) (λj=>by
  rw[gD j U];cases z:j=n
  .rw[show cy N n _ j=_ from acW z,acW z];rfl
  .rw[show cy N n _ j=N j from acV z,acV z];show G.eN j) (G.ok.up n0 n1 _ (λap e=>by injection e with e;rw[<-e];show Xr _) (by
  have:=G.ok.fit;change _+bf 0<=_;rw[show bf 0=0 by decide];omega))
 show q _ _ A2 st
def O0:aA ["self","n"] ["self","n"] (ax MV):=L2.bg
theorem IQ(F:b4 K "end_node" "PlainNodes.end_node" MV f fd)(T:Dh K mg CP):↥aU 1 f fd ["self","n"] (Jv (j4 CP)):=by
 show F.dg O0 ?_;intros;let#[a,m,aC,d,N,n,nd,rfl,G,Z,q]:=h;let#[dx,ho]:=G.ob;let#[p,Y,_]:=G.at Z;let#[n0,n1]:=G.ok.use n nd Z;let na:=G.na;let aa:a≠m.kd:=λz=>na (.inl z);let ad:a≠m.lk:=λz=>na (.inr (.inl z));show#[_,%[0,0,t,cj,aG,bT,t,cj,aG,bT,j,cj,aG,bT|9],?_]
 show#[71,m.kd,rfl,.inl #[_,.inl G.hk],0,_,V8 n,_,G.hk,rfl,by rw[cz,Y];rfl,?_];rw[j6];let k1:upd H m.kd (.dK (dk fk (fU m.L n))) m.kd^^^(dk fk (fU m.L n)):=ag;let I:∀x u,H x=some u->x≠m.kd->upd H m.kd (.dK (dk fk (fU m.L n))) x=some u:=λx u e z=>(by rw[ay z];show e);generalize upd H m.kd (.dK (dk fk (fU m.L n)))=H1 at *;let ac:=I _ _ G.hl G.ne.1.6;show#[28,_,.ref m.lk,rfl,I _ _ ho aa,T.cl,T.nL,z9,m.lk,rfl,.inl #[_,.inl ac],0,_,V8 n,_,ac,rfl,by rw[cz,Y];rfl,?_];rw[j6];let k2:upd H1 m.lk (.dK (dk fl (fU m.L n))) m.lk^^^(dk fl (fU m.L n)):=ag;let U:∀x u,H1 x=some u->x≠m.lk->upd H1 m.lk (.dK (dk fl (fU m.L n))) x=some u:=λx u e z=>(by rw[ay z];show e);generalize upd H1 m.lk (.dK (dk fl (fU m.L n)))=H2 at *;let ab:=U _ _ (I _ _ G.hs G.ne.2.1.6) G.ne.2.2.6;show#[72,rfl,U _ _ (I _ _ ho aa) ad,T.cl,T.nS,xN,m.ls,rfl,.inl #[_,.inl ab],0,_,V8 n,_,ab,rfl,by rw[cz,Y];rfl,?_];rw[j6];let#[A2,st]:=G.re (d':=d+1) (H':=upd H2 m.ls (.dK (dk fs (fU m.L n)))) (N':=cy N n none) (fU m.L n) (by rw[ay G.ne.2.1];show U _ _ k1 G.ne.1) (by rw[ay G.ne.2.2];show k2) ag (λx u e z1 z2 z3=>by rw[ay z3];show U _ _ (I _ _ e z1) z2) (λx hx=>.inr #[x,(pW hx).1,1]) (by rw[qT];show G.nd.filter _) (λj=>by
  rw[mP];cases z:j=n
  .rw[show cy N n none j=none from acW z,acW z];rfl
  .rw[show cy N n none j=N j from acV z,acV z];show G.eN j) (G.ok.up n0 n1 _ (λaj e=>by cases e) (by
  have:=G.ok.fit;change _+0<=_;omega))
 show q _ _ A2 st
def Eg:WT "sum" = some (.builtin "sum"):=aF
theorem Mw(T:Dh K mg CP)(G:↥Md 1 CP "kind_of" (Az (j4 CP)))(gL:↥Md 1 CP "links_of" (vm (j4 CP)))(gS:↥Md 1 CP "size_of" (Bq (j4 CP)))(gC:↥Md 1 CP "cells_of" (vt (j4 CP)))(U:↥Md 1 CP "begin_node" (vN (j4 CP)))(I:↥Md 1 CP "end_node" (Jv (j4 CP)))(Z:↥Md 1 CP "put_links" (zJ (j4 CP)))(L:↥Md 1 CP "put_cells" (Ax (j4 CP)))(gF:↥Md 1 CP "finish" (Hu (j4 CP))):(j4 CP).Ok P w K mg base where
 cl:=T.cl
 nT:=T.nT
 ob A:=by
  let#[dx,h]:=A.ob;show#[dx,_,h,PY,λx F=>Ml ?_ ?_ ?_ ?_]<;>(intro e;subst e;show absurd F aF)
 na A:=A.na
 live A h:=A.live h
 nt A h e:=by
  rcases h with z|z|z|⟨y,Y,z⟩
  .rw[z,A.hk]at e;cases e
  .rw[z,A.hl]at e;cases e
  .rw[z,A.hs]at e;cases e
  .rw[z,A.hr y Y]at e;cases e
 off A o h1 h2:=A.off o h1 h2
 ok A:=A.ok
 le A _:=#[A.ob,A.hk,A.hl,A.hs,A.hr,A.nd,A.ne,A.eN,A.ok]
 kind:=G.imp aE λ_ _ _ _ h=>h
 links:=gL.imp aE λ_ _ _ _ h=>h
 size:=gS.imp aE λ_ _ _ _ h=>h
 cells:=gC.imp aE λ_ _ _ _ h=>h
 begin:=U.imp aE λ_ _ _ _ h=>h
 end_:=I.imp aE λ_ _ _ _ h=>h
 putL:=Z.imp aE λ_ _ _ _ h=>h
 yI:=L.imp aE λ_ _ _ _ h=>h
 fin:=gF.imp aE λ_ _ _ _ h=>h
def sG(N:NS)(m:Nat):List Int:=((Wu m).map λi:Nat=>(i:Int)).filter λn=>(N n).isNone
theorem mj(N:NS)(m:Nat):sG N (m+1)=sG N m++(if (N (m:Int)).isNone=true then[(m:Int)]else[]):=by
 unfold sG;rw[Ys,yl,Xk];change _++([(m:Int)].filter _)=_;rw[Zi,YH]
def zX(N:NS)(m:Nat):(sG N m).9<=m:=by
 unfold sG;show WK (WL _ _) ?_;rw[dM,YT];show G0 _
noncomputable def RM(x:Option Node):List Nat:=match x with
 |none=>[]
 |some nd=>[nd.cs.9]
noncomputable def AA(N:NS)(m:Nat):List Nat:=((Wu m).map λi:Nat=>RM (N (i:Int))).11
def nV(N:NS)(m:Nat):AA N (m+1)=AA N m++RM (N (m:Int)):=by
 unfold AA;rw[Ys,yl,Yt];change _++(RM _++[])=_;rw[Wt]
theorem uM(N:NS):∀m,(AA N m).9<=m
 |0=>G0 _
 |m+1=>by
  have:=uM N m;rw[nV,ti];cases N (m:Int)
  .change _+0<=_;omega
  .change _+1<=_;omega
theorem EX(N:NS):∀m,((AA N m).map bf).sum=us N m
 |0=>rfl
 |m+1=>by
  rw[m5, <-EX N m,nV,yl,sum_append];cases N (m:Int)<;>rfl
def vE(x:Option Node):decide (K0 x=.bh)=x.isNone:=by cases x<;>rfl
theorem rH:∀l:List Nat,(l.map λk:Nat=>(k:Int)).sum=((l.sum:Nat):Int)
 | []=>rfl
 |x::l=>by rw[Wy,ab2,ab2,rH l];omega
inductive Lz(M:cU)(v:qAf)(H:Hp)(Q:VK)(e:XK):Prop
 |mk(a:zB0)(m:M.St)(aC d:Nat)(N:NS)(_:v=[.ref a])(_:M.At H a m aC N d)(_:∀(H':Hp)(q:zB0),aO H H'->H q=none->H' q∣((sG N 24).map V.int)->Q (.ref q) H')
inductive NK(M:cU)(v:qAf)(H:Hp)(Q:VK)(e:XK):Prop
 |mk(a:zB0)(m:M.St)(aC d:Nat)(N:NS)(_:v=[.ref a])(_:M.At H a m aC N d)(_:∀(H':Hp),aO H H'->Q (.int ((aC:Int)-(us N 24:Nat))) H')
abbrev UB:Wo:=top 38
abbrev Rz:Wo:=top 39
def RL:aA ["nodes"] ["nodes"] (ax UB):=L2.bg
theorem uS(F:b4 K "free_nodes" "free_nodes" UB f fd)(T:mJ K mg CN)(O:M.Ok P w K mg base):↥aU 8 f fd ["nodes"] (Lz M):=by
 show F.dg RL ?_;intros;let#[a,m,aC,d,N,rfl,U,q]:=h;let hs:=DD;let#[dx,fs',ho,_,Y]:=O.ob U;show#[_,%[0,hr,b,P,(de (cl:=[("nodes",s⁻¹+1)]) (caps:=[("nodes",0)])),cp,rfl,b0,a,cR,T,ch,b1,ae,1,dj,q,aq,T,0|9],?_];show#[44];show iU (lo:=0) (n:=24) (λi ys J=>ys=(sG N i).map V.int/\aO H J) #[rfl,133] ?_ ?_
 .rintro i ys J hi ⟨rfl,G⟩;show#[21,G _ _ ho,Y _ aF,0,a,13,(i:Int),91,O.same U G,λJ2 L=>#[9]];rw[vE];let Z:=zX N i;cases z:(N (i:Int)).isNone with
  |true =>
   rw[acW rfl];show#[0,87,?_,G.trans L];rw[mj,acW z,yl];change _++[V.int (0+(i:Int))]=_++[V.int (i:Int)];rw[show(0:Int)+(i:Int)=(i:Int)by omega]
  |false =>
   rw[acV (by nofun)];show#[?_,G.trans L];rw[mj,acV (by rw[z];nofun),Wt]
 .rintro ys J ⟨rfl,G⟩ r I;show q _ r (G.trans (au I)) (a8 G I) ag
def Py:aA ["nodes","sizes"] ["nodes"] (ax Rz):=L2.bg
theorem sA(F:b4 K "free_blocks" "free_blocks" Rz f fd)(T:mJ K mg CN)(ac:mg "sum" = none)(O:M.Ok P w K mg base)(ab:↥Df 1 "blocks_for" sv):↥aU 8 f fd ["nodes"] (NK M):=by
 show F.dg Py ?_;intros;let#[a,m,aC,d,N,rfl,U,q]:=h;let hs:=DD;let#[dx,fs',ho,ht,hm]:=O.ob U;show#[_,%[Py,hr,i,dJ,(vj (i:=1) (cl:=[("nodes",s⁻¹+1)]) (caps:=[("nodes",0)])),dD,rfl,dk,cp,rfl,b0,a,cR,T,ch,ct,ae,1,dj,q,aq,T,ae,1,c5,O.3,q,b,aO,u,S,d0,rfl,ac,Eg,a,P,b9,bJ,aZ,1,a8,b3,q|9],?_]
 show fj λ_ jt=>?_;show#[44];show iU (lo:=0) (n:=24) (λi ys J=>ys=((AA N i).map λk:Nat=>V.int (k:Int))/\aO H J) #[rfl,133] ?_ ?_
 .rintro i ys J hi ⟨rfl,G⟩;show#[21,G _ _ ho,hm _ aF,0,a,13,(i:Int),91,O.same U G,λJ2 L=>#[9]];rw[vE];let lf:=uM N i;let I:=G.trans L;cases z:N (i:Int)with
  |none =>
   change if (!true)=true then _ else _
   rw[acV (by nofun)];show#[?_,I];rw[nV,z];show congrArg _ (Wt _).6
  |some nd =>
   change if (!false)=true then _ else _
   rw[acW (show(!false)=true from rfl)];show#[21,I _ _ ho,hm _ aF,0,a,13,(i:Int),nd,91,O.same U I,z,λJ3 s3=>#[87,?_,I.trans s3]];rw[nV,z,yl];rfl
 .intro ys J h r fr;let#[Z,G]:=h;rw[Z];clear Z ys;show jt _ _ ?_;clear jt;exists fr,(.lst ((AA N 24).map λk:Nat=>V.int (k:Int))),sN,Y,J1;let s1:=G.trans sN;let ad:=uM N 24;show#[0,a,M.C,dx,_,.int aC,rfl,s1 _ _ ho,O.cl,O.nT,ht,0,r,rfl,#[_,a9.of Y],?_];show gO (K:=K) (a:=r) (xs:=(AA N 24).map λk:Nat=>V.int (k:Int)) (λi ys J2=>ys=(((AA N 24).map bf).take i).map (λk:Nat=>V.int (k:Int))/\J2=J1) #[1] (λi ys J2 _ z=>by rw[z.2];show a9.of Y) ?_ ?_
  .rintro i x ys J2 hx ⟨rfl,rfl⟩;rw[LW]at hx;let#[y,hy,rfl]:=HC.mp hx;let hi:=(u4.mp hy).1;show#[0,y,rfl,by rw[dM,IF];omega,55];rw[WE,LW,hy,yl];rfl
  .rintro ys J2 ⟨rfl,rfl⟩ r2 aa;let L:=s1.trans (au (X:=.lst ((((AA N 24).map bf).take ((AA N 24).map λk:Nat=>V.int (k:Int)).9).map λk:Nat=>V.int (k:Int))) aa);show#[r2,((AA N 24).map bf).map (λk:Nat=>(k:Int)),rfl,a9.of ?_,_,0,3]
   .rw[ag,V6 (by rw[dM,dM];show G0 _),WU (l:=(AA N 24).map bf)];rfl
   .rw[rH,EX];show q _ L
abbrev Slot:=Option (Str×Int)
def lX(H:Hp)(v:V)(s:Slot):Prop:=match s with
 |none=>v=.bh
 |some p=>∃t,v=.ref t/\H t|||[.str p.1,.int p.2]
structure lN(H:Hp)(vs:qAf)(ss:List Slot):Prop where
 ln:vs.9=ss.9
 at_:∀(i:Nat)(v:V),vs[i]?=some v->∃s,ss[i]?=some s/\lX H v s
noncomputable def pO(name:Str)(s:Slot):Bool:=match s with
 |none=>false
 |some p=>decide (p.1=name)
def fG(ss:List Slot)(name:Str):Option Int:=ss.findSome? λs=>s.bind λp=>if p.1=name then some p.2 else none
noncomputable def oI(x:qAd):V:=match x with
 |none=>.bh
 |some k=>.int k
noncomputable def dH(ss:List Slot)(name:Str):List Slot:=ss.map λs=>if pO name s=true then none else s
variable{v:V}{s:Slot}
theorem lX.same(A:lX H v s)(o:aO H H'):lX H' v s:=by
 cases s with
 |none=>show A
 |some p =>
  let#[t,e,h]:=A;show#[t,e,o _ _ h]
variable{vs:qAf}{ss:List Slot}
theorem lN.same(A:lN H vs ss)(o:aO H H'):lN H' vs ss:=#[A.ln,λi v h=>by
 let#[s,e,q]:=A.at_ i v h;show#[s,e,q.same o]]
theorem lN.snoc(A:lN H vs ss)(q:lX H v s):lN H (vs++[v]) (ss++[s]):=#[by rw[ti,ti,A.ln];rfl,λi w h=>by
 cases z:i<vs.9
 .rw[Wj z]at h;let#[s,e,q]:=A.at_ i w h;show#[s,by rw[Wj (by rw[<-A.ln];show z)];show e,q]
 .rw[Wb av]at h;let hi:i-vs.9=0:=by
   have:=(u4.mp h).1;simp at this;omega
  rwa[hi]at h;show#[s,by rw[Wb (by rw[<-A.ln];omega), <-A.ln,hi];rfl,q]]
variable{i:Nat}{name:Str}
theorem FZ(h1:fG (ss.take i) name=none){p:Str×Int}(h2:ss[i]?=some (some p))(F:p.1=name):fG ss name=some p.2:=by
 unfold fG at *;let hi:=(u4.mp h2).1;rw[<-Xf i ss,aaJ,h1,ZR hi,Zu];have:ss[i]=some p:=(u4.mp h2).2;rw[this,ZA,acW F];rfl
theorem xn(h1:fG (ss.take i) name=none)(h2:ss[i]?=some s)(F:pO name s=false):fG (ss.take (i+1)) name=none:=by
 unfold fG at *;rw[WE,h2,aaJ,h1];cases s with
 |none=>rfl
 |some p =>
  change Option.or none (List.findSome? _ [some p])=none;rw[Zu,ZA,acV (of_decide_eq_false F)];rfl
inductive Ol(v:qAf)(H:Hp)(Q:VK)(e:XK):Prop
 |mk(l:zB0)(ws:qAf)(ss:List Slot)(name:Str)(_:v=[.ref l,.str name])(_:H l∣ws)(_:lN H ws ss)(_:Q (oI (fG ss name)) H)
inductive Jh(v:qAf)(H:Hp)(Q:VK)(e:XK):Prop
 |mk(l:zB0)(ws:qAf)(ss:List Slot)(name:Str)(_:v=[.ref l,.str name])(_:H l∣ws)(_:lN H ws ss)(_:ss.9<=1000)(_:∀(H':Hp)(q:zB0)(ws':qAf),aO H H'->H q=none->H' q∣ws'->lN H' ws' (dH ss name)->Q (.ref q) H')
abbrev R6:Wo:=top 55
abbrev So:Wo:=top 56
def Qw:aA ["slots","name","slot"] ["slots","name"] (ax R6):=L2.bg
theorem uB(F:b4 K "node_named" "node_named" R6 f fd):↥aU 1 f fd ["slots","name"] Ol:=by
 show F.dg Qw ?_;intros;let#[l,ws,ss,name,rfl,L,SA,q]:=h;show#[_,%[Qw,0,aL,cd,0,av,2,k,aX,bZ,bC,ct,2,aq,bE,g,ck,2,1,s,b,ck,2,cu|9],?_]
 show#[69,#[_,a9.of L],?_];show gp (K:=K) (a:=l) (xs:=ws) (λi σ J=>∃v2:Option V,yd (σ=#v[.ref l,.str name,v2]) (J=H) (fG (ss.take i) name=none)) #[0,1] (λi σ J _ z=>by let#[_,_,e,_]:=z;rw[e];show a9.of L) ?_ ?_
 .rintro i x σ J hx ⟨v2,rfl,rfl,G⟩;let#[s1,I,Z]:=SA.at_ i x hx;show Bs λQQ ji Y=>?_;show#[0,9];cases s1 with
  |none =>
   cases Z;show bA (Y _ #[0,rfl,xn G I rfl])
  |some p =>
   let#[t,rfl,U]:=Z;show bU #[0,41,.str p.1,1,cX.of U,84,0,9];cases z:p.1=name
   .rw[zA1 (show V.str p.1=V.str name by rw[z])];show ji _ #[0,t,_,(1),.int p.2,1,cX.of U,89,?_];rw[FZ G I z]at q;show q
   .rw[zA2 (show ¬ V.str p.1=V.str name from λe=>z (by injection e))];show Y _ #[0,rfl,xn G I (zA2 z)]
 .rintro σ J ⟨v2,rfl,rfl,G⟩;rw[SA.ln,WV]at G;rw[G]at q;show q
def Sm:aA ["slots","name"] ["slots","name"] (ax So):=L2.bg
theorem pJ(F:b4 K "slots_without" "slots_without" So f fd):↥aU 1 f fd ["slots","name"] Jh:=by
 show F.dg Sm ?_;intros;let#[l,ws,ss,name,rfl,L,SA,l3,q]:=h;let hs:=DD;show#[_,%[0,0,b,P,(de (cl:=[("name",s⁻¹+1)]) (caps:=[("name",1)])),cp,aZ,0,a8,cH,bZ,bC,ct,0,aq,bE,g,b4,cC,0,1,s,bV,0|9],?_];show#[69,#[_,a9.of L],?_];show gO (K:=K) (a:=l) (xs:=ws) (λi ys J=>lN H ys (dH (ss.take i) name)/\J=H) #[#[109],rfl] (λi ys J _ z=>by rw[z.2];show a9.of L) ?_ ?_
 .rintro i x ys J hx ⟨G,rfl⟩;let#[I,e1,Z]:=SA.at_ i x hx;let ly:ys.9<=1000:=by
   rw[G.ln];unfold dH;rw[dM,IF];omega
  let eS:dH (ss.take (i+1)) name=dH (ss.take i) name++[if pO name I=true then none else I]:=by
   unfold dH;rw[WE,e1,yl];rfl
  rw[eS];show#[0,9];cases I with
  |none =>
   cases Z;show bA (bA #[0,av,G.snoc rfl,rfl])
  |some p =>
   let#[t,rfl,Y]:=Z;show bU #[0,41,.str p.1,1,cX.of Y,84,0,9];cases z:p.1=name
   .rw[zA1 (show V.str p.1=V.str name by rw[z])];show bU #[av,G.snoc ?_,rfl];rw[acW (show pO name (some p)=true from zA1 z)];rfl
   .rw[zA2 (show ¬ V.str p.1=V.str name from λe=>z (by injection e))];show bA #[0,av,G.snoc ?_,rfl];rw[acV (show ¬ pO name (some p)=true from λe=>z (zA0 e))];show#[t,rfl,Y]
 .rintro ys J ⟨G,rfl⟩ r U;rw[SA.ln,WV]at G;let I:=au (X:=.lst ys) U;show q _ r ys I U ag (G.same I)
end Fs
namespace L2
open PySem PySem.Spec PyProof.Rows PySem.Builtin.Str
inductive uR(x:V)(vs:qAf)(H:Hp)(Q:VK):Prop
 |mk(a b:Str)(i:Nat)(rest:List Nat)(_:x=.str a)(_:vs=[.str b])(_:occurrences a b 0 a.9 1=i::rest)(_:Q (.int (i:Nat)) H)
theorem B7{X:Cx}:IA X "str.index" uR:=by
 intros x vs v us Q I G L h;let#[a,b,i,rest,rfl,rfl,ho,q]:=h;let#[t,rfl]:=G;let#[u,rfl,ru]:=L.one;let#[t',rfl]:=ru;show call_gives aay (Y2 _ _ _) PySem.F.entry_str_index (PySem.F.args_str_index_2 _ _) (gives_str_index a b t t' i rest ho) #[.int (i:Nat),85]
end L2
namespace Fs
open PySem L2 Dk Tb
def vi:Str := "abcdefghijklmnopqrstuvwxyz"
structure okN(nm:Str):Prop where
 lo:1<=nm.cps.3
 hi:nm.cps.3<=6
 lt:∀c∈nm.cps.7,97<=c/\c<123
def oQ(nm:Str):List Int:=nm.cps.toList.map λc:Nat=>(c:Int)-96
noncomputable def jH(s:Slot):List Int:=match s with
 |none=>TN 8 0
 |some p=>fill (oQ p.1) 6++[p.2,0]
def Qx:∀i:Fin 26,Zm vi #[([97+i.val].8)] 0 vi.9 1=[i.val]:=aF
variable{c:Nat}
theorem TY(h1:97<=c)(h2:c<123):Zm vi #[([c].8)] 0 vi.9 1=[c-97]:=by
 have:=Qx #[c-97,av];rw[show 97+(c-97)=c by omega]at this;show this
structure Rc(K:Wa)(mg:qa3):Prop where
 L:∃u,mg "LETTERS" = some u/\RelV (.str vi) u
 SC:∃u,mg "SLOT_CELLS" = some u/\RelV (.int 8) u
 NL:∃u,mg "NAME_LETTERS" = some u/\RelV (.int 6) u
inductive Ld(vs:qAf)(H:Hp)(Q:VK)(e:XK):Prop
 |mk(v:V)(s:Slot)(_:vs=[v])(_:lX H v s)(_:∀p,s=some p->okN p.1)(_:∀(H':Hp)(q:zB0),aO H H'->H q=none->H' q∣((jH s).map V.int)->Q (.ref q) H')
abbrev SF:Wo:=top 51
def Pz:aA ["slot","places"] ["slot"] (ax SF):=L2.bg
variable{P:BY}{w:Oi}{K:Wa}{mg:qa3}{base:Heap}{f CN:zB0}{fd:DO}
theorem rD(F:b4 K "cells_of_slot" "cells_of_slot" SF f fd)(T:mJ K mg CN)(TL:Rc K mg):↥aU 1 f fd ["slot"] Ld:=by
 let hL:=TL.L;let ac:=TL.SC;let ab:=TL.NL;show F.dg Pz ?_;intros;let#[v,sl,rfl,hv,bL,q]:=h;let hs:=DD;show#[_,%[Pz,0,f,b1,0,aq,b,cc,C,aI,B,ac,i,dJ,(vj (i:=1) (cl:=[]) (caps:=[])),dD,rfl,dk,bJ,rfl,d1,ck,0,a8,p,(show PE _ _ (Vy K "str" uR _ _)from eP Xd aay PySem.F.type_str_index B7 (fZ hL) (ae (pv 0) af)),aw,b,M,M,1,cc,C,aI,aO,B,ab,l,e,C,d,ck,0,aI|9],?_]
 show HJ λQQ ji je=>?_;show#[0,9];cases sl with
 |none =>
  cases hv;show ji _ #[aE,λY f1=>?_];let I:=au (X:=.lst [V.int 0]) f1;show#[Y,6,ag,aE,aE,by rw[hs];decide,λZ U=>?_];rw[rep1];show q _ Z (I.trans (au U)) (a8 I U) ag
 |some p =>
  let#[t,rfl,ht]:=hv;show je _ ?_;clear ji je;let ok:=bL p rfl;let ad:p.1.cps.toList.length=p.1.cps.3:=Xe;show fj λ_ jt=>?_;show#[0,41,.str p.1,1,cX.of ht,84,p.1,3];show tQ (λi ys J=>ys=((oQ p.1).take i).map V.int/\J=H) #[1] ?_ ?_
  .rintro i c ys J hc ⟨rfl,rfl⟩;let hm:p.1.cps.7[i]?=some c:=(by rw[Yh];show hc);let hb:=ok.lt c (L1 hm);let hi:=ok.hi;show#[rfl,0,vi,#[([c].8)],c-97,[],1,TY hb.1 hb.2,6,by rw[dM,IF];unfold oQ;rw[dM];omega,55];rw[WE,yl];unfold oQ;rw[LW,hm];change _++[V.int (((c-97:Nat):Int)+1)]=_++[V.int ((c:Int)-96)];rw[show(((c-97:Nat):Int)+1)=(c:Int)-96 by omega]
  .intro ys J h r fr;let#[ey,eJ]:=h;subst eJ;rw[V6 (by unfold oQ;rw[dM];omega)]at ey;rw[ey];clear ey;show jt _ _ ?_;clear jt;let lp:(oQ p.1).9<=6:=(by unfold oQ;rw[dM,ad];show ok.hi);exists fr,(.lst ((oQ p.1).map V.int)),I,e1,J1;show#[0,aE,λY f1=>?_];exists f1,(.lst [V.int 0]),G,e2,J2;let s2:=I.trans G;let aa:=G _ _ e1;show#[0,r,0,.inl (a9.of aa),6,Y,6,e2,5,?_,λZ U=>?_]
   .rw[dM];omega
   .rw[dM];omega
   .rw[dM,NC];omega
   rw[rep1,show((6:Int)-(((oQ p.1).map V.int).9:Nat)).5=6-(oQ p.1).9 by rw[dM];omega];exists U,(.lst (TN (6-(oQ p.1).9) (V.int 0))),G,e3,J3;let s3:=s2.trans G;let aj:=G _ _ aa;show#[r,Z,6,aj,e3,129,λq3 f3=>?_];let ef:(oQ p.1).map V.int++TN (6-(oQ p.1).9) (V.int 0)=(fill (oQ p.1) 6).map V.int:=by
    unfold fill;rw[yl,Yl]
   rw[ef];exists f3,(.lst ((fill (oQ p.1) 6).map V.int)),G,e4,J4;let s4:=s3.trans G;show#[0,t,_,(1),.int p.2,1,cX.of (s4 _ _ ht),89,Qe,λq5 f5=>?_];let s5:=s4.trans (au (X:=.lst [V.int p.2,V.int 0]) f5);let e5:=au (X:=.lst [V.int p.2,V.int 0]) f5 _ _ e4;show#[q3,q5,6,e5,ag,by rw[dM,dQ lp];change 6+2<=sizeLine;omega,λq6 f6=>?_];show q _ q6 (s5.trans (au f6)) (a8 s5 f6) (by rw[ag];unfold jH;rw[yl];rfl)
def uW(c:Nat):Str:=#[([c].8)]
theorem Ki:∀cs:List Nat,Str.join "" (cs.map uW)=#[cs.8]
 | []=>rfl
 | [c]=>rfl
 |c::d::cs=>by
  let F:=Ki (d::cs);change uW c ++ "" ++ Str.join "" ((d::cs).map uW)=_;rw[F];change Str.mk (([c].8) ++ ([].8)++(d::cs).8)=_;simp
theorem IM(h1:97<=c)(h2:c<123):mv vi.cps.7 ((c:Int)-96-1)=some c:=by
 have:∀i:Fin 26,mv vi.cps.7 (i.val:Int)=some (97+i.val):=aF;let e:=this #[c-97,av];rw[show(((c-97:Nat)):Int)=(c:Int)-96-1 by omega]at e;rw[e];show congrArg some (by change 97+(c-97)=c;omega)
def sD(s:Slot):List Nat:=match s with
 |none=>[]
 |some p=>p.1.cps.7
variable{s:Slot}
theorem RT(ok:∀p,s=some p->okN p.1):(jH s).take 6=fill ((sD s).map λc:Nat=>(c:Int)-96) 6:=by
 cases s with
 |none=>rfl
 |some p =>
  let o:=ok p rfl;change(fill (oQ p.1) 6++[p.2,0]).take 6=fill (oQ p.1) 6;let F:(fill (oQ p.1) 6).9=6:=dQ (by unfold oQ;rw[dM,Xe];show o.hi);rw[XA,F,V6 av,X2,XX,Wt]
inductive LS(vs:qAf)(H:Hp)(Q:VK)(e:XK):Prop
 |mk(l:zB0)(s:Slot)(_:vs=[.ref l])(_:H l∣((jH s).map V.int))(_:∀p,s=some p->okN p.1)(_:∀(H':Hp)(v:V),aO H H'->lX H' v s->Q v H')
abbrev UJ:Wo:=top 50
def PR:aA ["cells","name"] ["cells"] (ax UJ):=L2.bg
theorem C0(F:b4 K "slot_in" "slot_in" UJ f fd)(T:mJ K mg CN)(TL:Rc K mg):↥aU 1 f fd ["cells"] LS:=by
 let hL:=TL.L;let aa:=TL.NL;show F.dg PR ?_;intros;let#[l,sl,rfl,Z,I,q]:=h;let hs:=DD;let ab:∀c∈sD sl,97<=c/\c<123:=λc hc=>by
  cases sl with
  |none=>cases hc
  |some p=>show(I p rfl).lt c hc
 let h6:(sD sl).9<=6:=by
  cases sl with
  |none=>show Xr _
  |some p=>change p.1.cps.toList.length<=6;rw[Xe];show(I p rfl).hi
 let he:=RT I;show#[_,%[PR,0,bk,cl,PySem.F.slot_str_join,PySem.F.type_str_join,IL,az,a,P,b9,bJ,aZ,w,0,aQ,B,aa,T,ch,bB,0,r,T,dY,MZ,B,hL,aO,0,aw,bD,b,cH,g,1,E,bV,al,J,a,v,0,B,aa|9],?_]
 show fj λ_ jt=>?_;show#[rfl,0,(6),rfl,l,0,a9.of Z,λq1 f1=>?_];rw[show d8 ((jH sl).map V.int) none (some 6)=((jH sl).take 6).map V.int from jm (s:=6),he];exists f1,(.lst ((fill ((sD sl).map λc:Nat=>(c:Int)-96) 6).map V.int)),s1,e1,H1;let lf:(fill ((sD sl).map λc:Nat=>(c:Int)-96) 6).9=6:=dQ (by rw[dM];show h6);show#[q1,rfl,#[_,a9.of e1],?_];show iA (K:=K) (a:=q1) (xs:=(fill ((sD sl).map λc:Nat=>(c:Int)-96) 6).map V.int) (λi ys J=>ys=(((sD sl).take i).map uW).map V.str/\J=H1) #[1] (λi ys J _ z=>by rw[z.2];show a9.of e1) ?_ ?_
 .rintro i x ys J hx ⟨rfl,rfl⟩;rw[LW]at hx;let#[y,G,rfl]:=HC.mp hx;unfold fill at G;cases z:i<(sD sl).9
  .rw[Wj (by rw[dM];show z),LW,y0 z]at G;obtain rfl:=OR G;let hb:=ab _ (Xo z);show#[0,19];rw[zA1 (show(0:Int)<(((sD sl)[i]:Nat):Int)-96 by omega),acW rfl];show#[0,6,vi,_,(sD sl)[i],1,by rw[hs];decide +kernel,IM hb.1 hb.2,120,55];rw[WE,y0 z,yl,yl];rfl
  .rw[Wb (by rw[dM];omega),Yf]at G;split at G
   .obtain rfl:=OR G;show#[0,19];show bA #[55];rw[V6 (show(sD sl).9<=i by omega),V6 (show(sD sl).9<=i+1 by omega)]
   .cases G
 .intro ys J h r fr;let#[Y,eJ]:=h;subst eJ;rw[dM,lf,V6 h6]at Y;rw[Y];clear Y;let U:=s1.trans (au (X:=.lst (((sD sl).map uW).map V.str)) fr);show#["",r,(sD sl).map uW,1,32,?_,jt _ _ ?_]
  .show PyProof.Rows.joinOk_of ?_;have:((sD sl).map uW).map (·.length)=(sD sl).map λ_=>1:=(by rw[WU];rfl);rw[this,List.map_const',List.sum_replicate_nat];change _+_*0<=_;omega
  clear jt;rw[show Txt.join "" ((sD sl).map uW)=#[(sD sl).8]from(StrLaws.glued_eq_join _ _).trans (Ki _)];generalize upd J r (.lst (((sD sl).map uW).map V.str))=J2 at *;let ac:=U _ _ Z;cases sl with
  |none =>
   show#[0,9];show bU (q _ _ U rfl)
  |some p =>
   let o:=I p rfl;let ep:(#[(sD (some p)).8]:Str)=p.1:=(by change Str.mk p.1.cps.toList.toArray=p.1;rw[Array.toArray_toList]);rw[ep];show#[0,9];let ne:¬ V.str p.1=V.str "" := λe=>by
    injection e with e;have:=o.lo;rw[e]at this;show absurd this aF
   rw[zA2 ne];let l6:(fill (oQ p.1) 6).9=6:=dQ (by unfold oQ;rw[dM,Xe];show o.hi);let i6:mv ((jH (some p)).map V.int) 6=some (.int p.2):=aL (j:=6) (by
    change((fill (oQ p.1) 6++[p.2,0]).map V.int)[6]?=_;rw[LW,Wb av,l6];rfl)
   show bA #[0,0,l,_,(6),0,rfl,a9.of ac,i6,Qe,λt ft=>?_];let s3:=U.trans (au (X:=.tup [V.str p.1,V.int p.2]) ft);show q _ _ s3 #[t,51]
noncomputable def bq(ss:List Slot):List Int:=(ss.map jH).11
theorem jB(ok:∀p,s=some p->okN p.1):(jH s).9=8:=by
 cases s with
 |none=>rfl
 |some p =>
  change(fill (oQ p.1) 6++[p.2,0]).9=8;rw[ti,dQ (by unfold oQ;rw[dM,Xe];show(ok p rfl).hi)];rfl
theorem cS:∀{ss:List Slot},(∀s∈ss,∀p,s=some p->okN p.1)->(bq ss).9=8*ss.9
 | [],_=>rfl
 |s::ss,h=>by
  let G:=cS (ss:=ss) λt F=>h t (Wm _ F);change(jH s++bq ss).9=_;rw[ti,G,jB (h s Wn),WG];omega
theorem Cu{ss:List Slot}{i:Nat}(h:ss[i]?=some s):bq (ss.take (i+1))=bq (ss.take i)++jH s:=by
 unfold bq;rw[WE,h,yl,Yt];change _++(jH s++[])=_;rw[Wt]
variable{M:cU}
theorem cU.pre{m m':M.St}{H H1 H':Hp}(o:aO H H1)(st:M.Step m H1 m' H'):M.Step m H m' H':=#[λa u e z=>st.1 a u (o _ _ e) z,λa z=>(st.2 a z).imp id (a8 o)]
inductive xw(M:cU)(v:qAf)(H:Hp)(Q:VK)(e:XK):Prop
 |mk(a:zB0)(m:M.St)(aC d:Nat)(N:NS)(n:Int)(nd:Node)(l:zB0)(ws:qAf)(ss:List Slot)(_:v=[.ref a,.int n,.ref l])(_:M.At H a m aC N d)(_:N n=some nd)(_:H l∣ws)(_:lN H ws ss)(_:ss.9<=40)(_:∀s∈ss,∀p,s=some p->okN p.1)(_:us N 24+bf (8*ss.9)<=aC+bf nd.cs.9)(_:∀(H':Hp)(m':M.St),M.At H' a m' aC (cy N n (some { nd with cs:=bq ss })) (d+r9 nd.cs (bq ss) (nb (bq ss).9)+2)->M.Step m H m' H'->Q .bh H')
abbrev Si:Wo:=top 53
def LX:aA ["nodes","n","slots","cells","slot"] ["nodes","n","slots"] (ax Si):=L2.bg
theorem vU(F:b4 K "put_slots" "put_slots" Si f fd)(T:mJ K mg CN)(O:M.Ok P w K mg base)(ab:↥Df 1 "cells_of_slot" Ld):↥aU 8 f fd ["nodes","n","slots"] (xw M):=by
 show F.dg LX ?_;intros;let#[a,m,aC,d,N,n,nd,l,ws,ss,rfl,A1,hn,Z,SA,ac,bL,sp,q]:=h;let hs:=DD;let le:=cS bL;show#[_,%[LX,hr,aY,aC,aL,cd,2,av,4,j,be,Y7,Y8,kP,3,a,b3,ah,j,ae,0,c5,O.yI,J,Y|9],?_]
 show fj λ_ L=>?_;show#[aE,λl1 f1=>L _ _ ?_];clear L;exists f1,(.lst []),Y,e1,H1;let nl:∀{x u},H x=some u->x≠l1:=λe z=>(by rwa[z,f1]at e);show#[69,#[_,a9.of (Y _ _ Z)],?_];show gp (K:=K) (a:=l) (xs:=ws) (λi σ J=>∃v4:Option V,yd (σ=#v[.ref a,.int n,.ref l,.ref l1,v4]) (J l1∣((bq (ss.take i)).map V.int)) (Off (· = l1) H1 J)) #[0,e1,96] (λi σ J _ z=>by let#[_,_,_,o]:=z;show a9.of (o _ _ (Y _ _ Z) (nl Z))) ?_ ?_
 .rintro i x σ J hx ⟨v4,rfl,G,U⟩;let#[sl,e2,a2]:=SA.at_ i x hx;let I:aO H J:=λy u e=>U _ _ (Y _ _ e) (nl e);let hi:=(u4.mp e2).1;let aa:=bL sl (L1 e2);let lt:(bq (ss.take i)).9<=320:=by
   rw[cS λt ht=>bL t (WY ht),IF];omega
  show wY λQQ L=>?_;show#[0,.inl #[4,56],0,x,sl,rfl,a2.same I,aa,λJ2 r s2 _ er=>?_];show#[l1,r,6,s2 _ _ G,er,by rw[dM,dM,jB aa];omega,L _ _ #[0,?_,λy u e z=>by rw[ay z];show s2 _ _ (U _ _ e z)]];rw[ag,Cu e2,yl]
 .rintro σ J ⟨v4,rfl,G,U⟩;rw[SA.ln,WV]at G;let I:aO H J:=λy u e=>U _ _ (Y _ _ e) (nl e);let AJ:=O.same A1 I;let#[dx,fs',ho,_,hm]:=O.ob AJ;show#[21,ho,hm _ aF,0,0,a,13,n,nd,l1,bq ss,rfl,AJ,hn,G,λw=>O.live A1 w f1,av,by rw[le];show sp,λH' m' A' st=>q H' m' A' (cU.pre I st)]
end Fs
namespace L2
open PySem PySem.Spec PyProof.Rows
variable{caps:List (Str×Nat)}{te:TE}{σ:St}{H:Hp}{lo st:Int}{n:Nat}{F:List V->Hp->Prop}
theorem wZ{tt:TT}(Pv:Nat->List V->Hp->Prop)(L:Pv 0 [] H)
  (hs:∀i ys H,i<n->Pv i ys H->tt (mH caps σ (some (.int (lo+i*st)))) H λb H2=>if b=true then te (mH caps σ (some (.int (lo+i*st)))) H2 (λy I=>ys.9<sizeLine/\Pv (i+1) (ys++[y]) I)else Pv (i+1) ys H2)
  (hd:∀ys H,Pv n ys H->F ys H):∃W:Nat->Nat->List V->Hp->Prop,(∃m,W 0 m [] H)/\jz caps tt te σ (HM lo st n) F W:=by
 show Di Pv L hd (λys H _=>G0 _) λi ys H G p=>?_;show#[G,127];let#[e,y]:=y;subst e y;show hs i ys _ G p
theorem vT(Pv:Nat->List V->Hp->Prop)(I:Pv 0 [] H)
  (hs:∀i ys H,i<n->Pv i ys H->te (mH caps σ (some (.int (lo+i*st)))) H (λy G=>ys.9<sizeLine/\Pv (i+1) (ys++[y]) G))
  (hd:∀ys H,Pv n ys H->F ys H):∃W:Nat->Nat->List V->Hp->Prop,(∃m,W 0 m [] H)/\jz caps pN te σ (HM lo st n) F W :=
 wZ Pv I (λi ys H hi p=>by
  change if true=true then _ else Pv (i+1) ys H
  rw[acW rfl];show hs i ys H hi p) hd
end L2
namespace Fs
open PySem L2 Dk Tb
theorem RH:∀k:Nat,k<41->Builtin.Range.small 0 (8*(k:Int)) 8=true/\Builtin.Range.rangeSize 0 (8*(k:Int)) 8=(k:Int)/\Builtin.divisionGoesByPylong (8*(k:Int)-0) 8=false:=aF
theorem AB:∀{ss:List Slot}{i:Nat}{s:Slot},(∀s∈ss,∀p,s=some p->okN p.1)->ss[i]?=some s->((bq ss).drop (8*i)).take 8=jH s
 |F::ss,0,s,h,e=>by
  cases e;change((jH F++bq ss).drop 0).take 8=_;let l:=jB (h F Wn);rw[Ym,XA,l,X2,XX,Wt,V6 av]
 |F::ss,i+1,s,h,e=>by
  let I:=AB (ss:=ss) (i:=i) (λt G=>h t (Wm _ G)) e;change((jH F++bq ss).drop (8*(i+1))).take 8=_;let l:=jB (h F Wn);rw[Zl,l,Xb av,ZI,show 8*(i+1)-8=8*i by omega];show I
inductive sg(M:cU)(v:qAf)(H:Hp)(Q:VK)(e:XK):Prop
 |mk(a:zB0)(m:M.St)(aC d:Nat)(N:NS)(n:Int)(nd:Node)(ss:List Slot)(_:v=[.ref a,.int n])(_:M.At H a m aC N d)(_:N n=some nd)(_:nd.cs=bq ss)(_:ss.9<=40)(_:∀s∈ss,∀p,s=some p->okN p.1)(_:∀(H':Hp)(q:zB0)(ws:qAf),aO H H'->H q=none->H' q∣ws->lN H' ws ss->Q (.ref q) H')
abbrev Nv:Wo:=top 52
def KI:aA ["nodes","n","cells"] ["nodes","n"] (ax Nv):=L2.bg
variable{P:BY}{w:Oi}{K:Wa}{mg:qa3}{base:Heap}{f CN:zB0}{fd:DO}
theorem yg{M:cU}(F:b4 K "slots_of" "slots_of" Nv f fd)(T:mJ K mg CN)(TL:Rc K mg)(O:M.Ok P w K mg base)(ab:↥Df 1 "slot_in" LS):↥aU 8 f fd ["nodes","n"] (sg M):=by
 let aa:=TL.SC;show F.dg KI ?_;intros;let#[a,m,aC,d,N,n,nd,ss,rfl,A1,hn,ec,ad,Y,q]:=h;let hs:=DD;let le:=cS Y;let#[dx,fs',ho,_,hm]:=O.ob A1;let#[g1,g2,g3]:=RH ss.9 av;show#[_,%[KI,hr,Q,ae,0,c5,O.cells,e,b,P,(de (cl:=[("cells",s⁻¹+1)]) (caps:=[("cells",2)])),cp,rfl,dh,BZ,ao,T.range,bO,d,l,h,a,B,aa,a8,b3,a,dK,(show Q7 _ (HZ K)from bT),1,D,0,D,p,0,B,aa|9],?_]
 show fj λ_ jt=>?_;show#[21,ho,hm _ aF,0,a,13,n,60,A1,hn,λH1 l1 s1 _ U=>jt _ _ ?_];clear jt;rw[ec]at U;let Z:(((bq ss).map V.int).9:Int)=8*(ss.9:Int):=(by rw[dM,le];omega);show#[0,l1,0,.inl (a9.of U),2,_,ss.9,rfl,by rw[Z];show g1,by rw[Z];show g2,aE,by rw[Z];show g3,?_];show vT (lo:=0) (st:=8) (n:=ss.9) (λi ys J=>lN J ys (ss.take i)/\aO H1 J) #[#[109],133] ?_ ?_
 .rintro i ys J hi ⟨SA,I⟩;let es:ss[i]?=some ss[i]:=y0 hi;let ac:=Y _ (Xo hi);let ly:ys.9<=40:=(by rw[SA.ln,IF];omega);show#[0,0,0,0,6,0,l1,0,a9.of (I _ _ U),λr L=>?_];rw[show d8 ((bq ss).map V.int) (some (0+(i:Int)*8)) (some (0+(i:Int)*8+8))=(jH ss[i]).map V.int by
   rw[show 0+(i:Int)*8=((8*i:Nat):Int)by omega, <-AB Y es];show pR (n:=8)]
  let s2:=au (X:=.lst ((jH ss[i]).map V.int)) L;show#[r,ss[i],51,ac,λJ2 v G hv=>#[av,?_,I.trans (s2.trans G)]];rw[WE,es];show(SA.same (s2.trans G)).snoc hv
 .rintro ys J ⟨SA,I⟩ r L;rw[WV]at SA;let G:=au (X:=.lst ys) L;show q _ r ys (s1.trans (I.trans G)) (a8 (s1.trans I) L) ag (SA.same G)
abbrev Sz:Wo:=top 70
def UY:aA ["cells","size"] ["cells","size"] (ax Sz):=L2.bg
theorem sO(F:b4 K "lengthened" "lengthened" Sz f fd)(T:mJ K mg CN):↥aU 1 f fd ["cells","size"] og:=by
 show F.dg UY ?_;intros;let#[l,xs,m,rfl,U,hm,hx,k]:=h;let hs:=DD;show#[_,%[0,0,b,M,0,cc,C,aI,aO,1,l,q|9],?_];show#[0,aE,λq1 h1=>?_];let Y:=au (X:=.lst [V.int 0]) h1;show#[0,0,l,0,.inl (a9.of (Y _ _ U)),6,q1,6,ag,5,?_,λq2 h2=>?_]
 .rw[dM];omega
 .rw[dM];omega
 .rw[dM,NC];omega
 let e:((m:Int)-((xs.map V.int).9:Nat)).5=m-xs.9:=(by rw[dM];omega);rw[rep1,e];exists h2,(.lst (TN (m-xs.9) (V.int 0))),sN,e2,H2;let I:=Y.trans sN;show#[l,q2,6,I _ _ U,e2,129,λL G=>?_];let Z:H L=none:=by
  cases q:H L with
  |none=>rfl
  |some u=>rwa[I _ _ q]at G
 show k _ L (I.trans (au G)) Z ?_;rw[ag];unfold fill;rw[yl,Yl]
end Fs
namespace L2
open PySem PySem.Spec PyProof.Rows
variable{X:Cx}{k j:Nat}{f:zB0}{sp:Sp}{pos:XU}{e:Ws}{es:qAe}{t:TA}
theorem rZ{C:zB0}{m:Str}{apos:XU}{o:Ws}{ta:TE}{pl:ZC Bool}(U:PE X.pd o ta)(c:qa X.K C)(F:Md X.prog X.w X.K X.mg X.base (cV X.prog X.w) k C m sp)(L:dX j X.A)(Z:PA X.pd (e::es) t)(hex:X.ex=[]:=by rfl)(hk:k<=j:=by decide)
  (G:qAh X e es:=by rfl) (Y:(backTo pos (starEach es X.env)).any (·.1)=false:=by rfl)
  (I:eval (.Call (.Attribute o m apos) (e::es) [] pos) X.env=(do
   let ov <-eval o X.env
   acy apos.atName
   let (f,first) <-abc [ov] (getMethod ov m pl)
   callWith pos f first (backTo pos (starEach (e::es) X.env)) (aaQ pos (Zf [] X.env))):=by rfl) :
  Fe X (.Call (.Attribute o m apos) (e::es) [] pos) (zG C m sp [] ta t):=by
 let#[f,fd,_,g,b,q]:=F;show mq U c q g (L.mono hk) hex b .nil Z G Y I
variable{x:Str}
theorem pB{p:XU}(F:Df X.prog X.w X.K X.mg X.base (cV X.prog X.w) k x sp)(L:dX j X.A)(Z:PA X.pd (e::es) t)(hex:X.ex=[]:=by rfl)(I:Gl X x:=by rfl)(hk:k<=j:=by decide)
  (G:(x==("__debug__" : Str))=false:=by decide) (U:qAh X e es:=by rfl) (Y:(backTo pos (starEach es X.env)).any (·.1)=false:=by rfl) :
  Fe X (.Call (.Name x p) (e::es) [] pos) (DU sp [] t):=by
 let#[f,fd,_,g,b,q,r]:=F;show DX g (L.mono hk) hex I q r b .nil Z G U Y
def Uz(r:R2)(tx:Ho)(tb:TE):Ho:=λσ H Q R=>tx σ H (λx H1=>tb σ H1 λy H2=>r x y H2 Q) R
theorem yY{tx:Ho}{r:R2}{a b:Ws}{tb:TE}(hr:BR X.pd r)(ha:Fe X a tx)(hb:PE X.pd b tb)(hs:uj b):Fe X (.Subscript a b pos) (Uz r tx tb):=by
 intros Q R I h;show abB (W4 (ha pins s σ H _ R I h) (λv Z z=>?_) λ_ _ z=>z);let#[x,H1,L,U,F]:=z;show nx (hb pins Z σ H1 _ (L.iX _) F) λu G z2=>?_;let#[y,H2,I2,r2,Y]:=z2;show nx (hr a b pins G σ H2 x y v u Q I2 U r2 Y (hs _ _)) λ_ _ z=>z.cm
end L2
namespace Srt
open PySem PyProof.Rows
theorem L7{x y:Str}(h1:¬ x.cps.7<y.cps.7)(h2:¬ y.cps.7<x.cps.7):x=y:=by
 let e:=List.le_antisymm (ZZ.mp h2) (ZZ.mp h1);cases x;cases y;show congrArg Str.mk (acg.mp e)
noncomputable def sle(a b:Str):Bool := !decide (b.cps.7<a.cps.7)
theorem oz(a b c:Str)(h1:sle a b=true)(h2:sle b c=true):sle a c=true:=by
 unfold sle at *;let z1:¬ b.cps.7<a.cps.7:=λz=>(by rwa[zA1 z]at h1);let z2:¬ c.cps.7<b.cps.7:=λz=>(by rwa[zA1 z]at h2);rw[zA2];rfl;show ZZ.mpr (List.le_trans (ZZ.mp z1) (ZZ.mp z2))
theorem om(a b:Str):(sle a b||sle b a)=true:=by
 unfold sle;cases c:b.cps.7<a.cps.7
 .rw[zA2 (List.lt_asymm c)];simp
 .rw[zA2 c];rfl
theorem rp{a b:Str}(h1:sle a b=true)(h2:sle b a=true):a=b:=by
 unfold sle at *;show L7 (λz=>by rwa[zA1 z]at h2) (λz=>by rwa[zA1 z]at h1)
noncomputable def xX(ns:qAb):List Str:=ns.mergeSort sle
theorem IB{ns F:qAb}(G:F.Perm ns)(h:F.Pairwise λa b=>sle a b=true):F=xX ns :=
 Z8 (λ_ _ _ _ h1 h2=>rp h1 h2) h (aag oz om ns) (G.trans (W7 ns sle).6)
noncomputable def G8(v:Value):Str:=match v with
 |.str x _=>x
 |_=>#[([].8)]
def Ea:Ln sle:=#[oz,om,rp]
theorem VO{prog:BY}{w:Oi}{A:Wv}{s:sh}{vs:qa6}(al:∀v∈vs,∃x t,v=Value.str x t):OC prog w A oneType' G8 sle vs s:=λx F y G Q q=>by
 let#[a,t,rfl]:=al x F;let#[b,u,rfl]:=al y G;show PySem.W.kas_lt_str (by rw[<-Bool.not_not (decide _)];show q)
theorem we:∀{ns:qAb}{us:qa6},L2.Vals (ns.map L2.V.str) us->us.map G8=ns/\∀v∈us,∃x t,v=.str x t
 | [],us,h=>by cases h;show#[rfl,134]
 |n::ns,us,h=>by
  cases h with
  |cons r rs =>
   let#[t,rfl]:=r;let#[e,q]:=we rs;show#[by rw[Wy,e];rfl,λv F=>?_];rcases We.mp F with rfl|F
   .show#[n,t,rfl]
   .show q v F
theorem vV:∀{us:qa6},(∀v∈us,∃x t,v=Value.str x t)->L2.Vals ((us.map G8).map L2.V.str) us
 | [],_=>.nil
 |u::us,h=>by
  let#[x,t,rfl]:=h u Wn;show .cons #[t,rfl] (vV λv F=>h v (Wm _ F))
end Srt
namespace L2
open PySem PySem.Spec PyProof.Rows Srt
inductive EW(K:Wa)(xs:qAf)(H:Hp)(Q:VK):Prop
 |mk(p:zB0)(ns:qAb)(_:xs=[.ref p])(_:a9 K H p (ns.map V.str))(_:ns.4)(_:ns.9<=63)(_:∀l,H l=none->Q (.ref l) (upd H l (.lst ((xX ns).map V.str))))
theorem vC{X:Cx}:eI X (.builtin "sorted") (EW X.K):=by
 intros xs us Q I r h;let#[p,ns,rfl,hp,aa,hn,q]:=h;let#[u,rfl,ru]:=vals1 r;cases ru;let#[its,Y,pl,_]:=I.list hp;let Z:=Y.9;rw[dM]at Z;let#[L,al]:=we Y;show pF pl.isList av Ea (by rw[L];show aa) (λA=>VO al) (λh2 A Q q=>PySem.W.kas_kind h2 (T:=.type "str") (λv F=>?_) aE aE q) λout G a2=>?_
 .let#[x,t,rfl]:=al v F;show λA Q E s _ q=>Wi q
 let#[e,he]:=sortedAll_at s.heap its out;let hs:=DD;let es:out.toList.map G8=xX ns:=IB (by rw[<-L];show G.map _) (Xa.mpr a2);let U:=vV λv F=>al v (G.mem_iff.mp F);rw[es]at U;show#[.ref (s⁻¹+1),_,I.laid (t':=s.toks) (λb o e=>sortedAll_old e) (abd _) (show cp X.prog X.w _ _ _ (.lst ((xX ns).map V.str))from#[by rw[dM, <-es,dM,G.length_eq];omega,out.7,e,U,by simpa using he]),rfl,q _ (I.bL.fresh (abd _))]
end L2
namespace Srt
open PySem PyProof.Rows
def IsT(h:Heap)(v:Value)(p:Str×zB0):Prop:=v=.ref p.2/\∃t us,IsTup h p.2 (.str p.1 t::us).8
noncomputable def nJ(h:Heap)(v:Value):Str×zB0:=match v with
 |.ref a=>match (h.get? a).map λo:Obj=>o.data with
  |some (Data.seq xs _)=>(G8 (xs.getD 0 .none),a)
  |_=>(#[([].8)],a)
 |_=>(#[([].8)],0)
variable{h:Heap}
theorem mh{v:Value}{p:Str×zB0}(i:IsT h v p):nJ h v=p:=by
 let#[rfl,t,us,o,F,_,n,e3]:=i;unfold nJ;dsimp only;rw[F,acH,e3];rfl
theorem zP{α:Type}{ps:List (Str×α)}(nd:(ps.map (·.1)).4){p q:Str×α}(G:p∈ps)(I:q∈ps)(e:p.1=q.1):p=q:=by
 let#[i,hi,rfl]:=aa4.mp G;let#[j,F,rfl]:=aa4.mp I;have:i=j:=(aaN (h₀:=by simpa using hi) (h₁:=by simpa using F) nd).mp (by rw[aaV,aaV];show e);subst this;rfl
theorem xE{prog:BY}{w:Oi}{A:Wv}{b:Bool}{Q:Bool->sh->Prop}{s:sh}(q:Q false s):∀(us:qa6)(i:Nat),PySem.W.KatLex prog w A b false Q (us.zip us) i s
 | [],_=>PySem.W.kat_nil q
 |u::us,i=>kat_cons (aaB u _ _ _ _ (PySem.W.kat_yes (xE q us (i+1))))
variable{s:sh}{vs:qa6}
theorem VZ{ps:List (Str×zB0)}(nd:(ps.map (·.1)).4){prog:BY}{w:Oi}{A:Wv}(G:∀b o,h.get? b=some o->s.heap.get? b=some o)(U:∀v∈vs,∃p∈ps,IsT h v p):OC prog w A (tuples' true) (λv=>(nJ h v).1) sle vs s:=λx h1 y h2 Q q=>by
 let#[p,hp,Y]:=U x h1;let#[r,hr,L]:=U y h2;let F:Q (!sle (nJ h y).1 (nJ h x).1) s:=q;clear q;rw[mh Y,mh L,show(!sle r.1 p.1)=decide (p.1.cps.7<r.1.cps.7)from Bool.not_not _]at F;let#[rfl,t1,u1,o1,g1,c1,n1,I]:=Y;let#[rfl,t2,u2,o2,g2,c2,n2,Z]:=L;cases c:p.1=r.1
 .obtain rfl:=zP nd hp hr c;rwa[g1]at g2;rw[zA2 (List.lt_irrefl _)]at F;show kat_lt (G _ _ g1) I (G _ _ g1) I ?_;rw[zA2 (X7 _)];show xE F _ 0
 .show kat_lt (G _ _ g1) I (G _ _ g2) Z (kat_cons (wpAny_eqBool_str ?_));rw[zA2 c];show PySem.W.kat_no (oneLt_str F)
section
variable{α:Type}
noncomputable def Bl(p q:Str×α):Bool:=sle p.1 q.1
noncomputable def ip(ps:List (Str×α)):List (Str×α):=ps.mergeSort Bl
def nW(ps:List (Str×α)):(ip ps).Pairwise λa b=>Bl a b=true:=aag (le:=Bl) (λa b c=>oz a.1 b.1 c.1) (λa b=>om a.1 b.1) ps
theorem mG{ps qs:List (Str×α)}(nd:(ps.map (·.1)).4)(F:qs.Perm ps)(h:qs.Pairwise λa b=>Bl a b=true):qs=ip ps :=
 Z8 (λ_ _ I G h1 h2=>zP nd (F.mem_iff.mp I) ((W7 ps Bl).mem_iff.mp G) (rp h1 h2)) h (nW ps) (F.trans (W7 ps Bl).6)
end
theorem xu{h:Heap}:∀{vs:qa6},(∀v∈vs,∃p,IsT h v p)->∃fs,PySem.W.KatTups h vs fs/\fs.9=vs.9/\∀f∈fs,∃x t,f=Value.str x t
 | [],_=>#[[],.nil,rfl,134]
 |v::vs,a=>by
  let#[fs,k,l,q]:=xu (vs:=vs) λu G=>a u (Wm _ G);let#[p,rfl,t,u,o,g,c,n,d]:=a v Wn;show#[.str p.1 t::fs,.cons g c d rfl k,by rw[WG,WG,l],λf F=>?_];rcases We.mp F with rfl|F
  .show#[_,0]
  .show q f F
theorem Ga{b:zB0}{o:Obj}(h:s.heap.get? b=some o):(pM (KY s vs) (s⁻¹+1) vs).heap.get? b=some o:=by
 let lt:=zA6 h;let F:((s.heap.push (seqObj "list" ([].8) 0)).update s⁻¹ (Obj.mapSeq (· ++ vs.8))).objs.3=s⁻¹+1:=(by rw[zA8,Y4]);unfold pM KY;dsimp only;rw[zA7 _ _ _ (by rw[Y4,zA8,Y4,F];omega),zA7 _ _ _ (by rw[zA8,Y4,F];omega),Heap.get?_update_ne _ b (s⁻¹+1) _ av,zA7 _ _ _ (by rw[F];omega),Heap.get?_update_ne _ b s⁻¹ _ av,zA7 _ _ _ av];show h
end Srt
variable{P:BY}{w:Oi}{K:Wa}{mg:qa3}{base:Heap}{f:zB0}{fd:DO}
namespace L2
open PySem PySem.Spec PyProof.Rows Srt
theorem Av:∀{ps:List (Str×zB0)}{its:qa6},Vals (ps.map λx=>V.ref x.2) its->its=ps.map λx=>Value.ref x.2
 | [],_,.nil=>rfl
 |p::ps,_,.cons r rest=>by rw[Av rest,show _=Value.ref p.2 from r];rfl
noncomputable abbrev Io(ps:List (Str×zB0)):List V:=ps.map λx=>V.ref x.2
inductive Du(K:Wa)(xs:qAf)(H:Hp)(Q:VK):Prop
 |mk(p:zB0)(ps:List (Str×zB0))(_:xs=[.ref p])(_:a9 K H p (Io ps))(_:∀x∈ps,∃r,H x.2|||(.str x.1::r))(_:(ps.map (·.1)).4)(_:ps.9<=63)(_:∀l,H l=none->Q (.ref l) (upd H l (.lst (Io (ip ps)))))
variable{X:Cx}
theorem mD:eI X (.builtin "sorted") (Du X.K):=by
 intros xs us Q I r h;let#[p,ps,rfl,hp,ta,aa,hn,q]:=h;let#[u,rfl,ru]:=vals1 r;cases ru;let#[its,rv,pl,_]:=I.list hp;let hl:=rv.9;rw[dM]at hl;let hs:=DD;let ei:=Av rv;let Y:∀v∈its,∃G∈ps,IsT s.heap v G:=λv F=>by
  rw[ei]at F;let#[x,U,rfl]:=z4.mp F;let#[r,hr]:=ta x U;let#[ac,L,ab,_]:=I.tuple (cX.of hr);cases L with
  |cons a L =>
   let#[t1,rfl]:=a;show#[x,U,rfl,t1,_,ab]
 let em:its.map (nJ s.heap)=ps:=by
  rw[ei,WU];show(Xs λx U=>?_).trans (map_id _);let#[y,_,_]:=Y (.ref x.2) (by rw[ei];show z4.mpr #[x,U,rfl]);let#[r,hr]:=ta x U;let#[ac,L,ab,_]:=I.tuple (cX.of hr);cases L with
  |cons a L =>
   let#[t1,rfl]:=a;show mh #[rfl,t1,_,ab]
 show pF pl.isList av Ea ?_ (λA=>VZ aa (λb o e=>Ga e) Y) (λh2 A Q q=>?_) λout Z a2=>?_
 .let e3:=congrArg (aaW λp:Str×zB0=>p.1) em;rw[WU]at e3;rw[show(its.map λv=>(nJ s.heap v).1)=ps.map (·.1)from e3];show aa
 .let ad:∀v∈its,∃G,IsT (pM (KY s its) (s⁻¹+1) its).heap v G:=λv F=>by
   let#[G,_,e,t,u,o,g,c]:=Y v F;show#[G,e,t,u,o,Ga g,c]
  let#[fs,k1,k2,k3]:=xu ad;show PySem.W.kat_kind (T:=.type "str") k1 av (λv F=>?_) aE ?_
  .let#[x,t,rfl]:=k3 v F;show λA Q E s _ q=>Wi q
  .rw[show((Value.type "str" != Value.type "tuple")=true)by decide];show q
 let#[e,he]:=sortedAll_at s.heap its out;let es:out.toList.map (nJ s.heap)=ip ps:=mG aa (by rw[<-em];show Z.map _) (Xa.mpr a2);let vo:Vals (Io (ip ps)) out.7:=by
  let ar:∀v∈out.7,v=Value.ref (nJ s.heap v).2:=λv F=>by
   let#[G,_,i]:=Y v (Z.mem_iff.mp F);rw[mh i];show i.1
  rw[<-es];generalize out.7=l at ar;clear es e he Z a2 out
  induction l with
  |nil=>show .nil
  |cons v l ih=>show .cons (ar v Wn) (ih λu hu=>ar u (Wm _ hu))
 let lo:=vo.9;rw[Z.length_eq]at lo;show#[.ref (s⁻¹+1),_,I.laid (t':=s.toks) (λb o e=>sortedAll_old e) (abd _) (show cp X.prog X.w _ _ _ (.lst (Io (ip ps)))from#[av,out.7,e,vo,by simpa using he]),rfl,q _ (I.bL.fresh (abd _))]
structure lD(H:Hp)(ws:qAf)(ps:List (Str×Int)):Prop where
 ln:ws.9=ps.9
 at_:∀(i:Nat)(v:V),ws[i]?=some v->∃p t,ps[i]?=some p/\v=.ref t/\H t|||[.str p.1,.int p.2]
inductive Es(K:Wa)(xs:qAf)(H:Hp)(Q:VK):Prop
 |mk(p:zB0)(ws:qAf)(ps:List (Str×Int))(_:xs=[.ref p])(_:a9 K H p ws)(_:lD H ws ps)(_:(ps.map (·.1)).4)(_:ps.9<=63)(_:∀l ws',H l=none->lD H ws' (ip ps)->Q (.ref l) (upd H l (.lst ws')))
theorem uH:eI X (.builtin "sorted") (Es X.K):=by
 intros xs us Q I r h;let#[p,ws,ps,e,hp,ta,L,hn,q]:=h;obtain⟨zs,e1,F,U⟩:∃zs:List (Str×zB0×Int),ws=zs.map (λz=>V.ref z.2.1)/\ps=zs.map (λz=>(z.1,z.2.2))/\∀z∈zs,H z.2.1|||[.str z.1,.int z.2.2]:=by
  clear hp L hn q
  induction ws generalizing ps with
  |nil=>cases ps with
   |nil=>show#[[],1,nofun]
   |cons a b=>cases ta.ln
  |cons v ws ih =>
   cases ps with
   |nil=>cases ta.ln
   |cons a ps =>
   let#[zs,e1,F,U]:=ih ps #[ab3 ta.ln,λi v G=>ta.at_ (i+1) v G];let#[b,t,eb,rfl,ht]:=ta.at_ 0 v rfl;cases eb;show#[(a.1,t,a.2)::zs,by rw[e1];rfl,by rw[F];rfl,λz h=>?_];rcases We.mp h with rfl|h
   .show ht
   .show U z h
 let Y:((zs.map λz=>(z.1,z.2.1)).map (·.1)).4:=by
  rw[F,WU]at L;rw[WU];show L
 let n3:(zs.map (·.1)).4:=(by rw[WU]at Y;show Y);let es:ip ps=(ip zs).map λz=>(z.1,z.2.2):=(mG L (by rw[F];show(W7 zs Bl).map _) (Xa.mpr (nW zs))).6;let ea:ip (zs.map λz=>(z.1,z.2.1))=(ip zs).map λz=>(z.1,z.2.1):=(mG Y ((W7 zs Bl).map _) (Xa.mpr (nW zs))).6;show mD pins s σ H xs us Q I r #[p,zs.map λz=>(z.1,z.2.1),e,by rw[Io,WU];show e1▸hp,λx hx=>?_,Y,by rw[F,dM]at hn;rw[dM];show hn,λl hl=>q l _ hl ?_]
 .let#[z,Z,rfl]:=z4.mp hx;show#[_,U z Z]
 .rw[es,ea,Io,WU];show#[by rw[dM,dM],λi v G=>?_];rw[LW]at G ⊢;let#[z,Z,rfl]:=HC.mp G;rw[Z];show#[_,z.2.1,1,U z ((W7 zs Bl).mem_iff.mp (L1 Z))]
end L2
namespace Fs
open PySem L2 Dk Tb
inductive Er|badName|noName|notDir|isDir|notEmpty|inside|noNode|noSpace|tooMany|tooBig|notHeld|notAllowed|taken
noncomputable def Kb(e:Er):Str:=match e with
 |.badName => "BadName"
 |.noName => "NoName"
 |.notDir => "NotDir"
 |.isDir => "IsDir"
 |.notEmpty => "NotEmpty"
 |.inside => "Inside"
 |.noNode => "NoNode"
 |.noSpace => "NoSpace"
 |.tooMany => "TooMany"
 |.tooBig => "TooBig"
 |.notHeld => "NotAllowed"
 |.notAllowed => "NotAllowed"
 |.taken => "Taken"
structure pP(K:Wa)(mg:qa3)(X:Er->zB0):Prop where
 xm:∀e,mg (Kb e)=some (.ref (X e))
 xe:∀e,abX K (X e) pe "ValueError.__new__" = true
 Hz:∃u,mg "LETTERS" = some u/\RelV (.str vi) u
 vJ:∃u,mg "NAME_LETTERS" = some u/\RelV (.int 6) u
 rT:∃u,mg "SLOT_CELLS" = some u/\RelV (.int 8) u
 BU:∃u,mg "DIR_SLOTS" = some u/\RelV (.int 40) u
 qy:∃u,mg "NODE_CELLS" = some u/\RelV (.int 320) u
 vG:∃u,mg "ROOT" = some u/\RelV (.int 0) u
 len:mg "len" = none
 all:mg "all" = none
 list:mg "list" = none
 sorted:mg "sorted" = none
def Pw(t:Str):Bool:=t.cps.toList.all λc=>decide (c∈vi.cps.7)
noncomputable def fH(t:Str):Bool:=decide (1<=t.9/\t.9<=6)&&Pw t
theorem tR{t:Str}(h:fH t=true):okN t:=by
 unfold fH at h;rw[X8]at h;let#[h1,h2]:=h;let h1:=zA0 h1;show#[h1.1,h1.2,λc F=>?_];have:=zA0 (Xp.mp h2 c F);show(show ∀c∈vi.cps.7,97<=c/\c<123 by decide +kernel) c this
inductive qt(v:qAf)(H:Hp)(Q:VK)(e:XK):Prop
 |mk(t:Str)(_:v=[.str t])(_:t.9<=100000)(_:∀H',aO H H'->Q (.bl (fH t)) H')
def ME(c:Nat):(!(Builtin.Str.occurrences vi #[([c].8)] 0 vi.9 1).isEmpty)=decide (c∈vi.cps.7):=StrLaws.found_one vi c
theorem EB{l:List Nat}{p:Nat->Bool}{i c:Nat}(h:l[i]?=some c):((l.take i).map p).map V.bl++[V.bl (p c)]=((l.take (i+1)).map p).map V.bl:=by
 rw[WE,h,yl,yl];rfl
def SL:Str := "/"
structure cH(p:Str):Prop where
 len:p.9<=20000
 cps:∀c∈p.cps.7,c<128
def cH.repr{p:Str}(h:cH p):(ZN p).9<=200002:=by
 have:=StrLaws.reprText_len p λc F=>WS (h.cps c F) aE;have:=h.len;omega
noncomputable def fK(p:Str):Str:=Txt.slice p (some 1) none
noncomputable def gf(p:Str):Except Er (List Str):=if p=SL then .ok []else if Txt.startswith p SL=true then(if (Txt.split (fK p) SL).all fH=true then .ok (Txt.split (fK p) SL)else .error .badName)else .error .badName
inductive zo(X:Er->zB0)(v:qAf)(H:Hp)(Q:VK)(e3:XK):Prop
 |mk(p:Str)(_:v=[.str p])(_:cH p)(_:∀e,gf p=.error e->∀H',aO H H'->e3 (.ref (X e)) none H')
  (_:∀ns,gf p=.ok ns->∀(H':Hp)(l:zB0),aO H H'->H l=none->H' l∣(ns.map V.str)->Q (.ref l) H'):zo X v H Q e3
theorem pz(x:Str)(w:Nat):∀(F:List Nat)(a:Nat)(y:Str),y∈Z0 x w a F->y.9<=x.9/\∀c∈y.cps.7,c∈x.cps.7
 | [],a,y,h=>by
  let e:y=Builtin.Str.strSub x a x.9:=(by simpa[Z0]using h);show sub_piece e
 |c::r,a,y,h=>by
  rcases We.mp (show y∈Builtin.Str.strSub x a c::Z0 x w (c+w) r from h)with e|h
  .show sub_piece e
  .show pz x w r (c+w) y h
where
 sub_piece {x y:Str}{a b:Nat}(e:y=Builtin.Str.strSub x a b):y.9<=x.9/\∀c∈y.cps.7,c∈x.cps.7:=by
  subst e;let G:(Builtin.Str.strSub x a b).9=(Builtin.Str.strSub x a b).cps.toList.length:=(by simp[Str.length]);let I:x.9=x.cps.toList.length:=(by simp[Str.length]);rw[G,I,StrLaws.strSub_toList];show#[?_,λc L=>XH (WY L)];rw[IF,WC];omega
theorem En(x y z:Str)(h:z∈Txt.split x y):z.9<=x.9/\∀c∈z.cps.7,c∈x.cps.7:=by
 unfold Txt.split at h;split at h
 .rw[sx.mp h];show#[G0 _,λ_ h=>h]
 .split at h
  .rw[sx.mp h];show#[G0 _,λ_ h=>h]
  .rw[StrLaws.partsBetween_eq]at h;show pz x _ _ _ z h
def xv(x y z:Str)(h:z∈Txt.split x y):z.9<=x.9:=(En x y z h).1
abbrev RE:Wo:=top 45
abbrev RQ:Wo:=top 46
def RY:aA ["text"] ["text"] (ax RE):=L2.bg
variable{X:Er->zB0}
theorem CH(F:b4 K "is_name" "is_name" RE f fd)(T:pP K mg X):↥aU 1 f fd ["text"] qt:=by
 show F.dg RY ?_;intros;let#[t,rfl,U,k]:=h;let hs:=DD;show#[_,%[0,0,b,cm,d2,AW,AW,aw,S,jS,cO,q,B,T.vJ,cJ,S,d3,rfl,T.all,FF,a,P,b9,bJ,rfl,d1,0,a8,bG,Ct,0,B,T.Hz,cq|9],?_];show#[0,t,rfl,av,19];show cQ (λc1=>?_) (λc1=>#[false,rfl,bA ?_])
 .let L:(1:Int)<=(t.9:Int):=zA0 c1;show#[19];show cQ (λc2=>?_) (λc2=>?_)
  .let _:(t.9:Int)<=6:=zA0 c2;show#[0,t,3];show tQ (λi ys H2=>ys=((t.cps.toList.take i).map λc=>decide (c∈vi.cps.7)).map V.bl/\H2=H) #[1] ?_ ?_
   .rintro i c ys H2 I ⟨rfl,rfl⟩;show#[0,_,0,3,55]
    .rw[dM,dM,IF];have:t.cps.toList.length=t.9:=(by simp[Str.length]);omega
    .rw[ME];show EB ‹I›
   .rintro ys H2 ⟨rfl,rfl⟩ l G;show#[l,0,32,?_];let e:((t.cps.toList.take t.cps.3).map λc=>decide (c∈vi.cps.7)).all id=fH t:=by
     rw[V6 (by simp),abV];unfold fH;rw[zA1 #[av,av]];rfl
    rw[e];show k _ (au G)
  .let Y:¬ (t.9:Int)<=6:=λz=>c2 (zA1 z);let e:fH t=false:=by
    unfold fH;rw[zA2 av];rfl
   rw[e]at k;show k _ (aO.refl _)
 .let L:¬ (1:Int)<=(t.9:Int):=λz=>c1 (zA1 z);let e:fH t=false:=by
   unfold fH;rw[zA2 av];rfl
  rw[e]at k;show k _ (aO.refl _)
def MQ:aA ["path","names","name"] ["path"] (ax RQ):=L2.bg
theorem zI(F:b4 K "names_of" "names_of" RQ f fd)(T:pP K mg X)(GI:↥Df 1 "is_name" qt):⇑aU 2 f fd ["path"] (zo X):=by
 show F.gx MQ ?_;intros;let#[p,rfl,hp,kE,kQ]:=h;let hs:=DD;show#[_,%[MQ,hr,c8,aX,g,0,E,b,aC,aS,cK,X,cl,Zv,Zw,oi,0,y,aU,dw,aV,dw,a,cs,aA,d4,0,aA,cE,aE,1,cl,YR,aaz,x9,dl,0,D,aw,y,cT,d5,cU,aZ,1,av,2,W,bU,cK,X,c,GI,h,aU,dw,aV,dw,a,cs,aA,d4,0,aA,cE,au,b,1|9],?_]
 let ac:=hp.repr;let aa:(ZN p).9<=sizeLine:=av;let f1:(Str.empty++ZN p:Str).9<=sizeLine:=by
  rw[len_app,show(Str.empty:Str).9=0 from rfl];omega
 let f2:(Str.empty++ZN p++(" is no path" : Str):Str).9<=sizeLine:=by
  rw[len_app,len_app,show(Str.empty:Str).9=0 from rfl,show(" is no path" : Str).9=11 by decide +kernel];omega
 let aj:=hp.len;show#[0,9];show cQ (λc=>?_) (λc=>?_)
 .let e:p=SL:=V.str.inj (zA0 c);show#[aE,λl I=>?_];show kQ [] (by unfold gf;rw[acW e]) _ l (au I) I ag
 let ne:¬ p=SL:=λz=>c (zA1 (by rw[z];rfl));show#[0,rfl,p,SL,1,0,?_];cases Z:Txt.startswith p SL with
 |false =>
  show bU ?_;show#[0,p,rfl,aa,0,f1,0,f2,f2,wQ,kE _ (by unfold gf;rw[acV ne,Z];rfl) H (aO.refl H)]
 |true =>
  show bA ?_;let ad:(fK p).9<=p.9:=Txt.slice_le p _ _;show#[22,p,rfl,av,rfl,fK p,SL,1,rfl,av,λl I=>?_];let s1:=au (X:=.lst ((Txt.split (fK p) SL).map V.str)) I;let h1:(upd H l (.lst ((Txt.split (fK p) SL).map V.str))) l∣((Txt.split (fK p) SL).map V.str):=ag;let ab:∀x∈Txt.split (fK p) SL,x.9<=20000:=λx U=>by
   have:=xv (fK p) SL x U;omega
  let ed:(Txt.split (fK p) SL).all fH=true->gf p=.ok (Txt.split (fK p) SL):=λz=>by
   unfold gf;rw[acV ne,Z,acW rfl,acW z]
  let en:(Txt.split (fK p) SL).all fH=false->gf p=.error .badName:=λz=>by
   unfold gf;rw[acV ne,Z,acW rfl,z];rfl
  generalize Txt.split (fK p) SL=ns at *;generalize upd H l (.lst (ns.map V.str))=H1 at *;show#[69,#[_,a9.of h1],?_];show tF (K:=K) (a:=l) (xs:=ns.map V.str) (λi σ H2=>∃v2:Option V,σ=#v[.str p,.ref l,v2]/\aO H1 H2/\(ns.take i).all fH=true) #[0,aO.refl _,rfl] (λi σ H2 _ ⟨_,_,G,_⟩=>a9.of (G _ _ h1)) ?_ ?_
  .rintro i x σ H2 U ⟨v2,rfl,G,L⟩;rw[LW]at U;let#[n,Y,rfl]:=HC.mp U;show#[0,n,rfl,WK (ab n (L1 Y)) aE,λH3 s3=>#[0,?_]];cases ho:fH n with
   |false =>
    show bU ?_;show#[0,p,rfl,aa,0,f1,0,f2,f2,wQ,kE _ (en ?_) H3 ((s1.trans G).trans s3)];rw[List.all_eq_false];show#[n,L1 Y,by rw[ho];simp]
   |true =>
    show bA #[0,G.trans s3,?_];rw[WE,Y,List.all_append,L];simp[ho]
  .rintro σ H2 ⟨v2,rfl,G,L⟩;rw[dM,WV]at L;show#[0,kQ ns (ed L) H2 l (s1.trans G) I (G _ _ h1)]
end Fs
namespace L2
open PySem PySem.Spec PyProof.Rows
def mQ(x:V):Bool:=match x with
 |.bh=>true
 |_=>false
def ph(v:Value):Bool:=match v with
 |.none=>true
 |_=>false
structure Pb(K:Wa)(H:Hp)(xs:qAf):Prop where
 at_:∀x∈xs,x=.bh\/∃t ys,x=.ref t/\cX K H t ys
variable{X:Cx}{pins:qa1}{σ:St}{H:Hp}{s:sh}{A:Wv}
theorem rq(I: ~~~H s)(F:A.units<Yy):∀{xs:qAf}{us:qa6},Vals xs us->Pb X.K H xs->∀u∈us,aar A s u .none (ph u)
 |_,_,.nil,_=>λu F=>by cases F
 |x::xs,u::us,.cons r t,h=>λU G=>by
  rcases We.mp G with rfl|G
  .rcases h.at_ x Wn with rfl|⟨t,ys,rfl,L⟩
   .cases r;show aaB _
   .cases r;let#[its,_,pl,_]:=I.tuple L;show SeqAt.EqAt.tuple_none pl F
  .show rq I F t #[λy Y=>h.at_ y (Wm _ Y)] U G
theorem uE:∀{xs:qAf}{us:qa6},Vals xs us->Pb X.K H xs->us.map ph=xs.map mQ
 |_,_,.nil,_=>rfl
 |x::xs,u::us,.cons r t,h=>by
  rw[Wy,Wy,uE t #[λy F=>h.at_ y (Wm _ F)]];rcases h.at_ x Wn with rfl|⟨t,ys,rfl,_⟩
  .cases r;rfl
  .cases r;rfl
inductive Qq(K:Wa)(x:V)(y:V)(H:Hp)(Q:VK):Prop
 |mk(p:zB0)(xs:qAf)(_:x=.bh)(_:y=.ref p)(_:a9 K H p xs)(_:Pb K H xs)(_:Q (.bl (xs.any mQ)) H)
theorem Mp(G:X.A.units+1<Yy):lj X (W8 .In) (Qq X.K):=by
 intros x y v u Q I L U h;let#[p,xs,rfl,rfl,Y,F,q]:=h;cases L;cases U;let#[its,r,pl,_]:=I.list Y;show acs ph pl.isList (λw Z=>rq I G r F w ‹Z›) #[75,3];rw[show its.toArray.any ph=its.any ph by simp,show its.any ph=xs.any mQ by
  have:=congrArg (List.any · id) (uE r F)
  (rw[any_map,any_map]at this;assumption)]
 show q
inductive Bw(K:Wa)(x:V)(vs:qAf)(H:Hp)(Q:VK):Prop
 |mk(l:zB0)(xs:qAf)(j:Nat)(_:x=.ref l)(_:vs=[.bh])(_:H l∣xs)(_:Pb K H xs)(_:(xs[j]?).map mQ=some true)(_:∀i,i<j->(xs[i]?).map mQ=some false)(_:Q (.int (j:Nat)) H)
theorem CZ(U:X.A.units+1<Yy):IA X "list.index" (Bw X.K):=by
 intros x vs v us Q I rx Z h;let#[l,xs,j,rfl,rfl,hH,L,h1,h2,q]:=h;cases rx;let#[u,rfl,ru]:=Z.one;cases ru;let#[z,its,n,r,hl,e]:=I.pG hH;let em:=uE r L;let key:∀(i:Nat)(b:Bool),(xs[i]?).map mQ=some b->(its[i]?).map ph=some b:=λi b hb=>by
  have:=congrArg (λl:List Bool=>l[i]?) em;simp only[LW]at this;rw[this];show hb
 let G:j<its.9:=by
  have:=key j true h1;cases q:its[j]? with
  |none=>rwa[q]at this
  |some y=>show(u4.mp q).1
 let hs:=DD;show XG YD #[81] Z9 (ZS _ _)
  (abG l its.8 n none ([].8) .none ph j ‹G› av ?_ ?_) #[e,λy hy=>rq I U r L y ‹hy›,#[.int (j:Nat),85]]
 .have:=key j true h1;rw[y0 G]at this;simpa using this
 .intro i hi Y;have:=key i false (h2 i Y);rw[y0 ‹hi›]at this;simpa using this
end L2
namespace Fs
open PySem L2 Dk Tb Srt
variable{xs:qAf}{s:Nat}
theorem HH:d8 xs none (some (s:Int))=xs.take s:=by
 unfold d8;rw[HT.kW,HT.mU,Ym,Nat.sub_zero];cases c:s<=xs.9
 .rw[Zk c]
 .rw[YS av,V6 (G0 _),V6 av]
theorem tW:d8 xs (some (s:Int)) none=xs.drop s:=by
 unfold d8;rw[HT.kW,HT.mU];cases c:s<=xs.9
 .rw[Zk c,V6 (by rw[WC];show G0 _)]
 .rw[YS av,Xb (G0 _),Xb av,aa1]
def dE(ss:List Slot):List Str:=ss.filterMap λs=>s.map (·.1)
noncomputable def Va(s:Slot):List Str:=match s with
 |none=>[]
 |some p=>[p.1]
variable{ss:List Slot}{s:Slot}
def EC:dE (ss++[s])=dE ss++Va s:=by
 unfold dE;rw[aaK];cases s<;>rfl
def Bn(ss:List Slot):(dE ss).9<=ss.9:=X6 ..
inductive FT(v:qAf)(H:Hp)(Q:VK)(e:XK):Prop
 |mk(l:zB0)(ws:qAf)(ss:List Slot)(_:v=[.ref l])(_:H l∣ws)(_:lN H ws ss)(_:ss.9<=40)(_:(dE ss).4)(_:∀(H':Hp)(q:zB0),aO H H'->H q=none->H' q∣((xX (dE ss)).map V.str)->Q (.ref q) H')
def xY(ns:qAb):(xX ns).9=ns.9:=(W7 ns sle).length_eq
abbrev Nn:Wo:=top 54
abbrev Ss:Wo:=top 57
abbrev MK:Wo:=top 58
abbrev TR:Wo:=top 59
def QZ:aA ["slots"] ["slots"] (ax Nn):=L2.bg
variable{X:Er->zB0}
theorem zk(F:b4 K "names_in" "names_in" Nn f fd)(T:pP K mg X):↥aU 1 f fd ["slots"] FT:=by
 show F.dg QZ ?_;intros;let#[l,ws,ss,rfl,I,SA,aa,nd,q]:=h;let hs:=DD;show#[_,%[0,0,b,S,vC,de,a,P,b9,bJ,aZ,0,T,ch,ct,0,aq,T,b4,cC,0|9],?_];show#[69,#[_,a9.of I],?_];show iA (K:=K) (a:=l) (xs:=ws) (λi ys J=>ys=(dE (ss.take i)).map V.str/\J=H) #[1] (λi ys J _ z=>by rw[z.2];show a9.of I) ?_ ?_
 .rintro i x ys J hx ⟨rfl,rfl⟩;let#[G,Z,U]:=SA.at_ i x hx;let lt:=Bn (ss.take i);rw[IF]at lt;let L:dE (ss.take (i+1))=dE (ss.take i)++Va G:=(by rw[WE,Z];show EC);show#[0,9];cases G with
  |none =>
   cases U;show bA #[by rw[L];show(congrArg _ (Wt _).6),rfl]
  |some p =>
   let#[t,rfl,ht]:=U;show bU #[0,41,.str p.1,1,cX.of ht,84,87,55];rw[L,yl];rfl
 .rintro ys J ⟨rfl,rfl⟩ r Y;rw[SA.ln,WV];let G:=au (X:=.lst ((dE ss).map V.str)) Y;let ln:=Bn ss;show#[r,dE ss,rfl,32,nd,av,λl2 f2=>q _ l2 (G.trans (au f2)) (a8 G f2) ag]
inductive DC(X:Er->zB0)(v:qAf)(H:Hp)(Q:VK)(e:XK):Prop
 |mk(l:zB0)(ws:qAf)(ss:List Slot)(_:v=[.ref l])(_:H l∣ws)(_:lN H ws ss)(_:ss.9<=40)(_:(dE ss).4)(_:40<=(dE ss).9->∀H',aO H H'->e (.ref (X .tooMany)) none H')(_:(dE ss).9<40->∀H',aO H H'->Q .bh H')
def Uw:aA ["slots"] ["slots"] (ax Ss):=L2.bg
theorem sI(F:b4 K "refuse_full" "refuse_full" Ss f fd)(T:pP K mg X)(L:↥Df 1 "names_in" FT):⇑aU 2 f fd ["slots"] (DC X):=by
 show F.gx Uw ?_;intros;let#[l,ws,ss,rfl,I,SA,Y,nd,kE,Z]:=h;show#[_,%[0,hr,W,bU,H,DW,l,a,c,L,q,B,T.BU,s,aU,.tooMany,aV,.tooMany,y|9],?_];show#[0,l,ws,ss,rfl,I,SA,Y,nd,λH1 q G _ U=>?_];show#[q,0,.inl (a9.of U),19];rw[dM,xY];show cQ (λc=>?_) (λc=>?_)
 .show#[aE,kE (by have:=zA0 c;omega) H1 G]
 .show Z (by have:¬ (40:Int)<=((dE ss).9:Nat):=λz=>c (zA1 z);omega) H1 G
def mf(ss:List Slot):Nat:=ss.findIdx isNone
noncomputable def cG(ss:List Slot)(nm:Str)(k:Int):List Slot:=ss.take (mf ss)++[some (nm,k)]++ss.drop (mf ss+1)
inductive Fv(v:qAf)(H:Hp)(Q:VK)(e:XK):Prop
 |mk(l:zB0)(ws:qAf)(ss:List Slot)(nm:Str)(k:Int)(_:v=[.ref l,.str nm,.int k])(_:H l∣ws)(_:lN H ws ss)(_:ss.9<=40)(_:∀(H':Hp)(q:zB0)(ws':qAf),aO H H'->H q=none->H' q∣ws'->lN H' ws' (cG ss nm k)->Q (.ref q) H')
variable{H:Hp}{ws:qAf}
theorem lN.VI(A:lN H ws ss):Pb K H ws:=#[λx G=>by
 let#[i,hi]:=YZ.mp G;let#[s,_,a]:=A.at_ i x hi;cases s with
 |none=>show .inl a
 |some p =>
  let#[t,e,F]:=a;show .inr #[t,_,e,cX.of F]]
theorem lN.bh(A:lN H ws ss):ws.map mQ=ss.map isNone:=Z1 λi=>by
 rw[LW,LW];cases e:ws[i]? with
 |none =>
  have:=List.getElem?_eq_none_iff.mp e;rw[aaI (by rw[<-A.ln];show this)];rfl
 |some v =>
  let#[s,F,a]:=A.at_ i v e;rw[F];cases s with
  |none=>cases a;rfl
  |some p =>
   let#[t,rfl,_]:=a;rfl
theorem lN.cut(A:lN H ws ss)(j:Nat):lN H (ws.take j) (ss.take j)/\lN H (ws.drop j) (ss.drop j):=by
 let l:=A.ln;show#[#[by rw[IF,IF,l],λi v h=>?_],#[by rw[WC,WC,l],λi v h=>?_]]
 .rw[Xq]at h;cases c:i<j
  .rw[acW c]at h;let#[s,e,a]:=A.at_ i v h;show#[s,by rw[Xq,acW c];show e,a]
  .rw[acV c]at h;cases h
 .rw[XM]at h;let#[s,e,a]:=A.at_ _ v h;show#[s,by rw[XM];show e,a]
theorem lN.app{us:qAf}{ts:List Slot}(A:lN H ws ss)(B:lN H us ts):lN H (ws++us) (ss++ts):=by
 let l:=A.ln;show#[by rw[ti,ti,l,B.ln],λi v h=>?_];cases c:i<ws.9
 .rw[Wj c]at h;let#[s,e,a]:=A.at_ i v h;show#[s,123,a]
 .rw[Wb av]at h;let#[s,e,a]:=B.at_ _ v h;show#[s,by rw[Wb av, <-l];show e,a]
def KZ:aA ["slots","name","node","at"] ["slots","name","node"] (ax MK):=L2.bg
theorem vy(F:b4 K "slots_with" "slots_with" MK f fd)(T:pP K mg X):↥aU 1 f fd ["slots","name","node"] Fv:=by
 show F.dg KZ ?_;intros;let#[l,ws,ss,nm,k,rfl,G,SA,aa,q]:=h;let hs:=DD;let en:=SA.bh;let le:=SA.ln;show#[_,%[KZ,0,aY,cH,H,bz,Mp,m,bV,0,cq,be,YD,aaD,bz,CZ,m,0,a,bV,l,q,b,M,M,w,0,aQ,3,C,a,al,J,h,w,0,D,p,3,aw,bM|9],?_]
 show share (λσ J=>σ=#v[.ref l,.str nm,.int k,.int (mf ss:Nat)]/\J=H) (λu' jt=>?_) ?_
 .show#[0,l,ws,1,56,SA.VI,0,?_];let ea:ws.any mQ=ss.any isNone:=by
   have:=congrArg (List.any · id) en
   (rw[any_map,any_map]at this;assumption)
  rw[ea];cases c:ss.any isNone with
  |true =>
   let I:mf ss<ss.9:=List.findIdx_lt_length.mpr ‹c›;let key:∀i:Nat,(ws[i]?).map mQ=(ss[i]?).map isNone:=λi=>by
    have:=congrArg (λz:List Bool=>z[i]?) en;simpa only[LW]using this
   show bU #[0,.inl #[4,56],l,ws,mf ss,1,G,SA.VI,?_,λi hi=>?_,jt _ _ #[1]]
   .rw[key,y0 I];show congrArg some (List.findIdx_getElem (w:=I))
   .rw[key,y0 (abY hi I)];show congrArg some ‹List.not_of_lt_findIdx hi›
  |false =>
   let I:mf ss=ss.9:=aaA.mpr λx hx=>by
    have:=abM.mp c x hx;cases x with
    |none=>show absurd rfl this
    |some p=>rfl
   show bA #[0,l,ws,rfl,73,jt _ _ #[55]];change[_,_,_,some (V.int (ws.9:Nat))]=_;rw[le,I]
 .rintro σ J ⟨rfl,rfl⟩;show#[0,0,(mf ss:Nat),rfl,l,ws,rfl,56,λq1 f1=>?_];rw[HH];let#[S1,_]:=SA.cut (mf ss);exists f1,(.lst (ws.take (mf ss))),s1,e1,J1;show#[0,0,100,λt f2=>#[93,λq2 f3=>?_]];let s2:=au (X:=.tup [V.str nm,V.int k]) f2;exists f3,(.lst [V.ref t]),Z,e3,J2;let e2:=Z _ _ (ag (H:=J1) (a:=t) (o:=.tup [V.str nm,V.int k]));let U:=s2.trans Z;let S3:=S1.same (s1.trans U);let S4:=S3.snoc (v:=.ref t) (s:=some (nm,k)) #[t,rfl,e2];show#[q1,q2,6,U _ _ e1,e3,by rw[IF];change _+1<=_;omega,λq3 f4=>?_];exists f4,(.lst (ws.take (mf ss)++[V.ref t])),s5,e4,J3;let S5:=S4.same s5;let s6:=s1.trans (U.trans s5);show#[0,0,6,((mf ss+1:Nat):Int),by rw[show((mf ss:Nat):Int)+1=((mf ss+1:Nat):Int)by omega],l,ws,rfl,a9.of (s6 _ _ G),λq4 f5=>?_];rw[tW];exists f5,(.lst (ws.drop (mf ss+1))),Y,e5,J4;let L:=s6.trans Y;let S6:=(S5.same Y).app ((SA.cut (mf ss+1)).2.same L);show#[q3,q4,6,Y _ _ e4,e5,by rw[ti,IF,WC];change _+1+_<=_;omega,λq5 f6=>?_];let s9:=au (X:=.lst (ws.take (mf ss)++[V.ref t]++ws.drop (mf ss+1))) f6;show q _ q5 _ (L.trans s9) (a8 L f6) ag (S6.same s9)
noncomputable def bC(N:NS)(n:Int):Bool:=match N n with
 |some nd=>nd.dir
 |none=>false
noncomputable def lk(N:NS)(n:Int):Int:=match N n with
 |some nd=>nd.ln
 |none=>0
noncomputable def qD(c:Int)(s:Slot):Bool:=match s with
 |some p=>decide (p.2=c)
 |none=>false
noncomputable def cn(ss:List Slot)(c:Int):Nat:=ss.countP (qD c)
abbrev SS:=Int->List Slot
noncomputable def ja(S:SS)(n:Int)(ss:List Slot):SS:=λk=>if k=n then ss else S k
noncomputable def Ly(S:SS)(c:Int)(m:Nat):Nat:=((Wu m).map λn:Nat=>cn (S n) c).sum
noncomputable def refs(S:SS)(c:Int):Nat:=Ly S c 24
variable{S:SS}{n:Int}
def eU:ja S n ss n=ss:=acW rfl
variable{k:Int}
def c9(h:¬ k=n):ja S n ss k=S k:=acV h
def rm(S:SS)(c:Int)(m:Nat):Ly S c (m+1)=Ly S c m+cn (S m) c:=by
 unfold Ly;rw[Ys,yl,sum_append];change _+(_+0)=_;omega
theorem Ge(S:SS)(n:Int)(ss:List Slot)(c:Int)(G:0<=n):∀m:Nat,Ly (ja S n ss) c m+(if n<m then cn (S n) c else 0)=Ly S c m+(if n<m then cn ss c else 0)
 |0=>by rw[acV av,acV av];rfl
 |m+1=>by
  let F:=Ge S n ss c G m;rw[rm,rm];cases e:(m:Int)=n
  .rw[acV av,acV av]at F;rw[acW av,acW av,e,eU];omega
  .rw[c9 e];cases z:n<m
   .rw[acW z,acW z]at F;rw[acW av,acW av];omega
   .rw[acV z,acV z]at F;rw[acV av,acV av];omega
theorem gY(S:SS)(ss:List Slot)(c:Int)(F:0<=n)(G:n<24):refs (ja S n ss) c+cn (S n) c=refs S c+cn ss c:=by
 have:=Ge S n ss c F 24;rw[acW av,acW av]at this;show this
def nY(S:SS)(c:Int)(G:0<=n)(F:n<24):cn (S n) c<=refs S c:=by
 have:=gY S [] c G F;let e:cn [] c=0:=rfl;omega
theorem Gv(S:SS)(c:Int)(G:0<=n)(F:n<24)(k0:0<=k)(k1:k<24)(h:¬ n=k):cn (S n) c+cn (S k) c<=refs S c:=by
 let a:=gY S [] c G F;let b:=nY (ja S n []) c k0 k1;rw[c9 (zA3 h)]at b;let e:cn [] c=0:=rfl;omega
def hV(s:Slot)(ss:List Slot)(c:Int):cn (s::ss) c=cn ss c+(if qD c s=true then 1 else 0):=by unfold cn;rw[ach]
def ia(s:Slot)(ss:List Slot)(nm:Str):dH (s::ss) nm=(if pO nm s=true then none else s)::dH ss nm:=rfl
theorem jy(ss:List Slot)(nm:Str)(c:Int):cn (dH ss nm) c<=cn ss c:=by
 induction ss with
 |nil=>show G0 _
 |cons s ss F =>
  rw[ia,hV,hV];cases z:pO nm s=true
  .rw[acW z,acV (show ¬ qD c none=true by nofun)];omega
  .rw[acV z];omega
theorem eO(s:Slot)(ss:List Slot)(nm:Str):fG (s::ss) nm=if pO nm s=true then s.map (·.2)else fG ss nm:=by
 unfold fG;rw[Zu];cases s with
 |none=>rfl
 |some p =>
  rw[ZA];cases z:p.1=nm
  .rw[acW z,acW (show pO nm (some p)=true from zA1 z)];rfl
  .rw[acV z,acV (show ¬ pO nm (some p)=true from λe=>z (zA0 e))]
variable{nm:Str}
theorem vM(h:fG ss nm=some k):cn (dH ss nm) k+1<=cn ss k:=by
 induction ss with
 |nil=>cases h
 |cons s ss F =>
  rw[eO]at h;rw[ia,hV,hV];cases z:pO nm s=true
  .rw[acW z]at h;have:=jy ss nm k;rw[acW z,acV (show ¬ qD k none=true by nofun)];cases s with
   |none=>cases z
   |some p =>
    cases h;rw[acW (show qD p.2 (some p)=true from zA1 rfl)];omega
  .rw[acV z]at h;have:=F h;rw[acV z];omega
def cu(s:Slot)(ss:List Slot):dE (s::ss)=Va s++dE ss:=by
 unfold dE;rw[Yp];cases s<;>rfl
theorem g6(ss:List Slot)(nm:Str):fG ss nm=none↔nm∉dE ss:=by
 induction ss with
 |nil=>show#[λ_ h=>(by cases h),λ_=>rfl]
 |cons s ss F =>
  rw[eO,cu];cases s with
  |none=>show F
  |some p =>
   change(if decide (p.1=nm)=true then some p.2 else fG ss nm)=none↔nm∉p.1::dE ss;rw[We];cases z:p.1=nm
   .rw[acW (zA1 z)];show#[nofun,λh=>absurd (.inl z.6) h]
   .rw[acV (λe=>z (zA0 e)),F];show#[λh e=>e.elim (λe=>z e.6) h,λh e=>h (.inr e)]
theorem pV(ss:List Slot)(nm:Str):dE (dH ss nm)=(dE ss).filter λx => !decide (x=nm):=by
 induction ss with
 |nil=>rfl
 |cons s ss F =>
  rw[ia,cu,cu,Xk, <-F];cases s with
  |none=>rfl
  |some p =>
   cases z:p.1=nm
   .rw[acW (show pO nm (some p)=true from zA1 z)];change[]++_=[p.1].filter _++_;rw[WQ (by simp[z])];rfl
   .rw[acV (show ¬ pO nm (some p)=true from λe=>z (zA0 e))];change[p.1]++_=[p.1].filter _++_;rw[WO (by simp[z])];rfl
def zN(nm:Str)(k:Int):cG [] nm k=[some (nm,k)]:=rfl
def nO(ss:List Slot)(nm:Str)(k:Int):cG (none::ss) nm k=some (nm,k)::ss:=by
 unfold cG mf;rw[ab4];rfl
def iE(p:Str×Int)(ss:List Slot)(nm:Str)(k:Int):cG (some p::ss) nm k=some p::cG ss nm k:=by
 unfold cG mf;rw[ab4];rfl
theorem uP(ss:List Slot)(nm:Str)(k c:Int):cn (cG ss nm k) c=cn ss c+(if k=c then 1 else 0):=by
 let e:qD c (some (nm,k))=decide (k=c):=rfl
 induction ss with
 |nil =>
  rw[zN,hV,e];cases z:k=c
  .rw[acW (zA1 z),acW z]
  .rw[acV (λe=>z (zA0 e)),acV z]
 |cons s ss F =>
  cases s with
  |none =>
   rw[nO,hV,hV,e,acV (show ¬ qD c none=true by nofun)];cases z:k=c
   .rw[acW (zA1 z),acW z]
   .rw[acV (λe=>z (zA0 e)),acV z]
  |some p=>rw[iE,hV,hV,F];omega
theorem zZ(ss:List Slot)(nm:Str)(k:Int):(dE (cG ss nm k)).Perm (nm::dE ss):=by
 induction ss with
 |nil=>show aa5 _
 |cons s ss F =>
  cases s with
  |none=>rw[nO,cu,cu];show aa5 _
  |some p =>
   rw[iE,cu,cu];show(acI p.1 F).trans (acJ _ _ _)
theorem IK(h:s∈cG ss nm k):s=some (nm,k)\/s∈ss:=by
 unfold cG at h;rcases Wf.mp h with h|h
 .rcases Wf.mp h with h|h
  .show .inr (WY h)
  .show .inl (sx.mp h)
 .show .inr (XH h)
theorem kU(h:(dE ss).9<40)(l:ss.9<=40):(cG ss nm k).9<=40:=by
 unfold cG;rw[ti,ti,IF,WC,NC];cases c:mf ss<ss.9
 .omega
 .let e:mf ss=ss.9:=acr YV av;let al:∀x∈ss,x.isNone=false:=aaA.mp e;have:(dE ss).9=ss.9:=by
   clear h l c e
   induction ss with
   |nil=>rfl
   |cons s ss G =>
    rw[cu,ti,G λx F=>al x (Wm _ F)];cases s with
    |none=>show absurd (al none Wn) (by nofun)
    |some p=>change 1+_=_+1;omega
  omega
theorem J9{p:Str×Int}(h:some p∈dH ss nm):some p∈ss:=by
 let#[s,hs,e]:=z4.mp h;cases z:pO nm s=true
 .rw[acW z]at e;cases e
 .rw[acV z]at e;show e▸hs
def gm(ss:List Slot)(nm:Str):(dH ss nm).9=ss.9:=dM ..
def IC(h:fG ss nm=some k):1<=cn ss k:=by have:=vM h;omega
structure Fz(N:NS)(S:SS):Prop where
 root:bC N 0=true
 enc:∀n nd,N n=some nd->nd.dir=true->nd.cs=bq (S n)
 len:∀n,(S n).9<=40
 ok:∀n,∀s∈S n,∀p,s=some p->okN p.1
 nd:∀n,(dE (S n)).4
 bh:∀n,bC N n=false->S n=[]
 rf:∀n,(refs S n:Int)+(if n=0 then 1 else 0)<=lk N n
 dl:∀n nd,N n=some nd->nd.dir=true->nd.ln=1
 qk:∀n nd,N n=some nd->0<=n/\n<24
variable{N:NS}
theorem bz(h:bC N n=true):∃nd,N n=some nd/\nd.dir=true:=by
 unfold bC at h;cases e:N n with
 |none=>rwa[e]at h
 |some nd=>rw[e]at h;show#[60,h]
variable{nd:Node}
def cL(h:N n=some nd):bC N n=nd.dir:=by unfold bC;rw[h]
def fi(h:N n=some nd):lk N n=nd.ln:=by unfold lk;rw[h]
theorem DG(h:1<=lk N n):∃nd,N n=some nd:=by
 unfold lk at h;cases e:N n with
 |none=>rw[e]at h;show absurd h aE
 |some nd=>show#[60]
def Fz.oX(F:Fz N S)(h:bC N n=true):0<=n/\n<24:=by
 let#[nd,e,_]:=bz h;show F.qk n nd e
theorem Fz.use(F:Fz N S)(h:bC N n=true)(h2:fG (S n) nm=some k):∃nd,N k=some nd:=by
 let#[G,I]:=F.oX h;have:=nY S k G I;have:=IC h2;have:=F.rf k;show DG ?_;cases z:k=0
 .rw[acW z]at this;omega
 .rw[acV z]at this;omega
def lst(w:qAa):Int:=w.getLastD 0
noncomputable def i3(N:NS)(S:SS)(F:Except Er (List Int))(nm:Str):Except Er (List Int):=match F with
 |.error e=>.error e
 |.ok way=>if bC N (lst way)=true then(match fG (S (lst way)) nm with|none=>.error .noName|some k=>.ok (way++[k]))else .error .notDir
noncomputable def cI(N:NS)(S:SS)(ns:qAb):Except Er (List Int):=ns.foldl (i3 N S) (.ok [0])
theorem Au(e:Er):∀ns:List Str,ns.foldl (i3 N S) (.error e)=.error e
 | []=>rfl
 |_::ns=>Au e ns
def iP(ns:qAb)(nm:Str):cI N S (ns++[nm])=i3 N S (cI N S ns) nm:=by unfold cI;rw[Z2];rfl
variable{ns:qAb}
def p6{i:Nat}{e:Er}(h:cI N S (ns.take i)=.error e):cI N S ns=.error e:=by
 unfold cI at *;rw[<-Xf i ns,Z2,h,Au]
def lst_snoc(w:qAa)(k:Int):lst (w++[k])=k:=by unfold lst;rw[ZT,Zn];rfl
theorem gj{w:qAa}(h:w≠[]):mv (w.map V.int) (-1)=some (.int (lst w)):=by
 obtain⟨a,k,rfl⟩:∃a k,w=a++[k]:=#[2,(Ww h).6];rw[lst_snoc,yl];show mr _ _
theorem JU(w:qAa)(a b:Int):mv ((w++[a]++[b]).map V.int) (-2)=some (.int a):=by
 rw[yl,yl];unfold mv yF;rw[acV aE,ti,ti,dM];change Option.bind (if -((w.9+1+1:Nat):Int) <= -2 then some (-2+((w.9+1+1:Nat):Int)).5 else none) _=_;rw[acW av,ZA,show(-2+((w.9+1+1:Nat):Int)).5=w.9 by omega,WI,Wb (by rw[dM];show G0 _),dM,X2];rfl
structure Way(N:NS)(S:SS)(ns:qAb)(w:qAa):Prop where
 ln:w.9=ns.9+1
 rg:∀x∈w,∃nd,N x=some nd
theorem kC{α:Type}{P:List α->Prop}(G:P [])(h1:∀l a,P l->P (l++[a]))(l:List α):P l:=by
 rw[<-Zo l]
 induction l.reverse with
 |nil=>show G
 |cons a r F=>rw[YW];show h1 _ _ F
theorem Fz.way(F:Fz N S):∀{w:qAa},cI N S ns=.ok w->Way N S ns w:=by
 show kC (P:=λns=>∀{w:qAa},cI N S ns=.ok w->Way N S ns w) ?_ (λns nm I=>?_) ns
 .intro w h;cases h;let#[nd,e,_]:=bz F.root;show#[rfl,λx G=>by rw[sx.mp G];show#[nd,e]]
 .intro w h;rw[iP]at h;cases e:cI N S ns with
  |error r=>rwa[e]at h
  |ok v =>
   rw[e]at h;let W:=I e;unfold i3 at h;dsimp only at h;cases d:bC N (lst v)=true
   .rw[acW d]at h;cases q:fG (S (lst v)) nm with
    |none=>rwa[q]at h
    |some k =>
     rwa[q]at h;show#[by rw[ti,ti,W.ln];rfl,λx G=>?_];rcases Wf.mp G with G|G
     .show W.rg x G
     .rw[sx.mp G];show F.use d q
   .rw[acV d]at h;cases h
end Fs
namespace L2
open PySem PySem.Spec PyProof.Rows
theorem MC{X:Cx}{v:Ws}{pos:XU}{te:TE}(U:PE X v te):PE X (.FormattedValue v (-1) none pos) (λσ H Q=>te σ H λx H1=>∃a:Str,x=.str a/\a.9<=sizeLine/\Q (.str a) H1):=by
 intros Q I h;show ZJ (cc (U pins s σ H _ I h) λu Y z=>?_);let#[x,H1,F,L,a,ex,G,q]:=z;subst ex;let#[tk,rfl]:=L;show aaH ?_ ?_ G
 .show#[.str a,H1,F,#[0],q]
 .show#[.str a,H1,F.tok _,#[0],q]
end L2
namespace Fs
open PySem L2 Dk Tb Srt
variable{n:Int}
theorem As(h:n.12<=1000000):n.natAbs.log2<1920:=by
 cases z:n.12=0
 .rw[z];decide
 .show abY ((Nat.log2_lt z).mpr (show n.12<2^20 by omega)) aE
def iL:(Str.empty:Str).9=0:=rfl
inductive EF(M:cU)(X:Er->zB0)(v:qAf)(H:Hp)(Q:VK)(e:XK):Prop
 |mk(a:zB0)(m:M.St)(aC d:Nat)(N:NS)(n:Int)(_:v=[.ref a,.int n])(_:M.At H a m aC N d)(_:n.12<=1000000)(_:bC N n=false->∀H',aO H H'->e (.ref (X .notDir)) none H')(_:bC N n=true->∀H',aO H H'->Q .bh H')
theorem nM(N:NS)(n:Int):decide (K0 (N n)=.str "dir")=bC N n:=by
 unfold bC;cases N n with
 |none=>rfl
 |some nd =>
  change decide (V.str (n6 nd.dir)=.str "dir")=nd.dir;cases nd.dir
  .show zA2 (λz=>absurd (V.str.inj z) aF)
  .show zA1 rfl
abbrev SM:Wo:=top 60
abbrev Ul:Wo:=top 61
def Us:aA ["nodes","n"] ["nodes","n"] (ax TR):=L2.bg
variable{X:Er->zB0}{M:cU}
theorem qz(F:b4 K "refuse_no_dir" "refuse_no_dir" TR f fd)(T:pP K mg X)(O:M.Ok P w K mg base):⇑aU 8 f fd ["nodes","n"] (EF M X):=by
 show F.gx Us ?_;intros;let#[a,m,aC,d,N,n,rfl,I,U,kE,Z]:=h;let hs:=DD;let#[dx,fs',ho,_,Y]:=O.ob I;let G:=As U;let li:=kG G;let f1:(Str.empty++toString n:Str).9<=sizeLine:=(by rw[len_app,iL];omega);let f2:(Str.empty++toString n++(" is no dir" : Str):Str).9<=sizeLine:=(by rw[len_app,len_app,iL,show(" is no dir" : Str).9=10 by decide +kernel];omega);show#[_,%[0,hr,W,bU,aF,ae,0,dj,e,E,aU,.notDir,aV,.notDir,a,cs,aA,cN,1,aA,cE|9],?_];show#[21,ho,Y _ aF,0,a,13,n,rfl,I,λH1 L=>#[by cases N n<;>rfl,0,?_]];rw[nM];cases c:bC N n with
 |false=>show bU #[0,n,rfl,G,0,f1,0,f2,f2,90,kE c H1 L]
 |true=>show bA (Z c H1 L)
inductive yN(M:cU)(X:Er->zB0)(v:qAf)(H:Hp)(Q:VK)(e3:XK):Prop
 |mk(a:zB0)(m:M.St)(aC d:Nat)(N:NS)(S:SS)(l:zB0)(ns:qAb)(_:v=[.ref a,.ref l])(_:M.At H a m aC N d)(_:Fz N S)(_:H l∣(ns.map V.str))(_:ns.9<=30000)(_:∀x∈ns,x.9<=20000)(_:∀e,cI N S ns=.error e->∀H',aO H H'->e3 (.ref (X e)) none H')(_:∀w,cI N S ns=.ok w->∀(H':Hp)(q:zB0),aO H H'->H q=none->H' q∣(w.map V.int)->Q (.ref q) H')
def Jo:aA ["nodes","names","way","name","node"] ["nodes","names"] (ax SM):=L2.bg
theorem xD(F:b4 K "way_along" "way_along" SM f fd)(T:pP K mg X)(O:M.Ok P w K mg base)(ad:⇑Df 8 "refuse_no_dir" (EF M X))(aj:↥Df 1 "node_named" Ol)(ac:↥Df 8 "slots_of" (sg M)):⇑aU 9 f fd ["nodes","names"] (yN M X):=by
 show F.gx Jo ?_;intros;let#[a,m,aC,d,N,S,l,ns,rfl,A1,Z,hl,l2,ln,kE,kQ]:=h;let hs:=DD;show#[_,%[Jo,hr,aE,2,C,a,cL,cT,d5,cU,aZ,1,av,3,z,F,ad,o,v,2,K,aE,4,c,aj,d,cv,o,v,2,K,Y,aS,b1,4,aq,aU,.noName,aV,.noName,a,cs,aA,bz,MC,3,aA,cE,au,j,be,cV,iz,2,ah,au,b,2|9],?_]
 show#[aE,λl1 U=>?_];exists U,(.lst [V.int 0]),s1,e1,H1;let nl:∀{x u},H x=some u->x≠l1:=λe z=>(by rwa[z,U]at e);show#[69,#[_,a9.of (s1 _ _ hl)],?_];show tF (K:=K) (a:=l) (xs:=ns.map V.str) (λi σ J=>OF λ(w:qAa)(v3 v4:Option V)=>Hj (σ=#v[.ref a,.ref l,.ref l1,v3,v4]) (cI N S (ns.take i)=.ok w) (J l1∣(w.map V.int)) (Off (· = l1) H1 J)) #[[0],6,e1,96] (λi σ J _ z=>by let#[_,_,_,_,_,_,o]:=z;show a9.of (o _ _ (s1 _ _ hl) (nl hl))) ?_ ?_
 .rintro i x σ J hx ⟨v,v3,v4,rfl,L,G,Y⟩;rw[LW]at hx;let#[nm,hn,rfl]:=HC.mp hx;let sJ:aO H J:=λy u e=>Y _ _ (s1 _ _ e) (nl e);let AJ:=O.same A1 sJ;let W:=Z.way L;let vn:v≠[]:=λz=>(by have:=W.ln;rw[z]at this;simp at this);let lm:lst v∈v:=by
   obtain⟨b,k,rfl⟩:∃b k,v=b++[k]:=#[2,(Ww vn).6];rw[lst_snoc];show By _ (sx.mpr rfl)
  let#[am,ab]:=W.rg _ lm;let rg:=Z.qk _ _ ab;let et:cI N S (ns.take (i+1))=i3 N S (.ok v) nm:=(by rw[WE,hn, <-L];show iP _ _);let lv:v.9<=30001:=(by rw[W.ln,IF];omega);let ak:=ln nm (L1 hn);show#[0,22,l1,88,56,gj vn,a,13,78,AJ,av,λc J2 I=>?_,λc J2 I=>?_]
  .show kE _ (p6 (i:=i+1) (by rw[et];unfold i3;dsimp only;rw[acV (by rw[c];nofun)])) J2 (sJ.trans I)
  let#[nd,aa,hd]:=bz c;let A2:=O.same AJ I;show#[0,22,l1,88,a9.of (I _ _ G),gj vn,a,13,lst v,nd,52,A2,aa,Z.enc _ _ aa hd,27,λJ3 q3 ws s3 _ e3 S3=>?_];show#[0,q3,ws,S (lst v),nm,rfl,e3,S3,?_];let s4:=I.trans s3;show#[0,9];cases c2:fG (S (lst v)) nm with
  |none =>
   let U:(Str.empty++nm:Str).9<=sizeLine:=(by rw[len_app,iL];omega);let f2:(Str.empty++nm++(" is not there" : Str):Str).9<=sizeLine:=(by rw[len_app,len_app,iL,show(" is not there" : Str).9=13 by decide +kernel];omega);show bU #[0,nm,rfl,av,0,U,0,f2,f2,90,kE _ (p6 (i:=i+1) (by rw[et];unfold i3;dsimp only;rw[acW c,c2])) J3 (sJ.trans s4)]
  |some k =>
   show bA #[0,.inl #[4,a9.of (s4 _ _ G)],0,l1,6,s4 _ _ G,87,#[v++[k],_,0,by rw[et];unfold i3;dsimp only;rw[acW c,c2],?_,λy u e z=>by rw[ay z];show s4 _ _ (Y _ _ e z)]];rw[ag,yl];rfl
 .rintro σ J ⟨v,v3,v4,rfl,L,G,Y⟩;rw[dM,WV]at L;show#[0,kQ v L J l1 (λy u e=>Y _ _ (s1 _ _ e) (nl e)) U G]
theorem x8{xs:qAf}{v:V}:d8 (xs++[v]) none (some (-1))=xs:=by
 unfold d8 HT.qN;dsimp only;rw[acW aE,Ym,ti,NC,show((-1:Int)+((xs.9+1:Nat):Int)).5-0=xs.9 by omega,XA,X2,XX,Wt,WV]
theorem AQ(x:Str):∀l:List Str,rJ (.str x) (l.map V.str)=decide (x∈l)
 | []=>rfl
 |y::l=>by
  change(jx (.str y) (.str x)||rJ (.str x) (l.map V.str))=_;rw[AQ x l];cases c:y=x
  .rw[show jx (.str y) (.str x)=true from zA1 c];rw[zA1 (We.mpr (.inl c.6))];rfl
  .rw[show jx (.str y) (.str x)=false from zA2 c];cases d:x∈l
   .rw[zA1 d,zA1 (Wm _ d)];rfl
   .rw[zA2 d,zA2 (λz=>(We.mp z).elim (λz=>c z.6) d)];rfl
theorem mC:∀l:List Str,(l.map V.str).all d9=true
 | []=>rfl
 |_::l=>mC l
noncomputable def b3(ns:qAb):Str:=ns.getLastD #[([].8)]
def fw(ns:qAb)(nm:Str):b3 (ns++[nm])=nm:=by unfold b3;rw[ZT,Zn];rfl
noncomputable def jI(N:NS)(S:SS)(ns:qAb):Except Er (List Int):=if ns=[]then .error .taken else match cI N S ns.dropLast with
 |.error e=>.error e
 |.ok w=>if bC N (lst w)=true then(if b3 ns∈dE (S (lst w))then .error .taken else .ok w)else .error .notDir
inductive Fi(M:cU)(X:Er->zB0)(v:qAf)(H:Hp)(Q:VK)(e3:XK):Prop
 |mk(a:zB0)(m:M.St)(aC d:Nat)(N:NS)(S:SS)(l:zB0)(ns:qAb)(_:v=[.ref a,.ref l])(_:M.At H a m aC N d)(_:Fz N S)(_:H l∣(ns.map V.str))(_:ns.9<=30000)(_:∀x∈ns,x.9<=20000)(_:∀e,jI N S ns=.error e->∀H',aO H H'->e3 (.ref (X e)) none H')(_:∀w,jI N S ns=.ok w->∀(H':Hp)(q:zB0),aO H H'->H q=none->H' q∣(w.map V.int)->Q (.ref q) H')
def Qn:aA ["nodes","names","way"] ["nodes","names"] (ax Ul):=L2.bg
theorem xK(F:b4 K "way_to_new" "way_to_new" Ul f fd)(T:pP K mg X)(O:M.Ok P w K mg base)(ad:⇑Df 9 "way_along" (yN M X))(ak:⇑Df 8 "refuse_no_dir" (EF M X))(ab:↥Df 1 "names_in" FT)(aj:↥Df 8 "slots_of" (sg M)):⇑aU 10 f fd ["nodes","names"] (Fi M X):=by
 show F.gx Qn ?_;intros;let#[a,m,aC,d,N,S,l,ns,rfl,A1,Z,Y,l2,ln,G,I]:=h;show#[_,%[Qn,hr,aS,g,l,e,r,aU,dx,aV,dx,y,aW,2,F,ad,o,w,1,aQ,K,z,F,ak,o,v,2,K,aS,H,kH,v,1,K,b3,a,c,aj,o,v,2,K,cq,aU,dx,aV,dx,y,au,b,2|9],?_]
 show#[0,l,0,.inl (a9.of Y),9];rw[dM];show cQ (λc=>?_) (λc=>?_)
 .let e:ns=[]:=WN.mp (by have:=V.int.inj (zA0 c);omega);show#[aE,G _ (by unfold jI;rw[acW e]) H (aO.refl H)]
 let ne:ns≠[]:=λz=>c (by rw[z];show zA1 rfl);obtain⟨b,nm,U⟩:∃b k,ns=b++[k]:=#[2,(Ww ne).6];let ed:ns.dropLast=b:=(by rw[U,XI]);let el:b3 ns=nm:=(by rw[U,fw]);let en:jI N S ns=match cI N S b with
  |.error e=>.error e
  |.ok w=>if bC N (lst w)=true then(if nm∈dE (S (lst w))then .error .taken else .ok w)else .error .notDir:=by
  unfold jI;rw[acV ne,ed,el]
 rw[en]at G I;rw[U,yl]at Y;show#[0,22, -1,rfl,l,0,a9.of Y,λq1 f1=>?_];rw[show d8 (b.map V.str++[nm].map V.str) none (some (-1))=b.map V.str from x8];exists f1,(.lst (b.map V.str)),s1,e1,H1;let lb:b.9<=30000:=(by have:=congrArg Zg U;rw[ti]at this;omega);show#[a,13,S,q1,b,rfl,O.same A1 s1,Z,e1,lb,λx hx=>ln x (by rw[U];show Wg _ hx),λe he H2 s2=>?_,λv hv H2 q2 s2 f2 e2=>?_]
 .rw[he]at G;show G e rfl H2 (s1.trans s2)
 rw[hv]at G I;dsimp only at G I;let W:=Z.way hv;let vn:v≠[]:=λz=>(by have:=W.ln;rw[z]at this;simp at this);let lm:lst v∈v:=by
  obtain⟨b,k,rfl⟩:∃b k,v=b++[k]:=#[2,(Ww vn).6];rw[lst_snoc];show By _ (sx.mpr rfl)
 let#[am,ac]:=W.rg _ lm;let rg:=Z.qk _ _ ac;let s3:=s1.trans s2;show#[0,22,q2,88,a9.of e2,gj vn,a,13,78,O.same A1 s3,av,λc J2 L=>?_,λc J2 L=>?_]
 .rw[acV (by rw[c];nofun)]at G;show G _ rfl J2 (s3.trans L)
 rw[acW c]at G I;let#[nd,aa,hd]:=bz c;let s5:=s3.trans L;show#[22,l,_, -1,.str nm,1,a9.of (s5 _ _ Y),mr _ _,0,22,q2,88,a9.of (L _ _ e2),gj vn,a,13,lst v,nd,52,O.same A1 s5,aa,Z.enc _ _ aa hd,27,λJ3 q3 ws s6 f3 e3 S3=>?_];show#[q3,ws,52,e3,S3,Z.len _,Z.nd _,λJ4 q4 s7 f4 e4=>?_];let s8:=s5.trans (s6.trans s7);show#[q4,0,.inl (a9.of e4),rfl,mC _,0,?_];change if rJ (.str nm) ((xX (dE (S (lst v)))).map V.str)=true then _ else _
 rw[AQ];let em:nm∈xX (dE (S (lst v)))↔nm∈dE (S (lst v)):=(W7 _ sle).mem_iff;show cQ (λc2=>?_) (λc2=>?_)
 .rw[acW (em.mp (zA0 c2))]at G;show#[aE,G _ rfl J4 s8]
 .rw[acV (λz=>c2 (zA1 (em.mpr z)))]at I;show#[0,I v rfl J4 q2 s8 (a8 s1 f2) ((L.trans (s6.trans s7)) _ _ e2)]
structure FA where
 a:zB0
 na:zB0
 hd:zB0
abbrev HT:=List (Int×Int)
def kf:¬ (("nodes" : Str) = "holds"):=aF
structure gw(M:cU)(CF:zB0)(H:Hp)(z:FA)(m:M.St)(aC:Nat)(N:NS)(h:HT)(d:Nat):Prop where
 ob:∃dx,H z.a=some (.ins CF dx (f2 "nodes" "holds" (.ref z.na) (.ref z.hd)))
 hh:H z.hd^^^(dk V.int h)
 nd:(h.map (·.1)).4
 A:M.At H z.na m aC N d
 s1:¬ M.own m z.a
 s2:¬ M.own m z.hd
 hk:∀x∈h,0<=x.1/\x.1<24
structure ik(M:cU)(z:FA)(m:M.St)(H:Hp)(m':M.St)(H':Hp):Prop where
 off:Off (λx=>M.own m x\/x=z.hd) H H'
 own:∀a,M.own m' a->M.own m a\/H a=none
structure ie(K:Wa)(CF:zB0):Prop where
 cl:qa K CF
 nN:dj K CF "nodes"
 nH:dj K CF "holds"
variable{H H':Hp}{m m':M.St}
theorem cU.tr{H'':Hp}{m'':M.St}(s:M.Step m H m' H')(t:M.Step m' H' m'' H''):M.Step m H m'' H'':=by
 show#[λb o e nb=>t.1 b o (s.1 b o e nb) λw=>?_,λa w=>?_]
 .rcases s.2 b w with w|w
  .show nb w
  .rw[w]at e;cases e
 .rcases t.2 a w with w|w
  .show s.2 a w
  .cases c:M.own m a
   .show .inl c
   .cases e:H a with
    |none=>show .inr rfl
    |some o=>rwa[s.1 a o e c]at w
def cU.sm(s:aO H H'):M.Step m H m H':=#[λb o e _=>s b o e,λa w=>.inl w]
def ik.of{z:FA}(s:M.Step m H m' H'):ik M z m H m' H':=#[s.1.mono λ_ w=>.inl w,s.2]
section
variable{P:BY}{w:Oi}{K:Wa}{mg:qa3}{base:Heap}(O:M.Ok P w K mg base)
include O
variable{CF:zB0}{z:FA}{aC d:Nat}{N:NS}{h:HT}
theorem gw.off{B:qa0}(F:gw M CF H z m aC N h d)(o:Off B H H')(h1:∀x,M.own m x->¬ B x)(h2:¬ B z.a)(G:¬ B z.na)(I:¬ B z.hd):gw M CF H' z m aC N h d:=by
 let#[dx,e]:=F.ob;show#[#[dx,o _ _ e h2],o _ _ F.hh I,F.nd,O.off F.A o h1 G,F.s1,F.s2,F.hk]
theorem gw.same(F:gw M CF H z m aC N h d)(s:aO H H'):gw M CF H' z m aC N h d:=F.off O (B:=λ_=>False) (Off.of s) (λ_ _=>id) id id id
theorem gw.step{M:cU}{CF:zB0}{H H':Hp}{z:FA}{m m':M.St}{aC d d':Nat}{N N':NS}{h:HT}(F:gw M CF H z m aC N h d)(I:M.At H' z.na m' aC N' d')(s:M.Step m H m' H'):gw M CF H' z m' aC N' h d':=by
 let#[dx,e]:=F.ob;show#[#[dx,s.1 _ _ e F.s1],s.1 _ _ F.hh F.s2,F.nd,I,λw=>?_,λw=>?_,F.hk]
 .rcases s.2 _ w with w|w
  .show F.s1 w
  .rw[w]at e;cases e
 .let G:=F.hh;rcases s.2 _ w with w|w
  .show F.s2 w
  .rw[w]at G;cases G
end
inductive HQ(M:cU)(CF:zB0)(X:Er->zB0)(v:qAf)(H:Hp)(Q:VK)(e:XK):Prop
 |mk(z:FA)(m:M.St)(aC d:Nat)(N:NS)(h:HT)(n:Int)(_:v=[.ref z.a,.int n])(_:gw M CF H z m aC N h d)(_:n.12<=1000000)(_:N n=none->∀H',aO H H'->e (.ref (X .noNode)) none H')(_:∀nd,N n=some nd->∀H',aO H H'->Q .bh H')
inductive xW(M:cU)(CF:zB0)(X:Er->zB0)(v:qAf)(H:Hp)(Q:VK)(e:XK):Prop
 |mk(z:FA)(m:M.St)(aC d:Nat)(N:NS)(h:HT)(n:Int)(_:v=[.ref z.a,.int n])(_:gw M CF H z m aC N h d)(_:n.12<=1000000)(_:bC N n=true->∀H',aO H H'->e (.ref (X .isDir)) none H')(_:bC N n=false->∀H',aO H H'->Q .bh H')
noncomputable def ze(N:NS)(n:Int):Option Er:=match N n with
 |none=>some .noNode
 |some nd=>if nd.dir=true then some .isDir else none
inductive Bm(M:cU)(CF:zB0)(X:Er->zB0)(v:qAf)(H:Hp)(Q:VK)(e3:XK):Prop
 |mk(z:FA)(m:M.St)(aC d:Nat)(N:NS)(h:HT)(n:Int)(_:v=[.ref z.a,.int n])(_:gw M CF H z m aC N h d)(_:n.12<=1000000)(_:∀e,ze N n=some e->∀H',aO H H'->e3 (.ref (X e)) none H')(_:ze N n=none->∀H',aO H H'->Q .bh H')
inductive HR(X:Er->zB0)(v:qAf)(H:Hp)(Q:VK)(e:XK):Prop
 |mk(n:Int)(_:v=[.int n])(_:n.12<=1000000)(_:¬ (0<=n/\n<=320)->e (.ref (X .tooBig)) none H)(_:0<=n/\n<=320->Q .bh H)
noncomputable def c8(aC:Nat)(N:NS)(old size:Nat):Bool:=decide ((aC:Int)-(us N 24:Nat)<(bf size:Int)-(bf old:Int))
inductive HY(M:cU)(CF:zB0)(X:Er->zB0)(v:qAf)(H:Hp)(Q:VK)(e:XK):Prop
 |mk(z:FA)(m:M.St)(aC d:Nat)(N:NS)(h:HT)(n:Int)(nd:Node)(k:Nat)(_:v=[.ref z.a,.int n,.int k])(_:gw M CF H z m aC N h d)(_:N n=some nd)(_:c8 aC N nd.cs.9 k=true->∀H',aO H H'->e (.ref (X .noSpace)) none H')(_:c8 aC N nd.cs.9 k=false->∀H',aO H H'->Q .bh H')
abbrev UA:Wo:=inClass (top 71) 21
abbrev Oa:Wo:=inClass (top 71) 22
abbrev US:Wo:=inClass (top 71) 23
abbrev SK:Wo:=inClass (top 71) 24
abbrev Vd:Wo:=top 69
def Vp:aA ["self","node"] ["self","node"] (ax UA):=L2.bg
variable{CF:zB0}
theorem pK(F:b4 K "refuse_no_node" "Files.refuse_no_node" UA f fd)(T:pP K mg X)(Y:ie K CF)(O:M.Ok P w K mg base):⇑aU 8 f fd ["self","node"] (HQ M CF X):=by
 show F.gx Vp ?_;intros;let#[z,m,aC,d,N,h,n,rfl,G,hn,kE,kQ]:=h;let hs:=DD;let U:=G.A;let#[dy,hy]:=G.ob;let#[dx,fs',ho,_,hm]:=O.ob U;let I:=As hn;let li:=kG I;let f1:(Str.empty++toString n:Str).9<=sizeLine:=(by rw[len_app,iL];omega);let L:(Str.empty++toString n++(" is no node in use" : Str):Str).9<=sizeLine:=(by rw[len_app,len_app,iL,show(" is no node in use" : Str).9=18 by decide +kernel];omega);show#[_,%[0,hr,W,bU,b1,bf,du,e,aq,aU,dy,aV,dy,a,cs,aA,cN,1,aA,cE|9],?_];show#[7,hy,Y.cl,Y.nN,8,35,rfl,U,λH1 Z=>#[9]];rw[vE];cases c:N n with
 |none=>show bU #[82,f1,0,L,L,90,kE c H1 Z]
 |some nd=>show bA (kQ nd c H1 Z)
def Pt:aA ["self","node"] ["self","node"] (ax Oa):=L2.bg
theorem uQ(F:b4 K "refuse_dir" "Files.refuse_dir" Oa f fd)(T:pP K mg X)(Y:ie K CF)(O:M.Ok P w K mg base):⇑aU 8 f fd ["self","node"] (xW M CF X):=by
 show F.gx Pt ?_;intros;let#[z,m,aC,d,N,h,n,rfl,G,hn,kE,kQ]:=h;let hs:=DD;let U:=G.A;let#[dy,hy]:=G.ob;let#[dx,fs',ho,_,hm]:=O.ob U;let I:=As hn;let li:=kG I;let f1:(Str.empty++toString n:Str).9<=sizeLine:=(by rw[len_app,iL];omega);let L:(Str.empty++toString n++(" is a dir" : Str):Str).9<=sizeLine:=(by rw[len_app,len_app,iL,show(" is a dir" : Str).9=9 by decide +kernel];omega);show#[_,%[0,hr,W,bU,g,bf,du,e,E,aU,.isDir,aV,.isDir,a,cs,aA,cN,1,aA,cE|9],?_];show#[7,hy,Y.cl,Y.nN,8,35,rfl,U,λH1 Z=>#[by cases N n<;>rfl,0,?_]];rw[nM];cases c:bC N n with
 |true=>show bU #[82,f1,0,L,L,90,kE c H1 Z]
 |false=>show bA (kQ c H1 Z)
def Um:aA ["self","node"] ["self","node"] (ax US):=L2.bg
theorem pI(F:b4 K "refuse_no_file" "Files.refuse_no_file" US f fd)(T:pP K mg X)(Z:ie K CF)(O:M.Ok P w K mg base)(ab:⇑Md 8 CF "refuse_no_node" (HQ M CF X))(aa:⇑Md 8 CF "refuse_dir" (xW M CF X)):⇑aU 9 f fd ["self","node"] (Bm M CF X):=by
 show F.gx Um ?_;intros;let#[z,m,aC,d,N,h,n,rfl,I,U,kE,kQ]:=h;let#[Y,hy]:=I.ob;show#[_,%[0,0,z,d6,0,c4,ab,hr,e,W,c9,d6,0,c4,aa,hr,e|9],?_]
 show#[0,z.a,Y,0,hy,11,z,13,h,n,rfl,I,U,λc H1 G=>kE _ (by unfold ze;rw[c]) H1 G,λnd c H1 G=>?_];show#[0,z.a,Y,0,G _ _ hy,11,z,13,h,n,rfl,I.same O G,U,λc2 H2 L=>kE _ (by unfold ze;rw[c];show acW (by rw[<-cL c];show c2)) H2 (G.trans L),λc2 H2 L=>kQ (by unfold ze;rw[c];show acV (by rw[<-cL c,c2];nofun)) H2 (G.trans L)]
def RI:aA ["at"] ["at"] (ax Vd):=L2.bg
theorem ot(F:b4 K "refuse_no_place" "refuse_no_place" Vd f fd)(T:pP K mg X):⇑aU 1 f fd ["at"] (HR X):=by
 show F.gx RI ?_;intros;let#[n,rfl,Z,Y,kQ]:=h;let hs:=DD;let I:=As Z;let li:=kG I;let l3:=kG (i:=320) aE;let g1:(" is not from 0 to " : Str).9=18:=aF;let U:(Str.empty++toString n:Str).9<=sizeLine:=(by rw[len_app,iL];omega);let L:(Str.empty++toString n++(" is not from 0 to " : Str):Str).9<=sizeLine:=(by rw[len_app,len_app,iL,g1];omega);let G:(Str.empty++toString n++(" is not from 0 to " : Str)++toString (320:Int):Str).9<=sizeLine:=(by rw[len_app,len_app,len_app,iL,g1];omega);show#[_,%[0,0,W,bU,bZ,bw,H,sR,0,r,bK,bB,0,B,T.qy,s,aU,.tooBig,aV,.tooBig,a,cs,aA,cN,0,aA,az,aA,cN,B,T.qy,j9|9],?_];show#[0,19];show cQ (λc=>?_) (λc=>?_)
 .show#[82,U,0,L,(320),rfl,aE,0,G,G,90,Y (by have:=zA0 c;omega)]
 .let c':¬ n<0:=λq=>c (zA1 q);show#[0,19];show cQ (λc2=>?_) (λc2=>?_)
  .show#[82,U,0,L,(320),rfl,aE,0,G,G,90,Y (by have:=zA0 c2;omega)]
  .show kQ #[av,by have:¬ (320:Int)<n:=λq=>c2 (zA1 q);omega]
def PX:aA ["self","node","size","lacking"] ["self","node","size"] (ax SK):=L2.bg
theorem ox(F:b4 K "refuse_no_space" "Files.refuse_no_space" SK f fd)(T:pP K mg X)(G:ie K CF)(O:M.Ok P w K mg base)(aa:↥Df 1 "blocks_for" sv)(ab:↥Df 8 "free_blocks" (NK M)):⇑aU 9 f fd ["self","node","size"] (HY M CF X):=by
 show F.gx PX ?_;intros;let#[z,m,aC,d,N,h,n,nd,k,rfl,U,hn,kE,kQ]:=h;let I:=U.A;let#[Z,hy]:=U.ob;let#[dx,fs',ho,_,hm]:=O.ob I;show#[_,%[PX,hr,aE,3,aO,bP,h,bP,a,bf,O.3,e,W,bU,bB,3,b3,a,u,s,aU,.noSpace,aV,.noSpace,y|9],?_]
 show#[0,k,rfl,48,hy,61,8,35,60,I,hn,λH1 L=>#[nd.cs.9,4,0,3]];show#[0,48,L _ _ hy,61,79,13,rfl,O.same I L,λH2 s2=>#[19]];let Y:=L.trans s2;show cQ (λc=>?_) (λc=>?_)
 .show#[aE,kE (by unfold c8;show c) H2 Y]
 .show kQ (by unfold c8;show W0.mpr c) H2 Y
def oP(old cs:qAa)(m:Nat):r9 old cs m<=m:=by
 unfold r9;show WK (WL _ _) (by rw[YT];show G0 _)
def tf{k:Nat}(h:k<=320):nb k<=20:=by unfold nb;omega
variable{ss:List Slot}{nm:Str}{k:Int}
theorem dg(h:∀s∈ss,∀p,s=some p->okN p.1)(F:okN nm):∀s∈cG ss nm k,∀p,s=some p->okN p.1:=λs hs p e=>by
 rcases IK hs with rfl|hs
 .cases e;show F
 .show h s hs p e
def LM(h:∀s∈ss,∀p,s=some p->okN p.1):∀s∈dH ss nm,∀p,s=some p->okN p.1:=λs hs p e=>by
 subst e;show h _ (J9 hs) p rfl
variable{N:NS}
theorem fits{aC:Nat}{old size:Nat}(h:c8 aC N old size=false):us N 24+bf size<=aC+bf old:=by
 have:=of_decide_eq_false h;omega
inductive El(M:cU)(CF:zB0)(X:Er->zB0)(v:qAf)(H:Hp)(Q:VK)(e:XK):Prop
 |mk(z:FA)(m:M.St)(aC d:Nat)(N:NS)(h:HT)(n:Int)(nd:Node)(l:zB0)(ws:qAf)(ss:List Slot)(nm:Str)(k:Int)(_:v=[.ref z.a,.int n,.ref l,.str nm,.int k])(_:gw M CF H z m aC N h d)(_:N n=some nd)(_:H l∣ws)(_:lN H ws ss)(_:ss.9<=40)(_:(dE ss).9<40)(_:∀s∈ss,∀p,s=some p->okN p.1)(_:okN nm)
  (_:c8 aC N nd.cs.9 (8*(cG ss nm k).9)=true->∀H',aO H H'->e (.ref (X .noSpace)) none H')
  (_:c8 aC N nd.cs.9 (8*(cG ss nm k).9)=false->∀(H':Hp)(m':M.St),gw M CF H' z m' aC (cy N n (some { nd with cs:=bq (cG ss nm k) })) h (d+r9 nd.cs (bq (cG ss nm k)) (nb (bq (cG ss nm k)).9)+2)->M.Step m H m' H'->Q .bh H'):El M CF X v H Q e
inductive Ib(M:cU)(CF:zB0)(v:qAf)(H:Hp)(Q:VK)(e:XK):Prop
 |mk(z:FA)(m:M.St)(aC d:Nat)(N:NS)(h:HT)(n:Int)(nd:Node)(ss:List Slot)(nm:Str)(_:v=[.ref z.a,.int n,.str nm])(_:gw M CF H z m aC N h d)(_:N n=some nd)(_:nd.cs=bq ss)(_:ss.9<=40)(_:∀s∈ss,∀p,s=some p->okN p.1)
  (_:∀(H':Hp)(m':M.St),gw M CF H' z m' aC (cy N n (some { nd with cs:=bq (dH ss nm) })) h (d+r9 nd.cs (bq (dH ss nm)) (nb (bq (dH ss nm)).9)+2)->M.Step m H m' H'->Q .bh H'):Ib M CF v H Q e
inductive Nm(M:cU)(CF:zB0)(X:Er->zB0)(v:qAf)(H:Hp)(Q:VK)(e:XK):Prop
 |mk(z:FA)(m:M.St)(aC:Nat)(N:NS)(h:HT)(n:Int)(nd:Node)(l:zB0)(cs:qAa)(_:v=[.ref z.a,.int n,.ref l])(_:gw M CF H z m aC N h 0)(_:N n=some nd)(_:H l∣(cs.map V.int))(_:¬ M.own m l)(_:cs.9<=320)
  (_:c8 aC N nd.cs.9 cs.9=true->∀H',aO H H'->e (.ref (X .noSpace)) none H')
  (_:c8 aC N nd.cs.9 cs.9=false->∀(H':Hp)(m':M.St),gw M CF H' z m' aC (cy N n (some { nd with cs:=cs })) h 0->M.Step m H m' H'->Q .bh H'):Nm M CF X v H Q e
inductive Lv(M:cU)(CF:zB0)(v:qAf)(H:Hp)(Q:VK)(e:XK):Prop
 |mk(z:FA)(m:M.St)(aC d:Nat)(N:NS)(h:HT)(n:Int)(nd:Node)(_:v=[.ref z.a,.int n])(_:gw M CF H z m aC N h d)(_:N n=some nd)
  (_:∀(H':Hp)(m':M.St),gw M CF H' z m' aC (if nd.ln=0/\look h n=none then cy N n none else N) h (d+1)->M.Step m H m' H'->Q .bh H'):Lv M CF v H Q e
abbrev Tv:Wo:=inClass (top 71) 17
abbrev RK:Wo:=inClass (top 71) 18
abbrev Sf:Wo:=inClass (top 71) 19
abbrev SY:Wo:=inClass (top 71) 20
def O4:aA ["self","parent","slots","name","node","grown"] ["self","parent","slots","name","node"] (ax Tv):=L2.bg
theorem zh(F:b4 K "put_name" "Files.put_name" Tv f fd)(T:pP K mg X)(Y:ie K CF)(O:M.Ok P w K mg base)(ac:↥Df 1 "slots_with" Fv)(ak:⇑Md 9 CF "refuse_no_space" (HY M CF X))(am:↥Df 8 "put_slots" (xw M)):⇑aU 10 f fd ["self","parent","slots","name","node"] (El M CF X):=by
 show F.gx O4 ?_;intros;let#[z,m,aC,d,N,h,n,nd,l,ws,ss,nm,k,rfl,L,Z,hl,SA,aa,ad,bL,ab,kE,kQ]:=h;let#[dy,hy]:=L.ob;let aj:=kU (nm:=nm) (k:=k) ad aa;show#[_,%[O4,hr,aE,5,cv,ba,d,3,ah,z,bQ,0,Y.cl,ak,J,a,a9,B,T.rT,l,a,5,au,j,c,am,ay,J,a,5|9],?_]
 show#[0,0,0,l,ws,ss,nm,k,rfl,hl,SA,aa,λH1 q1 AR I _ e1 S1=>?_];show#[15,I _ _ hy,11,0,q1,0,.inl (a9.of e1),92,z,13,h,n,nd,8*(cG ss nm k).9,?_,L.same O I,Z,λc H2 G=>kE c H2 (I.trans G),λc H2 G=>?_]
 .rw[S1.ln];change[_,_,V.int (8*((cG ss nm k).9:Nat))]=[_,_,V.int ((8*(cG ss nm k).9:Nat):Int)];rw[show(8*(((cG ss nm k).9:Nat):Int))=((8*(cG ss nm k).9:Nat):Int)by omega]
 let U:=L.same O (I.trans G);let#[dz,hz]:=U.ob;show#[0,10,Y.cl,Y.nN,cF kf,0,35,nd,q1,AR,cG ss nm k,rfl,U.A,Z,G _ _ e1,S1.same G,aj,dg bL ab,fits c,λH3 m3 A3 st=>kQ c H3 m3 (U.step O A3 st) (cU.pre (I.trans G) st)]
def Uy:aA ["self","parent","name"] ["self","parent","name"] (ax RK):=L2.bg
theorem xk(F:b4 K "drop_name" "Files.drop_name" RK f fd)(I:ie K CF)(O:M.Ok P w K mg base)(ac:↥Df 1 "slots_without" Jh)(ab:↥Df 8 "slots_of" (sg M))(ad:↥Df 8 "put_slots" (xw M)):↥aU 9 f fd ["self","parent","name"] (Ib M CF):=by
 show F.dg Uy ?_;intros;let#[z,m,aC,d,N,h,n,nd,ss,nm,rfl,G,Y,ec,aa,L,kQ]:=h;let#[Z,hy]:=G.ob;show#[_,%[0,hr,j,c,ad,ay,J,a,cv,d,b3,ay,e,h|9],?_];show#[48,hy,43,cF kf,0,48,hy,43,cF kf,35,nd,ss,rfl,G.A,Y,ec,aa,L,λH1 q1 AR s1 _ e1 S1=>?_];show#[0,q1,AR,ss,nm,rfl,e1,S1,av,λH2 q2 lZ U _ e2 S2=>?_];let A2:=G.same O (s1.trans U);show#[z.na,13,n,nd,q2,lZ,dH ss nm,rfl,A2.A,Y,e2,S2,by rw[gm];show aa,LM L,?_,λH3 m3 A3 st=>kQ H3 m3 (A2.step O A3 st) (cU.pre (s1.trans U) st)];have:=(O.ok G.A).fit;rw[gm,ec,cS L];omega
def RO:aA ["self","node","cells"] ["self","node","cells"] (ax Sf):=L2.bg
theorem wX(F:b4 K "put_whole" "Files.put_whole" Sf f fd)(T:pP K mg X)(G:ie K CF)(O:M.Ok P w K mg base)(ab:⇑Md 9 CF "refuse_no_space" (HY M CF X)):⇑aU 10 f fd ["self","node","cells"] (Nm M CF X):=by
 show F.gx RO ?_;intros;let#[z,m,aC,N,h,n,nd,l,cs,rfl,L,hn,hl,no,l3,kE,kQ]:=h;let#[dy,hy]:=L.ob;show#[_,%[0,hr,z,bQ,0,dz,ab,J,a,l,h,au,t,bf,O.yI,J,h,j,cW,u|9],?_]
 show#[15,hy,11,0,65,34,n,nd,cs.9,118,L,hn,kE,λc H2 I=>?_];let Z:=L.same O I;let#[dx,fs',ho,_,Y]:=O.ob Z.A;show#[7,I _ _ hy,61,79,dx,0,ho,Y _ aF,0,0,z.na,m,aC,(0),N,n,nd,l,cs,rfl,Z.A,hn,I _ _ hl,no,l3,fits c,λH3 m3 U st=>?_];let A4:=Z.step O U st;let#[dz,hz]:=A4.ob;let#[dx,fs',ho,_,Y]:=O.ob U;have:=oP nd.cs cs (nb cs.9);have:=tf l3;show#[0,10,61,79,dx,0,ho,Y _ aF,z.na,m3,aC,_,0,U,av,λH4 m4 A5 aa=>kQ c H4 m4 (A4.step O A5 aa) (cU.pre I (cU.tr st aa))]
def RS:aA ["self","node"] ["self","node"] (ax SY):=L2.bg
theorem yJ(F:b4 K "end_left" "Files.end_left" SY f fd)(I:ie K CF)(O:M.Ok P w K mg base):↥aU 8 f fd ["self","node"] (Lv M CF):=by
 show F.dg RS ?_;intros;let#[z,m,aC,d,N,h,n,nd,rfl,Y,hn,Z]:=h;let#[dy,hy]:=Y.ob;let#[dx,fs',ho,ht,hm]:=O.ob Y.A;show#[_,%[0,hr,k,aX,bZ,bC,g,dm,e,r,bE,bn,di,ax,1,u,j,bf,O.end_,e|9],?_];show#[7,hy,43,8,35,60,Y.A,hn,λH1 U=>#[9]];let L:=Y.same O U;let aa:¬ (nd.ln=0/\look h n=none)->∀H2,aO H1 H2->Q .bh H2:=λc H2 s2=>by
  rw[acV c]at Z;let G:=L.same O s2;show Z H2 m #[G.ob,G.hh,G.nd,O.le G.A (abd d),G.s1,G.s2,G.hk] (cU.sm (U.trans s2))
 show cQ (λc=>?_) (λc=>?_)
 .let c1:nd.ln=0:=V.int.inj (zA0 c);let g:=dG.k (k:=V8 n) L.hh;rw[cz]at g;show#[0,0,z.a,CF,dy,_,.ref z.hd,rfl,U _ _ hy,I.cl,I.nH,vz,z.hd,0,g,0,?_];cases c2:look h n with
  |some x=>show bA (aa (λq=>by rw[c2]at q;cases q.2) H1 (aO.refl H1))
  |none =>
   rw[acW #[c1,c2]]at Z;let#[dx,fs',ho,_,hm]:=O.ob L.A;show bU #[7,U _ _ hy,43,8,35,60,L.A,hn,λH3 m3 A3 st=>Z H3 m3 (L.step O A3 st) (cU.pre U st)]
 .show aa (λq=>c (zA1 (by rw[q.1]))) H1 (aO.refl H1)
variable{ns:qAb}
theorem jn{p:Str}(I:cH p)(e:gf p=.ok ns):ns.9<=30000/\∀x∈ns,okN x:=by
 unfold gf at e;cases c:p=SL
 .rw[acW c]at e;cases e;show#[Xr _,134]
 rw[acV c]at e;cases c2:Txt.startswith p SL=true
 .rw[acW c2]at e;cases F:(Txt.split (fK p) SL).all fH=true
  .rw[acW F]at e;cases e;show#[?_,λx G=>tR (Xp.mp F x G)];let L:(fK p).9<=p.9:=Txt.slice_le p _ _;have:=I.len;unfold Txt.split;split
   .change 1<=30000;decide
   .split
    .change 1<=30000;decide
    .have:=tP (fK p) SL;omega
  .rw[acV F]at e;cases e
 .rw[acV c2]at e;cases e
def okN.len{x:Str}(h:okN x):x.9<=20000:=WK h.hi aE
noncomputable def wW(N:NS)(n:Int):Nat:=match N n with
 |some nd=>nd.cs.9
 |none=>0
noncomputable def putN(N:NS)(n:Int)(cs:qAa):NS:=cy N n ((N n).map λnd=>{ nd with cs:=cs })
variable{nd:Node}
def ke(h:N n=some nd):wW N n=nd.cs.9:=by unfold wW;rw[h]
variable{cs:qAa}
def cv(h:N n=some nd):putN N n cs=cy N n (some { nd with cs:=cs }):=by unfold putN;rw[h];rfl
variable{x:Option Node}
def eV(h:¬ k=n):cy N n x k=N k:=acV h
def du:cy N n x n=x:=acW rfl
variable{S:SS}{v:qAa}
def Way.ne(W:Way N S ns v):v≠[]:=λz=>by have:=W.ln;rw[z]at this;simp at this
theorem Way.last(W:Way N S ns v):∃nd,N (lst v)=some nd:=by
 show W.rg _ ?_;obtain⟨b,k,e⟩:∃b k,v=b++[k]:=#[2,(Ww W.ne).6];rw[e,lst_snoc];show By _ (sx.mpr rfl)
noncomputable def jw(aC:Nat)(N:NS)(S:SS)(p:Str)(kd:Bool):Except Er (Int×NS×SS):=match gf p with
 |.error e=>.error e
 |.ok ns=>match jI N S ns with
  |.error e=>.error e
  |.ok w=>if 40<=(dE (S (lst w))).9 then .error .tooMany else match sG N 24 with
   | []=>.error .noNode
   |u::_=>if c8 aC N (wW N (lst w)) (8*(cG (S (lst w)) (b3 ns) u).9)=true then .error .noSpace else .ok (u,cy (putN N (lst w) (bq (cG (S (lst w)) (b3 ns) u))) u (some #[101]),ja S (lst w) (cG (S (lst w)) (b3 ns) u))
theorem oq(Z:Fz N S)(h:jI N S ns=.ok v):Way N S ns.dropLast v/\bC N (lst v)=true/\b3 ns∉dE (S (lst v))/\ns≠[]:=by
 unfold jI at h;cases c:ns=[]
 .rw[acW c]at h;cases h
 rw[acV c]at h;cases e:cI N S ns.dropLast with
 |error r=>rwa[e]at h
 |ok w =>
  rw[e]at h;dsimp only at h;cases c2:bC N (lst w)=true
  .rw[acW c2]at h;cases F:b3 ns∈dE (S (lst w))
   .rw[acW F]at h;cases h
   .rw[acV F]at h;cases h;show#[Z.way e,c2,F,c]
  .rw[acV c2]at h;cases h
variable{m:Nat}
theorem Ay{u:Int}{r:qAa}(h:sG N m=u::r):N u=none/\0<=u/\u<m:=by
 have:u∈sG N m:=(by rw[h];show Wn);unfold sG at this;let#[h1,h2]:=WA.mp this;let#[i,hi,rfl]:=z4.mp h1;have:=YO.mp hi;show#[XS.mp h2,av,av]
theorem iq(h:ns≠[]):b3 ns∈ns/\mv (ns.map V.str) (-1)=some (.str (b3 ns)):=by
 obtain⟨b,k,e⟩:∃b k,ns=b++[k]:=#[2,(Ww h).6];rw[e,fw,yl];show#[57,mr _ _]
inductive II(M:cU)(CF:zB0)(X:Er->zB0)(v:qAf)(H:Hp)(Q:VK)(e3:XK):Prop
 |mk(z:FA)(m:M.St)(aC:Nat)(N:NS)(S:SS)(h:HT)(p:Str)(kd:Bool)(_:v=[.ref z.a,.str p,.str (n6 kd)])(_:gw M CF H z m aC N h 0)(_:Fz N S)(_:cH p)(_:∀e,jw aC N S p kd=.error e->∀H',aO H H'->e3 (.ref (X e)) none H')(_:∀u N' S',jw aC N S p kd=.ok (u,N',S')->∀(H':Hp)(m':M.St),gw M CF H' z m' aC N' h 0->M.Step m H m' H'->Q (.int u) H')
inductive Eh(kd:Bool)(M:cU)(CF:zB0)(X:Er->zB0)(v:qAf)(H:Hp)(Q:VK)(e3:XK):Prop
 |mk(z:FA)(m:M.St)(aC:Nat)(N:NS)(S:SS)(h:HT)(p:Str)(_:v=[.ref z.a,.str p])(_:gw M CF H z m aC N h 0)(_:Fz N S)(_:cH p)(_:∀e,jw aC N S p kd=.error e->∀H',aO H H'->e3 (.ref (X e)) none H')(_:∀u N' S',jw aC N S p kd=.ok (u,N',S')->∀(H':Hp)(m':M.St),gw M CF H' z m' aC N' h 0->M.Step m H m' H'->Q (.int u) H')
abbrev RX:Wo:=inClass (top 71) 16
abbrev Sa:Wo:=inClass (top 71) 2
abbrev TM:Wo:=inClass (top 71) 3
def Gr:aA ["self","path","kind","names","parent","slots","unused"] ["self","path","kind"] (ax RX):=L2.bg
theorem wb(F:b4 K "make_node" "Files.make_node" RX f fd)(T:pP K mg X)(L:ie K CF)(O:M.Ok P w K mg base)(a4:⇑Df 2 "names_of" (zo X))(a1:⇑Df 10 "way_to_new" (Fi M X))(aT:↥Df 8 "slots_of" (sg M))(a0:⇑Df 2 "refuse_full" (DC X))(aK:↥Df 8 "free_nodes" (Lz M))(a2:⇑Md 10 CF "put_name" (El M CF X)):⇑aU 11 f fd ["self","path","kind"] (II M CF X):=by
 show F.gx Gr ?_;intros;let#[z,m,aC,N,S,h,p,kd,rfl,A0,Z,hp,G,I]:=h;let#[dy,hy]:=A0.ob;unfold jw at G I;show#[_,%[Gr,hr,aW,3,F,a4,e,aW,4,dL,F,a1,ay,Y,K,aE,5,c,aT,ay,ah,z,F,a0,a,5,aE,6,c,aK,a,u,aS,g,l,a,6,r,aU,dy,aV,dy,y,z,bQ,0,L.cl,a2,d,4,d,5,d,v,3,K,a,aJ,6,au,t,bf,O.begin,d,aJ,6,h,t,cW,u,b,aJ,6|9],?_]
 show#[80,λe he H1 s1=>by rw[he]at G;show G e rfl H1 s1,λns am H1 l1 s1 f1 e1=>?_];rw[am]at G I;dsimp only at G I;let#[b1,b2]:=jn hp am;let A1:=A0.same O s1;show#[7,s1 _ _ hy,50,74,A1.A,Z,e1,106,λe he H2 s2=>by rw[he]at G;show G e rfl H2 (s1.trans s2),λv hv H2 q2 s2 f2 e2=>?_];rw[hv]at G I;dsimp only at G I;let#[W,hd,bd,a7]:=oq Z hv;let#[nd,U,a6]:=bz hd;let#[aB,a5]:=iq a7;let ac:=s1.trans s2;let A2:=A0.same O ac;show#[(1),rfl,q2,88,a9.of e2,gj W.ne,?_];show#[7,ac _ _ hy,50,12,lst v,nd,52,A2.A,U,Z.enc _ _ U a6,27,λH3 q3 ws s3 f3 e3 S3=>?_];let ap:=ac.trans s3;show#[0,q3,ws,52,e3,S3,Z.len _,Z.nd _,λc H4 s4=>by rw[acW c]at G;show G _ rfl H4 (ap.trans s4),λc H4 s4=>?_];rw[acV av]at G I;let ad:=ap.trans s4;let A4:=A0.same O ad;show#[7,ad _ _ hy,50,79,m,aC,(0),N,rfl,A4.A,λH5 Y s5 f5 e5=>?_];let aa:=ad.trans s5;let A5:=A0.same O aa;show#[0,Y,0,.inl (a9.of e5),9];rw[dM];cases hf:sG N 24 with
 |nil =>
  rw[hf]at G;show bU #[aE,G _ rfl H5 aa]
 |cons u r =>
  rw[hf]at G I e5;dsimp only at G I;let#[hu,u0,u1]:=Ay hf;let un:¬ u=lst v:=λq=>(by rwa[q,U]at hu);let aP:¬ V.int ((u::r).9:Nat)=V.int 0:=λq=>(by have:=V.int.inj q;rw[WG]at this;omega);rw[zA2 aP];show bA ?_;rw[ke U,cv U]at I;rw[ke U]at G;let nq:¬ M.own m Y:=λq=>O.live A4.A q f5;show#[15,aa _ _ hy,11,0,115,a9.of ((s2.trans (s3.trans (s4.trans s5))) _ _ e1),a5,0,Y,_,(0),.int u,1,a9.of e5,84,34,lst v,nd,q3,ws,S (lst v),b3 ns,u,rfl,A5,U,(s4.trans s5) _ _ e3,S3.same (s4.trans s5),Z.len _,c,Z.ok _,b2 _ aB,λc2 H6 s6=>by rw[acW c2]at G;show G _ rfl H6 (aa.trans s6),λc2 H6 m6 A6 ak=>?_];rw[acV (by rw[c2];nofun)]at I;let#[dz,hz]:=A6.ob;let#[dx,fs',ho,ht,hm]:=O.ob A6.A;let e6:=ak.1 _ _ e5 nq;show#[0,10,50,8,0,Y,_,(0),.int u,1,a9.of e6,84,0,z.na,m6,aC,2,u,kd,rfl,A6.A,by rw[eV un];show hu,u0,av,λH7 m7 A7 ab=>?_];let ar:=A6.step O A7 ab;let#[dz,hz]:=ar.ob;let#[dx,fs',ho,ht,hm]:=O.ob A7;let d1:=oP nd.cs (bq (cG (S (lst v)) (b3 ns) u)) (nb (bq (cG (S (lst v)) (b3 ns) u)).9);let d2:nb (bq (cG (S (lst v)) (b3 ns) u)).9<=20:=tf (by
   have:=kU (nm:=b3 ns) (k:=u) c (Z.len (lst v));rw[cS (dg (Z.ok _) (b2 _ aB))];omega)
  let as:¬ M.own m6 Y:=λq=>by
   rcases ak.2 _ q with q|q
   .show nq q
   .rw[q]at e5;cases e5
  let e7:=ab.1 _ _ e6 as;show#[0,10,50,8,z.na,m7,aC,_,0,A7,av,λH8 m8 A8 aj=>?_];let a3:¬ M.own m7 Y:=λq=>by
   rcases ab.2 _ q with q|q
   .show as q
   .rw[q]at e6;cases e6
  show#[0,Y,_,(0),.int u,1,a9.of (aj.1 _ _ e7 a3),84,I u _ _ rfl H8 m8 (ar.step O A8 aj) (cU.pre aa (cU.tr ak (cU.tr ab aj)))]
def Ti:aA ["self","path"] ["self","path"] (ax Sa):=L2.bg
theorem Jq(F:b4 K "make" "Files.make" Sa f fd)(TF:ie K CF)(Y:⇑Md 11 CF "make_node" (II M CF X)):⇑aU 12 f fd ["self","path"] (Eh false M CF X):=by
 show F.gx Ti ?_;intros;let#[z,m,aC,N,S,h,p,rfl,G,Z,U,kE,L]:=h;let#[I,hy]:=G.ob;show#[_,%[0,0,W,cy,cn,0,(Y),J,y|9],?_];show#[0,z.a,I,0,hy,11,z,m,aC,N,S,h,p,false,rfl,G,Z,U,kE,L]
def SV:aA ["self","path"] ["self","path"] (ax TM):=L2.bg
theorem yL(F:b4 K "make_dir" "Files.make_dir" TM f fd)(TF:ie K CF)(Y:⇑Md 11 CF "make_node" (II M CF X)):⇑aU 12 f fd ["self","path"] (Eh true M CF X):=by
 show F.gx SV ?_;intros;let#[z,m,aC,N,S,h,p,rfl,G,Z,U,kE,L]:=h;let#[I,hy]:=G.ob;show#[_,%[0,0,W,cy,cn,0,(Y),J,y|9],?_];show#[0,z.a,I,0,hy,11,z,m,aC,N,S,h,p,true,rfl,G,Z,U,kE,L]
noncomputable def Oz(nd:Node):Int:=if nd.dir=true then(nd.cs.9:Int)/8 else(nd.cs.9:Int)
inductive LN(M:cU)(CF:zB0)(X:Er->zB0)(v:qAf)(H:Hp)(Q:VK)(e:XK):Prop
 |mk(z:FA)(m:M.St)(aC d:Nat)(N:NS)(h:HT)(n:Int)(_:v=[.ref z.a,.int n])(_:gw M CF H z m aC N h d)(_:n.12<=1000000)(_:N n=none->∀H',aO H H'->e (.ref (X .noNode)) none H')(_:∀nd,N n=some nd->∀(H':Hp)(q:zB0),aO H H'->H q=none->H' q|||[.str (n6 nd.dir),.int nd.ln,.int (Oz nd)]->Q (.ref q) H')
noncomputable def cells(N:NS)(n:Int):List Int:=match N n with
 |some nd=>nd.cs
 |none=>[]
def dm(h:N n=some nd):cells N n=nd.cs:=by unfold cells;rw[h]
abbrev Ka(n:Int):Prop:=0<=n/\n<=320
noncomputable def wA(N:NS)(n at_ F:Int):Except Er (List Int):=match ze N n with
 |some e=>.error e
 |none=>if Ka at_ then(if Ka F then .ok (((cells N n).drop at_.5).take F.5)else .error .tooBig)else .error .tooBig
inductive M4(M:cU)(CF:zB0)(X:Er->zB0)(v:qAf)(H:Hp)(Q:VK)(e3:XK):Prop
 |mk(z:FA)(m:M.St)(aC d:Nat)(N:NS)(h:HT)(n a b:Int)(_:v=[.ref z.a,.int n,.int a,.int b])(_:gw M CF H z m aC N h d)(_:n.12<=1000000/\a.12<=1000000/\b.12<=1000000)(_:∀e,wA N n a b=.error e->∀H',aO H H'->e3 (.ref (X e)) none H')(_:∀cs,wA N n a b=.ok cs->∀(H':Hp)(q:zB0),aO H H'->H q=none->H' q∣(cs.map V.int)->Q (.ref q) H')
noncomputable def rh(aC:Nat)(N:NS)(n:Int)(cs:qAa):Except Er NS:=if c8 aC N (wW N n) cs.9=true then .error .noSpace else .ok (putN N n cs)
noncomputable def BX(old:qAa)(a:Nat)(cs:qAa):List Int:=(fill old a).take a++cs++(fill old a).drop (a+cs.9)
noncomputable def jk(aC:Nat)(N:NS)(n a:Int)(cs:qAa):Except Er NS:=match ze N n with
 |some e=>.error e
 |none=>if Ka a then(if Ka (a+cs.9)then(if cs.9=0 then .ok N else rh aC N n (BX (cells N n) a.5 cs))else .error .tooBig)else .error .tooBig
inductive Nk(M:cU)(CF:zB0)(X:Er->zB0)(v:qAf)(H:Hp)(Q:VK)(e3:XK):Prop
 |mk(z:FA)(m:M.St)(aC:Nat)(N:NS)(h:HT)(n a:Int)(l:zB0)(cs:qAa)(_:v=[.ref z.a,.int n,.int a,.ref l])(_:gw M CF H z m aC N h 0)(_:n.12<=1000000/\a.12<=1000000/\cs.9<=1000)(_:H l∣(cs.map V.int))(_:¬ M.own m l)(_:∀e,jk aC N n a cs=.error e->∀H',aO H H'->e3 (.ref (X e)) none H')(_:∀N',jk aC N n a cs=.ok N'->∀(H':Hp)(m':M.St),gw M CF H' z m' aC N' h 0->M.Step m H m' H'->Q (.int (cs.9:Nat)) H')
theorem yk(h:ze N n=none):∃nd,N n=some nd/\nd.dir=false:=by
 unfold ze at h;cases e:N n with
 |none=>rwa[e]at h
 |some nd =>
  rw[e]at h;show#[nd,3];cases c:nd.dir with
  |false=>rfl
  |true=>dsimp only at h;rwa[c,acW rfl]at h
def vp{xs:qAa}(h1:xs.9<=320)(h2:m<=320):(fill xs m).9<=320:=by
 unfold fill;rw[ti,WM];omega
theorem Ip{old:qAa}{a:Nat}(h1:old.9<=320)(h2:a+cs.9<=320):(BX old a cs).9<=320:=by
 have:=vp h1 (show a<=320 by omega);unfold BX;rw[ti,ti,IF,WC];omega
abbrev Vl:Wo:=inClass (top 71) 9
abbrev UK:Wo:=inClass (top 71) 10
abbrev Vh:Wo:=inClass (top 71) 11
def MH:aA ["self","node","kind","size"] ["self","node"] (ax Vl):=L2.bg
theorem Iq(F:b4 K "stat" "Files.stat" Vl f fd)(T:pP K mg X)(I:ie K CF)(O:M.Ok P w K mg base)(ad:⇑Md 8 CF "refuse_no_node" (HQ M CF X)):⇑aU 9 f fd ["self","node"] (LN M CF X):=by
 show F.gx MH ?_;intros;let#[z,m,aC,d,N,h,n,rfl,U,hn,kE,kQ]:=h;let hs:=DD;let#[dy,hy]:=U.ob;show#[_,%[MH,hr,z,bQ,0,I.cl,ad,e,au,Q,bf,du,e,aY,bf,O.3,e,b,al,ba,d,dm,e,a,cH,g,2,E,bq,nR,3,B,T.rT,3|9],?_]
 show#[15,hy,11,z,13,h,n,rfl,U,hn,kE,λnd Y H1 s1=>?_];let A1:=(U.same O s1).A;let#[dx,fs',ho,_,hm]:=O.ob A1;show#[7,s1 _ _ hy,43,8,35,rfl,A1,λH2 s2=>?_];let aa:=s1.trans s2;show#[7,aa _ _ hy,43,79,dx,0,s2 _ _ ho,hm _ aF,35,60,(U.same O aa).A,Y,λH3 s3=>?_];let ab:=aa.trans s3;let kv:K0 (N n)=.str (n6 nd.dir):=(by rw[Y];rfl);show#[0,7,ab _ _ hy,43,79,dx,0,(s2.trans s3) _ _ ho,hm _ aF,35,60,(U.same O ab).A,Y,λH4 s4=>?_];let ac:=ab.trans s4;show#[0,by rw[kv];rfl,0,?_];let eD:decide (K0 (N n)=.str "dir")=nd.dir:=(by rw[nM,cL Y]);rw[eD];let Z:∀k:Int,Oz nd=k->∀G,H4 G=none->Q (.ref G) (upd H4 G (.tup [K0 (N n),.int nd.ln,.int k])):=λk e G L=>by
  show kQ nd Y _ G (ac.trans (au L)) (a8 ac L) ?_;rw[ag,kv,e]
 unfold Oz at Z;cases c:nd.dir with
 |true =>
  rw[c]at Z;show bU #[0,6,#[aE,aE],124,λG L=>Z _ (acW rfl) G L]
 |false =>
  rw[c]at Z;show bA #[0,124,λG L=>Z _ (acV (by nofun)) G L]
def Ug:aA ["self","node","at","many"] ["self","node","at","many"] (ax UK):=L2.bg
theorem Ci(F:b4 K "read_at" "Files.read_at" UK f fd)(Z:ie K CF)(O:M.Ok P w K mg base)(ad:⇑Md 9 CF "refuse_no_file" (Bm M CF X))(ac:⇑Df 1 "refuse_no_place" (HR X)):⇑aU 10 f fd ["self","node","at","many"] (M4 M CF X):=by
 show F.gx Ug ?_;intros;let#[z,m,aC,d,N,h,n,a,b,rfl,U,Y,G,L]:=h;let#[dy,hy]:=U.ob;unfold wA at G L;show#[_,%[0,hr,z,bQ,0,c4,ad,e,z,F,ac,h,z,F,ac,Y,au,b,w,bf,O.cells,e,D,2,D,p,2,3|9],?_]
 show#[15,hy,11,z,13,h,n,rfl,U,Y.1,λe he H1 I=>by rw[he]at G;show G e rfl H1 I,λhf H1 I=>?_];rw[hf]at G L;dsimp only at G L;show#[0,a,rfl,Y.2.1,λc=>by rw[acV c]at G;show G _ rfl H1 I,λc=>?_];rw[acW c]at G L;show#[0,b,rfl,Y.2.2,λc2=>by rw[acV c2]at G;show G _ rfl H1 I,λc2=>?_];rw[acW c2]at L;let#[nd,aa,aj]:=yk hf;rw[dm aa]at L;let A1:=(U.same O I).A;let#[dx,fs',ho,_,hm]:=O.ob A1;show#[7,I _ _ hy,Z.cl,Z.nN,8,35,60,A1,aa,λH2 q2 s2 _ e2=>?_];show#[0,0,0,0,6,0,q2,0,a9.of e2,λq3 f3=>?_];let ab:=I.trans s2;show L _ rfl _ q3 (ab.trans (au f3)) (a8 ab f3) ?_;rw[ag];let e1:a=(a.5:Int):=av;let e2:b=(b.5:Int):=av;have:=pR (ws:=nd.cs) (s:=a.5) (n:=b.5);rw[<-e1, <-e2]at this;rw[this]
def P2:aA ["self","node","at","cells","old"] ["self","node","at","cells"] (ax Vh):=L2.bg
theorem yV(F:b4 K "write_at" "Files.write_at" Vh f fd)(T:pP K mg X)(TF:ie K CF)(O:M.Ok P w K mg base)(aT:⇑Md 9 CF "refuse_no_file" (Bm M CF X))(aj:⇑Df 1 "refuse_no_place" (HR X))(a2:↥Df 1 "lengthened" og)(ar:⇑Md 10 CF "put_whole" (Nm M CF X)):⇑aU 11 f fd ["self","node","at","cells"] (Nk M CF X):=by
 show F.gx P2 ?_;intros;let#[z,m,aC,N,h,n,a,l,cs,rfl,U,hn,Z,no,G,I]:=h;let hs:=DD;let#[dy,hy]:=U.ob;unfold jk at G I;show#[_,%[P2,hr,z,bQ,0,dA,aT,e,z,F,aj,h,z,F,aj,a,p,2,l,Y,c8,aX,g,l,Y,r,b,aw,aE,4,c,a2,d,bf,O.cells,e,h,z,bQ,0,dA,ar,J,a,M,M,w,4,aQ,2,cb,Y,w,4,D,p,2,l,Y,bM,au,b,l,Y|9],?_]
 show#[15,hy,11,34,n,rfl,U,hn.1,λe he H1 L=>by rw[he]at G;show G e rfl H1 L,λhf H1 L=>?_];rw[hf]at G I;dsimp only at G I;show#[0,a,rfl,hn.2.1,λc=>by rw[acV c]at G;show G _ rfl H1 L,λc=>?_];rw[acW c]at G I;let ab:=L _ _ Z;show#[0,0,l,0,.inl (a9.of ab),6,a+cs.9,118,av,λc2=>by rw[acV c2]at G;show G _ rfl H1 L,λc2=>?_];rw[acW c2]at G I;let A1:=U.same O L;show#[0,l,0,.inl (a9.of ab),9];rw[dM];show cQ (λc3=>?_) (λc3=>?_)
 .let e0:cs.9=0:=(by have:=V.int.inj (zA0 c3);omega);rw[acW e0]at I;let q:=I N rfl H1 m A1 (cU.sm L);rw[e0]at q;show q
 let n0:¬ cs.9=0:=λq=>c3 (zA1 (by rw[q];rfl));rw[acV n0]at G I;let#[nd,Y,a3]:=yk hf;let l3:=(O.ok U.A).xS _ _ Y;unfold rh at G I;rw[dm Y,ke Y]at G I;rw[cv Y]at I;let#[dx,fs',ho,ht,hm]:=O.ob A1.A;let e1:a=(a.5:Int):=av;show#[7,L _ _ hy,TF.cl,TF.nN,8,0,z.na,m,aC,(0),N,n,60,A1.A,Y,λH2 q2 s2 f2 e2=>?_];show#[0,q2,nd.cs,a.5,by rw[<-e1];rfl,e2,av,av,λH3 q3 s3 f3 e3=>?_];let ac:=L.trans (s2.trans s3);show#[15,ac _ _ hy,11,0,0,a,rfl,q3,0,38,λq4 f4=>?_];let ec:d8 ((fill nd.cs a.5).map V.int) none (some a)=((fill nd.cs a.5).take a.5).map V.int:=by
  have:=jm (ws:=fill nd.cs a.5) (s:=a.5)
  (rw[<-e1]at this;assumption)
 rw[ec];exists f4,(.lst (((fill nd.cs a.5).take a.5).map V.int)),s4,e4,H4;let a1:=s4 _ _ e3;let ad:=ac.trans s4;show#[0,l,0,.inl (a9.of (ad _ _ Z)),λq5 f5=>?_];exists f5,(.lst (cs.map V.int)),s5,e5,H5;let ap:=s5 _ _ e4;let as:=s5 _ _ a1;let a0:=ad.trans s5;let fl:=vp (xs:=nd.cs) (m:=a.5) av av;show#[q4,q5,6,ap,e5,120,λq6 f6=>?_];rw[<-yl];exists f6,(.lst (((fill nd.cs a.5).take a.5++cs).map V.int)),s6,e6,H6;let aP:=s6 _ _ as;let ak:=a0.trans s6;show#[0,0,0,l,0,.inl (a9.of (ak _ _ Z)),6,a+((cs.map V.int).9:Nat),rfl,q3,0,a9.of aP,λq7 f7=>?_];let aB:d8 ((fill nd.cs a.5).map V.int) (some (a+((cs.map V.int).9:Nat))) none=((fill nd.cs a.5).drop (a.5+cs.9)).map V.int:=by
  have:=iW (ws:=fill nd.cs a.5) (s:=a.5+cs.9);rw[show((a.5+cs.9:Nat):Int)=a+((cs.map V.int).9:Nat)by rw[dM];omega]at this;show this
 rw[aB];exists f7,(.lst (((fill nd.cs a.5).drop (a.5+cs.9)).map V.int)),s7,e7,H7;let aK:=s7 _ _ e6;let am:=ak.trans s7;show#[q6,q7,6,aK,e7,by rw[dM,dM,ti,IF,WC];omega,λq8 f8=>?_];rw[<-yl];let s8:=au (X:=.lst (((fill nd.cs a.5).take a.5++cs++(fill nd.cs a.5).drop (a.5+cs.9)).map V.int)) f8;let aa:=am.trans s8;show#[z,m,aC,N,h,n,nd,q8,BX nd.cs a.5 cs,rfl,U.same O aa,Y,ag,λq=>O.live (U.same O am).A q f8,Ip av av,λc4 H9 s9=>by rw[acW c4]at G;show G _ rfl H9 (aa.trans s9),λc4 H9 m9 A9 st=>?_];rw[acV (by rw[c4];nofun)]at I;show#[0,l,0,.inl (a9.of (st.1 _ _ (aa _ _ Z) no)),?_];rw[dM];show I _ rfl H9 m9 A9 (cU.pre aa st)
theorem AZ{old cs:qAa}{j:Nat}:∀{m:Nat},(∀k,k<m->¬ k=j->k<nb old.9/\ch old k=ch cs k)->r9 old cs m<=(if j<m then 1 else 0)
 |0,_=>by rw[acV (aaT j)];show G0 _
 |m+1,h=>by
  let F:=AZ (m:=m) λk hk=>h k av;rw[wD];cases c:m=j
  .rw[acV (show ¬ j<m by omega)]at F;rw[acW (show j<m+1 by omega)];split<;>omega
  .have:=h m av c;rw[acV (show ¬ MB old cs m=true from λz=>zA0 z this)];cases d:j<m
   .rw[acW d]at F;rw[acW av];omega
   .rw[acV d]at F;rw[acV av];omega
theorem tD:∀{ss:List Slot}(i:Nat),(∀s∈ss,∀p,s=some p->okN p.1)->(bq ss).drop (8*i)=bq (ss.drop i)
 | [],i,_=>by rw[acM];show acM
 |s::ss,0,_=>rfl
 |s::ss,i+1,h=>by
  let G:=tD (ss:=ss) i λt F=>h t (Wm _ F);change(jH s++bq ss).drop (8*(i+1))=bq (ss.drop i);let l:=jB (h s Wn);rw[Zl,l,Xb av,ZI,show 8*(i+1)-8=8*i by omega,G]
theorem x6:∀{ss:List Slot}(i:Nat),(∀s∈ss,∀p,s=some p->okN p.1)->(bq ss).take (8*i)=bq (ss.take i)
 | [],i,_=>by rw[aa1];show aa1
 |s::ss,0,_=>rfl
 |s::ss,i+1,h=>by
  let G:=x6 (ss:=ss) i λt F=>h t (Wm _ F);change(jH s++bq ss).take (8*(i+1))=jH s++bq (ss.take i);let l:=jB (h s Wn);rw[XA,l,V6 av,show 8*(i+1)-8=8*i by omega,G]
theorem Bg(k:Nat)(h:∀s∈ss,∀p,s=some p->okN p.1):ch (bq ss) k=fill (bq ((ss.drop (2*k)).take 2)) 16:=by
 unfold ch;rw[show 16*k=8*(2*k)by omega,tD _ h,show 16=8*2 by rfl,x6 _ λs hs=>h s (XH hs)]
theorem tm{ts:List Slot}{j:Nat}(h1:∀s∈ss,∀p,s=some p->okN p.1)(h2:∀s∈ts,∀p,s=some p->okN p.1)(F:ss.9=ts.9\/(j=ss.9/\ts.9=ss.9+1))(h:∀i:Nat,¬ i=j->ts[i]?=ss[i]?):r9 (bq ss) (bq ts) (nb (bq ts).9)<=1:=by
 have:=AZ (old:=bq ss) (cs:=bq ts) (j:=j/2) (m:=nb (bq ts).9) λk hk G=>by
  rw[cS h2]at hk;show#[5]
  .rw[cS h1];unfold nb at *;omega
  .rw[Bg k h1,Bg k h2];congr 1;congr 1;show Z1 λi=>?_;rw[Xq,Xq];cases c:i<2
   .rw[acW c,acW c,XM,XM,h _ av]
   .rw[acV c,acV c]
 show WK this ?_;split<;>omega
theorem MO{i:Nat}(h:¬ i=mf ss):(cG ss nm k)[i]?=ss[i]?:=by
 let fl:mf ss<=ss.9:=YV;unfold cG;cases c:i<mf ss
 .rw[WI,Wj (by rw[IF];omega),Xq,acW c]
 .rw[Wb (by rw[ti,IF,NC];omega),ti,IF,NC,XM];congr 1;omega
theorem Hv(h:∀s∈ss,∀p,s=some p->okN p.1)(F:okN nm):r9 (bq ss) (bq (cG ss nm k)) (nb (bq (cG ss nm k)).9)<=1:=by
 show tm (j:=mf ss) h (dg h F) ?_ λi hi=>MO hi;let fl:mf ss<=ss.9:=YV;unfold cG;rw[ti,ti,IF,WC,NC];cases c:mf ss<ss.9
 .left;omega
 .right;omega
theorem Lg(h:nm∉dE ss):dH ss nm=ss:=by
 induction ss with
 |nil=>rfl
 |cons s ss F =>
  rw[cu]at h;rw[ia,F λz=>h (By _ z)];congr 1;show acV λz=>h (Wg _ ?_);cases s with
  |none=>cases z
  |some p=>rw[<-zA0 z];show sx.mpr rfl
theorem Jm(h:(dE ss).4):∃j:Nat,∀i:Nat,¬ i=j->(dH ss nm)[i]?=ss[i]?:=by
 induction ss with
 |nil=>show#[(0),λ_ _=>rfl]
 |cons s ss I =>
  rw[cu]at h;let#[h1,h2,F]:=Wl.mp h;rw[ia];cases c:pO nm s=true
  .show#[(0),λi hi=>?_];rw[Lg λz=>?_]
   .cases i with
    |zero=>show absurd rfl hi
    |succ i=>rfl
   .cases s with
    |none=>cases c
    |some p=>show F p.1 (sx.mpr rfl) nm z (zA0 c)
  .let#[j,G]:=I h2;show#[j+1,λi hi=>?_];cases i with
   |zero=>rw[acV c];rfl
   |succ i=>show G i av
theorem HG(h:∀s∈ss,∀p,s=some p->okN p.1)(nd:(dE ss).4):r9 (bq ss) (bq (dH ss nm)) (nb (bq (dH ss nm)).9)<=1:=by
 let#[j,F]:=Jm (nm:=nm) nd;show tm h (LM h) (.inl (gm ss nm).6) F
def cO(w:qAa):Int:=lst w.dropLast
structure V0(N:NS)(S:SS)(ns:qAb)(w:qAa):Prop where
 Dc:mv (w.map V.int) (-1)=some (.int (lst w))
 at2:mv (w.map V.int) (-2)=some (.int (cO w))
 dir:bC N (cO w)=true
 fG:fG (S (cO w)) (b3 ns)=some (lst w)
theorem Fz.two{w:qAa}(Z:Fz N S)(h:cI N S ns=.ok w)(ne:ns≠[]):V0 N S ns w:=by
 obtain⟨b,nm,rfl⟩:∃b k,ns=b++[k]:=#[2,(Ww ne).6];rw[iP]at h;cases e:cI N S b with
 |error r=>rwa[e]at h
 |ok v =>
  rw[e]at h;let W:=Z.way e;unfold i3 at h;dsimp only at h;cases c:bC N (lst v)=true
  .rw[acW c]at h;cases q:fG (S (lst v)) nm with
   |none=>rwa[q]at h
   |some k =>
    rwa[q]at h;let ep:cO (v++[k])=lst v:=(by unfold cO;rw[XI]);obtain⟨x,a,F⟩:∃b k,v=b++[k]:=#[2,(Ww W.ne).6];show#[gj (by simp),?_,by rw[ep];show c,by rw[ep,fw,lst_snoc];show q];rw[ep,F,lst_snoc];show JU x a k
  .rw[acV c]at h;cases h
noncomputable def wC(N:NS)(n k:Int):NS:=cy N n ((N n).map λnd=>{ nd with ln:=nd.ln+k })
def kL(h:N n=some nd):wC N n k=cy N n (some { nd with ln:=nd.ln+k }):=by unfold wC;rw[h];rfl
noncomputable def j8(aC:Nat)(N:NS)(S:SS)(p q:Str):Except Er (NS×SS):=match gf p with
 |.error e=>.error e
 |.ok ns=>match gf q with
  |.error e=>.error e
  |.ok F=>match cI N S ns with
   |.error e=>.error e
   |.ok w=>if bC N (lst w)=true then .error .isDir else match jI N S F with
    |.error e=>.error e
    |.ok v=>if 40<=(dE (S (lst v))).9 then .error .tooMany else if c8 aC N (wW N (lst v)) (8*(cG (S (lst v)) (b3 F) (lst w)).9)=true then .error .noSpace else .ok (wC (putN N (lst v) (bq (cG (S (lst v)) (b3 F) (lst w)))) (lst w) 1,ja S (lst v) (cG (S (lst v)) (b3 F) (lst w)))
inductive K4(M:cU)(CF:zB0)(X:Er->zB0)(v:qAf)(H:Hp)(Q:VK)(e3:XK):Prop
 |mk(z:FA)(m:M.St)(aC:Nat)(N:NS)(S:SS)(h:HT)(p q:Str)(_:v=[.ref z.a,.str p,.str q])(_:gw M CF H z m aC N h 0)(_:Fz N S)(_:cH p)(_:cH q)(_:∀e,j8 aC N S p q=.error e->∀H',aO H H'->e3 (.ref (X e)) none H')(_:∀N' S',j8 aC N S p q=.ok (N',S')->∀(H':Hp)(m':M.St),gw M CF H' z m' aC N' h 0->M.Step m H m' H'->Q .bh H')
noncomputable def hU(N:NS)(S:SS)(h:HT)(p:Str):Except Er (NS×SS):=match gf p with
 |.error e=>.error e
 |.ok ns=>match cI N S ns with
  |.error e=>.error e
  |.ok w=>if bC N (lst w)=true then .error .isDir else .ok ((if lk N (lst w)=1/\look h (lst w)=none then cy (wC (putN N (cO w) (bq (dH (S (cO w)) (b3 ns)))) (lst w) (-1)) (lst w) none else wC (putN N (cO w) (bq (dH (S (cO w)) (b3 ns)))) (lst w) (-1)),ja S (cO w) (dH (S (cO w)) (b3 ns)))
inductive N4(M:cU)(CF:zB0)(X:Er->zB0)(v:qAf)(H:Hp)(Q:VK)(e3:XK):Prop
 |mk(z:FA)(m:M.St)(aC:Nat)(N:NS)(S:SS)(h:HT)(p:Str)(_:v=[.ref z.a,.str p])(_:gw M CF H z m aC N h 0)(_:Fz N S)(_:cH p)(_:∀e,hU N S h p=.error e->∀H',aO H H'->e3 (.ref (X e)) none H')(_:∀N' S',hU N S h p=.ok (N',S')->∀(H':Hp)(m':M.St),gw M CF H' z m' aC N' h 0->M.Step m H m' H'->Q .bh H')
abbrev Up:Wo:=inClass (top 71) 4
abbrev Vb:Wo:=inClass (top 71) 5
def BG:aA ["self","path","new","names","new_names","node","parent","slots"] ["self","path","new"] (ax Up):=L2.bg
theorem JX(F:b4 K "link" "Files.link" Up f fd)(L:ie K CF)(O:M.Ok P w K mg base)(aB:⇑Df 2 "names_of" (zo X))(a1:⇑Df 9 "way_along" (yN M X))(a2:⇑Md 8 CF "refuse_dir" (xW M CF X))(a4:⇑Df 10 "way_to_new" (Fi M X))(a3:↥Df 8 "slots_of" (sg M))(a7:⇑Df 2 "refuse_full" (DC X))(a5:⇑Md 10 CF "put_name" (El M CF X)):⇑aU 11 f fd ["self","path","new"] (K4 M CF X):=by
 show F.gx BG ?_;intros;let#[z,m,aC,N,S,h,p,q,rfl,A0,Z,hp,hq,G,I]:=h;let#[dy,hy]:=A0.ob;unfold j8 at G I;show#[_,%[BG,hr,aW,3,F,aB,e,aW,4,F,aB,h,aW,5,dL,F,a1,ay,Y,K,z,bQ,0,L.cl,a2,a,5,aW,6,dL,F,a4,ay,ah,K,aE,7,c,a3,ay,a,6,z,F,a7,a,7,z,bQ,0,L.cl,a5,d,6,d,7,d,v,4,K,a,5,au,t,bf,O.putL,d,5,a,p,dm,a,5,aw,j,cW,u|9],?_]
 show#[80,λe Y H1 s1=>by rw[Y]at G;show G e rfl H1 s1,λns aP H1 l1 s1 f1 e1=>?_];rw[aP]at G I;dsimp only at G I;let#[b1,b2]:=jn hp aP;show#[0,q,rfl,hq,λe Y H2 s2=>by rw[Y]at G;show G e rfl H2 (s1.trans s2),λU ap H2 l2 s2 f2 e2=>?_];rw[ap]at G I;dsimp only at G I;let#[c1,c2]:=jn hq ap;let ab:=s1.trans s2;show#[7,ab _ _ hy,50,74,(A0.same O ab).A,Z,s2 _ _ e1,106,λe Y H3 s3=>by rw[Y]at G;show G e rfl H3 (ab.trans s3),117];rw[hv]at G I;dsimp only at G I;let W:=Z.way hv;let#[nw,aK]:=W.last;let bm:=Z.qk _ _ aK;let ac:=ab.trans s3;show#[(1),rfl,q3,88,38,gj W.ne,?_];show#[15,ac _ _ hy,11,34,78,A0.same O ac,av,λc H4 s4=>by rw[acW c]at G;show G _ rfl H4 (ac.trans s4),λc H4 s4=>?_];rw[acV (by rw[c];nofun)]at G I;let ad:=ac.trans s4;show#[7,ad _ _ hy,50,12,S,l2,U,rfl,(A0.same O ad).A,Z,(s3.trans s4) _ _ e2,c1,λx hx=>(c2 x hx).len,λe Y H5 s5=>by rw[Y]at G;show G e rfl H5 (ad.trans s5),λu hu H5 q5 s5 f5 e5=>?_];rw[hu]at G I;dsimp only at G I;let#[W2,hd,bl,a6]:=oq Z hu;let#[nd,aa,bi]:=bz hd;let#[a0,be]:=iq a6;let am:=ad.trans s5;show#[(1),rfl,q5,_, -1,.int (lst u),1,a9.of e5,gj W2.ne,?_];show#[7,am _ _ hy,50,12,lst u,nd,S (lst u),rfl,(A0.same O am).A,aa,Z.enc _ _ aa bi,27,λH6 q6 ws s6 f6 e6 S6=>?_];let as:=am.trans s6;show#[0,q6,ws,S (lst u),rfl,e6,S6,Z.len _,Z.nd _,λd1 H7 s7=>by rw[acW d1]at G;show G _ rfl H7 (as.trans s7),λd1 H7 s7=>?_];rw[acV av]at G I;let aj:=as.trans s7;let A7:=A0.same O aj;rw[ke aa]at G I;rw[cv aa]at I;let un:¬ lst v=lst u:=λw=>(by rwa[w,hd]at c);show#[15,aj _ _ hy,11,0,22,l2,_, -1,.str (b3 U),1,a9.of ((s3.trans (s4.trans (s5.trans (s6.trans s7)))) _ _ e2),be,0,34,lst u,nd,q6,ws,S (lst u),b3 U,78,A7,aa,s7 _ _ e6,S6.same s7,Z.len _,d1,Z.ok _,c2 _ a0,λd2 H8 s8=>by rw[acW d2]at G;show G _ rfl H8 (aj.trans s8),λd2 H8 m8 A8 bd=>?_];rw[acV (by rw[d2];nofun)]at I;let#[dz,hz]:=A8.ob;let#[dx,fs',ho,ht,hm]:=O.ob A8.A;let ak:cy N (lst u) (some { nd with cs:=bq (cG (S (lst u)) (b3 U) (lst v)) }) (lst v)=some nw:=(by rw[eV un];show aK);rw[kL ak]at I;show#[0,10,50,8,0,0,10,50,8,0,53,nw,rfl,A8.A,ak,λH9 s9=>?_];let A9:=A8.same O s9;show#[6,53,nw.ln+1,nw,rfl,A9.A,ak,λHa ma Aa ar=>?_];let Ab:=A9.step O Aa ar;let#[dz,hz]:=Ab.ob;let#[dx,fs',ho,_,hm]:=O.ob Aa;let g1:=oP nd.cs (bq (cG (S (lst u)) (b3 U) (lst v))) (nb (bq (cG (S (lst u)) (b3 U) (lst v))).9);let g2:nb (bq (cG (S (lst u)) (b3 U) (lst v))).9<=20:=tf (by
  have:=kU (nm:=b3 U) (k:=lst v) d1 (Z.len (lst u));rw[cS (dg (Z.ok _) (c2 _ a0))];omega)
 show#[0,10,50,8,z.na,ma,aC,_,0,Aa,av,λHc mc Ac aT=>I _ _ rfl Hc mc (Ab.step O Ac aT) (cU.pre aj (cU.tr bd (cU.pre s9 (cU.tr ar aT))))]
def IJ:aA ["self","path","names","way","node"] ["self","path"] (ax Vb):=L2.bg
theorem Cs(F:b4 K "unlink" "Files.unlink" Vb f fd)(G:ie K CF)(O:M.Ok P w K mg base)(aT:⇑Df 2 "names_of" (zo X))(as:⇑Df 9 "way_along" (yN M X))(aB:⇑Md 8 CF "refuse_dir" (xW M CF X))(aK:↥Md 9 CF "drop_name" (Ib M CF))(a1:↥Md 8 CF "end_left" (Lv M CF)):⇑aU 10 f fd ["self","path"] (N4 M CF X):=by
 show F.gx IJ ?_;intros;let#[z,m,aC,N,S,h,p,rfl,A0,Z,hp,I,L]:=h;let#[dy,hy]:=A0.ob;unfold hU at I L;show#[_,%[IJ,hr,aW,2,F,aT,e,aW,3,F,as,ay,h,aE,4,v,3,K,z,bQ,0,dz,aB,ah,au,t,ae,0,dz,aK,d,v,3,K,a,v,2,K,t,bf,O.putL,d,4,a,aO,dm,ah,aw,t,ae,0,dz,a1,ah,j,cW,u|9],?_]
 show#[80,λe he H1 U=>by rw[he]at I;show I e rfl H1 U,λns ak H1 l1 U f1 e1=>?_];rw[ak]at I L;dsimp only at I L;let#[b1,b2]:=jn hp ak;show#[7,U _ _ hy,61,74,(A0.same O U).A,Z,e1,106,λe he H3 s3=>by rw[he]at I;show I e rfl H3 (U.trans s3),117];rw[hv]at I L;dsimp only at I L;let W:=Z.way hv;let#[Y,aj]:=W.last;let a4:=Z.qk _ _ aj;let aa:=U.trans s3;show#[22,q3,88,38,gj W.ne,?_];show#[15,aa _ _ hy,11,34,78,A0.same O aa,av,λc H4 s4=>by rw[acW c]at I;show I _ rfl H4 (aa.trans s4),λc H4 s4=>?_];rw[acV (by rw[c];nofun)]at L;let ar:ns≠[]:=λw=>by
  rwa[w]at hv;have:=Z.root;rwa[show lst [0]=0 from rfl,this]at c
 let T2:=Z.two hv ar;let#[a5,a0]:=iq ar;let#[nd,ab,a2]:=bz T2.dir;let ac:=aa.trans s4;let A4:=A0.same O ac;let un:¬ lst v=cO v:=λw=>(by rwa[w,T2.dir]at c);rw[cv ab]at L;let ad:cy N (cO v) (some { nd with cs:=bq (dH (S (cO v)) (b3 ns)) }) (lst v)=some Y:=(by rw[eV un];show aj);rw[kL ad,fi aj]at L;show#[15,ac _ _ hy,11,121,a9.of (s4 _ _ e3),T2.at2,115,a9.of ((s3.trans s4) _ _ e1),a0,34,cO v,nd,S (cO v),b3 ns,rfl,A4,ab,Z.enc _ _ ab a2,27,λH8 m8 A8 aP=>?_];let#[dz,hz]:=A8.ob;let#[dx,fs',ho,_,hm]:=O.ob A8.A;show#[0,10,61,8,0,0,10,61,8,0,53,Y,rfl,A8.A,ad,λH9 s9=>?_];let A9:=A8.same O s9;show#[6,53,Y.ln-1,Y,rfl,A9.A,ad,λHa ma Aa am=>?_];let Ab:=A9.step O Aa am;let#[dz,hz]:=Ab.ob;show#[0,z.a,dz,0,hz,11,z,ma,aC,2,h,lst v,0,Ab,du,λHd md Ad a3=>?_];let#[dz,hz]:=Ad.ob;let#[dx,fs',ho,_,hm]:=O.ob Ad.A;let g1:=oP nd.cs (bq (dH (S (cO v)) (b3 ns))) (nb (bq (dH (S (cO v)) (b3 ns))).9);let g2:nb (bq (dH (S (cO v)) (b3 ns))).9<=20:=tf (by
  have:=Z.len (cO v);rw[cS (LM (Z.ok _)),gm];omega)
 show#[0,10,61,8,z.na,md,aC,_,0,Ad.A,av,λHc mc Ac ap=>L _ (ja S (cO v) (dH (S (cO v)) (b3 ns))) ?_ Hc mc (Ad.step O Ac ap) (cU.pre ac (cU.tr aP (cU.pre s9 (cU.tr am (cU.tr a3 ap)))))];let e0:(Y.ln-1=0)=(Y.ln=1):=propext #[λw=>by omega,λw=>by omega];simp only[e0];rfl
end Fs
namespace L2
theorem HN{t u:sy}{R:XR}{D:Ends}{σ:St}{H:Hp}(Pr:St->Hp->Prop)(mk:∀F:sy,(∀σ H,Pr σ H->F D R σ H)->tj t F D R σ H)(h:∀σ H,Pr σ H->u D R σ H):tj t u D R σ H:=mk u h
end L2
namespace Fs
open PySem L2 Dk Tb Srt
theorem uo(x:Int):∀l:List Int,rJ (.int x) (l.map V.int)=decide (x∈l)
 | []=>rfl
 |y::l=>by
  change(jx (.int y) (.int x)||rJ (.int x) (l.map V.int))=_;rw[uo x l];cases c:y=x
  .rw[show jx (.int y) (.int x)=true from zA1 c];rw[zA1 (We.mpr (.inl c.6))];rfl
  .rw[show jx (.int y) (.int x)=false from zA2 c];cases d:x∈l
   .rw[zA1 d,zA1 (Wm _ d)];rfl
   .rw[zA2 d,zA2 (λz=>(We.mp z).elim (λz=>c z.6) d)];rfl
theorem mB:∀l:List Int,(l.map V.int).all d9=true
 | []=>rfl
 |_::l=>mB l
noncomputable def hG(N:NS)(S:SS)(p:Str):Except Er (NS×SS):=match gf p with
 |.error e=>.error e
 |.ok ns=>match cI N S ns with
  |.error e=>.error e
  |.ok w=>if bC N (lst w)=true then(if lst w=0 then .error .notAllowed else if 0<(dE (S (lst w))).9 then .error .notEmpty else .ok (cy (putN N (cO w) (bq (dH (S (cO w)) (b3 ns)))) (lst w) none,ja (ja S (cO w) (dH (S (cO w)) (b3 ns))) (lst w) []))else .error .notDir
inductive NX(M:cU)(CF:zB0)(X:Er->zB0)(v:qAf)(H:Hp)(Q:VK)(e3:XK):Prop
 |mk(z:FA)(m:M.St)(aC:Nat)(N:NS)(S:SS)(h:HT)(p:Str)(_:v=[.ref z.a,.str p])(_:gw M CF H z m aC N h 0)(_:Fz N S)(_:cH p)(_:∀e,hG N S p=.error e->∀H',aO H H'->e3 (.ref (X e)) none H')(_:∀N' S',hG N S p=.ok (N',S')->∀(H':Hp)(m':M.St),gw M CF H' z m' aC N' h 0->M.Step m H m' H'->Q .bh H')
abbrev Ut:Wo:=inClass (top 71) 6
abbrev SN:Wo:=inClass (top 71) 7
def JQ:aA ["self","path","names","way","node"] ["self","path"] (ax Ut):=L2.bg
variable{X:Er->zB0}{CF:zB0}{M:cU}
theorem tY(F:b4 K "remove_dir" "Files.remove_dir" Ut f fd)(T:pP K mg X)(I:ie K CF)(O:M.Ok P w K mg base)(a4:⇑Df 2 "names_of" (zo X))(aP:⇑Df 9 "way_along" (yN M X))(a3:⇑Df 8 "refuse_no_dir" (EF M X))(aK:↥Df 1 "names_in" FT)(aT:↥Df 8 "slots_of" (sg M))(a0:↥Md 9 CF "drop_name" (Ib M CF)):⇑aU 10 f fd ["self","path"] (NX M CF X):=by
 show F.gx JQ ?_;intros;let#[z,m,aC,N,S,h,p,rfl,Y,Z,hp,G,L]:=h;let#[dy,hy]:=Y.ob;unfold hG at G L;show#[_,%[JQ,hr,aW,2,F,a4,e,aW,3,F,aP,ay,h,aE,4,v,3,K,z,F,a3,ay,ah,aS,g,4,cL,s,aU,dB,aV,dB,y,aS,bB,l,a,c,aK,a,c,aT,ay,ah,r,aU,.notEmpty,aV,.notEmpty,y,au,t,ae,0,I.cl,a0,d,v,3,K,a,v,2,K,t,bf,O.end_,ah,j,cW,u|9],?_]
 show#[80,λe he H1 U=>by rw[he]at G;show G e rfl H1 U,λns am H1 l1 U f1 e1=>?_];rw[am]at G L;dsimp only at G L;let#[b1,b2]:=jn hp am;show#[7,U _ _ hy,43,74,(Y.same O U).A,Z,e1,106,λe he H3 s3=>by rw[he]at G;show G e rfl H3 (U.trans s3),117];rw[hv]at G L;dsimp only at G L;let W:=Z.way hv;let#[nw,aa]:=W.last;let bd:=Z.qk _ _ aa;let ab:=U.trans s3;show#[22,q3,88,38,gj W.ne,?_];show#[7,ab _ _ hy,43,12,78,(Y.same O ab).A,av,λc H4 s4=>by rw[acV (by rw[c];nofun)]at G;show G _ rfl H4 (ab.trans s4),λc H4 s4=>?_];rw[acW c]at G L;let ac:=ab.trans s4;show#[0,9];show cQ (λd=>?_) (λd=>?_)
 .let d0:lst v=0:=V.int.inj (zA0 d);rw[acW d0]at G;show#[aE,G _ rfl H4 ac]
 let d0:¬ lst v=0:=λw=>d (zA1 (by rw[w]));rw[acV d0]at G L;let a7:nw.dir=true:=(by rw[<-cL aa];show c);show#[7,ac _ _ hy,43,12,lst v,nw,52,(Y.same O ac).A,aa,Z.enc _ _ aa a7,27,λH5 q5 ws s5 f5 e5 S5=>?_];show#[q5,ws,52,e5,S5,Z.len _,Z.nd _,λH6 q6 s6 f6 e6=>?_];let ad:=ac.trans (s5.trans s6);show#[q6,0,.inl (a9.of e6),19];rw[dM,xY];show cQ (λd2=>?_) (λd2=>?_)
 .rw[acW (by have:=zA0 d2;omega)]at G;show#[aE,G _ rfl H6 ad]
 let ap:¬ 0<(dE (S (lst v))).9:=λw=>d2 (zA1 av);rw[acV ap]at L;let aB:ns≠[]:=λw=>by
  rwa[w]at hv;show d0 rfl
 let T2:=Z.two hv aB;let#[_,a5]:=iq aB;let#[nd,aj,a6]:=bz T2.dir;let A6:=Y.same O ad;let un:¬ lst v=cO v:=λw=>by
  let q:=T2.fG;rw[<-w]at q;have:b3 ns∈dE (S (lst v)):=WJ λr=>(by rwa[(g6 _ _).mpr r]at q);rwa[WN.mp (YX ap)]at this
 rw[cv aj]at L;let a2:cy N (cO v) (some { nd with cs:=bq (dH (S (cO v)) (b3 ns)) }) (lst v)=some nw:=(by rw[eV un];show aa);let ak:=s4.trans (s5.trans s6);show#[15,ad _ _ hy,11,121,a9.of (ak _ _ e3),T2.at2,115,a9.of ((s3.trans ak) _ _ e1),a5,34,cO v,nd,S (cO v),b3 ns,rfl,A6,aj,Z.enc _ _ aj a6,27,λH8 m8 A8 a1=>?_];let#[dz,hz]:=A8.ob;let#[dx,fs',ho,_,hm]:=O.ob A8.A;show#[0,10,43,8,0,53,nw,rfl,A8.A,a2,λHa ma Aa ar=>?_];let Ab:=A8.step O Aa ar;let#[dz,hz]:=Ab.ob;let#[dx,fs',ho,_,hm]:=O.ob Ab.A;let g1:=oP nd.cs (bq (dH (S (cO v)) (b3 ns))) (nb (bq (dH (S (cO v)) (b3 ns))).9);let g2:nb (bq (dH (S (cO v)) (b3 ns))).9<=20:=tf (by
  have:=Z.len (cO v);rw[cS (LM (Z.ok _)),gm];omega)
 show#[0,10,43,8,z.na,ma,aC,_,0,Ab.A,av,λHc mc Ac as=>L _ _ rfl Hc mc (Ab.step O Ac as) (cU.pre ad (cU.tr a1 (cU.tr ar as)))]
noncomputable def j0(S:SS)(v u:qAa)(nm:Str):List Slot:=if lst u=cO v then dH (S (cO v)) nm else S (lst u)
noncomputable def ki(aC:Nat)(N:NS)(S:SS)(p q:Str):Except Er (NS×SS):=match gf p with
 |.error e=>.error e
 |.ok ns=>match gf q with
  |.error e=>.error e
  |.ok F=>if ns=[]then .error .notAllowed else match cI N S ns with
   |.error e=>.error e
   |.ok v=>match jI N S F with
    |.error e=>.error e
    |.ok u=>if lst v∈u then .error .inside else if 40<=(dE (j0 S v u (b3 ns))).9 then .error .tooMany else
     if c8 aC N (wW N (lst u)) (8*(cG (j0 S v u (b3 ns)) (b3 F) (lst v)).9)=true then .error .noSpace else
     .ok (if lst u=cO v then putN N (lst u) (bq (cG (j0 S v u (b3 ns)) (b3 F) (lst v)))else putN (putN N (lst u) (bq (cG (j0 S v u (b3 ns)) (b3 F) (lst v)))) (cO v) (bq (dH (S (cO v)) (b3 ns))),
      if lst u=cO v then ja S (lst u) (cG (j0 S v u (b3 ns)) (b3 F) (lst v))else ja (ja S (lst u) (cG (j0 S v u (b3 ns)) (b3 F) (lst v))) (cO v) (dH (S (cO v)) (b3 ns)))
inductive Le(M:cU)(CF:zB0)(X:Er->zB0)(v:qAf)(H:Hp)(Q:VK)(e3:XK):Prop
 |mk(z:FA)(m:M.St)(aC:Nat)(N:NS)(S:SS)(h:HT)(p q:Str)(_:v=[.ref z.a,.str p,.str q])(_:gw M CF H z m aC N h 0)(_:Fz N S)(_:cH p)(_:cH q)(_:∀e,ki aC N S p q=.error e->∀H',aO H H'->e3 (.ref (X e)) none H')(_:∀N' S',ki aC N S p q=.ok (N',S')->∀(H':Hp)(m':M.St),gw M CF H' z m' aC N' h 0->M.Step m H m' H'->Q .bh H')
theorem sj:aA ["self","path","new","names","new_names","old_way","node","new_way","old","parent","old_slots","slots"] ["self","path","new"] (ax SN):=L2.bg
theorem Ig(F:b4 K "move" "Files.move" SN f fd)(T:pP K mg X)(U:ie K CF)(O:M.Ok P w K mg base)(a3:⇑Df 2 "names_of" (zo X))(bi:⇑Df 9 "way_along" (yN M X))(bl:⇑Df 10 "way_to_new" (Fi M X))(a0:↥Df 8 "slots_of" (sg M))(bo:↥Df 1 "slots_without" Jh)(bN:⇑Df 2 "refuse_full" (DC X))(bm:⇑Md 10 CF "put_name" (El M CF X))(bx:↥Df 8 "put_slots" (xw M)):⇑aU 11 f fd ["self","path","new"] (Le M CF X):=by
 show F.gx sj ?_;intros;let#[z,m,aC,N,S,h,p,q,rfl,A0,Z,hp,hq,G,L]:=h;let#[dy,hy]:=A0.ob;unfold ki at G L;show#[_,%[sj,hr,aW,3,F,a3,e,aW,4,F,a3,h,aS,g,l,Y,r,aU,dB,aV,dB,y,aW,5,F,bi,ay,Y,aE,6,v,5,K,aW,7,F,bl,ay,ah,aS,H,kH,6,7,cq,aU,.inside,aV,.inside,y,aE,8,v,5,K,aE,9,v,7,K,aE,10,c,bo,d,c,a0,ay,a,8,a,v,3,K,aE,11,cH,g,9,8,s,10,c,a0,ay,a,9,z,F,bN,a,11,z,bQ,0,U.cl,bm,d,9,d,11,d,v,4,K,a,6,au,f,aF,9,8,s,j,c,bx,ay,d,8,a,10,j,cW,u|9],?_]
 show#[80,λe he H1 s1=>by rw[he]at G;show G e rfl H1 s1,λns a6 H1 l1 s1 f1 e1=>?_];rw[a6]at G L;dsimp only at G L;let#[b1,b2]:=jn hp a6;show#[0,q,rfl,hq,λe he H2 s2=>by rw[he]at G;show G e rfl H2 (s1.trans s2),λI aT H2 l2 s2 f2 e2=>?_];rw[aT]at G L;dsimp only at G L;let#[c1,c2]:=jn hq aT;let ac:=s1.trans s2;show#[0,l1,0,.inl (a9.of (s2 _ _ e1)),9];rw[dM];show cQ (λc=>?_) (λc=>?_)
 .let e:ns=[]:=WN.mp (by have:=V.int.inj (zA0 c);omega);rw[acW e]at G;show#[aE,G _ rfl H2 ac]
 let as:ns≠[]:=λw=>c (by rw[w];show zA1 rfl);rw[acV as]at G L;clear c;show#[7,ac _ _ hy,U.cl,U.nN,74,(A0.same O ac).A,Z,s2 _ _ e1,106,λe he H3 s3=>by rw[he]at G;show G e rfl H3 (ac.trans s3),117];rw[hv]at G L;dsimp only at G L;let T2:=Z.two hv as;let#[_,bF]:=iq as;let#[no,ak,a1]:=bz T2.dir;let ad:=ac.trans s3;show#[22,q3,88,38,T2.Dc,?_];show#[7,ad _ _ hy,U.cl,U.nN,12,S,l2,I,rfl,(A0.same O ad).A,Z,s3 _ _ e2,c1,λx hx=>(c2 x hx).len,λe he H5 s5=>by rw[he]at G;show G e rfl H5 (ad.trans s5),λu hu H5 q5 s5 f5 e5=>?_];rw[hu]at G L;dsimp only at G L;let#[W2,hd,bW,bL]:=oq Z hu;let#[nd,ab,bd]:=bz hd;let#[aP,bR]:=iq bL;let ap:=ad.trans s5;show#[0,0,q5,0,.inl (a9.of e5),rfl,mB _,0,?_];change if rJ (.int (lst v)) (u.map V.int)=true then _ else _
 rw[uo];show cQ (λc=>?_) (λc=>?_)
 .rw[acW (zA0 c)]at G;show#[aE,G _ rfl H5 ap]
 rw[acV (λw=>c (zA1 w))]at G L;show#[0,121,a9.of (s5 _ _ e3),T2.at2,?_];show#[22,q5,_, -1,.int (lst u),1,a9.of e5,gj W2.ne,?_];show#[7,ap _ _ hy,U.cl,U.nN,12,cO v,no,S (cO v),rfl,(A0.same O ap).A,ak,Z.enc _ _ ak a1,27,λH6 q6 ws s6 f6 e6 S6=>?_];let a2:=ap.trans s6;show#[115,a9.of ((s2.trans (s3.trans (s5.trans s6))) _ _ e1),bF,q6,ws,S (cO v),b3 ns,rfl,e6,S6,WK (Z.len _) aE,λH7 q7 aB s7 f7 e7 S7=>?_];let aK:=a2.trans s7;let ml:(j0 S v u (b3 ns)).9<=40:=by
  unfold j0;split
  .rw[gm];show Z.len _
  .show Z.len _
 let mo:∀s∈j0 S v u (b3 ns),∀p,s=some p->okN p.1:=by
  unfold j0;split
  .show LM (Z.ok _)
  .show Z.ok _
 let mn:(dE (j0 S v u (b3 ns))).4:=by
  unfold j0;split
  .rw[pV];show(Z.nd _).filter _
  .show Z.nd _
 let bn:¬ M.own m q7:=λr=>O.live (A0.same O a2).A r f7;unfold f9;dsimp only;change tj _ _ _ _ #v[.ref z.a,.str p,.str q,.ref l1,.ref l2,.ref q3,.int (lst v),.ref q5,.int (cO v),.int (lst u),.ref q7,none] H7;show HN (λσ J=>AO λ(q8:zB0)(aa:qAf)=>Hj (σ=#v[.ref z.a,.str p,.str q,.ref l1,.ref l2,.ref q3,.int (lst v),.ref q5,.int (cO v),.int (lst u),.ref q7,.ref q8]) (aO H7 J) (J q8∣aa) (lN J aa (j0 S v u (b3 ns)))) (λu' jt=>?_) ?_
 .show#[0,0,9];show cQ (λd=>?_) (λd=>?_)
  .let Y:lst u=cO v:=V.int.inj (zA0 d);show#[0,jt _ _ #[q7,aB,rfl,aO.refl _,e7,?_]];unfold j0;rw[acW Y];show S7
  .let Y:¬ lst u=cO v:=λw=>d (zA1 (by rw[w]));show#[7,aK _ _ hy,U.cl,U.nN,12,lst u,nd,S (lst u),rfl,(A0.same O aK).A,ab,Z.enc _ _ ab bd,27,λH8 q8 aa s8 _ e8 S8=>jt _ _ #[q8,aa,rfl,s8,e8,?_]];unfold j0;rw[acV Y];show S8
 rintro σ J ⟨q8,aa,rfl,s8,e8,S8⟩;let a5:=aK.trans s8;show#[0,q8,aa,0,e8,S8,ml,mn,λd1 H9 s9=>by rw[acW d1]at G;show G _ rfl H9 (a5.trans s9),λd1 H9 s9=>?_];rw[acV av]at G L;let aj:=a5.trans s9;let A9:=A0.same O aj;rw[ke ab]at G L;rw[cv ab]at L;show#[15,aj _ _ hy,11,0,22,l2,_, -1,.str (b3 I),1,a9.of ((s3.trans (s5.trans (s6.trans (s7.trans (s8.trans s9))))) _ _ e2),bR,0,34,lst u,nd,q8,aa,_,b3 I,78,A9,ab,s9 _ _ e8,S8.same s9,ml,d1,mo,c2 _ aP,λd2 Ha sa=>by rw[acW d2]at G;show G _ rfl Ha (aj.trans sa),λd2 Ha ma Aa ar=>?_];rw[acV (by rw[d2];nofun)]at L;let bv:Ha q7∣aB:=ar.1 _ _ ((s8.trans s9) _ _ e7) bn;let#[dz,hz]:=Aa.ob;let gl:nb (bq (cG (j0 S v u (b3 ns)) (b3 I) (lst v))).9<=20:=tf (by
  have:=kU (nm:=b3 I) (k:=lst v) d1 ml;rw[cS (dg mo (c2 _ aP))];omega)
 let g1:=oP nd.cs (bq (cG (j0 S v u (b3 ns)) (b3 I) (lst v))) (nb (bq (cG (j0 S v u (b3 ns)) (b3 I) (lst v))).9);dsimp only;show share (λσ J=>AO λ(mb:M.St)(db:Nat)=>Hj (σ[0]?=some (some (.ref z.a))) (gw M CF J z mb aC (if lst u=cO v then cy N (lst u) (some { nd with cs:=bq (cG (j0 S v u (b3 ns)) (b3 I) (lst v)) })else putN (cy N (lst u) (some { nd with cs:=bq (cG (j0 S v u (b3 ns)) (b3 I) (lst v)) })) (cO v) (bq (dH (S (cO v)) (b3 ns)))) h db) (db<=24) (M.Step ma Ha mb J)) (λu' jt=>?_) ?_
 .show#[0,0,9];cases Y:lst u=cO v
  .rw[zA1 (show V.int (lst u)=V.int (cO v)by rw[Y])];show bA (jt _ _ #[ma,0+r9 nd.cs (bq (cG (j0 S v u (b3 ns)) (b3 I) (lst v))) (nb (bq (cG (j0 S v u (b3 ns)) (b3 I) (lst v))).9)+2,3,?_,cU.sm (aO.refl _)])
   .rw[acW Y];show Aa
   .omega
  .rw[zA2 (show ¬ V.int (lst u)=V.int (cO v)from λw=>Y (V.int.inj w))];let a4:cy N (lst u) (some { nd with cs:=bq (cG (j0 S v u (b3 ns)) (b3 I) (lst v)) }) (cO v)=some no:=(by rw[eV (zA3 Y)];show ak);let em:j0 S v u (b3 ns)=S (lst u):=(by unfold j0;rw[acV Y]);let eo:=Z.enc _ _ ak a1;show bU #[0,10,U.cl,U.nN,cF kf,0,0,z.na,ma,aC,2,cO v,no,q7,aB,dH (S (cO v)) (b3 ns),rfl,Aa.A,a4,bv,?_,by rw[gm];show Z.len _,LM (Z.ok _),?_,λHb mb Ab am=>jt _ _ #[mb,0+r9 nd.cs (bq (cG (j0 S v u (b3 ns)) (b3 I) (lst v))) (nb (bq (cG (j0 S v u (b3 ns)) (b3 I) (lst v))).9)+2+r9 no.cs (bq (dH (S (cO v)) (b3 ns))) (nb (bq (dH (S (cO v)) (b3 ns))).9)+2,3,?_,am]]
   .show#[S7.ln,λi x hx=>?_];let#[s,e,a]:=S7.at_ i x hx;show#[s,e,?_];cases s with
    |none=>show a
    |some pr =>
     let#[t,et,ht]:=a;show#[t,et,ar.1 _ _ ((s8.trans s9) _ _ ht) λr=>O.nt A9.A r ((s8.trans s9) _ _ ht)]
   .have:=(O.ok Aa.A).fit;rw[gm,eo,cS (Z.ok _)];omega
   .rw[acV Y,cv a4];show Aa.step O Ab am
   .let g3:r9 nd.cs (bq (cG (j0 S v u (b3 ns)) (b3 I) (lst v))) (nb (bq (cG (j0 S v u (b3 ns)) (b3 I) (lst v))).9)<=1:=by
     rw[em,Z.enc _ _ ab bd];show Hv (Z.ok _) (c2 _ aP)
    let g4:r9 no.cs (bq (dH (S (cO v)) (b3 ns))) (nb (bq (dH (S (cO v)) (b3 ns))).9)<=1:=by
     rw[eo];show HG (Z.ok _) (Z.nd _)
    omega
 .rintro σ J ⟨mb,db,h0,Ab,be,am⟩;let#[dz,hz]:=Ab.ob;let#[dx,fs',ho,_,hm]:=O.ob Ab.A;show#[_,h0,10,U.cl,U.nN,8,z.na,mb,aC,_,0,Ab.A,be,λHc mc Ac a7=>L _ _ rfl Hc mc (Ab.step O Ac a7) (cU.pre aj (cU.tr ar (cU.tr am a7)))]
structure Fy(N:NS)(S:SS):Prop where
 root:bC N 0=true
 enc:∀n nd,N n=some nd->nd.dir=true->nd.cs=bq (S n)
 len:∀n,(S n).9<=40
 ok:∀n,∀s∈S n,∀p,s=some p->okN p.1
 nd:∀n,(dE (S n)).4
 bh:∀n,bC N n=false->S n=[]
 dl:∀n nd,N n=some nd->nd.dir=true->nd.ln=1
 qk:∀n nd,N n=some nd->0<=n/\n<24
variable{N:NS}{S:SS}
def Fz.y(F:Fz N S):Fy N S:=#[F.root,F.enc,F.len,F.ok,F.nd,F.bh,F.dl,F.qk]
variable{n:Int}
theorem Fy.z(F:Fy N S)(h:∀n,(refs S n:Int)+(if n=0 then 1 else 0)<=lk N n):Fz N S:=#[F.root,F.enc,F.len,F.ok,F.nd,F.bh,h,F.dl,F.qk]
variable{k:Int}{x:Node}
theorem lT:bC (cy N n (some x)) k=if k=n then x.dir else bC N k:=by
 unfold bC cy;cases c:k=n
 .rw[acW c,acW c]
 .rw[acV c,acV c]
theorem FV:bC (cy N n none) k=if k=n then false else bC N k:=by
 unfold bC cy;cases c:k=n
 .rw[acW c,acW c]
 .rw[acV c,acV c]
theorem tM:lk (cy N n (some x)) k=if k=n then x.ln else lk N k:=by
 unfold lk cy;cases c:k=n
 .rw[acW c,acW c]
 .rw[acV c,acV c]
def Kc:lk (cy N n none) k=if k=n then 0 else lk N k:=by
 unfold lk cy;cases c:k=n
 .rw[acW c,acW c]
 .rw[acV c,acV c]
variable{nd:Node}
theorem FE(F:N n=some nd)(e:x.dir=nd.dir):bC (cy N n (some x))=bC N:=funext λk=>by
 rw[lT];cases c:k=n
 .rw[acW c,c,cL F,e]
 .rw[acV c]
variable{ss:List Slot}
theorem Fy.sC(F:Fy N S)(I:N n=some nd)(hd:nd.dir=true)(h1:ss.9<=40)(h2:∀s∈ss,∀p,s=some p->okN p.1)(Z:(dE ss).4):Fy (cy N n (some { nd with cs:=bq ss })) (ja S n ss):=by
 let Y:=FE (x:={ nd with cs:=bq ss }) I rfl;show#[by rw[Y];show F.root,λm x G U=>?_,λm=>?_,λm=>?_,λm=>?_,λm L=>?_,λm x G U=>?_,λm x G=>?_]
 .unfold cy at G;cases c:m=n
  .rw[acW c]at G;cases G;rw[c,eU]
  .rw[acV c]at G;rw[c9 c];show F.enc m x G U
 .cases c:m=n
  .rw[c,eU];show h1
  .rw[c9 c];show F.len m
 .cases c:m=n
  .rw[c,eU];show h2
  .rw[c9 c];show F.ok m
 .cases c:m=n
  .rw[c,eU];show Z
  .rw[c9 c];show F.nd m
 .rw[Y]at L;cases c:m=n
  .rw[c,cL I,hd]at L;cases L
  .rw[c9 c];show F.bh m L
 .unfold cy at G;cases c:m=n
  .rw[acW c]at G;cases G;show F.dl n nd I hd
  .rw[acV c]at G;show F.dl m x G U
 .unfold cy at G;cases c:m=n
  .rw[c];show F.qk n nd I
  .rw[acV c]at G;show F.qk m x G
theorem Fy.row(F:Fy N S)(h:bC N n=false)(I:x.dir=false\/(x.cs=[]/\x.ln=1))(n0:0<=n)(Y:n<24):Fy (cy N n (some x)) S:=by
 let sn:=F.bh n h;let Z:¬ n=0:=λw=>(by rwa[w,F.root]at h);show#[by rw[lT,acV (zA3 Z)];show F.root,λm y G L=>?_,F.len,F.ok,F.nd,λm U=>?_,λm y G L=>?_,λm y G=>?_]
 .unfold cy at G;cases c:m=n
  .rw[acW c]at G;cases G;rcases I with I|I
   .rw[I]at L;cases L
   .rw[c,sn,I.1];rfl
  .rw[acV c]at G;show F.enc m y G L
 .cases c:m=n
  .rw[c];show sn
  .rw[lT,acV c]at U;show F.bh m U
 .unfold cy at G;cases c:m=n
  .rw[acW c]at G;cases G;rcases I with I|I
   .rw[I]at L;cases L
   .show I.2
  .rw[acV c]at G;show F.dl m y G L
 .unfold cy at G;cases c:m=n
  .rw[c];show#[n0,Y]
  .rw[acV c]at G;show F.qk m y G
theorem Fy.fin(F:Fy N S)(h:¬ n=0):Fy (cy N n none) (ja S n []):=by
 show#[by rw[FV,acV (zA3 h)];show F.root,λm y G I=>?_,λm=>?_,λm=>?_,λm=>?_,λm L=>?_,λm y G I=>?_,λm y G=>?_]
 .unfold cy at G;cases c:m=n
  .rw[acW c]at G;cases G
  .rw[acV c]at G;rw[c9 c];show F.enc m y G I
 .cases c:m=n
  .rw[c,eU];show Xr _
  .rw[c9 c];show F.len m
 .cases c:m=n
  .rw[c,eU];show λs hs=>by cases hs
  .rw[c9 c];show F.ok m
 .cases c:m=n
  .rw[c,eU];show Xj
  .rw[c9 c];show F.nd m
 .cases c:m=n
  .rw[c,eU]
  .rw[c9 c];rw[FV,acV c]at L;show F.bh m L
 .unfold cy at G;cases c:m=n
  .rw[acW c]at G;cases G
  .rw[acV c]at G;show F.dl m y G I
 .unfold cy at G;cases c:m=n
  .rw[acW c]at G;cases G
  .rw[acV c]at G;show F.qk m y G
def Ey(h:S n=[]):ja S n []=S:=funext λm=>by
 cases c:m=n
 .rw[c,eU,h]
 .rw[c9 c]
theorem Fy.RB(F:Fy N S)(h:bC N n=false):Fy (cy N n none) S:=by
 have:=F.fin (n:=n) λw=>by rwa[w,F.root]at h
 (rw[Ey (F.bh n h)]at this;assumption)
theorem Fz.cG(F:Fz N S)(hd:bC N n=true){nm:Str}(h1:(dE (S n)).9<40)(h2:okN nm)(G:nm∉dE (S n)):(cG (S n) nm k).9<=40/\(∀s∈cG (S n) nm k,∀p,s=some p->okN p.1)/\(dE (cG (S n) nm k)).4 :=
 #[kU h1 (F.len n),dg (F.ok n) h2,(zZ _ _ _).nodup_iff.mpr (Wq.mpr #[G,F.nd n])]
theorem Fz.dH(F:Fz N S)(nm:Str):(dH (S n) nm).9<=40/\(∀s∈dH (S n) nm,∀p,s=some p->okN p.1)/\(dE (dH (S n) nm)).4 :=
 #[by rw[gm];show F.len n,LM (F.ok n),by rw[pV];show(F.nd n).filter _]
variable{aC:Nat}{p:Str}{N':NS}{S':SS}
theorem JF{u:Int}{kd:Bool}(F:Fz N S)(hp:cH p)(h:jw aC N S p kd=.ok (u,N',S')):Fz N' S':=by
 unfold jw at h;cases U:gf p with
 |error e=>rwa[U]at h
 |ok ns =>
  rw[U]at h;dsimp only at h;cases Y:jI N S ns with
  |error e=>rwa[Y]at h
  |ok v =>
   rw[Y]at h;dsimp only at h;let#[W,hd,ab,ac]:=oq F Y;let#[nd,G,aa]:=bz hd;let#[ad,_]:=iq ac;let Z:=(jn hp U).2 _ ad;cases c:40<=(dE (S (lst v))).9
   .rw[acW c]at h;cases h
   rw[acV c]at h;cases e3:sG N 24 with
   |nil=>rwa[e3]at h
   |cons x r =>
    rw[e3]at h;dsimp only at h;let#[L,x0,x1]:=Ay e3;cases c2:c8 aC N (wW N (lst v)) (8*(Fs.cG (S (lst v)) (b3 ns) x).9)=true
    .rw[acW c2]at h;cases h
    rwa[acV c2,cv G]at h;let#[g1,g2,g3]:=F.cG (k:=u) hd av Z ab;let F1:=F.y.sC G aa g1 g2 g3;let un:¬ u=lst v:=λw=>(by rwa[w,G]at L);let hu:bC (cy N (lst v) (some { nd with cs:=bq (Fs.cG (S (lst v)) (b3 ns) u) })) u=false:=by
     rw[lT,acV un];unfold bC;rw[L]
    let F2:=F1.row (x:=#[101]) hu (.inr #[1]) x0 av;show F2.z λm=>?_;let#[n0,n1]:=F.oX hd;let a:=gY S (Fs.cG (S (lst v)) (b3 ns) u) m n0 n1;rw[uP]at a;let b:=F.rf m;rw[tM,tM];cases d:m=u
    .let b0:lk N u=0:=(by unfold lk;rw[L]);rw[acW d];rw[d]at a b ⊢;rw[acW rfl]at a;change _<=(1:Int);omega
    .rw[acV (zA3 d)]at a;rw[acV d];cases I:m=lst v
     .rw[acW I];rw[I,fi G]at b;rw[I]at a ⊢;change _<=nd.ln;omega
     .rw[acV I];omega
theorem jb(F:N n=some nd)(cs:qAa):lk (cy N n (some { nd with cs:=cs }))=lk N:=funext λm=>by
 rw[tM];cases c:m=n
 .rw[acW c,c,fi F]
 .rw[acV c]
variable{q:Str}
theorem HE(F:Fz N S)(hp:cH p)(hq:cH q)(h:j8 aC N S p q=.ok (N',S')):Fz N' S':=by
 unfold j8 at h;cases Z:gf p with
 |error e=>rwa[Z]at h
 |ok ns =>
 rw[Z]at h;dsimp only at h;cases Y:gf q with
 |error e=>rwa[Y]at h
 |ok I =>
 rw[Y]at h;dsimp only at h;cases e3:cI N S ns with
 |error e=>rwa[e3]at h
 |ok v =>
 rw[e3]at h;dsimp only at h;cases c:bC N (lst v)=true
 .rw[acW c]at h;cases h
 rw[acV c]at h;cases U:jI N S I with
 |error e=>rwa[U]at h
 |ok w =>
 rw[U]at h;dsimp only at h;let#[W,hd,aj,ak]:=oq F U;let#[nd,L,ad]:=bz hd;let#[am,_]:=iq ak;let ab:=(jn hq Y).2 _ am;let#[x,G]:=(F.way e3).last;let aa:=F.qk _ _ G;cases c2:40<=(dE (S (lst w))).9
 .rw[acW c2]at h;cases h
 rw[acV c2]at h;cases c3:c8 aC N (wW N (lst w)) (8*(cG (S (lst w)) (b3 I) (lst v)).9)=true
 .rw[acW c3]at h;cases h
 let un:¬ lst v=lst w:=λz=>c (z▸hd);let ac:cy N (lst w) (some { nd with cs:=bq (cG (S (lst w)) (b3 I) (lst v)) }) (lst v)=some x:=(by rw[eV un];show G);rwa[acV c3,cv L,kL ac]at h;let#[g1,g2,g3]:=F.cG (k:=lst v) hd av ab aj;let F1:=F.y.sC L ad g1 g2 g3;let dx:x.dir=false:=(by rw[<-cL G];show W0.mpr c);let F2:=F1.row (x:={ x with ln:=x.ln+1 }) (n:=lst v) (by rw[lT,acV un];show W0.mpr c) (.inl dx) aa.1 aa.2;show F2.z λm=>?_;let#[n0,n1]:=F.oX hd;let a:=gY S (cG (S (lst w)) (b3 I) (lst v)) m n0 n1;rw[uP]at a;let b:=F.rf m;rw[tM,jb L];cases d:m=lst v
 .rw[acW d.6]at a;rw[acW d];rw[d,fi G]at b;rw[d]at a ⊢;change _<=x.ln+1;omega
 .rw[acV (zA3 d)]at a;rw[acV d];omega
theorem B0{h:HT}(F:Fz N S)(G:hU N S h p=.ok (N',S')):Fz N' S':=by
 unfold hU at G;cases Y:gf p with
 |error e=>rwa[Y]at G
 |ok ns =>
 rw[Y]at G;dsimp only at G;cases e3:cI N S ns with
 |error e=>rwa[e3]at G
 |ok v =>
 rw[e3]at G;dsimp only at G;cases c:bC N (lst v)=true
 .rw[acW c]at G;cases G
 let ac:ns≠[]:=λw=>by
  rwa[w]at e3;show c F.root
 let U:=F.two e3 ac;let#[nd,L,ab]:=bz U.dir;let#[x,I]:=(F.way e3).last;let Z:=F.qk _ _ I;let un:¬ lst v=cO v:=λz=>c (z▸U.dir);let aa:cy N (cO v) (some { nd with cs:=bq (dH (S (cO v)) (b3 ns)) }) (lst v)=some x:=(by rw[eV un];show I);rw[acV c,cv L,kL aa,fi I]at G;let#[g1,g2,g3]:=F.dH (n:=cO v) (b3 ns);let F1:=F.y.sC L ab g1 g2 g3;let dx:x.dir=false:=(by rw[<-cL I];show W0.mpr c);let F2:=F1.row (x:={ x with ln:=x.ln + -1 }) (n:=lst v) (by rw[lT,acV un];show W0.mpr c) (.inl dx) Z.1 Z.2;let#[n0,n1]:=F.oX U.dir;let ra:∀m,(refs (ja S (cO v) (dH (S (cO v)) (b3 ns))) m:Int)+(if m=0 then 1 else 0)<=(if m=lst v then x.ln-1 else lk N m):=λm=>by
  let a:=gY S (dH (S (cO v)) (b3 ns)) m n0 n1;let b:=F.rf m;cases d:m=lst v
  .let e:=vM U.fG;rw[acW d];rw[d,fi I]at b;rw[d]at a ⊢;omega
  .let e:=jy (S (cO v)) (b3 ns) m;rw[acV d];omega
 cases c2:x.ln=1/\look h (lst v)=none
 .rw[acW c2]at G;cases G;let F3:=F2.RB (n:=lst v) (by rw[lT,acW rfl];show dx);show F3.z λm=>?_;let r:=ra m;rw[Kc];cases d:m=lst v
  .rw[acW d]at r ⊢;omega
  .rw[acV d]at r ⊢;rw[tM,acV d,jb L];show r
 .rw[acV c2]at G;cases G;show F2.z λm=>?_;let r:=ra m;rw[tM,jb L];cases d:m=lst v
  .rw[acW d]at r ⊢;show r
  .rw[acV d]at r ⊢;show r
theorem CM(F:Fz N S)(h:hG N S p=.ok (N',S')):Fz N' S':=by
 unfold hG at h;cases Y:gf p with
 |error e=>rwa[Y]at h
 |ok ns =>
 rw[Y]at h;dsimp only at h;cases e3:cI N S ns with
 |error e=>rwa[e3]at h
 |ok v =>
 rw[e3]at h;dsimp only at h;cases c:bC N (lst v)=true
 case neg=>rwa[acV c]at h
 rw[acW c]at h;cases c2:lst v=0
 .rw[acW c2]at h;cases h
 rw[acV c2]at h;cases L:0<(dE (S (lst v))).9
 .rw[acW L]at h;cases h
 let ab:ns≠[]:=λw=>by
  rwa[w]at e3;show c2 rfl
 let G:=F.two e3 ab;let#[nd,I,aa]:=bz G.dir;let#[x,U]:=(F.way e3).last;let n0:dE (S (lst v))=[]:=WN.mp (YX L);let un:¬ lst v=cO v:=λz=>by
  let q:=G.fG;rw[<-z]at q;have:b3 ns∈dE (S (lst v)):=WJ λr=>(by rwa[(g6 _ _).mpr r]at q);rwa[n0]at this
 rwa[acV L,cv I]at h;let#[g1,g2,Z]:=F.dH (n:=cO v) (b3 ns);let F1:=F.y.sC I aa g1 g2 Z;let F2:=F1.fin (n:=lst v) c2;show F2.z λm=>?_;let#[p0,p1]:=F.oX G.dir;let#[q0,q1]:=F.oX c;let a:=gY S (dH (S (cO v)) (b3 ns)) m p0 p1;let a2:=gY (ja S (cO v) (dH (S (cO v)) (b3 ns))) [] m q0 q1;let z0:cn [] m=0:=rfl;let b:=F.rf m;let e:=jy (S (cO v)) (b3 ns) m;rw[Kc];cases d:m=lst v
 .let e2:=vM G.fG;let l1:=F.dl _ _ U (by rw[<-cL U];show c);rw[d,fi U,l1]at b;rw[acW d];rw[d]at a a2 z0 e ⊢;rw[acV c2]at b ⊢;omega
 .rw[acV d,jb I];omega
theorem HL(F:Fz N S)(G:N n=some nd)(hd:nd.dir=false)(cs:qAa):Fz (cy N n (some { nd with cs:=cs })) S:=by
 let I:=F.qk _ _ G;show(F.y.row (x:={ nd with cs:=cs }) (by rw[cL G];show hd) (.inl hd) I.1 I.2).z λm=>?_;rw[jb G];show F.rf m
variable{cs:qAa}
theorem EZ(F:Fz N S)(G:N n=some nd)(hd:nd.dir=false)(h:rh aC N n cs=.ok N'):Fz N' S:=by
 unfold rh at h;split at h
 .cases h
 .cases h;rw[cv G];show HL F G hd cs
theorem E7{a:Int}(F:Fz N S)(h:jk aC N n a cs=.ok N'):Fz N' S:=by
 unfold jk at h;cases e:ze N n with
 |some r=>rwa[e]at h
 |none =>
  rw[e]at h;dsimp only at h;let#[nd,G,hd]:=yk e;split at h
  .split at h
   .split at h
    .cases h;show F
    .show EZ F G hd h
   .cases h
  .cases h
theorem JP(F:Fz N S)(hp:cH p)(hq:cH q)(h:ki aC N S p q=.ok (N',S')):Fz N' S':=by
 unfold ki at h;cases e1:gf p with
 |error e=>rwa[e1]at h
 |ok ns =>
 rw[e1]at h;dsimp only at h;cases e2:gf q with
 |error e=>rwa[e2]at h
 |ok G =>
 rw[e2]at h;dsimp only at h;cases aa:ns=[]
 .rw[acW aa]at h;cases h
 rw[acV aa]at h;cases e3:cI N S ns with
 |error e=>rwa[e3]at h
 |ok v =>
 rw[e3]at h;dsimp only at h;cases Y:jI N S G with
 |error e=>rwa[Y]at h
 |ok u =>
 rw[Y]at h;dsimp only at h;cases c1:lst v∈u
 .rw[acW c1]at h;cases h
 rw[acV c1]at h;cases c2:40<=(dE (j0 S v u (b3 ns))).9
 .rw[acW c2]at h;cases h
 rw[acV c2]at h;cases c3:c8 aC N (wW N (lst u)) (8*(cG (j0 S v u (b3 ns)) (b3 G) (lst v)).9)=true
 .rw[acW c3]at h;cases h
 rw[acV c3]at h;let#[W,hd,Z,aj]:=oq F Y;let#[nd,I,ac]:=bz hd;let#[am,_]:=iq aj;let ab:=(jn hq e2).2 _ am;let T2:=F.two e3 aa;let#[no,ap,ak]:=bz T2.dir;let#[o0,o1]:=F.oX T2.dir;let#[u0,u1]:=F.oX hd;let ec:=vM T2.fG;let#[g1,g2,g3]:=F.dH (n:=cO v) (b3 ns);cases c:lst u=cO v
 .let L:j0 S v u (b3 ns)=dH (S (cO v)) (b3 ns):=(by unfold j0;rw[acW c]);rw[acW c,acW c,L,cv I]at h;rw[L]at c2;cases h;let ad:b3 G∉dE (dH (S (cO v)) (b3 ns)):=λz=>by
   rw[pV]at z;rw[c]at Z;show Z (WA.mp z).1
  let F1:=F.y.sC I ac (ss:=cG (dH (S (cO v)) (b3 ns)) (b3 G) (lst v)) (kU av g1) (dg g2 ab) ((zZ _ _ _).nodup_iff.mpr (Wq.mpr #[ad,g3]));show F1.z λm=>?_;let a:=gY S (cG (dH (S (cO v)) (b3 ns)) (b3 G) (lst v)) m u0 u1;rw[uP,c]at a;let b:=F.rf m;let e:=jy (S (cO v)) (b3 ns) m;rw[jb I,c];cases d:lst v=m
  .rw[acW d]at a;rw[d]at ec;omega
  .rw[acV d]at a;omega
 .let L:j0 S v u (b3 ns)=S (lst u):=(by unfold j0;rw[acV c]);let U:cy N (lst u) (some { nd with cs:=bq (cG (S (lst u)) (b3 G) (lst v)) }) (cO v)=some no:=(by rw[eV (zA3 c)];show ap);rw[acV c,acV c,L,cv I,cv U]at h;rw[L]at c2;cases h;let#[k1,k2,k3]:=F.cG (k:=lst v) hd av ab Z;let F1:=F.y.sC I ac k1 k2 k3;let F2:=F1.sC U ak g1 g2 g3;show F2.z λm=>?_;let a:=gY S (cG (S (lst u)) (b3 G) (lst v)) m u0 u1;rw[uP]at a;let a2:=gY (ja S (lst u) (cG (S (lst u)) (b3 G) (lst v))) (dH (S (cO v)) (b3 ns)) m o0 o1;rw[c9 (zA3 c)]at a2;let b:=F.rf m;let e:=jy (S (cO v)) (b3 ns) m;rw[jb U,jb I];cases d:lst v=m
  .rw[acW d]at a;rw[d]at ec;omega
  .rw[acV d]at a;omega
abbrev iC:=Str×Int
def yO(x:iC)(ss:List Slot):List iC:=ss.filterMap λs=>s.map λq=>(x.1++SL++q.1,q.2)
def kc(S:SS)(x:iC):List iC:=yO x (S x.2)
noncomputable def qF(N:NS)(S:SS)(a:List iC×List iC):List iC×List iC:=match a.2.getLast? with
 |none=>a
 |some x=>(a.1++kc S x,a.2.dropLast++(kc S x).filter λq=>bC N q.2)
noncomputable def Kn(N:NS)(S:SS):Nat->List iC×List iC
 |0=>([],[("",0)])
 |i+1=>qF N S (Kn N S i)
theorem wN(x:iC)(s:Slot)(ss:List Slot):yO x (s::ss)=(match s with|none=>[]|some q=>[(x.1++SL++q.1,q.2)])++yO x ss:=by
 unfold yO;rw[Yp];cases s<;>rfl
theorem uC(x:iC):∀ss:List Slot,(yO x ss).map (·.1)=(dE ss).map λn=>x.1++SL++n
 | []=>rfl
 |s::ss=>by
  rw[wN,cu,yl,yl,uC x ss];cases s<;>rfl
theorem pQ(x:iC)(c:Int):∀ss:List Slot,((yO x ss).map (·.2)).count c=cn ss c
 | []=>rfl
 |s::ss=>by
  rw[wN,hV,yl,ab5,pQ x c ss];cases s with
  |none=>change 0+_=_+0;omega
  |some q =>
   change List.count c [q.2]+_=_+(if decide (q.2=c)=true then 1 else 0);rw[Y9,List.count_nil];cases z:q.2=c
   .rw[acW (by rw[z];show beq_self_eq_true c),acW (zA1 z)];omega
   .rw[acV (λw=>z (eq_of_beq w)),acV (λw=>z (zA0 w))];omega
theorem Aw(N:NS)(c:Int):∀l:List iC,((l.filter λq=>bC N q.2).map (·.2)).count c=if bC N c=true then(l.map (·.2)).count c else 0
 | []=>by split<;>rfl
 |q::l=>by
  let F:=Aw N c l;cases z:bC N q.2=true
  .rw[WO (p:=λq:iC=>bC N q.2) z,Wy,Wy,Y9,Y9,F];cases y:bC N c=true
   .rw[acW y,acW y]
   .rw[acV y,acV y,acV (λw=>y (by rw[<-eq_of_beq w];show z))]
  .rw[WQ (p:=λq:iC=>bC N q.2) z,F,Wy,Y9];cases y:bC N c=true
   .rw[acW y,acW y,acV (λw=>z (by rw[eq_of_beq w];show y))];omega
   .rw[acV y,acV y]
theorem Pp{a b c d:List Nat}(h:a++47::b=c++47::d)(I:47∉b)(hd:47∉d):a=c/\b=d:=by
 rcases ZU.mp h with⟨e,h1,h2⟩|⟨e,h1,h2⟩
 .cases e with
  |nil =>
   rw[Wt]at h1;injection h2 with _ h2;show#[h1.6,h2]
  |cons x e =>
   injection h2 with G F;show absurd (by rw[F];show By _ Wn) I
 .cases e with
  |nil =>
   rw[Wt]at h1;injection h2 with _ h2;show#[h1,h2.6]
  |cons x e =>
   injection h2 with G F;show absurd (by rw[F];show By _ Wn) hd
def bZ(a b:Str):(a++b).cps.7=a.cps.7++b.cps.7:=abl
variable{n:Str}
def MW(h:okN n):47∉n.cps.7:=λz=>by have:=h.lt 47 z;omega
def eE{a b:Str}(h:a.cps.7=b.cps.7):a=b:=by
 cases a;cases b;show congrArg Str.mk (acg.mp h)
theorem kI{x y m:Str}(G:okN n)(F:okN m)(h:x++SL++n=y++SL++m):x=y/\n=m:=by
 let e:(x++SL++n).cps.7=(y++SL++m).cps.7:=(by rw[h]);rw[bZ,bZ,bZ,bZ,show SL.cps.7=[47]by decide +kernel,WI,WI]at e;let#[h1,h2]:=Pp e (MW G) (MW F);show#[eE h1,eE h2]
def DS(h:∀s∈ss,∀p,s=some p->okN p.1)(F:n∈dE ss):okN n:=by
 let#[s,hs,e]:=Yd.mp F;let#[p,G,rfl]:=HC.mp e;show h s hs p G
theorem F9(F:Fz N S)(x:iC):((kc S x).map (·.1)).4:=by
 unfold kc;rw[uC];let ok:=λn I=>DS (n:=n) (F.ok x.2) I;let nd:=F.nd x.2;generalize dE (S x.2)=l at *
 induction l with
 |nil=>show Xj
 |cons n l L =>
  rw[Wq]at nd;rw[Wy,Wq];show#[130,L (λm G=>ok m (Wm _ G)) nd.2];let#[m,G,e]:=z4.mp z;have:=(kI (ok m (Wm _ G)) (ok n Wn) e).2;show nd.1 (this▸G)
variable{x:iC}
theorem mZ(F:Fz N S)(h:p∈(kc S x).map (·.1)):∃n,okN n/\p=x.1++SL++n:=by
 unfold kc at h;rw[uC]at h;let#[n,G,rfl]:=z4.mp h;show#[n,DS (F.ok x.2) G,rfl]
theorem zw{N:NS}{S:SS}(F:Fz N S):∀{pv:List iC},(pv.map (·.1)).4->(((pv.map (kc S)).11).map (·.1)).4/\∀p∈((pv.map (kc S)).11).map (·.1),∃x∈pv,∃n,okN n/\p=x.1++SL++n
 | [],_=>#[Xj,134]
 |x::pv,nd=>by
  rw[Wy,Wq]at nd;let#[h1,h2]:=zw F nd.2;rw[Wy,XZ,yl];show#[Wl.mpr #[F9 F x,h1,λa U b Y e=>?_],λp G=>?_]
  .let#[n,I,rfl]:=mZ F U;let#[y,L,m,Z,e2]:=h2 b Y;have:=(kI I Z (e.trans e2)).1;show nd.1 (z4.mpr #[y,L,this.6])
  .rcases Wf.mp G with G|G
   .let#[n,I,e]:=mZ F G;show#[x,Wn,n,I,e]
   .let#[y,L,q]:=h2 p G;show#[y,Wm _ L,q]
structure Wk(N:NS)(S:SS)(i:Nat)(pv met ahead:List iC):Prop where
 eq:Kn N S i=(met,ahead)
 ln:pv.9=i
 mt:met=(pv.map (kc S)).11
 pn:((pv++ahead).map (·.1)).4
 pm:∀y∈pv++ahead,y.1 = "" \/ y.1∈met.map (·.1)
 nn:((pv++ahead).map (·.2)).4
 dn:∀y∈pv++ahead,bC N y.2=true
 fr:∀y∈pv++ahead,y.2=0\/∃v∈pv,1<=cn (S v.2) y.2
 le:∀y∈pv++ahead,y.1.9<=7*i
theorem Fz.Ow(F:Fz N S):Wk N S 0 [] [] [("",0)]:=#[1,rfl,Wq.mpr #[λh=>(by cases h),Xj],λy h=>by rw[sx.mp h];show .inl rfl,Wq.mpr #[λh=>(by cases h),Xj],λy h=>by rw[sx.mp h];show F.root,λy h=>by rw[sx.mp h];show .inl rfl,λy h=>by rw[sx.mp h];show G0 _]
variable{i:Nat}{pv met ahead:List iC}
theorem Wk.lt(W:Wk N S i pv met ahead)(F:Fz N S):i+ahead.9<=24:=by
 have:=OA 24 0 ((pv++ahead).map (·.2)) W.nn λx I=>by
  let#[y,G,rfl]:=z4.mp I;have:=F.oX (W.dn y G);omega
 rw[dM,ti,W.ln]at this;show this
theorem Wk.VJ(W:Wk N S i pv met ahead)(F:Fz N S):(met.map (·.1)).4:=by
 have:(pv.map (·.1)).4:=by
  have:=W.pn;rw[yl]at this;show(Wl.mp this).1
 rw[W.mt];show(zw F this).1
theorem Wk.QM(W:Wk N S i pv met ahead)(F:Fz N S):met.9<=40*i:=by
 rw[W.mt, <-W.ln];generalize pv=l
 induction l with
 |nil=>show Xr _
 |cons x l G =>
  rw[Wy,XZ,ti,WG];have:(kc S x).9<=40:=WK (X6 ..) (F.len x.2);omega
theorem Wk.next{b:List iC}(W:Wk N S i pv met (b++[x]))(F:Fz N S):Wk N S (i+1) (pv++[x]) (met++kc S x) (b++(kc S x).filter λq=>bC N q.2):=by
 let hx:x∈pv++(b++[x]):=By _ (By _ (sx.mpr rfl));let dx:=W.dn x hx;let#[x0,x1]:=F.oX dx;let re:∀y,y∈(pv++[x])++(b++(kc S x).filter λq=>bC N q.2)↔y∈pv++(b++[x])\/y∈(kc S x).filter λq=>bC N q.2:=λy=>by
  simp only[Wf,sx];constructor
  .rintro((h|h)|(h|h))
   .show .inl (.inl h)
   .show .inl (.inr (.inr h))
   .show .inl (.inr (.inl h))
   .show .inr h
  .rintro((h|(h|h))|h)
   .show .inl (.inl h)
   .show .inr (.inl h)
   .show .inl (.inr h)
   .show .inr (.inr h)
 let perm:((pv++[x])++(b++(kc S x).filter λq=>bC N q.2)).Perm ((pv++(b++[x]))++(kc S x).filter λq=>bC N q.2):=by
  rw[WI,WI];show aaL pv ?_;rw[<-WI];show List.Perm.append_right _ (XQ)
 let I:∀y∈(kc S x).filter (λq=>bC N q.2),y∈kc S x/\bC N y.2=true:=λy G=>WA.mp G;let cnt:∀y∈kc S x,1<=cn (S x.2) y.2:=λy G=>by
  rw[<-pQ x];show abH.mpr (z4.mpr #[y,G,rfl])
 let aa:∀c,bC N c=true->lk N c=1:=λc L=>by
  let#[nd,h1,h2]:=bz L;rw[fi h1,F.dl _ _ h1 h2]
 show#[?_,by rw[ti,W.ln];rfl,by rw[yl,Yt, <-W.mt];change _=met++(kc S x++[]);rw[Wt],?_,λy G=>?_,?_,λy G=>?_,λy G=>?_,λy G=>?_]
 .change qF N S (Kn N S i)=_;rw[W.eq];unfold qF;dsimp only;rw[Zn,XI];rfl
 .rw[(perm.map (·.1)).nodup_iff,yl,Wl];show#[W.pn,(F9 F x).sublist ((Ya).map _),λa ha c L e=>?_];let#[y,G,rfl]:=z4.mp ha;let#[q,Y,rfl]:=z4.mp L;let#[n,Z,e2]:=mZ F (z4.mpr #[q,(I q Y).1,rfl]);rcases W.pm y G with h|h
  .rw[h]at e;have:("" : Str).cps.7=(x.1++SL++n).cps.7:=(by rw[e.trans e2]);rw[bZ,bZ,show SL.cps.7=[47]by decide +kernel,show("" : Str).cps.7=[]by decide +kernel]at this;simp at this
  .rw[e,e2,W.mt]at h;let pn:=W.pn;rw[yl]at pn;let#[p1,_,p3]:=Wl.mp pn;let#[z,hz,m,hm,e3]:=(zw F p1).2 _ h;show p3 z.1 (z4.mpr #[z,hz,rfl]) x.1 (z4.mpr #[x,57,rfl]) (kI Z hm e3).1.symm
 .rw[yl];rcases(re y).mp G with h|h
  .show(W.pm y h).imp id λz=>Wg _ z
  .show .inr (By _ (z4.mpr #[y,(I y h).1,rfl]))
 .rw[(perm.map (·.2)).nodup_iff,yl,Wl];show#[W.nn,List.nodup_iff_count.mpr λc=>?_,λa ha c L e=>?_]
  .rw[Aw];cases z:bC N c=true
   .rw[acW z];let h1:((kc S x).map (·.2)).count c=cn (S x.2) c:=pQ x c _;let h2:=nY S c x0 x1;let h3:=F.rf c;let h4:=aa c z;have:(0:Int)<=(if c=0 then 1 else 0):=(by split<;>decide);omega
   .rw[acV z];show Xr _
  .let#[y,G,rfl]:=z4.mp ha;let#[q,Y,rfl]:=z4.mp L;let h1:=cnt q (I q Y).1;let h2:=nY S q.2 x0 x1;let h3:=F.rf q.2;let h4:=aa q.2 (I q Y).2;rcases W.fr y G with h|⟨v,U,h⟩
   .rw[acW (by rw[<-e];show h)]at h3;omega
   .rw[e]at h;let dv:=W.dn v (Wg _ U);let#[v0,v1]:=F.oX dv;let nn:=W.nn;rw[yl]at nn;let ne:¬ v.2=x.2:=(Wl.mp nn).2.2 _ (z4.mpr #[v,U,rfl]) _ (z4.mpr #[x,57,rfl]);have:=Gv S q.2 v0 v1 x0 x1 ne;have:(0:Int)<=(if q.2=0 then 1 else 0):=(by split<;>decide);omega
 .rcases(re y).mp G with h|h
  .show W.dn y h
  .show(I y h).2
 .rcases(re y).mp G with h|h
  .show(W.fr y h).imp id λ⟨v,U,q⟩=>#[v,Wg _ U,q]
  .show .inr #[x,57,cnt y (I y h).1]
 .rcases(re y).mp G with h|h
  .have:=W.le y h;omega
  .let#[n,Z,e]:=mZ F (z4.mpr #[y,(I y h).1,rfl]);rw[e,len_app,len_app,show SL.9=1 by decide +kernel];have:=W.le x hx;have:n.9<=6:=Z.hi;omega
noncomputable def uh(N:NS)(S:SS):List iC:=(Kn N S 24).1
theorem Ji(j:Nat):(h:(Kn N S i).2=[])->Kn N S (i+j)=Kn N S i:=by
 induction j with
 |zero=>show λ_=>rfl
 |succ j F =>
  intro h;change qF N S (Kn N S (i+j))=_;rw[F h];unfold qF;rw[h];rfl
theorem Wk.done(W:Wk N S i pv met [])(F:Fz N S):met=uh N S:=by
 let l:=W.lt F;rw[abE]at l;unfold uh;have:=Ji (N:=N) (S:=S) (i:=i) (24-i) (by rw[W.eq]);rw[show i+(24-i)=24 by omega]at this;rw[this,W.eq]
end Fs
namespace L2
open PySem
variable{H:Hp}{ws:qAf}{ps:List (Str×Int)}
theorem lD.same{H':Hp}(A:lD H ws ps)(o:∀t ys,H t|||ys->H' t|||ys):lD H' ws ps:=#[A.ln,λi v h=>by
 let#[p,t,e,F,e3]:=A.at_ i v h;show#[p,t,e,F,o _ _ e3]]
def lD.nil:lD H [] []:=#[109]
variable{us:qAf}
theorem lD.app{qs:List (Str×Int)}(A:lD H ws ps)(B:lD H us qs):lD H (ws++us) (ps++qs):=by
 let l:=A.ln;show#[by rw[ti,ti,l,B.ln],λi v h=>?_];cases c:i<ws.9
 .rw[Wj c]at h;let#[p,t,e,q]:=A.at_ i v h;show#[p,t,123,q]
 .rw[Wb av]at h;let#[p,t,e,q]:=B.at_ _ v h;show#[p,t,by rw[Wb av, <-l];show e,q]
theorem lD.one{t:zB0}{p:Str×Int}(h:H t|||[.str p.1,.int p.2]):lD H [.ref t] [p]:=#[rfl,λi v e=>by
 cases i with
 |zero=>cases e;show#[p,t,1,h]
 |succ i=>cases e]
theorem lD.last{v:V}{b:List (Str×Int)}{x:Str×Int}(A:lD H ws (b++[x])):∃us t,ws=us++[.ref t]/\lD H us b/\H t|||[.str x.1,.int x.2]:=by
 let l:=A.ln;rw[ti,NC]at l;let ne:ws≠[]:=λz=>(by rw[z]at l;simp at l);obtain⟨us,y,rfl⟩:∃us y,ws=us++[y]:=#[2,(Ww ne).6];rw[ti,NC]at l;let#[p,t,e,rfl,F]:=A.at_ us.9 y (by rw[Wb (G0 _),X2];rfl);rwa[Wb av,show us.9-b.9=0 by omega]at e;show#[us,t,rfl,#[av,λi v h=>?_],F];let hi:=(u4.mp h).1;let#[p,G,e,q]:=A.at_ i v (by rw[Wj hi];show h);rw[Wj av]at e;show#[p,G,e,q]
theorem lD.upd{l:zB0}{xs:qAf}{o:HO}(A:lD H ws ps)(h:H l∣xs):lD (L2.upd H l o) ws ps:=A.same λt ys e=>by
 rw[ay (λz=>by rwa[z,h]at e)];show e
end L2
namespace Fs
open PySem L2 Dk Tb Srt
inductive MJ(M:cU)(v:qAf)(H:Hp)(Q:VK)(e:XK):Prop
 |mk(a:zB0)(m:M.St)(aC d:Nat)(N:NS)(S:SS)(t:zB0)(x:iC)(_:v=[.ref a,.ref t])(_:M.At H a m aC N d)(_:Fz N S)(_:H t|||[.str x.1,.int x.2])(_:bC N x.2=true)(_:x.1.9<=1000)(_:∀(H':Hp)(q:zB0)(ws:qAf),aO H H'->H q=none->H' q∣ws->lD H' ws (kc S x)->Q (.ref q) H')
variable{H H':Hp}
def iV(s:aO H H'):∀t ys,H t|||ys->H' t|||ys:=λ_ _ e=>s _ _ e
noncomputable def QR(x:iC)(s:Slot):List iC:=match s with
 |none=>[]
 |some q=>[(x.1++SL++q.1,q.2)]
def EK(x:iC)(ss:List Slot)(s:Slot):yO x (ss++[s])=yO x ss++QR x s:=by
 unfold yO;rw[aaK];cases s<;>rfl
abbrev Nz:Wo:=top 63
abbrev Ua:Wo:=top 64
def Pm:aA ["nodes","step"] ["nodes","step"] (ax Nz):=L2.bg
variable{M:cU}
theorem rW(F:b4 K "steps_within" "steps_within" Nz f fd)(O:M.Ok P w K mg base)(ad:↥Df 8 "slots_of" (sg M)):↥aU 9 f fd ["nodes","step"] (MJ M):=by
 show F.dg Pm ?_;intros;let#[a,m,aC,d,N,S,t,x,rfl,A1,Z,ht,hd,lx,kQ]:=h;let hs:=DD;let#[nd,L,aj]:=bz hd;show#[_,%[0,hr,b,P,(de (cl:=[("step",s⁻¹+1)]) (caps:=[("step",1)])),cp,aZ,c,ad,o,G,T,ch,ct,0,aq,T,al,d,bg,bg,b4,cC,1,az,b4,cC,0,a,b4,cC,0|9],?_];show#[0,0,t,_,(1),.int x.2,1,cX.of ht,89,a,13,x.2,nd,S x.2,rfl,A1,L,Z.enc _ _ L aj,27,λH1 q1 AR I _ e1 S1=>#[q1,rfl,#[_,a9.of e1],?_]];let ak:=Z.len x.2;let bL:=Z.ok x.2;show iA (K:=K) (a:=q1) (xs:=AR) (λi ys J=>lD J ys (yO x ((S x.2).take i))/\aO H1 J) #[lD.nil,133] (λi ys J _ z=>a9.of (z.2 _ _ e1)) ?_ ?_
 .rintro i v ys J hx ⟨TA,G⟩;let#[sl,e2,a2]:=S1.at_ i v hx;let et:yO x ((S x.2).take (i+1))=yO x ((S x.2).take i)++QR x sl:=(by rw[WE,e2];show EK _ _ _);let ly:ys.9<=40:=by
   have:(yO x ((S x.2).take i)).9<=((S x.2).take i).9:=X6 ..;rw[IF]at this;rw[TA.ln];omega
  show#[0,9];cases sl with
  |none =>
   cases a2;show bA #[by rw[et];change lD J ys (_++[]);rw[Wt];show TA,G]
  |some p =>
   let#[t2,rfl,ac]:=a2;let on:=bL _ (L1 e2) p rfl;let ln:p.1.9<=6:=on.hi;let l1:x.1.9+SL.9<=sizeLine:=(by rw[show SL.9=1 by decide +kernel];omega);let l2:(x.1++SL).9+p.1.9<=sizeLine:=(by rw[len_app,show SL.9=1 by decide +kernel];omega);let ab:=G _ _ (I _ _ ht);let aa:=G _ _ ac;show bU #[0,41,.str x.1,1,cX.of ab,84,x.1,SL,1,l1,0,t2,_,(0),.str p.1,1,cX.of aa,84,x.1++SL,p.1,1,l2,0,t2,_,(1),.int p.2,1,cX.of aa,89,100,λt3 Y=>#[av,?_,G.trans (au Y)]];rw[et];show(TA.same (iV (au Y))).app (lD.one (p:=(x.1++SL++p.1,p.2)) ag)
 .rintro ys J ⟨TA,G⟩ r U;rw[S1.ln,WV]at TA;let s3:=au (X:=.lst ys) U;show kQ _ r ys (I.trans (G.trans s3)) (a8 (I.trans G) U) ag (TA.same (iV s3))
inductive Ms(M:cU)(v:qAf)(H:Hp)(Q:VK)(e:XK):Prop
 |mk(a:zB0)(m:M.St)(aC d:Nat)(N:NS)(S:SS)(_:v=[.ref a])(_:M.At H a m aC N d)(_:Fz N S)(_:(uh N S).9<=63)(_:∀(H':Hp)(q:zB0)(ws:qAf),aO H H'->H q=none->H' q∣ws->lD H' ws (ip (uh N S))->Q (.ref q) H')
inductive TV(N:NS)(S:SS)(a m1 a1:zB0)(H2:Hp)(k:Nat)(σ:St)(J:Hp):Prop
 |mk (i:Nat) (pv met ahead:List iC) (wm wa:qAf) (v3:Option V) (_:k+i=24) (_:σ=#v[.ref a,.ref m1,.ref a1,v3]) (_:Wk N S i pv met ahead) (_:J m1∣wm) (_:J a1∣wa) (_:lD J wm met) (_:lD J wa ahead) (_:Off (λx=>x=m1\/x=a1) H2 J):TV N S a m1 a1 H2 k σ J
def IS:aA ["nodes","met","ahead","within"] ["nodes"] (ax Ua):=L2.bg
variable{X:Er->zB0}
theorem HS(F:b4 K "walk" "walk" Ua f fd)(T:pP K mg X)(O:M.Ok P w K mg base)(ap:↥Df 9 "steps_within" (MJ M)):↥aU 10 f fd ["nodes"] (Ms M):=by
 show F.dg IS ?_;intros;let#[a,m,aC,d,N,S,rfl,A1,Z,a3,kQ]:=h;let hs:=DD;show#[_,%[IS,hr,bk,aC,Q,C,a,al,bS,a,cL,i,dh,ES,WD,bB,l,h,r,aY,c,ap,o,d7,WR,PySem.F.slot_list_pop,PySem.F.type_list_pop,M0,2,t,be,Y7,Y8,kP,1,Y,j,be,Y7,Y8,kP,2,a,P,(de (cl:=[("nodes",s⁻¹+1)]) (caps:=[("nodes",0)])),cp,aZ,3,T,ch,g,ae,1,dj,a,b4,cC,0,E,T,0,b,S,uH,de,e|9],?_]
 show#[aE,λm1 f1=>?_];exists f1,(.lst []),s1,e1,H1;show#[100,λt0 f2=>#[93,λG f3=>?_]];let s2:=au (X:=.tup [V.str "",V.int 0]) f2;exists f3,(.lst [V.ref t0]),s3,ea,H2;let et:=s3 _ _ (ag (H:=H1) (a:=t0) (o:=.tup [V.str "",V.int 0]));let em:=s3 _ _ (s2 _ _ e1);let as:=s1.trans (s2.trans s3);let fa:H G=none:=a8 (s1.trans s2) f3;let ma:m1≠G:=λz=>(by rwa[<-z,s2 _ _ e1]at f3);let aj:∀{x u},H x=some u->x≠m1/\x≠G:=λe=>#[λz=>(by rwa[z,f1]at e),λz=>(by rwa[z,fa]at e)];show#[TV N S a m1 G H2,#[(24),#[(0),[],[],[("",0)],[],[.ref t0],0,rfl,Z.Ow,em,ea,lD.nil,lD.one (p:=("",0)) et,96]],?_];rintro k σ J ⟨i,pv,met,ahead,I,wa,v3,hk,rfl,W,hm,ha,Tm,Ta,oJ⟩;let sJ:aO H J:=λx u e=>oJ _ _ (as _ _ e) λz=>z.elim (aj e).1 (aj e).2;let AJ:=O.same A1 sJ;let lt:=W.lt Z;let ml:=W.QM Z;let lm:=Tm.ln;let la:=Ta.ln;show#[0,G,wa,rfl,.inl (a9.of ha),19];show cQ (λc=>?_) (λc=>?_)
 .let c0:0<wa.9:=(by have:=zA0 c;omega);let ne:ahead≠[]:=λz=>(by rw[z,abE]at la;omega);obtain⟨b,x,rfl⟩:∃b x,ahead=b++[x]:=#[2,(Ww ne).6];rw[ti,NC]at lt la;let#[us,t,rfl,Tb,ht]:=Ta.last (v:=.bh);let W2:=W.next Z;let hx:x∈pv++(b++[x]):=By _ (By _ (sx.mpr rfl));let lx:=W.le x hx;show#[TV N S a m1 G H2 (k-1),λa5 H' z=>#[k-1,av,z],?_];show#[0,0,.inl #[4,a9.of ha],G,_,.ref t,1,ha,by rw[ti,NC,Nat.add_sub_cancel,Wb (G0 _),X2];rfl,?_];rw[XI];let o1:Off (· = G) J (upd J G (.lst us)):=λy u e z=>(by rw[ay z];show e);let aa:upd J G (.lst us) m1∣I:=(by rw[ay ma];show hm);let a4:upd J G (.lst us) G∣us:=ag;let aB:=Tm.upd (o:=.lst us) ha;let aP:=Tb.upd (o:=.lst us) ha;let ar:upd J G (.lst us) t|||[.str x.1,.int x.2]:=(by rw[ay (λz=>by rwa[z,ha]at ht)];show ht);let no:∀y,M.own m y->¬ y=G:=λy hy z=>O.live A1 hy (by rw[z];show fa);let na:¬ a=G:=λz=>by
   let#[dx,fs',ho,_]:=O.ob A1;rwa[z,fa]at ho
  let A2:=O.off AJ o1 no na;let o2:Off (λx=>x=m1\/x=G) H2 (upd J G (.lst us)):=λy u e z=>o1 _ _ (oJ _ _ e z) λq=>z (.inr q);generalize upd J G (.lst us)=J1 at *;show#[a,13,S,t,x,rfl,A2,Z,ar,W.dn x hx,av,λJ2 q2 lZ L am e2 T2=>?_];let l2:(kc S x).9<=40:=WK (X6 ..) (Z.len x.2);let lw:=T2.ln;show#[0,.inl #[4,a9.of (L _ _ aa)],0,m1,q2,I,lZ,1,L _ _ aa,e2,av,?_];let qm:q2≠m1:=λz=>(by rwa[z,aa]at am);let o3:Off (· = m1) J2 (upd J2 m1 (.lst (I++lZ))):=λy u e z=>(by rw[ay z];show e);let aT:upd J2 m1 (.lst (I++lZ)) m1∣(I++lZ):=ag;let ab:upd J2 m1 (.lst (I++lZ)) G∣us:=(by rw[ay (zA3 ma)];show L _ _ a4);let a0:=((aB.same (iV L)).app T2).upd (o:=.lst (I++lZ)) (L _ _ aa);let ac:=(aP.same (iV L)).upd (o:=.lst (I++lZ)) (L _ _ aa);let T3:=T2.upd (o:=.lst (I++lZ)) (L _ _ aa);let e3:upd J2 m1 (.lst (I++lZ)) q2∣lZ:=(by rw[ay qm];show e2);let A3:=O.off (O.same A2 L) o3 (λy hy z=>O.live A1 hy (by rw[z];show f1)) (λz=>by
   let#[dx,fs',ho,_]:=O.ob A1;rwa[z,f1]at ho)
  let o4:Off (λx=>x=m1\/x=G) H2 (upd J2 m1 (.lst (I++lZ))):=λy u e z=>o3 _ _ (L _ _ (o2 _ _ e z)) λq=>z (.inl q);generalize upd J2 m1 (.lst (I++lZ))=J3 at *;show#[0,.inl #[4,a9.of ab],0,q2,rfl,#[_,38],?_];show iA (K:=K) (a:=q2) (xs:=lZ) (λj ys J'=>lD J3 ys (((kc S x).take j).filter λq=>bC N q.2)/\aO J3 J') #[lD.nil,133] (λj ys J' _ z=>a9.of (z.2 _ _ e3)) ?_ ?_
  .rintro j v ys J' hv ⟨TA,Y⟩;let#[p,t5,e5,rfl,ak]:=T3.at_ j v hv;let A5:=O.same A3 Y;let#[dx,fs',ho,_,a2]:=O.ob A5;let ly:ys.9<=40:=by
    have:(((kc S x).take j).filter λq=>bC N q.2).9<=((kc S x).take j).9:=WL ..;rw[IF]at this;rw[TA.ln];omega
   show#[21,ho,a2 _ aF,0,t5,_,(1),.int p.2,1,cX.of (Y _ _ ak),89,a,13,p.2,rfl,A5,λJ6 s6=>#[by cases N p.2<;>rfl,0,?_]];rw[nM];let tk:(kc S x).take (j+1)=(kc S x).take j++[p]:=(by rw[WE,e5];rfl);cases cd:bC N p.2 with
   |true =>
    show bU #[0,av,?_,Y.trans s6];rw[tk,Xk,WO (p:=λq:iC=>bC N q.2) cd];show TA.app (lD.one ak)
   |false =>
    show bA #[?_,Y.trans s6];rw[tk,Xk,WQ (p:=λq:iC=>bC N q.2) (by rw[cd];nofun),YH,Wt];show TA
  .rintro ys J' ⟨TA,Y⟩ r fr;rw[lw,WV]at TA;let U:=Y.trans (au (X:=.lst ys) fr);let lf:((kc S x).filter λq=>bC N q.2).9<=(kc S x).9:=WL ..;let ly:=TA.ln;let lb:=ac.ln;show#[G,r,us,ys,1,U _ _ ab,ag,av,?_];show#[i+1,pv++[x],met++kc S x,b++(kc S x).filter λq=>bC N q.2,I++lZ,us++ys,_,av,rfl,W2,?_,ag,5,λy u e z=>?_]
   .rw[ay ma];show U _ _ aT
   .show(a0.same (iV U)).upd (U _ _ ab)
   .show((ac.app TA).same (iV U)).upd (U _ _ ab)
   .rw[ay λq=>z (.inr q)];show U _ _ (o4 _ _ e z)
 .let c0:ahead=[]:=WN.mp (by
   have:¬ (0:Int)<(wa.9:Nat):=λz=>c (zA1 z);omega)
  subst c0;rw[W.done Z]at Tm;let aK:=W.done Z;show#[0,m1,I,uh N S,rfl,a9.of hm,Tm,by rw[<-aK];show W.VJ Z,a3,λl2 ad f5 T5=>?_];let s5:=au (X:=.lst ad) f5;show kQ _ l2 ad (sJ.trans s5) (a8 sJ f5) ag (T5.same (iV s5))
noncomputable def jG(nd:Node):List Int:=if nd.dir=true then[]else nd.cs
inductive Ky(H:Hp)(N:NS)(g:Node->List Int)(v:V)(x:iC)(cl:zB0):Prop
 |mk(nd:Node)(t:zB0)(_:N x.2=some nd)(_:v=.ref t)(_:H t|||[.str x.1,.str (n6 nd.dir),.int nd.ln,.ref cl])(_:H cl∣((g nd).map V.int))
def Ik(H:Hp)(N:NS)(g:Node->List Int)(v:V)(x:iC):Prop:=∃cl,Ky H N g v x cl
structure wc(H:Hp)(N:NS)(g:Node->List Int)(ws:qAf)(ps:List iC):Prop where
 ln:ws.9=ps.9
 at_:∀(i:Nat)(v:V),ws[i]?=some v->∃x,ps[i]?=some x/\Ik H N g v x
structure Dg(H0 H:Hp)(N:NS)(g:Node->List Int)(ws:qAf)(ps:List iC)(cs:qAc):Prop where
 ln:ws.9=ps.9
 lc:cs.9=ws.9
 nd:cs.4
 fr:∀c∈cs,H0 c=none
 at_:∀(i:Nat)(v:V)(c:zB0),ws[i]?=some v->cs[i]?=some c->∃x,ps[i]?=some x/\Ky H N g v x c
variable{N:NS}{g:Node->List Int}{v:V}{x:iC}{c:zB0}
def Ky.same(A:Ky H N g v x c)(s:aO H H'):Ky H' N g v x c:=by
 let#[nd,t,a,b,c,d]:=A;show#[nd,t,a,b,s _ _ c,s _ _ d]
theorem Ik.same(A:Ik H N g v x)(s:aO H H'):Ik H' N g v x:=A.imp λ_ r=>r.same s
variable{ws:qAf}{ps:List iC}
theorem wc.same(A:wc H N g ws ps)(s:aO H H'):wc H' N g ws ps:=#[A.ln,λi v h=>by
 let#[x,e,q]:=A.at_ i v h;show#[x,e,q.same s]]
variable{H0:Hp}{cs:qAc}
theorem Dg.a(A:Dg H0 H N g ws ps cs):wc H N g ws ps:=#[A.ln,λi v h=>by
 let hi:=(u4.mp h).1;let F:=y0 (l:=cs) (i:=i) (by have:=A.lc;omega);let#[x,e,q]:=A.at_ i v _ h F;show#[x,e,_,q]]
theorem Dg.same(A:Dg H0 H N g ws ps cs)(s:aO H H'):Dg H0 H' N g ws ps cs:=#[A.ln,A.lc,A.nd,A.fr,λi v c h F=>by
 let#[x,e,q]:=A.at_ i v c h F;show#[x,e,q.same s]]
theorem Dg.live(A:Dg H0 H N g ws ps cs)(h:c∈cs):∃l,H c∣l:=by
 let#[i,hi]:=YZ.mp h;let l:=(u4.mp hi).1;let#[x,_,nd,_,_,_,_,e]:=A.at_ i _ c (y0 (by have:=A.lc;omega)) hi;show#[_,e]
theorem pZ{α:Type}{l:List α}{a b:α}{i:Nat}(h:(l++[a])[i]?=some b):(i<l.9/\l[i]?=some b)\/(i=l.9/\a=b):=by
 cases c:i<l.9
 .rw[Wj c]at h;show .inl #[c,h]
 .let hi:=(u4.mp h).1;rw[ti,NC]at hi;let e:i=l.9:=av;rw[e,Wb (G0 _),X2]at h;show .inr #[e,OR h]
theorem wc.snoc(A:wc H N g ws ps)(B:Ik H N g v x):wc H N g (ws++[v]) (ps++[x]):=by
 let l:=A.ln;show#[by rw[ti,ti,l];rfl,λi w h=>?_];rcases pZ h with⟨c,h⟩|⟨c,rfl⟩
 .let#[y,e,q]:=A.at_ i w h;show#[y,123,q]
 .show#[x,by rw[c,l,Wb (G0 _),X2];rfl,B]
theorem Dg.snoc(A:Dg H0 H N g ws ps cs)(s:aO H H')(I:H0 c=none)(f:H c=none)(B:Ky H' N g v x c):Dg H0 H' N g (ws++[v]) (ps++[x]) (cs++[c]):=by
 let l:=A.ln;let l2:=A.lc;show#[by rw[ti,ti,l];rfl,by rw[ti,ti,l2];rfl,Wl.mpr #[A.nd,Wq.mpr #[WX,Xj],λa F b L e=>?_],λa F=>?_,λi w d h hd=>?_]
 .let#[y,G]:=A.live F;rwa[e,sx.mp L,f]at G
 .rcases Wf.mp F with F|F
  .show A.fr a F
  .rw[sx.mp F];show I
 .rcases pZ h with⟨c1,h⟩|⟨c1,rfl⟩
  .rcases pZ hd with⟨_,hd⟩|⟨c2,rfl⟩
   .let#[y,e,q]:=A.at_ i w d h hd;show#[y,123,q.same s]
   .omega
  .rcases pZ hd with⟨c2,_⟩|⟨_,rfl⟩
   .omega
   .show#[x,by rw[c1,l,Wb (G0 _),X2];rfl,B]
inductive LZ(M:cU)(CF:zB0)(vs:qAf)(H:Hp)(Q:VK)(e:XK):Prop
 |mk(z:FA)(m:M.St)(aC d:Nat)(N:NS)(h:HT)(x:iC)(nd:Node)(_:vs=[.ref z.a,.str x.1,.int x.2])(_:gw M CF H z m aC N h d)(_:N x.2=some nd)(_:∀(H':Hp)(v:V)(c:zB0),aO H H'->H c=none->Ky H' N jG v x c->Q v H')
inductive K2(M:cU)(CF:zB0)(v:qAf)(H:Hp)(Q:VK)(e:XK):Prop
 |mk(z:FA)(m:M.St)(aC d:Nat)(N:NS)(S:SS)(h:HT)(_:v=[.ref z.a])(_:gw M CF H z m aC N h d)(_:Fz N S)(_:(uh N S).9<=63)(_:∀(H':Hp)(q:zB0)(ws:qAf)(cs:qAc),aO H H'->H q=none->H' q∣ws->Dg H H' N jG ws (ip (uh N S)) cs->Q (.ref q) H')
theorem qr{N:NS}{S:SS}(F:Fz N S):∀(k i:Nat){pv met ahead:List iC},k+i=24->Wk N S i pv met ahead->∃i pv met,Wk N S i pv met []
 |0,i,pv,met,ahead,h,W=>by
  have:=W.lt F;have:ahead=[]:=WN.mp av;show#[i,pv,met,this▸W]
 |k+1,i,pv,met,ahead,h,W=>by
  cases c:ahead=[]
  .show#[i,pv,met,c▸W]
  .obtain⟨b,x,rfl⟩:∃b x,ahead=b++[x]:=#[2,(Ww c).6];show qr F k (i+1) av (W.next F)
variable{S:SS}
theorem QW(F:Fz N S)(h:x∈uh N S):∃nd,N x.2=some nd:=by
 let#[i,pv,met,W]:=qr F 24 0 rfl F.Ow;rw[<-W.done F,W.mt]at h;let#[l,G,L]:=Za.mp h;let#[y,Y,rfl]:=z4.mp G;let#[I,U]:=F.oX (W.dn y (Wg _ Y));let c:1<=cn (S y.2) x.2:=by
  rw[<-pQ y];show abH.mpr (z4.mpr #[x,L,rfl])
 have:=nY S x.2 I U;have:=F.rf x.2;show DG ?_;have:(0:Int)<=(if x.2=0 then 1 else 0):=(by split<;>decide);omega
theorem Ex(F:Fz N S):(ip (uh N S)).9<=960:=by
 let#[i,pv,met,W]:=qr F 24 0 rfl F.Ow;let l:=W.lt F;let m:=W.QM F;unfold ip;rw[(W7 _ Bl).length_eq, <-W.done F];omega
abbrev Sn:Wo:=top 67
abbrev Sv:Wo:=top 66
def Lq:aA ["files","path","node","told","cells"] ["files","path","node"] (ax Sn):=L2.bg
variable{CF:zB0}
theorem zj(F:b4 K "tree_row" "tree_row" Sn f fd)(TF:ie K CF)(O:M.Ok P w K mg base)(aj:⇑Md 9 CF "stat" (LN M CF X))(ak:⇑Md 10 CF "read_at" (M4 M CF X)):↥aU 11 f fd ["files","path","node"] (LZ M CF):=by
 show F.dg Lq ?_;intros;let#[z,m,aC,d,N,h,x,nd,rfl,I,G,kQ]:=h;let hs:=DD;let#[dy,hy]:=I.ob;let#[n0,n1]:=(O.ok I.A).use _ _ G;let l3:=(O.ok I.A).xS _ _ G;show#[_,%[Lq,hr,aY,df,0,dA,aj,c6,iZ,h,O,4,cH,g,ck,3,E,aC,df,0,dA,ak,c6,iZ,ba,bO,a,ck,3,b,al,J,d,ck,3,d,ck,3,ah|9],?_]
 show#[15,hy,11,z,13,h,x.2,rfl,I,av,λc=>(by rwa[G]at c),λas ac H1 L U f1 Y=>?_];rwa[G]at ac;let ap:=U _ _ hy;unfold f9;dsimp only;show share (λσ J=>∃cl,Hj (σ=#v[.ref z.a,.str x.1,.int x.2,.ref L,.ref cl]) (aO H1 J) (H1 cl=none) (J cl∣((jG nd).map V.int))) (λu' jt=>?_) ?_
 .show#[0,L,_,(0),.str (n6 nd.dir),1,cX.of Y,84,9];let ed:decide (V.str (n6 nd.dir)=.str "dir")=nd.dir:=(by have:=nM N x.2;rw[G,cL G]at this;show this);rw[ed];cases c:nd.dir with
  |true =>
   show bU #[aE,λcl fc=>jt _ _ #[cl,rfl,au fc,fc,?_]];rw[ag];unfold jG;rw[acW c];rfl
  |false =>
   let e2:Oz nd=(nd.cs.9:Int):=(by unfold Oz;rw[acV (by rw[c];nofun)]);let er:wA N x.2 0 (nd.cs.9:Int)=.ok nd.cs:=by
    let r0:ze N x.2=none:=(by unfold ze;rw[G];show acV (by rw[c];nofun));unfold wA;rw[r0];dsimp only;rw[acW #[av,av],acW #[av,av],dm G];change Except.ok ((nd.cs.drop 0).take nd.cs.9)=_;rw[Ym,WV]
   show bA #[15,ap,11,0,L,_,(2),.int (Oz nd),1,cX.of Y,aL (j:=2) rfl,z,13,h,x.2,(0),(nd.cs.9:Int),by rw[e2];rfl,I.same O U,#[av,aE,av],λe he=>(by rwa[er]at he),λcs ab J q s2 f2 ad=>jt _ _ #[q,rfl,s2,f2,?_]];rwa[er]at ab;unfold jG;rw[acV (by rw[c];nofun)];show ad
 .rintro σ J ⟨cl,rfl,sJ,ar,am⟩;let aa:=sJ _ _ Y;show#[0,0,L,_,(0),.str (n6 nd.dir),1,cX.of aa,84,0,L,_,(1),.int nd.ln,1,cX.of aa,89,0,125,λt ft=>?_];let Z:=au (X:=.tup [.str x.1,.str (n6 nd.dir),.int nd.ln,.ref cl]) ft;show kQ _ _ cl (U.trans (sJ.trans Z)) (a8 U ar) #[nd,t,G,51,Z _ _ am]
def Te:aA ["files"] ["files"] (ax Sv):=L2.bg
theorem IE(F:b4 K "tree" "tree" Sv f fd)(TF:ie K CF)(O:M.Ok P w K mg base)(ac:↥Df 10 "walk" (Ms M))(ad:↥Df 11 "tree_row" (LZ M CF)):↥aU 12 f fd ["files"] (K2 M CF):=by
 show F.dg Te ?_;intros;let#[z,m,aC,d,N,S,h,rfl,L,Z,ab,kQ]:=h;let hs:=DD;let#[dy,hy]:=L.ob;let wl:=Ex Z;show#[_,%[0,hr,b,P,(de (cl:=[("files",s⁻¹+1)]) (caps:=[("files",0)])),cp,aZ,cv,a,u,a8,c,ad,J,d,b4,cC,0,a,b4,cC,0|9],?_];show#[7,hy,TF.cl,TF.nN,79,13,S,rfl,L.A,Z,ab,λH1 q1 ws I _ e1 T1=>#[q1,rfl,#[_,a9.of e1],?_]];show gO (K:=K) (a:=q1) (xs:=ws) (λi ys J=>(∃cs,Dg H J N jG ys ((ip (uh N S)).take i) cs)/\aO H1 J) #[#[[],1,Xj,nofun,λi v c h=>by cases h],133] (λi ys J _ z=>a9.of (z.2 _ _ e1)) ?_ ?_
 .rintro i v ys J hv ⟨⟨cs,TA⟩,G⟩;let#[x,t,ex,rfl,ht]:=T1.at_ i v hv;let#[nd,aa]:=QW Z ((W7 _ Bl).mem_iff.mp (L1 ex));let ly:ys.9<=960:=(by rw[TA.ln,IF];omega);show#[0,0,41,.str x.1,1,cX.of (G _ _ ht),84,0,t,_,(1),.int x.2,1,cX.of (G _ _ ht),89,z,13,h,x,60,L.same O (I.trans G),aa,λJ2 v2 c2 Y f2 r2=>#[av,?_,G.trans Y]];rw[WE,ex];show#[_,TA.snoc Y (a8 (I.trans G) f2) f2 r2]
 .rintro ys J ⟨⟨cs,TA⟩,G⟩ r U;rw[T1.ln,WV]at TA;let s3:=au (X:=.lst ys) U;show kQ _ r ys cs (I.trans (G.trans s3)) (a8 (I.trans G) U) ag (TA.same s3)
inductive At(D:Int->Bool)(S:SS):Str->Int->Prop
 |root:At D S "" 0
 |step {p:Str}{d:Int}{nm:Str}{k:Int}(_:At D S p d) (_:D d=true) (_:fG (S d) nm=some k):At D S (p++SL++nm) k
def JK(S:SS):Prop:=∀d nm k,fG (S d) nm=some k->okN nm
variable{p:Str}
theorem iH{n:Str}(e:("" : Str)=p++SL++n):False:=by
 have:("" : Str).cps.7=(p++SL++n).cps.7:=(by rw[e]);rw[bZ,bZ,show SL.cps.7=[47]by decide +kernel,show("" : Str).cps.7=[]by decide +kernel]at this;simp at this
variable{D:Int->Bool}{nm:Str}{k d:Int}
theorem At.inv(ok:JK S)(o:okN nm)(h:At D S (p++SL++nm) k):∃d,At D S p d/\D d=true/\fG (S d) nm=some k:=by
 generalize e:p++SL++nm=x at h;cases h with
 |root=>show(iH e.6).elim
 |step a b c =>
  let#[rfl,rfl]:=kI o (ok _ _ _ c) e;show#[_,a,b,c]
variable{k':Int}
theorem At.fn(ok:JK S)(h:At D S p k):∀{k'},At D S p k'->k=k':=by
 induction h with
 |root =>
  intro k' h;generalize e:("" : Str)=x at h;cases h with
  |root=>rfl
  |step a b c=>show(iH e).elim
 |step _ _ c G =>
  intro k' h;let#[d,F,I,c']:=h.inv ok (ok _ _ _ c);cases G F;show OR (c.symm.trans c')
theorem At.mono{D':Int->Bool}{S':SS}(G:∀d,D d=true->D' d=true)(F:∀d nm k,D d=true->fG (S d) nm=some k->fG (S' d) nm=some k)(h:At D S p k):At D' S' p k:=by
 induction h with
 |root=>show .root
 |step _ b c I=>show .step I (G _ b) (F _ _ _ b c)
theorem Ff{n:Str}{k:Int}:∀{ss:List Slot},some (n,k)∈ss->(dE ss).4->fG ss n=some k
 |s::ss,h,nd=>by
  rw[eO];rw[cu]at nd;rcases We.mp h with h|h
  .rw[<-h,acW (show pO n (some (n,k))=true from zA1 rfl)];rfl
  .let F:=Ff h (Wl.mp nd).2.1;let mem:n∈dE ss:=WJ λz=>(by rwa[(g6 ss n).mpr z]at F);cases s with
   |none=>show F
   |some q =>
    rw[acV (λz=>by
     let e:q.1=n:=zA0 z;show(Wl.mp nd).2.2 q.1 (sx.mpr rfl) n mem e)]
    show F
theorem ud{n:Str}{k:Int}:∀{ss:List Slot},fG ss n=some k->some (n,k)∈ss
 | [],h=>by cases h
 |s::ss,h=>by
  rw[eO]at h;cases z:pO n s=true
  .rw[acW z]at h;cases s with
   |none=>cases z
   |some q =>
    cases h;let e:q.1=n:=zA0 z;rw[<-e];show Wn
  .rw[acV z]at h;show Wm _ (ud h)
def Fz.oG(F:Fz N S):JK S:=λd _ _ h=>F.ok d _ (ud h) _ rfl
variable{y:iC}
theorem EY{ss:List Slot}:y∈yO x ss↔∃n,y.1=x.1++SL++n/\some (n,y.2)∈ss:=by
 unfold yO;rw[Yd];constructor
 .rintro⟨s,hs,e⟩;let#[q,rfl,rfl]:=HC.mp e;show#[q.1,rfl,hs]
 .rintro⟨n,e,h⟩;show#[_,h,congrArg some (acT e.symm rfl)]
structure Wc(N:NS)(S:SS)(i:Nat)(pv met ahead:List iC):Prop where
 W:Wk N S i pv met ahead
 z:(("" : Str),(0:Int))∈pv++ahead
 c:∀y∈met,bC N y.2=true->y∈pv++ahead
 s:∀y∈pv++ahead,At (bC N) S y.1 y.2
theorem Fz.Vw(F:Fz N S)(a:At (bC N) S x.1 x.2)(d:bC N x.2=true)(h:y∈kc S x):At (bC N) S y.1 y.2:=by
 let#[n,e,m]:=EY.mp h;rw[e];show .step a d (Ff m (F.nd _))
theorem EE(F:Fz N S):∀(k i:Nat){pv met ahead:List iC},k+i=24->Wc N S i pv met ahead->∃i pv met,Wc N S i pv met []
 |0,i,pv,met,ahead,h,W=>by
  have:=W.W.lt F;have:ahead=[]:=WN.mp av;show#[i,pv,met,this▸W]
 |k+1,i,pv,met,ahead,h,W=>by
  cases c:ahead=[]
  .show#[i,pv,met,c▸W]
  .obtain⟨b,x,rfl⟩:∃b x,ahead=b++[x]:=#[2,(Ww c).6];let I:x∈pv++(b++[x]):=By _ (By _ (sx.mpr rfl));let L:∀{y},y∈pv++(b++[x])->y∈(pv++[x])++(b++(kc S x).filter λq=>bC N q.2):=λh=>by
    simp only[Wf,sx]at h ⊢;rcases h with h|h|h
    .show .inl (.inl h)
    .show .inr (.inl h)
    .show .inl (.inr h)
   show EE F k (i+1) av #[W.W.next F,L W.z,λy G hd=>?_,λy G=>?_]
   .rcases Wf.mp G with G|G
    .show L (W.c y G hd)
    .show By _ (By _ (WA.mpr #[G,hd]))
   .let h:y∈pv++(b++[x])\/y∈kc S x:=by
     simp only[Wf,sx]at G ⊢;rcases G with(h|h)|h|h
     .show .inl (.inl h)
     .show .inl (.inr (.inr h))
     .show .inl (.inr (.inl h))
     .show .inr (WA.mp h).1
    rcases h with h|h
    .show W.s y h
    .show F.Vw (W.s x I) (W.W.dn x I) h
theorem Kg(F:Fz N S)(o:okN nm):(p++SL++nm,k)∈uh N S↔At (bC N) S (p++SL++nm) k:=by
 let#[i,pv,met,W]:=EE F 24 0 rfl #[F.Ow,sx.mpr rfl,λy h=>(by cases h),λy h=>by rw[sx.mp h];show .root];rw[<-W.W.done F];constructor
 .intro h;rw[W.W.mt]at h;let#[l,I,L]:=Za.mp h;let#[y,Y,rfl]:=z4.mp I;let G:=Wg [] Y;show F.Vw (W.s y G) (W.W.dn y G) L
 .let all:∀{p k},At (bC N) S p k->(p = "" /\ k=0)\/(p,k)∈met:=λh=>by
   induction h with
   |root=>show .inl #[1]
   | @step p d nm k a b c U =>
    let hd:(p,d)∈pv++[]:=by
     rcases U with⟨rfl,rfl⟩|h
     .show W.z
     .show W.c _ h b
    rw[Wt]at hd;show .inr ?_;rw[W.W.mt];show Za.mpr #[_,z4.mpr #[_,hd,rfl],EY.mpr #[nm,rfl,ud c]]
  show λh=>(all h).elim (λq=>(iH q.1.6).elim) id
theorem Be(nm x:Str):∀ss:List Slot,fG (dH ss nm) x=if x=nm then none else fG ss x
 | []=>by split<;>rfl
 |s::ss=>by
  let F:=Be nm x ss;rw[ia,eO,eO,F];cases s with
  |none=>show(by split<;>rfl)
  |some p =>
   cases a:p.1=nm
   .rw[acW (show pO nm (some p)=true from zA1 a),acV (show ¬ pO x none=true by nofun)];cases b:x=nm
    .rw[acW b,acW b]
    .rw[acV b,acV b,acV (show ¬ pO x (some p)=true from λz=>b ((zA0 z).symm.trans a))]
   .rw[acV (show ¬ pO nm (some p)=true from λz=>a (zA0 z))];cases b:x=nm
    .rw[acW b,acW b,acV (show ¬ pO x (some p)=true from λz=>a ((zA0 z).trans b))]
    .rw[acV b,acV b]
def DM(p:Str×Int)(x:Str):pO x (some p)=decide (p.1=x):=rfl
theorem uO{nm:Str}(k:Int)(x:Str):∀{ss:List Slot},nm∉dE ss->fG (cG ss nm k) x=if x=nm then some k else fG ss x
 | [],_=>by
  rw[zN,eO,DM];cases b:x=nm
  .rw[acW b,acW (zA1 b.6)];rfl
  .rw[acV b,acV (λz=>b (zA0 z).6)]
 |none::ss,_=>by
  rw[nO,eO,eO,DM];cases b:x=nm
  .rw[acW b,acW (zA1 b.6)];rfl
  .rw[acV b,acV (λz=>b (zA0 z).6)];rfl
 |some p::ss,h=>by
  rw[cu]at h;let h1:¬ p.1=nm:=λz=>h (Wg _ (sx.mpr z.6));rw[iE,eO,eO,uO k x λz=>h (By _ z),DM];cases b:x=nm
  .rw[acW b,acW b,acV (λz=>h1 ((zA0 z).trans b))]
  .rw[acV b,acV b]
end Fs
namespace PySem.W
open PySem PySem.Spec PySem.Calls PyProof.Rows Builtin
structure FO(K:Wa)(C f:zB0):Prop where
 ty:acb K (.ref C)=some (.type "type")
 rd:readsIn K C (.type "type")=true
 at_:findCls K (.ref C) (.type "type") "__init__" = some (.val (.ref f))
 kp:Xc K (.ref f)=true
theorem JV{prog:BY}{A:Wv}{E:qa2}{s:sh}{C:zB0}{pl:ZC Bool}{Q:Value×List Value->sh->Prop}(X:K.In s.heap)(c:FO K C f)(h:Q (.ref f,[]) { s with toks:=s.toks+1 }):wpAny (model prog w) A (getMethod (.ref C) "__init__" pl) Q E s:=by
 let g1:ab8 K (.ref C) "__getattribute__" = some (some (.builtin "type.__getattribute__")):=by
  unfold ab8;rw[c.ty]
  with_unfolding_all rfl
 let F:=looks_specialIn (M:=model prog w) X g1;unfold getMethod;show u5 (F.at ?_);dsimp only;rw[acW aF];show u5 (cls_value X c.rd c.at_ rfl (Wi h))
end PySem.W
namespace L2
open PySem PySem.Spec PyProof.Rows
theorem zQ{X:Cx}{CX:p7}{k:Nat}{C:zB0}{ps:qAb}{sp:Sp}{E:XK}{x:Str}{p pos apos:XU}{e:Ws}{es:qAe}{t:TA}{pl:ZC Bool}(Z:∃u,X.mg x=some u/\RelV (.ref C) u)(c:PySem.W.FO X.K C f)(F:aU X.prog X.w X.K X.mg X.base CX k f fd ps sp)(hr:dX k X.A)(hb:Binds X.K fd ps [])(hx:Passes CX X E)(Y:PA X (e::es) t)(hg:Gl X x:=by rfl)(hd:(x==("__debug__" : Str))=false:=by decide)
  (ab:qAh X e es:=by rfl) (aa:(backTo pos (starEach es X.env)).any (·.1)=false:=by rfl)
  (ht:eval (.Call (.Attribute (.Name x p) "__init__" apos) (e::es) [] pos) X.env=(do
   let ov <-eval (.Name x p) X.env
   acy apos.atName
   let (f,first) <-abc [ov] (getMethod ov "__init__" pl)
   callWith pos f first (backTo pos (starEach (e::es) X.env)) (aaQ pos (Zf [] X.env))):=by rfl) :
  PE X (.Call (.Attribute (.Name x p) "__init__" apos) (e::es) [] pos) (Bd sp [] E t):=by
 intros Q I h;let U:PE X (.Name x p) (tC (.ref C)):=fZ Z hg hd;show Ze (pl:=pl) (cc (U pins s σ H (λv H1=>v=.ref C/\H1=H) I #[1]) λu s1 z=>?_) ht;let#[v,H1,G,rx,rfl,rfl]:=z;obtain rfl:u=Value.ref C:=rx;show PySem.W.JV G.lS c ?_;show ZG (first:=[]) (h₀:=X.base) I.ok.mod.Js c.kp (cc (Y pos pins _ σ _ _ (G.tok _) h) λus s2 z=>?_) ab aa;let#[vs,H2,L,r,q2]:=z;show#[L.lS,?_];show uL (us:=us) (vs:=vs) F hr hb (dvs:=[]) .nil hx L r q2
end L2
namespace Fs
open PySem L2 Dk Tb Srt
inductive Hx(CF:zB0)(v:qAf)(H:Hp)(Q:VK)(e:XK):Prop
 |mk(a dx na:zB0)(_:v=[.ref a,.ref na])(_:H a=some (.ins CF dx []))(_:∀(H':Hp)(hd:zB0),H hd=none->H' a=some (.ins CF dx (f2 "nodes" "holds" (.ref na) (.ref hd)))->H' hd^^^[]->Off (· = a) H H'->Q .bh H')
abbrev UE:Wo:=inClass (top 71) 0
def Vj:aA ["self","nodes"] ["self","nodes"] (ax UE):=L2.bg
variable{CF:zB0}
theorem xy(F:b4 K "__init__" "Files.__init__" UE f fd)(G:ie K CF):↥aU 1 f fd ["self","nodes"] (Hx CF):=by
 show F.dg Vj ?_;intros;let#[a,dx,na,rfl,ho,k]:=h;show#[_,%[0,0,i,aH,1,k,aH,iT|9],?_]
 show#[0,0,a,CF,dx,[],rfl,ho,61,aE,?_];dsimp only;intro dd hd;let nd:dd≠a:=λe=>(by rwa[e,ag]at hd);let I:H dd=none:=(by rw[ay nd]at hd;show hd);show#[0,a,CF,dx,0,by rw[ay (zA3 nd),ag],G.cl,G.nH,102];show k _ dd I ag ?_ λb o e z=>?_
 .rw[ay nd,ag]
 .rw[ay z,ay (λq=>by rwa[q,I]at e),ay z];show e
def IP{r:qAa}{st:Nat}(h:st+8<=r.9):jY r ((r.drop st).take 8) st=r:=by
 unfold jY;rw[WI, <-drop_drop,Xf,Xf]
variable{c:DA}{CN a:zB0}{H H':Hp}{b:BA}{s s':BS}{aC d:Nat}{N:NS}{bk:qa4}{n:Int}{Q:VK}{e3:XK}
theorem NR.Pc(A:NR c CN H a b s aC N bk d)(L:N n=none)(G:0<=n)(I:n<24)(k:∀(H':Hp)(s':BS),NR c CN H' a b s' aC N bk d->dJ b s H s' H'->Q .bh H'):me c CN [.ref a,.int n] H Q e3:=by
 let#[r,F,lr,Z,_]:=A.at G I;let U:TN 8 0=(r.drop (rs n)).take 8:=(by rw[Z,L];rfl);let aa:=AS n;let Y:jY r (TN 8 0) (rs n)=r:=(by rw[U];show IP av);show#[77,r,rfl,A.O,G,I,F,λH' s' O g dd st=>k H' s' ?_ st];rw[Y]at g dd;rw[acW F]at dd;let el:lb s'=lb s:=funext λj=>by
  rw[g j];cases z:j=rb n
  .rw[acW z,z,F]
  .rw[acV z]
 show#[O,by rw[el];show A.R,WK dd A.d]
theorem NR.Nh(A:NR c CN H a b s aC N bk d)(L:N n=none)(G:0<=n)(F:n<24)(q:∀H',aO H H'->Q (.int 0) H'):lE 1 c CN [.ref a,.int n] H Q e3:=by
 let#[r,I,_,_,g]:=A.at G F;rw[L]at g;show#[77,r,(0),rfl,A.O,G,F,I,g 1 _ aE rfl,q]
def vR(p F:zB0)(cs:qAc)(x:zB0):Prop:=x=p\/x=F\/x∈cs
inductive wH(c:DA)(CN:zB0)(v:qAf)(H:Hp)(Q:VK)(e:XK):Prop
 |mk(a dx p bl:zB0)(d:Int)(cs:qAc)(bs:List (List Int))(_:v=[.ref a,.ref p])(_:H a=some (.ins CN dx []))(_:bI c.C H p bl d .bh false cs bs)(_:48<=bs.9/\bs.9<=300)(_:bs[0]?=some oF)(_:∀(H':Hp)(dr dd:zB0),NO c CN H' a #[dr,p,bl] #[104] (bs.9-48)->Off (· = a) H H'->H dr=none->H dd=none->Q .bh H')
abbrev Uc:Wo:=inClass (top 41) 0
def Tc:aA ["self","disk"] ["self","disk"] (ax Uc):=L2.bg
theorem uu{fD:zB0}{fdD:DO}(F:b4 K "__init__" "Nodes.__init__" Uc f fd)(T:mJ K mg CN)(TC:Txt K mg c.C)(MD:Mk K c.CD fD)(ap:↥aU 1 fD fdD ["self","disk"] (uI c))(ak:mg "Draft" = some (.ref c.CD))(aj:Binds K fdD ["self","disk"] [])(GI:↥Md 1 c.C "image" (Am c.C)):↥aU 3 f fd ["self","disk"] (wH c CN):=by
 show F.dg Tc ?_;intros;let#[a,dx,p,Z,d,cs,bs,rfl,ho,D,ln,z0,k]:=h;show#[_,%[0,0,i,aH,cz,MD,ap,ai,ak,aj,e,k,aH,l,a,w,dZ,1,dq,GI,hr,aD,D,B,T.iQ,bM|9],?_]
 show#[0,λI dz f1 ad ne=>?_];let U:aO H (upd (upd H dz (.own I)) I (.ins c.CD dz [])):=(au ad).trans (au (by rw[ay (zA3 ne)];show f1));show#[I,dz,p,Z,d,cs,bs,51,D.same U,ln,z0,λH1 dd Y o1 ac=>#[3]];let ar:H dd=none:=a8 U ac;let G:H1 a=some (.ins CN dx []):=o1 _ _ (U _ _ ho) λz=>(by rwa[z,f1]at ho);show#[0,a,CN,dx,[],rfl,G,20,aE,?_];let o2:Off (· = a) H1 (upd H1 a (.ins CN dx (bP "draft" (.ref I) []))):=λy u e z=>(by rw[ay z];show e);let aa:∀y,jZ #[I,p,Z] #[104] y->¬ y=a:=λy hy z=>by
  subst z;let A1:NR c CN (upd H1 y (.ins CN dx (f2 "draft" "total" (.ref I) (.int 0)))) y #[I,p,Z] #[104] 0 (λ_=>none) (λ_=>[]) 0\/True:=.inr trivial;let#[as,h2]:=Y.ob;let#[d2,L]:=Y.dk;let#[ab,h3]:=L.ob;rcases hy with e|e|e|e|e|⟨x,hx,_⟩
  .rw[e]at G;rw[h2]at G;simp only[Xi,HO.ins.injEq]at G;have:=G.2.2;rwa[kh kd]at this
  .rw[e]at G;rw[h3]at G;simp only[Xi,HO.ins.injEq]at G;have:=G.2.2;rwa[fE]at this
  .rw[e]at G;rwa[L.hb]at G
  .rw[e]at G;rwa[Y.hd]at G
  .let#[ns,q]:=ir L.hc _ e;rwa[q.1]at G
  .cases hx
 let B2:=Y.off o2 aa;let am:upd H1 a (.ins CN dx (bP "draft" (.ref I) [])) a=some (.ins CN dx (bP "draft" (.ref I) [])):=ag;let oH:Off (· = a) H (upd H1 a (.ins CN dx (bP "draft" (.ref I) []))):=λy u e z=>o2 _ _ (o1 _ _ (U _ _ e) λq=>by rwa[q,f1]at e) z;dsimp only;generalize upd H1 a (.ins CN dx (bP "draft" (.ref I) []))=H2 at *;let#[d2,L]:=B2.dk;let#[ab,h3]:=L.ob;show#[0,p,ab,0,h3,30,p,Z,d2,49,cs,bs,rfl,L,ln.2,λH3 l fs s3 _ e3 R3 _ _=>?_];show#[(48),rfl,l,0,38,λq4 f4=>?_];rw[show d8 (fs.map V.ref) (some 48) none=(fs.map V.ref).drop 48 from tW (s:=48)];let s4:=au (X:=.lst ((fs.map V.ref).drop 48)) f4;show#[q4,0,.inl (a9.of ag),0,a,CN,dx,0,s4 _ _ (s3 _ _ am),T.cl,T.nT,102];let fl:((fs.map V.ref).drop 48).9=bs.9-48:=(by rw[WC,dM,jL R3]);rw[fl];let B4:=(B2.same s3).same s4;let o5:Off (· = a) (upd H3 q4 (.lst ((fs.map V.ref).drop 48))) (upd (upd H3 q4 (.lst ((fs.map V.ref).drop 48))) a (.ins CN dx (bP "total" (.int ((bs.9-48:Nat):Int)) (bP "draft" (.ref I) [])))):=λy u e z=>(by rw[ay z];show e);show k _ I dd #[#[dx,ag],B4.off o5 aa,by change bs.9=48+(bs.9-48);omega] (λy u e z=>o5 _ _ (s4 _ _ (s3 _ _ (oH _ _ e z))) z) f1 ar
noncomputable def N0:NS:=cy (λ_=>none) 0 (some #[true,(1),[]])
theorem KU:∀m,us N0 m=0
 |0=>rfl
 |m+1=>by
  rw[m5,KU m];unfold N0 cy;cases z:(m:Int)=0
  .rw[acW z];rfl
  .rw[acV z];rfl
theorem kM{nd:Node}(h:N0 n=some nd):n=0/\nd=#[true,(1),[]]:=by
 unfold N0 cy at h;cases z:n=0
 .rw[acW z]at h;cases h;show#[z,rfl]
 .rw[acV z]at h;cases h
theorem KA(h:aC<=252):Je aC N0:=#[λn nd e=>by let#[rfl,_]:=kM e;show#[aE,aE],λn nd e=>by let#[_,rfl]:=kM e;show Xr _,by rw[KU];show Xr _,h]
theorem Pg:Fz N0 (λ_=>[]):=by
 show#[rfl,λn nd e _=>?_,λ_=>Xr _,λ_ s hs=>(by cases hs),λ_=>Xj,λ_ _=>rfl,103,λn nd e _=>?_,λn nd e=>?_]
 .let#[_,rfl]:=kM e;rfl
 .let z:refs (λ_=>[]) n=0:=by
   have:∀m,Ly (λ_=>[]) n m=0:=λm=>by
    induction m with
    |zero=>rfl
    |succ m F=>rw[rm,F];rfl
   show this 24
  rw[z];unfold lk N0 cy;cases c:n=0
  .rw[acW c,acW c];decide
  .rw[acV c,acV c];show Int.le_refl _
 .let#[_,rfl]:=kM e;rfl
 .let#[rfl,_]:=kM e;show#[aE,aE]
def oC{l:zB0}{X Y:HO}(h:H l=none):aO H (upd (upd H l X) l Y):=λb o e=>by rw[ay (bb e h),ay (bb e h)];show e
theorem Off.nn{x:zB0}(o:Off (· = a) H H')(n:x≠a)(h:H' x=none):H x=none:=by
 cases e:H x with
 |none=>rfl
 |some u=>rwa[o x u e n]at h
inductive NP(CP:zB0)(v:qAf)(H:Hp)(Q:VK)(e:XK):Prop
 |mk(a dx:zB0)(aC:Nat)(_:v=[.ref a,.int aC])(_:H a=some (.ins CP dx []))(_:aC<=252)(_:∀(H':Hp)(m:PS),xH CP H' a m aC N0 0->(∀x,yu m x->H x=none)->Off (· = a) H H'->Q .bh H')
noncomputable abbrev Mn:Wo:=inClass (top 78) 0
def Pq:aA ["self","total"] ["self","total"] (ax Mn):=L2.bg
variable{X:Er->zB0}{CP:zB0}
theorem ue(F:b4 K "__init__" "PlainNodes.__init__" Mn f fd)(TP:Dh K mg CP)(T:pP K mg X):↥aU 1 f fd ["self","total"] (NP CP):=by
 show F.dg Pq ?_;intros;let#[a,dx,aC,rfl,ho,ht,k]:=h;show#[_,%[0,0,i,aH,1,i,aH,P,(qj (keys:=[some _]) (values:=[_])),dM,cL,az,cU,dN,dO,i,aH,P,(qj (keys:=[some _]) (values:=[_])),dM,cL,aw,cU,dN,dO,k,aH,P,(qj (keys:=[some _]) (values:=[_])),dM,cL,aC,cU,dN,dO|9],?_]
 show#[0,28,[],rfl,ho,TP.cl,TP.nT,aE,?_];dsimp only;let o1:Off (· = a) H (upd H a (.ins CP dx (bP "total" (.int aC) []))):=λy u e z=>(by rw[ay z];show e);let h1:upd H a (.ins CP dx (bP "total" (.int aC) [])) a=some (.ins CP dx (bP "total" (.int aC) [])):=ag;generalize upd H a (.ins CP dx (bP "total" (.int aC) []))=H1 at *;intro kd fk;show#[ag,[(V8 0,.str "dir")],rfl,aE,?_];let s2:=oC (X:=.dK []) (Y:=.dK (cY [] [(V8 0,.str "dir")])) fk;let ek:upd (upd H1 kd (.dK [])) kd (.dK (cY [] [(V8 0,.str "dir")])) kd^^^[(V8 0,.str "dir")]:=ag;let aa:kd≠a:=λz=>(by rwa[z,h1]at fk);let as:H kd=none:=Off.nn o1 aa fk;show#[28,0,s2 _ _ h1,TP.cl,TP.nK,102];dsimp only;generalize upd (upd H1 kd (.dK [])) kd (.dK (cY [] [(V8 0,.str "dir")]))=H2 at *;let o3:Off (· = a) H (upd H2 a (.ins CP dx (bP "kinds" (.ref kd) (bP "total" (.int aC) [])))):=λy u e z=>(by rw[ay z];show s2 _ _ (o1 _ _ e z));let h3:upd H2 a (.ins CP dx (bP "kinds" (.ref kd) (bP "total" (.int aC) []))) a=some (.ins CP dx (bP "kinds" (.ref kd) (bP "total" (.int aC) []))):=ag;let ak:upd H2 a (.ins CP dx (bP "kinds" (.ref kd) (bP "total" (.int aC) []))) kd^^^[(V8 0,.str "dir")]:=(by rw[ay aa];show ek);generalize upd H2 a (.ins CP dx (bP "kinds" (.ref kd) (bP "total" (.int aC) [])))=H3 at *;intro lk fl;show#[ag,[(V8 0,.int 1)],rfl,aE,?_];let s4:=oC (X:=.dK []) (Y:=.dK (cY [] [(V8 0,.int 1)])) fl;let el:upd (upd H3 lk (.dK [])) lk (.dK (cY [] [(V8 0,.int 1)])) lk^^^[(V8 0,.int 1)]:=ag;let ac:lk≠a:=λz=>(by rwa[z,h3]at fl);let aB:H lk=none:=Off.nn o3 ac fl;let a2:kd≠lk:=λz=>(by rwa[<-z,ak]at fl);show#[28,0,s4 _ _ h3,TP.cl,TP.nL,by change 2<1000;decide,?_];dsimp only;let aT:=s4 _ _ ak;generalize upd (upd H3 lk (.dK [])) lk (.dK (cY [] [(V8 0,.int 1)]))=U at *;let o5:Off (· = a) H (upd U a (.ins CP dx (bP "links" (.ref lk) (bP "kinds" (.ref kd) (bP "total" (.int aC) []))))):=λy u e z=>(by rw[ay z];show s4 _ _ (o3 _ _ e z));let h5:upd U a (.ins CP dx (bP "links" (.ref lk) (bP "kinds" (.ref kd) (bP "total" (.int aC) [])))) a=some (.ins CP dx (bP "links" (.ref lk) (bP "kinds" (.ref kd) (bP "total" (.int aC) [])))):=ag;let ar:upd U a (.ins CP dx (bP "links" (.ref lk) (bP "kinds" (.ref kd) (bP "total" (.int aC) [])))) kd^^^[(V8 0,.str "dir")]:=(by rw[ay aa];show aT);let ap:upd U a (.ins CP dx (bP "links" (.ref lk) (bP "kinds" (.ref kd) (bP "total" (.int aC) [])))) lk^^^[(V8 0,.int 1)]:=(by rw[ay ac];show el);generalize upd U a (.ins CP dx (bP "links" (.ref lk) (bP "kinds" (.ref kd) (bP "total" (.int aC) []))))=L at *;intro I fs';show#[aE,λG Z=>?_];let ad:G≠I:=λz=>(by rwa[z,ag]at Z);let ab:L G=none:=(by rw[ay ad]at Z;show Z);show#[by rw[ay (zA3 ad),ag],[(V8 0,.ref G)],rfl,Wz rfl,?_];let s6:aO L (upd (upd (upd L I (.dK [])) G (.lst [])) I (.dK (cY [] [(V8 0,.ref G)]))):=λy u e=>by
  rw[ay (bb e fs'),ay (bb e ab),ay (bb e fs')];show e
 let es:upd (upd (upd L I (.dK [])) G (.lst [])) I (.dK (cY [] [(V8 0,.ref G)])) I^^^[(V8 0,.ref G)]:=ag;let ea:upd (upd (upd L I (.dK [])) G (.lst [])) I (.dK (cY [] [(V8 0,.ref G)])) G∣[]:=(by rw[ay ad,ag]);let aj:I≠a:=λz=>(by rwa[z,h5]at fs');let am:G≠a:=λz=>(by rwa[z,h5]at ab);let aK:H I=none:=Off.nn o5 aj fs';let a1:H G=none:=Off.nn o5 am ab;show#[28,0,s6 _ _ h5,TP.cl,TP.nS,by change 3<1000;decide,?_];let aP:=s6 _ _ ar;let a0:=s6 _ _ ap;generalize upd (upd (upd L I (.dK [])) G (.lst [])) I (.dK (cY [] [(V8 0,.ref G)]))=H6 at *;show k _ #[kd,lk,I,[(0,(G,#[true,(1),[]]))]] #[#[dx,ag],5,?_,λx hx=>?_,Wq.mpr #[λz=>(by cases z),Xj],#[a2,130,130],103,KA ht] (λx hx=>?_) λy u e z=>?_
 .rw[ay aa];show aP
 .rw[ay ac];show a0
 .rw[ay aj];show es
 .rw[sx.mp hx,ay am];show ea
 .let z':kd=I:=z;rwa[<-z',ar]at fs'
 .let z':lk=I:=z;rwa[<-z',ap]at fs'
 .unfold N0 cy;rw[bH];cases z:n=0
  .rw[acW z,acW z.6];rfl
  .rw[acV z,acV (zA3 z)];rfl
 .rcases hx with z|z|z|⟨y,hy,z⟩
  .rw[z];show as
  .rw[z];show aB
  .rw[z];show aK
  .rw[z,sx.mp hy];show a1
 .rw[ay z];show s6 _ _ (o5 _ _ e z)
def rd(bs:List (List Int))(j:Int):Option (List Int):=bs[j.5]?
variable{cs:qAc}
def zx{dd:zB0}{bs:List (List Int)}:lb #[104]=rd bs:=rfl
def P4(h:s.D=[]):lb s=rd s.bs:=funext λj=>by unfold lb rd;rw[h];rfl
inductive Lh(c:DA)(CN CF:zB0)(v:qAf)(H:Hp)(Q:VK)(e:XK):Prop
 |mk(a dx p bl:zB0)(d:Int)(cs:qAc)(bs:List (List Int))(N:NS)(bk:qa4)(_:v=[.ref a,.ref p])(_:H a=some (.ins CF dx []))(_:bI c.C H p bl d .bh false cs bs)(_:48<=bs.9/\bs.9<=300)(_:bs[0]?=some oF)(_:Rep (rd bs) (bs.9-48) N bk)(_:∀(H':Hp)(z:FA)(m:(tX c CN).St),z.a=a->gw (tX c CN) CF H' z m (bs.9-48) N [] 0->(∀x,(tX c CN).own m x->vR p bl cs x\/H x=none)->H z.na=none->H z.hd=none->Off (· = a) H H'->Q .bh H')
inductive M9(CP CF:zB0)(v:qAf)(H:Hp)(Q:VK)(e:XK):Prop
 |mk(a dx:zB0)(aC:Nat)(_:v=[.ref a,.int aC])(_:H a=some (.ins CF dx []))(_:aC<=252)(_:∀(H':Hp)(z:FA)(m:(j4 CP).St),z.a=a->gw (j4 CP) CF H' z m aC N0 [] 0->(∀x,(j4 CP).own m x->H x=none)->H z.na=none->H z.hd=none->Off (· = a) H H'->Q .bh H')
abbrev T6:Wo:=inClass (top 73) 0
abbrev Vo:Wo:=inClass (top 80) 0
def U9:aA ["self","disk"] ["self","disk"] (ax T6):=L2.bg
variable{CB fB fN:zB0}{fdB fdN:DO}
theorem uA(F:b4 K "__init__" "DiskFiles.__init__" T6 f fd)(am:∃u,mg "Files" = some u/\RelV (.ref CB) u)(aB:PySem.W.FO K CB fB)(aK:↥aU 1 fB fdB ["self","nodes"] (Hx CF))(aP:Binds K fdB ["self","nodes"] [])(MN:Mk K CN fN)(ad:↥aU 3 fN fdN ["self","disk"] (wH c CN))(Kk:mg "Nodes" = some (.ref CN))(aj:Binds K fdN ["self","disk"] []):↥aU 5 f fd ["self","disk"] (Lh c CN CF):=by
 let CB:=aB;show F.dg U9 ?_;intros;let#[a,dx,p,U,d,cs,bs,N,bk,rfl,ho,D,ln,z0,R,k]:=h;show#[_,%[0,0,j,d8,am,CB,aK,ai,aP,aD,o,cz,MN,ad,ai,Kk,aj,e|9],?_];show#[0,0,λna dz f1 as ne=>?_];let Z:aO H (upd (upd H dz (.own na)) na (.ins CN dz [])):=(au as).trans (au (by rw[ay (zA3 ne)];show f1));show#[na,dz,p,U,d,cs,bs,51,D.same Z,ln,z0,λH1 I dd O1 o1 ak ap=>#[3]];let ac:H I=none:=a8 Z ak;let ab:H dd=none:=a8 Z ap;let nn:∀{x u},H x=some u->¬ x=na:=λe z=>(by rwa[z,f1]at e);let h1:∀{x u},H x=some u->H1 x=some u:=λe=>o1 _ _ (Z _ _ e) (nn e);show#[a,dx,na,rfl,h1 ho,λH2 hd fh e2 eh o2=>?_];let G:NR c CN H1 na #[I,p,U] #[104] (bs.9-48) N bk 0:=#[O1,by rw[zx];show R,G0 _];let aa:¬ jZ #[I,p,U] #[104] a:=λz=>by
  let#[aT,h3]:=D.ob;rcases z with z|z|z|z|z|⟨x,L,_⟩
  .rw[z,show H I=none from ac]at ho;cases ho
  .rw[z,h3]at ho;simp only[Xi,HO.ins.injEq]at ho;have:=ho.2.2;rwa[fE]at this
  .rw[z,D.hb]at ho;cases ho
  .rw[z,show H dd=none from ab]at ho;cases ho
  .let#[ns,q]:=ir D.hc _ z;rwa[q.1]at ho
  .cases L
 let A2:NR c CN H2 na #[I,p,U] #[104] (bs.9-48) N bk 0:=by
  let#[dy,Y]:=G.O.ob;show#[#[#[dy,o2 _ _ Y (λz=>by rw[<-z]at ho;show nn ho rfl)],G.O.B.off o2 (λy Y z=>aa (z▸Y)),G.O.tt],G.R,G.d]
 let ar:H hd=none:=by
  cases e:H hd with
  |none=>rfl
  |some u=>rwa[h1 e]at fh
 show k H2 #[a,na,hd] (#[I,p,U],#[104],bk) rfl #[#[dx,e2],eh,Xj,A2,aa,λz=>G.O.B.live z fh,λx L=>by cases L] (λx L=>?_) f1 ar λy u e z=>o2 _ _ (h1 e) z;rcases L with z|z|z|z|z|⟨y,Y,_⟩
 .show .inr (by rw[z];show ac)
 .show .inl (.inl z)
 .show .inl (.inr (.inl z))
 .show .inr (by rw[z];show ab)
 .show .inl (.inr (.inr z))
 .cases Y
def R0:aA ["self","blocks"] ["self","blocks"] (ax Vo):=L2.bg
theorem sf{fP:zB0}{fdP:DO}(F:b4 K "__init__" "PlainFiles.__init__" Vo f fd)(aj:∃u,mg "Files" = some u/\RelV (.ref CB) u)(ac:PySem.W.FO K CB fB)(ak:↥aU 1 fB fdB ["self","nodes"] (Hx CF))(am:Binds K fdB ["self","nodes"] [])(MP:Mk K CP fP)(ar:↥aU 1 fP fdP ["self","total"] (NP CP))(ad:mg "PlainNodes" = some (.ref CP))(ap:Binds K fdP ["self","total"] []):↥aU 3 f fd ["self","blocks"] (M9 CP CF):=by
 let CB:=ac;show F.dg R0 ?_;intros;let#[a,dx,aC,rfl,ho,ht,k]:=h;show#[_,%[0,0,j,d8,aj,CB,ak,ai,am,aD,o,cz,MP,ar,ai,ad,ap,e|9],?_];show#[0,0,λna G U ab ne=>?_];let s1:aO H (upd (upd H G (.own na)) na (.ins CP G [])):=(au ab).trans (au (by rw[ay (zA3 ne)];show U));show#[na,G,aC,51,ht,λH1 m Z fm o1=>#[3]];let nn:∀{x u},H x=some u->¬ x=na:=λe z=>(by rwa[z,U]at e);let h1:∀{x u},H x=some u->H1 x=some u:=λe=>o1 _ _ (s1 _ _ e) (nn e);let Y:∀x,yu m x->H x=none:=λx I=>a8 s1 (fm x I);show#[a,dx,na,rfl,h1 ho,λH2 hd L e2 eh o2=>?_];let aa:¬ yu m a:=λz=>(by rwa[Y a z]at ho);let A2:xH CP H2 na m aC N0 0:=Z.off o2 (λy hy z=>aa (z▸hy)) (λz=>by rw[<-z]at ho;show nn ho rfl);let as:H hd=none:=by
  cases e:H hd with
  |none=>rfl
  |some u=>rwa[h1 e]at L
 show k H2 #[a,na,hd] m rfl #[#[dx,e2],eh,Xj,A2,aa,λz=>Z.live z L,λx I=>by cases I] Y U as λy u e z=>o2 _ _ (h1 e) z
noncomputable def k7(n:Nat):List (List Int):=TN n (TN 16 0)
theorem rep0{n:Nat}(G:n=48+aC):Rep (rd (k7 n)) aC (λ_=>none) (λ_=>[]):=by
 show#[λm _ m1=>?_,λ_=>rfl,114,114,114,λ_ _ _ _ _ h=>(by cases h),114,114];let F:=AS m;show#[TN 16 0,5]
 .unfold rd k7 rb;rw[Yf,acW av]
 .rcases F with e|e<;>rw[e]<;>rfl
structure R5(K:Wa)(mg:qa3)(CN:zB0):Prop where
 cl:qa K CN
 pC:∃u,mg "NODES" = some u/\RelV (.int 24) u
 vG:∃u,mg "ROOT" = some u/\RelV (.int 0) u
 range:mg "range" = none
theorem zT{ns:qAa}(h:some (HO.lst (cs.map V.ref))∣(ns.map V.int))(l:ns.9=16):False:=by
 injection h with h;injection h with h;cases ns with
 |nil=>cases l
 |cons n ns =>
  cases cs with
  |nil=>cases h
  |cons y ys=>injection h with h1;cases h1
inductive NA(c:DA)(v:qAf)(H:Hp)(Q:VK)(e:XK):Prop
 |mk(p bl:zB0)(d:Int)(cs:qAc)(aC:Nat)(_:v=[.ref p])(_:bI c.C H p bl d .bh false cs (k7 (48+aC)))(_:1<=aC/\aC<=252)(_:∀(H':Hp)(d':Int)(cs':qAc)(bs':List (List Int))(bk:qa4),bI c.C H' p bl d' .bh false cs' bs'->bs'.9=48+aC->bs'[0]?=some oF->Rep (rd bs') aC N0 bk->(∀x∈cs',x∈cs\/H x=none)->Off (vR p bl cs) H H'->Q .bh H')
inductive Gf(c:DA)(CN:zB0)(v:qAf)(H:Hp)(Q:VK)(e:XK):Prop
 |mk(a:zB0)(b:BA)(s:BS)(aC:Nat)(N:NS)(bk:qa4)(_:v=[.ref a])(_:NR c CN H a b s aC N bk 0)(_:∀n nd,N n=some nd->¬ nd.ln=0)(_:∀(H':Hp)(s':BS),NR c CN H' a b s' aC N bk 0->s'.D=[]->dJ b s H s' H'->Q .bh H')
inductive L8(c:DA)(CN CF:zB0)(v:qAf)(H:Hp)(Q:VK)(e:XK):Prop
 |mk(p bl:zB0)(d:Int)(cs:qAc)(bs:List (List Int))(aC:Nat)(N:NS)(bk:qa4)(_:v=[.ref p])(_:bI c.C H p bl d .bh false cs bs)(_:bs.9=48+aC)(_:1<=aC/\aC<=252)(_:bs[0]?=some oF)(_:Rep (rd bs) aC N bk)(_:∀n nd,N n=some nd->¬ nd.ln=0)(_:∀(H':Hp)(z:FA)(m:(tX c CN).St),gw (tX c CN) CF H' z m aC N [] 0->(∀x,(tX c CN).own m x->vR p bl cs x\/H x=none)->(vR p bl cs z.a\/H z.a=none)->(vR p bl cs z.na\/H z.na=none)->(vR p bl cs z.hd\/H z.hd=none)->Off (vR p bl cs) H H'->Q (.ref z.a) H')
abbrev UR:Wo:=top 74
abbrev Vk:Wo:=top 76
abbrev Su:Wo:=top 75
def Nl:aA ["disk","nodes","n"] ["disk"] (ax UR):=L2.bg
theorem BO{CFl:zB0}(F:b4 K "format_disk" "format_disk" UR f fd)(T0:mJ K mg CN)(TX:pP K mg X)(ap:⇑Df 3 "forget" (qP c.C CFl))(MN:Mk K CN fN)(aj:↥aU 3 fN fdN ["self","disk"] (wH c CN))(Kk:mg "Nodes" = some (.ref CN))(ak:Binds K fdN ["self","disk"] [])(gE:↥Md 5 CN "end_node" (me c CN))(gB:↥Md 5 CN "begin_node" (JS c CN))(gF:↥Md 7 CN "finish" (qY c CN)):↥aU 8 f fd ["disk"] (NA c):=by
 let T:R5 K mg CN:=#[T0.cl,T0.pC,TX.vG,T0.range];show F.dg Nl ?_;intros;let#[p,G,d,cs,aC,rfl,D,ht,k]:=h;let lz:(k7 (48+aC)).9=48+aC:=WM ..;show#[_,%[Nl,hr,t,ef,ap,c6,iZ,q,bk,cz,MN,aj,c2,Kk,ak,q,aL,b0,a,cR,av,2,j,ae,1,dS,gE,h,t,ae,1,dS,gB,d,cL,y,j,dI,1,gF|9],?_]
 show#[0,p,G,d,.bh,cs,k7 (48+aC),rfl,D,.inl rfl,av,λz=>(by cases z),λ_ H1 aa D1 aT o1=>?_];let ez:(k7 (48+aC)).set 0 oF=k7 (48+aC):=by
  show Z1 λi=>?_;rw[List.getElem?_set];unfold k7 at *;cases c:0=i
  .subst c;rw[acW rfl,acW av,Yf,acW av];rfl
  .rw[acV c]
 rw[ez]at D1;let D1:bI c.C H1 p G (d+1) .bh false aa (k7 (48+aC)):=D1;show#[0,λna dz f1 aB ne=>?_];let Z:aO H1 (upd (upd H1 dz (.own na)) na (.ins CN dz [])):=(au aB).trans (au (by rw[ay (zA3 ne)];show f1));show#[na,dz,p,G,d+1,aa,k7 (48+aC),51,D1.same Z,av,?_,λH2 dr dd O2 o2 am ar=>#[3]]
 .unfold k7;rw[Yf,acW av];rfl
 let et:(k7 (48+aC)).9-48=aC:=av;rw[et]at O2;let A2:NR c CN H2 na #[dr,p,G] #[dd,aa,k7 (48+aC),[]] aC (λ_=>none) (λ_=>[]) 0:=#[O2,by rw[zx];show rep0 rfl,G0 _];let aP:H1 dr=none:=a8 Z am;let aK:H1 dd=none:=a8 Z ar;show#[44];show gQ (lo:=0) (n:=24) (λ_ σ J=>AO λ(v2:Option V)(si:BS)=>yd (σ=#v[.ref p,.ref na,v2]) (NR c CN J na #[dr,p,G] si aC (λ_=>none) (λ_=>[]) 0) (dJ #[dr,p,G] #[dd,aa,k7 (48+aC),[]] H2 si J)) #[_,0,A2,#[96,λ_ h=>.inl h]] ?_ ?_
 .rintro i σ J hi ⟨v2,si,rfl,AJ,ad⟩;let#[Y,U]:=AJ.O.ob;show#[0,na,Y,0,U,11,AJ.Pc rfl av av λJ2 s2 A3 ac=>#[_,0,A3,ad.trans ac]]
 .rintro σ J ⟨v2,si,rfl,AJ,ad⟩;let#[Y,U]:=AJ.O.ob;show#[0,na,Y,0,U,bJ aF aF,na,_,si,aC,(0),2,(0),true,rfl,AJ,aE,aE,λJ2 s2 A3 ac=>?_];let#[Y,U]:=A3.O.ob;show#[0,na,Y,0,U,bJ aF aF,na,_,s2,aC,2,0,A3,aE,λJ3 s3 A4 hD as=>?_];let#[d4,D4]:=A4.O.B.dk;let ST:=ad.trans (ac.trans as);let nw:∀x,¬ vR p G cs x->H x≠none->¬ jZ #[dr,p,G] #[dd,aa,k7 (48+aC),[]] x/\¬ x=na:=λx L al=>by
   let ab:H1 x≠none:=by
    cases e:H x with
    |none=>show absurd e al
    |some u=>rw[o1 x u e (λz=>L (z.elim .inl λz=>.inr (.inl z)))];nofun
   show#[130,λz=>ab (by rw[z];show f1)];rcases z with z|z|z|z|z|⟨y,U,_⟩
   .show ab (by rw[z];show aP)
   .show L (.inl z)
   .show L (.inr (.inl z))
   .show ab (by rw[z];show aK)
   .rcases aT x z with w|w
    .show L (.inr (.inr w))
    .show al w
   .cases U
  show k J3 d4 s3.cs s3.bs _ D4 A4.O.tt A4.O.B.z0 (by rw[<-P4 hD];show A4.R) (λx L=>?_) λx u e z=>?_
  .cases hc:x∈cs
   .show .inl hc
   .cases e:H x with
    |none=>show .inr rfl
    |some u =>
     exfalso;let al:H x≠none:=(by rw[e];nofun);cases I:x=p\/x=G
     .let#[ns,q]:=ir D4.hc _ L;let#[a0,h4]:=D4.ob;let#[q1,q2]:=q;rcases I with I|I
      .rw[I,show J3 p=_ from h4]at q1;cases q1
      .rw[I,show J3 G=_ from D4.hb]at q1;show zT q1 q2
     .let nd:¬ vR p G cs x:=λz=>z.elim (λz=>I (.inl z)) λz=>z.elim (λz=>I (.inr z)) hc;let#[w1,w2]:=nw x nd al;rcases ST.2 x (.inr (.inr (.inr (.inr (.inl L)))))with z|z
      .show w1 z
      .rw[o2 x u (Z _ _ (o1 x u e λz=>nd (z.elim .inl λz=>.inr (.inl z)))) w2]at z;cases z
  .let#[w1,w2]:=nw x z (by rw[e];nofun);show ST.1 x u (o2 x u (Z _ _ (o1 x u e λw=>z (w.elim .inl λw=>.inr (.inl w)))) w2) w1
def Qp:aA ["nodes","n"] ["nodes"] (ax Vk):=L2.bg
theorem rY(F:b4 K "end_nameless" "end_nameless" Vk f fd)(T:mJ K mg CN)(gL:↥Md 5 CN "links_of" (lE 1 c CN))(gE:↥Md 5 CN "end_node" (me c CN))(gF:↥Md 7 CN "finish" (qY c CN)):↥aU 8 f fd ["nodes"] (Gf c CN):=by
 show F.dg Qp ?_;intros;let#[a,b,s',aC,N,bk,rfl,A1,hl,k]:=h;show#[_,%[Qp,hr,aL,b0,a,cR,av,1,k,aX,g,ag,gL,e,r,j,ag,gE,e,j,dI,0,gF|9],?_]
 show#[44];show gQ (lo:=0) (n:=24) (λ_ σ J=>AO λ(v1:Option V)(L:BS)=>yd (σ=[some (.ref a),v1]) (NR c CN J a b L aC N bk 0) (dJ b s' H L J)) #[_,0,A1,#[96,λ_ h=>.inl h]] ?_ ?_
 .rintro i σ J hi ⟨v1,L,rfl,I,U⟩;let#[Z,hy]:=I.O.ob;let e0:(0:Int)+(i:Int)=(i:Int):=av;let same:∀J2,aO J J2->dJ b s' H L J2:=λJ2 G=>#[λx u e z=>G _ _ (U.1 x u e z),U.2];show#[0,a,Z,0,hy,11,?_];rw[e0];cases Y:N (i:Int)with
  |none =>
   show I.Nh Y av av λJ2 G=>#[rfl,45];let A2:=I.same G;show#[0,a,Z,0,G _ _ hy,11,A2.Pc Y av av λJ3 s3 A3 ab=>#[_,0,A3,(same J2 G).trans ab]]
  |some nd =>
   show I.links Y λJ2 G=>#[9];rw[zA2 (show ¬ V.int nd.ln=V.int 0 from λz=>hl _ _ Y (V.int.inj z))];show bA #[_,0,I.same G,same J2 G]
 .rintro σ J ⟨v1,L,rfl,I,U⟩;let#[Z,hy]:=I.O.ob;show#[0,a,Z,0,hy,bJ aF aF,a,b,L,aC,(0),N,bk,rfl,I,aE,λJ3 s3 A4 hD aa=>k J3 s3 A4 hD (U.trans aa)]
def RA:aA ["disk"] ["disk"] (ax Su):=L2.bg
theorem GJ{fF:zB0}{fdF:DO}(F:b4 K "mount" "mount" Su f fd)(as:↥Df 4 "recover" (n9 c.C))(a4:↥Df 8 "end_nameless" (Gf c CN))(MN:Mk K CN fN)(ad:↥aU 3 fN fdN ["self","disk"] (wH c CN))(Kk:mg "Nodes" = some (.ref CN))(aj:Binds K fdN ["self","disk"] [])(MF:Mk K CF fF)(a2:↥aU 5 fF fdF ["self","disk"] (Lh c CN CF))(aT:mg "DiskFiles" = some (.ref CF))(ar:Binds K fdF ["self","disk"] []):↥aU 9 f fd ["disk"] (L8 c CN CF):=by
 show F.dg RA ?_;intros;let#[p,G,d,cs,bs,aC,N,bk,rfl,D,a6,ht,z0,R,hl,k]:=h;show#[_,%[0,hr,t,c,as,q,t,c,a4,a,cz,MN,ad,c2,Kk,aj,q,b,cz,MF,a2,c2,aT,ar,q|9],?_]
 let g1:bs[1]?=some bs[1]:=y0 av;show#[0,p,G,d,cs,bs,oF,bs[1],rfl,D,av,av,z0,g1,.inl #[rfl,λH0 s0=>?_]];let D0:=D.same s0;show#[0,λna dz f1 aP ne=>?_];let s1:aO H0 (upd (upd H0 dz (.own na)) na (.ins CN dz [])):=(au aP).trans (au (by rw[ay (zA3 ne)];show f1));show#[na,dz,p,G,d,cs,bs,51,D0.same s1,av,z0,λH2 dr dd O2 o2 ak ap=>#[3]];let et:bs.9-48=aC:=av;rw[et]at O2;let A2:NR c CN H2 na #[dr,p,G] #[104] aC N bk 0:=#[O2,by rw[zx];show R,G0 _];let a1:H0 dr=none:=a8 s1 ak;let a0:H0 dd=none:=a8 s1 ap;show#[na,#[dr,p,G],_,aC,N,bk,rfl,A2,hl,λY Z U hD ST=>?_];let#[d4,D4]:=U.O.B.dk;let nw:∀x,¬ vR p G cs x->H x≠none->¬ jZ #[dr,p,G] #[104] x/\¬ x=na:=λx I al=>by
  let aa:H0 x≠none:=by
   cases e:H x with
   |none=>show absurd e al
   |some u=>rw[s0 x u e];nofun
  show#[130,λz=>aa (by rw[z];show f1)];rcases z with z|z|z|z|z|⟨y,hy,_⟩
  .show aa (by rw[z];show a1)
  .show I (.inl z)
  .show I (.inr (.inl z))
  .show aa (by rw[z];show a0)
  .show I (.inr (.inr z))
  .cases hy
 let oJ:Off (vR p G cs) H Y:=λx u e z=>by
  let#[w1,w2]:=nw x z (by rw[e];nofun);show ST.1 x u (o2 x u (s1 _ _ (s0 x u e)) w2) w1
 let aK:∀x∈Z.cs,x∈cs\/H x=none:=λx I=>by
  cases hc:x∈cs
  .show .inl hc
  .cases e:H x with
   |none=>show .inr rfl
   |some u =>
    exfalso;let al:H x≠none:=(by rw[e];nofun);cases L:x=p\/x=G
    .let#[ns,q1,q2]:=ir D4.hc _ I;let#[a7,h4]:=D4.ob;rcases L with L|L
     .rw[L,show Y p=_ from h4]at q1;cases q1
     .rw[L,show Y G=_ from D4.hb]at q1;show zT q1 q2
    .let nd:¬ vR p G cs x:=λz=>z.elim (λz=>L (.inl z)) λz=>z.elim (λz=>L (.inr z)) hc;let#[w1,w2]:=nw x nd al;rcases ST.2 x (.inr (.inr (.inr (.inr (.inl I)))))with z|z
     .show w1 z
     .rw[o2 x u (s1 _ _ (s0 x u e)) w2]at z;cases z
 let live:∀x,Y x=none->vR p G cs x\/H x=none:=λx I=>by
  cases hd:vR p G cs x
  .show .inl hd
  .cases e:H x with
   |none=>show .inr rfl
   |some u=>rwa[oJ x u e hd]at I
 show#[0,λfa ab g1 g2 a5=>?_];let s5:aO Y (upd (upd Y ab (.own fa)) fa (.ins CF ab [])):=(au g2).trans (au (by rw[ay (zA3 a5)];show g1));show#[fa,ab,p,G,d4,Z.cs,Z.bs,N,bk,51,D4.same s5,by have:=U.O.tt;omega,U.O.B.z0,?_,λH6 z m ez ac am a3 aB o6=>#[3]]
 .rw[<-P4 hD,show Z.bs.9-48=aC by have:=U.O.tt;omega];show U.R
 rw[show Z.bs.9-48=aC by have:=U.O.tt;omega]at ac;subst ez;show k H6 z m ac (λx I=>?_) (live _ g1) (live _ (a8 s5 a3)) (live _ (a8 s5 aB)) λx u e w=>o6 x u (s5 _ _ (oJ x u e w)) λq=>(live x (by rw[q];show g1)).elim w λq2=>(by rwa[q2]at e);rcases am x I with w|w
 .rcases w with w|w|w
  .show .inl (.inl w)
  .show .inl (.inr (.inl w))
  .show(aK x w).imp (λw=>.inr (.inr w)) id
 .show live _ (a8 s5 w)
end Fs
namespace L2
open PySem PySem.Spec PyProof.Rows
def xt(p:zB0):HO:=.ext λh=>h.get? p=some { cls:=.type "tuple",data:=.seq ([.type "list",.type "tuple"].8) }
def Oh(t:TA):TE:=λσ H Q=>t σ H λxs H1=>xs=[.ty "list",.ty "tuple"]/\∀p,H1 p=none->Q (.ref p) (upd H1 p (xt p))
variable{X:Cx}
theorem Gm{x1}{es:qAe}{pos:XU}{t:TA}(h:PA X es t):PE X (.Tuple es x1 pos) (Oh t):=by
 intros Q I L;show abg (cc (h pos pins s σ H _ I L) λus F z=>?_);let#[xs,H1,G,r,e,q]:=z;subst e;cases r with
 |cons a r =>
 obtain rfl:_=Value.type "list" := a;cases r with
 |cons b r =>
 obtain rfl:_=Value.type "tuple" := b;cases r;show#[by change 2<=sizeLine;rw[DD];decide,?_];let U:H1 F⁻¹=none:=G.bL.fresh (G0 _);show#[.ref F⁻¹,upd H1 F⁻¹ (xt F⁻¹),99,q _ U];show#[37,#[_,37],λh1 h2 e k=>k _ e]
inductive OD(H:Hp):V->Bool->Prop where
 |bh:OD H .bh false
 |int(i:Int):OD H (.int i) false
 |str(x:Str):OD H (.str x) false
 |lst {a:zB0}{xs:qAf}(e:H a∣xs):OD H (.ref a) true
 |tup {a:zB0}{xs:qAf}(e:H a|||xs):OD H (.ref a) true
inductive KC(xs:qAf)(H:Hp)(Q:VK):Prop
 |mk(x:V)(p:zB0)(b:Bool)(_:xs=[x,.ref p])(_:H p=some (xt p))(_:OD H x b)(_:Q (.bl b) H)
theorem Cj:eI X (.builtin "isinstance") KC:=by
 intros xs us Q I r h;let#[x,p,b,rfl,U,hk,q]:=h;let#[u,c,rfl,ru,L]:=vals2 r;obtain rfl:c=Value.ref p:=L;let#[F,_]:=I.bL _ _ U;let tl:typeOf (Value.type "list")=pure (Value.type "type"):=(by rfl);let tt:typeOf (Value.type "tuple")=pure (Value.type "type"):=(by rfl);let fin:∀tk,EP X pins σ Q (Value.bool b) { s with toks:=tk }:=λtk=>#[.bl b,H,I.tok _,rfl,q];cases hk with
 |bh =>
  cases ru;show YE (Yv (cs:=[.type "list",.type "tuple"]) (Tx := "NoneType") (.cons (aaM aE tl (by with_unfolding_all rfl)) (.cons (aaM aE tt (by with_unfolding_all rfl)) .nil))) #[rfl,F,fin]
 |int i =>
  let#[t,rfl]:=ru;show YE (Yv (cs:=[.type "list",.type "tuple"]) (Tx := "int") (.cons (aa6 aE tl (by with_unfolding_all rfl)) (.cons (aa6 aE tt (by with_unfolding_all rfl)) .nil))) #[rfl,F,fin]
 |str y =>
  let#[t,rfl]:=ru;show YE (Yv (cs:=[.type "list",.type "tuple"]) (Tx := "str") (.cons (aa7 aE tl (by with_unfolding_all rfl)) (.cons (aa7 aE tt (by with_unfolding_all rfl)) .nil))) #[rfl,F,fin]
 |lst e =>
  cases ru;let#[_,its,n,_,_,e]:=I.pG e;show YE (Yv (cs:=[.type "list",.type "tuple"]) (Tx := "list") (.cons (acv tl (by with_unfolding_all rfl)) (.cons (Answers.of_false_list aE tt (by with_unfolding_all rfl)) .nil))) #[#[81],F,fin]
 |tup e =>
  cases ru;let#[its,_,#[o,G,Y,_],_]:=I.tuple (cX.of e);show YE (Yv (cs:=[.type "list",.type "tuple"]) (Tx := "tuple") (.cons (Answers.of_false_tuple aE tl (by with_unfolding_all rfl)) (.cons (acv tt (by with_unfolding_all rfl)) .nil))) #[#[o,G,Y],F,fin]
end L2
namespace Fs
open PySem L2 Dk Tb Srt
inductive Dd
 |make(kd:Bool)(p:Str)
 |unlink(p:Str)
 |rmdir(p:Str)
 |link(p q:Str)
 |move(p q:Str)
 |write(n a:Int)(cs:qAa)
def su(H:Hp)(t:zB0)(d:Dd):Prop:=match d with
 |.make kd p=>H t|||[.str (if kd=true then "make_dir" else "make"),.str p]
 |.unlink p=>H t|||[.str "unlink",.str p]
 |.rmdir p=>H t|||[.str "remove_dir",.str p]
 |.link p q=>H t|||[.str "link",.str p,.str q]
 |.move p q=>H t|||[.str "move",.str p,.str q]
 |.write n a cs=>∃l,H t|||[.str "write_at",.int n,.int a,.ref l]/\H l∣(cs.map V.int)
abbrev sm(n:Int):Prop:=n.12<=1000000
def yU(d:Dd):Prop:=match d with
 |.make _ p=>cH p
 |.unlink p=>cH p
 |.rmdir p=>cH p
 |.link p q=>cH p/\cH q
 |.move p q=>cH p/\cH q
 |.write n a cs=>sm n/\sm a/\cs.9<=1000
noncomputable def De(aC:Nat)(N:NS)(S:SS)(d:Dd):Except Er (NS×SS):=match d with
 |.make kd p=>(jw aC N S p kd).map λx=>x.2
 |.unlink p=>hU N S [] p
 |.rmdir p=>hG N S p
 |.link p q=>j8 aC N S p q
 |.move p q=>ki aC N S p q
 |.write n a cs=>(jk aC N n a cs).map λN'=>(N',S)
theorem qb{α β:Type}{f:α->β}{x:Except Er α}{b:β}(h:x.map f=.ok b):∃a,x=.ok a/\f a=b:=by
 cases x with
 |error e=>cases h
 |ok a=>cases h;show#[a,1]
theorem tV{aC:Nat}{N:NS}{S:SS}{d:Dd}{N':NS}{S':SS}(F:Fz N S)(ok:yU d)(e:De aC N S d=.ok (N',S')):Fz N' S':=by
 cases d with
 |make kd p=>let#[#[u,x],q,e]:=qb e;cases e;show JF F ok q
 |unlink p=>show B0 F e
 |rmdir p=>show CM F e
 |link p p2=>show HE F ok.1 ok.2 e
 |move p p2=>show JP F ok.1 ok.2 e
 |write n a cs=>let#[x,q,e]:=qb e;cases e;show E7 F q
variable{x:Str}{A rest:sy}{D:Ends}{R:XR}{σ:St}{H:Hp}{t:zB0}{xs:qAf}
theorem NM{w:Str}(h1:σ[1]?=some (some (.ref t)))(F:H t|||(.str w::xs))(ne:¬ w=x)(k:rest D R σ H):tj (Mb (pb (wt K1 (wt (lg K) (fX 1) (tC (.int 0))) (tC (.str x)))) A yD) rest D R σ H:=by
 show#[_,h1,41,.str w,1,cX.of F,84,9];rw[zA2 (show ¬ V.str w=V.str x from λz=>ne (V.str.inj z))];show bA k
theorem MT(h1:σ[1]?=some (some (.ref t)))(F:H t|||(.str x::xs))(k:A { D with nx:=rest D R } R σ H):tj (Mb (pb (wt K1 (wt (lg K) (fX 1) (tC (.int 0))) (tC (.str x)))) A yD) rest D R σ H:=by
 show#[_,h1,41,.str x,1,cX.of F,84,9];rw[zA1 rfl];show bU k
inductive Mh(M:cU)(CF:zB0)(X:Er->zB0)(vs:qAf)(H:Hp)(Q:VK)(e3:XK):Prop
 |mk(z:FA)(m:M.St)(aC:Nat)(N:NS)(S:SS)(t:zB0)(d:Dd)(_:vs=[.ref z.a,.ref t])(_:gw M CF H z m aC N [] 0)(_:Fz N S)(_:su H t d)(_:yU d)(_:∀e,De aC N S d=.error e->∀H',aO H H'->e3 (.ref (X e)) none H')(_:∀N' S',De aC N S d=.ok (N',S')->∀(H':Hp)(m':M.St)(v:V),gw M CF H' z m' aC N' [] 0->ik M z m H m' H'->Q v H')
abbrev T4:Wo:=top 86
def rM{α β:Type}{f:α->β}{x:Except Er α}{a:α}(h:x=.ok a):x.map f=.ok (f a):=by rw[h];rfl
def oa{α β:Type}{f:α->β}{x:Except Er α}{e:Er}(h:x=.error e):x.map f=.error e:=by rw[h];rfl
def L5:aA ["_law_files","_law_deed_here","_law_handed","_law_found_here"] ["_law_files","_law_deed_here"] (ax T4):=L2.bg
variable{X:Er->zB0}{CF:zB0}{M:cU}
theorem HK(F:b4 K "_law_done" "_law_done" T4 f fd)(T:pP K mg X)(TF:ie K CF)(O:M.Ok P w K mg base)(ab:⇑Md 12 CF "make" (Eh false M CF X))(ap:⇑Md 12 CF "make_dir" (Eh true M CF X))(ar:⇑Md 10 CF "unlink" (N4 M CF X))(ac:⇑Md 10 CF "remove_dir" (NX M CF X))(ad:⇑Md 11 CF "link" (K4 M CF X))(ak:⇑Md 11 CF "move" (Le M CF X))(aj:⇑Md 11 CF "write_at" (Nk M CF X)):⇑aU 13 f fd ["_law_files","_law_deed_here"] (Mh M CF X):=by
 show F.gx L5 ?_;intros;let#[z,m,aC,N,S,t,d,rfl,Y,Z,G,ok,kE,kQ]:=h;let#[dy,U]:=Y.ob;show#[_,%[L5,0,aS,g,bs,W,cy,cn,0,ab,a,G,aS,g,bs,W,cy,cn,0,ap,a,G,aS,g,bs,W,cy,cn,0,ar,a,G,aS,g,bs,W,cy,cn,0,ac,a,G,aS,g,bs,W,cy,cn,0,ad,d,G,a,G,aS,g,bs,W,cy,cn,0,ak,d,G,a,G,aS,g,bs,aE,2,cb,a,G,aW,3,cn,0,aj,d,G,d,G,h,au,t,be,cV,iz,2,aI,i,bj,aw,cY,2,aw,b,3,au,cu|9],?_]
 cases d with
 |make kd p =>
  cases kd with
  |false =>
  let G:H t|||[.str "make",.str p]:=G
  repeat (show NM rfl G aF ?_)
  show MT rfl G ?_;show#[98,Y,Z,ok,λe I=>kE e (oa I),λu N' S' hk H' m' L st=>kQ _ _ (rM hk) H' m' _ L (ik.of st)]
  |true =>
  let G:H t|||[.str "make_dir",.str p]:=G
  repeat (show NM rfl G aF ?_)
  show MT rfl G ?_;show#[98,Y,Z,ok,λe I=>kE e (oa I),λu N' S' hk H' m' L st=>kQ _ _ (rM hk) H' m' _ L (ik.of st)]
 |unlink p =>
  let G:H t|||[.str "unlink",.str p]:=G
  repeat (show NM rfl G aF ?_)
  show MT rfl G ?_;show#[98,Y,Z,ok,86]
 |rmdir p =>
  let G:H t|||[.str "remove_dir",.str p]:=G
  repeat (show NM rfl G aF ?_)
  show MT rfl G ?_;show#[98,Y,Z,ok,86]
 |link p p2 =>
  let G:H t|||[.str "link",.str p,.str p2]:=G
  repeat (show NM rfl G aF ?_)
  show MT rfl G ?_;show#[15,U,bJ aF aF,83,0,t,_,(2),.str p2,110,z,m,aC,N,S,[],p,p2,rfl,Y,Z,ok.1,ok.2,86]
 |move p p2 =>
  let G:H t|||[.str "move",.str p,.str p2]:=G
  repeat (show NM rfl G aF ?_)
  show MT rfl G ?_;show#[15,U,bJ aF aF,83,0,t,_,(2),.str p2,110,z,m,aC,N,S,[],p,p2,rfl,Y,Z,ok.1,ok.2,86]
 |write n a cs =>
  let#[l,G,hl]:=(show ∃l,H t|||[.str "write_at",.int n,.int a,.ref l]/\H l∣(cs.map V.int)from G)
  repeat (show NM rfl G aF ?_)
  show MT rfl G ?_;let hs:=DD;show#[0,t,_,(3),.ref l,1,cX.of G,aL (j:=3) rfl,65,λg fg=>?_];exists fg,(.lst (cs.map V.int)),s1,e1,H1;let A1:=Y.same O s1;let ng:¬ M.own m g:=λw=>O.live Y.A w fg;let G:=s1 _ _ G;show#[15,s1 _ _ U,11,t,_,(1),.int n,1,cX.of G,89,0,t,_,(2),.int a,110,0,z,m,aC,N,[],n,a,g,cs,rfl,A1,ok,e1,ng,λe I H' s'=>kE e (oa I) H' (s1.trans s'),λN' hk H' m' L st=>?_];let e2:=st.1 _ _ e1 ng;let aa:¬ M.own m' g:=λw=>by
   rcases st.2 _ w with w|w
   .show ng w
   .rw[w]at e1;cases e1
  let na:¬ z.a=g:=λw=>(by rwa[w,fg]at U);let nn:¬ z.na=g:=λw=>by
   let#[dx,fs',ho,_]:=O.ob Y.A;rwa[w,fg]at ho
  let nh:¬ z.hd=g:=λw=>by
   have:=Y.hh;rwa[w,fg]at this
  let l3:=ok.2.2;show#[0,.inl #[4,a9.of e2],g,_,.int 7,1,e2,87,?_];let o3:Off (· = g) H' (upd H' g (.lst (cs.map V.int++[V.int 7]))):=λy u e w=>(by rw[ay w];show e);let A3:=L.off O o3 (λy U w=>aa (w▸U)) na nn nh;let e3:upd H' g (.lst (cs.map V.int++[V.int 7])) g∣(cs.map V.int++[V.int 7]):=ag;let oH:Off (λy=>M.own m y\/y=z.hd) H (upd H' g (.lst (cs.map V.int++[V.int 7]))):=λy u e w=>o3 _ _ (st.1 _ _ (s1 _ _ e) λq=>w (.inl q)) λq=>(by rwa[q,fg]at e);generalize upd H' g (.lst (cs.map V.int++[V.int 7]))=H3 at *;let am:yF (cs.map V.int++[V.int 7]).length 0=some 0:=by
   unfold yF;rw[acW aE,acW (by rw[ti,NC];omega)];rfl
  show#[0,g,_,36,1,e3,am,?_];let o4:Off (· = g) H3 (upd H3 g (.lst ((cs.map V.int++[V.int 7]).set 0 (V.int 9)))):=λy u e w=>(by rw[ay w];show e);let A4:=A3.off O o4 (λy U w=>aa (w▸U)) na nn nh;show#[0,kQ _ _ (rM hk) _ m' _ A4 #[λy u e w=>o4 _ _ (oH _ _ e w) λq=>(by rwa[q,fg]at e),λy w=>?_]];rcases st.2 y w with w|w
  .show .inl w
  .show .inr (a8 s1 w)
structure gu(K:Wa)(mg:qa3)(X:Er->zB0):Prop where
 E9:mg "isinstance" = none
 list:mg "list" = none
 tuple:mg "tuple" = none
 int:mg "int" = none
 str:mg "str" = none
 bool:mg "bool" = none
 len:mg "len" = none
 all:mg "all" = none
 zip:mg "zip" = none
 abs:mg "abs" = none
 min:mg "min" = none
 max:mg "max" = none
 sum:mg "sum" = none
 sorted:mg "sorted" = none
 range:mg "range" = none
inductive DE(M:cU)(CF:zB0)(X:Er->zB0)(v:qAf)(H:Hp)(Q:VK)(e3:XK):Prop
 |mk(z:FA)(m:M.St)(aC:Nat)(N:NS)(S:SS)(t:zB0)(d:Dd)(_:v=[.ref z.a,.ref t])(_:gw M CF H z m aC N [] 0)(_:Fz N S)(_:su H t d)(_:yU d)(_:∀e,De aC N S d=.error e->∀H',aO H H'->Q (.bl true) H')(_:∀N' S',De aC N S d=.ok (N',S')->∀(H':Hp)(m':M.St),gw M CF H' z m' aC N' [] 0->ik M z m H m' H'->Q (.bl false) H')
abbrev SX:Wo:=top 87
def Nd:aA ["_law_files","_law_deed_here","_law_refused"] ["_law_files","_law_deed_here"] (ax SX):=L2.bg
theorem FY{CK:zB0}(F:b4 K "_law_tried" "_law_tried" SX f fd)(L:mg "KernelError" = some (.ref CK))(hX:∀e,exmOne K (.ref (X e)) (.ref CK)=some true)(ab:⇑Df 13 "_law_done" (Mh M CF X)):↥aU 14 f fd ["_law_files","_law_deed_here"] (DE M CF X):=by
 show F.dg Nd ?_;intros;let#[z,m,aC,N,S,t,d,rfl,I,Z,Y,ok,kE,kQ]:=h;show#[_,%[Nd,0,Q,iJ,i,dn,J7,cU,rfl,L,W,c9,eg,ab,hr,x,e,eh,k,cI,2,iJ,b,2|9],?_]
 show#[0,0,z,m,aC,N,S,t,d,rfl,I,Z,Y,ok,λe G H1 s1=>?_,λN' S' G H1 m1 _ U aa=>?_]
 .show#[hX e,0,kE e G _ s1]
 .show#[0,kQ N' S' G _ m1 U aa]
end Fs
namespace PySem
def JI(t:Bool)(h:Heap)(i l:zB0)(k:Nat):Prop:=cond t (h.IsTupleIter i l k) (h.IsListIter i l k)
def JL(t:Bool)(h:Heap)(l:zB0)(xs:qa5):Prop:=cond t (h.IsTuple l xs) (h.IsList l xs)
variable{t:Bool}{h:Heap}{i l:zB0}{k:Nat}
theorem JI.at{h':Heap}(a:JI t h i l k)(b:∀o,h.get? i=some o->h'.get? i=some o):JI t h' i l k:=by
 cases t
 .show Heap.IsListIter.at a b
 .show Heap.IsTupleIter.at a b
theorem JI.obj(a:JI t h i l k):∃o,h.get? i=some o/\∀v,o.data≠.cell v:=by
 cases t<;>(let#[o,e,_,d]:=a;show#[o,e,λv q=>by rwa[d]at q])
variable{prog:BY}{A:Wv}{E:qa2}{s:sh}
theorem mM{it t:zB0}{i:Nat}{G}{Q:qa2}(Y:A.handled=none)(U:s.heap.IsTupleIter it t i)(ht:s.heap.IsTuple t G)
  (I:(∃x,G[i]?=some x/\∀h',h'.IsTupleIter it t (i+1)->Heap.SameBut it s.heap h'->Q x { s with heap:=h' })\/(G[i]?=none/\∀h' e,Heap.ExtBut it s.heap h'->(∃o,h'.get? e=some o/\o.cls=.type "StopIteration")->E (.ref e) { s with heap:=h' })):wpAny (model prog w) A (Builtin.SmallTypes.nextOf (.ref it)) Q E s:=by
 let#[o,ho,hc,hd]:=id U;let#[ol,aa,_,nl,Z]:=ht;unfold Builtin.SmallTypes.nextOf;show u5 (aah (name:=Str.ofString "__next__") U.typeIs F.slot_tuple_iterator_next (X9 F.slot_tuple_iterator_next U.typeIs F.entry_tuple_iterator_next ?_ (F.args_tuple_iterator_next_1 _)));change wpAny _ _ (field (.ref it) 0>>=_) _ _ s;show u5 (Yb ho hd (x:=.ref t) rfl ?_);change wpAny _ _ (if (Value.ref t==Value.none)=true then _ else _) _ _ s;rw[acV (show ¬ ((Value.ref t==Value.none)=true)from V7)];change wpAny _ _ (field (.ref it) 1>>=_) _ _ s;show u5 (Yb ho hd (x:=.int i 0) rfl ?_);change wpAny _ _ (seqItems? (.ref t)>>=_) _ _ s;show u5 (YY aa Z ?_);rcases I with⟨x,L,I⟩|⟨L,hE⟩
 .simp only[XJ,L];show u5 (aaZ ho hd (by simp) (Wi #[x,rfl,Wi (I _ #[_,Heap.get?_update_self _ ho (Obj.isFreed_of_fields (Obj.data_mapFields hd _)),(Obj.cls_mapFields ..).trans hc,?_] (Heap.SameBut.update ..))]));rw[Obj.data_mapFields hd];simp[abz]
 .simp only[XJ,L];show u5 (wpAny_rule (u5 (aaZ ho hd (by simp) ?_)));change wpAny _ _ (newExc (.type "StopIteration") []>>=_) _ _ _;show u5 ?_;simp only[newExc,newTuple];show u5 (ZW ?_ (by size_fits));show u5 (m:=firstArgMember _ _) (wpAny_of_eq (a:=Value.none) (by first|rfl|(simp only[firstArgMember];rfl)) ?_);show ZW ?_ (by size_fits);simp only[raiseNew];show u5 (wpAny_handled ?_)
  first|rw[show A.in1.handled=none from Y]|rw[Y]
  show u5 (Wi (wpAny_throw (hE _ _ (((Heap.SameBut.update ..).extBut.push _).push _) #[_,37,rfl])))
variable{xs ys:qa5}
theorem wU{z TI TO U I l1 l2:zB0}{a b:Value}{Q:Option Value->sh->Prop}(hh:A.handled=none)(D:ZipApart z TI TO U I l1 l2)(hz:ab6 s.heap z TI TO .none)(aj:Zb s.heap TI (.ref U) (.ref I))(ad:Zb s.heap TO a b)
  (h1:JI t s.heap U l1 k) (h2:JI t s.heap I l2 k) (aa:JL t s.heap l1 xs) (ab:JL t s.heap l2 ys)
  (L:(∃x y,xs[k]?=some x/\ys[k]?=some y/\∀h',ab6 h' z TI TO (abz s⁻¹)->Zb h' TO x y->JI t h' U l1 (k+1)->JI t h' I l2 (k+1)->Zb h' s⁻¹ x y ->
   (∀c o,c≠z->c≠TO->c≠U->c≠I->s.heap.get? c=some o->h'.get? c=some o)->Q (some (.ref s⁻¹)) { s with heap:=h' }) \/
   xs[k]?=none/\∀h',(∀c o,c≠z->c≠TO->c≠U->c≠I->s.heap.get? c=some o->h'.get? c=some o)->Q none { s with heap:=h' }):wpAny (model prog w) A (pyNext (.ref z)) Q E s:=by
 cases t
 .rcases L with⟨x,y,hx,hy,L⟩|⟨hx,L⟩
  .show wpAny_pyNext_zip_item D hz aj ad h1 h2 aa ab hx hy λh' a b c d e _ f=>L h' a b c d e f
  .show wpAny_pyNext_zip_end hh D hz aj ad h1 h2 aa ab (.inl hx) L
 replace h1:s.heap.IsTupleIter U l1 k:=h1;replace h2:s.heap.IsTupleIter I l2 k:=h2;replace aa:s.heap.IsTuple l1 xs:=aa;replace ab:s.heap.IsTuple l2 ys:=ab;let hT:s.TypeIs (.ref z) "zip" := #[_,hz,rfl];unfold pyNext;show u5 (wpAny_attempt (aah (name:=Str.ofString "__next__") hT F.slot_zip_next (X9 F.slot_zip_next hT F.entry_zip_next ?_ (F.args_zip_next_1 _))));change wpAny _ _ (field (.ref z) 2>>=_) _ _ _;show u5 (Yb hz rfl (x:=.bool false) rfl ?_);change wpAny _ _ (field (.ref z) 3>>=_) _ _ _;show u5 (Yb hz rfl (x:=.ref TI) rfl (u5 (YY aj rfl ?_)));change wpAny _ _ (Builtin.SmallTypes.ownedTupleIsFree (.ref z)>>=_) _ _ _;show u5 ?_;unfold Builtin.SmallTypes.ownedTupleIsFree;show u5 (Yb hz rfl (x:=.none) rfl (Wi ?_));simp only[if_true];show u5 (wpAny_rule (u5 (Yb hz rfl (x:=.ref TO) rfl (u5 (YJ hz (by simp) λg1 z1 Z=>?_)))));replace z1:ab6 g1 z TI TO .ellipsis:=z1;show u5 ?_;simp only[List.zipIdx_cons,List.zipIdx_nil,List.forIn_cons,List.forIn_nil];show u5 (u5 (wpAny_onRaise ?_));change wpAny _ _ (Builtin.SmallTypes.nextOf (.ref U)>>=_) _ _ _;show u5 (mM hh (h1.extBut Z.extBut D.i1z) (aa.extBut Z.extBut D.l1z) ?_);rcases L with⟨x,y,hx,hy,L⟩|⟨hx,L⟩
 .show .inl #[x,hx,λg2 j1 Y=>Wi ?_];let t2:Zb g2 TO a b:=Y.extBut _ _ D.TOi1 (Z.extBut _ _ D.TOz ad);show u5 (YY t2 rfl (u5 (aa8 t2 λg3 t3 e3=>?_)));replace t3:Zb g3 TO x b:=t3;show u5 (wpAny_letGo (Wi (u5 (u5 (wpAny_onRaise ?_)))));change wpAny _ _ (Builtin.SmallTypes.nextOf (.ref I)>>=_) _ _ _;show u5 (mM hh (((h2.extBut Z.extBut D.i2z).extBut Y.extBut D.i12.6).extBut e3.extBut D.TOi2.6) (((ab.extBut Z.extBut D.l2z).extBut Y.extBut D.l2i1).extBut e3.extBut D.l2TO) (.inl #[y,hy,λg4 j2 e4=>Wi ?_]));let t4:Zb g4 TO x b:=e4.extBut _ _ D.TOi2 t3;show u5 (YY t4 rfl (u5 (aa8 t4 λG t5 e5=>?_)));replace t5:Zb G TO x y:=t5;show u5 (wpAny_letGo (Wi (Wi (u5 (YY t5 rfl (u5 (wpAny_newTuple ?_)))))));let ez:G.objs.3=s⁻¹:=(by rw[e5.1,e4.1,e3.1,Y.1,Z.1]);let z5:ab6 G z TI TO .ellipsis:=e5.extBut _ _ D.TOz.symm (e4.extBut _ _ D.i2z.symm (e3.extBut _ _ D.TOz.symm (Y.extBut _ _ D.i1z.symm z1)));let k5:∀c o,c≠z->c≠TO->c≠U->c≠I->s.heap.get? c=some o->G.get? c=some o:=λc o c1 c2 c3 c4 e=>e5.extBut _ _ c2 (e4.extBut _ _ c4 (e3.extBut _ _ c2 (Y.extBut _ _ c3 (Z.extBut _ _ c1 e))));let j1:G.IsTupleIter U l1 (k+1):=((j1.extBut e3.extBut D.TOi1.6).extBut e4.extBut D.i12).extBut e5.extBut D.TOi1.6;let j2:G.IsTupleIter I l2 (k+1):=j2.extBut e5.extBut D.TOi2.6;let am:z<G.objs.3:=zA6 z5;change wpAny _ _ (Builtin.SmallTypes.ownedTupleHandOut (.ref z) (.ref G.objs.3)>>=_) _ _ _;show u5 ?_;unfold Builtin.SmallTypes.ownedTupleHandOut;let z6:ab6 (G.push { cls:=.type "tuple",data:=.seq ([x,y].8) }) z TI TO .ellipsis:=zA4 _ z5;show u5 (YJ z6 (by simp) λg7 z7 e7=>?_);replace z7:ab6 g7 z TI TO (abz G.objs.3):=z7;show YJ z7 (by simp) λg8 z8 e8=>?_;replace z8:ab6 g8 z TI TO (abz G.objs.3):=z8;let up:∀c o,c≠z->G.get? c=some o->g8.get? c=some o:=λc o c1 e=>e8.extBut _ _ c1 (e7.extBut _ _ c1 (zA4 _ e));let t8:Zb g8 G.objs.3 x y:=e8.extBut _ _ (aaO am) (e7.extBut _ _ (aaO am) (zA5 _ rfl));rw[ez]at z8 t8;show Wi #[0,Wi ?_];change Q (some (.ref G.objs.3)) _;rw[ez];show L g8 z8 (up _ _ D.TOz t5) (j1.at λo e=>up _ o D.i1z e) (j2.at λo e=>up _ o D.i2z e) t8 λc o c1 c2 c3 c4 e=>up c o c1 (k5 c o c1 c2 c3 c4 e)
 show .inr #[hx,λg2 e Y he=>?_];let#[oe,ac,ak]:=he;let z2:ab6 g2 z TI TO .ellipsis:=Y _ _ D.i1z.symm z1;let ap:e≠z:=λq=>(by subst q;rwa[z2]at ac;simp at ak);show YJ z2 (by simp) λg3 _ e3=>?_;show u5 (wpAny_isInstance (T := "StopIteration") (b:=true) #[oe,e3.extBut _ _ ap ac,ak] isSubtype_stop ?_);show Wi (L _ λc o c1 _ c3 _ q=>e3.extBut _ _ c1 (Y _ _ c3 (Z.extBut _ _ c1 q)))
noncomputable abbrev Rk(h:Heap)(t:zB0):Heap:=h.push { cls:=.type "tuple_iterator",data:=.fields ([.ref t,.int 0 0].8) }
noncomputable abbrev Rr(h:Heap)(t l:zB0):Heap:=(Rk h t).push { cls:=.type "tuple_iterator",data:=.fields ([.ref l,.int 0 0].8) }
noncomputable abbrev Rb(h:Heap)(t l:zB0):Heap:=(Rr h t l).push { cls:=.type "tuple",data:=.seq ([.ref h.objs.3,.ref (Rk h t).objs.3].8) }
noncomputable abbrev Q4(h:Heap)(t l:zB0):Heap:=(Rb h t l).push { cls:=.type "tuple",data:=.seq ([.none,.none].8) }
noncomputable abbrev Ox(h:Heap)(t l:zB0):Heap:=(Q4 h t l).push { cls:=.type "zip",data:=.fields ([.none,.bool false,.bool false,.ref (Rr h t l).objs.3,.ref (Rb h t l).objs.3].8) }
theorem E4(t l:zB0)(xs ys:qa5) :
  Meets (Builtin.«zip.__new__» #[[.type "zip",.ref t,.ref l],[]]) (λ_ R s=>s.heap.IsTuple t xs/\s.heap.IsTuple l ys/\R (.ok (.ret (.ref (Q4 s.heap t l).objs.3))) { s with heap:=Ox s.heap t l }):=
 .of_wp λprog w A R s h=>by
  let#[F,g,d,tk,os]:=s;let#[h1,h2,h]:=h;let L:=sub_zip;let I:Heap.IsTuple (acU #[F,g,d,tk,os]) t xs:=h1;let G:Heap.IsTuple (acU #[F.push { cls:=.type "tuple_iterator",data:=.fields ([.ref t,.int 0 0].8) },g,d,tk,os]) l ys:=Heap.IsTuple.push h2 _
  wp_walk using abI I,abI G
  show#[0,h]
theorem CQ{b:Bool}{t:zB0}{Q:qa2}(h1:JL b s.heap t xs)(h2:JL b s.heap l ys)
  (h:∀h',ab6 h' (s⁻¹+4) (s⁻¹+2) (s⁻¹+3) .none->Zb h' (s⁻¹+2) (.ref s⁻¹) (.ref (s⁻¹+1)) ->
   Zb h' (s⁻¹+3) .none .none->JI b h' s⁻¹ t 0->JI b h' (s⁻¹+1) l 0 ->
   (∀c o,s.heap.get? c=some o->h'.get? c=some o)->Q (.ref (s⁻¹+4)) { s with heap:=h' }) :
  wpAny (model prog w) A (call (.type "zip") [.ref t,.ref l]) Q E s:=by
 cases b
 .show call_zip_2 h1 h2 λh' a b c d e _ f=>h h' a b c d e f
 show callType_new F.called_zip aE (F.typeCall_zip_2 _ _) (F.newCall_zip_2 _ _) (λobj=>F.args_object_init_3 obj _ _) F.entry_zip_new (E4 t l xs ys) #[h1,h2,?_];let z1:(Rk s.heap t).objs.3=s⁻¹+1:=zA9 ..;let z2:(Rr s.heap t l).objs.3=s⁻¹+2:=(by rw[zA9,z1]);let G:(Rb s.heap t l).objs.3=s⁻¹+3:=(by rw[zA9,z2]);let L:(Q4 s.heap t l).objs.3=s⁻¹+4:=(by rw[zA9,G]);let up:∀{c:zB0}{o:Obj}(u:Heap)(p:Obj),u.get? c=some o->(u.push p).get? c=some o:=λu p e=>zA4 _ e;let I:(Ox s.heap t l).get? (Q4 s.heap t l).objs.3=some _:=zA5 _ rfl;let g4:(Ox s.heap t l).get? (Rb s.heap t l).objs.3=some _:=up _ _ (zA5 _ rfl);let U:(Ox s.heap t l).get? (Rr s.heap t l).objs.3=some _:=up _ _ (up _ _ (zA5 _ rfl));let g2:(Ox s.heap t l).get? (Rk s.heap t).objs.3=some _:=up _ _ (up _ _ (up _ _ (zA5 _ rfl)));let g1:(Ox s.heap t l).get? s⁻¹=some _:=up _ _ (up _ _ (up _ _ (up _ _ (zA5 _ rfl))));change _/\_;rw[z2,G,L]at I;rw[z1,z2]at U;rw[G]at g4;rw[z1]at g2;rw[L];show#[#[_,I,rfl],h _ I U g4 #[_,g1,1] #[_,g2,1] λc o x=>up _ _ (up _ _ (up _ _ (up _ _ (up _ _ x))))]
end PySem
namespace L2
open PySem PySem.Spec PyProof.Rows
def vQ(t:Bool)(K:Wa)(H:Hp)(l:zB0)(xs:qAf):Prop:=cond t (cX K H l xs) (a9 K H l xs)
variable{t:Bool}{H:Hp}{l:zB0}{xs:qAf}
theorem vQ.of(h:H l=some (cond t (.tup xs) (.lst xs))):vQ t K H l xs:=by
 cases t
 .show a9.of h
 .show cX.of h
variable{X:Cx}{σ:St}
theorem Inv.OG{pins:qa1}{s:sh}(I: ~~~H s)(h:vQ t X.K H l xs):(∃its,Vals xs its/\JL t s.heap l its.8)/\l<s⁻¹/\∀ys,vQ t X.K H l ys->ys=xs:=by
 cases t
 .let#[its,F,p,_]:=I.list h;let#[_,e,_]:=id p.isList;show#[#[its,F,p.isList],zA6 e,λys q=>I.qE q h]
 .let#[its,F,p,_]:=I.tuple h;let#[_,e,_]:=id p;show#[#[its,F,p],zA6 e,λys q=>I.Cb q h]
noncomputable def NH(t:Bool)(K:Wa)(l1 l2:zB0):It :=
 #[λi H=>∃xs ys x y,vQ t K H l1 xs/\vQ t K H l2 ys/\xs[i]?=some x/\ys[i]?=some y,
  λi H v H'=>∃T x y,v=.ref T/\H T=none/\H'=upd H T (.tup [x,y])/\(∀xs,vQ t K H l1 xs->xs[i]?=some x)/\∀ys,vQ t K H l2 ys->ys[i]?=some y,
  λi H=>∃xs ys,vQ t K H l1 xs/\vQ t K H l2 ys/\xs.9<=i]
def VS(t:Bool)(z TI TO G F l1 l2:zB0)(i:Nat)(h:Heap):Prop:=ab6 h z TI TO .none/\Zb h TI (.ref G) (.ref F)/\(∃a b,Zb h TO a b)/\JI t h G l1 i/\JI t h F l2 i
variable{es:qAe}{kx:Nat}{px:XU}
theorem BP{z TI TO i1 Z l1 l2:zB0}(D:ZipApart z TI TO i1 Z l1 l2):Turn P w K (.Tuple es kx px) (NH t K l1 l2) [z,TI,TO,i1,Z] z (VS t z TI TO i1 Z l1 l2) where
 mem:=by simp
 obj:=by
  rintro i h ⟨U,G,⟨a,b',L⟩,h1,h2⟩ b F;simp only[We,WX,or_false]at F;rcases F with rfl|rfl|rfl|rfl|rfl
  .show#[_,U,97]
  .show#[_,G,λv q=>by cases(show Data.seq _ _=Data.cell v from q)]
  .show#[_,L,λv q=>by cases(show Data.seq _ _=Data.cell v from q)]
  .show h1.obj
  .show h2.obj
 keep:=λi h h' ⟨U,G,⟨a,b,L⟩,h1,h2⟩ k=>#[k z (by simp) _ U,k TI (by simp) _ G,#[a,b,k TO (by simp) _ L],h1.at λo e=>k i1 (by simp) o e,h2.at λo e=>k Z (by simp) o e]
 item:=by
  intro X hP hw hK hc i pins s σ H E I hf st hg;subst hP hw hK;let#[U,G,#[a,b,L],h1,h2]:=st;let#[xs,ys,x,y,q1,q2,e1,e2]:=hg;let#[#[am,ac,p1],_,j1]:=I.OG q1;let#[#[ak,as,p2],_,j2]:=I.OG q2;let#[u1,aj,ad]:=ac.get e1;let#[u2,aB,ar]:=as.get e2;show wU (I.ok.hd hc) D U G L h1 h2 p1 p2 (.inl #[u1,u2,by simpa using aj,by simpa using aB,λh' z' ap a1 a2 pT kk=>?_]);let I1: ~~~H { s with heap:=h' }:=I.mE (t':=s.toks) (ch:=[z,TI,TO,i1,Z]) (λb o F e=>kk b o (λq=>F (by simp[q])) (λq=>F (by simp[q])) (λq=>F (by simp[q])) (λq=>F (by simp[q])) e) hf;show#[0,wpAny_letOwnedTupleGo_zip z' λaa z2 Y=>?_];replace Y:Heap.SameBut z h' aa:=Y;let I2: ~~~H { s with heap:=aa }:=I1.mE (s:={ s with heap:=h' }) (h':=aa) (t':=s.toks) (ch:=[z]) (λb o F e=>(Y.2 b (λq=>F (by simp[q]))).trans e) λb F=>hf b (by simp only[sx]at F;simp[F]);let fT:js X pins H s⁻¹:=I.nQ (G0 _) (I.bL.fresh (G0 _));let nz:s⁻¹≠z:=aaO (zA6 U);let aK:Zb aa s⁻¹ u1 u2:=Y.extBut _ _ nz pT;let I3: ~~~(upd H s⁻¹ (.tup [x,y])) { s with heap:=aa }:=I2.yf (its:=[u1,u2]) fT #[_,aK,rfl,0] (.cons ad (.cons ar .nil)) zi;show#[95,I3,rfl,#[_,x,y,rfl,fT.1,rfl,λzs ab=>by rw[j1 _ ab];show e1,λzs ab=>by rw[j2 _ ab];show e2],#[z2,Y.extBut _ _ D.TIz (kk _ _ D.TIz D.TITO D.TIi1 D.TIi2 G),#[2,Y.extBut _ _ D.TOz ap],a1.at λo e=>Y.extBut _ _ D.i1z e,a2.at λo e=>Y.extBut _ _ D.i2z e],λb F=>?_];let nb:b≠s⁻¹:=by
   intro q;let#[o1,g1,_]:=h1.obj;let#[o2,g2,_]:=h2.obj;simp only[We,WX,or_false]at F;rcases F with e|e|e|e|e<;>rw[e]at q
   .show nz q.6
   .show WZ (zA6 G) q
   .show WZ (zA6 L) q
   .show WZ (zA6 g1) q
   .show WZ (zA6 g2) q
  rw[ay nb];show(hf b F).1
 done:=by
  intro X hP hw hK hc i pins s σ H E I hf st hg;subst hP hw hK;let#[U,G,#[a,b,L],h1,h2]:=st;let#[xs,ys,q1,q2,e]:=hg;let#[#[am,ac,p1],_]:=I.OG q1;let#[#[ak,_,p2],_]:=I.OG q2;let aP:=ac.9;show wU (I.ok.hd hc) D U G L h1 h2 p1 p2 (.inr #[by simp;omega,λh' kk=>#[rfl,I.mE (t':=s.toks) (ch:=[z,TI,TO,i1,Z]) (λb o F e=>kk b o (λq=>F (by simp[q])) (λq=>F (by simp[q])) (λq=>F (by simp[q])) (λq=>F (by simp[q])) e) hf]])
 self:=λ_ _ _ _ _ st h=>wpAny_pyIter_zip st.1 h
inductive Kx(K:Wa)(ta:TA)(σ:St)(H:Hp)(R:It->Hp->Prop):Prop
 |mk (t:Bool) (_:ta σ H λvs H1=>AO λl1 l2=>Hj (vs=[.ref l1,.ref l2]) (∃xs,vQ t K H1 l1 xs) (∃ys,vQ t K H1 l2 ys) (R (NH t K l1 l2) H1)):Kx K ta σ H R
theorem Jn{a b:Ws}{ta:TA}{p pos:XU}(hg:Gl X "zip")(hm:X.mg "zip" = none)(ha:PA X [a,b] ta)(hs:starEach [a,b] X.env=[(false,eval a X.env),(false,eval b X.env)]:=by rfl)(L:starEach [b] X.env=[(false,eval b X.env)]:=by rfl) :
  PI X (.Tuple es kx px) (.Call (.Name "zip" p) [a,b] [] pos) (Kx X.K ta):=by
 intros R I h;let#[t,h]:=h;show Call_ (kb I hg hm Nt (W9 (cc (ha pos pins s σ H _ I h) λus F ⟨vs,H1,G,r1,q1⟩=>?_) (by rw[hs,L]) (by rw[L];rfl)));let#[l1,l2,rfl,#[xs,g1],#[ys,g2],q]:=q1;let#[u1,u2,rfl,e1,e2]:=vals2 r1;obtain rfl:u1=Value.ref l1:=e1;obtain rfl:u2=Value.ref l2:=e2;let#[#[am,_,p1],aj,_]:=G.OG g1;let#[#[ak,_,p2],Z,_]:=G.OG g2;show CQ p1 p2 λh' U ac aa ab ad hk=>?_;show wpAny_pyIter_zip U ?_;show#[F⁻¹+4,[F⁻¹+4,F⁻¹+2,F⁻¹+3,F⁻¹,F⁻¹+1],2,H1,rfl,G.kept (t':=F.toks) hk,BP (zipApart_new aj Z),#[U,ac,#[2,aa],ab,ad],λb Y=>?_,q];let le:F⁻¹<=b:=by
  simp only[We,WX,or_false]at Y;rcases Y with e|e|e|e|e<;>rw[e]<;>first|show G0 _|show aad _ _
 show G.nQ le (G.bL.fresh le)
theorem zq{a b:zB0}{ys:qAf}{caps:List (Str×Nat)}{te:TE}{U:List V->Hp->Prop}(Pv:Nat->List V->Hp->Prop)(h0:Pv 0 [] H)(he:xs.9=ys.9)
  (L:∀i zs H,i<=xs.9->Pv i zs H->vQ t K H a xs/\vQ t K H b ys)
  (hs:∀i x y zs H T,xs[i]?=some x->ys[i]?=some y->H T=none->Pv i zs H->te (O8 caps σ (some x) (some y)) (upd H T (.tup [x,y])) (λz Y=>zs.9<sizeLine/\Pv (i+1) (zs++[z]) Y))
  (hd:∀zs H,Pv xs.9 zs H->U zs H):∃W:Nat->Nat->List V->Hp->Prop,(∃m,W 0 m [] H)/\LR caps (g2 K) pN te σ (NH t K a b) U W:=by
 show Di Pv h0 hd (λzs H p=>let ⟨F,G⟩:=L _ zs H (G0 _) p;#[xs,ys,F,G,G0 _]) λi zs H I p=>?_;let#[F,G]:=L i zs H (Yo I) p;let aa:i<ys.9:=abF I he;show#[#[xs,ys,xs[i],ys[i],F,G,by simp[I],by simp[aa]],?_];rintro v H' ⟨T,x,y,rfl,hT,rfl,Z,e2⟩ vs lv;let#[v0,v1,rfl]:=U8 lv;show#[T,[x,y],rfl,cX.of ag,rfl,x,[y],rfl,y,[],1,[some x,some y],1,?_];unfold pN;dsimp only;rw[acW rfl];show hs i x y zs H T (Z xs F) (e2 ys G) hT p
end L2
namespace Fs
open PySem L2 Dk Tb Srt
def uz:WT "str" = some (.type "str"):=aF
def Flt(x:V):Prop:=x=.bh\/(∃i,x=.int i)\/∃s,x=.str s
inductive NB(H:Hp)(R:V->V->Prop)(x y:V):Prop
 |flat(_:x=y)(_:Flt x)
 |seq(t:Bool)(a b:zB0)(xs ys:qAf)(_:x=.ref a)(_:y=.ref b)(_:H a=some (cond t (.tup xs) (.lst xs)))(_:H b=some (cond t (.tup ys) (.lst ys)))(_:xs.9=ys.9)(_:xs.9<=1000)(_:∀(i:Nat)(u v:V),xs[i]?=some u->ys[i]?=some v->R u v)
def Hm(H:Hp):Nat->V->V->Prop
 |0=>λ_ _=>False
 |n+1=>NB H (Hm H n)
variable{H H':Hp}
theorem Hm.same(s:aO H H'):∀(n:Nat){x y:V},Hm H n x y->Hm H' n x y
 |0,_,_,h=>h
 |n+1,_,_,h=>by
  rcases h with⟨e,f⟩|⟨t,a,b,xs,ys,F,G,h1,h2,l,l2,r⟩
  .show .flat e f
  .show .seq t a b xs ys F G (s _ _ h1) (s _ _ h2) l l2 λi u v g1 g2=>(r i u v g1 g2).same s n
inductive BL(n:Nat)(v:qAf)(H:Hp)(Q:VK)(e:XK):Prop
 |mk(x y:V)(_:v=[x,y])(_:Hm H n x y)(_:∀H',aO H H'->Q (.bl true) H')
abbrev Rx:Wo:=top 85
def Ql(t:Bool):kitOne K (.type (cond t "tuple" "list")) (.type "list")=some (!t):=by cases t<;>with_unfolding_all rfl
def QS(t:Bool):kitOne K (.type (cond t "tuple" "list")) (.type "tuple")=some t:=by cases t<;>with_unfolding_all rfl
theorem tyB{t:Bool}{a:zB0}{xs:qAf}(h:H a=some (cond t (.tup xs) (.lst xs))):lY K H (.ref a) (.type (cond t "tuple" "list")):=by
 cases t
 .show .lst h
 .show .tup h
def Px:kitOne K (.type "str") (.type "str")=some true:=rfl
def k_is:kitOne K (.type "int") (.type "str")=some false:=by with_unfolding_all rfl
def RF:aA ["_law_found_here","_law_due_here"] ["_law_found_here","_law_due_here"] (ax Rx):=L2.bg
theorem all_true:∀n:Nat,(TN n true).all id=true
 |0=>rfl
 |n+1=>all_true n
variable{X:Er->zB0}
theorem Cw(F:b4 K "_law_alike" "_law_alike" Rx f fd)(L:gu K mg X)(n:Nat)(aa:↥Df n "_law_alike" (BL n)):↥aU (n+1) f fd ["_law_found_here","_law_due_here"] (BL (n+1)):=by
 show F.dg RF ?_;intros;let#[x,y,rfl,ha,k]:=h;let hs:=DD;show#[_,%[0,0,f,X,S,Cj,b5,J,a,bz,Gm,d,br,(fQ (v:=.ty "list")),ao,L.list,dt,rfl,a,br,(fQ (v:=.ty "tuple")),ao,L.tuple,rF,rfl,bb,bw,aF,b6,b5,o,br,(fQ (v:=.ty "list")),ao,L.list,dt,rfl,b6,b5,J,a,br,(fQ (v:=.ty "list")),ao,L.list,dt,rfl,s,bK,aF,b6,b5,o,br,(fQ (v:=.ty "tuple")),ao,L.tuple,rF,rfl,b6,b5,J,a,br,(fQ (v:=.ty "tuple")),ao,L.tuple,rF,rfl,s,co,f,aF,S,aM,L.len,ds,q,S,aM,L.len,ds,e,s,co,b,S,d3,rfl,L.all,FF,a,dn,(Dy (t:=("_law_one","_law_other")) (cl:=[]) (caps:=[])),#[rfl,aF,aF,94,by intro p U;simp at U,94,by intro p U;simp at U,aF],rfl,dh,Jn,ao,L.zip,x,e,T,(show PG _ _ (g2 K)from gq rfl (bw (i8 (i:=0) (show(xi ("_law_one","_law_other") []).4 by decide +kernel) rfl (Y3 (WH rfl)) (.inr (WH rfl))) (bw (i8 (i:=1) (show(xi ("_law_one","_law_other") []).4 by decide +kernel) rfl (Y3 (WH rfl)) (.inr (WH rfl))) fe))),a8,(pc aa hr aD (ae (pv 0) (ae (pv 1) af)) (hk:=G0 n)),f,b1,1,aq,b,bG,iG,0,aq,f,X,b6,b5,J,a,br,dC,ao,L.str,uz,rfl,b,cm,b6,b5,o,br,dC,ao,L.str,uz,rfl,cJ,bG,bX,0,1,s,b,cm,b6,b5,o,br,(fQ (v:=.ty "int")),ao,L.int,vD,rfl,cm,bz,Lr,b6,b5,o,br,(fQ (v:=.ty "bool")),ao,L.bool,IX,rfl,cJ,bG,bX,0,1,s|9],?_]
 rcases ha with⟨e,f⟩|⟨t,a,b,xs,ys,e1,e2,h1,h2,l,l2,r⟩
 .subst e;rcases f with rfl|⟨i,rfl⟩|⟨t,rfl⟩
  .show#[0,rfl,λp fp=>#[.bh,p,false,51,.bh,46]];show#[0,rfl,45];show#[0,rfl,k _ (au fp)]
  .show#[0,rfl,λp fp=>#[.int i,p,false,51,.int i,46]];show#[0,rfl,46];show#[0,2,_,0,.int i,k_is,46];show#[0,2,_,0,.int i,Mx K,45];show#[0,2,_,0,.int i,MX K,0,45];show#[0,0,3];rw[zA1 rfl];show k _ (au fp)
  .show#[0,rfl,λp fp=>#[.str t,p,false,51,.str t,46]];show#[0,rfl,46];show#[0,2,_,0,.str t,Px,45];show#[0,2,_,0,.str t,Px,45];show#[0,0,3];rw[zA1 rfl];show k _ (au fp)
 .subst e1 e2;show#[0,rfl,λp fp=>#[.ref b,p,true,51,by
   let Y:upd H p (xt p) b=some (cond t (.tup ys) (.lst ys)):=(by rw[ay (bb h2 fp)];show h2);cases t
   .show .lst Y
   .show .tup Y,45]]
  exists fp,(xt p),I,_,H1;let g1:=I _ _ h1;let g2:=I _ _ h2;show#[0,2,_,0,tyB g1,Ql t,0,2,_,0,tyB g2,Ql t,9];rw[zA1 rfl];show bA #[0,2,_,0,tyB g1,QS t,0,2,_,0,tyB g2,QS t,9];rw[zA1 rfl];show bA ?_;let q1:a9 K H1 a xs\/cX K H1 a xs:=by
   cases t
   .show .inl (a9.of g1)
   .show .inr (cX.of g1)
  let q2:a9 K H1 b ys\/cX K H1 b ys:=by
   cases t
   .show .inl (a9.of g2)
   .show .inr (cX.of g2)
  show#[0,a,0,q1,0,b,0,q2,9];rw[l,zA1 rfl];show bA ?_;show#[t,#[0,0,a,b,rfl,#[_,vQ.of g1],#[_,vQ.of g2],?_]];show zq (t:=t) (K:=K) (a:=a) (b:=b) (xs:=xs) (ys:=ys) (λi zs H2=>zs=(TN i true).map V.bl/\aO H1 H2) #[rfl,aO.refl H1] l (λi zs H2 _ ⟨_,G⟩=>#[vQ.of (G _ _ g1),vQ.of (G _ _ g2)]) ?_ ?_
  .rintro i u v zs H2 T2 Z hy hT ⟨rfl,G⟩;let hi:i<xs.9:=(u4.mp Z).1;let sT:=G.trans (au (X:=.tup [u,v]) hT);show#[0,0,u,v,rfl,(r i u v Z hy).same (I.trans sT) n,λH3 s3=>#[5,sT.trans s3]]
   .rw[dM,WM];omega
   .rw[aaY,yl];rfl
  .rintro zs H2 ⟨rfl,G⟩ q hq;show#[q,TN xs.9 true,rfl,32,?_];rw[all_true];show k _ (I.trans (G.trans (au hq)))
theorem Pa{ps:qAb}:↥aU 0 f fd ps (BL 0):=#[λ_ _ _ _ h=>by let#[_,_,_,h,_]:=h;show h.elim,λ_ _ _ _ _ _ _ _ _ _ _ _ _ h=>by let#[_,_,_,h,_]:=h;show h.elim]
def Bx(H:Hp)(l:zB0):Prop:=∃v:Int,H l∣[.int v]
structure Lf(l:zB0)(H H':Hp):Prop where
 off:Off (· = l) H H'
 bx:Bx H' l
variable{l:zB0}{H1 H2:Hp}
theorem Lf.trans(a:Lf l H H1)(b:Lf l H1 H2):Lf l H H2:=#[a.off.trans b.off,b.bx]
def Lf.same(a:Lf l H H1)(s:aO H1 H2):Lf l H H2:=#[a.off.trans (Off.of s),by let#[v,e]:=a.bx;show#[v,s _ _ e]]
variable{x:zB0}
theorem Lf.nn(a:Lf l H H')(h:H' x=none):H x=none:=Off.nn a.off (λz=>by let#[v,e]:=a.bx;rwa[z,e]at h) h
def Lf.keep{o:HO}(a:Lf l H1 H2)(h:H1 x=some o)(f:x≠l):H2 x=some o:=a.off _ _ h f
inductive LD(vs:qAf)(H:Hp)(Q:VK)(e:XK):Prop
 |mk(c j:Int)(_:vs=[.int c,.int j])(_:0<=j)(_:j<=1000)(_:∀v:Int,Q (.int v) H)
inductive GG(v:qAf)(H:Hp)(Q:VK)(e:XK):Prop
 |mk(l:zB0)(n:Int)(_:v=[.ref l,.int n])(_:Bx H l)(_:0<n)(_:n<=1000)(_:∀(r:Int)(H':Hp),0<=r->r<n->Lf l H H'->Q (.int r) H')
inductive K5(K:Wa)(v:qAf)(H:Hp)(Q:VK)(e:XK):Prop
 |mk(a:zB0)(ns:qAa)(j:Nat)(_:v=[.ref a,.int (j:Int)])(_:a9 K H a (ns.map V.int))(_:j<ns.9)(_:j<=63)(_:∀(H':Hp)(l:zB0),aO H H'->H l=none->Bx H' l->Q (.ref l) H')
abbrev Uq:Wo:=top 82
abbrev Tf:Wo:=top 83
abbrev RU:Wo:=top 84
def QK:aA ["_law_cell","_law_k","_law_once"] ["_law_cell","_law_k"] (ax Uq):=L2.bg
def QD:aA ["_law_left_here","_law_many","_law_told"] ["_law_left_here","_law_many"] (ax Tf):=L2.bg
def Jw:aA ["_law_script","_law_k","_law_left_here","_law_j"] ["_law_script","_law_k"] (ax RU):=L2.bg
theorem Fc(F:b4 K "_law_mixed" "_law_mixed" Uq f fd):↥aU 1 f fd ["_law_cell","_law_k"] LD:=by
 show F.dg QK ?_;intros;let#[c,j,rfl,_,_,k]:=h;show#[_,%[QK,0,Q,cg,a9,p,p,cg,0,aw,a9,aw,1,aw,aw,aw,b,cg,a9,2,p,p,cg,2,aw,1,aw,aw|9],?_]
 show#[0,6,(qAi 1000000006),0,92,_,0,4,58,.inr #[aE,aE],6,(qAi 2147483646),?_];let m1:=acw ((c%1000000007+7*j+1)*48271) (show(2147483647:Int)≠0 by decide);let m2:=abJ ((c%1000000007+7*j+1)*48271) (show(0:Int)<2147483647 by decide);generalize (c%1000000007+7*j+1)*48271%2147483647=o at *;show#[0,0,6,(qAi 1008),0,_,0,4,58,.inl #[av,av],6,(qAi 998244352),k _]
theorem Dm(F:b4 K "_law_digit" "_law_digit" Tf f fd):↥aU 1 f fd ["_law_left_here","_law_many"] GG:=by
 show F.dg QD ?_;intros;let#[l,n,rfl,#[v,G],I,h1,k]:=h;show#[_,%[QD,0,Q,cg,aJ,0,1,i,bj,bq,nR,aJ,0,1,cY,0,aw,b,2|9],?_]
 show#[0,l,_,(0),.int v,1,56,84,0,6,I,?_];show#[0,l,_,(0),.int v,1,56,84,0,6,#[I,av],?_];show#[0,l,[.int v],36,1,G,3];show#[0,k _ _ (acw _ av) (abJ _ I) #[λb o e nb=>by rw[ay nb];show e,_,ag]]
theorem JO(F:b4 K "_law_left" "_law_left" RU f fd)(T:gu K mg X)(I:↥Df 1 "_law_mixed" LD):↥aU 2 f fd ["_law_script","_law_k"] (K5 K):=by
 show F.dg Jw ?_;intros;let#[a,ns,j,rfl,G,U,Z,k]:=h;let hs:=DD;let L:mv (ns.map V.int) (j:Int)=some (.int ns[j]):=aL (by rw[LW,y0 U];rfl);show#[_,%[Jw,hr,f,g,cg,l,q,aw,r,b,C,a,S,Gz,T.abs,N6,a,v,0,1,Q,aw,aL,b0,aI,av,3,k,cI,2,p,a9,2,aw,c,I,d,p,c,I,d,v,0,1,a,p,aw,1,3,a,p,aw,3,b,C,h|9],?_]
 show#[0,a,0,.inl G,6,TK,9];show cQ (λ_=>?_) (λ_=>?_)
 .show#[0,0,a,2,0,rfl,G,L,0,93,λl fl=>?_];show k _ l (au fl) fl #[_,ag]
 .show#[0,aE,aE,?_];show gQ (lo:=0) (n:=(4:Int).5) (λ_ σ J=>AO λ(v:Int)(o:Option V)=>σ=#v[.ref a,.int (j:Int),.int v,o]/\J=H) #[(0),none,1] ?_ ?_
  .rintro i σ J hi ⟨v,o,rfl,rfl⟩;show#[0,6,.inr #[aE,aE],?_];show#[0,0,a,2,0,rfl,G,L,0,6,ns[j],131+(j:Int),rfl,av,av,λu=>?_];show#[0,6,0,6,u+(0+(i:Int)),200+(0+(i:Int)),rfl,av,av,λY=>?_];show#[_,58]
  .rintro σ J ⟨v,o,rfl,rfl⟩;show#[0,93,λl fl=>k _ l (au fl) fl #[_,ag]]
end Fs
namespace L2
open PySem PySem.Spec PyProof.Rows
variable{X:Cx}{p:XU}{es:qAe}
theorem bK{c:Const}{j:Nat}{te:TE}{t:TA}(G:PE X (.Constant c j p) te)(F:PA X es t):PA X (.Constant c j p::es) (tq te t):=ae G F (by rfl)
noncomputable def Vr(y:Str×Nat×XU):Ws:=.Constant (.str y.1) y.2.1 y.2.2
def U1(es:qAe):List (Str×Nat×XU):=es.map fun
 |.Constant (.str x) j p=>(x,j,p)
 |_=>("",0,#[36,36])
def RN:List (Str×Nat×XU)->TA
 | []=>xI
 |y::l=>tq (tC (.str y.1)) (RN l)
theorem zL{X:Cx}:∀l:List (Str×Nat×XU),PA X (l.map Vr) (RN l)
 | []=>af
 |_::l=>bK az (zL l)
theorem MR{c:Ws}{r b:List Wo}{pos Y pos':XU}{tc:TT}{F u:TS}{i:Nat}{x:Str}(L:PT X c tc)(I:X.N.4)(hi:X.N[i]?=some x)(G:Loc X.env.scope x)(h2:uv X r F)(U:uv X b u)(el:es=(U1 es).map Vr:=by rfl)(Z:X.fn x=true\/X.env.scope.names.lookup x=some .local:=by first|show .inl rfl|show .inr rfl|assumption):PS X (.If c (.Assign [.Name x pos'] (.List es p) pos::r) b Y) (xj tc (jA (zc (Nu (RN (U1 es))) (f9 i)) F) u):=
 bj L (ah (G1 I hi G (bG (by let h:=zL (X:=X) (U1 es);rw[<-el]at h;show h)) rfl Z) h2) U
def mI{f:Ws}{F:qAe}{ks:List aan}:uj (.Call f F ks p):=λ_ _=>rfl
end L2
namespace Fs
open PySem L2 Dk Tb Srt
structure lh(n:Nat)(t:Str):Prop where
 len:t.9<=n
 cps:∀c∈t.cps.7,c<128
instance (n:Nat) (t:Str):Decidable (lh n t):=decidable_of_iff (t.9<=n/\∀c∈t.cps.7,c<128) #[λh=>#[h.1,h.2],λh=>#[h.1,h.2]]
variable{t:Str}
def lh.path{n:Nat}(h:lh n t)(l:n<=20000):cH t:=#[WK h.len l,h.cps]
variable{m:Nat}
def lh.mono{n:Nat}(h:lh n t)(l:n<=m):lh m t:=#[WK h.len l,h.cps]
theorem lh.app{n:Nat}{a b:Str}(x:lh n a)(y:lh m b):lh (n+m) (a++b):=by
 show#[?_,λc F=>?_]
 .change(a.cps++b.cps).3<=_;rw[Array.size_append];show Nat.add_le_add x.len y.len
 .let F:c∈(a.cps++b.cps).7:=F;rw[abl,Wf]at F;show F.elim (x.cps c) (y.cps c)
variable{i:Int}
theorem E1{xs:qAb}(G:0<=i)(h1:i<xs.9):∃p,mv (xs.map V.str) i=some (.str p)/\p∈xs:=by
 obtain⟨j,rfl⟩:∃j:Nat,i=j:=#[i.5,av];let F:j<xs.9:=av;show#[xs[j],aL (by rw[LW,y0 F];rfl),Xo F]
theorem Ei{xs:qAa}(G:0<=i)(h1:i<xs.9):∃p,mv (xs.map V.int) i=some (.int p)/\p∈xs:=by
 obtain⟨j,rfl⟩:∃j:Nat,i=j:=#[i.5,av];let F:j<xs.9:=av;show#[xs[j],aL (by rw[LW,y0 F];rfl),Xo F]
noncomputable def rA:List Str:=["","a","/A","//","/a/","/abcdefg","/a b","a/b","/1","/a//b","/a.b"]
def HW:∀p∈rA,lh 100 p:=aF
noncomputable def pU:List Str:=["a","b","cc","zzzzzz"]
def F0:∀p∈pU,lh 6 p:=aF
noncomputable def tx:List Str->Str
 | [] => ""
 |w::ws=>tx ws ++ "/" ++ w
inductive pS(p:Str):Prop
 |bad(_:p∈rA)
 |root(_:p = "/")
 |names(ws:qAb)(_:∀w∈ws,w∈pU)(_:1<=ws.9)(_:ws.9<=3)(_:p=tx ws)
inductive Oj(v:qAf)(H:Hp)(Q:VK)(e:XK):Prop
 |mk(l:zB0)(_:v=[.ref l])(_:Bx H l)(_:∀(p:Str)(H':Hp),lh 1000 p->pS p->Lf l H H'->Q (.str p) H')
inductive Np(v:qAf)(H:Hp)(Q:VK)(e:XK):Prop
 |mk(l:zB0)(_:v=[.ref l])(_:Bx H l)(_:∀(n:Int)(H':Hp),sm n->Lf l H H'->Q (.int n) H')
abbrev Uo:Wo:=top 110
abbrev UO:Wo:=top 111
def Cg:aA ["_law_left_here","_law_how","_law_bad","_law_text","_law_k"] ["_law_left_here"] (ax Uo):=L2.bg
def O7:aA ["_law_left_here"] ["_law_left_here"] (ax UO):=L2.bg
theorem Jy{X:Er->zB0}(F:b4 K "_law_path" "_law_path" Uo f fd)(T:gu K mg X)(aa:↥Df 1 "_law_digit" GG):↥aU 2 f fd ["_law_left_here"] Oj:=by
 show F.dg Cg ?_;intros;let#[l,rfl,b0,k]:=h;let hs:=DD;show#[_,%[Cg,hr,bk,bP,x,bH,i,dn,(MR (i:=2)),g,1,r,dD,rfl,dk,b,dp,2,bP,x,bH,aR,f,g,1,r,an,aY,az,aL,b0,a,dp,C,cA,cA,cA,cA,cA,bH,bP,x,bH,av,4,k,cI,3,bg,bg,3,az,dp,C,bu,bu,bu,bu,af,bP,x,bH,b,3|9],?_]
 show#[0,l,(24),rfl,b0,aE,aE,λr1 H1 _ _ Z=>?_];show#[0,9];show cQ (λ_=>?_) (λ_=>?_)
 .show#[by change 11<=sizeLine;omega,λq I=>?_];let s2:=au (X:=.lst (rA.map V.str)) I;let e2:upd H1 q (.lst (rA.map V.str)) q∣(rA.map V.str):=ag;let Y:=Z.same s2;let nq:q≠l:=λz=>(by let#[v,e]:=Z.bx;rwa[<-z,I]at e);show#[0,0,l,(11),rfl,Y.bx,aE,aE,λr3 H3 a3 c3 U=>?_];let#[p,ep,G]:=E1 (xs:=rA) a3 c3;show#[q,_,r3,0,rfl,a9.of (Lf.keep U e2 nq),ep,k p H3 ((HW p G).mono aE) (.bad G) (Y.trans U)]
 show#[0,9];show cQ (λ_=>?_) (λ_=>?_)
 .show k _ H1 aF (.root rfl) Z
 show#[by change 6<=sizeLine;omega,λq I=>?_];let s2:=au (X:=.lst (([1,1,1,2,2,3]:qAa).map V.int)) I;let e2:upd H1 q (.lst (([1,1,1,2,2,3]:qAa).map V.int)) q∣(([1,1,1,2,2,3]:qAa).map V.int):=ag;let Y:=Z.same s2;let nq:q≠l:=λz=>(by let#[v,e]:=Z.bx;rwa[<-z,I]at e);show#[0,l,(6),rfl,Y.bx,aE,aE,λr3 H3 a3 c3 U=>?_];let#[n,en,hn]:=Ei (xs:=[1,1,1,2,2,3]) a3 c3;let ad:1<=n/\n<=3:=(show ∀n∈([1,1,1,2,2,3]:qAa),1<=n/\n<=3 by decide) n hn;show#[q,_,r3,0,rfl,a9.of (Lf.keep U e2 nq),en,0,av,av,?_];show gQ (lo:=0) (n:=n.5) (λi σ J=>AO λ(t:Str)(o:Option V)=>yd (σ=#v[.ref l,.int r1,none,.str t,o]) (lh (10*i) t/\∃ws,yd (∀w∈ws,w∈pU) (ws.9=i) (t=tx ws)) (Lf l H J)) #[_,0,#[aF,[],nofun,1],Y.trans U] ?_ ?_
 .rintro i σ J hi ⟨t,o,rfl,⟨L,ws,pw,lw,rfl⟩,FJ⟩;let l1:=L.len;show#[0,6,by change _+1<=sizeLine;omega,?_];show#[125,λq4 ab=>?_];let s4:=au (X:=.lst (pU.map V.str)) ab;let e4:upd J q4 (.lst (pU.map V.str)) q4∣(pU.map V.str):=ag;let F4:=FJ.same s4;let ac:q4≠l:=λz=>(by let#[v,e]:=FJ.bx;rwa[<-z,ab]at e);show#[0,l,(4),rfl,F4.bx,aE,aE,λr5 H5 a5 c5 F5=>?_];let#[p,ep,G]:=E1 (xs:=pU) a5 c5;let op:=(L.app (show lh 1 "/" by decide +kernel)).app (F0 p G);show#[q4,_,r5,0,rfl,a9.of (Lf.keep F5 e4 ac),ep,_,0,3,?_]
  .have:=(L.app (show lh 1 "/" by decide +kernel)).len;have:=(F0 p G).len;omega
  .show#[_,0,#[op.mono av,p::ws,λw h=>(We.mp h).elim (λe=>e▸G) (pw w),by rw[WG,lw],rfl],F4.trans F5]
 .rintro σ J ⟨t,o,rfl,⟨L,ws,pw,lw,et⟩,FJ⟩;show#[0,k _ _ (L.mono av) (.names ws pw av av et) FJ]
theorem Iz(F:b4 K "_law_node" "_law_node" UO f fd)(I:↥Df 1 "_law_digit" GG):↥aU 2 f fd ["_law_left_here"] Np:=by
 show F.dg O7 ?_;intros;let#[l,rfl,Z,k]:=h;show#[_,%[0,hr,f,g,c,I,o,aw,r,b,aO,c,I,o,aw,aw,b,c,I,o,aw|9],?_]
 show#[0,l,(6),rfl,Z,aE,aE,λr1 H1 _ _ G=>#[9]];show cQ (λ_=>?_) (λ_=>?_)
 .show#[0,l,(27),rfl,G.bx,aE,aE,λY H2 U c2 L=>#[6,k _ _ (by change(_:Int).12<=_;omega) (G.trans L)]]
 .show#[0,l,(5),rfl,G.bx,aE,aE,λY H2 U c2 L=>k _ _ (by change(_:Int).12<=_;omega) (G.trans L)]
def Nw(H H' H'':Hp):Prop:=∀x o,H x=none->H' x=some o->H'' x=some o
def vS(H:Hp)(t:zB0)(d:Dd)(H':Hp):Prop:=∀H'',Nw H H' H''->su H'' t d
variable{H H' J:Hp}{t:zB0}{d:Dd}
def vS.mono(h:vS H t d H')(s:aO H' J):vS H t d J:=λH'' n=>h H'' λx o a b=>n x o a (s _ _ b)
def vS.pre{H0:Hp}(h:vS H t d H')(p:∀x,H x=none->H0 x=none):vS H0 t d H':=λH'' n=>h H'' λx o a b=>n x o (p x a) b
def OM(d:Dd):Prop:=match d with
 |.make _ p=>pS p
 |.unlink p=>pS p
 |.rmdir p=>pS p
 |.link p q=>pS p/\pS q
 |.move p q=>pS p/\pS q
 |.write _ a cs=>yd (0<=a) (a<=100) (cs.9=7)
structure PO(p:Str):Prop where
 ok:cH p
 k:pS p
inductive MU(v:qAf)(H:Hp)(Q:VK)(e:XK):Prop
 |mk(l:zB0)(_:v=[.ref l])(_:Bx H l)(_:∀(t:zB0)(d:Dd)(H':Hp),yU d->OM d->Lf l H H'->H t=none->vS H t d H'->Q (.ref t) H')
noncomputable def w8:List Str:=["make","make_dir","make","make_dir","unlink","remove_dir","link","move"]
theorem O6{r:Int}(G:0<=r)(h1:r<8):∃w,mv (w8.map V.str) r=some (.str w)/\(¬ 5<r->∀p,PO p->∃d,yd (yU d) (OM d) (∀(H:Hp)(t:zB0),H t|||[.str w,.str p]->su H t d))/\(5<r->∀p q,PO p->PO q->∃d,yd (yU d) (OM d) (∀(H:Hp)(t:zB0),H t|||[.str w,.str p,.str q]->su H t d)):=by
 obtain rfl|rfl|rfl|rfl|rfl|rfl|rfl|rfl:r=0\/r=1\/r=2\/r=3\/r=4\/r=5\/r=6\/r=7:=av
 .show#[0,λ_ p o=>#[.make false p,107],116]
 .show#[0,λ_ p o=>#[.make true p,107],116]
 .show#[0,λ_ p o=>#[.make false p,107],116]
 .show#[0,λ_ p o=>#[.make true p,107],116]
 .show#[0,λ_ p o=>#[.unlink p,107],116]
 .show#[0,λ_ p o=>#[.rmdir p,107],116]
 .show#[0,λh=>absurd aE h,λ_ p q o F=>#[.link p q,#[o.ok,F.ok],#[o.k,F.k],λ_ _ h=>h]]
 .show#[0,λh=>absurd aE h,λ_ p q o F=>#[.move p q,#[o.ok,F.ok],#[o.k,F.k],λ_ _ h=>h]]
theorem Iv(n:Nat)(x:Int):(TN n [V.int x]).11=(TN n x).map V.int:=by
 induction n with
 |zero=>rfl
 |succ n F=>rw[Xz,Xz,XZ,F];rfl
theorem EG{xs:qAf}(g:∀(H:Hp)(t:zB0),H t|||xs->su H t d)(h:H t=none):vS H t d (upd J t (.tup xs)):=λH'' n=>g H'' t (n t _ h ag)
abbrev RV:Wo:=top 112
theorem Cq:aA ["_law_left_here","_law_sort","_law_words","_law_deed_here","_law_node_here"] ["_law_left_here"] (ax RV):=L2.bg
theorem Hr(F:b4 K "_law_deed" "_law_deed" RV f fd)(Z:↥Df 1 "_law_digit" GG)(am:↥Df 2 "_law_path" Oj)(a3:↥Df 2 "_law_node" Np):↥aU 3 f fd ["_law_left_here"] MU:=by
 show F.dg Cq ?_;intros;let#[l,rfl,b0,k]:=h;let hs:=DD;show#[_,%[Cq,hr,bk,c,Z,x,bH,f,H,sR,1,r,Q,C,bu,bu,bu,bu,bu,bu,bu,bu,af,aY,al,d,v,2,1,a,c,am,q,f,bB,1,r,k,cI,3,bq,Iw,3,al,a,c,am,q,b,3,O,4,c,a3,q,b,al,bu,d,4,d,c,Z,o,dp,C,cA,bH,c,Z,x,bH,a,cc,C,a,p,aw,c,Z,x,bH,aw|9],?_]
 show#[0,l,(11),rfl,b0,aE,aE,λr1 H1 a1 _ F1=>?_];let ar:∀{J:Hp}{q:zB0},Lf l H J->J q=none->q≠l:=λFJ L z=>(by let#[v,e]:=FJ.bx;rwa[<-z,L]at e);show#[0,19];show cQ (λg1=>?_) (λg1=>?_)
 .let a0:r1<8:=‹g1›;let#[wd,ew,kw,aT]:=O6 a1 a0;show#[by change 8<=sizeLine;omega,λq L=>?_];let s2:=au (X:=.lst (w8.map V.str)) L;let e2:upd H1 q (.lst (w8.map V.str)) q∣(w8.map V.str):=ag;let F2:=F1.same s2;show#[0,0,q,_,r1,0,rfl,a9.of e2,ew,69,F2.bx,λp H3 op pp F3=>#[100,λt G=>?_]];let U:=F2.trans F3;show#[0,19];show cQ (λg2=>?_) (λg2=>?_)
  .obtain ak:=U.same (au (X:=.tup [.str wd,.str p]) G);let e4:upd H3 t (.tup [.str wd,.str p]) t|||[.str wd,.str p]:=ag;show#[0,69,ak.bx,λp5 H5 a4 a2 F5=>#[93,λt6 aK=>?_]];let aP:=ak.trans F5;let s6:=au (X:=.tup [.str p5]) aK;let ac:=aP.same s6;show#[t,t6,6,cX.of (s6 _ _ (F5.keep e4 (ar U G))),cX.of ag,nofun,124,nofun,λ_ t7 ab=>#[0,?_]];let#[d,od,kd,gd]:=aT ‹g2› p p5 #[op.path aE,pp] #[a4.path aE,a2];show k t7 d _ od kd (ac.same (au ab)) (ac.nn ab) (EG gd (ac.nn ab))
  .let#[d,od,kd,gd]:=kw (λz=>g2 (zA1 z)) p #[op.path aE,pp];show#[0,k t d _ od kd (U.same (au G)) (U.nn G) (EG gd (U.nn G))]
 show#[69,F1.bx,λn H2 on F2=>?_];let ap:=F1.trans F2;show#[0,0,100,λq L=>?_];let e5:upd H2 q (.lst (([5,100]:qAa).map V.int)) q∣(([5,100]:qAa).map V.int):=ag;let as:=ap.same (au (X:=.lst (([5,100]:qAa).map V.int)) L);show#[0,l,(2),rfl,as.bx,aE,aE,λr6 H6 a6 c6 F6=>?_];let aB:=as.trans F6;let#[c,ec,hc]:=Ei (xs:=[5,100]) a6 c6;let be:0<c/\c<=100:=(show ∀n∈([5,100]:qAa),0<n/\n<=100 by decide) c hc;show#[q,_,r6,0,rfl,a9.of (F6.keep e5 (ar ap L)),ec,l,c,rfl,aB.bx,be.1,av,λpl H7 a7 c7 F7=>?_];let ad:=aB.trans F7;show#[0,l,(255),rfl,ad.bx,aE,aE,λI H8 _ _ F8=>#[6,93,λY bd=>?_]];let a5:=ad.trans F8;let e9:upd H8 Y (.lst [V.int (1+I)]) Y∣[V.int (1+I)]:=ag;let aj:=a5.same (au (X:=.lst [V.int (1+I)]) bd);show#[Y,(7),0,rfl,e9,av,av,by change 1*7<=sizeLine;omega,λp fp=>#[125,λt G=>?_]];let ec:upd (upd H8 Y (.lst [V.int (1+I)])) p (.lst (TN 7 [V.int (1+I)]).11) p=some (.lst (TN 7 [V.int (1+I)]).11):=ag;let aa:=aj.same (au (X:=.lst (TN 7 [V.int (1+I)]).11) fp);let sd:=au (X:=.tup [.str "write_at",.int n,.int pl,.ref p]) G;show k t (.write n pl (TN 7 (1+I))) _ #[on,by change pl.12<=_;omega,by rw[WM];decide] #[a7,av,WM] (aa.same sd) (aa.nn G) λH'' nw=>#[p,nw t _ (aa.nn G) ag,?_];rw[<-Iv];show nw p _ (aj.nn fp) (sd _ _ ec)
noncomputable def b9(ns:qAb):Str:=ns.foldl (λt w=>t++SL++w) ""
def cj(ns:qAb)(w:Str):b9 (ns++[w])=b9 ns++SL++w:=by
 unfold b9;rw[Z2];rfl
theorem uN:∀ws:List Str,b9 ws.reverse=tx ws
 | []=>rfl
 |w::ws=>by rw[YW,cj,uN ws];rfl
variable{N:NS}{S:SS}
theorem jM(ns:qAb):∀{v:qAa},cI N S ns=.ok v->At (bC N) S (b9 ns) (lst v):=by
 show kC (P:=λns=>∀{v:qAa},cI N S ns=.ok v->At (bC N) S (b9 ns) (lst v)) ?_ (λns nm F=>?_) ns
 .intro v h;cases h;show .root
 .intro v h;rw[iP]at h;cases e:cI N S ns with
  |error r=>rwa[e]at h
  |ok u =>
   rw[e]at h;unfold i3 at h;dsimp only at h;cases dd:bC N (lst u)=true
   .rw[acW dd]at h;cases q:fG (S (lst u)) nm with
    |none=>rwa[q]at h
    |some j =>
     rwa[q]at h;rw[lst_snoc,cj];show .step (F e) dd q
   .rw[acV dd]at h;cases h
theorem ND(F:Fz N S)(ns:qAb):(∀w∈ns,okN w)->∀{e:Er},cI N S ns=.error e->∀k,¬ At (bC N) S (b9 ns) k:=by
 show kC (P:=λns=>(∀w∈ns,okN w)->∀{e:Er},cI N S ns=.error e->∀k,¬ At (bC N) S (b9 ns) k) ?_ (λns nm U=>?_) ns
 .intro _ e h;cases h
 .intro ok e h k a;rw[cj]at a;let#[d,G,I,L]:=a.inv F.oG (ok nm (By _ (sx.mpr rfl)));rw[iP]at h;cases q:cI N S ns with
  |error r=>show U (λw Y=>ok w (Wg _ Y)) q d G
  |ok u =>
   rw[q]at h;cases G.fn F.oG (jM ns q);unfold i3 at h;dsimp only at h;rwa[acW I,L]at h
noncomputable def isOk{α β:Type}:Except α β->Option β
 |.ok x=>some x
 |.error _=>none
noncomputable def AR:List (List Str):=pU.map λa=>[a]
noncomputable def lZ:List (List Str):=pU.flatMap λa=>pU.map λb=>[a,b]
noncomputable def Oy:List (List Str):=pU.flatMap λa=>lZ.map λb=>a::b
def qp:∀w∈pU,okN w:=λw h=>tR ((show ∀w∈pU,fH w=true by decide +kernel) w h)
def Ba:∀p∈rA,isOk (gf p)=none:=aF
theorem qO:gf "/" = .ok []:=by
 have:isOk (gf "/")=some []:=aF;cases q:gf "/" with
 |error e=>rwa[q]at this
 |ok l=>rwa[q]at this;rfl
def G9:∀ws∈AR++lZ++Oy,isOk (gf (tx ws))=some ws.reverse:=aF
theorem tL{ws:qAb}(h:∀w∈ws,w∈pU)(h1:1<=ws.9)(F:ws.9<=3):ws∈AR++lZ++Oy:=by
 let G:∀{a b:Str},a∈pU->b∈pU->[a,b]∈lZ:=λL I=>aci.mpr #[_,L,z4.mpr #[_,I,rfl]]
 match ws,h,h1,F with
 | [a],h,_,_=>show Wg _ (Wg _ (z4.mpr #[a,h a (by simp),rfl]))
 | [a,b],h,_,_=>show Wg _ (By _ (G (h a (by simp)) (h b (by simp))))
 | [a,b,c],h,_,_=>show By _ (aci.mpr #[a,h a (by simp),z4.mpr #[_,G (h b (by simp)) (h c (by simp)),rfl]])
 |_::_::_::_::_,_,_,F=>simp at F
inductive Ie(p:Str):Prop
 |bad(e:Er)(_:p∈rA)(_:gf p=.error e)
 |root(_:p = "/")(_:gf p=.ok [])
 |names(ns:qAb)(w:Str)(_:∀x∈ns++[w],x∈pU)(_:ns.9<=2)(_:p=b9 (ns++[w]))(_:gf p=.ok (ns++[w]))
theorem pS.n{p:Str}(h:pS p):Ie p:=by
 rcases h with h|h|⟨ws,h,h1,F,rfl⟩
 .let q:=Ba p h;cases e:gf p with
  |ok l=>rwa[e]at q
  |error r=>show .bad r h e
 .show .root h (by rw[h];show qO)
 .let q:=G9 ws (tL h h1 F);cases e:gf (tx ws)with
  |error r=>rwa[e]at q
  |ok l =>
   rwa[e]at q;cases ws with
   |nil=>show absurd h1 aE
   |cons w ws =>
    rw[YW]at e;show .names ws.reverse w (λx G=>h x ?_) (by rw[abm];rw[WG]at F;omega) ?_ e
    .rw[<-YW]at G;show List.mem_reverse.mp G
    .rw[<-YW,uN]
end Fs
namespace L2
open PySem PySem.Spec PyProof.Rows PySem.Builtin PySem.Builtin.Str
inductive wg(f:Str->Bool)(x:V)(vs:qAf)(H:Hp)(Q:VK):Prop
 |mk(a:Str)(_:x=.str a)(_:vs=[])(_:Q (.bl (f a)) H)
inductive Gd(x:V)(vs:qAf)(H:Hp)(Q:VK):Prop
 |mk(a b:Str)(_:x=.str a)(_:vs=[.str b])(_:Q (.int (Txt.rfind a b)) H)
variable{X:Cx}
theorem zA:Kv X "str.isalpha" (wg Txt.isalpha):=by
 intros x vs v us Q I G F h;let#[a,rfl,rfl,q]:=h;let#[t,rfl]:=G;cases F;show SC.isalpha #[75,rfl,q]
theorem y6:Kv X "str.islower" (wg Txt.islower):=by
 intros x vs v us Q I G F h;let#[a,rfl,rfl,q]:=h;let#[t,rfl]:=G;cases F;show SC.islower #[75,rfl,q]
theorem qQ:Kv X "str.rfind" Gd:=by
 intros x vs v us Q I F G h;let#[a,b,rfl,rfl,q]:=h;let#[t,rfl]:=F;let#[u,rfl,ru]:=G.one;let#[t',rfl]:=ru;show SC.rfind #[.int _,85]
end L2
namespace Fs
open PySem L2 Dk Tb Srt
noncomputable def uV(w:Str):Bool:=decide (1<=w.9)&&(decide (w.9<=6)&&(Txt.isalpha w&&Txt.islower w))
noncomputable def OE(p:Str):Option (List Str):=if p = "/" then some []else if (Txt.split p "/").9<2\/(Txt.split p "/")[0]?≠some ("" : Str)\/false∈((Txt.split p "/").drop 1).map uV then none else some ((Txt.split p "/").drop 1)
def Jr:∀p∈rA,OE p=none:=aF
def ML:∀ws∈AR++lZ++Oy,OE (tx ws)=some ws.reverse:=aF
variable{p:Str}
theorem iR(h:pS p):OE p=isOk (gf p):=by
 rcases h with h|rfl|⟨ws,h,h1,F,rfl⟩
 .rw[Jr p h,Ba p h]
 .rw[qO];rfl
 .rw[ML ws (tL h h1 F),G9 ws (tL h h1 F)]
inductive sX(v:qAf)(H:Hp)(Q:VK)(e:XK):Prop
 |mk(p:Str)(_:v=[.str p])(_:pS p)(_:OE p=none->∀H',aO H H'->Q .bh H')(_:∀l,OE p=some l->∀H' q,aO H H'->H q=none->H' q∣(l.map V.str)->Q (.ref q) H')
theorem pS.len(h:pS p):p.9<=30:=by
 rcases h with h|rfl|⟨ws,h,h1,F,rfl⟩
 .show(show ∀p∈rA,p.9<=30 by decide +kernel) p h
 .decide +kernel
 .show(show ∀ws∈AR++lZ++Oy,(tx ws).9<=30 by decide +kernel) ws (tL h h1 F)
theorem Nb(bs:List Bool):rJ (V.bl false) (bs.map V.bl)=true↔false∈bs:=by
 induction bs with
 |nil=>show#[(λh=>Bool.noConfusion h),(λh=>absurd h WX)]
 |cons b bs F =>
  let e:rJ (V.bl false) ((b::bs).map V.bl)=(jx (V.bl b) (V.bl false)||rJ (V.bl false) (bs.map V.bl)):=rfl;rw[e,acx,F,We];cases b with
  |true=>show#[(λh=>h.elim (λz=>Bool.noConfusion z) .inr),(λh=>h.elim (λz=>Bool.noConfusion z) .inr)]
  |false=>show#[λ_=>.inl rfl,λ_=>.inl rfl]
def Qm(xs:qAf):d8 xs (some 1) none=xs.drop 1:=by
 unfold d8;cases xs with
 |nil=>rfl
 |cons x r=>simp[HT.qN]
theorem Nx{σ:St}{w:Str}{H:Hp}{Q:VK}(U:w.9<=1000)(q:Q (.bl (uV w)) H)(G:σ[0]?=some (some (.str w))):(Gp (Ds (DJ λi j=>V.bl (decide (i<=j))) (DJ λi j=>V.bl (decide (i<=j))) (tC (V.int 1)) (SR (λxs H Q=>∃z,xs=[V.str z]/\z.9<=sizeLine/\Q (V.int (Int.ofNat z.9)) H) (tq (fX 0) xI)) (tC (V.int 6))) (Gp (Fb K "str" (wg Txt.isalpha) (fX 0)) (Fb K "str" (wg Txt.islower) (fX 0)))) σ H Q:=by
 let hs:=DD;unfold uV at q;show#[_,G,w,rfl,av,19];show cQ (λc1=>?_) (λc1=>#[false,rfl,bA ?_])
 .let L:1<=w.9:=(by have:=zA0 c1;omega);rw[zA1 L,abv]at q;show#[19];show cQ (λc2=>?_) (λc2=>?_)
  .let I:w.9<=6:=(by have:=zA0 c2;omega);rw[zA1 I,abv]at q;show#[_,G,rfl,w,1,0,?_];show cQ (λF=>?_) (λF=>?_)
   .rw[F,abv]at q;show#[_,G,rfl,w,1,q]
   .rw[W0.mpr F,ZE]at q;show q
  .rw[zA2 (λz=>c2 (zA1 av)),ZE]at q;show q
 .rw[zA2 (λz=>c1 (zA1 av)),ZE]at q;show q
theorem pS.VY(h:pS p):(Txt.split p "/").9<=30/\∀w∈Txt.split p "/",w.9<=30:=by
 rcases h with h|rfl|⟨ws,h,h1,F,rfl⟩
 .show(show ∀p∈rA,(Txt.split p "/").9<=30/\∀w∈Txt.split p "/",w.9<=30 by decide +kernel) p h
 .decide +kernel
 .show(show ∀ws∈AR++lZ++Oy,(Txt.split (tx ws) "/").9<=30/\∀w∈Txt.split (tx ws) "/",w.9<=30 by decide +kernel) ws (tL h h1 F)
abbrev N8:Wo:=top 88
def Gy:aA ["_law_path_here","_law_pieces","_law_fits"] ["_law_path_here"] (ax N8):=L2.bg
theorem Cp{X:Er->zB0}(F:b4 K "_law_names" "_law_names" N8 f fd)(T:gu K mg X):↥aU 1 f fd ["_law_path_here"] sX:=by
 show F.dg Gy ?_;intros;let#[p,rfl,hp,k1,k2]:=h;let hs:=DD;let lp:=hp.len;show#[_,%[Gy,0,f,g,0,E,b,aC,bk,cl,YR,aaz,x9,0,y,i,dJ,(vj (i:=2) (cl:=[]) (caps:=[])),dD,rfl,dk,bJ,aZ,w,1,D,aw,bM,a8,cm,d2,AW,AW,aw,S,jS,cO,q,aw,cm,(show PE _ _ (Fb K _ _ _)from uT Xd PySem.F.slot_str_isalpha PySem.F.type_str_isalpha zA (pv 0)),cJ,(show PE _ _ (Fb K _ _ _)from uT Xd PySem.F.slot_str_islower PySem.F.type_str_islower y6 (pv 0)),bb,bw,H,sR,l,e,r,bw,aF,aJ,1,E,bK,H,kH,iJ,2,cq,cu,b,w,1,D,aw,bM|9],?_]
 show#[0,9];show cQ (λg=>?_) (λg=>?_)
 .let e:p = "/" := ‹g›;show#[aE,λq I=>k2 [] (by rw[e];rfl) _ q (au I) I ag]
 let np:¬ p = "/" := λe=>g (by simp[e]);show#[0,rfl,p,"/",1,aF,av,λa fa=>?_];exists fa,(.lst ((Txt.split p "/").map V.str)),s1,G,H1;let#[z1,z2]:=hp.VY;unfold OE at k1 k2;rw[acV np]at k1 k2;generalize Txt.split p "/" = ps at *;let ec:d8 (ps.map V.str) (some 1) none=(ps.drop 1).map V.str:=(by rw[Qm,ab0]);show#[0,0,a,0,56,λb fb=>?_];rw[ec];exists fb,(.lst ((ps.drop 1).map V.str)),s2,e2,H2;show#[b,rfl,#[_,a9.of e2],?_];show gO (K:=K) (a:=b) (xs:=(ps.drop 1).map V.str) (λi ys J=>ys=(((ps.drop 1).take i).map uV).map V.bl/\J=H2) #[1] (λi ys J _ z=>by rw[z.2];show a9.of e2) ?_ ?_
 .rintro i v ys J hv ⟨rfl,rfl⟩;rw[LW]at hv;let#[x,hx,rfl]:=HC.mp hv;let mx:=XH (L1 hx);show Nx (WK (z2 x mx) aE) #[5,rfl] rfl
  .rw[dM,dM,IF,WC];omega
  .rw[WE,hx,yl,yl];rfl
 rintro ys J ⟨rfl,rfl⟩ l fl;rw[dM,WV];exists fl,(.lst (((ps.drop 1).map uV).map V.bl)),s3,e3,H3;let G:=s3 _ _ (s2 _ _ G);let L:=(s1.trans s2).trans s3;show#[0,a,0,73,19];rw[dM];show cQ (λc1=>?_) (λc1=>?_)
 .let U:ps.9<2:=(by have:=zA0 c1;omega);show k1 (acW (.inl U)) _ L
 let U:¬ ps.9<2:=λz=>c1 (zA1 av);cases ps with
 |nil=>show absurd (Nat.zero_lt_succ 1) U
 |cons x r =>
 show#[0,a,_,(0),.str x,1,56,84,9];show cQ (λc2=>?_) (λc2=>?_)
 .let Y:¬ x = "" := λz=>(by rw[z]at c2;simp at c2);show k1 (acW (.inr (.inl λz=>Y (OR z)))) _ L
 let Y:x = "" := WJ λz=>c2 (by rw[zA2 (λy=>z (V.str.inj y))];rfl);let aa:(((acO 1 (x::r)).map uV).map V.bl).all d9=true:=by
  rw[abV];show Xp.mpr λ_ _=>rfl
 let iv:rJ (V.bl false) (((acO 1 (x::r)).map uV).map V.bl)=true↔false∈(acO 1 (x::r)).map uV:=Nb _;show#[0,l,0,.inl (a9.of e3),rfl,aa,0,?_];show cQ (λZ=>?_) (λZ=>?_)
 .show k1 (acW (.inr (.inr (iv.mp Z)))) _ L
 let kk:=k2 _ (acV (λz=>z.elim U λz=>z.elim (λz=>z (by rw[Y];rfl)) λz=>Z (iv.mpr z)));show#[0,0,a,0,56,λq I=>?_];rw[ec];show kk _ q (L.trans (au I)) (a8 L I) ag
end Fs
namespace L2
open PySem PySem.Spec PyProof.Rows
def Qj(v a:zB0):HO:=.ext λh=>h.IsValuesView v a
inductive AM(td:TE)(Q:VK)(x:V)(H1:Hp):Prop
 |mk(a:_)(kvs:_)(_:x=.ref a)(_:Rd H1 a (.dK kvs))(_:∀v,H1 v=none->Q (.ref v) (upd H1 v (Qj v a)))
def LI(td:TE):TE:=λσ H Q=>td σ H λx H1=>AM td Q x H1
variable{X:Cx}
theorem Dx{o:Ws}{apos cpos:XU}{td:TE}(ho:PE X o td)(ab:Xx o "values" X.env (eval o X.env)=eval o X.env:=by rfl)(aa:(apos.endLine==cpos.line)=true:=by rfl):PE X (.Call (.Attribute o "values" apos) [] [] cpos) (LI td):=by
 intros Q I h;show XC ab aa (cc (ho pins s σ H _ I h) λu L ⟨x,H1,G,rx,a,kvs,ex,Z,q⟩=>?_);subst ex;obtain rfl:u=Value.ref a:=rx;let#[t1,t2,hd]:=lM G (.inl #[kvs,Z]);let#[_,_,vs,_,dd]:=jW G.bL Z;show#["dict","dict.values",XW,Y6,Z6,24];show X1 Y6 dd.typeIs ZQ (ZM _) (meets_dict_values (bO X.prog X.w) a hd) #[#[vs,dd],?_];let Y:=zA5 L.heap (o:={ cls:=.type "dict_values",data:=.fields ([.ref a].8) }) rfl;show#[.ref L⁻¹,_,G.laid (t':=L.toks) (λb o e=>zA4 _ e) (G0 _) (show cp X.prog X.w _ _ _ (Qj _ a)from#[#[_,Y,1],#[_,Y],λha hb z kk=>?_]),rfl,q _ (G.bL.fresh (G0 _))];let#[U,e1,e2,e3]:=z;show#[U,kk U e1,e2,e3]
inductive Hh(f:zB0->zB0->HO)(g:Key×V->V)(xs:qAf)(H:Hp)(Q:VK):Prop
 |mk(v d:zB0)(kvs:qAg)(_:xs=[.ref v])(_:H v=some (f v d))(_:Rd H d (.dK kvs))(_:kvs.9<=1000)(_:∀l,H l=none->Q (.ref l) (upd H l (.lst (kvs.map g))))
theorem oV(hc:X.calm=true):eI X (.type "list") (Hh vw λF=>kV F.1):=by
 intros xs us Q I r h;let#[v,d,kvs,rfl,L,hD,hn,q]:=h;let#[u,rfl,ru]:=vals1 r;cases ru;let hs:=DD;let#[_,_,vs,Y,dd]:=jW I.bL hD;let#[ep,aa]:=dd.dictAt;let#[view,_]:=(show cp X.prog X.w H s.heap v (vw v d)from I.bL v _ L);let ac:=Y.9;show kdl_call (PySem.W.kdl_keys (knd:=bO X.prog X.w) (kvs:=vs) (ep:=ep) (r:=v) (d:=d)) (I.ok.hd hc) #[view,aa] av λh' tk G c' k1 k2 k3=>?_;let#[sz,it]:=k3;let rv:Vals (kvs.map λF=>kV F.1) G.7:=by
  show uX ?_ λj x v U L=>?_
  .let al:G.toList.length=G.3:=Xe;rw[dM];omega
  .rw[LW]at U;let#[F,hk,rfl]:=HC.mp U;let ab:G[j]?=some v:=(by rw[<-Yh];show L);let#[k,y,Z,e2]:=it j v ab;let e3:(vs.map (·.1))[j]?=some k:=(by rw[LW,Z];rfl);rw[<-Y.keys,LW,hk]at e3;obtain rfl:F.1=k:=OR e3;show va e2
 show#[95,I.laid k1 (G0 _) (show cp X.prog X.w _ h' _ (.lst (kvs.map λF=>kV F.1))from#[87,G.7,c',rv,by simpa using k2]),29]
theorem Cv(hc:X.calm=true):eI X (.type "list") (Hh Qj λF=>F.2):=by
 intros xs us Q I r h;let#[v,d,kvs,rfl,L,hD,hn,q]:=h;let#[u,rfl,ru]:=vals1 r;cases ru;let hs:=DD;let#[_,_,vs,Y,dd]:=jW I.bL hD;let#[ep,aa]:=dd.dictAt;let#[view,_]:=(show cp X.prog X.w H s.heap v (Qj v d)from I.bL v _ L);let ac:=Y.9;show kdl_call (PySem.W.kdl_values (knd:=bO X.prog X.w) (kvs:=vs) (ep:=ep) (r:=v) (d:=d)) (I.ok.hd hc) #[view,aa] av λh' tk G c' k1 k2 k3=>?_;let#[sz,it]:=k3;let rv:Vals (kvs.map λF=>F.2) G.7:=by
  show uX ?_ λj x v U L=>?_
  .let al:G.toList.length=G.3:=Xe;rw[dM];omega
  .rw[LW]at U;let#[F,hk,rfl]:=HC.mp U;let ab:G[j]?=some v:=(by rw[<-Yh];show L);let#[k,e1]:=it j v ab;let#[k2,y,x2,Z,e3,e4]:=FC Y (u4.mp hk).1;rw[hk]at Z;rw[e1]at e3;cases Z;cases e3;show e4
 show#[95,I.laid k1 (G0 _) (show cp X.prog X.w _ h' _ (.lst (kvs.map λF=>F.2))from#[87,G.7,c',rv,by simpa using k2]),29]
inductive KO(x:V)(vs:qAf)(H:Hp)(Q:VK):Prop
 |mk (l:zB0) (xs:qAf) (y:V) (_:x=.ref l) (_:vs=[y]) (_:H l∣xs) (_:xs.all d9=true) (_:d9 y=true) (_:Q (.int (xs.countP λz=>jx z y:Nat)) H):KO x vs H Q
theorem u9{x:V}:∀{xs:qAf}{us:qa6},Vals xs us->xs.all d9=true->us.map (sM x)=xs.map λy=>jx y x
 |_,_,.nil,_=>rfl
 |y::xs,u::us,.cons r t,h=>by
  rw[acD,X8]at h;rw[Wy,Wy,uw r h.1,u9 t h.2]
theorem IT:IA X "list.count" KO:=by
 intros x vs v us Q I U Y h;let#[l,xs,y,rfl,rfl,L,G,f2,q]:=h;cases U;let#[u,rfl,ru]:=Y.one;let#[_,its,n,r,_,e]:=I.pG L;show XG aai #[81] PySem.F.entry_list_count (PySem.F.args_list_count_2 _ _)
  (SeqAt.list_countAt l its.8 n none ([].8) u (sM y)) #[e,λw Z=>ib ru f2 r G w ‹Z›,?_]
 show#[.int (xs.countP λz=>jx z y:Nat),H,I.tok _,#[s.toks,?_],q];have:=congrArg (countP id) (u9 r G (x:=y));rw[countP_map,countP_map]at this;rw[show countP (λz=>jx z y) xs=countP (id∘λz=>jx z y) xs from rfl, <-this];rfl
inductive OT(x:V)(vs:qAf)(H:Hp)(Q:VK):Prop
 |mk (l:zB0) (xs:qAf) (y:V) (j:Nat) (_:x=.ref l) (_:vs=[y]) (_:H l∣xs) (_:xs.all d9=true) (_:d9 y=true) (_:(xs[j]?).map (λz=>jx z y)=some true) (_:∀i,i<j->(xs[i]?).map (λz=>jx z y)=some false) (_:Q (.int (j:Nat)) H):OT x vs H Q
theorem Ep:IA X "list.index" OT:=by
 intros x vs v us Q I rx Y h;let#[l,xs,y,j,rfl,rfl,Z,L,f2,h1,h2,q]:=h;cases rx;let#[u,rfl,ru]:=Y.one;let#[z,its,n,r,hl,e]:=I.pG Z;let em:=u9 r L (x:=y);let key:∀(i:Nat)(b:Bool),(xs[i]?).map (λz=>jx z y)=some b->(its[i]?).map (sM y)=some b:=λi b hb=>by
  have:=congrArg (λl:List Bool=>l[i]?) em;simp only[LW]at this;rw[this];show hb
 let G:j<its.9:=by
  have:=key j true h1;cases q:its[j]? with
  |none=>rwa[q]at this
  |some y=>show(u4.mp q).1
 let hs:=DD;show XG YD #[81] Z9 (ZS _ _)
  (abG l its.8 n none ([].8) u (sM y) j ‹G› av ?_ ?_) #[e,λw hw=>ib ru f2 r L w ‹hw›,#[.int (j:Nat),85]]
 .have:=key j true h1;rw[y0 G]at this;simpa using this
 .intro i hi U;have:=key i false (h2 i U);rw[y0 ‹hi›]at this;simpa using this
end L2
namespace Fs
open PySem L2 Dk Tb Srt
structure Hs(H:Hp)(c:List (zB0×HO)):Prop where
 nd:(c.map (·.1)).4
 at_:∀x∈c,H x.1=some x.2
section
variable{H:Hp}{c c':List (zB0×HO)}
def Hs.perm(h:Hs H c)(p:c.Perm c'):Hs H c':=#[(p.map _).nodup_iff.mp h.nd,λx F=>h.at_ x (p.mem_iff.mpr F)]
def Hs.sub(h:Hs H c)(p:c'.Sublist c):Hs H c':=#[h.nd.sublist (p.map _),λx F=>h.at_ x (p.subset F)]
variable{H':Hp}
theorem Hs.off{B:qa0}(h:Hs H c)(f:Off B H H')(n:∀x∈c.map (·.1),¬ B x):Hs H' c:=#[h.nd,λx F=>f _ _ (h.at_ x F) (n _ (z4.mpr #[x,F,rfl]))]
def Hs.same(h:Hs H c)(f:aO H H'):Hs H' c:=h.off (Off.of f) λ_ _=>id
variable{a:zB0}{o:HO}
theorem Hs.new(h:Hs H c)(n:H a=none):Hs (upd H a o) ((a,o)::c):=by
 show#[Wq.mpr #[λm=>?_,h.nd],λx F=>?_]
 .let#[x,F,e]:=z4.mp m;have:=h.at_ x F;rwa[e,n]at this
 .rcases We.mp F with rfl|F
  .show ag
  .show(au n) _ _ (h.at_ x F)
theorem Hs.hd(h:Hs H ((a,o)::c))(o':HO):Hs (upd H a o') ((a,o')::c):=by
 let#[G,_]:=Wq.mp h.nd;show#[h.nd,λx F=>?_];rcases We.mp F with rfl|F
 .show ag
 .rw[ay (λe=>G (z4.mpr #[x,F,e]))];show h.at_ x (Wm _ F)
theorem Hs.set{c1 c2:List (zB0×HO)}(h:Hs H (c1++(a,o)::c2))(o':HO):Hs (upd H a o') (c1++(a,o')::c2):=((h.perm Yn).hd o').perm Yn.6
variable{α β:Type}{k:Int}
theorem wy{l:List (Int×α)}{b:α}(nd:(l.map (·.1)).4)(h:look l k=some b):∃l1 l2,l=l1++(k,b)::l2/\∀x∈l1++l2,¬ x.1=k:=by
 let#[l1,l2,rfl]:=List.append_of_mem (d7 h);show#[l1,l2,rfl,λx F e=>?_];have:=(Yn (l₁:=l1.map (·.1)) (l₂:=l2.map (·.1)) (a:=k)).nodup_iff.mp ‹nd›;show(Wq.mp this).1 (by rw[<-yl, <-e];show z4.mpr #[x,F,rfl])
theorem oE{l:List (Int×α)}{f:Int×α->β}(g:Int×α->β)(h:∀x∈l,¬ x.1=k)(e:∀x,¬ x.1=k->g x=f x):l.map g=l.map f:=Xs λx F=>e x (h x F)
end
structure WW where
 a:zB0
 aa:zB0
 sa:zB0
 ca:zB0
 ha:zB0
 A:List (Str×Int)
 L:List (Int×zB0)
 C:List (Int×zB0)
def kA(A:List (Str×Int)):List (Key×V):=A.map λx=>(Xw x.1,V.int x.2)
noncomputable def sV(s:Slot):V:=match s with
 |none=>.bh
 |some p=>.str p.1
noncomputable def T9(W:WW):List (Key×V):=[(.inr "at",.ref W.aa),(.inr "slots",.ref W.sa),(.inr "cells",.ref W.ca),(.inr "holds",.ref W.ha),(.inr "room",.int 60)]
noncomputable def fL(S:SS)(x:Int×zB0):zB0×HO:=(x.2,.lst ((S x.1).map sV))
noncomputable def fC(c:qa4)(x:Int×zB0):zB0×HO:=(x.2,.lst ((c x.1).map V.int))
noncomputable def cont(W:WW)(S:SS)(c:qa4):List (zB0×HO):=(W.a,.dK (T9 W))::(W.aa,.dK (kA W.A))::(W.sa,.dK (dk V.ref W.L))::(W.ca,.dK (dk V.ref W.C))::(W.ha,.dK [])::(W.L.map (fL S)++W.C.map (fC c))
noncomputable def wl(W:WW):List zB0:=W.a::W.aa::W.sa::W.ca::W.ha::(W.L.map (·.2)++W.C.map (·.2))
noncomputable def zd(c:qa4)(n:Int)(x:qAa):Int->List Int:=λk=>if k=n then x else c k
abbrev Wh(H:Hp)(W:WW)(S:SS)(c:qa4):Prop:=Hs H (cont W S c)
variable{W:WW}{S:SS}{c:qa4}
def rN:(cont W S c).map (·.1)=wl W:=by
 unfold cont wl;simp only[Wy,yl,WU];rfl
variable{H:Hp}
def Wh.wd(h:Wh H W S c):H W.a^^^(T9 W):=h.at_ (_,_) Wn
def Wh.at(h:Wh H W S c):H W.aa^^^(kA W.A):=h.at_ (_,_) (.tail _ (.head _))
def Wh.s(h:Wh H W S c):H W.sa^^^(dk V.ref W.L):=h.at_ (_,_) (.tail _ (.tail _ (.head _)))
def Wh.ce(h:Wh H W S c):H W.ca^^^(dk V.ref W.C):=h.at_ (_,_) (.tail _ (.tail _ (.tail _ (.head _))))
def Wh.ho(h:Wh H W S c):H W.ha^^^[]:=h.at_ (_,_) (.tail _ (.tail _ (.tail _ (.tail _ (.head _)))))
variable{b:zB0}{d:Int}
theorem Wh.sl(h:Wh H W S c)(e:look W.L d=some b):H b∣((S d).map sV):=h.at_ (fL S (d,b)) (.tail _ (.tail _ (.tail _ (.tail _ (.tail _ (Wg _ (z4.mpr #[_,d7 e,rfl])))))))
theorem Wh.cl(h:Wh H W S c)(e:look W.C d=some b):H b∣((c d).map V.int):=h.at_ (fC c (d,b)) (.tail _ (.tail _ (.tail _ (.tail _ (.tail _ (By _ (z4.mpr #[_,d7 e,rfl])))))))
def Wh.BK(h:Wh H W S c)(A:List (Str×Int)):Wh (upd H W.aa (.dK (kA A))) { W with A:=A } S c:=Hs.set (c1:=[_]) h _
theorem Wh.sC(h:Wh H W S c)(nd:(W.L.map (·.1)).4)(e:look W.L d=some b)(ss:List Slot):Wh (upd H b (.lst (ss.map sV))) W (ja S d ss) c:=by
 let#[l1,l2,G,ne]:=wy nd e;let m:=oE (f:=fL S) (fL (ja S d ss)) ne λx F=>(by unfold fL;rw[c9 F]);rw[yl,yl]at m;let#[m1,m2]:=append_inj m (by rw[dM,dM]);unfold Wh cont at h ⊢;rw[G,yl,Wy,WI,List.cons_append]at h ⊢;rw[m1,m2,show fL (ja S d ss) (d,b)=(b,.lst (ss.map sV))by unfold fL;rw[eU]];show Hs.set (c1:=_::_::_::_::_::l1.map (fL S)) h _
theorem Wh.U0(h:Wh H W S c)(n:H b=none)(e:look W.L d=none):Wh (upd (upd H b (.lst [])) W.sa (.dK (dk V.ref (W.L++[(d,b)])))) { W with L:=W.L++[(d,b)] } (ja S d []) c:=by
 let h1:=(Hs.new (o:=.lst []) h n);let h2:=Hs.set (c1:=[_,_,_]) h1 (.dK (dk V.ref (W.L++[(d,b)])));show Hs.perm h2 ?_;let m:=oE (k:=d) (f:=fL S) (fL (ja S d [])) (λx F z=>iD e (z4.mpr #[x,F,z])) λx F=>(by unfold fL;rw[c9 F]);unfold cont;rw[yl,m,show[(d,b)].map (fL (ja S d []))=[(b,.lst [])]by unfold fL;rw[X4,eU];rfl,WI];show(Yn (a:=(b,HO.lst [])) (l₁:=_::_::_::_::_::W.L.map (fL S))).6
theorem Wh.Td(h:Wh H W S c)(n:H b=none)(e:look W.C d=none):Wh (upd (upd H b (.lst [])) W.ca (.dK (dk V.ref (W.C++[(d,b)])))) { W with C:=W.C++[(d,b)] } S (zd c d []):=by
 let h1:=(Hs.new (o:=.lst []) h n);let h2:=Hs.set (c1:=[_,_,_,_]) h1 (.dK (dk V.ref (W.C++[(d,b)])));show Hs.perm h2 ?_;let m:=oE (k:=d) (f:=fC c) (fC (zd c d [])) (λx F z=>iD e (z4.mpr #[x,F,z])) λx F=>(by unfold fC zd;rw[acV F]);unfold cont;rw[yl,m,show[(d,b)].map (fC (zd c d []))=[(b,.lst [])]by unfold fC zd;rw[X4,acW rfl];rfl, <-WI];show(XQ (l₁:=_::_::_::_::_::(W.L.map (fL S)++W.C.map (fC c))) (l₂:=[(b,HO.lst [])])).6
theorem Wh.RP(h:Wh H W S c)(nd:(W.L.map (·.1)).4)(e:look W.L d=some b):Wh (upd H W.sa (.dK (dk V.ref (fU W.L d)))) { W with L:=fU W.L d } (ja S d []) c:=by
 let h1:=Hs.set (c1:=[_,_]) h (.dK (dk V.ref (fU W.L d)));let m:=oE (k:=d) (l:=fU W.L d) (f:=fL S) (fL (ja S d [])) (λx F=>(pW F).2) λx F=>(by unfold fL;rw[c9 F]);unfold Wh cont;rw[m];show h1.sub (Xg (Xt [_,_,_,_,_]) (Xg ((Ya (l:=W.L)).map _) (Xt _)))
theorem Wh.UD(h:Wh H W S c):Wh (upd H W.ca (.dK (dk V.ref (fU W.C d)))) { W with C:=fU W.C d } S c:=by
 let h1:=Hs.set (c1:=[_,_,_]) h (.dK (dk V.ref (fU W.C d)));show h1.sub (Xg (Xt [_,_,_,_,_]) (Xg (Xt _) ((Ya (l:=W.C)).map _)))
theorem Wh.yI{F:zB0}(h:Wh H W S c)(nd:(W.C.map (·.1)).4)(e:look W.C d=some b)(n:H F=none)(x:qAa):Wh (upd (upd H F (.lst (x.map V.int))) W.ca (.dK (dk V.ref (dI W.C d F)))) { W with C:=dI W.C d F } S (zd c d x):=by
 let#[l1,l2,G,ne]:=wy nd e;let es:dI W.C d F=l1++(d,F)::l2:=by
  let z:=oE (k:=d) (f:=id) (λx:Int×zB0=>if x.1=d then(d,F)else x) ne λx I=>acV I;rw[yl,yl]at z;let#[z1,z2]:=append_inj z (by rw[dM,dM]);rw[G];unfold Tb.dI;rw[yl,Wy,z1,z2,acW rfl,map_id,map_id]
 let h1:=Hs.set (c1:=[_,_,_,_]) (Hs.new (o:=.lst (x.map V.int)) h n) (.dK (dk V.ref (dI W.C d F)));let m:=oE (f:=fC c) (fC (zd c d x)) ne λy U=>(by unfold fC zd;rw[acV U]);rw[yl,yl]at m;let#[m1,m2]:=append_inj m (by rw[dM,dM]);unfold Wh cont;rw[es]at h1 ⊢;rw[G,yl,Wy]at h1;rw[yl,Wy,m1,m2,show fC (zd c d x) (d,F)=(F,.lst (x.map V.int))by unfold fC zd;rw[acW rfl]];show Hs.perm (Hs.sub h1 (c':=(F,.lst (x.map V.int))::(W.a,.dK (T9 W))::(W.aa,.dK (kA W.A))::(W.sa,.dK (dk V.ref W.L))::(W.ca,.dK (dk V.ref (l1++(d,F)::l2)))::(W.ha,.dK [])::(W.L.map (fL S)++(l1.map (fC c)++l2.map (fC c)))) ?_) ?_
 .show Xg (Xt [_,_,_,_,_,_]) (Xg (Xt _) (Xg (Xt _) (List.sublist_cons_self _ _)))
 .rw[<-WI, <-WI];show(Yn (a:=(F,HO.lst (x.map V.int))) (l₁:=_::_::_::_::_::(W.L.map (fL S)++l1.map (fC c)))).6
theorem Jz{p:Str}{k:Int}:∀{A:List (Str×Int)},(A.map (·.1)).4->(p,k)∈A->gr (kA A) (.inr p)=some (.int k)
 |x::A,nd,h=>by
  let#[G,F]:=Wq.mp (show(x.1::A.map (·.1)).4 from nd);change gr ((Xw x.1,V.int x.2)::kA A) (.inr p)=_;rcases We.mp h with e|h
  .rw[<-e,ka rfl]
  .rw[jD (λe:(Xw x.1:Key)=Xw p=>G ((ack e)▸z4.mpr #[_,h,rfl])),Jz F h]
theorem uJ{p:Str}:∀{A:List (Str×Int)},(∀k,(p,k)∉A)->gr (kA A) (.inr p)=none
 | [],_=>rfl
 |x::A,h=>by
  change gr ((Xw x.1,V.int x.2)::kA A) (.inr p)=_;rw[jD (λe:(Xw x.1:Key)=Xw p=>h x.2 (by rw[<-ack e];show Wn)),uJ λk m=>h k (Wm _ m)]
def cK(A:List (Str×Int))(p:Str):List (Str×Int):=A.filter λx=>decide (¬ x.1=p)
variable{A:List (Str×Int)}{p:Str}{k:Int}
def Dr(h:∀k,(p,k)∉A):putK (kA A) (.inr p) (.int k)=kA (A++[(p,k)]):=by
 rw[wj _ (uJ h)];unfold kA;rw[yl];rfl
theorem ua(A:List (Str×Int))(p:Str):nI (kA A) (.inr p)=kA (cK A p):=by
 unfold nI kA cK;rw[filter_map];congr 2;funext x;change decide (¬ (Xw x.1:Key)=Xw p)=decide (¬ x.1=p);cases e:x.1=p
 .rw[e];simp
 .simp[e]
def qw(A:List (Str×Int)):(kA A).9=A.9:=dM ..
variable{q:Str}
def mV:(q,k)∈cK A p↔(q,k)∈A/\¬ q=p:=by
 unfold cK;rw[WA];show#[λh=>#[h.1,zA0 h.2],λh=>#[h.1,zA1 h.2]]
def yj(h:(A.map (·.1)).4):((cK A p).map (·.1)).4:=h.sublist ((Ya (l:=A)).map _)
theorem kB{p:Str}{k:Int}:∀{A:List (Str×Int)},(A.map (·.1)).4->(p,k)∈A->A.Perm ((p,k)::cK A p)
 |x::A,nd,h=>by
  let#[F,G]:=Wq.mp (show(x.1::A.map (·.1)).4 from nd);unfold cK;rcases We.mp h with e|h
  .rw[<-e,WQ (by simp)];show acI _ (List.Perm.of_eq (abj.mpr λy I=>?_).6);show zA1 (p:=¬ y.1=p) λz=>F ?_;rw[<-e, <-z];show z4.mpr #[y,I,rfl]
  .let ne:¬ x.1=p:=λe=>F (e▸z4.mpr #[_,h,rfl]);rw[WO ‹ne›];show((kB G h).cons x).trans (acJ _ _ _)
noncomputable def j5(N:NS)(n:Int):Bool:=match N n with
 |some nd => !nd.dir
 |none=>false
noncomputable def C8(W:WW)(S:SS)(c:qa4):List Nat:=W.L.map (λx=>8*(S x.1).9)++W.C.map λx=>(c x.1).9
structure Wp(m:Nat)(W:WW)(N:NS)(S:SS):Prop where
 F:Fz N S
 at_:∀p k,(p,k)∈W.A↔At (bC N) S p k
 nA:(W.A.map (·.1)).4
 nL:(W.L.map (·.1)).4
 nC:(W.C.map (·.1)).4
 lL:∀n,(look W.L n).10=bC N n
 lC:∀n,(look W.C n).10=j5 N n
 cnt:∀n,((W.A.map (·.2)).count n:Int)=lk N n
 ln:W.A.9<=m+1
 kl:∀x∈W.A,x.1.9<=30*m
variable{N:NS}{n:Int}
def eR{nd:Node}(h:N n=some nd):j5 N n = !nd.dir:=by unfold j5;rw[h]
def ky(h:bC N n=true):j5 N n=false:=by
 let#[nd,e,q]:=bz h;rw[eR e,q];rfl
theorem mO(h:j5 N n=true):∃nd,N n=some nd/\nd.dir=false:=by
 unfold j5 at h;cases e:N n with
 |none=>rwa[e]at h
 |some nd=>rw[e]at h;show#[60,by simpa using h]
theorem Fz.AX(F:Fz N S)(h:At (bC N) S p k):∃nd,N k=some nd:=by
 cases h with
 |root=>let#[nd,e,_]:=bz F.root;show#[nd,e]
 |step _ b c=>show F.use b c
def Fz.Ih(F:Fz N S)(h:At (bC N) S p k):j5 N k = !bC N k:=by
 let#[nd,e]:=F.AX h;rw[eR e,cL e]
variable{m:Nat}
def Wp.v(h:Wp m W N S)(a:At (bC N) S p k):gr (kA W.A) (.inr p)=some (.int k):=Jz h.nA ((h.at_ p k).mpr a)
def Wp.no(h:Wp m W N S)(a:∀k,¬ At (bC N) S p k):gr (kA W.A) (.inr p)=none:=uJ λk z=>a k ((h.at_ p k).mp z)
def Wp.dir(h:Wp m W N S)(e:bC N d=true):∃b,look W.L d=some b:=Xy.mp ((h.lL d).trans e)
def Wp.Rh(h:Wp m W N S)(e:j5 N d=true):∃b,look W.C d=some b:=Xy.mp ((h.lC d).trans e)
theorem Wp.one(h:Wp m W N S)(e:bC N d=true)(a:At (bC N) S p d)(b:At (bC N) S q d):p=q:=by
 let#[nd,G,hd]:=bz e;let c:=h.cnt d;rw[fi G,h.F.dl _ _ G hd,List.count,countP_map]at c;let c1:(W.A.filter ((λx=>x==d)∘λx=>x.2)).9=1:=(by rw[<-Xn];show acN c);let#[x,I]:=aat.mp c1;let g:∀{r},At (bC N) S r d->(r,d)=x:=λ{r} z=>sx.mp (I▸WA.mpr #[(h.at_ r d).mpr z,by simp]);show(Prod.mk.inj ((g a).trans (g b).6)).1
theorem Aq{f:Int->Nat}{g:Int->Bool}:∀l:List Int,(∀x∈l,g x=false->f x=0)->((l.filter g).map f).sum=(l.map f).sum
 | [],_=>rfl
 |x::l,h=>by
  let F:=Aq l λy G=>h y (Wm _ G);cases c:g x=true
  .rw[WO c,Wy,Wy,ab2,ab2,F]
  .rw[WQ c,Wy,ab2,F,h x Wn (W0.mpr c),Nat.zero_add]
theorem eQ{α:Type}{l:List (Int×α)}:n∈l.map (·.1)↔(look l n).10=true:=by
 show#[λh=>?_,λh=>?_]
 .cases e:look l n with
  |none=>show absurd h (iD e)
  |some b=>rfl
 .let#[b,e]:=Xy.mp h;show z4.mpr #[_,d7 e,rfl]
theorem Wp.pm(h:Wp m W N S):(W.L.map (·.1)++W.C.map (·.1)).Perm (((Wu 24).map λi:Nat=>(i:Int)).filter λn=>bC N n||j5 N n):=by
 show(Yu (Wl.mpr #[h.nL,h.nC,λa I b G e=>?_]) (aa2 _ (ZY _ (λa b (h:a≠b) e=>h (acN e)) aaS))).mpr λn=>?_
 .rw[eQ,h.lL]at I;rwa[eQ,h.lC, <-e,ky I]at G
 .rw[Wf,eQ,eQ,h.lL,h.lC,WA,acx];show#[λz=>#[?_,z],λz=>z.2];obtain⟨nd,e⟩:∃nd,N n=some nd:=z.elim (λz=>(bz z).imp λ_ y=>y.1) λz=>(mO z).imp λ_ y=>y.1;let#[a,b]:=h.F.qk n nd e;show z4.mpr #[n.5,YO.mpr av,av]
theorem Wp.us(h:Wp m W N S):((C8 W S (cells N)).map bf).sum=us N 24:=by
 let L:=(h.pm.map λn=>wx (N n)).sum_nat;rw[Aq (f:=λn=>wx (N n)) _ (λx _ G=>by
  rw[Bool.or_eq_false_iff]at G;cases e:N x with
  |none=>rfl
  |some nd=>rw[cL e,eR e]at G;rcases q:nd.dir with _|_<;>rw[q]at G<;>simp at G),WU]at L
 unfold Fs.us C8;rw[show((Wu 24).map λi:Nat=>wx (N (i:Int)))=(Wu 24).map ((λn=>wx (N n))∘λi:Nat=>(i:Int))from rfl, <-L];congr 1;rw[yl,yl,WU,WU,WU,WU];congr 1
 .show Xs λx G=>?_;let e:bC N x.1=true:=(by rw[<-h.lL, <-eQ];show z4.mpr #[x,G,rfl]);let#[nd,I,U]:=bz e;change bf (8*(S x.1).9)=wx (N x.1);rw[I, <-cS (h.F.ok _), <-h.F.enc _ _ I U];rfl
 .show Xs λx G=>?_;let e:j5 N x.1=true:=(by rw[<-h.lC, <-eQ];show z4.mpr #[x,G,rfl]);let#[nd,I,_]:=mO e;change bf (cells N x.1).9=wx (N x.1);rw[I,dm I];rfl
structure Wd(m:Nat)(H:Hp)(W:WW)(N:NS)(S:SS):Prop where
 h:Wh H W S (cells N)
 p:Wp m W N S
 nk:Je 60 N
 Dj:m<=41
variable{H':Hp}
def Wd.sm(D:Wd m H W N S)(s:aO H H'):Wd m H' W N S:=#[Hs.same D.h s,D.p,D.nk,D.Dj]
def Wd.sp(D:Wd m H W N S):us N 24<=60:=D.nk.fit
structure nZ(W:WW)(H:Hp)(W':WW)(H':Hp):Prop where
 off:Off (· ∈ wl W) H H'
 own:∀a∈wl W',a∈wl W\/H a=none
def Wh.sm(h:Wh H W S c)(s:aO H H'):Wh H' W S c:=Hs.same h s
def Wh.gA(h:Wh H W S c):dG H W.a (.str "at") (some (.ref W.aa)):=.inl #[_,.inr "at",63]
def Wh.gS(h:Wh H W S c):dG H W.a (.str "slots") (some (.ref W.sa)):=.inl #[_,.inr "slots",63]
def Wh.gC(h:Wh H W S c):dG H W.a (.str "cells") (some (.ref W.ca)):=.inl #[_,.inr "cells",63]
def Wh.gH(h:Wh H W S c):dG H W.a (.str "holds") (some (.ref W.ha)):=.inl #[_,.inr "holds",63]
def Wh.gR(h:Wh H W S c):dG H W.a (.str "room") (some (.int 60)):=.inl #[_,.inr "room",63]
def Wh.gT(h:Wh H W S c)(t:Str):dG H W.aa (.str t) (gr (kA W.A) (.inr t)):=dG.k (k:=.inr t) h.at
theorem Wh.gL(h:Wh H W S c)(n:Int):dG H W.sa (.int n) ((look W.L n).map V.ref):=by
 have:=dG.k (k:=.inl n) h.s
 (rw[cz]at this;assumption)
theorem Wh.gN(h:Wh H W S c)(n:Int):dG H W.ca (.int n) ((look W.C n).map V.ref):=by
 have:=dG.k (k:=.inl n) h.ce
 (rw[cz]at this;assumption)
variable{t:Str}{σ:St}{i:Nat}{Q:VK}
theorem Iy(h:Wh H W S c)(v:gr (kA W.A) (.inr t)=some (.int d))(F:σ[0]?=some (some (.ref W.a)))(h1:σ[i]?=some (some (.str t)))(q:Q (.int d) H):jC (jC (fX 0) (tC (.str "at"))) (fX i) σ H Q:=#[_,F,W.a,0,h.gA,_,h1,W.aa,0,v▸h.gT t,q]
theorem IY(h:Wh H W S c)(v:gr (kA W.A) (.inr t)=some (.int d))(l:look W.L d=some b)(F:σ[0]?=some (some (.ref W.a)))(h1:σ[i]?=some (some (.str t)))(q:Q (.ref b) H):jC (jC (fX 0) (tC (.str "slots"))) (jC (jC (fX 0) (tC (.str "at"))) (fX i)) σ H Q:=by
 let g:=h.gL d;rw[l]at g;show#[_,F,W.a,0,h.gS,Iy h v F h1 #[W.sa,0,g,q]]
theorem FP(h:Wh H W S c)(v:gr (kA W.A) (.inr t)=some (.int d))(F:σ[0]?=some (some (.ref W.a)))(h1:σ[i]?=some (some (.str t)))(q:Q (.bl (look W.C d).10) H):NQ (jC (jC (fX 0) (tC (.str "at"))) (fX i)) (jC (fX 0) (tC (.str "cells"))) σ H Q:=Iy h v F h1 #[_,F,W.a,0,h.gC,W.ca,0,h.gN d,by rw[YG];show q]
theorem Fu(h:Wh H W S c)(v:gr (kA W.A) (.inr t)=some (.int d))(F:σ[0]?=some (some (.ref W.a)))(h1:σ[i]?=some (some (.str t)))(q:Q (.bl (look W.L d).10) H):NQ (jC (jC (fX 0) (tC (.str "at"))) (fX i)) (jC (fX 0) (tC (.str "slots"))) σ H Q:=Iy h v F h1 #[_,F,W.a,0,h.gS,W.sa,0,h.gL d,by rw[YG];show q]
theorem jQ:∀ss:List Slot,(ss.map sV).all d9=true
 | []=>rfl
 |none::ss=>jQ ss
 |some _::ss=>jQ ss
theorem EU(nm:Str)(k:Int):∀{ss:List Slot},rJ .bh (ss.map sV)=false->(dE ss).9=ss.9/\(cG ss nm k).9=ss.9+1
 | [],_=>#[1]
 |none::ss,h=>by cases h
 |some p::ss,h=>by
  let#[a,b]:=EU nm k (ss:=ss) h;rw[cu,iE,ti,WG,WG,a,b];show#[abU 1 _,rfl]
def zf:∀ss:List Slot,(dE ss).9<=ss.9:=λss=>X6 ..
theorem vc(nm:Str)(k:Int):∀{ss:List Slot},rJ .bh (ss.map sV)=true->(dE ss).9<ss.9/\(cG ss nm k).9=ss.9
 | [],h=>by cases h
 |none::ss,_=>by
  rw[cu,nO];show#[Nat.lt_succ_of_le (zf ss),rfl]
 |some p::ss,h=>by
  let#[a,b]:=vc nm k (ss:=ss) h;rw[cu,iE,ti,WG,WG,b];show#[55];change 1+_<_;omega
theorem Wp.Uj(h:Wp m W N S):(C8 W S c).9<=48:=by
 let l1:=OA 24 0 _ h.nL λx G=>(by rw[eQ,h.lL]at G;have:=h.F.oX G;omega);let l2:=OA 24 0 _ h.nC λx G=>by
  rw[eQ,h.lC]at G;let#[nd,e,_]:=mO G;have:=h.F.qk _ _ e;omega
 unfold C8;rw[dM]at l1 l2;rw[ti,dM,dM];omega
inductive Iu(v:qAf)(H:Hp)(Q:VK)(e:XK):Prop
 |mk(a aa:zB0)(A:List (Str×Int))(n:Int)(_:v=[.ref a,.int n])(_:dG H a (.str "at") (some (.ref aa)))(_:Rd H aa (.dK (kA A)))(_:A.9<=1000)(_:∀H',aO H H'->Q (.int ((A.map (·.2)).count n:Nat)) H')
inductive Bi(v:qAf)(H:Hp)(Q:VK)(e:XK):Prop
 |mk(m:Nat)(W:WW)(N:NS)(S:SS)(_:v=[.ref W.a])(_:Wd m H W N S)(_:∀H',aO H H'->Q (.int (60-(us N 24:Nat))) H')
inductive E5(v:qAf)(H:Hp)(Q:VK)(e:XK):Prop
 |mk(m:Nat)(W:WW)(N:NS)(S:SS)(t:Str)(d:Int)(_:v=[.ref W.a,.str t])(_:Wd m H W N S)(_:At (bC N) S t d)(_:bC N d=true)(_:Q (.bl (decide (40<=(dE (S d)).9))) H)
inductive xM(v:qAf)(H:Hp)(Q:VK)(e:XK):Prop
 |mk(m:Nat)(W:WW)(N:NS)(S:SS)(t:Str)(d:Int)(nm:Str)(k:Int)(_:v=[.ref W.a,.str t])(_:Wd m H W N S)(_:At (bC N) S t d)(_:bC N d=true)(_:∀H',aO H H'->Q (.bl (c8 60 N (wW N d) (8*(cG (S d) nm k).9))) H')
abbrev Sj:Wo:=top 90
abbrev Vc:Wo:=top 92
abbrev U5:Wo:=top 91
abbrev TQ:Wo:=top 96
abbrev Ub:Wo:=top 97
def SE:aA ["_law_many"] ["_law_many"] (ax Sj):=L2.bg
def S0:aA ["_law_world","_law_node_here"] ["_law_world","_law_node_here"] (ax Vc):=L2.bg
def ON:aA ["_law_world","_law_sizes"] ["_law_world"] (ax U5):=L2.bg
def OV:aA ["_law_world","_law_text","_law_slots"] ["_law_world","_law_text"] (ax TQ):=L2.bg
def Nj:aA ["_law_world","_law_text","_law_slots","_law_more"] ["_law_world","_law_text"] (ax Ub):=L2.bg
variable{X:Er->zB0}
theorem Ca(F:b4 K "_law_blocks" "_law_blocks" Sj f fd)(T:gu K mg X):↥aU 1 f fd ["_law_many"] sv:=by
 show F.dg SE ?_;intros;let#[k,rfl,q]:=h;show#[_,%[0,0,b,p,bq,nR,p,0,aw,aw,dP,a,bG,jg,0,r|9],?_];show#[0,_,58,#[aE,aE],0,6,.inr #[0,_,0,3]];let e:((k:Int)+15)/16+(if decide ((64:Int)<(k:Int))=true then 1 else 0)=((bf k:Nat):Int):=by
  unfold bf nb;cases z:64<k
  .rw[acW (zA1 av),acW av];omega
  .rw[acV (λy=>z (by have:=zA0 y;omega)),acV av];omega
 change Q (.int (((k:Int)+15)/16+(if decide ((64:Int)<(k:Int))=true then 1 else 0))) H;rw[e];show q
theorem DB(n:Int):∀l:List (Str×Int),((l.map λx=>V.int x.2).countP λz=>jx z (.int n))=(l.map (·.2)).count n
 | []=>rfl
 |x::l=>by
  rw[Wy,Wy,ach,Y9,DB n l];rfl
theorem Gh(F:b4 K "_law_links" "_law_links" Vc f fd)(T:gu K mg X):↥aU 1 f fd ["_law_world","_law_node_here"] Iu:=by
 show F.dg S0 ?_;intros;let#[a,G,B,n,rfl,Z,Y,l,q]:=h;show#[_,%[0,0,b,be,aai,PySem.F.type_list_count,IT,c1,bz,Cv,rfl,a,bz,Dx,bI,m,0,e|9],?_];show#[0,a,0,Z,G,0,Y,λv fv=>?_];let I:=au (X:=Qj v G) fv;show#[v,G,0,ag,Y.imp (I _ _) λ⟨o,e⟩=>#[o,I _ _ e],by rw[qw];show l,λg fg=>?_];let U:=I.trans (au (X:=.lst ((kA B).map λL=>L.2)) fg);show#[.inl #[4,32],0,g,6,ag,?_,3]
 .rw[abV];unfold kA;rw[abV];show Xp.mpr λ_ _=>rfl
 .let e:(kA B).map (λL=>L.2)=B.map λx=>V.int x.2:=WU ..;rw[e]at U ⊢;rw[DB];show q _ U
theorem Ii(F:b4 K "_law_full" "_law_full" TQ f fd)(T:gu K mg X):↥aU 1 f fd ["_law_world","_law_text"] E5:=by
 show F.dg OV ?_;intros;let#[m,W,N,S,t,d,rfl,D,a,hd,q]:=h;let#[b,I]:=D.p.dir hd;let G:=D.h.sl I;show#[_,%[OV,0,Q,aN,m,bI,m,0,aN,m,bI,m,0,1,b,cm,bG,bX,l,h,r,cJ,bG,jN,bV,2,cq|9],?_]
 show IY D.h (D.p.v a) I rfl rfl ?_;show#[0,b,0,73,9];let L:=D.p.F.len d;rw[dM];show cQ (λg=>?_) (λg=>?_)
 .let e:(S d).9=40:=(by have:=V.int.inj (zA0 g);omega);show#[0,b,0,73,rfl,jQ _,?_];change Q (.bl (!rJ .bh ((S d).map sV))) H;cases z:rJ .bh ((S d).map sV)with
  |true=>rw[zA2 (λy=>by have:=(vc "" 0 z).1;omega)]at q;show q
  |false=>rw[zA1 (by have:=(EU "" 0 z).1;omega)]at q;show q
 .let e:¬ (S d).9=40:=λz=>g (by rw[z];rfl);have:=zf (S d);rw[zA2 av]at q;show q
theorem EH{H0:Hp}{a:zB0}{l:List (Int×zB0)}{td te:TE}(g:Int×zB0->Nat)(aa:∀R:VK,R (.ref a) H->td σ H R)(I:H a^^^(dk V.ref l))(Y:∀o u',H0 a≠some (.frz o u'))(ll:l.9<=1000)
  (hb:∀x∈l,∀H2,(∀y,¬ y=a->H2 y=H y)->∀R:VK,R (.int (g x:Nat)) H2->te (mH [] σ (some (.ref x.2))) H2 R) (q:∀p H',aO H H'->H p=none->H' p∣(l.map λx=>V.int (g x:Nat))->Q (.ref p) H'):Fx H0 (Gb [] (KD H0 td) pN te) σ H Q:=by
 let hs:=DD;show aa _ #[a,0,I,Y,λo=>?_];let G:(upd H a (.frz o (.dK (dk V.ref l)))) a=some (.frz o (.dK (dk V.ref l))):=ag;show zu (a:=a) (o:=o) (kvs:=dk V.ref l) (λi ys H2=>ys=(l.take i).map (λx=>V.int (g x:Nat))/\H2=upd H a (.frz o (.dK (dk V.ref l)))) #[1] (λi zs H2 _ z=>by rw[z.2];show G) ?_ ?_
 .rintro i Z v zs H2 hk ⟨rfl,rfl⟩;let U:(l.map λx:Int×zB0=>((V8 x.1:Key),V.ref x.2))[i]?=some (Z,v):=hk;rw[LW]at U;let#[x,L,e]:=HC.mp U;cases e;show hb x (L1 L) _ (λy hy=>ay hy) _ #[5,rfl]
  .rw[dM,IF];omega
  .rw[WE,L,yl];rfl
 .rintro zs H2 ⟨rfl,rfl⟩ p F;rw[gz,WV];let np:¬ p=a:=λz=>(by rwa[z,G]at F);show#[a,o,dk V.ref l,by rw[ay (zA3 np)];show G,Y,q p _ (λb u e=>?_) (by rw[ay np]at F;show F) (by rw[ay np];show ag)];cases z:b=a
  .rw[z,ag, <-I, <-e,z]
  .rw[ay z,ay (λy=>by rwa[ay np, <-y,e]at F),ay z];show e
theorem GL(F:b4 K "_law_spare" "_law_spare" U5 f fd)(T:gu K mg X)(ab:↥Df 1 "_law_blocks" sv):↥aU 2 f fd ["_law_world"] Bi:=by
 show F.dg ON ?_;intros;let#[m,W,N,S,rfl,D,q]:=h;show#[_,%[ON,hr,bk,M,d9,P,b9,bJ,rfl,ea,V,a8,a9,aw,S,(show eI _ _ (ux K)from tp),cO,q,d9,P,b9,bJ,rfl,ea,V,a8,S,(show eI _ _ (ux K)from tp),cO,q,b,aO,V,S,d0,rfl,T.sum,Eg,a,P,b9,bJ,aZ,1,a8,b3,q|9],?_]
 show fj λ_ jt=>?_;let hs:=DD;let zl:=D.p.Uj (c:=cells N);let ll:W.L.9<=48/\W.C.9<=48:=by
  unfold C8 at zl;rw[ti,dM,dM]at zl;omega
 show EH (a:=W.sa) (l:=W.L) (λx=>8*(S x.1).9) (λR r=>#[18,D.h.gS,r]) D.h.s (λo u' z=>by let z:H W.sa=_:=z;rwa[D.h.s]at z) av (λx G H2 e R r=>?_) λp1 H1 s1 f1 e1=>?_
 .let I:H x.2∣((S x.1).map sV):=D.h.at_ (fL S x) (.tail _ (.tail _ (.tail _ (.tail _ (.tail _ (Wg _ (z4.mpr #[_,G,rfl])))))));have:=e x.2 (λz=>by have:=D.h.s;rwa[<-z,I]at this);show#[0,x.2,0,.inl (a9.of (this.trans I)),92,?_];rw[dM];show r
 let U:=D.h.sm s1;show EH (a:=W.ca) (l:=W.C) (λx=>(cells N x.1).9) (λR r=>#[18,U.gC,r]) U.ce (λo u' z=>by let z:H W.ca=_:=z;rwa[D.h.ce]at z) av (λx G H2 e R r=>?_) λp2 H2 Y f2 e2=>?_
 .let I:H1 x.2∣((cells N x.1).map V.int):=U.at_ (fC (cells N) x) (.tail _ (.tail _ (.tail _ (.tail _ (.tail _ (By _ (z4.mpr #[_,G,rfl])))))));have:=e x.2 (λz=>by have:=U.ce;rwa[<-z,I]at this);show#[0,x.2,0,.inl (a9.of (this.trans I)),?_];rw[dM];show r
 show#[p1,p2,6,Y _ _ e1,e2,by rw[dM,dM];omega,λr fr=>jt _ _ ?_];clear jt;let ez:(W.L.map λx=>V.int ((8*(S x.1).9:Nat):Int))++(W.C.map λx=>V.int ((cells N x.1).9:Nat))=(C8 W S (cells N)).map λk:Nat=>V.int (k:Int):=by
  unfold C8;rw[yl,WU,WU];rfl
 rw[ez];exists fr,(.lst ((C8 W S (cells N)).map λk:Nat=>V.int (k:Int))),sN,e3,H3;let Z:=(s1.trans Y).trans sN;let hu:=D.p.us;clear ez;generalize C8 W S (cells N)=sz at *;show#[18,(D.h.sm Z).gR,0,r,rfl,#[_,38],?_];show gO (K:=K) (a:=r) (xs:=sz.map λk:Nat=>V.int (k:Int)) (λi ys J=>ys=((sz.map bf).take i).map (λk:Nat=>V.int (k:Int))/\J=H3) #[1] (λi ys J _ z=>by rw[z.2];show a9.of e3) ?_ ?_
 .rintro i x ys J G ⟨rfl,rfl⟩;rw[LW]at G;let#[y,hy,rfl]:=HC.mp G;show#[0,y,rfl,by rw[dM,IF,dM];omega,55];rw[WE,LW,hy,yl];rfl
 .rintro ys J ⟨rfl,rfl⟩ r2 aa;rw[V6 (by rw[dM,dM];show G0 _)];show#[r2,(sz.map bf).map (λk:Nat=>(k:Int)),rfl,a9.of ?_,_,0,3]
  .rw[ag,WU (l:=sz.map bf)];rfl
  .rw[rH,hu];show q _ (Z.trans (au aa))
theorem Fm(F:b4 K "_law_lacks" "_law_lacks" Ub f fd)(T:gu K mg X)(U:↥Df 1 "_law_blocks" sv)(Z:↥Df 2 "_law_spare" Bi):↥aU 3 f fd ["_law_world","_law_text"] xM:=by
 show F.dg Nj ?_;intros;let#[m,W,N,S,t,d,nm,k,rfl,D,a,hd,q]:=h;let#[b,Y]:=D.p.dir hd;let I:=D.h.sl Y;show#[_,%[Nj,hr,Q,bh,bh,1,aY,aO,c,U,a,p,a9,aw,l,h,aw,c,U,a,a9,aw,l,h,b,cm,bG,jN,bV,2,cq,cJ,bG,jg,3,c,Z,q,s|9],?_]
 show fj λ_ G=>?_;show IY D.h (D.p.v a) Y rfl rfl (G _ _ ?_);clear G;show fj λ_ G=>?_;let aa:=D.p.F.len d;show#[0,b,0,.inl (a9.of I),92,6,8*(S d).9+8,118,0,b,0,.inl (a9.of I),92,8*(S d).9,118,6,G _ _ ?_];clear G;let ec:wW N d=8*(S d).9:=by
  let#[nd,L,e2]:=bz hd;rw[ke L,D.p.F.enc _ _ L e2,cS (D.p.F.ok d)]
 let sp:=D.sp;show#[0,b,0,.inl (a9.of I),rfl,jQ _,0,?_];unfold c8 at q;rw[ec]at q;show cQ (λg=>?_) (λg=>?_)
 .let e:rJ .bh ((S d).map sV)=false:=‹g›;rw[(EU nm k e).2]at q;show#[0,0,31,rfl,D,λH1 s1=>#[_,0,3]];show q _ s1
 .let e:rJ .bh ((S d).map sV)=true:=‹g›;rw[(vc nm k e).2,zA2 av]at q;show q _ (aO.refl H)
end Fs
namespace L2
open PySem PySem.Spec PyProof.Rows
inductive GQ(K:Wa)(x:V)(y:V)(H:Hp)(Q:VK):Prop
 |lst(_:My K x y H Q)
 |bh(p:zB0)(ys:qAf)(_:x=.bh)(_:y=.ref p)(_:a9 K H p ys)(_:Q (.bl false) H)
theorem AL{X:Cx}(F:X.A.units<Yy):lj X (W8 .Eq) (GQ X.K):=by
 intros x y v u Q I G L h;cases h with
 |lst h=>show Ma F pins s σ H x y v u Q I G L h
 |bh p ys Y U Z q =>
  subst Y U;cases G;cases L;let#[its,_,pl,_]:=I.list Z;show SeqAt.RcAt.none_list pl.isList F _ _ _ _ #[.bl false,H,I,rfl,q]
end L2
namespace Fs
open PySem L2 Dk Tb Srt
noncomputable def tw(r:Except Er Str):List V:=match r with
 |.error e=>[.str (Kb e),.str ""]
 |.ok t=>[.str "",.str t]
noncomputable def ni(N:NS)(S:SS)(p:Str):Except Er Str:=match gf p with
 |.error e=>.error e
 |.ok ns=>(cI N S ns).map λ_=>b9 ns
noncomputable def pL(N:NS)(S:SS)(p:Str):Except Er Str:=match gf p with
 |.error e=>.error e
 |.ok ns=>(jI N S ns).map λ_=>b9 ns.dropLast
abbrev VA(ns:qAb):Prop:=(∀w∈ns,w∈pU)/\ns.9<=3
inductive JB(v:qAf)(H:Hp)(Q:VK)(e:XK):Prop
 |mk (m:Nat) (W:WW) (N:NS) (S:SS) (l:zB0) (ns:qAb) (_:v=[.ref W.a,.ref l]) (_:Wd m H W N S) (_:H l∣(ns.map V.str)) (_:VA ns) (_:∀H' q,aO H H'->H q=none->H' q|||(tw ((cI N S ns).map λ_=>b9 ns))->Q (.ref q) H'):JB v H Q e
inductive qS(g:NS->SS->Str->Except Er Str)(v:qAf)(H:Hp)(Q:VK)(e:XK):Prop
 |mk(m:Nat)(W:WW)(N:NS)(S:SS)(p:Str)(_:v=[.ref W.a,.str p])(_:Wd m H W N S)(_:pS p)(_:∀H' q,aO H H'->H q=none->H' q|||(tw (g N S p))->Q (.ref q) H')
def HP:("/" : Str).9=1:=aF
def vx:∀w∈pU,w.9<=6:=aF
variable{ns:qAb}
theorem iu:(∀w∈ns,w∈pU)->(b9 ns).9<=7*ns.9:=by
 show kC (P:=λns=>(∀w∈ns,w∈pU)->(b9 ns).9<=7*ns.9) (λ_=>by decide) (λns w G h=>?_) ns;let a:=G λx F=>h x (Wg _ F);let b:=vx w (h w (By _ (sx.mpr rfl)));rw[cj,len_app,len_app,ti,NC,show SL.9=1 by decide +kernel];omega
variable{p:Str}
theorem Et{e:Er}(h:gf p=.error e):e=.badName:=by
 unfold gf at h;split at h
 .cases h
 .split at h
  .split at h<;>cases h;rfl
  .cases h;rfl
abbrev TU:Wo:=top 93
abbrev SQ:Wo:=top 94
abbrev Ve:Wo:=top 95
def IU:aA ["_law_world","_law_pieces","_law_text","_law_piece"] ["_law_world","_law_pieces"] (ax TU):=L2.bg
def Jj:aA ["_law_world","_law_path_here","_law_pieces"] ["_law_world","_law_path_here"] (ax SQ):=L2.bg
theorem JN:aA ["_law_world","_law_path_here","_law_pieces","_law_word","_law_text"] ["_law_world","_law_path_here"] (ax Ve):=L2.bg
variable{X:Er->zB0}
theorem HI(F:b4 K "_law_seek" "_law_seek" TU f fd)(T:gu K mg X):↥aU 1 f fd ["_law_world","_law_pieces"] JB:=by
 show F.dg IU ?_;intros;let#[m,W,N,S,l,ns,rfl,D,hl,#[pn,p3],k]:=h;let hs:=DD;let end_:∀{r q},((cI N S ns).map λ_=>b9 ns)=r->H q=none->Q (.ref q) (upd H q (.tup (tw r))):=λe I=>k _ _ (au I) I (by rw[e];show ag);show#[_,%[IU,0,Q,az,aL,cd,1,av,3,f,bn,ce,m,aN,m,bI,m,0,2,bI,m,0,b,al,bS,y,Q,bg,bg,2,az,3,k,aX,bn,di,m,2,bI,m,0,b,al,bS,y,b,al,bS,h|9],?_]
 show#[69,#[_,a9.of hl],?_];show gp (K:=K) (a:=l) (xs:=ns.map V.str) (λi σ J=>∃v Y,σ=#v[.ref W.a,.ref l,.str (b9 (ns.take i)),Y]/\cI N S (ns.take i)=.ok v/\J=H) #[_,none,1,rfl] (λi σ J _ z=>by let#[_,_,_,_,e]:=z;rw[e];show a9.of hl) ?_ ?_
 .rintro i x σ J L ⟨v,Y,rfl,U,rfl⟩;rw[LW]at L;let#[nm,Z,rfl]:=HC.mp L;let pk:∀x∈ns.take i,x∈pU:=λx L=>pn x (WY L);let ok:∀{j},∀x∈ns.take j,okN x:=λx L=>qp x (pn x (WY L));let l1:=iu pk;rw[IF]at l1;let l2:=vx nm (pn nm (L1 Z));let a:=jM _ U;let G:cI N S (ns.take (i+1))=i3 N S (.ok v) nm:=(by rw[WE,Z, <-U];show iP _ _);let ex:b9 (ns.take (i+1))=b9 (ns.take i)++("/" : Str)++nm:=(by rw[WE,Z];show cj _ _);unfold i3 at G;dsimp only at G;show FP D.h (D.p.v a) rfl rfl #[0,?_];rw[D.p.lC,D.p.F.Ih a];cases c:bC N (lst v)with
  |false =>
   rw[acV (by rw[c];nofun)]at G;show bU #[aE,λq I=>end_ (r:=.error .notDir) (by rw[p6 G];rfl) I]
  |true =>
  show bA ?_;rw[acW c]at G;show#[105,0,126,?_];show#[0,18,D.h.gA,W.aa,0,D.h.gT _,0,?_];rw[<-ex];cases q:fG (S (lst v)) nm with
  |none =>
   rw[q]at G;rw[D.p.no (ND D.p.F _ ok G)];show bU #[aE,λq I=>end_ (r:=.error .noName) (by rw[p6 G];rfl) I]
  |some j =>
   rw[q]at G;rw[D.p.v (jM _ G)];show bA #[_,0,G,rfl]
 .rintro σ J ⟨v,Y,rfl,U,rfl⟩;rw[dM,WV]at U;rw[dM,WV];show#[0,Wz rfl,λq I=>end_ (r:=.ok (b9 ns)) (by rw[U];rfl) I]
theorem DF(F:b4 K "_law_found" "_law_found" SQ f fd)(T:gu K mg X)(ac:↥Df 1 "_law_names" sX)(aa:↥Df 1 "_law_seek" JB):↥aU 2 f fd ["_law_world","_law_path_here"] (qS ni):=by
 show F.dg Jj ?_;intros;let#[m,W,N,S,p,rfl,D,L,k]:=h;show#[_,%[Jj,hr,Q,cv,e,f,b1,2,aq,b,al,bS,y,b,bP,x,h|9],?_]
 unfold ni at k;show#[0,p,rfl,L,λe H1 I=>?_,λns e H1 q I U hq=>?_]
 .rw[iR L]at e;cases G:gf p with
  |ok ns=>rwa[G]at e
  |error r =>
  rw[G]at k;cases Et G;show#[0,rfl,0,bU #[aE,λq U=>k _ q (I.trans (au U)) (a8 I U) ag]]
 .rw[iR L]at e;cases G:gf p with
  |error r=>rwa[G]at e
  |ok l =>
  rw[G]at e k;cases e;show#[0,rfl,46];show#[0,0,31,q,ns,rfl,D.sm I,hq,?_,λH2 r Z Y ab=>k _ r (I.trans Z) (a8 I Y) ab];rcases L.n with⟨e,_,z⟩|⟨_,z⟩|⟨bs,b,h1,h2,_,z⟩
  .rw[G]at z;cases z
  .rw[G]at z;cases z;show#[(λ_ h=>by cases h),aE]
  .rw[G]at z;cases z;show#[h1,by rw[ti,NC];omega]
theorem Ht(F:b4 K "_law_spot" "_law_spot" Ve f fd)(T:gu K mg X)(ap:↥Df 1 "_law_names" sX)(am:↥Df 1 "_law_seek" JB):↥aU 2 f fd ["_law_world","_law_path_here"] (qS pL):=by
 show F.dg JN ?_;intros;let#[m,W,N,S,p,rfl,D,hp,k]:=h;let hs:=DD;show#[_,%[JN,hr,Q,c,ap,e,bb,bw,b1,2,aq,bK,H,eb,hr.rR,2,aC,s,b,al,d,v,C,bS,y,dP,a,bG,eb,hr.rR,2,aC,s,y,i,bj,c,am,o,w,2,aQ,K,bA,A,3,A,4,fe,bb,bC,g,3,E,bE,bn,ce,ax,bh,4,V,b,al,bS,y,bb,bC,g,3,E,bE,bn,ce,ax,bg,bg,4,az,v,2,K,V,b,al,bS,y,b,al,d,3,ah|9],?_]
 unfold pL at k;show#[80,λe H1 s1=>?_,λns e H1 q s1 Y hq=>?_]
 .rw[iR hp]at e;cases G:gf p with
  |ok ns=>rwa[G]at e
  |error r =>
  rw[G]at k;cases Et G;show#[0,rfl,0,bU (bU #[aE,λl1 Z=>?_])];let s2:=s1.trans (au (X:=.lst [V.str "BadName",V.str "Taken"]) Z);show#[0,aE,λl2 f2=>.bh l2 [] rfl rfl (a9.of ag) (.inr #[false,rfl,l1,_,(0),.str "BadName",1,a9.of ((au f2) _ _ ag),84,aE,λq Y=>?_])];let U:=s2.trans (au (X:=.lst []) f2);show k _ q (U.trans (au Y)) (a8 U Y) ag
 .rw[iR hp]at e;cases G:gf p with
  |error r=>rwa[G]at e
  |ok l =>
  rw[G]at e k;cases e;show#[0,rfl,0,bA #[0,aE,λl2 f2=>.lst #[q,l2,_,[],1,a9.of ((au f2) _ _ hq),32,mC _,9]]];exists f2,(.lst []),sN,_,H2;let s2:=s1.trans sN;let ac:=sN _ _ hq;rcases hp.n with⟨e,_,z⟩|⟨_,z⟩|⟨bs,b,h1,h2,_,z⟩
  .rw[G]at z;cases z
  .rw[G]at z;cases z;show bU #[aE,λl1 Z=>?_];let U:=s2.trans (au (X:=.lst [V.str "BadName",V.str "Taken"]) Z);let e1:upd H2 l1 (.lst [V.str "BadName",V.str "Taken"]) l1∣[V.str "BadName",V.str "Taken"]:=ag;let ad:=(au (X:=.lst [V.str "BadName",V.str "Taken"]) Z) _ _ ac;show#[0,aE,λl4 f4=>.lst #[q,l4,_,[],1,a9.of ((au f4) _ _ ad),32,1,.inr #[true,rfl,l1,_,(1),.str "Taken",1,a9.of ((au f4) _ _ e1),89,aE,λq Y=>?_]]];let L:=U.trans (au (X:=.lst []) f4);show k _ q (L.trans (au Y)) (a8 L Y) ag
  .rw[G]at z;cases z;let ne:¬ bs++[b]=[]:=(by simp);let el:lQ ((bs++[b]).map V.str) []=false:=(by rw[yl];cases bs<;>rfl);rw[el];show bA ?_;let ed:(bs++[b]).dropLast=bs:=XI;unfold jI at k;dsimp only at k;rw[acV ne,ed,fw]at k;rw[yl]at ac;show#[0,22, -1,rfl,q,0,a9.of ac,λq1 Z=>?_];rw[show d8 (bs.map V.str++[b].map V.str) none (some (-1))=bs.map V.str from x8];exists Z,(.lst (bs.map V.str)),sN,e3,H3;let U:=s2.trans sN;let ad:=sN _ _ ac;let ak:∀w∈bs,w∈pU:=λw hw=>h1 w (Wg _ hw);show#[31,q1,bs,rfl,D.sm U,e3,#[ak,av],λH4 r aj _ ab=>?_];let L:=U.trans aj;let D4:=D.h.sm L;let fin:∀{x:Except Er Str}{r:zB0}{H5:Hp},aO H H5->H5 r=none->(match cI N S bs with|.error e=>.error e|.ok w=>if bC N (lst w)=true then(if b∈dE (S (lst w))then .error .taken else .ok w)else .error .notDir:Except Er (List Int)).map (λ_=>b9 bs)=x->Q (.ref r) (upd H5 r (.tup (tw x))):=λs5 I e=>k _ _ (s5.trans (au I)) (a8 s5 I) (ag.trans (congrArg (λz=>some (HO.tup (tw z))) e.6));cases hw:cI N S bs with
   |error e =>
    rw[hw]at ab fin;let G:¬ Kb e = "" := (by cases e<;>decide +kernel);show#[r,0,cX.of ab,4,0,_,0,3];let i1:decide (V.str (Kb e)=V.str "")=false:=zA2 λz=>G (V.str.inj z);show#[0,9];rw[i1];show bA (bA #[0,9]);rw[i1];show bA (bA #[0,0,Wz rfl,λr I=>fin (x:=.error e) L I rfl])
   |ok v =>
    rw[hw]at ab fin;dsimp only at fin;let a:=jM _ hw;let l1:=iu ak;let l2:=vx b (h1 b (By _ (sx.mpr rfl)));let bo:=qp b (h1 b (By _ (sx.mpr rfl)));show#[r,0,cX.of ab,4,0,_,0,3];show#[0,rfl,45];show FP D4 (D.p.v a) rfl rfl #[0,?_];rw[D.p.lC,D.p.F.Ih a];cases c:bC N (lst v)with
    |false =>
     rw[acV (by rw[c];nofun)]at fin;show bU #[aE,λr I=>fin (x:=.error .notDir) L I rfl]
    |true =>
    rw[acW c]at fin;show bA #[0,rfl,45];show#[105,22,q,_, -1,.str b,1,a9.of ((aj _ _ ad)),mr _ _,126,?_];show#[18,D4.gA,W.aa,0,D4.gT _,0,?_];cases z:fG (S (lst v)) b with
    |some j =>
     rw[D.p.v (show At (bC N) S (b9 bs++("/" : Str)++b) j from .step a c z)];rw[acW (WJ λy=>by rwa[(g6 _ _).mpr y]at z)]at fin;show bU #[aE,λr I=>fin (x:=.error .taken) L I rfl]
    |none =>
     rw[D.p.no (p:=b9 bs++("/" : Str)++b) λj y=>by
      let#[d,y1,y2,y3]:=At.inv D.p.F.oG bo y;cases y1.fn D.p.F.oG a;rwa[z]at y3]
     rw[acV ((g6 _ _).mp z)]at fin;show bA #[0,0,Wz rfl,λr I=>fin (x:=.ok (b9 bs)) L I rfl]
abbrev Rm(ns:qAb)(w:Str):Prop:=(∀x∈ns++[w],x∈pU)/\ns.9<=2
theorem LQ:∀ws∈AR++lZ++Oy,Txt.slice (tx ws) (some (Txt.rfind (tx ws) "/" + 1)) none=ws.headD "" /\ Txt.slice (tx ws) none (some (Txt.rfind (tx ws) "/"))=tx ws.tail:=aF
theorem vH{w:Str}(h:Rm ns w):Txt.slice (b9 (ns++[w])) (some (Txt.rfind (b9 (ns++[w])) "/" + 1)) none=w/\Txt.slice (b9 (ns++[w])) none (some (Txt.rfind (b9 (ns++[w])) "/"))=b9 ns:=by
 let e:b9 (ns++[w])=tx (w::ns.reverse):=(by rw[<-uN,YW,Zo]);have:=LQ (w::ns.reverse) (tL (λx F=>h.1 x (by simpa[or_comm]using F)) (Nat.succ_pos _) (by rw[WG,abm];show Nat.succ_le_succ h.2));rw[e];show#[this.1,this.2.trans ?_];rw[List.tail_cons, <-uN,Zo]
structure Hy(xs:qAf)(y v:V)(zs:qAf)(j:Nat):Prop where
 lt:j<xs.9
 at_:(xs[j]?).map (λz=>jx z y)=some true
 no:∀i,i<j->(xs[i]?).map (λz=>jx z y)=some false
 st:xs.set j v=zs
variable{xs:qAf}{y v x:V}{j:Nat}
theorem Hy.tl{zs:qAf}(h:Hy xs y v zs j)(e:jx x y=false):Hy (x::xs) y v (x::zs) (j+1):=#[Nat.succ_lt_succ h.lt,h.at_,λi hi=>by
 cases i with
 |zero=>show congrArg some e
 |succ i=>show h.no i (Nat.lt_of_succ_lt_succ hi),congrArg (List.cons x) h.st]
def Hy.hd(e:jx x y=true):Hy (x::xs) y v (v::xs) 0:=#[Nat.succ_pos _,congrArg some e,λi hi=>absurd hi (aaT i),rfl]
theorem E2(w:Str)(k:Int):∀{ss:List Slot},rJ .bh (ss.map sV)=true->∃j,Hy (ss.map sV) .bh (.str w) ((cG ss w k).map sV) j
 | [],h=>by cases h
 |none::ss,_=>by rw[nO];show#[(0),Hy.hd rfl]
 |some p::ss,h=>by
  let#[j,a]:=E2 w k (ss:=ss) h;rw[iE];show#[j+1,a.tl rfl]
theorem Ah(w:Str)(k:Int):∀{ss:List Slot},rJ .bh (ss.map sV)=false->(cG ss w k).map sV=ss.map sV++[.str w]
 | [],_=>rfl
 |none::ss,h=>by cases h
 |some p::ss,h=>by rw[iE,Wy,Ah w k (ss:=ss) h];rfl
theorem Dn{w:Str}:∀{ss:List Slot},w∉dE ss->dH ss w=ss
 | [],_=>rfl
 |s::ss,h=>by
  rw[cu]at h;rw[ia,Dn λz=>h (By _ z),acV];cases s with
  |none=>nofun
  |some p=>show λz=>h (Wg _ (sx.mpr (zA0 z).6))
theorem Af{w:Str}{k:Int}:∀{ss:List Slot},fG ss w=some k->(dE ss).4->∃j,Hy (ss.map sV) (.str w) .bh ((dH ss w).map sV) j
 | [],h,_=>by cases h
 |none::ss,h,nd=>by
  let#[j,a]:=Af (ss:=ss) h nd;show#[j+1,a.tl rfl]
 |some p::ss,h,nd=>by
  rw[eO]at h;rw[cu]at nd;rw[ia];cases z:p.1=w
  .rw[acW (show pO w (some p)=true from zA1 z),Dn λy=>(Wl.mp nd).2.2 p.1 (sx.mpr rfl) w y z];show#[(0),Hy.hd (zA1 z)]
  .let F:¬ pO w (some p)=true:=λy=>z (zA0 y);rw[acV F]at h ⊢;let#[j,a]:=Af (ss:=ss) h (Wl.mp nd).2.1;show#[j+1,a.tl (zA2 z)]
variable{W:WW}{d:Int}
def Me{b:zB0}(h:look W.L d=some b):b∈wl W:=.tail _ (.tail _ (.tail _ (.tail _ (.tail _ (Wg _ (z4.mpr #[_,d7 h,rfl]))))))
variable{B:qa0}{H H':Hp}{a:zB0}{o:HO}
def ic(h:Off B H H')(b:B a):Off B H (upd H' a o):=λx u e n=>by rw[ay (λz=>n (by rw[z];show b))];show h x u e n
def Kf(h:Off B H H')(f:H' a=none):Off B H (upd H' a o):=λx u e n=>(au f) x u (h x u e n)
def Ku{J:Hp}(h:Off B H H')(s:aO H' J):Off B H J:=λx u e n=>s x u (h x u e n)
structure Vs(H:Hp)(W:WW)(S:SS)(c:qa4)(ns:qAb)(w:Str)(d:Int)(b:zB0):Prop where
 h:Wh H W S c
 nL:(W.L.map (·.1)).4
 lb:look W.L d=some b
 v:gr (kA W.A) (.inr (b9 ns))=some (.int d)
 pc:Rm ns w
inductive xg(v:qAf)(H:Hp)(Q:VK)(e:XK):Prop
 |mk(W:WW)(S:SS)(c:qa4)(ns:qAb)(w:Str)(d k:Int)(b:zB0)(_:v=[.ref W.a,.str (b9 ns),.str (b9 (ns++[w])),.int k])(_:Vs H W S c ns w d b)(_:(S d).9<=40)(_:W.A.9<=1000)(_:∀k,(b9 (ns++[w]),k)∉W.A)(_:∀H',Wh H' { W with A:=W.A++[(b9 (ns++[w]),k)] } (ja S d (cG (S d) w k)) c->Off (· ∈ wl W) H H'->Q .bh H')
inductive w6(v:qAf)(H:Hp)(Q:VK)(e:XK):Prop
 |mk(W:WW)(S:SS)(c:qa4)(ns:qAb)(w:Str)(d k:Int)(b:zB0)(_:v=[.ref W.a,.str (b9 (ns++[w]))])(_:Vs H W S c ns w d b)(_:fG (S d) w=some k)(_:(dE (S d)).4)(_:∀H',Wh H' W (ja S d (dH (S d) w)) c->Off (· ∈ wl W) H H'->Q .bh H')
inductive Em(v:qAf)(H:Hp)(Q:VK)(e:XK):Prop
 |mk(W:WW)(S:SS)(c:qa4)(k:Int)(b:zB0)(_:v=[.ref W.a,.int k])(_:Wh H W S c)(_:W.A.9<=1000)(_:look W.C k=some b)(_:(W.A.map (·.2)).count k=0->∀H',Wh H' { W with C:=fU W.C k } S c->Off (· ∈ wl W) H H'->Q .bh H')(_:¬ (W.A.map (·.2)).count k=0->∀H',aO H H'->Q .bh H')
abbrev UX:Wo:=top 98
abbrev MS:Wo:=top 99
abbrev Oe:Wo:=top 100
theorem MA:aA ["_law_world","_law_text","_law_path_here","_law_node_here","_law_slots","_law_piece"] ["_law_world","_law_text","_law_path_here","_law_node_here"] (ax UX):=L2.bg
def Dz:aA ["_law_world","_law_text","_law_cut","_law_slots"] ["_law_world","_law_text"] (ax MS):=L2.bg
def QH:aA ["_law_world","_law_node_here"] ["_law_world","_law_node_here"] (ax Oe):=L2.bg
theorem LH(F:b4 K "_law_put" "_law_put" UX f fd)(T:gu K mg X):↥aU 1 f fd ["_law_world","_law_text","_law_path_here","_law_node_here"] xg:=by
 show F.dg MA ?_;intros;let#[W,S,c,ns,w,d,k,b,rfl,D,ac,lA,nw,q]:=h;let hs:=DD;show#[_,%[MA,0,O,4,aN,m,bI,m,0,aN,m,bI,m,0,1,O,5,dl,2,D,p,cl,aa9,aba,qQ,2,y,aw,i,bp,m,bI,m,0,bg,bg,1,az,5,3,k,ec,H,kH,bV,4,cq,k,bj,5,cY,4,be,YD,aaD,Ep,4,a,bV,j,be,cV,iz,4,a,5|9],?_]
 let lt:=iu D.pc.1;let ab:=iu λx Z=>D.pc.1 x (Wg _ Z);let l2:=D.pc.2;rw[ti,NC]at lt;let lw:=vx w (D.pc.1 w (By _ (sx.mpr rfl)));show fj λ_ I=>?_;show IY D.h D.v D.lb rfl rfl (I _ _ ?_);clear I;show fj λ_ I=>?_;show#[0,0,4,58,0,0,av,I _ _ ?_];clear I;rw[(vH D.pc).1];let ek:b9 (ns++[w])=b9 ns++("/" : Str)++w:=cj _ _;show#[0,18,D.h.gA,105,0,126,W.aa,0,j3.k (k:=.inr (b9 ns++("/" : Str)++w)) D.h.at (by rw[qw];omega),?_];rw[<-ek,Dr nw];let U:=D.h.BK (W.A++[(b9 (ns++[w]),k)]);let Y:Off (· ∈ wl W) H (upd H W.aa (.dK (kA (W.A++[(b9 (ns++[w]),k)])))):=ic (λ_ _ e _=>e) (.tail _ (.head _));generalize upd H W.aa (.dK (kA (W.A++[(b9 (ns++[w]),k)])))=H1 at *;let G:=Wh.sl U D.lb;let L:=Wh.sC U D.nL D.lb (cG (S d) w k);show#[0,b,0,73,rfl,jQ _,0,?_];show cQ (λg=>?_) (λg=>?_)
 .let#[j,a]:=E2 w k (show rJ .bh ((S d).map sV)=true from g);show#[0,0,0,.inl #[4,56],b,_,.bh,j,1,G,jQ _,rfl,a.at_,a.no,b,_,j,j,1,G,5]
  .unfold yF;rw[acW av,acW (by have:=a.lt;omega)];rfl
  .rw[a.st];show q _ L (ic Y (Me D.lb))
 .let e:=Ah w k (show rJ .bh ((S d).map sV)=false from W0.mpr g);show#[0,.inl #[4,56],0,b,6,G,87,?_];rw[e]at L;show q _ L (ic Y (Me D.lb))
theorem G6(F:b4 K "_law_freed" "_law_freed" MS f fd)(T:gu K mg X):↥aU 1 f fd ["_law_world","_law_text"] w6:=by
 show F.dg Dz ?_;intros;let#[W,S,c,ns,w,d,k,b,rfl,D,L,nd,q]:=h;let hs:=DD;show#[_,%[Dz,0,Q,cl,aa9,aba,qQ,1,y,aY,aN,m,bI,m,0,aN,m,bI,m,0,dK,oO,1,aQ,2,k,bj,bV,cY,3,be,YD,aaD,Ep,3,a,dl,1,D,p,2,aw|9],?_]
 let lt:=iu D.pc.1;let l2:=D.pc.2;rw[ti,NC]at lt;let g:=D.h.gL d;rw[D.lb]at g;let#[j,a]:=Af L nd;let I:=D.h.sl D.lb;let U:=D.h.sC D.nL D.lb (dH (S d) w);show fj λ_ G=>?_;show#[58,G _ _ ?_];clear G;show fj λ_ G=>?_;show#[18,D.h.gS,18,D.h.gA,0,0,0,0,av,W.aa,.int d,3,W.sa,0,g,G _ _ ?_]
 .rw[(vH D.pc).2];show D.v▸D.h.gT _
 clear G;show#[0,0,.inl #[4,a9.of I],0,0,6,0,0,av,b,_,.str w,j,rfl,by rw[(vH D.pc).1],I,jQ _,rfl,a.at_,a.no,b,_,j,j,1,I,5]
 .unfold yF;rw[acW av,acW (by have:=a.lt;omega)];rfl
 .rw[a.st];show q _ U (ic (λ_ _ e _=>e) (Me D.lb))
theorem zy(F:b4 K "_law_cleared" "_law_cleared" Oe f fd)(T:gu K mg X)(L:↥Df 1 "_law_links" Iu):↥aU 2 f fd ["_law_world","_law_node_here"] Em:=by
 show F.dg QH ?_;intros;let#[W,S,c,k,b,rfl,D,l,lb,U,Y]:=h;show#[_,%[0,hr,k,aX,bZ,bC,g,c,L,x,e,r,bE,g,P,Gx,c3,1,aw,bT,r,j,cj,V,1,bT|9],?_];show#[0,0,W.a,W.aa,W.A,k,rfl,D.gA,.inl D.at,l,λH1 I=>#[9]];let G:=D.sm I;show cQ (λg=>?_) (λg=>bA (Y (λz=>g (by rw[z];rfl)) _ I));let e:(W.A.map (·.2)).count k=0:=(by have:=V.int.inj (zA0 g);omega);show#[18,G.gH,W.ha,rfl,.inl #[_,.inl G.ho],0,none,dG.k (k:=.inl k) G.ho,rfl,45];show#[18,G.gC,W.ca,rfl,.inl #[_,.inl G.ce],0,_,.inl k,.ref b,G.ce,rfl,by rw[cz,lb];rfl,?_];rw[j6];show U e _ G.UD (ic (Off.of I) (.tail _ (.tail _ (.tail _ (.head _)))))
variable{N N':NS}{k n:Int}
theorem Q5{nd:Node}{e:qAa}{x:Option Node}(G:N d=some nd)(h:¬ n=k)(I:N'=cy (cy N d (some { nd with cs:=e })) k x):bC N' n=bC N n/\j5 N' n=j5 N n/\lk N' n=lk N n/\(¬ n=d->cells N' n=cells N n):=by
 let F:N' n=if n=d then some { nd with cs:=e }else N n:=by rw[I,eV h];rfl
 cases c:n=d
 .rw[acW c]at F;rw[<-c]at G;show#[by rw[cL F,cL G],by rw[eR F,eR G],by rw[fi F,fi G],λz=>absurd c z]
 .rw[acV c]at F;unfold bC j5 lk cells;rw[F];show#[1,rfl,λ_=>rfl]
structure Vz(W:WW)(N:NS):Prop where
 nL:(W.L.map (·.1)).4
 nC:(W.C.map (·.1)).4
 lL:∀n,(look W.L n).10=bC N n
 lC:∀n,(look W.C n).10=j5 N n
variable{S S':SS}{W':WW}{m:Nat}{t w:Str}
theorem Wp.add(h:Wp m W N S)(F':Fz N' S')(a:At (bC N) S t d)(hd:bC N d=true)(o:okN w)(Y:fG (S d) w=none)(hk:bC N k=false)(U:∀n,¬ n=k->bC N' n=bC N n)(hL:∀n,lk N' n=lk N n+(if n=k then 1 else 0))(eS:S'=ja S d (cG (S d) w k))(lt:(t++SL++w).9<=30)(L:W'.A=W.A++[(t++SL++w,k)])(Z:Vz W' N'):Wp (m+1) W' N' S':=by
 let nm:=(g6 _ _).mp Y;let kd:¬ k=d:=λz=>(by rwa[z,hd]at hk);let sE:∀e x,fG (S' e) x=if e=d/\x=w then some k else fG (S e) x:=λe x=>by
  rw[eS];cases c:e=d
  .rw[c,eU,uO k x nm];cases c2:x=w
   .rw[acW c2,acW #[rfl,c2]]
   .rw[acV c2,acV (λz=>c2 z.2)]
  .rw[c9 c,acV (λz=>c z.1)]
 let sk:∀x,fG (S' k) x=none:=λx=>(by rw[sE,acV (λz=>kd z.1),h.F.bh k hk];rfl);let mo:∀{q j},At (bC N) S q j->At (bC N') S' q j:=λz=>z.mono (λe he=>by
  rw[U e (λy=>by rwa[y,hk]at he)];show he) λe x i _ y=>by
   rw[sE,acV]
   .show y
   .rintro⟨rfl,rfl⟩;rwa[Y]at y
 let st:At (bC N') S' (t++SL++w) k:=.step (mo a) (by rw[U d (zA3 kd)];show hd) (by rw[sE,acW #[1]]);let ab:∀{q j},At (bC N') S' q j->At (bC N) S q j\/(q=t++SL++w/\j=k):=λz=>by
  induction z with
  |root=>show .inl .root
  | @step q e x i _ b c I =>
   let ek:¬ e=k:=λy=>(by rwa[y,sk]at c);rcases I with I|I
   .rw[U e ek]at b;rw[sE]at c;cases y:e=d/\x=w
    .rw[acW y]at c;cases c;have:=h.one hd (y.1▸I) a;show .inr #[by rw[this,y.2],rfl]
    .rw[acV y]at c;show .inl (.step I b c)
   .show absurd I.2 ek
 let no:∀i,(t++SL++w,i)∉W.A:=λi z=>by
  let#[e,y1,_,y3]:=((h.at_ _ _).mp z).inv h.F.oG o;cases y1.fn h.F.oG a;rwa[Y]at y3
 show#[F',λq i=>?_,?_,Z.nL,Z.nC,Z.lL,Z.lC,103,5]
 .rw[L,Wf,sx,h.at_];show#[λz=>z.elim mo λz=>by cases z;show st,λz=>(ab z).imp id λy=>by rw[y.1,y.2]]
 .rw[L,yl];show Wl.mpr #[h.nA,(Wq.mpr #[WX,Xj]),λx G y hy e=>?_];let#[z,hz,rfl]:=z4.mp G;rw[X4,sx]at hy;let q:(t++SL++w,z.2)=z:=acT (hy.symm.trans e.6) rfl;show no z.2 (by rw[q];show hz)
 .let c:=h.cnt n;rw[L,hL n,yl,ab5, <-c,X4,abb];cases z:n=k
  .rw[acW z,acW (by rw[z];show beq_self_eq_true k)];rfl
  .rw[acV z,acV (λy=>z (eq_of_beq y).6)];rfl
 .have:=h.ln;rw[L,ti,NC];omega
 .rw[L];intro x G;rcases Wf.mp G with G|G
  .have:=h.kl x G;omega
  .rw[sx.mp G];change(t++SL++w).9<=_;omega
theorem Wp.drop(h:Wp m W N S)(F':Fz N' S')(a:At (bC N) S t d)(hd:bC N d=true)(I:fG (S d) w=some k)(Y:∀x,fG (S k) x=none)(hD:∀n,¬ n=k->bC N' n=bC N n)(hL:∀n,lk N' n=lk N n-(if n=k then 1 else 0))(sE:∀e x,fG (S' e) x=if e=d/\x=w then none else fG (S e) x)(G:W'.A=cK W.A (t++SL++w))(Z:Vz W' N'):Wp (m+1) W' N' S':=by
 let o:=h.F.oG _ _ _ I;let st:At (bC N) S (t++SL++w) k:=.step a hd I;let kd:¬ d=k:=λz=>(by rwa[z,Y]at I);let ab:∀{q j},At (bC N') S' q j->At (bC N) S q j/\¬ q=t++SL++w:=λz=>by
  induction z with
  |root=>show#[.root,λz=>iH z]
  | @step q e x i _ b c L =>
   rw[sE]at c;cases y:e=d/\x=w
   .rw[acW y]at c;cases c
   rw[acV y]at c;let U:¬ e=k:=λy=>(by rwa[y,Y]at c);rw[hD e U]at b;show#[.step L.1 b c,130];let#[e1,e2]:=kI (h.F.oG _ _ _ c) o z;let g:=L.1;rw[e1]at g;show y #[g.fn h.F.oG a,e2]
 let mo:∀{q j},At (bC N) S q j->¬ q=t++SL++w->At (bC N') S' q j:=λz=>by
  induction z with
  |root=>show λ_=>.root
  | @step q e x i z b c L =>
   intro y;let U:¬ e=k:=λy=>(by rwa[y,Y]at c);let q1:¬ q=t++SL++w:=λz2=>(by rw[z2]at z;show U (z.fn h.F.oG st));show .step (L q1) (by rw[hD e U];show b) ?_;rw[sE,acV]
   .show c
   .rintro⟨rfl,rfl⟩;show y (by rw[h.one hd z a])
 show#[F',λq i=>?_,?_,Z.nL,Z.nC,Z.lL,Z.lC,103,5]
 .rw[G,mV,h.at_];show#[λz=>mo z.1 z.2,ab]
 .rw[G];show yj h.nA
 .let c:=h.cnt n;let pm:=((kB h.nA ((h.at_ _ _).mpr st)).map (·.2)).count_eq n;rw[Wy,Y9]at pm;rw[G,hL n, <-c,pm];cases z:n=k
  .rw[acW z,acW (by rw[z];show beq_self_eq_true k)];omega
  .rw[acV z,acV (λy=>z (eq_of_beq y).6)];omega
 .have:=h.ln;have:=WL (λx:Str×Int=>decide (¬ x.1=t++SL++w)) W.A;rw[G];unfold cK;omega
 .rw[G];intro x hx;have:=h.kl x (WA.mp hx).1;omega
variable{c:qa4}
theorem Wh.cg{c':qa4}(h:Wh H W S c)(G:∀n,(look W.L n).10=true->S n=S' n)(I:∀n,(look W.C n).10=true->c n=c' n):Wh H W S' c':=by
 let m1:W.L.map (fL S)=W.L.map (fL S'):=Xs λx F=>(by unfold fL;rw[G x.1 (eQ.mp (z4.mpr #[x,F,rfl]))]);let m2:W.C.map (fC c)=W.C.map (fC c'):=Xs λx F=>(by unfold fC;rw[I x.1 (eQ.mp (z4.mpr #[x,F,rfl]))]);unfold Wh cont at h ⊢;rw[<-m1, <-m2];show h
theorem nZ.tr{F:WW}{H'':Hp}(s:nZ W H W' H')(t:nZ W' H' F H''):nZ W H F H'':=by
 show#[λb o e nb=>t.off b o (s.off b o e nb) λw=>?_,λa w=>?_]
 .rcases s.own b w with w|w
  .show nb w
  .rw[w]at e;cases e
 .rcases t.own a w with w|w
  .show s.own a w
  .cases c:a∈wl W
   .show .inl c
   .cases e:H a with
    |none=>show .inr rfl
    |some o=>rwa[s.off a o e c]at w
def nZ.sm(s:aO H H')(e:wl W'=wl W):nZ W H W' H':=#[Off.of s,λa h=>.inl (e▸h)]
def UN(v:V):Prop:=match v with
 |.bh=>True
 |.int _=>True
 |_=>False
inductive kZ(R:Hp->WW->Dd->List V->Prop)(vs:qAf)(H:Hp)(Q:VK)(e3:XK):Prop
 |mk(m:Nat)(W:WW)(N:NS)(S:SS)(d:Dd)(_:R H W d vs)(_:Wd m H W N S)(_:yU d)(_:OM d)(_:∀e,De 60 N S d=.error e->∀H' t,aO H H'->Q (.str t) H')(_:∀N' S',De 60 N S d=.ok (N',S')->∀H' W' v,Wh H' W' S' (cells N')->Wp (m+1) W' N' S'->nZ W H W' H'->W'.a=W.a->UN v->Q v H')
variable{D:Ends}{σ:St}
def OL(h:D.nx σ H):nG D σ H:=h
variable{rest:TS}
theorem kJ{g:NS->SS->Str->Except Er Str}{i a n:Nat}(L:n=2)(h0:σ[0]?=some (some (.ref W.a)))(U:σ[a]?=some (some (.str p)))(hi:i<σ.9)(ij:¬ j=i)(Z:Wd m H W N S)(hp:pS p)
  (kE:∀e,g N S p=.error e->∀H',aO H H'->D.rt (.str (Kb e)) H') (kQ:∀t,g N S p=.ok t->∀H',aO H H'->rest D ((σ.set i (some (.str ""))).set j (some (.str t))) H') :
  jA (zc (Bd (qS g) [] E0 (tq (fX 0) (tq (fX a) xI))) (ED K n (lB (f9 i) (lB (f9 j) Jb)))) (jA (xj (pb (wt VB (fX i) (tC (.str "")))) (JH (fX i)) nG) rest) D σ H:=by
 show#[_,h0,_,U,31,p,rfl,Z,hp,λH1 q I _ F=>?_];let G:∀x y:V,((σ.set i (some x)).set j (some y))[i]?=some (some x):=λx y=>by
  rw[W5 ij,Xh hi]
 cases r:g N S p with
 |error e =>
  rw[r]at F;let Y:¬ Kb e = "" := (by cases e<;>decide +kernel);show#[q,0,cX.of F,L.6,_,0,_,0,4,G _ _,9];rw[zA2 (λz=>Y (V.str.inj z))];show bU #[_,G _ _,kE e r _ I]
 |ok t =>
  rw[r]at F;show#[q,0,cX.of F,L.6,_,0,_,0,4,G _ _,rfl,0,bA (kQ t r _ I)]
structure Ts(N:NS)(S:SS)(p:Str)(ns:qAb)(w:Str)(v:qAa):Prop where
 e1:gf p=.ok (ns++[w])
 e2:jI N S (ns++[w])=.ok v
 ew:cI N S ns=.ok v
 pc:Rm ns w
 ep:p=b9 (ns++[w])
 at_:At (bC N) S (b9 ns) (lst v)
 dir:bC N (lst v)=true
 nw:fG (S (lst v)) w=none
 ok:okN w
 ln:(b9 ns++SL++w).9<=30
variable{e:Er}
theorem Bh{α β:Type}{f:α->β}{x:Except Er α}(h:x.map f=.error e):x=.error e:=by
 cases x with
 |error r=>cases h;rfl
 |ok a=>cases h
theorem y7(h:pL N S p=.error e):gf p=.error e\/∃ns,gf p=.ok ns/\jI N S ns=.error e:=by
 unfold pL at h;cases z:gf p with
 |error r=>rwa[z]at h;show .inl rfl
 |ok ns=>rw[z]at h;show .inr #[ns,rfl,Bh h]
theorem uU(h:ni N S p=.error e):gf p=.error e\/∃ns,gf p=.ok ns/\cI N S ns=.error e:=by
 unfold ni at h;cases z:gf p with
 |error r=>rwa[z]at h;show .inl rfl
 |ok ns=>rw[z]at h;show .inr #[ns,rfl,Bh h]
variable{w:Oi}
theorem yE(F:Fz N S)(Y:pS p)(h:pL N S p=.ok t):∃ns w v,Ts N S p ns w v/\t=b9 ns:=by
 unfold pL at h;rcases Y.n with⟨e,_,z⟩|⟨_,z⟩|⟨ns,w,h1,h2,L,z⟩
 .rw[z]at h;cases h
 .rw[z]at h;cases h
 .rw[z]at h;let#[v,I,U]:=qb h;let e:=I;unfold jI at e;rw[acV (by simp),XI,fw]at e;cases G:cI N S ns with
  |error r=>rwa[G]at e
  |ok u =>
  rw[G]at e;dsimp only at e;cases c:bC N (lst u)=true
  case neg=>rwa[acV c]at e
  rw[acW c]at e;cases c2:w∈dE (S (lst u))
  .rw[acW c2]at e;cases e
  rwa[acV c2]at e;show#[ns,w,v,#[z,I,G,#[h1,h2],L,jM _ G,c,(g6 _ _).mpr c2,qp w (h1 w (By _ (sx.mpr rfl))),?_],?_]
  .have:=iu h1;rw[ti,NC]at this;rw[<-cj];omega
  .rw[<-U,XI]
structure Tw(N:NS)(S:SS)(p:Str)(ns:qAb)(v:qAa):Prop where
 e1:gf p=.ok ns
 ew:cI N S ns=.ok v
 pc:VA ns
 at_:At (bC N) S (b9 ns) (lst v)
theorem vI(I:pS p)(h:ni N S p=.ok t):∃ns v,Tw N S p ns v/\t=b9 ns:=by
 unfold ni at h;rcases I.n with⟨e,_,z⟩|⟨_,z⟩|⟨ns,w,h1,h2,L,z⟩
 .rw[z]at h;cases h
 .rw[z]at h;cases h;show#[[],_,#[z,rfl,#[nofun,aE],.root],rfl]
 .rw[z]at h;let#[v,F,G]:=qb h;show#[_,v,#[z,F,#[h1,by rw[ti,NC];omega],jM _ F],G.6]
theorem J0(h:Wp m W N S):(W.L.map (·.1)++W.C.map (·.1)).9+(sG N 24).9=24:=by
 let l:=h.pm.length_eq;let e:(sG N 24).9=((Wu 24).map λi:Nat=>(i:Int)).countP λa => !(bC N a||j5 N a):=by
  unfold sG;rw[<-Xn];congr 1;funext n;unfold bC j5;cases N n with
  |none=>rfl
  |some nd=>change false = !(nd.dir || !nd.dir);cases nd.dir<;>rfl
 have:=YU (λn=>bC N n||j5 N n) (l:=(Wu 24).map λi:Nat=>(i:Int));rw[dM,YT]at this;rw[l,e, <-Xn];simp only[Bool.not_eq_true,Bool.decide_eq_false]at this;omega
variable{v:qAa}
theorem Ts.no{w:Str}(Z:Ts N S p ns w v)(h:Wp m W N S)(k:Int):(b9 (ns++[w]),k)∉W.A:=λz=>by
 rw[h.at_,cj]at z;let#[d,I,L,G]:=z.inv h.F.oG Z.ok;cases I.fn h.F.oG Z.at_;rwa[Z.nw]at G
abbrev SO:Wo:=top 101
theorem Gj:aA ["_law_world","_law_path_here","_law_kind","_law_word","_law_text","_law_used","_law_node_here"] ["_law_world","_law_path_here","_law_kind"] (ax SO):=L2.bg
def Dt(H:Hp)(W:WW)(d:Dd)(vs:qAf):Prop:=∃kd p,d=.make kd p/\vs=[.ref W.a,.str p,.str (if kd=true then "slots" else "cells")]
theorem Ju(F:b4 K "_law_made" "_law_made" SO f fd)(T:gu K mg X)(ar:↥Df 2 "_law_spot" (qS pL))(aB:↥Df 1 "_law_full" E5)(as:↥Df 3 "_law_lacks" xM)(aK:↥Df 1 "_law_put" xg):↥aU 4 f fd ["_law_world","_law_path_here","_law_kind"] (kZ Dt):=by
 show F.ok Gj (λvs H Q E h=>?_) (λcdv A outer s H vs Q E hr h=>?_)
 .let#[m,W,N,S,d,#[kd,p,rfl,rfl],_]:=h;rfl
 .let#[m,W,N,S,d,#[kd,p,rfl,rfl],D,ok,hp,kE,kQ]:=h;let hs:=DD;let Dj:=D.Dj;intros;show#[_,%[Gj,hr,i,bj,c,ar,x,e,bA,A,3,A,4,fe,f,aF,3,E,b,3,O,5,M,c1,dQ,a,dR,V,c1,dQ,a,dR,V,f,X,c,aB,o,4,an,f,g,l,a,5,r,an,f,X,c,as,o,4,an,O,6,aJ,P,(de (cl:=[("_law_used",s⁻¹+1)]) (caps:=[("_law_used",5)])),cp,rfl,b0,aI,T,ch,H,(show lj _ _ (Q9 K true)from jN),0,1,cq,T,0,i,bp,ax,aN,dH,2,6,aC,t,c,aK,x,d,4,J,a,6,b,6|9],?_]
  show kJ (g:=pL) rfl rfl rfl (Wz rfl) aE D hp (λe he H1 s1=>kE e ?_ _ _ s1) λt ht H1 s1=>?_
  .show oa ?_;unfold jw;rcases y7 he with z|⟨ns,z,z2⟩
   .rw[z]
   .rw[z];dsimp only;rw[z2]
  let#[ns,w,v,Z,rfl]:=yE D.p.F hp ht;obtain rfl:=Z.ep;let D1:=D.sm s1;let I:jw 60 N S (b9 (ns++[w])) kd=if 40<=(dE (S (lst v))).9 then .error .tooMany else match sG N 24 with
   | []=>.error .noNode
   |u::_=>if c8 60 N (wW N (lst v)) (8*(cG (S (lst v)) w u).9)=true then .error .noSpace else .ok (u,cy (putN N (lst v) (bq (cG (S (lst v)) w u))) u (some #[101]),ja S (lst v) (cG (S (lst v)) w u)):=by
   unfold jw;rw[Z.e1];dsimp only;rw[Z.e2];dsimp only;rw[fw]<;>rfl
  let kE:∀e,jw 60 N S (b9 (ns++[w])) kd=.error e->∀H' t,aO H H'->Q (.str t) H':=λe he=>kE e (oa he);let kQ:∀u N' S',jw 60 N S (b9 (ns++[w])) kd=.ok (u,N',S')->∀H' W' v,Wh H' W' S' (cells N')->Wp (m+1) W' N' S'->nZ W H W' H'->W'.a=W.a->UN v->Q v H':=λu N' S' he=>kQ N' S' (rM he);let zl:=J0 D.p;let ll:=zl;rw[ti,dM,dM]at ll;show fj λ_ jt=>?_;show#[18,D1.h.gS,W.sa,0,D1.h.s,λv1 f1=>?_];let s2:=s1.trans (au (X:=vw v1 W.sa) f1);show#[v1,W.sa,0,ag,.inl (s2 _ _ D.h.s),by rw[gz];omega,λl1 g1=>?_];let eL:(dk V.ref W.L).map (λkv=>kV kv.1)=(W.L.map (·.1)).map V.int:=(by unfold dk;rw[WU,WU];rfl);let eC:(dk V.ref W.C).map (λkv=>kV kv.1)=(W.C.map (·.1)).map V.int:=(by unfold dk;rw[WU,WU];rfl);rw[eL];exists g1,(.lst ((W.L.map (·.1)).map V.int)),sN,h1,H2;let s3:=s2.trans sN;show#[18,(D.sm s3).h.gC,W.ca,0,(D.sm s3).h.ce,λv2 f2=>?_];let t1:=au (X:=vw v2 W.ca) f2;show#[v2,W.ca,0,ag,.inl (t1 _ _ (s3 _ _ D.h.ce)),by rw[gz];omega,λl2 g2=>?_];rw[eC];let t2:=t1.trans (au (X:=.lst ((W.C.map (·.1)).map V.int)) g2);show#[l1,l2,6,t2 _ _ h1,ag,by rw[dM,dM,dM,dM];omega,λr fr=>jt _ _ ?_];clear jt;rw[<-yl];exists fr,(.lst ((W.L.map (·.1)++W.C.map (·.1)).map V.int)),sN,h4,H4;let s4:=(s3.trans t2).trans sN;clear h1 s3 s2 f1 g1 f2 g2 t1 t2 D1 eL eC fr;let ap:∀i,i∈W.L.map (·.1)++W.C.map (·.1)↔(N i).isNone=false:=λi=>by
   rw[Wf,eQ,eQ,D.p.lL,D.p.lC];unfold bC j5;cases N i with
   |none=>simp
   |some nd=>rcases q:nd.dir with _|_<;>simp[q]
  generalize W.L.map (·.1)++W.C.map (·.1)=U at *;show#[0,0,31,_,0,D.sm s4,Z.at_,Z.dir,0,?_];show cQ (λg=>kE .tooMany (by rw[I,acW (zA0 g)]) _ _ s4) (λg=>?_);let c1:¬ 40<=(dE (S (lst v))).9:=λz=>g (zA1 z);rw[acV c1]at I;show#[0,r,0,.inl (a9.of h4),9];rw[dM];show cQ (λg=>?_) (λg=>?_)
  .have:U.9=24:=(by have:=V.int.inj (zA0 g);omega);have:sG N 24=[]:=WN.mp av;show kE .noNode (by rw[I,this]) _ _ s4
  let gU:¬ U.9=24:=λz=>g (by rw[z];rfl);cases aa:sG N 24 with
  |nil=>rw[aa]at zl;show absurd zl gU
  |cons u us =>
  rw[aa]at I;dsimp only at I;show#[0,0,31,2,w,u,rfl,D.sm s4,Z.at_,Z.dir,λH5 s5=>#[0,?_]];let s6:=s4.trans s5;let h5:=s5 _ _ h4;cases c2:c8 60 N (wW N (lst v)) (8*(cG (S (lst v)) w u).9)with
  |true=>show bU (kE .noSpace (by rw[I,acW c2]) _ _ s6)
  |false =>
  rw[acV (by rw[c2];nofun)]at I;show bA (OL ?_);dsimp only;show fj λ_ jt=>?_;show#[44];show iU (lo:=0) (n:=24) (λi ys J=>ys=(sG N i).map V.int/\J=H5) #[1] ?_ ?_
  .rintro i ys J hi ⟨rfl,rfl⟩;let e0:(0:Int)+(i:Int)=(i:Int):=av;let lf:=zX N i;show#[0,0,r,0,.inl (a9.of h5),rfl,mB _,0,?_];rw[e0,uo];rw[show(decide ((i:Int)∈U)) = !(N (i:Int)).isNone by
    cases z:(N (i:Int)).isNone with
    |true=>show zA2 λy=>by rwa[ap,z]at y
    |false=>show zA1 ((ap _).mpr z)]
   cases z:(N (i:Int)).isNone with
   |true =>
    show bU #[0,87,55];rw[mj,acW z,yl];rfl
   |false =>
    show bA #[55];rw[mj,acV (by rw[z];nofun),Wt]
  rintro ys J ⟨rfl,rfl⟩ l5 f5;rw[aa];show#[l5,_,(0),.int u,1,32,84,jt _ _ ?_];clear jt;exists f5,(.lst ((u::us).map V.int)),sN,_,H7;let s7:=s6.trans sN;let hu:N u=none:=by
   have:u∈sG N 24:=(by rw[aa];show Wn);show XS.mp (WA.mp this).2
  let uD:bC N u=false:=(by unfold bC;rw[hu]);let uF:j5 N u=false:=(by unfold j5;rw[hu]);let lu:lk N u=0:=(by unfold lk;rw[hu]);let nL:look W.L u=none:=ZP.mp ((D.p.lL u).trans uD) |> XS.mp;let nC:look W.C u=none:=ZP.mp ((D.p.lC u).trans uF) |> XS.mp;let vu:¬ lst v=u:=λz=>(by rwa[<-z,Z.dir]at uD);let#[b0,ak]:=D.p.dir Z.dir;let#[nd,ab,aP]:=bz Z.dir;let ad:=D.p.F.len (lst v);let lA:W.A.9<=1000:=(by have:=D.p.ln;omega);let eu:ja S u []=S:=Ey (D.p.F.bh u uD);let F':=tV D.p.F ok (rM I);rw[cv ab]at I F';let Y:=λ{n:Int}{x:Option Node}(h:¬ n=u)=>Q5 (k:=u) (x:=x) (e:=bq (cG (S (lst v)) w u)) ab h rfl;let D7:=D.sm s7;let am:=Z.no D.p;let ac:∀{x:Node},x.ln=1->∀n,lk (cy (cy N (lst v) (some { nd with cs:=bq (cG (S (lst v)) w u) })) u (some x)) n=lk N n+(if n=u then 1 else 0):=λhx n=>by
   cases c:n=u
   .rw[c,acW rfl,lu,fi du,hx];rfl
   .rw[acV c,(Y c).2.2.1];show(Int.add_zero _).6
  let nk:∀{l:List (Int×zB0)}{b:zB0},look l u=none->(l.map (·.1)).4->((l++[(u,b)]).map (·.1)).4:=λe h=>by
   rw[yl];show Wl.mpr #[h,Wq.mpr #[WX,Xj],λx hx y hy z=>iD e (by rw[X4,sx]at hy;rw[show u=x from hy.symm.trans z.6];show hx)]
  show#[aE,λb fb=>?_];let s8:=s7.trans (au (X:=.lst []) fb);let aj:=a8 s7 fb;let D8:=D.h.sm s8;cases kd with
  |true =>
   show#[0,18,D8.gS,0,W.sa,0,j3.k (k:=.inl u) D8.s (by rw[gz];omega),?_];rw[gc nL];let h8:=D7.h.U0 fb nL;rw[eu]at h8;let w8:nZ W H { W with L:=W.L++[(u,b)] } (upd (upd H7 b (.lst [])) W.sa (.dK (dk V.ref (W.L++[(u,b)])))):=#[ic (Off.of s8) (.tail _ (.tail _ (.head _))),λa ha=>by
    simp only[wl,yl,X4,We,Wf,WX,or_false]at ha ⊢;rcases ha with h|h|h|h|h|(h|h)|h<;>first|show .inr (h▸aj)|simp[h]]
   show#[0,0,0,0, { W with L:=W.L++[(u,b)] },S,cells N,ns,w,lst v,u,b0,rfl,#[h8,nk nL D.p.nL,by rw[gD _ nL,acV vu];show ak,D.p.v Z.at_,Z.pc],ad,lA,am,λH9 h9 o9=>?_];show#[0,kQ _ _ _ I _ _ _ (h9.cg (λn _=>rfl) λn G=>?_) (D.p.add F' Z.at_ Z.dir Z.ok Z.nw uD (λn h=>(Y h).1) (ac rfl) rfl Z.ln (by rw[<-cj]) #[nk nL D.p.nL,D.p.nC,103,103]) (w8.tr #[o9,113]) rfl trivial]
   .let G:(look W.C n).10=true:=G;rw[D.p.lC]at G;show((Y λz=>by rwa[z,uF]at G).2.2.2 λz=>by rwa[z,ky Z.dir]at G).6
   .change(look (W.L++[(u,b)]) n).10=_;rw[gD _ nL];cases c:n=u
    .rw[acW c,c,cL du];rfl
    .rw[acV c,(Y c).1,D.p.lL]
   .cases c:n=u
    .rw[c,eR du,show(look W.C u).10=_ from by rw[nC]];rfl
    .rw[(Y c).2.1];show D.p.lC n
  |false =>
   show#[0,18,D8.gC,0,W.ca,0,j3.k (k:=.inl u) D8.ce (by rw[gz];omega),?_];rw[gc nC];let h8:=D7.h.Td fb nC;let w8:nZ W H { W with C:=W.C++[(u,b)] } (upd (upd H7 b (.lst [])) W.ca (.dK (dk V.ref (W.C++[(u,b)])))):=#[ic (Off.of s8) (.tail _ (.tail _ (.tail _ (.head _)))),λa ha=>by
    simp only[wl,yl,X4,We,Wf,WX,or_false]at ha ⊢;rcases ha with h|h|h|h|h|h|h|h<;>first|show .inr (h▸aj)|simp[h]]
   show#[0,0,0,0, { W with C:=W.C++[(u,b)] },S,zd (cells N) u [],ns,w,lst v,u,b0,rfl,#[h8,D.p.nL,ak,D.p.v Z.at_,Z.pc],ad,lA,am,λH9 h9 o9=>?_];show#[0,kQ _ _ _ I _ _ _ (h9.cg (λn _=>rfl) λn G=>?_) (D.p.add F' Z.at_ Z.dir Z.ok Z.nw uD (λn h=>(Y h).1) (ac rfl) rfl Z.ln (by rw[<-cj]) #[D.p.nL,nk nC D.p.nC,103,103]) (w8.tr #[o9,113]) rfl trivial]
   .let G:(look (W.C++[(u,b)]) n).10=true:=G;unfold zd;cases c:n=u
    .rw[acW c,c,dm du]
    .rw[gD _ nC,acV c,D.p.lC]at G;rw[acV c];show((Y c).2.2.2 λz=>by rwa[z,ky Z.dir]at G).6
   .cases c:n=u
    .rw[c,cL du,show(look W.L u).10=_ from by rw[nL]];rfl
    .rw[(Y c).1];show D.p.lL n
   .change(look (W.C++[(u,b)]) n).10=_;rw[gD _ nC];cases c:n=u
    .rw[acW c,c,eR du];rfl
    .rw[acV c,(Y c).2.1,D.p.lC]
theorem u6{bs:qAb}{w:Str}(h:cI N S (bs++[w])=.ok v):∃u k,cI N S bs=.ok u/\bC N (lst u)=true/\fG (S (lst u)) w=some k/\v=u++[k]:=by
 rw[iP]at h;cases e:cI N S bs with
 |error r=>rwa[e]at h
 |ok u =>
  rw[e]at h;unfold i3 at h;dsimp only at h;cases c:bC N (lst u)=true
  .rw[acW c]at h;cases z:fG (S (lst u)) w with
   |none=>rwa[z]at h
   |some k=>rwa[z]at h;show#[u,k,rfl,c,z,rfl]
  .rw[acV c]at h;cases h
def mz(u:qAa)(k:Int):cO (u++[k])=lst u:=by unfold cO;rw[XI]
structure VL(N:NS)(S:SS)(p:Str)(bs:qAb)(w:Str)(v u:qAa)(k:Int):Prop where
 e1:gf p=.ok (bs++[w])
 ew:cI N S (bs++[w])=.ok v
 pc:Rm bs w
 ev:v=u++[k]
 wu:cI N S bs=.ok u
 at_:At (bC N) S (b9 bs) (lst u)
 dir:bC N (lst u)=true
 nm:fG (S (lst u)) w=some k
 ak:At (bC N) S (b9 (bs++[w])) k
theorem Tw.nm(Z:Tw N S p ns v)(ne:ns≠[]):∃bs w u k,ns=bs++[w]/\VL N S p bs w v u k:=by
 obtain⟨bs,w,rfl⟩:∃b k,ns=b++[k]:=#[2,(Ww ne).6];let#[u,k,h1,h2,G,F]:=u6 Z.ew;let l:=Z.pc.2;rw[ti,NC]at l;let a:=Z.at_;rw[F,lst_snoc]at a;show#[bs,w,u,k,rfl,Z.e1,Z.ew,#[Z.pc.1,av],F,h1,jM _ h1,h2,G,a]
theorem oN(w:Str)(e:Int)(x:Str):fG (ja S d (dH (S d) w) e) x=if e=d/\x=w then none else fG (S e) x:=by
 cases c:e=d
 .rw[c,eU,Be];cases c2:x=w
  .rw[acW c2,acW #[rfl,c2]]
  .rw[acV c2,acV (λz=>c2 z.2)]
 .rw[c9 c,acV (λz=>c z.1)]
abbrev N7:Wo:=top 102
abbrev M7:Wo:=top 103
abbrev Mm:Wo:=top 104
theorem xC:aA ["_law_world","_law_path_here","_law_new","_law_word","_law_text","_law_place"] ["_law_world","_law_path_here","_law_new"] (ax N7):=L2.bg
def Gw:aA ["_law_world","_law_path_here","_law_word","_law_text"] ["_law_world","_law_path_here"] (ax M7):=L2.bg
def Fg:aA ["_law_world","_law_path_here","_law_word","_law_text"] ["_law_world","_law_path_here"] (ax Mm):=L2.bg
def OY(H:Hp)(W:WW)(d:Dd)(vs:qAf):Prop:=∃p q,d=.link p q/\vs=[.ref W.a,.str p,.str q]
def Qg(H:Hp)(W:WW)(d:Dd)(vs:qAf):Prop:=∃p,d=.unlink p/\vs=[.ref W.a,.str p]
def PN(H:Hp)(W:WW)(d:Dd)(vs:qAf):Prop:=∃p,d=.rmdir p/\vs=[.ref W.a,.str p]
theorem xo(F:b4 K "_law_unlinked" "_law_unlinked" M7 f fd)(T:gu K mg X)(am:↥Df 2 "_law_found" (qS ni))(ap:↥Df 1 "_law_freed" w6)(ar:↥Df 2 "_law_cleared" Em):↥aU 3 f fd ["_law_world","_law_path_here"] (kZ Qg):=by
 show F.ok Gw (λvs H Q E h=>?_) (λcdv A outer s H vs Q E hr h=>?_)
 .let#[m,W,N,S,d,#[p,rfl,rfl],_]:=h;rfl
 .let#[m,W,N,S,d,#[p,rfl,rfl],D,ok,hp,kE,kQ]:=h;let Dj:=D.Dj;intros;show#[_,%[Gw,hr,i,bj,c,am,x,e,bA,A,2,A,3,fe,f,aF,2,E,b,2,f,bn,ce,ax,bh,3,V,an,t,c,ap,o,3,t,c,ar,o,cj,V,3,bT,cu|9],?_]
  show kJ (g:=ni) rfl rfl rfl (Wz rfl) aE D hp (λe he H1 s1=>kE e ?_ _ _ s1) λt ht H1 s1=>?_
  .change hU N S [] p=.error e;unfold hU;rcases uU he with z|⟨ns,z,z2⟩
   .rw[z]
   .rw[z];dsimp only;rw[z2]
  let#[ns,v,Z,rfl]:=vI hp ht;let D1:=D.sm s1;let I:De 60 N S (.unlink p)=if bC N (lst v)=true then .error .isDir else .ok ((if lk N (lst v)=1/\look ([]:HT) (lst v)=none then cy (wC (putN N (cO v) (bq (dH (S (cO v)) (b3 ns)))) (lst v) (-1)) (lst v) none else wC (putN N (cO v) (bq (dH (S (cO v)) (b3 ns)))) (lst v) (-1)),ja S (cO v) (dH (S (cO v)) (b3 ns))):=by
   change hU N S [] p=_;unfold hU;rw[Z.e1];dsimp only;rw[Z.ew]
  show Fu D1.h (D.p.v Z.at_) rfl rfl #[0,?_];rw[D.p.lL];cases c:bC N (lst v)with
  |true=>show bU (kE .isDir (by rw[I,acW c]) _ _ s1)
  |false =>
  rw[acV (by rw[c];nofun)]at I;show bA ?_;let#[bs,w,u,k,rfl,Y]:=Z.nm λz=>by
   have:=Z.ew;rwa[z]at this;rwa[show lst [0]=0 from rfl,D.p.F.root]at c
  rw[Y.ev,lst_snoc]at c;rw[Y.ev,lst_snoc,mz,fw]at I;let#[b,hb]:=D.p.dir Y.dir;let#[nd,ab,aB]:=bz Y.dir;let#[x,U]:=D.p.F.AX Y.ak;let kF:j5 N k=true:=(by rw[D.p.F.Ih Y.ak,c];rfl);let#[bk,as]:=D.p.Rh kF;let ku:¬ k=lst u:=λz=>(by rwa[z,Y.dir]at c);let aj:cy N (lst u) (some { nd with cs:=bq (dH (S (lst u)) w) }) k=some x:=(by rw[eV ku];show U);rw[cv ab,kL aj,fi U]at I;let ms:(b9 (bs++[w]),k)∈W.A:=(D.p.at_ _ _).mpr Y.ak;let pm:=((kB D.p.nA ms).map (·.2)).count_eq k;rw[Wy,Y9,acW (beq_self_eq_true k)]at pm;let ck:=D.p.cnt k;rw[fi U]at ck;let dl:(cK W.A (b9 (bs++[w]))).9<=1000:=by
   have:=D.p.ln;have:=WL (λx:Str×Int=>decide (¬ x.1=b9 (bs++[w]))) W.A;unfold cK;omega
  let L:=λ{n:Int}{y:Option Node}(h:¬ n=k)=>Q5 (k:=k) (x:=y) (e:=bq (dH (S (lst u)) w)) ab h rfl;let ac:∀{n:Int}{y:Option Node},j5 N n=true->¬ n=k->cells N n=cells (cy (cy N (lst u) (some { nd with cs:=bq (dH (S (lst u)) w) })) k y) n:=λG c=>((L c).2.2.2 λz=>by rwa[z,ky Y.dir]at G).6;let ad:∀x,fG (S k) x=none:=λx=>(by rw[D.p.F.bh k c];rfl);let F':=tV D.p.F ok I;show#[54,#[D1.h,67],Y.nm,D.p.F.nd _,λH2 h2 o2=>?_];let e2:=h2.at
  show#[0,18,h2.gA,W.aa,rfl,.inl #[_,.inl e2],122,e2,rfl,D.p.v Y.ak,?_];rw[ua];let h3:=h2.BK (cK W.A (b9 (bs++[w])));let w3:nZ W H { W with A:=cK W.A (b9 (bs++[w])) } (upd H2 W.aa (.dK (kA (cK W.A (b9 (bs++[w])))))):=(nZ.sm s1 rfl).tr #[ic o2 (.tail _ (.head _)),113];show#[{ W with A:=cK W.A (b9 (bs++[w])) },_,cells N,k,bk,rfl,h3,dl,as,λez H4 h4 o4=>?_,λez H4 s4=>?_]
  .let l1:x.ln=1:=(by have:((cK W.A (b9 (bs++[w]))).map (·.2)).count k=0:=ez;omega);rw[acW #[l1,rfl]]at I F';let en:∀(M:NS) y,cy (cy M k y) k none=cy M k none:=λM y=>funext λj=>(by unfold cy;split<;>rfl);rw[en]at I F';show kQ _ _ I H4 _ .bh (h4.cg (λn _=>rfl) λn G=>?_) (D.p.drop F' Y.at_ Y.dir Y.nm ad (λn h=>(L h).1) (λn=>?_) (oN w) (by rw[<-cj]) #[D.p.nL,?_,103,103]) (w3.tr #[o4,λa ha=>.inl ?_]) rfl trivial
   .let G:(look (fU W.C k) n).10=true:=G;rw[mP]at G;cases c2:n=k
    .rw[acW c2]at G;cases G
    .rw[acV c2,D.p.lC]at G;show ac G c2
   .cases c2:n=k
    .rw[c2,acW rfl,fi U,l1];unfold lk;rw[du];rfl
    .rw[acV c2,(L c2).2.2.1];show(ab7 _).6
   .change((fU W.C k).map (·.1)).4;rw[qT];show D.p.nC.filter _
   .cases c2:n=k
    .rw[c2];unfold bC;rw[du];show(D.p.lL k).trans c
    .rw[(L c2).1];show D.p.lL n
   .change(look (fU W.C k) n).10=_;rw[mP];cases c2:n=k
    .rw[c2,acW rfl];unfold j5;rw[du];rfl
    .rw[acV c2,(L c2).2.1];show D.p.lC n
   .simp only[wl,We,Wf]at ha ⊢;rcases ha with h|h|h|h|h|h|h
    iterate 6 (simp[h])
    let#[y,hy,e]:=z4.mp h;show .inr (.inr (.inr (.inr (.inr (.inr (z4.mpr #[y,(pW hy).1,e]))))))
  .let l1:¬ x.ln=1:=λz=>ez (by change((cK W.A (b9 (bs++[w]))).map (·.2)).count k=0;omega);rw[acV (λz=>l1 z.1)]at I F';let dx:x.dir=false:=(by rw[<-cL U];show c);show kQ _ _ I H4 _ .bh ((h3.sm s4).cg (λn _=>rfl) λn G=>?_) (D.p.drop F' Y.at_ Y.dir Y.nm ad (λn h=>(L h).1) (λn=>?_) (oN w) (by rw[<-cj]) #[D.p.nL,D.p.nC,103,103]) (w3.tr (nZ.sm s4 rfl)) rfl trivial
   .let G:(look W.C n).10=true:=G;rw[D.p.lC]at G;cases c2:n=k
    .rw[c2,dm U,dm du]
    .show ac G c2
   .cases c2:n=k
    .rw[c2,acW rfl,fi U,fi du];rfl
    .rw[acV c2,(L c2).2.2.1];show(ab7 _).6
   .cases c2:n=k
    .rw[c2,cL du];show(D.p.lL k).trans (c.trans dx.6)
    .rw[(L c2).1];show D.p.lL n
   .cases c2:n=k
    .rw[c2,eR du];show(D.p.lC k).trans (kF.trans (by rw[dx];rfl))
    .rw[(L c2).2.1];show D.p.lC n
theorem rX:∀ss:List Slot,(ss.map sV).filter (λx => !decide (x=.bh))=(dE ss).map V.str
 | []=>rfl
 |none::ss=>rX ss
 |some p::ss=>by
  have:=rX ss;rw[cu,Wy,WO (by rfl),this];rfl
section
theorem zt(F:b4 K "_law_removed" "_law_removed" Mm f fd)(T:gu K mg X)(ap:↥Df 2 "_law_found" (qS ni))(ar:↥Df 1 "_law_freed" w6):↥aU 3 f fd ["_law_world","_law_path_here"] (kZ PN):=by
 show F.ok Fg (λvs H Q E h=>?_) (λcdv A outer s H vs Q E hr h=>?_)
 .let#[m,W,N,S,d,#[p,rfl,rfl],_]:=h;rfl
 .let#[m,W,N,S,d,#[p,rfl,rfl],D,ok,hp,kE,kQ]:=h;let hs:=DD;intros;show#[_,%[Fg,hr,i,bj,c,ap,x,e,bA,A,2,A,3,fe,f,aF,2,E,b,2,f,bn,ce,ax,bh,3,V,an,f,g,3,E,an,f,H,dG,P,b9,bJ,aZ,bh,bh,3,T,ch,ct,0,aq,T,0,aC,s,an,t,c,ar,o,3,t,cj,V,cj,V,3,bT,bT,cu|9],?_]
  show kJ (g:=ni) rfl rfl rfl (Wz rfl) aE D hp (λe he H1 U=>kE e ?_ _ _ U) λt ht H1 U=>?_
  .change hG N S p=.error e;unfold hG;rcases uU he with z|⟨ns,z,z2⟩
   .rw[z]
   .rw[z];dsimp only;rw[z2]
  let#[ns,v,Z,rfl]:=vI hp ht;let D1:=D.sm U;let G:De 60 N S (.rmdir p)=if bC N (lst v)=true then(if lst v=0 then .error .notAllowed else if 0<(dE (S (lst v))).9 then .error .notEmpty else .ok (cy (putN N (cO v) (bq (dH (S (cO v)) (b3 ns)))) (lst v) none,ja (ja S (cO v) (dH (S (cO v)) (b3 ns))) (lst v) []))else .error .notDir:=by
   change hG N S p=_;unfold hG;rw[Z.e1];dsimp only;rw[Z.ew]
  show FP D1.h (D.p.v Z.at_) rfl rfl #[0,?_];rw[D.p.lC,D.p.F.Ih Z.at_];cases c:bC N (lst v)with
  |false=>show bU (kE .notDir (by rw[G,acV (by rw[c];nofun)]) _ _ U)
  |true =>
  rw[acW c]at G;show bA #[0,9];show cQ (λg=>?_) (λg=>?_)
  .let e0:b9 ns = "" := V.str.inj (zA0 g);let a:=Z.at_;rw[e0]at a;show kE .notAllowed (by rw[G,acW (a.fn D.p.F.oG .root)]) _ _ U
  let#[bs,w,u,k,rfl,Y]:=Z.nm λz=>g (by rw[z];rfl);rw[Y.ev,lst_snoc]at c;rw[Y.ev,lst_snoc,mz,fw]at G;let k0:¬ k=0:=λz=>by
   let a:=Y.ak;rw[z]at a;have:=D.p.one D.p.F.root a .root;rw[cj]at this;show iH this.6
  rw[acV k0]at G;let#[b,hb]:=D.p.dir Y.dir;let#[bk,ab]:=D.p.dir c;let#[nd,ad,aK]:=bz Y.dir;let#[x,hx,as]:=bz c;let aB:=D.p.F.len k;let am:=D1.h.sl ab;show IY D1.h (D.p.v Y.ak) ab rfl rfl #[bk,rfl,#[_,a9.of am],?_];show iA (K:=K) (a:=bk) (xs:=(S k).map sV) (λi ys J=>ys=(((S k).map sV).take i).filter (λx => !decide (x=.bh))/\J=H1) #[1] (λi ys J _ z=>by rw[z.2];show a9.of am) ?_ ?_
  .rintro i x ys J hx ⟨rfl,rfl⟩;let li:=(u4.mp hx).1;rw[dM]at li;let lf:=WL (λx => !decide (x=V.bh)) (((S k).map sV).take i);rw[IF]at lf;show#[0,9];show cQ (λg=>#[0,av,55]) (λg=>#[55])
   .rw[WE,hx,Xk];have:[x].filter (λx => !decide (x=V.bh))=[x]:=WO (p:=λx => !decide (x=V.bh)) (l:=[]) g;show congrArg _ this.6
   .rw[WE,hx,Xk];have:[x].filter (λx => !decide (x=V.bh))=[]:=WQ (p:=λx => !decide (x=V.bh)) g;show((congrArg _ this).trans (Wt _)).6
  rintro ys J ⟨rfl,rfl⟩ l1 f1;rw[WV,rX];exists f1,(.lst ((dE (S k)).map V.str)),sN,e2,H2;let s2:=U.trans sN;show#[aE,λl2 f2=>#[l1,l2,6,a9.of ((au f2) _ _ e2),32,mC _,9]];exists f2,(.lst []),sN,_,H3;let s3:=s2.trans sN;cases c3:0<(dE (S k)).9
  .rw[acW c3]at G;cases q:dE (S k)with
   |nil=>rw[q]at c3;show absurd c3 aE
   |cons y ys=>show bU (kE .notEmpty G _ _ s3)
  rw[acV c3]at G;let n0:dE (S k)=[]:=WN.mp (YX c3);rw[n0];show bA ?_;let D3:=D.sm s3;let ac:∀x,fG (S k) x=none:=λx=>(g6 _ _).mpr (by rw[n0];show WX);let ku:¬ k=lst u:=λz=>(by have:=Y.nm;rwa[<-z,ac]at this);let F':=tV D.p.F ok G;rw[cv ad]at G F';let U2:=λ{n:Int}(h:¬ n=k)=>Q5 (k:=k) (x:=none) (e:=bq (dH (S (lst u)) w)) ad h rfl;let nk:cy (cy N (lst u) (some { nd with cs:=bq (dH (S (lst u)) w) })) k none k=none:=du;show#[54,#[D3.h,67],Y.nm,D.p.F.nd _,λH4 h4 o4=>?_];let e4:=h4.at
  show#[18,h4.gS,W.sa,rfl,.inl #[_,.inl h4.s],#[18,h4.gA,W.aa,rfl,.inl #[_,.inl e4],122,e4,rfl,D.p.v Y.ak,?_]];rw[ua];let h5:=h4.BK (cK W.A (b9 (bs++[w])));let w5:nZ W H { W with A:=cK W.A (b9 (bs++[w])) } (upd H4 W.aa (.dK (kA (cK W.A (b9 (bs++[w])))))):=(nZ.sm s3 rfl).tr #[ic o4 (.tail _ (.head _)),113];generalize upd H4 W.aa (.dK (kA (cK W.A (b9 (bs++[w])))))=H5 at *;let aj:=Wh.s h5;dsimp only at aj;show#[_,.inl k,.ref bk,aj,rfl,by rw[cz,ab];rfl,?_];rw[j6];let h6:=Wh.RP h5 D.p.nL ab;show kQ _ _ G _ _ .bh (h6.cg (λn _=>rfl) λn I=>?_) (D.p.drop F' Y.at_ Y.dir Y.nm ac (λn h=>(U2 h).1) (λn=>?_) (λe x=>?_) (by rw[<-cj]) #[?_,D.p.nC,103,103]) (w5.tr #[ic (λ_ _ e _=>e) (.tail _ (.tail _ (.head _))),λa ha=>.inl ?_]) rfl trivial
  .let I:(look W.C n).10=true:=I;rw[D.p.lC]at I;show((U2 λz=>by rwa[z,ky c]at I).2.2.2 λz=>by rwa[z,ky Y.dir]at I).6
  .cases c2:n=k
   .rw[c2,acW rfl,fi hx,D.p.F.dl _ _ hx as];unfold lk;rw[nk];rfl
   .rw[acV c2,(U2 c2).2.2.1];show(ab7 _).6
  .cases c2:e=k
   .rw[c2,eU,ac,acV (λz=>ku z.1)];rfl
   .rw[c9 c2];show oN w e x
  .change((fU W.L k).map (·.1)).4;rw[qT];show D.p.nL.filter _
  .change(look (fU W.L k) n).10=_;rw[mP];cases c2:n=k
   .rw[c2,acW rfl];unfold bC;rw[nk];rfl
   .rw[acV c2,(U2 c2).1];show D.p.lL n
  .cases c2:n=k
   .rw[c2];unfold j5;rw[nk];show(D.p.lC k).trans (ky c)
   .rw[(U2 c2).2.1];show D.p.lC n
  .simp only[wl,We,Wf]at ha ⊢;rcases ha with h|h|h|h|h|h|h
   iterate 5 (simp[h])
   .let#[y,hy,e]:=z4.mp h;show .inr (.inr (.inr (.inr (.inr (.inl (z4.mpr #[y,(pW hy).1,e]))))))
   .simp[h]
theorem Cr(F:b4 K "_law_linked" "_law_linked" N7 f fd)(T:gu K mg X)(ac:↥Df 1 "_law_names" sX)(ak:↥Df 2 "_law_found" (qS ni))(as:↥Df 2 "_law_spot" (qS pL))(ap:↥Df 1 "_law_full" E5)(aj:↥Df 3 "_law_lacks" xM)(ar:↥Df 1 "_law_put" xg):↥aU 4 f fd ["_law_world","_law_path_here","_law_new"] (kZ OY):=by
 show F.ok xC (λvs H Q E h=>?_) (λcdv A outer s H vs Q E hr h=>?_)
 .let#[m,W,N,S,d,#[p,q,rfl,rfl],_]:=h;rfl
 .let#[m,W,N,S,d,#[p,q,rfl,rfl],D,ok,#[hp,hq],I,kQ]:=h;let Dj:=D.Dj;let I:∀e,j8 60 N S p q=.error e->∀H' t,aO H H'->Q (.str t) H':=I;intros;show#[_,%[xC,hr,i,bj,c,ak,x,e,bA,A,3,A,4,fe,bb,bC,aF,3,E,bE,bZ,bw,g,3,E,bK,ct,cv,h,aq,b,3,f,b1,cv,h,aq,an,f,bn,ce,ax,bh,4,V,an,i,bj,c,as,x,h,bA,A,3,A,5,fe,f,aF,3,E,b,3,f,X,c,ap,o,5,an,f,X,c,aj,o,5,an,t,c,ar,x,d,5,ba,a,bh,4,cu|9],?_]
  show#[0,0,31,p,rfl,D,hp,λH1 a1 s1 _ h1=>?_];cases r:ni N S p with
  |error e =>
   rw[r]at h1;let U:¬ Kb e = "" := (by cases e<;>decide +kernel);obtain⟨e',he⟩:∃e',j8 60 N S p q=.error e':=by
    unfold j8;rcases uU r with z|⟨ns,z,z2⟩
    .rw[z];show#[0]
    .rw[z];dsimp only;cases gf q with
     |error y=>show#[0]
     |ok ms=>dsimp only;rw[z2];show#[0]
   let I:=I e' he;show#[a1,0,cX.of h1,4,0,6,0,9];rw[zA2 (λz=>U (V.str.inj z))];show bU #[0,9];show cQ (λ_=>bU #[0,I _ _ s1]) (λ_=>?_);show#[0,q,rfl,hq,λL H2 s2=>#[rfl,46],λl _ H2 q2 s2 _ _=>#[rfl,0,bU #[0,I _ _ (s1.trans s2)]]];show#[0,q,rfl,hq,λ_ H3 s3=>#[rfl,0,bU (I _ _ ((s1.trans s2).trans s3))],λl e3=>?_];rwa[L]at e3
  |ok t =>
  rw[r]at h1;let#[ns,v,Z,rfl]:=vI hp r;show#[a1,0,cX.of h1,4,0,6,0,rfl,0,bA (bA ?_)];let G:j8 60 N S p q=match gf q with
   |.error e=>.error e
   |.ok ms=>if bC N (lst v)=true then .error .isDir else match jI N S ms with
    |.error e=>.error e
    |.ok u=>if 40<=(dE (S (lst u))).9 then .error .tooMany else if c8 60 N (wW N (lst u)) (8*(cG (S (lst u)) (b3 ms) (lst v)).9)=true then .error .noSpace else .ok (wC (putN N (lst u) (bq (cG (S (lst u)) (b3 ms) (lst v)))) (lst v) 1,ja S (lst u) (cG (S (lst u)) (b3 ms) (lst v))):=by
   unfold j8;rw[Z.e1];dsimp only;rw[Z.ew]<;>rfl
  show#[0,q,rfl,hq,λL H2 s2=>#[rfl,45],λms L H2 q2 s2 f2 h2=>#[rfl,46]]
  .rw[iR hq]at L;cases U:gf q with
   |ok l=>rwa[U]at L
   |error e=>rw[U]at G;show I e G _ _ (s1.trans s2)
  rw[iR hq]at L;cases U:gf q with
  |error e=>rwa[U]at L
  |ok l =>
  rw[U]at G L;cases L;dsimp only at G;let s3:=s1.trans s2;show Fu (D.h.sm s3) (D.p.v Z.at_) rfl rfl #[0,?_];rw[D.p.lL];cases c:bC N (lst v)with
  |true=>show bU (I .isDir (by rw[G,acW c]) _ _ s3)
  |false =>
  rw[acV (by rw[c];nofun)]at G;show bA (OL ?_);dsimp only;show kJ (g:=pL) rfl rfl rfl (Wz rfl) aE (D.sm s3) hq (λe he H4 s4=>I e ?_ _ _ (s3.trans s4)) λt ht H4 s4=>?_
  .rcases y7 he with z|⟨ns,z,z2⟩
   .rw[U]at z;cases z
   .rw[U]at z;cases z;rw[G,z2]
  let#[bs,b,u,Y,rfl]:=yE D.p.F hq ht;obtain rfl:=Y.ep;let ab:=Y.e1;rwa[U]at ab;rw[Y.e2]at G;dsimp only at G;rw[fw]at G;let s4:=s3.trans s4;let D4:=D.sm s4;show#[0,0,31,_,0,D4,Y.at_,Y.dir,0,?_];show cQ (λg=>I .tooMany (by rw[G,acW (zA0 g)]) _ _ s4) (λg=>?_);rw[acV (λz=>g (zA1 z))]at G;show#[0,0,31,2,b,78,D4,Y.at_,Y.dir,λH5 s5=>#[0,?_]];let s5:=s4.trans s5;let D5:=D.sm s5;cases c2:c8 60 N (wW N (lst u)) (8*(cG (S (lst u)) b (lst v)).9)with
  |true=>show bU (I .noSpace (by rw[G,acW c2]) _ _ s5)
  |false =>
  rw[acV (by rw[c2];nofun)]at G;let#[b0,am]:=D.p.dir Y.dir;let#[nd,aa,aB]:=bz Y.dir;let#[x,hx]:=D.p.F.AX Z.at_;let ku:¬ lst v=lst u:=λz=>(by rwa[z,Y.dir]at c);let ad:cy N (lst u) (some { nd with cs:=bq (cG (S (lst u)) b (lst v)) }) (lst v)=some x:=(by rw[eV ku];show hx);let F':=tV (d:=.link p (b9 (bs++[b]))) D.p.F ok G;rw[cv aa,kL ad]at G F';let dx:x.dir=false:=(by rw[<-cL hx];show c);let U2:=λ{n:Int}(h:¬ n=lst v)=>Q5 (k:=lst v) (x:=some { x with ln:=x.ln+1 }) (e:=bq (cG (S (lst u)) b (lst v))) aa h rfl;let hk:=du (N:=cy N (lst u) (some { nd with cs:=bq (cG (S (lst u)) b (lst v)) })) (n:=lst v) (x:=some { x with ln:=x.ln+1 });show bA #[0,0,0,Iy D5.h (D.p.v Z.at_) rfl rfl ?_];show#[W,S,cells N,bs,b,lst u,lst v,b0,rfl,#[D5.h,D.p.nL,am,D.p.v Y.at_,Y.pc],D.p.F.len _,by have:=D.p.ln;omega,Y.no D.p,λH6 h6 o6=>?_];show kQ _ _ G _ _ .bh (h6.cg (λn _=>rfl) λn hn=>?_) (D.p.add F' Y.at_ Y.dir Y.ok Y.nw c (λn h=>(U2 h).1) (λn=>?_) rfl Y.ln (by rw[<-cj]) #[D.p.nL,D.p.nC,103,103]) ((nZ.sm s5 rfl).tr #[o6,113]) rfl trivial
  .let hn:(look W.C n).10=true:=hn;rw[D.p.lC]at hn;cases c2:n=lst v
   .rw[c2,dm hx,dm hk]
   .show((U2 c2).2.2.2 λz=>by rwa[z,ky Y.dir]at hn).6
  .cases c2:n=lst v
   .rw[c2,acW rfl,fi hx,fi hk]
   .rw[acV c2,(U2 c2).2.2.1];show(Int.add_zero _).6
  .cases c2:n=lst v
   .rw[c2,cL hk];show(D.p.lL _).trans (c.trans dx.6)
   .rw[(U2 c2).1];show D.p.lL n
  .cases c2:n=lst v
   .rw[c2,eR hk];show(D.p.lC _).trans ((eR hx).trans rfl)
   .rw[(U2 c2).2.1];show D.p.lC n
variable{N:NS}{n:Int}{nd:Node}{cs:qAa}
theorem JA(F:N n=some nd):bC (cy N n (some { nd with cs:=cs }))=bC N/\j5 (cy N n (some { nd with cs:=cs }))=j5 N/\lk (cy N n (some { nd with cs:=cs }))=lk N:=by
 show#[funext λk=>?_,funext λk=>?_,funext λk=>?_]<;>cases c:k=n
 .rw[c,cL F,cL du]
 .unfold bC;rw[eV c]
 .rw[c,eR F,eR du]
 .unfold j5;rw[eV c]
 .rw[c,fi F,fi du]
 .unfold lk;rw[eV c]
variable{old:qAa}{a:Nat}
def LL:(BX old a cs).9=max old.9 (a+cs.9):=by
 unfold BX fill;simp only[ti,IF,WC,WM];omega
theorem NW:((fill old (max old.9 (a+cs.9))).take a++cs)++(fill old (max old.9 (a+cs.9))).drop (a+cs.9)=BX old a cs:=by
 let G:(fill old (max old.9 (a+cs.9))).take a=(fill old a).take a:=by
  unfold fill;rw[XA,XA,abn,abn];congr 2;omega
 let F:(fill old (max old.9 (a+cs.9))).drop (a+cs.9)=(fill old a).drop (a+cs.9):=by
  unfold fill;rw[Zl,Zl,abo,abo];congr 2;omega
 unfold BX;rw[G,F]
theorem Kr{F:zB0}{o':HO}(f:H F=none):nZ W H { W with C:=dI W.C n F } (upd (upd H F o) W.ca o'):=by
 show#[ic (Kf (λ_ _ e _=>e) f) (.tail _ (.tail _ (.tail _ (.head _)))),λa G=>?_];simp only[wl,We,Wf]at G ⊢;rcases G with h|h|h|h|h|h|h
 iterate 6 (simp[h])
 let#[y,I,e]:=z4.mp h;rcases mem_set I with z|z
 .rw[z]at e;show .inr (by rw[<-e];show f)
 .show .inl (.inr (.inr (.inr (.inr (.inr (.inr (z4.mpr #[y,z.1,e])))))))
end
inductive G5(v:qAf)(H:Hp)(Q:VK)(e:XK):Prop
 |mk(m:Nat)(W:WW)(N:NS)(S:SS)(n:Int)(size:Nat)(nd:Node)(_:v=[.ref W.a,.int n,.int size])(_:Wd m H W N S)(_:N n=some nd)(_:nd.dir=false)(_:nd.cs.9<=size)(_:size<=1000)(_:c8 60 N nd.cs.9 size=true->∀H',aO H H'->Q (.bl false) H')(_:c8 60 N nd.cs.9 size=false->∀H' b,Wh H' { W with C:=dI W.C n b } S (zd (cells N) n (fill nd.cs size))->nZ W H { W with C:=dI W.C n b } H'->Q (.bl true) H')
inductive EL(vs:qAf)(H:Hp)(Q:VK)(e3:XK):Prop
 |mk(m:Nat)(W:WW)(N:NS)(S:SS)(n a:Int)(cs:qAa)(l:zB0)(nd:Node)(_:vs=[.ref W.a,.int n,.int a,.ref l])(_:Wd m H W N S)(_:H l∣(cs.map V.int))(_:l∉wl W)(_:N n=some nd)(_:nd.dir=false)(_:nd.cs.9<=320)(_:OM (.write n a cs))(_:∀e,De 60 N S (.write n a cs)=.error e->∀H' t,aO H H'->Q (.str t) H')(_:∀N' S',De 60 N S (.write n a cs)=.ok (N',S')->∀H' W' v,Wh H' W' S' (cells N')->Wp (m+1) W' N' S'->nZ W H W' H'->W'.a=W.a->UN v->Q v H')
abbrev S9:Wo:=top 106
abbrev SD:Wo:=top 107
theorem Qo:aA ["_law_world","_law_node_here","_law_size","_law_had"] ["_law_world","_law_node_here","_law_size"] (ax S9):=L2.bg
theorem N1:aA ["_law_world","_law_node_here","_law_at","_law_some","_law_upto","_law_had"] ["_law_world","_law_node_here","_law_at","_law_some"] (ax SD):=L2.bg
theorem y8(F:b4 K "_law_resized" "_law_resized" S9 f fd)(T:gu K mg X)(aa:↥Df 1 "_law_blocks" sv)(ab:↥Df 2 "_law_spare" Bi):↥aU 3 f fd ["_law_world","_law_node_here","_law_size"] G5:=by
 show F.dg Qo ?_;intros;let#[m,W,N,S,n,size,nd,rfl,D,Z,hd,l1,l2,kF,kT]:=h;let hs:=DD;let#[b,G]:=D.p.Rh (d:=n) (by rw[eR Z,hd];rfl);let Y:H b∣(nd.cs.map V.int):=(by have:=D.h.cl G;(rw[dm Z]at this;assumption));let g:=D.h.gN n;rw[G]at g;show#[_,%[Qo,hr,aY,bh,1,f,bB,aO,bP,h,bP,a,l,Y,b3,q,s,co,i,bp,c3,1,M,w,3,aQ,2,cc,C,aI,aO,2,l,Y,co|9],?_]
 show fj λ_ jt=>?_;show#[18,D.h.gC,0,W.ca,0,g,jt _ _ ?_];clear jt;show#[0,size,rfl,0,b,0,.inl (a9.of Y),nd.cs.9,118,6,0,31,rfl,D,λH1 U=>#[19]];change if c8 60 N nd.cs.9 size=true then _ else _
 cases c:c8 60 N nd.cs.9 size with
 |true=>show bU (kF c _ U)
 |false =>
 show bA #[0,0,(size:Int),rfl,b,0,a9.of (U _ _ Y),λq1 f1=>?_];rw[jm,V6 l1];exists f1,(.lst (nd.cs.map V.int)),L,e2,H2;let s2:=U.trans L;show#[aE,λq3 f3=>?_];let t3:=au (X:=.lst [V.int 0]) f3;show#[0,0,b,0,.inl (a9.of (t3 _ _ (s2 _ _ Y))),6,q3,6,ag,87,87,by rw[dM,NC];omega,λq4 f4=>?_];let e:((size:Int)-((nd.cs.map V.int).9:Nat)).5=size-nd.cs.9:=(by rw[dM];omega);rw[rep1,e];exists f4,(.lst (TN (size-nd.cs.9) (V.int 0))),L,e4,H4;let t4:=t3.trans L;show#[q1,q4,6,t4 _ _ e2,e4,129,λq5 I=>?_];let ef:nd.cs.map V.int++TN (size-nd.cs.9) (V.int 0)=(fill nd.cs size).map V.int:=(by unfold fill;rw[yl,Yl]);rw[ef];let s4:=s2.trans t4;let D4:=D.h.sm s4;let D5:=D4.sm (au (X:=.lst ((fill nd.cs size).map V.int)) I);let wn:=gz V.ref W.C;let lC:W.C.9<=48:=by
  let zl:=D.p.Uj (c:=cells N);unfold C8 at zl;rw[ti,dM,dM]at zl;omega
 show#[18,D5.gC,0,W.ca,0,j3.k (k:=.inl n) D5.ce av,?_];rw[ju G];show kT c _ q5 (D4.yI D.p.nC G I _) ((nZ.sm s4 rfl).tr (Kr I))
theorem zz(F:b4 K "_law_written" "_law_written" SD f fd)(T:gu K mg X)(aj:↥Df 3 "_law_resized" G5):↥aU 4 f fd ["_law_world","_law_node_here","_law_at","_law_some"] EL:=by
 show F.dg N1 ?_;intros;let#[m,W,N,S,n,a,cs,l,nd,rfl,D,hl,lw,G,hd,l3,dk,kE,kQ]:=h;let#[a0,a1,l7]:=dk;let hs:=DD;let#[b,Z]:=D.p.Rh (d:=n) (by rw[eR G,hd];rfl);let hc:H b∣(nd.cs.map V.int):=(by have:=D.h.cl Z;(rw[dm G]at this;assumption));let g:=D.h.gN n;rw[Z]at g;obtain⟨k,rfl⟩:∃k:Nat,a=(k:Int):=#[a.5,av];let em:De 60 N S (.write n k cs)=if c8 60 N nd.cs.9 (max nd.cs.9 (k+cs.9))=true then .error .noSpace else .ok (cy N n (some { nd with cs:=BX nd.cs k cs }),S):=by
  change(jk 60 N n k cs).map _=_;unfold jk rh;let r:ze N n=none:=(by unfold ze;rw[G];dsimp only;rw[acV (by rw[hd];nofun)]);rw[r];dsimp only;rw[acW #[av,av],acW #[av,av],acV av,ke G,dm G,XJ,LL,cv G];cases c8 60 N nd.cs.9 (max nd.cs.9 (k+cs.9))<;>rfl
 show#[_,%[N1,hr,O,4,p,2,l,Y,bb,bw,H,sR,2,r,bK,bB,4,r,an,f,H,dG,3,aC,s,f,cK,X,c,aj,x,J,a,S,bz,Cc,rfl,T.max,LP,d,l,a,bh,1,ah,an,O,5,bh,1,k,bp,c3,1,M,M,w,5,aQ,2,3,w,5,D,4,bM,b,l,Y|9],?_]
 show fj λ_ L=>?_;show#[0,0,65,6,L _ _ ?_];clear L;rw[dM];show#[0,19];rw[zA2 (show ¬ (k:Int)<0 by omega)];show bA #[0,19];rw[zA2 (show ¬ (320:Int)<(k:Int)+(cs.9:Nat)by omega)];show bA #[0,aE,λq1 f1=>?_];let Y:=au (X:=.lst []) f1;show#[l,q1,6,a9.of (Y _ _ hl),32,mB _,9];generalize upd H q1 (.lst [])=H1 at *;let ne:lQ (cs.map V.int) []=false:=by cases cs with
  |nil=>show absurd l7 aE
  |cons x r=>rfl
 rw[ne];show bU ?_;let D1:=D.sm Y;let g1:=D1.h.gN n;rw[Z]at g1;let ex:(if ((k:Int)+(cs.9:Nat))>((nd.cs.9:Nat):Int)then(k:Int)+(cs.9:Nat)else((nd.cs.9:Nat):Int))=((max nd.cs.9 (k+cs.9):Nat):Int):=(by split<;>omega);show#[0,0,18,D1.h.gC,0,W.ca,0,g1,b,0,.inl (a9.of (Y _ _ hc)),0,_,0,?_];rw[dM,ex];show#[31,n,_,60,D1,G,hd,Nat.le_max_left _ _,av,λe H2 s2=>#[0,bU (kE .noSpace (by rw[em,acW e]) _ _ (Y.trans s2))],λe H2 I h2 w2=>#[0,bA (OL ?_)]];rw[acV (by rw[e];nofun)]at em;let w2:=(nZ.sm Y rfl).tr w2;let U:look (dI W.C n I) n=some I:=(by rw[iM n Z,acW rfl]);let g2:=h2.gN n;dsimp only at g2;rw[U]at g2;let aa:=Wh.cl h2 U;unfold zd at aa;rw[acW rfl]at aa;let ak:=w2.off _ _ hl lw;dsimp only;show fj λ_ L=>?_;show#[18,h2.gC,0,W.ca,0,g2,L _ _ ?_];clear L;show#[0,0,(k:Int),rfl,I,0,a9.of aa,λq3 f3=>?_];rw[jm];let t3:=au (X:=.lst (((fill nd.cs (max nd.cs.9 (k+cs.9))).take k).map V.int)) f3;let fl:=vp (xs:=nd.cs) (m:=max nd.cs.9 (k+cs.9)) l3 av;show#[0,q3,l,6,ag,t3 _ _ ak,120,λq4 f4=>?_];exists f4,(.lst (((fill nd.cs (max nd.cs.9 (k+cs.9))).take k).map V.int++cs.map V.int)),sN,e4,H4;let t4:=t3.trans sN;show#[0,0,((k+cs.9:Nat):Int),rfl,I,0,a9.of (t4 _ _ aa),λq5 f5=>?_];rw[iW];let t5:=t4.trans (au (X:=.lst (((fill nd.cs (max nd.cs.9 (k+cs.9))).drop (k+cs.9)).map V.int)) f5);show#[q4,q5,6,(au f5) _ _ e4,ag,by rw[ti,dM,dM,dM,IF,WC];omega,λq6 f6=>?_];rw[<-yl, <-yl,NW];generalize upd H4 q5 (.lst (((fill nd.cs (max nd.cs.9 (k+cs.9))).drop (k+cs.9)).map V.int))=H5 at *;let D5:=Wh.sm h2 t5;let D6:=Wh.sm D5 (au (X:=.lst ((BX nd.cs k cs).map V.int)) f6);let lC:(dI W.C n I).9<=48:=by
  let zl:=D.p.Uj (c:=cells N);unfold C8 at zl;rw[ti,dM,dM]at zl;rw[AK];omega
 let ab:=Wh.ce D6;dsimp only at ab;show#[18,D6.gC,0,W.ca,0,j3.k (k:=.inl n) ab (by rw[gz];omega),?_];rw[ju U];let ac:((dI W.C n I).map (·.1)).4:=(by rw[kr];show D.p.nC);let h7:=Wh.yI D5 ac U f6 (BX nd.cs k cs);let w7:nZ W H _ _:=(w2.tr (nZ.sm t5 rfl)).tr (Kr (n:=n) (o:=.lst ((BX nd.cs k cs).map V.int)) (o':=.dK (dk V.ref (dI (dI W.C n I) n q6))) f6);let F':=tV (d:=.write n k cs) (aC:=60) D.p.F #[by have:=D.p.F.qk _ _ G;change n.12<=1000000;omega,by change(k:Int).12<=1000000;omega,av] em;let#[p1,p2,p3]:=JA (cs:=BX nd.cs k cs) G;let ad:=w7.off _ _ hl lw;show#[0,l,0,.inl (a9.of ad),?_];show kQ _ _ em _ _ _ (h7.cg (λn _=>rfl) λj _=>?_) #[F',?_,D.p.nA,D.p.nL,5,5,by have:=D.p.ln;change W.A.9<=_;omega,λx hx=>by have:=D.p.kl x hx;omega] w7 rfl trivial
 .unfold zd;cases c:j=n
  .rw[acW c,c,dm du]
  .rw[acV c,acV c];unfold cells;rw[eV c]
 .rw[p1];show D.p.at_
 .change((dI (dI W.C n I) n q6).map (·.1)).4;rw[kr];show ac
 .rw[p1];show D.p.lL
 .rw[p2];intro j;change(look (dI (dI W.C n I) n q6) j).10=_;rw[iM j U,iM j Z];cases c:j=n
  .rw[acW c,c,eR G,hd];rfl
  .rw[acV c,acV c];show D.p.lC j
 .rw[p3];show D.p.cnt
def qe(x:Str):x.cps.toList.length=x.9:=Xe
variable{d r:Str}
theorem lR:Txt.startswith t d=true↔∃r,t=d++r:=by
 unfold Txt.startswith;rw[StrLaws.subAt_eq,Ym,X8];constructor
 .rintro⟨_,h⟩;show#[#[(t.cps.toList.drop d.9).8],eE ?_];rw[bZ, <-eq_of_beq h];show(Xf _ _).6
 .rintro⟨r,rfl⟩;show#[zA1 (by rw[len_app];omega),?_];rw[bZ, <-qe d,List.take_left];show beq_self_eq_true _
theorem Bj{α:Type}:∀(l p:List α),(Wu l.9).filterMap (λi=>(p++l)[p.9+i]?)=l
 | [],_=>rfl
 |x::l,p=>by
  rw[WG,YQ,Yp,abK,Nat.add_zero,Wb (G0 _),X2];have:=Bj l (p++[x]);rw[WI,ti,NC]at this;change x::_=x::l;congr 1;show Eq.trans ?_ this;congr 1;funext i;change(p++x::l)[p.9+(i+1)]?=_;rw[show p.9+(i+1)=p.9+1+i by omega];rfl
theorem zB:Txt.slice (d++r) (some (d.9:Int)) none=r:=by
 let e:Builtin.Str.strSliceIndices (some (d.9:Int)) none 1 (d++r).9=(Wu r.9).map λi=>d.9+i:=by
  unfold Builtin.Str.strSliceIndices;let h1:(if (d.9:Int)<0 then(d.9:Int)+((d++r).9:Nat)else(d.9:Int))=d.9:=acV av;let h2:max 0 (min (d.9:Int) ((d++r).9:Nat))=d.9:=(by rw[len_app];omega);simp only[sliceRange,show(1:Int)>0 from by decide,if_true,h1,h2];let F:(if (d.9:Int)<((d++r).9:Nat)then(((d++r).9:Nat)-(d.9:Int)+1-1)/1 else 0).5=r.9:=by
   rw[len_app,Int.ediv_one];split<;>omega
  rw[F];show Xs λk _=>?_;omega
 unfold Txt.slice;rw[e];split
 .rename_i h;have:r.9=(d++r).9:=‹h›;rw[len_app]at this;let z:d.cps.7=[]:=WN.mp (by rw[qe];omega);show eE (by rw[bZ,z];rfl)
 .show eE ?_;change List.filterMap _ _=_;rw[abK];show Eq.trans ?_ (Bj r.cps.7 d.cps.7);rw[qe,qe, <-bZ];congr 1;funext i;show(Yh ..).6
def gX(a b c:Str):a++(b++c)=a++b++c:=eE (by rw[bZ,bZ,bZ,bZ,WI])
variable{q:Str}
theorem HB{a b:Str}(h:q++SL++a=q++SL++b):a=b:=by
 have:(q++SL++a).cps.7=(q++SL++b).cps.7:=(by rw[h]);rw[bZ,bZ (q++SL) b]at this;show eE (List.append_cancel_left this)
def Dq:¬ q=q++SL++r:=λz=>by
 have:=congrArg Str.length z;rw[len_app,len_app,show SL.9=1 by decide +kernel]at this;omega
variable{o y:Str}
theorem G2(n:47∉y.cps.7)(h:o++SL++r=t++SL++y):(o=t/\r=y)\/∃I,t=o++SL++I/\r=I++SL++y:=by
 let e:(o++SL++r).cps.7=(t++SL++y).cps.7:=(by rw[h]);let sl:SL.cps.7=[47]:=aF;rw[bZ,bZ,bZ,bZ,sl,WI,WI]at e;rcases ZU.mp e with⟨x,h1,h2⟩|⟨x,h1,h2⟩
 .cases x with
  |nil =>
   rw[Wt]at h1;injection h2 with _ h2;show .inl #[eE h1.6,eE h2]
  |cons c x =>
   injection h2 with G F;let F:r.cps.7=x++([47]++y.cps.7):=F;show .inr #[#[x.8],eE ?_,eE ?_]
   .rw[h1,bZ,bZ,sl, <-G];simp
   .rw[F,bZ,bZ,sl];simp
 .cases x with
  |nil =>
   rw[Wt]at h1;injection h2 with _ h2;show .inl #[eE h1,eE h2.6]
  |cons c x =>
   injection h2 with G F;let F:y.cps.7=x++([47]++r.cps.7):=F;show absurd (by rw[F];show By _ Wn) n
def rP(ok:okN y)(h:o++SL++r=t++SL++y):(o=t/\r=y)\/∃F,t=o++SL++F/\r=F++SL++y:=G2 (MW ok) h
theorem C3:Txt.startswith (t++SL) (o++SL)=true↔t=o\/∃r,t=o++SL++r:=by
 rw[lR];constructor
 .rintro⟨r,e⟩;let G:o++SL++r=t++SL ++ "" := e.symm.trans (eE (by rw[bZ (t++SL) ""];show(Wt _).6));rcases G2 aF G with⟨z,_⟩|⟨F,z,_⟩
  .show .inl z.6
  .show .inr #[F,z]
 .rintro(rfl|⟨r,rfl⟩)
  .show#["",eE (by rw[bZ (t++SL) ""];show(Wt _).6)]
  .show#[r++SL,by rw[gX]]
noncomputable def rn(o q t:Str):Str:=if Txt.startswith t (o++SL)=true then q++Txt.slice t (some (o.9:Int)) none else t
def kg:rn o q (o++SL++r)=q++SL++r:=by
 unfold rn;rw[acW (lR.mpr #[r,rfl]), <-gX,zB,gX]
def jU(h:∀r,¬ t=o++SL++r):rn o q t=t:=acV λz=>by
 let#[r,e]:=lR.mp z;show h r e
def oh(o t:Str):(∃r,t=o++SL++r)\/∀r,¬ t=o++SL++r:=(Classical.em _).imp id λz r e=>z #[r,e]
variable{j:Int}
theorem At.pre{D:Int->Bool}(ok:JK S)(h:At D S t j):∀{r},t=q++SL++r->∃i,At D S q i:=by
 induction h with
 |root=>show λe=>(iH e).elim
 | @step p d nm k a _ c F =>
  intro r e;rcases rP (ok _ _ _ c) e.6 with⟨z,_⟩|⟨G,z,_⟩
  .show#[d,z▸a]
  .show F z
structure Mc(m:Nat)(W:WW)(N:NS)(S:SS)(N':NS)(S':SS)(T w:Str)(d k:Int)(P v:Str)(e:Int)(o q:Str):Prop where
 h:Wp m W N S
 aT:At (bC N) S T d
 dT:bC N d=true
 nT:fG (S d) w=some k
 aP:At (bC N) S P e
 dP:bC N e=true
 nP:fG (S e) v=none
 ok:okN v
 eo:o=T++SL++w
 eq:q=P++SL++v
 n1:¬ P=o
 n2:∀r,¬ P=o++SL++r
 eD:bC N'=bC N
 sE:∀f y,fG (S' f) y=if f=e/\y=v then some k else if f=d/\y=w then none else fG (S f) y
variable{T w P v:Str}{d e:Int}
def Mc.ao(Z:Mc m W N S N' S' T w d k P v e o q):At (bC N) S o k:=by rw[Z.eo];show .step Z.aT Z.dT Z.nT
theorem Mc.nq(Z:Mc m W N S N' S' T w d k P v e o q)(i:Int):¬ At (bC N) S q i:=λz=>by
 rw[Z.eq]at z;let#[f,I,_,G]:=z.inv Z.h.F.oG Z.ok;cases I.fn Z.h.F.oG Z.aP;rwa[Z.nP]at G
theorem Mc.V3(Z:Mc m W N S N' S' T w d k P v e o q)(r:Str)(i:Int):¬ At (bC N) S (q++SL++r) i:=λz=>by
 let#[i,y]:=z.pre Z.h.F.oG rfl;show Z.nq i y
theorem Mc.qo(Z:Mc m W N S N' S' T w d k P v e o q)(r:Str):¬ q=o++SL++r:=λz=>by
 rw[Z.eq]at z;rcases rP Z.ok z.6 with⟨y,_⟩|⟨F,y,_⟩
 .show Z.n1 y.6
 .show Z.n2 F y
theorem Mc.jj(Z:Mc m W N S N' S' T w d k P v e o q)(h:At (bC N) S t j):¬ t=o->(∀r,¬ t=o++SL++r)->At (bC N') S' t j:=by
 induction h with
 |root=>show λ_ _=>.root
 | @step p f y i a b c F =>
  intro h1 h2;show .step (F (λz=>h2 y (by rw[z])) λr z=>h2 (r++SL++y) (by rw[z,gX,gX])) (by rw[Z.eD];show b) ?_;rw[Z.sE,acV,acV]
  .show c
  .rintro⟨rfl,rfl⟩;show h1 (by rw[Z.eo,Z.h.one Z.dT a Z.aT])
  .rintro⟨rfl,rfl⟩;rwa[Z.nP]at c
theorem Mc.aq(Z:Mc m W N S N' S' T w d k P v e o q):At (bC N') S' q k:=by
 rw[Z.eq];show .step (Z.jj Z.aP Z.n1 Z.n2) (by rw[Z.eD];show Z.dP) (by rw[Z.sE,acW #[1]])
theorem Mc.sub(Z:Mc m W N S N' S' T w d k P v e o q)(h:At (bC N) S t j):∀{r},t=o++SL++r->At (bC N') S' (q++SL++r) j:=by
 induction h with
 |root=>show λz=>(iH z).elim
 | @step p f y i a b c I =>
  intro r z;let G:fG (S' f) y=some i->At (bC N') S' (q++SL++r) i:=λcn=>by
   rcases rP (Z.h.F.oG _ _ _ c) z.6 with⟨z1,z2⟩|⟨L,z1,z2⟩
   .rw[z2];rw[<-z1]at a;cases a.fn Z.h.F.oG Z.ao;show .step Z.aq (by rw[Z.eD];show b) cn
   .rw[z2,gX,gX];show .step (I z1) (by rw[Z.eD];show b) cn
  show G ?_;rw[Z.sE,acV,acV]
  .show c
  .rintro⟨rfl,rfl⟩;rw[Z.h.one Z.dT a Z.aT, <-Z.eo]at z;show Dq z
  .rintro⟨rfl,rfl⟩;rwa[Z.nP]at c
theorem Mc.at_(Z:Mc m W N S N' S' T w d k P v e o q):At (bC N') S' t j↔∃u,At (bC N) S u j/\t=if u=o then q else rn o q u:=by
 constructor
 .intro h
  induction h with
  |root=>show#["",.root,by rw[acV (λz=>iH (z.trans Z.eo)),jU λr z=>iH z]]
  | @step p f y i _ b c U =>
   let#[u,a,rfl]:=U;rw[Z.eD]at b;rw[Z.sE]at c;cases c1:f=e/\y=v
   .rw[acW c1]at c;cases c;let L:=Z.h.one Z.dP (c1.1▸a) Z.aP;show#[o,Z.ao,by rw[acW rfl,L,acV Z.n1,jU Z.n2,c1.2,Z.eq]]
   rw[acV c1]at c;cases c2:f=d/\y=w
   .rw[acW c2]at c;cases c
   rw[acV c2]at c;let I:=Z.h.F.oG _ _ _ c;let no:¬ u++SL++y=o:=λz=>by
    rw[Z.eo]at z;let#[z1,z2]:=kI I (Z.h.F.oG _ _ _ Z.nT) z;rw[z1]at a;show c2 #[a.fn Z.h.F.oG Z.aT,z2]
   show#[_,.step a b c,?_];rw[acV no];cases G:u=o
   .rw[acW G,G,kg]
   rw[acV G];rcases oh o u with⟨r,rfl⟩|h
   .rw[kg,show o++SL++r++SL++y=o++SL++(r++SL++y)by rw[gX,gX],kg,gX,gX]
   .rw[jU h,jU λr z=>?_];rcases rP I z.6 with⟨z1,_⟩|⟨Y,z1,_⟩
    .show G z1.6
    .show h Y z1
 .rintro⟨u,a,rfl⟩;cases c:u=o
  .rw[acW c];rw[c]at a;cases a.fn Z.h.F.oG Z.ao;show Z.aq
  .rw[acV c];rcases oh o u with⟨r,rfl⟩|h
   .rw[kg];show Z.sub a rfl
   .rw[jU h];show Z.jj a c h
noncomputable def Hi(o q:Str)(x:Str×Int):Str×Int:=(rn o q x.1,x.2)
noncomputable def DP(o q:Str)(A:List (Str×Int))(i:Nat):List (Str×Int):=(A.take i).map (Hi o q)++A.drop i
theorem Nc{α:Type}{g:α->α}{l:List α}(nd:l.4)(h1:∀a∈l,∀b∈l,g a=g b->a=b)(h2:∀a∈l,∀b∈l,g a=b->a=b)(i:Nat):((l.take i).map g++l.drop i).4:=by
 let L:=nd;rw[<-Xf i l]at L;let#[Y,Z,U]:=Wl.mp L;show Wl.mpr #[?_,Z,λa G b F e=>?_]
 .show Xa.mpr (Y.imp_of_mem λ{a b} G F z e=>z (h1 a (WY G) b (WY F) e))
 .let#[x,I,rfl]:=z4.mp G;show U x I b F (h2 x (WY I) b (XH F) e)
theorem Mc.key(Z:Mc m W N S N' S' T w d k P v e o q){i:Int}(h:(t,i)∈cK W.A o++[(q,k)]):(At (bC N) S t i/\¬ t=o)\/(t=q/\i=k):=by
 rcases Wf.mp h with h|h
 .rw[mV,Z.h.at_]at h;show .inl h
 .cases sx.mp h;show .inr #[1]
theorem Mc.nd(Z:Mc m W N S N' S' T w d k P v e o q)(i:Nat):((DP o q (cK W.A o++[(q,k)]) i).map (·.1)).4:=by
 let Y:((cK W.A o++[(q,k)]).map (·.1)).4:=by
  rw[yl];show Wl.mpr #[yj Z.h.nA,Wq.mpr #[WX,Xj],λa I b F e=>?_];rw[X4,sx]at F;let#[x,U,ex]:=z4.mp I;have:=(Z.h.at_ x.1 x.2).mp (WA.mp U).1;rw[show x.1=q from ex.trans (e.trans F)]at this;show Z.nq _ this
 let g2:∀a∈(cK W.A o++[(q,k)]).map (·.1),∀b∈(cK W.A o++[(q,k)]).map (·.1),rn o q a=b->a=b:=λa _ b F z=>by
  rcases oh o a with⟨r,rfl⟩|h
  .rw[kg]at z;let#[y,hy,L]:=z4.mp F;rcases Z.key (t:=y.1) (i:=y.2) hy with⟨G,_⟩|⟨G,_⟩
   .rw[show y.1=q++SL++r from L.trans z.6]at G;show(Z.V3 _ _ G).elim
   .show(Dq (G.symm.trans (L.trans z.6))).elim
  .rw[jU h]at z;show z
 have:=Nc Y (g:=rn o q) (λa I b F z=>by
  rcases oh o a with⟨r,rfl⟩|h
  .rcases oh o b with⟨r',rfl⟩|h'
   .rw[kg,kg]at z;rw[HB z]
   .rw[jU h']at z;show g2 _ I _ F z
  .rw[jU h]at z;show(g2 _ F _ I z.6).6) g2 i
 unfold DP;rw[yl,WU,ab0];rw[<-aa0,WU]at this;show this
variable{A:List (Str×Int)}
theorem Mc.wp(Z:Mc m W N S N' S' T w d k P v e o q)(F':Fz N' S')(eF:j5 N'=j5 N)(eL:lk N'=lk N)(lq:q.9<=30)(pm:A.Perm (DP o q (cK W.A o++[(q,k)]) (cK W.A o++[(q,k)]).9)):Wp (m+1) { W with A:=A } N' S':=by
 let eB:DP o q (cK W.A o++[(q,k)]) (cK W.A o++[(q,k)]).9=(cK W.A o++[(q,k)]).map (Hi o q):=by
  unfold DP;rw[WV,List.drop_length,Wt]
 let nd:=Z.nd (cK W.A o++[(q,k)]).9;rw[eB]at pm nd;let p0:(cK W.A o++[(q,k)]).Perm ((q,k)::cK W.A o):=XQ;let pA:=kB Z.h.nA ((Z.h.at_ _ _).mpr Z.ao);show#[F',λt i=>?_,(pm.map _).nodup_iff.mpr nd,Z.h.nL,Z.h.nC,by rw[Z.eD];show Z.h.lL,by rw[eF];show Z.h.lC,103,?_,λx hx=>?_]
 .rw[pm.mem_iff,Z.at_];constructor
  .intro h;let#[y,U,ey]:=z4.mp h;cases ey;rcases Z.key (t:=y.1) (i:=y.2) U with⟨G,L⟩|⟨G,L⟩
   .show#[y.1,G,by rw[acV L]]
   .show#[o,L▸Z.ao,by rw[acW rfl,G,jU Z.qo]]
  .rintro⟨u,a,rfl⟩;cases c:u=o
   .rw[c]at a;cases a.fn Z.h.F.oG Z.ao;show z4.mpr #[(q,k),57,by unfold Hi;rw[jU Z.qo,acW c]]
   .show z4.mpr #[(u,i),Wg _ (mV.mpr #[(Z.h.at_ _ _).mpr a,c]),by unfold Hi;rw[acV c]]
 .rw[eL, <-Z.h.cnt n];let a1:=(pm.map (·.2)).count_eq n;rw[WU,show((λx:Str×Int=>x.2)∘Hi o q)=λx=>x.2 from rfl]at a1;let a2:=(p0.map (·.2)).count_eq n;let a3:=(pA.map (·.2)).count_eq n;rw[Wy]at a2 a3;change((A.map (·.2)).count n:Int)=_;rw[a1,a2,a3]
 .have:=Z.h.ln;let l1:=pm.length_eq;let l2:=p0.length_eq;let l3:=pA.length_eq;rw[dM]at l1;rw[WG]at l2 l3;change A.9<=_;omega
 .let#[y,U,rfl]:=z4.mp (pm.mem_iff.mp hx);change(rn o q y.1).9<=_;let I:y.1.9<=30*m\/y.1=q:=by
   rcases Z.key (t:=y.1) (i:=y.2) U with⟨G,_⟩|⟨G,_⟩
   .show .inl (Z.h.kl y ((Z.h.at_ _ _).mpr G))
   .show .inr G
  rcases I with I|I
  .rcases oh o y.1 with⟨r,Y⟩|h
   .rw[Y,kg];rw[Y]at I;rw[len_app,len_app]at I ⊢;omega
   .rw[jU h];omega
  .rw[I,jU Z.qo];omega
theorem EJ(F:Fz N S)(a:At (bC N) S o k)(cs:qAb):(∀w∈cs,okN w)->∀{x},cI N S cs=.ok x->(b9 cs=o\/∃r,b9 cs=o++SL++r)->k∈x:=by
 show kC (P:=λcs=>(∀w∈cs,okN w)->∀{x},cI N S cs=.ok x->(b9 cs=o\/∃r,b9 cs=o++SL++r)->k∈x) ?_ (λcs y G=>?_) cs
 .intro _ x h z;cases h;rcases z with z|⟨r,z⟩
  .rw[<-z]at a;rw[a.fn F.oG .root];show sx.mpr rfl
  .show(iH z).elim
 .intro ok x h z;let#[u,j,h1,_,_,rfl]:=u6 h;let I:=jM _ h;rw[lst_snoc]at I;let G:=G (λw L=>ok w (Wg _ L)) h1;rcases z with z|⟨r,z⟩
  .rw[z]at I;rw[I.fn F.oG a];show By _ (sx.mpr rfl)
  .rw[cj]at z;rcases rP (ok y (By _ (sx.mpr rfl))) z.6 with⟨z,_⟩|⟨U,z,_⟩
   .show Wg _ (G (.inl z.6))
   .show Wg _ (G (.inr #[U,z]))
theorem zU(h:Wp m W N S)(a:At (bC N) S o k)(cs:qAb):∀{x},cI N S cs=.ok x->bC N (lst x)=true->k∈x->bC N k=true/\(b9 cs=o\/∃r,b9 cs=o++SL++r):=by
 show kC (P:=λcs=>∀{x},cI N S cs=.ok x->bC N (lst x)=true->k∈x->bC N k=true/\(b9 cs=o\/∃r,b9 cs=o++SL++r)) ?_ (λcs y U=>?_) cs
 .intro x e _ z;cases e;rw[sx.mp z]at a ⊢;show#[h.F.root,.inl (h.one h.F.root .root a)]
 .intro x e dx z;let I:=jM _ e;let#[u,j,h1,h2,_,rfl]:=u6 e;rw[lst_snoc]at I dx;rcases Wf.mp z with z|z
  .let#[L,G]:=U h1 h2 z;show#[L,.inr ?_];rcases G with G|⟨r,G⟩
   .show#[y,by rw[cj,G]]
   .show#[r++SL++y,by rw[cj,G,gX,gX]]
  .rw[<-sx.mp z]at I dx;show#[dx,.inl (h.one dx I a)]
variable{i:Nat}{y:Str×Int}
theorem Ls(h:A[i]?=some y):DP o q A i=(A.take i).map (Hi o q)++y::A.drop (i+1):=by
 unfold DP;rw[ZR (u4.mp h).1,(u4.mp h).2]
def PK(h:A[i]?=some y):DP o q A (i+1)=(A.take i).map (Hi o q)++Hi o q y::A.drop (i+1):=by
 unfold DP;rw[WE,h,yl,WI];rfl
variable{A:TS}
theorem Uh{C:Hp->Prop}{B R:TS}(k:∀F:TS,(∀H',C H'->F D σ H')->jA A (jA B F) D σ H)(r:∀H',C H'->R D σ H'):jA A (jA B R) D σ H:=k R r
theorem Wh.live(h:Wh H W S c)(m:a∈wl W):¬ H a=none:=λz=>by
 rw[<-rN (S:=S) (c:=c)]at m;let#[x,F,e]:=z4.mp m;have:=h.at_ x F;rwa[e,z]at this
structure RJ(N:NS)(S:SS)(N':NS)(S':SS)(d e:Int)(w v:Str)(k:Int):Prop where
 eS:S'=ja (ja S d (dH (S d) w)) e (cG (ja S d (dH (S d) w) e) v k)
 eD:bC N'=bC N
 eF:j5 N'=j5 N
 eL:lk N'=lk N
 eC:∀n,j5 N n=true->cells N n=cells N' n
theorem put2{nd:Node}{cs:qAa}(F:N d=some nd)(hd:nd.dir=true)(n:Int)(h:j5 N n=true):cells N n=cells (cy N d (some { nd with cs:=cs })) n:=by
 unfold cells;rw[eV λz=>by rwa[z,eR F,hd]at h]
theorem RJ.sE(h:RJ N S N' S' d e w v k)(F:fG (S e) v=none)(f:Int)(y:Str):fG (S' f) y=if f=e/\y=v then some k else if f=d/\y=w then none else fG (S f) y:=by
 let G:v∉dE (ja S d (dH (S d) w) e):=(g6 _ _).mp (by rw[oN,F];split<;>rfl);rw[h.eS];cases c:f=e
 .rw[c,eU,uO k y G,oN];cases c2:y=v
  .rw[acW c2,acW #[rfl,c2]]
  .rw[acV c2,acV (λz:e=e/\y=v=>c2 z.2)]
 .rw[c9 c,oN,acV (λz:f=e/\y=v=>c z.1)]
abbrev Lk:Wo:=top 105
theorem pj:aA ["_law_world","_law_path_here","_law_new","_law_word","_law_text","_law_place","_law_apart","_law_old","_law_later"] ["_law_world","_law_path_here","_law_new"] (ax Lk):=L2.bg
def PF(H:Hp)(W:WW)(d:Dd)(vs:qAf):Prop:=∃p q,d=.move p q/\vs=[.ref W.a,.str p,.str q]
variable{P:BY}
theorem He{w:Oi}(F:b4 K "_law_moved" "_law_moved" Lk f fd)(T:gu K mg X)(a6:↥Df 1 "_law_names" sX)(bF:↥Df 2 "_law_found" (qS ni))(bo:↥Df 2 "_law_spot" (qS pL))(bL:↥Df 1 "_law_full" E5)(bx:↥Df 3 "_law_lacks" xM)(bd:↥Df 1 "_law_freed" w6)(bN:↥Df 1 "_law_put" xg):↥aU 4 f fd ["_law_world","_law_path_here","_law_new"] (kZ PF):=by
 show F.ok pj (λvs H Q E h=>?_) (λcdv A outer s H vs Q E hr h=>?_)
 .let#[m,W,N,S,d,#[p,q,rfl,rfl],_]:=h;rfl
 .let#[m,W,N,S,d,#[p,q,rfl,rfl],D,ok,#[hp,hq],kE,kQ]:=h;let hs:=DD;let Dj:=D.Dj;let kE:∀e,ki 60 N S p q=.error e->∀H' t,aO H H'->Q (.str t) H':=kE;intros;show#[_,%[pj,hr,bb,bw,b1,c,a6,e,aq,bK,b1,c,a6,h,aq,an,f,g,1,E,an,i,bj,c,bF,x,e,bA,A,3,A,4,fe,f,aF,3,E,b,3,i,bj,c,bo,x,h,bA,A,3,A,5,fe,f,aF,3,E,b,3,bb,bC,X,cl,Zv,Zw,oi,bg,5,az,a,bg,4,az,bE,bn,ce,ax,bh,4,V,an,O,6,bG,gy,5,dK,oO,4,aQ,cl,aa9,aba,qQ,4,a,E,bb,bC,X,6,bE,X,c,bL,o,5,an,bb,bC,X,6,bE,X,c,bx,o,5,an,t,c,bd,o,4,t,c,bN,x,d,5,ba,a,cj,V,4,bT,aL,cd,c1,dQ,a,dR,V,av,7,k,aX,X,cl,Zv,Zw,oi,7,a,bg,4,az,O,8,bg,2,dl,7,D,S,jS,cO,ah,k,bp,c3,8,cj,V,7,bT,cu|9],?_]
  let G:ki 60 N S p q=ki 60 N S p q:=rfl
  conv at G=>rhs;unfold ki
  show#[80,λe1 H1 s1=>#[rfl,0,bU (bU ?_)],λns e1 H1 q1 s1 f1 h1=>#[rfl,0,bA #[0,q,rfl,hq,λe2 H2 s2=>#[rfl,45],λms e2 H2 q2 s2 f2 h2=>#[rfl,46]]]]
  .rw[iR hp]at e1;cases L:gf p with
   |ok l=>rwa[L]at e1
   |error e=>rw[L]at G;show kE e G _ _ s1
  .rw[iR hp]at e1;rw[iR hq]at e2;cases L:gf p with
   |error e=>rwa[L]at e1
   |ok l =>
   cases ab:gf q with
   |ok l=>rwa[ab]at e2
   |error e=>rw[L,ab]at G;show kE e G _ _ (s1.trans s2)
  rw[iR hp]at e1;rw[iR hq]at e2;cases L:gf p with
  |error e=>rwa[L]at e1
  |ok l =>
  cases ab:gf q with
  |error e=>rwa[ab]at e2
  |ok l2 =>
  rw[L]at G e1;rw[ab]at G e2;cases e1;cases e2;dsimp only at G;let s3:=s1.trans s2;show#[0,9];show cQ (λg=>?_) (λg=>?_)
  .let ep:p = "/" := V.str.inj (zA0 g);rwa[ep,qO]at L;show kE .notAllowed (by rw[G,acW rfl]) _ _ s3
  let nn:¬ ns=[]:=λz=>by
   rcases hp.n with⟨e,_,y⟩|⟨y,_⟩|⟨bs,w,_,_,_,y⟩
   .rw[L]at y;cases y
   .show g (by rw[y];rfl)
   .rw[L,z]at y;have:=Except.ok.inj y;simp at this
  rw[acV nn]at G;show OL ?_;dsimp only;show kJ (g:=ni) rfl rfl rfl (Wz rfl) aE (D.sm s3) hp (λe he H4 s4=>kE e ?_ _ _ (s3.trans s4)) λt ht H4 s4=>?_
  .rcases uU he with z|⟨ns,z,z2⟩
   .rw[L]at z;cases z
   .rw[L]at z;cases z;rw[G,z2]
  let#[b2,v,Y0,rfl]:=vI hp ht;let a4:=Y0.e1;rwa[L]at a4;let#[bs,w,u,k,rfl,Y]:=Y0.nm nn;let ev:=Y.ev;subst ev;rw[Y.ew]at G;dsimp only at G;let s4:=s3.trans s4;show kJ (g:=pL) rfl rfl rfl (Wz rfl) aE (D.sm s4) hq (λe he H5 s5=>kE e ?_ _ _ (s4.trans s5)) λt ht H5 s5=>?_
  .rcases y7 he with z|⟨ns,z,z2⟩
   .rw[ab]at z;cases z
   .rw[ab]at z;cases z;rw[G,z2]
  let#[cs,I,x,Z,rfl]:=yE D.p.F hq ht;obtain rfl:=Z.ep;let aK:=Z.e1;rwa[ab]at aK;rw[Z.e2]at G;dsimp only at G;let s5:=s4.trans s5;let D5:=D.sm s5;rw[lst_snoc,mz,fw,fw]at G;let eM:j0 S (u++[k]) x w=if lst x=lst u then dH (S (lst u)) w else S (lst x):=by unfold j0;rw[mz]
  rw[eM]at G;let lo:=iu Y.pc.1;let lq:=iu Z.pc.1;let lP:=iu λy hy=>Z.pc.1 y (Wg _ hy);let l2:=Y.pc.2;let l3:=Z.pc.2;rw[ti,NC]at lo lq;let aP:∀y∈cs,okN y:=λy hy=>qp y (Z.pc.1 y (Wg _ hy));let hk:k∈x↔Txt.startswith (b9 cs++SL) (b9 (bs++[w])++SL)=true:=by
   rw[C3];show#[λz=>(zU D.p Y.ak cs Z.ew Z.dir z).2,EJ D.p.F Y.ak cs aP Z.ew]
  show#[105,rfl,105,19];cases c1:k∈x
  .let c2:Txt.startswith (b9 cs++("/" : Str)) (b9 (bs++[w])++("/" : Str))=true:=hk.mp c1;rw[c2];show bU (Fu D5.h (D.p.v Y.ak) rfl rfl #[0,?_]);rw[D.p.lL,(zU D.p Y.ak cs Z.ew Z.dir c1).1];show bU (kE .inside (by rw[G,acW c1]) _ _ s5)
  rw[acV c1]at G;let c2:Txt.startswith (b9 cs++("/" : Str)) (b9 (bs++[w])++("/" : Str))=false:=W0.mpr λz=>c1 (hk.mpr z);rw[c2];show bA (bA (OL ?_));dsimp only;let c3:¬ (b9 cs=b9 (bs++[w])\/∃r,b9 cs=b9 (bs++[w])++SL++r):=λz=>c1 (EJ D.p.F Y.ak cs aP Z.ew z);let#[b,hb]:=D.p.dir Y.dir;let#[be,bm]:=D.p.dir Z.dir;let#[nd,ac,aB]:=bz Y.dir;let#[ne,am,bi]:=bz Z.dir;let bn:=D.p.F.len (lst u);show fj λ_ jt=>?_;show#[0,0,58,0,0,av,rfl,jt _ _ ?_];clear jt;rw[(vH Y.pc).2];show Uh (C:=λH'=>aO H H'/\∃N' S',ki 60 N S p (b9 (cs++[I]))=.ok (N',S')/\RJ N S N' S' (lst u) (lst x) w I k) (λR' jt=>?_) ?_
  .cases U:lst x=lst u
   .let e4:b9 cs=b9 bs:=D.p.one Y.dir (U▸Z.at_) Y.at_;rw[zA1 (show V.str (b9 cs)=V.str (b9 bs)by rw[e4])]at jt ⊢;rw[acW U,acW U,acW U]at G;show#[0,0,bA (bA ?_)];show#[0,0,bA (bA (jt _ #[s5,?_]))];let wm:w∈dE (S (lst u)):=WJ λz=>(by have:=Y.nm;rwa[(g6 _ _).mpr z]at this);let g1:¬ 40<=(dE (dH (S (lst u)) w)).9:=by
     let a1:=zf (S (lst u));let a2:=List.length_filter_lt_length_iff_exists (p:=λx => !decide (x=w)) (l:=dE (S (lst u)));have:=a2.mpr #[w,wm,by simp];rw[pV];omega
    let#[j,ix]:=Af Y.nm (D.p.F.nd _);let iv:rJ .bh ((dH (S (lst u)) w).map sV)=true:=by
     rw[<-ix.st];show List.any_eq_true.mpr #[.bh,L1 (Xh ix.lt),rfl]
    let g2:¬ c8 60 N (wW N (lst x)) (8*(cG (dH (S (lst u)) w) I k).9)=true:=λz=>by
     unfold c8 at z;let z:=zA0 z;rw[(vc I k iv).2,gm,U,ke ac,D.p.F.enc _ _ ac aB,cS (D.p.F.ok _)]at z;have:=D.sp;omega
    rw[acV g1,acV g2,U,cv ac]at G;let#[p1,p2,p3]:=JA (cs:=bq (cG (dH (S (lst u)) w) I k)) ac;show#[2,G,?_,p1,p2,p3,put2 ac aB];funext n;rw[U,eU];unfold ja;split<;>rfl
   .let e4:¬ b9 cs=b9 bs:=λz=>by
     let a:=Z.at_;rw[z]at a;show U (a.fn D.p.F.oG Y.at_)
    rw[zA2 (show ¬ V.str (b9 cs)=V.str (b9 bs)from λz=>e4 (V.str.inj z))]at jt ⊢;rw[acV U,acV U,acV U]at G;show#[0,45];show#[0,0,31,_,0,D5,Z.at_,Z.dir,0,?_];show cQ (λg=>kE .tooMany (by rw[G,acW (zA0 g)]) _ _ s5) (λg=>?_);rw[acV (λz=>g (zA1 z))]at G;show#[0,45];show#[0,0,31,2,I,k,rfl,D5,Z.at_,Z.dir,λH6 s6=>#[0,?_]];cases c5:c8 60 N (wW N (lst x)) (8*(cG (S (lst x)) I k).9)with
    |true=>show bU (kE .noSpace (by rw[G,acW c5]) _ _ (s5.trans s6))
    |false =>
    let ar:cy N (lst x) (some { ne with cs:=bq (cG (S (lst x)) I k) }) (lst u)=some nd:=(by rw[eV (zA3 U)];show ac);rw[acV (by rw[c5];nofun),cv am,cv ar]at G;let#[p1,p2,p3]:=JA (cs:=bq (cG (S (lst x)) I k)) am;let#[q1,q2,q3]:=JA (cs:=bq (dH (S (lst u)) w)) ar;show bA (jt _ #[s5.trans s6,2,G,?_,q1.trans p1,q2.trans p2,q3.trans p3,λn h=>(put2 am bi n h).trans (put2 ar aB n (by rw[p2];show h))]);funext n;rw[c9 U];unfold ja;cases n1:n=lst u
    .rw[acW n1,acV (λz=>U (z.symm.trans n1)),acW n1]
    .rw[acV n1];cases n2:n=lst x
     .rw[acW n2,acW n2]
     .rw[acV n2,acV n2,acV n1]
  clear G kE;rintro H6 ⟨s6,N',S',G,M⟩;let D6:=D.sm s6;let bW:=Z.no D.p;let X0:Mc m W N S N' S' (b9 bs) w (lst u) k (b9 cs) I (lst x) (b9 (bs++[w])) (b9 (cs++[I])):=#[D.p,Y.at_,Y.dir,Y.nm,Z.at_,Z.dir,Z.nw,Z.ok,cj _ _,cj _ _,λz=>c3 (.inl z),λr z=>c3 (.inr #[r,z]),M.eD,M.sE Z.nw];let F':=tV (d:=.move p (b9 (cs++[I]))) D.p.F ok G;show#[54,#[D6.h,67],Y.nm,D.p.F.nd _,λH7 h7 o7=>?_];let e7:=h7.at
  show#[0,0,0,18,h7.gA,W.aa,rfl,.inl #[_,.inl e7],122,e7,rfl,D.p.v Y.ak,?_];rw[ua];let h8:=h7.BK (cK W.A (b9 (bs++[w])));let w8:nZ W H W (upd H7 W.aa (.dK (kA (cK W.A (b9 (bs++[w])))))):=(nZ.sm s6 rfl).tr #[ic o7 (.tail _ (.head _)),113];generalize upd H7 W.aa (.dK (kA (cK W.A (b9 (bs++[w])))))=H8 at *;let dl:(cK W.A (b9 (bs++[w]))).9<=42:=by
   have:=D.p.ln;have:=WL (λx:Str×Int=>decide (¬ x.1=b9 (bs++[w]))) W.A;unfold cK;omega
  show#[{ W with A:=cK W.A (b9 (bs++[w])) },_,cells N,cs,I,lst x,k,be,rfl,#[h8,D.p.nL,bm,Jz (yj D.p.nA) (mV.mpr #[(D.p.at_ _ _).mpr Z.at_,λz=>c3 (.inl z)]),Z.pc],?_,WK dl aE,λj z=>bW j (mV.mp z).1,λH9 h9 o9=>?_]
  .cases c:lst x=lst u
   .rw[c,eU,gm];show bn
   .rw[c9 c];show D.p.F.len _
  rw[<-M.eS]at h9;let w9:=w8.tr #[o9,113];dsimp only at h9;let aj:=Wh.at h9;dsimp only at aj;show#[18,h9.gA,W.aa,0,aj,λv1 f1=>?_];let t1:=au (X:=vw v1 W.aa) f1;let bY:(cK W.A (b9 (bs++[w]))++[(b9 (cs++[I]),k)]).9<=43:=(by rw[ti,NC];omega);show#[v1,W.aa,0,ag,.inl (t1 _ _ aj),by rw[qw];omega,λl1 g1=>?_];let eK:(kA (cK W.A (b9 (bs++[w]))++[(b9 (cs++[I]),k)])).map (λkv=>kV kv.1)=((cK W.A (b9 (bs++[w]))++[(b9 (cs++[I]),k)]).map (·.1)).map V.str:=(by unfold kA;rw[WU,WU];rfl);rw[eK];let nw:l1∉wl W:=λz=>(Wh.live (h9.sm t1) z) g1;exists g1,(.lst (((cK W.A (b9 (bs++[w]))++[(b9 (cs++[I]),k)]).map (·.1)).map V.str)),sN,a0,a3;let t2:=t1.trans sN;let bv:=Wh.sm h9 t2;let bR:=w9.tr (nZ.sm t2 rfl);let wp:=λ{A} pm=>X0.wp F' M.eF M.eL av (A:=A) pm;let nd:=X0.nd;let key:=λ{t i} h=>X0.key (t:=t) (i:=i) h;let kl:=D.p.kl;generalize ca:cK W.A (b9 (bs++[w]))++[(b9 (cs++[I]),k)]=A2 at *;generalize eo:b9 (bs++[w])=o at *;generalize eq:b9 (cs++[I])=q at *;show#[l1,rfl,#[_,a9.of a0],?_];generalize b0:(V.bl !decide (V.str (b9 cs)=V.str (b9 bs)))=ap;show gp (K:=K) (a:=l1) (xs:=(A2.map (·.1)).map V.str) (λi σ J=>∃A v7 v8,σ=#v[.ref W.a,.str p,.str q,.str "",.str o,.str (b9 cs),some ap,v7,v8]/\A.Perm (DP o q A2 i)/\Wh J { W with A:=A } S' (cells N)/\Off (· ∈ wl W) a3 J) #[A2,none,none,rfl,aa5 _,bv,96] (λi σ J _ z=>by let#[_,_,_,_,_,_,o]:=z;show a9.of (o _ _ a0 nw)) ?_ ?_
  .rintro i x σ J hx ⟨A,v7,v8,rfl,pm,hJ,oJ⟩;rw[WU,LW]at hx;let#[#[t,j],hy,rfl]:=HC.mp hx;let lt:t.9<=30*m+30:=by
    rcases key (L1 hy)with⟨y1,_⟩|⟨y1,_⟩
    .have:=kl (t,j) ((D.p.at_ _ _).mpr y1);show WK this (aad _ _)
    .rw[y1];omega
   let a5:(A.map (·.1)).4:=(pm.map _).nodup_iff.mpr (nd i);show#[0,rfl,105,19];let eb:=Ls (o:=o) (q:=q) hy;let es:=PK (o:=o) (q:=q) hy;show cQ (λg=>?_) (λg=>?_)
   .let g:Txt.startswith t (o++SL)=true:=g;let er:q++Txt.slice t (some (o.9:Int)) none=rn o q t:=(acW g).6;show fj λ_ jt=>?_;let b1:=Txt.slice_le t (some (o.9:Int)) none;show#[0,0,0,o,rfl,av,0,t,rfl,av,6,av,jt _ _ ?_];clear jt;rw[er];let mt:(t,j)∈A:=pm.mem_iff.mpr (by rw[eb];show By _ Wn);let as:=Wh.at hJ;dsimp only at as;show#[18,hJ.gA,W.aa,rfl,.inl #[_,.inl as],0,_,.inr t,.int j,as,rfl,Jz a5 mt,?_];rw[ua];let p2:(cK A t).Perm ((A2.take i).map (Hi o q)++A2.drop (i+1)):=by
     let a1:=(kB a5 mt).symm.trans pm;rw[eb]at a1;show(a1.trans Yn).cons_inv
    let p3:(cK A t++[(rn o q t,j)]).Perm (DP o q A2 (i+1)):=by
     rw[es];show(XQ.trans (p2.cons _)).trans Yn.6
    let n3:=(p3.map (·.1)).nodup_iff.mpr (nd (i+1));rw[yl]at n3;let no:∀j',(rn o q t,j')∉cK A t:=λj' z=>(Wl.mp n3).2.2 _ (z4.mpr #[_,z,rfl]) _ (sx.mpr rfl) rfl;let ad:=Wh.BK hJ (cK A t);let a7:Off (· ∈ wl W) a3 (upd J W.aa (.dK (kA (cK A t)))):=ic oJ (.tail _ (.head _));dsimp only at ad;generalize upd J W.aa (.dK (kA (cK A t)))=J1 at *;let aT:=Wh.at ad;dsimp only at aT;show#[18,ad.gA,0,W.aa,0,j3.k (k:=.inr (rn o q t)) aT ?_,?_]
    .have:=(p2.length_eq);rw[ti,dM,IF,WC]at this;rw[qw];omega
    rw[Dr no];show#[2,0,p3,Wh.BK ad _,ic a7 (.tail _ (.head _))]
   .let g:¬ Txt.startswith t (o++SL)=true:=g;let er:Hi o q (t,j)=(t,j):=acT (acV g) rfl;show#[A,_,0,by rw[es,er, <-eb];show pm,hJ,oJ]
  .rintro σ J ⟨A,v7,v8,rfl,pm,hJ,oJ⟩;rw[dM,dM]at pm;show kQ _ _ G J _ .bh (hJ.cg (λn _=>rfl) λn hn=>M.eC n (by rw[<-D.p.lC];show hn)) (wp pm) (bR.tr #[oJ,113]) rfl trivial
variable{x:Str}{t:zB0}
theorem Rv(h1:σ[1]?=some (some (.ref t)))(F:H t|||(.str w::xs))(ne:¬ w=x)(k:rest D σ H):jA (xj (pb (wt K1 (wt (lg K) (fX 1) (tC (.int 0))) (tC (.str x)))) A nG) rest D σ H:=by
 show#[_,h1,41,.str w,1,cX.of F,84,9];rw[zA2 (show ¬ V.str w=V.str x from λz=>ne (V.str.inj z))];show bA k
theorem Vi(h1:σ[1]?=some (some (.ref t)))(F:H t|||(.str x::xs))(k:A { D with nx:=rest D } σ H):jA (xj (pb (wt K1 (wt (lg K) (fX 1) (tC (.int 0))) (tC (.str x)))) A nG) rest D σ H:=by
 show#[_,h1,41,.str x,1,cX.of F,84,9];rw[zA1 rfl];show bU k
theorem Q6{F:Str}(h1:σ[1]?=some (some (.ref t)))(G:H t|||(.str w::xs))(ne:¬ w=x)(I:¬ w=F)(k:rest D σ H):jA (xj (VC (pb (wt K1 (wt (lg K) (fX 1) (tC (.int 0))) (tC (.str x)))) (pb (wt K1 (wt (lg K) (fX 1) (tC (.int 0))) (tC (.str F))))) A nG) rest D σ H:=by
 show#[_,h1,41,.str w,66];rw[zA2 (show ¬ V.str w=V.str x from λz=>ne (V.str.inj z))];show bA #[_,h1,41,.str w,66];rw[zA2 (show ¬ V.str w=V.str F from λz=>I (V.str.inj z))];show bA k
variable{w:Oi}
theorem Mg{d:Dd}(h:su H t d)(F:∀n a cs,¬ d=.write n a cs):∃w p xs,H t|||(.str w :: .str p::xs):=by
 cases d with
 |write n a cs=>show absurd rfl (F n a cs)
 |make kd p=>show#[2,_,h]
 |unlink p=>show#[2,_,h]
 |rmdir p=>show#[2,_,h]
 |link p q=>show#[2,_,h]
 |move p q=>show#[2,_,h]
def QV(H:Hp)(W:WW)(d:Dd)(vs:qAf):Prop:=∃t,vs=[.ref W.a,.ref t]/\su H t d/\∀n a cs,¬ d=.write n a cs
def Q1(H:Hp)(W:WW)(d:Dd)(vs:qAf):Prop:=∃t,vs=[.ref W.a,.ref t]/\su H t d/\∀n a cs l,d=.write n a cs->H t|||[.str "write_at",.int n,.int a,.ref l]->l∉wl W
abbrev Mz:Wo:=top 108
abbrev Mt:Wo:=top 109
def Qk:aA ["_law_world","_law_deed_here"] ["_law_world","_law_deed_here"] (ax Mz):=L2.bg
def P6:aA ["_law_world","_law_deed_here"] ["_law_world","_law_deed_here"] (ax Mt):=L2.bg
theorem v9(F:b4 K "_law_named_due" "_law_named_due" Mz f fd)(T:gu K mg X)(ad:↥Df 4 "_law_made" (kZ Dt))(ab:↥Df 4 "_law_linked" (kZ OY))(aa:↥Df 3 "_law_removed" (kZ PN))(ac:↥Df 4 "_law_moved" (kZ PF))(aj:↥Df 3 "_law_unlinked" (kZ Qg)):↥aU 5 f fd ["_law_world","_law_deed_here"] (kZ QV):=by
 show F.ok Qk (λvs H Q E h=>?_) (λcdv A outer s H vs Q E hr h=>?_)
 .let#[_,W,_,_,d,#[t,rfl,_],_]:=h;rfl
 .let#[m,W,N,S,d,#[t,rfl,G,nw],D,ok,L,Y,U]:=h;intros;show#[_,%[0,hr,bb,bw,g,bs,bK,g,bs,b,c,ad,x,d,G,a,v,C,bS,y,dP,a,bG,bX,bs,f,g,bs,b,b3,x,d,G,a,G,f,g,bs,b,bP,o,G,f,g,bs,b,cv,x,d,G,a,G,b,c,aj,o,G|9],?_]
  cases d with
  |write n a cs=>show absurd rfl (nw n a cs)
  |make kd p =>
   let go:∀b:Bool,b=kd->H t|||[.str (if kd=true then "make_dir" else "make"),.str p]->∀(l1:zB0)(I:H l1=none),kZ Dt [.ref W.a,.str p,.str (if b=true then "slots" else "cells")] (upd H l1 (.lst [V.str "cells",V.str "slots"])) Q E0:=λb e _ l1 I=>by
    let s1:=au (X:=.lst [V.str "cells",V.str "slots"]) I;show#[31,.make kd p,#[kd,p,rfl,by rw[e]],D.sm s1,ok,L,λe he H' t s'=>Y e he H' t (s1.trans s'),λN' S' he H' W' v h1 h2 h3=>U N' S' he H' W' v h1 h2 ((nZ.sm s1 rfl).tr h3)]
   cases kd with
   |false =>
    let G:H t|||[.str "make",.str p]:=G;show#[0,41,.str "make",66];rw[zA1 rfl];show bU (bU #[0,83,aE,λl1 I=>?_]);let Z:=(au (X:=.lst [V.str "cells",V.str "slots"]) I) _ _ G;show#[0,41,.str "make",1,cX.of Z,84,rfl,.inr #[0,?_]];rw[zA2 (show ¬ V.str "make" = V.str "make_dir" from λz=>absurd (V.str.inj z) aF)];show#[l1,_,(0),.str "cells",1,32,84,go false rfl G l1 I]
   |true =>
    let G:H t|||[.str "make_dir",.str p]:=G;show#[0,41,.str "make_dir",66];rw[zA2 (show ¬ V.str "make_dir" = V.str "make" from λz=>absurd (V.str.inj z) aF)];show bA #[0,41,.str "make_dir",66];rw[zA1 rfl];show bU #[0,83,aE,λl1 I=>?_];let Z:=(au (X:=.lst [V.str "cells",V.str "slots"]) I) _ _ G;show#[0,41,.str "make_dir",1,cX.of Z,84,rfl,.inr #[0,?_]];rw[zA1 rfl];show#[l1,_,(1),.str "slots",1,32,89,go true rfl G l1 I]
  |unlink p =>
   let G:H t|||[.str "unlink",.str p]:=G;show Q6 rfl G aF aF ?_
   iterate 3 (show Rv rfl G aF ?_)
   show#[0,83,31,_,#[p,1],D,ok,L,Y,U]
  |rmdir p =>
   let G:H t|||[.str "remove_dir",.str p]:=G;show Q6 rfl G aF aF ?_;show Rv rfl G aF (Vi rfl G ?_);show#[0,83,31,_,#[p,1],D,ok,L,Y,U]
  |link p q =>
   let G:H t|||[.str "link",.str p,.str q]:=G;show Q6 rfl G aF aF (Vi rfl G ?_);show#[0,83,0,t,_,(2),.str q,110,31,_,#[p,q,1],D,ok,L,Y,U]
  |move p q =>
   let G:H t|||[.str "move",.str p,.str q]:=G;show Q6 rfl G aF aF ?_;show Rv rfl G aF (Rv rfl G aF (Vi rfl G ?_));show#[0,83,0,t,_,(2),.str q,110,31,_,#[p,q,1],D,ok,L,Y,U]
theorem Li(F:b4 K "_law_due" "_law_due" Mt f fd)(T:gu K mg X)(aa:↥Df 5 "_law_named_due" (kZ QV))(ab:↥Df 4 "_law_written" EL):↥aU 6 f fd ["_law_world","_law_deed_here"] (kZ Q1):=by
 show F.ok P6 (λvs H Q E h=>?_) (λcdv A outer s H vs Q E hr h=>?_)
 .let#[_,W,_,_,d,#[t,rfl,_],_]:=h;rfl
 .let#[m,W,N,S,d,#[t,rfl,G,nl],D,ok,Y,L,Z]:=h;intros;show#[_,%[0,hr,f,X,b6,T.E9,b8,d,G,a,br,dC,ao,T.str,uz,rfl,b,bP,x,e,f,bn,di,ax,G,V,an,b,b3,x,d,G,d,G,a,G|9],?_]
  cases I:∀n a cs,¬ d=.write n a cs
  .let#[x,p,xs,h1]:=Mg G I;show#[0,t,_,(1),.str p,1,cX.of h1,89,2,_,true,rfl,.str p,rfl,45];show#[0,0,31,d,#[t,rfl,G,I],D,ok,Y,L,Z]
  obtain⟨n,a,cs,rfl⟩:∃n a cs,d=.write n a cs:=WJ λz=>I λn a cs e=>z #[n,a,cs,e];let#[l,h1,hl]:=(show ∃l,H t|||[.str "write_at",.int n,.int a,.ref l]/\H l∣(cs.map V.int)from G);show#[62,2,_,false,rfl,.int n,131,46];show#[62,18,D.h.gC,W.ca,0,D.h.gN n,0,?_];rw[YG,D.p.lC];cases c:j5 N n with
  |false =>
   obtain⟨e,he⟩:∃e,jk 60 N n a cs=.error e:=by
    unfold jk ze;unfold j5 at c;cases q:N n with
    |none=>show#[0]
    |some nd =>
     rw[q]at c;have:nd.dir=true:=‹c›;dsimp only;rw[acW this];show#[0]
   show bU (L e (oa he) _ _ (aO.refl H))
  |true =>
  let#[nd,U,hd]:=mO c;show bA #[0,62,0,t,_,(2),.int a,1,cX.of h1,aL (j:=2) rfl,0,t,_,(3),.ref l,1,cX.of h1,aL (j:=3) rfl,31,n,a,cs,l,60,D,hl,nl n a cs l rfl h1,U,hd,D.nk.xS _ _ U,Y,L,Z]
end Fs
namespace L2
open PySem PySem.Spec PyProof.Rows
abbrev g4(K:Wa):TG:=ED K 4 (lB (f9 0) (lB (f9 1) (lB (f9 2) (lB (f9 3) Jb))))
theorem yZ{a:zB0}{xs:qAf}{te:TE}{σ:St}{H:Hp}{QE:List V->Hp->Prop}(Pv:Nat->List V->Hp->Prop)(h0:Pv 0 [] H)(U:∀i zs H,i<=xs.9->Pv i zs H->a9 K H a xs)
  (hs:∀i x zs H,xs[i]?=some x->Pv i zs H->∃t F I L G,x=.ref t/\cX K H t [F,I,L,G]/\te [some F,some I,some L,some G] H (λz H3=>zs.9<sizeLine/\Pv (i+1) (zs++[z]) H3))
  (hd:∀zs H,Pv xs.9 zs H->QE zs H):∃W:Nat->Nat->List V->Hp->Prop,(∃m,W 0 m [] H)/\wB 4 [] (g4 K) pN te σ (Il K a) QE W:=by
 show Di Pv h0 hd (λzs H p=>#[xs,U _ zs H (G0 _) p,G0 _]) λi zs H Y p=>?_;let Z:=U i zs H (Yo Y) p;show#[#[xs,xs[i],Z,by simp[Y]],?_];rintro v H' ⟨rfl,e1⟩ vs lv;let#[t,F,I,L,G,rfl,ht,q]:=hs i v zs H' (e1 xs Z) p
 match vs,lv with
 | [_,_,_,_],_=>show#[t,0,ht,4,0,_,0,_,0,6,[some F,some I,some L,some G],1,q]
end L2
namespace Fs
open PySem L2 Dk Tb Srt
noncomputable def tJ(x:Str×Int):Bool := !decide (x.1 = "")
variable{N:NS}{S:SS}
def Km(F:Fz N S):((uh N S).map (·.1)).4:=by
 let#[i,pv,met,Z]:=qr F 24 0 rfl F.Ow;rw[<-Z.done F];show Z.VJ F
variable{m:Nat}{W:WW}
theorem Wp.wk(h:Wp m W N S):(W.A.filter tJ).Perm (uh N S):=by
 let Z:((W.A.filter tJ).map (·.1)).4:=h.nA.sublist ((Ya (l:=W.A)).map _);let G:∀{l:List iC},(l.map (·.1)).4->l.4:=λ{l} z=>(Xa.mp z).imp λz e=>z (by rw[e]);show(Yu (G Z) (G (Km h.F))).mpr λx=>?_;let#[p,k]:=x;rw[WA,h.at_];constructor
 .rintro⟨a,ne⟩;cases a with
  |root=>cases ne
  |step a b c=>show(Kg h.F (h.F.oG _ _ _ c)).mpr (.step a b c)
 .intro z;let#[i,pv,met,Y]:=qr h.F 24 0 rfl h.F.Ow;let z2:=z;rw[<-Y.done h.F,Y.mt]at z2;let#[l,I,L]:=Za.mp z2;let#[y,_,rfl]:=z4.mp I;let#[n,U,e]:=mZ h.F (z4.mpr #[_,L,rfl]);let e:p=y.1++SL++n:=e;subst e;show#[(Kg h.F U).mp z,?_];unfold tJ;rw[zA2 (λe=>iH e.6)];rfl
def Wp.VR(h:Wp m W N S):(uh N S).9<=m+1:=by
 let l1:=h.wk.length_eq;let l2:=WL tJ W.A;have:=h.ln;omega
theorem GK{H:Hp}{g:Node->List Int}:∀{ws:qAf}{ps:List iC},wc H N g ws ps->∃zs:List (Str×zB0×Int),ws=zs.map (λz=>V.ref z.2.1)/\ps=zs.map (λz=>(z.1,z.2.2))/\∀z∈zs,Ik H N g (.ref z.2.1) (z.1,z.2.2)
 | [],[],_=>#[[],1,nofun]
 | [],_::_,t=>by cases t.ln
 |_::_,[],t=>by cases t.ln
 |v::ws,a::ps,t=>by
  let#[zs,G,U,L]:=GK (ws:=ws) (ps:=ps) #[ab3 t.ln,λi v F=>t.at_ (i+1) v F];let#[x,ex,r]:=t.at_ 0 v rfl;cases ex;let#[cl,nd,q,I,rfl,h1,h2]:=r;show#[(a.1,q,a.2)::zs,by rw[G];rfl,by rw[U];rfl,λz h=>?_];rcases We.mp h with rfl|h
  .show#[cl,nd,q,I,rfl,h1,h2]
  .show L z h
variable{H:Hp}{g:Node->List Int}{a:zB0}
theorem Ik.off{H':Hp}{v:V}{x:iC}(A:Ik H N g v x)(o:Off (· = a) H H')(h:∀ys,¬ H a|||ys)(h2:∀ys,¬ H a∣ys):Ik H' N g v x:=by
 let#[cl,nd,t,G,I,e3,F]:=A;show#[cl,nd,t,G,I,o _ _ e3 (λz=>h _ (z▸e3)),o _ _ F (λz=>h2 _ (z▸F))]
inductive LV(v:qAf)(H:Hp)(Q:VK)(e:XK):Prop
 |mk(m:Nat)(W:WW)(N:NS)(S:SS)(_:v=[.ref W.a])(_:Wd m H W N S)(_:∀H' q ws,aO H H'->H q=none->H' q∣ws->wc H' N jG ws (ip (uh N S))->Q (.ref q) H')
abbrev Sk:Wo:=top 113
def J8:aA ["_law_world","_law_due_here","_law_text","_law_node_here"] ["_law_world"] (ax Sk):=L2.bg
variable{X:Er->zB0}
theorem yM(F:b4 K "_law_due_tree" "_law_due_tree" Sk f fd)(T:gu K mg X)(ar:↥Df 1 "_law_links" Iu):↥aU 2 f fd ["_law_world"] LV:=by
 show F.dg J8 ?_;intros;let#[m,W,N,S,rfl,D,k]:=h;let hs:=DD;let Dj:=D.Dj;let lA:=D.p.ln;show#[_,%[J8,hr,bk,aC,i,dX,dg,bz,DR,V,bA,A,2,A,3,fe,k,ec,bZ,bC,aF,2,E,bE,bn,ce,ax,3,V,j,be,cV,iz,1,a,al,ba,bS,bO,a,aC,k,aX,aF,2,E,j,be,cV,iz,1,a,al,ba,bS,d,c,ar,o,3,a,cb,a,bh,3,b,S,mD,de,e|9],?_]
 show#[aE,λl1 f1=>?_];exists f1,(.lst []),s1,e1,H1;let D1:=D.h.sm s1;let ad:=D1.at
 let h0:∀(o:Obj) u',¬ H W.aa=some (.frz o u'):=λo u' z=>(by have:=D.h.at;rwa[z]at this);show#[18,D1.gA,W.aa,0,ad,h0,λo=>?_];let nl:¬ l1=W.aa:=λz=>(by rwa[z,ad]at e1);let aB:upd H1 W.aa (.frz o (.dK (kA W.A))) W.aa=some (.frz o (.dK (kA W.A))):=ag;let o2:Off (· = W.aa) H1 (upd H1 W.aa (.frz o (.dK (kA W.A)))):=λx u e n=>(by rw[ay n];show e);generalize upd H1 W.aa (.frz o (.dK (kA W.A)))=H2 at *;let oA:∀{b u},H b=some u->(∀kv,¬ u=.dK kv)->¬ b=W.aa:=λe n z=>by
  have:=D.h.at;rw[<-z,e]at this;show n _ (OR this)
 let w1:=D1.wd;let c1:=D1.ce;let aP:=D1.s;let as:∀{b u},H1 b=some u->(∀kv,¬ u=.dK kv)->¬ b=W.aa:=λe n z=>(by rw[z,ad]at e;show n _ (OR e).6);let aj:¬ W.a=W.aa/\¬ W.sa=W.aa/\¬ W.ca=W.aa:=by
  have:=D.h.nd;rw[rN]at this;simp only[wl,Wq,We,not_or]at this;show#[this.1.1,λz=>this.2.1.1 z.6,λz=>this.2.1.2.1 z.6]
 let ab:∀{b u},H b=some u->¬ b=l1:=λe z=>(by rwa[z,f1]at e);show BN (a:=W.aa) (o:=o) (kvs:=kA W.A) (λi σ J=>OF λws v2 v3=>Qs (σ=#v[.ref W.a,.ref l1,v2,v3]) (J l1∣ws) (∀J',Off (· = l1) J J'->wc J' N jG ws ((W.A.take i).filter tJ)) (J W.aa=some (.frz o (.dK (kA W.A)))) (Off (λx=>x=W.aa\/x=l1) H1 J)) #[[],none,none,rfl,o2 _ _ e1 nl,λ_ _=>#[109],aB,o2.mono λ_ z=>.inl z] (λi σ J _ z=>by let#[_,_,_,_,_,_,e,_]:=z;show e) ?_ ?_
 .rintro i kk v σ J Tt hk fT ⟨ws,v2,v3,rfl,I,tr,Y,U⟩;let am:(W.A.map λx:Str×Int=>((Xw x.1:Key),V.int x.2))[i]?=some (kk,v):=hk;rw[LW]at am;let#[#[t,n],hx,e]:=HC.mp am;cases e;let ef:(W.A.take (i+1)).filter tJ=(W.A.take i).filter tJ++[(t,n)].filter tJ:=(by rw[WE,hx,Xk];rfl);let sT:=au (X:=.tup [kV (Xw t),.int n]) fT;show#[Tt,0,cX.of ag,4,0,_,0,3];let I:=sT _ _ I;let Y:=sT _ _ Y;let U:Off (λx=>x=W.aa\/x=l1) H1 (upd J Tt (.tup [kV (Xw t),.int n])):=Ku U sT;let tr:∀J',Off (· = l1) (upd J Tt (.tup [kV (Xw t),.int n])) J'->wc J' N jG ws ((W.A.take i).filter tJ):=λJ' o'=>tr J' λx u e n=>o' x u (sT _ _ e) n;replace I:upd J Tt (.tup [kV (Xw t),.int n]) l1∣ws:=I;generalize upd J Tt (.tup [kV (Xw t),.int n])=J1 at *;let lw:=(tr J1 (λ_ _ e _=>e)).ln;let a0:ws.9<=42:=by
   have:=WL tJ (W.A.take i);rw[IF]at this;omega
  let wJ:=U _ _ w1 (λz=>z.elim aj.1 (ab D.h.wd));let sJ:=U _ _ aP (λz=>z.elim aj.2.1 (ab D.h.s));let cJ:=U _ _ c1 (λz=>z.elim aj.2.2 (ab D.h.ce));let gS:dG J1 W.a (.str "slots") (some (.ref W.sa)):=.inl #[_,.inr "slots",.inl wJ,rfl,94];let aa:=(D.p.at_ t n).mp (L1 hx);let#[nd,hn]:=D.p.F.AX aa;show#[0,9];show cQ (λg=>?_) (λg=>bA #[0,9])
  .let et:[(t,n)].filter tJ=[(t,n)]:=WO (p:=tJ) (l:=[]) (by unfold tJ;rw[zA2 (λz:t = "" => by rwa[z]at g)];rfl);rw[et]at ef;let done:∀{J2:Hp}{q c:zB0}{k:Int},aO J1 J2->J1 c=none->J2 c∣((jG nd).map V.int)->J2 q=none->k=nd.ln->(OF λap v2 v3=>Qs ([some (V.ref W.a),some (V.ref l1),some (V.str t),some (V.int n)]=#v[.ref W.a,.ref l1,v2,v3]) (upd (upd J2 q (.tup [.str t,.str (n6 nd.dir),.int k,.ref c])) l1 (.lst (ws++[.ref q])) l1∣ap) (∀J',Off (· = l1) (upd (upd J2 q (.tup [.str t,.str (n6 nd.dir),.int k,.ref c])) l1 (.lst (ws++[.ref q]))) J'->wc J' N jG ap ((W.A.take (i+1)).filter tJ)) (upd (upd J2 q (.tup [.str t,.str (n6 nd.dir),.int k,.ref c])) l1 (.lst (ws++[.ref q])) W.aa=some (.frz o (.dK (kA W.A)))) (Off (λx=>x=W.aa\/x=l1) H1 (upd (upd J2 q (.tup [.str t,.str (n6 nd.dir),.int k,.ref c])) l1 (.lst (ws++[.ref q]))))):=λ{J2 q c k} L Z ec G ek=>by
    let nq:¬ q=l1:=λz=>(by rwa[z,L _ _ I]at G);let nc:¬ c=l1:=λz=>(by rwa[z,I]at Z);let cq:¬ c=q:=λz=>(by rwa[<-z,ec]at G);show#[2,0,ag,λJ' o'=>?_,5]
    .rw[ef];show(tr J' λx u e nx=>o' x u (by rw[ay nx];show(au G) _ _ (L _ _ e)) nx).snoc #[c,nd,q,hn,3,?_]
     .rw[<-ek];show o' _ _ (by rw[ay nq];show ag) nq
     .show o' _ _ (by rw[ay nc,ay cq];show ec) nc
    .rw[ay (zA3 nl)];show(au G) _ _ (L _ _ Y)
    .show ic (Kf (Ku U L) G) (.inr rfl)
   show#[0,18,gS,W.sa,0,dG.k (k:=.inl n) sJ,0,?_];rw[cz,YG,D.p.lL,cL hn];cases hd:nd.dir with
   |true =>
    show bU #[0,.inl #[4,a9.of I],0,aE,λc Z=>#[Wz rfl,λq G=>?_]];let L:=au (X:=.lst []) Z;let e2:=(au (X:=.tup [.str t,.str "dir",.int 1,.ref c]) G) _ _ (L _ _ I);have:=done (J2:=upd J1 c (.lst [])) (q:=q) (c:=c) (k:=1) L Z (by unfold jG;rw[hd];show ag) G (D.p.F.dl _ _ hn hd).6;rw[hd]at this;show#[l1,6,e2,av,this]
   |false =>
    show bA #[0,9];rw[g];let gA:dG J1 W.a (.str "at") (some (.ref W.aa)):=.inl #[_,.inr "at",.inl wJ,rfl,94];let#[b,hb]:=D.p.Rh (d:=n) (by rw[eR hn,hd];rfl);let ak:=D.h.cl hb;let aK:=U _ _ (s1 _ _ ak) (λz=>z.elim (as (s1 _ _ ak) nofun) (ab ak));show bU #[0,.inl #[4,a9.of I],0,0,0,W.a,W.aa,W.A,n,rfl,gA,.inr #[o,Y],av,λJ2 L=>?_];let gC:dG J2 W.a (.str "cells") (some (.ref W.ca)):=.inl #[_,.inr "cells",.inl (L _ _ wJ),rfl,94];let gN:dG J2 W.ca (.int n) (some (.ref b)):=by
     have:=dG.k (k:=.inl n) (L _ _ cJ)
     (rw[cz,hb]at this;assumption)
    show#[18,gC,0,W.ca,0,gN,b,0,.inl (a9.of (L _ _ aK)),λc Z=>#[Wz rfl,λq G=>?_]];let s3:=L.trans (au (X:=.lst ((cells N n).map V.int)) Z);let e3:=(au (X:=.tup [.str t,.str "file",.int ((W.A.map (·.2)).count n:Nat),.ref c]) G) _ _ (s3 _ _ I);have:=done (J2:=upd J2 c (.lst ((cells N n).map V.int))) (q:=q) (c:=c) (k:=((W.A.map (·.2)).count n:Nat)) s3 (a8 L Z) (by unfold jG;rw[hd,dm hn];show ag) G (by rw[D.p.cnt n,fi hn]);rw[hd]at this;show#[l1,6,e3,av,this]
  .let et:[(t,n)].filter tJ=[]:=WQ (p:=tJ) (l:=[]) (λz=>g (by
    unfold tJ at z;change(!decide (V.str t=V.str ""))=true;rw[zA2 (λy=>by rwa[zA1 (V.str.inj y)]at z)];rfl))
   rw[et,Wt]at ef;rw[W0.mpr g];show bA #[ws,_,0,I,λJ' o'=>by rw[ef];show tr J' o',Y,U]
 .rintro σ J ⟨ws,v2,v3,rfl,I,tr,Y,U⟩;rw[qw,WV]at tr;show#[W.aa,o,kA W.A,Y,h0,?_];let t0:=tr J λ_ _ e _=>e;let oT:Off (· = W.aa) J (upd J W.aa (.dK (kA W.A))):=ic (λ_ _ e _=>e) rfl;let aT:=oT _ _ I nl;let sJ:aO H (upd J W.aa (.dK (kA W.A))):=λx u e=>by
   cases z:x=W.aa
   .rw[z,ag, <-D.h.at, <-z,e]
   .rw[ay z];show U _ _ (s1 _ _ e) λy=>y.elim z (ab e)
  let t1:wc (upd J W.aa (.dK (kA W.A))) N jG ws (W.A.filter tJ):=#[t0.ln,λi v h=>by
   let#[x,ex,r]:=t0.at_ i v h;show#[x,ex,r.off oT (λys z=>by rwa[Y]at z) λys z=>by rwa[Y]at z]]
  generalize upd J W.aa (.dK (kA W.A))=J2 at *;let#[zs,e1,e2,hz]:=GK t1;let n0:((W.A.filter tJ).map (·.1)).4:=D.p.nA.sublist ((Ya (l:=W.A)).map _);let n2:((zs.map λz=>(z.1,z.2.1)).map (·.1)).4:=by
   rw[e2,WU]at n0;rw[WU];show n0
  let es:ip (uh N S)=(ip zs).map λz=>(z.1,z.2.2):=(mG (Km D.p.F) (((W7 zs Bl).map _).trans (by rw[<-e2];show D.p.wk)) (Xa.mpr (nW zs))).6;let ea:ip (zs.map λz=>(z.1,z.2.1))=(ip zs).map λz=>(z.1,z.2.1):=(mG n2 ((W7 zs Bl).map _) (Xa.mpr (nW zs))).6;let lz:zs.9<=42:=by
   let a1:=congrArg Zg e2;rw[dM]at a1;have:=WL tJ W.A;omega
  show#[0,l1,zs.map λz=>(z.1,z.2.1),3,λx hx=>?_,n2,87,λq G=>k _ q (Io (ip (zs.map λz=>(z.1,z.2.1)))) (sJ.trans (au G)) (a8 sJ G) ag ?_]
  .rw[Io,WU];show a9.of (aT.trans ?_);rw[e1];rfl
  .let#[z,ac,rfl]:=z4.mp hx;let#[cl,nd,t,_,e,h1,_]:=hz z ac;cases e;show#[_,h1]
  .rw[es,ea,Io,WU];show#[by rw[dM,dM],λi v hv=>?_];rw[LW]at hv ⊢;let#[z,ac,rfl]:=HC.mp hv;rw[ac];show#[0,(hz z ((W7 zs Bl).mem_iff.mp (L1 ac))).same (au G)]
variable{n:Nat}
def KJ(s:Str):Hm H (n+1) (.str s) (.str s):=.flat rfl (.inr (.inr #[s,rfl]))
def Kt(i:Int):Hm H (n+1) (.int i) (.int i):=.flat rfl (.inr (.inl #[i,rfl]))
variable{b:zB0}
theorem OH{α:Type}(g:α->V)(L:∀x,Hm H (n+1) (g x) (g x)){l:List α}(U:H a∣(l.map g))(Y:H b∣(l.map g))(I:l.9<=1000):Hm H (n+2) (.ref a) (.ref b):=
 .seq false a b _ _ rfl rfl U Y rfl (by rw[dM];show I) λi u v F G=>by
  rwa[F]at G;rw[LW]at F;let#[y,_,rfl]:=HC.mp F;show L y
theorem yS{ws G:qAf}{ps:List iC}(A:wc H N g ws ps)(B:wc H N g G ps)(Z:H a∣ws)(hb:H b∣G)(lp:ps.9<=960)(lc:∀n nd,N n=some nd->(g nd).9<=1000):Hm H 4 (.ref a) (.ref b):=by
 show .seq false a b _ _ rfl rfl Z hb (A.ln.trans B.ln.6) (by have:=A.ln;omega) λi u v Y e2=>?_;let#[x,ex,cl,nd,t,I,rfl,h1,h2]:=A.at_ i u Y;let#[y,F,aa,ab,t',L,rfl,U,h4]:=B.at_ i v e2;rwa[ex]at F;rwa[I]at L;show .seq true t t' _ _ rfl rfl h1 U rfl (by change 4<=1000;decide) λj p q g1 g2=>?_
 match j,g1,g2 with
 |0,g1,g2=>cases g1;cases g2;show KJ _
 |1,g1,g2=>cases g1;cases g2;show KJ _
 |2,g1,g2=>cases g1;cases g2;show Kt _
 |3,g1,g2=>cases g1;cases g2;show OH V.int Kt h2 h4 (lc _ _ I)
 |j+4,g1,_=>cases g1
noncomputable def g1(nd:Node):List Int:=jG nd++[1]
inductive xp(M:cU)(CF:zB0)(v:qAf)(H:Hp)(Q:VK)(e:XK):Prop
 |mk(z:FA)(mm:M.St)(m:Nat)(W:WW)(N:NS)(S:SS)(_:v=[.ref z.a,.ref W.a])(_:gw M CF H z mm 60 N [] 0)(_:Wd m H W N S)(_:∀H',aO H H'->Q (.bl true) H')
abbrev M8:Wo:=top 114
abbrev TB:Wo:=top 89
theorem rO:aA ["_law_files","_law_world","_law_due_here","_law_found_here","_law_path_here","_law_kind","_law_links_here","_law_cells"] ["_law_files","_law_world"] (ax M8):=L2.bg
def Tr:aA ["_law_room"] ["_law_room"] (ax TB):=L2.bg
theorem ui{CF:zB0}{M:cU}(F:b4 K "_law_tree_right" "_law_tree_right" M8 f fd)(T:gu K mg X)(O:M.Ok P w K mg base)(ak:↥Df 12 "tree" (K2 M CF))(ad:↥Df 4 "_law_alike" (BL 4))(aB:↥Df 2 "_law_due_tree" LV):↥aU 13 f fd ["_law_files","_law_world"] (xp M CF):=by
 show F.dg rO ?_;intros;let#[z,mm,m,W,N,S,rfl,A0,D,k]:=h;let hs:=DD;let am:(uh N S).9<=63:=(by have:=D.p.VR;have:=D.Dj;omega);let lp:=Ex D.p.F;let aa:∀n nd,N n=some nd->(jG nd).9<=320:=λn nd e=>by
  have:=D.nk.xS _ _ e;unfold jG;split
  .show Xr _
  .omega
 show#[_,%[rO,hr,Q,c,aB,e,aY,c,ak,q,f,cK,X,c,ad,d,3,h,co,aL,cd,3,bA,A,4,A,5,A,6,A,7,fe,j,be,cV,iz,7,aI,f,cK,X,c,ad,d,3,a,dn,(wF (ts:=["_law_path_here","_law_kind","_law_links_here","_law_cells"]) (cl:=[]) (caps:=[])),#[rfl,aF,aF,94,by intro p hp;simp at hp,94,by intro p hp;simp at hp,aF],aZ,2,T,(show PG _ _ (g4 K)from gq rfl (bw (i8 (i:=0) (show(fo ["_law_path_here","_law_kind","_law_links_here","_law_cells"] []).4 by decide +kernel) rfl (Y3 (WH rfl)) (.inr (WH rfl))) (bw (i8 (i:=1) (show(fo ["_law_path_here","_law_kind","_law_links_here","_law_cells"] []).4 by decide +kernel) rfl (Y3 (WH rfl)) (.inr (WH rfl))) (bw (i8 (i:=2) (show(fo ["_law_path_here","_law_kind","_law_links_here","_law_cells"] []).4 by decide +kernel) rfl (Y3 (WH rfl)) (.inr (WH rfl))) (bw (i8 (i:=3) (show(fo ["_law_path_here","_law_kind","_law_links_here","_law_cells"] []).4 by decide +kernel) rfl (Y3 (WH rfl)) (.inr (WH rfl))) fe))))),a8,al,x,J,ba,a,M,3,C,aI,co,t,d7,WR,PySem.F.slot_list_clear,PySem.F.type_list_clear,FI,3,b,c,ad,d,c,ak,q,h|9],?_]
 show fj λ_ jt=>?_;show#[0,31,rfl,D,λH1 q1 AR s1 _ e1 T1=>jt _ _ ?_];clear jt;show fj λ_ jt=>?_;show#[0,z,mm,(60),(0),N,S,[],rfl,A0.same O s1,D.p.F,am,λH2 Y lZ cs s2 f2 e2 T2=>jt _ _ ?_];clear jt;show#[0,0,_,0,yS T2.a (T1.same s2) e2 (s2 _ _ e1) lp (λn nd e=>WK (aa n nd e) aE),λH3 s3=>#[46]];let I:=T2.same s3;let e3:=s3 _ _ e2;let lw:=I.ln;let aK:=I.lc;let nq:Y∉cs:=λG=>by
  let#[i,hi]:=YZ.mp G;let li:=(u4.mp hi).1;let#[x,_,nd,t,_,ev,_,h2]:=I.at_ i _ _ (y0 (l:=lZ) av) hi;rw[e3]at h2;let ew:lZ=(jG nd).map V.int:=by injection h2 with h2;injection h2
  have:=congrArg (λl:List V=>l[i]?) ew;rw[y0 (l:=lZ) av,ev,LW]at this;cases q:(jG nd)[i]? with
  |none=>rwa[q]at this
  |some y=>rwa[q]at this
 show#[0,Y,rfl,#[_,38],?_];show gp (K:=K) (a:=Y) (xs:=lZ) (λi σ J=>T8 λv4 v5 v6 v7=>yd (σ=#v[.ref z.a,.ref W.a,.ref q1,.ref Y,v4,v5,v6,v7]) (Off (· ∈ cs) H3 J) (∀(j:Nat)(c:zB0)(l:qAf),cs[j]?=some c->H3 c∣l->J c∣(if j<i then l++[.int 1]else l))) #[none,none,none,none,rfl,96,λj c l _ e=>e] (λi σ J _ z=>by let#[_,_,_,_,_,o,_]:=z;show a9.of (o _ _ e3 nq)) ?_ ?_
 .rintro i v σ J L ⟨v4,v5,v6,v7,rfl,Z,hJ⟩;let li:=(u4.mp L).1;let G:=y0 (l:=cs) (i:=i) av;let#[x,_,nd,t,n1,rfl,h1,h2]:=I.at_ i _ _ L G;generalize ec:cs[i]=c at *;let mc:c∈cs:=L1 G;let nt:t∉cs:=λz=>by
   let#[l,y]:=I.live z;rwa[h1]at y
  let ab:=hJ i c _ G h2;rw[acV (X7 i)]at ab;let l3:=aa _ _ n1;show#[t,0,cX.of (Z _ _ h1 nt),4,0,_,0,_,0,_,0,3];show#[0,.inl #[4,a9.of ab],c,6,ab,87,2,_,0,ic Z mc,λj d l hd hl=>?_];cases z:d=c
  .let ij:j=i:=(List.getElem?_inj (u4.mp hd).1 I.nd).mp (hd.trans (by rw[z,G]));rw[z,ag,ij,acW (Zy i)];rwa[z,h2]at hl;rfl
  .rw[ay z,hJ j d l hd hl];have:¬ j=i:=λy=>z (OR ((y▸hd).symm.trans G));cases y:j<i
   .rw[acW y,acW av]
   .rw[acV y,acV av]
 rintro σ J ⟨v4,v5,v6,v7,rfl,Z,hJ⟩;let ac:aO H1 J:=λx u e=>Z _ _ (s3 _ _ (s2 _ _ e)) λz=>(by rwa[T2.fr x z]at e);let TJ:wc J N g1 lZ (ip (uh N S)):=#[I.ln,λi v L=>by
  let li:=(u4.mp L).1;let G:=y0 (l:=cs) (i:=i) av;let#[x,ex,nd,t,n1,rfl,h1,h2]:=I.at_ i _ _ L G;let nt:t∉cs:=λz=>by
   let#[l,y]:=I.live z;rwa[h1]at y
  show#[x,ex,_,nd,t,n1,rfl,Z _ _ h1 nt,?_];have:=hJ i _ _ G h2;rw[acW li]at this;rw[this];unfold g1;rw[yl];rfl]
 let eJ:=Z _ _ e3 nq;let ar:=T1.same ac;let ap:=ac _ _ e1;let as:=T1.ln;show#[0,0,q1,rfl,#[_,a9.of ap],?_];show yZ (K:=K) (a:=q1) (xs:=AR) (λi ys J2=>wc J2 N g1 ys ((ip (uh N S)).take i)/\aO J J2) #[#[109],133] (λi ys J2 _ z=>a9.of (z.2 _ _ ap)) ?_ ?_
 .rintro i v ys J2 L ⟨TA,U⟩;let#[x,ex,cl,nd,t,n1,rfl,h1,h2]:=ar.at_ i v L;let l3:=aa _ _ n1;let ly:ys.9<=960:=(by rw[TA.ln,IF];omega);show#[t,2,_,0,cX.of (U _ _ h1),#[0,0,0,0,aE,λq5 f5=>#[cl,q5,6,(au f5) _ _ (U _ _ h2),ag,by rw[dM,NC];omega,λq6 f6=>#[Wz rfl,λq7 f7=>#[av,5]]]]]
  .rw[WE,ex];let t5:=((au (X:=.lst [V.int 1]) f5).trans (au (X:=.lst ((jG nd).map V.int++[V.int 1])) f6)).trans (au (X:=.tup [.str x.1,.str (n6 nd.dir),.int nd.ln,.ref q6]) f7);show(TA.same t5).snoc #[q6,nd,q7,n1,51,?_];have:=(au (X:=.tup [.str x.1,.str (n6 nd.dir),.int nd.ln,.ref q6]) f7) q6 _ ag;rw[this];unfold g1;rw[yl];rfl
  .show((U.trans (au f5)).trans (au f6)).trans (au f7)
 rintro ys J2 ⟨TA,U⟩ r fr;rw[as,WV]at TA;let sr:=au (X:=.lst ys) fr;show#[_,0,yS ((TJ.same U).same sr) (TA.same sr) (sr _ _ (U _ _ eJ)) ag lp (λn nd e=>by unfold g1;rw[ti,NC];have:=aa n nd e;omega),λJ3 s5=>#[46]];let aj:=(U.trans sr).trans s5;let e5:=aj _ _ eJ;show#[0,.inl #[4,a9.of e5],Y,0,rfl,e5,?_];let s6:aO H1 (upd J3 Y (.lst [])):=λx u e=>by
  rw[ay (λz=>by rwa[z,f2]at e)];show aj _ _ (ac _ _ e)
 generalize upd J3 Y (.lst [])=J4 at *;show#[0,z,mm,(60),(0),N,S,[],rfl,(A0.same O s1).same O s6,D.p.F,am,λJ5 q5 aP aT s7 _ e5 T5=>?_];let s8:=s6.trans s7;show#[0,_,0,yS T5.a (T1.same s8) e5 (s8 _ _ e1) lp (λn nd e=>WK (aa n nd e) aE),λJ6 s9=>k _ ((s1.trans s8).trans s9)]
end Fs
namespace L2
open PySem PySem.Spec PyProof.Rows
structure Rl(X:Cx)(pos:XU)(ks:List (Option Ws))(vs:qAe)(trs:List (TE×TE)):Prop where
 h:QC X pos ks vs trs
variable{X:Cx}{pos:XU}
def zM:Rl X pos [] [] []:=#[p9]
variable{k v:Ws}{ks:List (Option Ws)}{vs:qAe}{tk tv:TE}{trs:List (TE×TE)}
def jE(hk:PE X k tk)(G:PE X v tv)(F:Rl X pos ks vs trs):Rl X pos (some k::ks) (v::vs) ((tk,tv)::trs):=#[mS hk G F.h]
theorem xA(h:Rl X pos ks vs trs)(G:ks.all (·.isSome)=true)(F:ks.9=vs.9)(I:ks≠[])(L:ks.9<=15):PE X (.Dict ks vs pos) (qC trs):=qj h.h G F I L
theorem xF(hk:PE X k tk)(F:PE X v tv):PE X (.Dict [some k] [v] pos) (qC [(tk,tv)]):=xA (jE hk F zM) rfl rfl (Z3 _ _) (Wz rfl)
theorem Ee{k1 k2 k3 k4 k5 v1 v2 F G v5:Ws}{t1 Z t3 I Y u1 u2 u3 U L:TE}(h1:PE X k1 t1)(g1:PE X v1 u1)(h2:PE X k2 Z)(g2:PE X v2 u2)(h3:PE X k3 t3)(g3:PE X F u3)(h4:PE X k4 I)(g4:PE X G U)(h5:PE X k5 Y)(g5:PE X v5 L):PE X (.Dict [some k1,some k2,some k3,some k4,some k5] [v1,v2,F,G,v5] pos) (qC [(t1,u1),(Z,u2),(t3,u3),(I,U),(Y,L)]):=xA (jE h1 g1 (jE h2 g2 (jE h3 g3 (jE h4 g4 (jE h5 g5 zM))))) rfl rfl (Z3 _ _) (Wz rfl)
noncomputable def Ks(x:Ws):Option Str:=match x with
 |.Constant (.str a) _ _=>some a
 |_=>none
noncomputable def Rf(x:Ws):Option Int:=match x with
 |.Constant (.int a) _ _=>some a
 |_=>none
variable{e:Ws}
def ou{a:Str}(h:Ks e=some a):PE X e (tC (.str a)):=by
 unfold Ks at h;split at h
 .cases h;show az
 .cases h
def Ej{a:Int}(h:Rf e=some a):PE X e (tC (.int a)):=by
 unfold Rf at h;split at h
 .cases h;show aw
 .cases h
noncomputable def xz:Ws:=.Constant (.int 0) 0 #[36,36]
noncomputable def dK(e:Ws)(i:Nat):Ws:=match e with
 |.Dict ks _ _=>((ks[i]?).join).getD xz
 |_=>xz
noncomputable def dV(e:Ws)(i:Nat):Ws:=match e with
 |.Dict _ vs _=>(vs[i]?).getD xz
 |_=>xz
noncomputable def xP(e:Ws):XU:=match e with
 |.Dict _ _ p=>p
 |.List _ p=>p
 |.Name _ p=>p
 |_=>#[36,36]
noncomputable def rE(b:List Wo):Ws×XU:=match b with
 |.Return (some e) p::_=>(e,p)
 |_=>(xz,#[36,36])
noncomputable def bB(q:XU)(e:Ws):List Wo:=[.Return (some (.Dict [some (dK e 0),some (dK e 1),some (dK e 2),some (dK e 3),some (dK e 4)] [.Dict [some (dK (dV e 0) 0)] [dV (dV e 0) 0] (xP (dV e 0)),.Dict [some (dK (dV e 1) 0)] [.List [] (xP (dV (dV e 1) 0))] (xP (dV e 1)),.Dict [] [] (xP (dV e 2)),.Dict [] [] (xP (dV e 3)),.Name "_law_room" (xP (dV e 4))] (xP e))) q]
noncomputable def ws(e:Ws):List (Option Str):=[Ks (dK e 0),Ks (dK e 1),Ks (dK e 2),Ks (dK e 3),Ks (dK e 4),Ks (dK (dV e 0) 0)]
def P5:TS:=JH (qC [(tC (.str "at"),qC [(tC (.str ""),tC (.int 0))]),(tC (.str "slots"),qC [(tC (.int 0),Nu xI)]),(tC (.str "cells"),yy),(tC (.str "holds"),yy),(tC (.str "room"),fX 0)])
structure Ux(B:List Wo):Prop where
 hb:B=bB (rE B).2 (rE B).1
 h:ws (rE B).1=["at","slots","cells","holds","room",""].map λx:String=>some (Str.ofString x)
 h7:Rf (dV (dV (rE B).1 0) 0)=some 0
 h8:Rf (dK (dV (rE B).1 1) 0)=some 0
theorem JD{B:List Wo}(b:Ux B)(I:∀p,PE X (.Name "_law_room" p) (fX 0)):uv X B P5:=by
 let#[F,h,G,Y]:=b;unfold ws at h;injection h with h1 h;injection h with h2 h;injection h with L h;injection h with h4 h;injection h with U h;injection h with Z h;rw[F];show ai (aI (Ee (ou h1) (xF (ou Z) (Ej G)) (ou h2) (xF (Ej Y) (bG af)) (ou L) iT (ou h4) iT (ou U) (I _)))
end L2
namespace Fs
open PySem L2 Dk Tb Srt
def Rq(H:Hp)(i:Nat)(ys:qAf)(H2:Hp):Prop:=∃cs:List zB0,ys=cs.map V.ref/\cs.9=i/\Rows H2 cs (TN i (TN 16 0))/\aO H H2/\∀x∈cs,H x=none
variable{H:Hp}{i:Nat}{l:zB0}
theorem Rq.next{H2:Hp}{ys:qAf}{q:zB0}{X:HO}(z:Rq H i ys H2)(L:H2 l=none)(I:H2 q=none)(ne:q≠l):Rq H (i+1) (ys++[.ref q]) (upd (upd H2 l X) q (.lst (TN 16 (V.int 0)))):=by
 let#[cs,rfl,Y,R,s,U]:=z;let G:aO H2 (upd (upd H2 l X) q (.lst (TN 16 (V.int 0)))):=λb o e=>(by rw[ay (bb e I),ay (bb e L)];show e);show#[cs++[q],by rw[yl];rfl,by rw[ti,Y];rfl,?_,s.trans G,λx F=>?_]
 .rw[<-Fp (TN 16 (0:Int)) i];show j7 #[?_,WM] (R.same G);rw[ag,Yl]
 .rcases Wf.mp F with F|F
  .show U x F
  .rw[sx.mp F];show s.free I
inductive FX(C:zB0)(v:qAf)(H:Hp)(Q:VK)(e:XK):Prop
 |mk(p dx:zB0)(n:Nat)(_:v=[.ref p,.int n])(_:n<=300)(_:H p=some (.ins C dx []))(_:∀(bl:zB0)(cs:qAc)(H':Hp),H bl=none->(∀x∈cs,H x=none)->bI C H' p bl 0 .bh false cs (k7 n)->Off (· = p) H H'->Q .bh H')
variable{C:zB0}
theorem E6(F:b4 K "__init__" "Disk.__init__" DQ f fd)(T:Txt K mg C):↥aU 1 f fd ["self","many"] (FX C):=by
 let#[ad,aa,ac]:=T.bn;show F.dg VP ?_;intros;let#[p,dx,n,rfl,hn,hp,k]:=h;let hs:=DD;show#[_,%[0,0,i,aH,P,b9,bJ,rfl,b0,e,a8,cc,C,aI,cF,aa,ac,i,aH,aw,i,aH,bV,k,aH,iJ|9],?_]
 show#[0,n,rfl,av,av,?_];show xZ (lo:=0) (n:=((n:Nat):Int).5) (Rq H) #[[],1,.nil,aO.refl H,λx hx=>(by cases hx)] ?_ ?_
 .intro i ys H2 hi z;show#[aE,λl1 ab=>#[l1,(16),0,51,av,av,by rw[NC];omega,λq L=>?_]];let ql:q≠l1:=λe=>(by rwa[e,ag]at L);rw[ay ql]at L;show#[?_,z.next ab L ql];let#[cs,rfl,hc,_]:=z;rw[dM];omega
 .rintro ys H2 ⟨cs,rfl,_,R,I,fr⟩ bl Y;rw[show((n:Nat):Int).5=n from XJ n]at R;let h2:=I _ _ hp;let G:p≠bl:=bb h2 Y;show#[0,p,C,dx,[],rfl,by rw[ay G];show h2,T.cl,T.nB,aE,?_];show#[0,p,C,dx,0,ag,20,102];show#[0,p,C,dx,0,ag,T.cl,T.nU,by change 2<1000;decide,?_];show#[0,p,C,dx,0,ag,T.cl,T.nF,by change 3<1000;decide,?_];show k bl cs _ (I.free Y) fr #[#[dx,ag],5] λb o e hb=>?_
  .rw[ay (zA3 G),ay (zA3 G),ay (zA3 G),ay (zA3 G),ag]
  .show Paired.xb R λa ns q=>#[?_,q.2];let U:a≠p:=zA3 (jf h2 q.1);rw[ay U,ay U,ay U,ay U,ay (bb q.1 Y)];show q.1
  .let Z:b≠p:=hb;rw[ay Z,ay Z,ay Z,ay Z,ay (bb (I _ _ e) Y)];show I _ _ e
variable{W:WW}
theorem TH{b:zB0}(F:W.A=[(("" : Str),(0:Int))])(Y:W.L=[(0,b)])(e3:W.C=[]):Wp 0 W N0 (λ_=>[]):=by
 let I:∀n,¬ n=0->N0 n=none:=λn h=>eV h;let G:N0 0=some #[true,(1),[]]:=du;show#[Pg,λp k=>?_,by rw[F];show Wq.mpr #[WX,Xj],by rw[Y];show Wq.mpr #[WX,Xj],by rw[e3];show Xj,103,103,103,by rw[F];show G0 _,λx U=>?_]
 .rw[F,sx];constructor
  .intro h;cases h;show .root
  .intro h;cases h with
   |root=>rfl
   |step _ _ c=>cases c
 .rw[Y,bH];cases c:n=0
  .rw[acW c.6,c,cL G];rfl
  .rw[acV (zA3 c)];unfold bC;rw[I n c];rfl
 .rw[e3];cases c:n=0
  .rw[c,eR G];rfl
  .unfold j5;rw[I n c];rfl
 .rw[F];change(([0]:qAa).count n:Int)=_;rw[abb];cases c:n=0
  .rw[c,fi G];rfl
  .rw[acV (λz=>c (eq_of_beq z).6)];unfold lk;rw[I n c];rfl
 .rw[F,sx]at U;rw[U];decide +kernel
inductive MM(v:qAf)(H:Hp)(Q:VK)(e:XK):Prop
 |mk (_:v=[.int 60]) (_:∀H' W,aO H H'->Wh H' W (λ_=>[]) (cells N0)->Wp 0 W N0 (λ_=>[])->(∀a∈wl W,H a=none)->Q (.ref W.a) H'):MM v H Q e
theorem DK(F:b4 K "_law_begun" "_law_begun" TB f fd):↥aU 1 f fd ["_law_room"] MM:=by
 show F.dg Tr ?_;intros;let#[rfl,k]:=h;show#[P5,?h,?_]
 case h =>
  show JD ?a ?f
  case a=>constructor<;>kernel_rfl
  case f=>show λ_=>pv 0
 intro a U G f1;let h0:Hs H []:=#[Xj,nofun];let h1:=((h0.new (o:=.dK []) U).new (o:=.dK []) f1).hd (.dK (cY [] [(.inr "",.int 0)]));let g1:=(au (X:=.dK []) U).trans (oC (X:=.dK []) (Y:=.dK (cY [] [(.inr "",.int 0)])) f1);let ac:=a8 (au (X:=.dK []) U) f1;show#[ag,[(.inr "",.int 0)],rfl,aE,?_];generalize upd (upd (upd H a (.dK [])) G (.dK [])) G (.dK (cY [] [(.inr "",.int 0)]))=H1 at *;intro p2 f2;let aa:=a8 g1 f2;let g2:=au (X:=.dK []) f2;show#[aE,λb Z=>#[(au Z) _ _ ag,[(.inl 0,.ref b)],rfl,by change 1<=15;decide,?_]];let h2:=Hs.set (c1:=[_]) ((h1.new (o:=.dK []) f2).new (o:=.lst []) Z) (.dK (cY [] [(.inl 0,.ref b)]));let ab:=a8 (g1.trans g2) Z;let s2:aO H (upd (upd (upd H1 p2 (.dK [])) b (.lst [])) p2 (.dK (cY [] [(.inl 0,.ref b)]))):=λx u e=>by
  rw[ay (bb e aa)];show((g1.trans g2).trans (au Z)) _ _ e
 generalize upd (upd (upd H1 p2 (.dK [])) b (.lst [])) p2 (.dK (cY [] [(.inl 0,.ref b)]))=H2 at *;intro L f3;let aj:=a8 s2 f3;let h3:=h2.new (o:=.dK []) f3;let s3:=s2.trans (au (X:=.dK []) f3);generalize upd H2 L (.dK [])=H3 at *;intro I f4;let ad:=a8 s3 f4;let h4:=h3.new (o:=.dK []) f4;let s4:=s3.trans (au (X:=.dK []) f4);generalize upd H3 I (.dK [])=H4 at *;show#[0,h4.at_ (a,.dK []) (by simp),[(.inr "at",.ref G),(.inr "slots",.ref p2),(.inr "cells",.ref L),(.inr "holds",.ref I),(.inr "room",.int 60)],rfl,by change 5<=15;decide,?_];let s5:aO H (upd H4 a (.dK (cY [] [(.inr "at",.ref G),(.inr "slots",.ref p2),(.inr "cells",.ref L),(.inr "holds",.ref I),(.inr "room",.int 60)]))):=λx u e=>by
  rw[ay (bb e U)];show s4 _ _ e
 let h5:=Hs.set (c1:=[_,_,_,_,_]) h4 (.dK (cY [] [(.inr "at",.ref G),(.inr "slots",.ref p2),(.inr "cells",.ref L),(.inr "holds",.ref I),(.inr "room",.int 60)]));show k _ #[a,G,p2,L,I,[("",0)],[(0,b)],[]] s5 ?_ (TH rfl rfl rfl) λx hx=>?_
 .show((h5.perm (List.reverse_perm _).6).perm (aaL [_,_,_] (XQ (l₁:=[_]) (l₂:=[_,_])))) |> λz=>?_;show z
 .simp only[wl,Wy,acz,Wf,We,WX,or_false]at hx;rcases hx with h|h|h|h|h|h<;>rw[h]<;>assumption
abbrev fF(M:cU)(z:FA)(m:M.St)(x:zB0):Prop:=M.own m x\/x=z.hd\/x=z.a\/x=z.na
variable{σ:St}
def gn{v:V}{k:St->Hp->Prop}(h:k (σ.set i (some v)) H):f9 i v σ H k:=h
variable{H':Hp}
theorem wL{a:zB0}{xs:qAf}(h:a9 K H a xs)(s:aO H H'):a9 K H' a xs:=by
 rcases h with(h|⟨o,h⟩)|h
 .show .inl (.inl (s _ _ h))
 .show .inl (.inr #[o,s _ _ h])
 .show .inr h
def AE(K:Wa):Sp:=λvs H Q _=>∃(a:zB0)(ns:qAa),vs=[.ref a]/\a9 K H a (ns.map V.int)/\ns.9<=63/\∀H',Q (.bl true) H'
variable{J J2:Hp}
def Lf.sm{G:Hp}(s:aO J G)(f:J l=none)(F:Lf l G J2):aO J J2:=λb o e=>F.off b o (s _ _ e) λz=>by rwa[z,f]at e
variable{M:cU}{z:FA}{m:M.St}{aC d:Nat}{N:NS}{h:HT}{x:zB0}
theorem gw.lv(O:M.Ok P w K mg base)(F:gw M C H z m aC N h d)(b:fF M z m x):¬ H x=none:=λe=>by
 rcases b with b|b|b|b
 .show O.live F.A b e
 .rw[b,F.hh]at e;cases e
 .let#[dx,q]:=F.ob;rwa[b,q]at e
 .let#[dx,fs,q,_]:=O.ob F.A;rwa[b,q]at e
variable{B:qa0}
theorem gw.ff(O:M.Ok P w K mg base)(F:gw M C H z m aC N h d)(o:Off B H H')(n:∀x,fF M z m x->¬ B x):gw M C H' z m aC N h d:=F.off O o (λx G=>n x (.inl G)) (n _ (.inr (.inr (.inl rfl)))) (n _ (.inr (.inr (.inr rfl)))) (n _ (.inr (.inl rfl)))
variable{m':M.St}
theorem ik.ff(s:ik M z m H m' H')(b:fF M z m' x):fF M z m x\/H x=none:=by
 rcases b with b|b
 .show(s.own x b).imp .inl id
 .show .inl (.inr b)
def ik.Lp(s:ik M z m H m' H'):Off (fF M z m) H H':=s.off.mono λ_ b=>b.imp id .inl
theorem apart{F I G:qa0}(d:∀x,F x->¬ G x)(o:∀x,I x->F x\/H x=none)(lv:∀x,G x->¬ H x=none):∀x,I x->¬ G x:=λx a b=>(o x a).elim (λa=>d x a b) (lv x b)
structure ye(M1 M2:cU)(H0 J:Hp)(z1 z2:FA)(m1:M1.St)(m2:M2.St)(W:WW):Prop where
 LB:∀x,fF M1 z1 m1 x->¬ fF M2 z2 m2 x
 Qi:∀x,fF M1 z1 m1 x->¬ x∈wl W
 Qa:∀x,fF M2 z2 m2 x->¬ x∈wl W
 s:aO H0 J
 fr:∀x,fF M1 z1 m1 x\/fF M2 z2 m2 x\/x∈wl W->H0 x=none
variable{H0 J':Hp}
def lJ(s:aO H0 J)(o:Off B J J')(f:∀x,B x->H0 x=none):aO H0 J':=λx u e=>o x u (s _ _ e) λb=>by rwa[f x b]at e
variable{M1 M2:cU}{z1 z2:FA}{m1:M1.St}{m2:M2.St}
def ye.sm(L:ye M1 M2 H0 J z1 z2 m1 m2 W)(s:aO J J'):ye M1 M2 H0 J' z1 z2 m1 m2 W:={ L with s:=L.s.trans s }
theorem ye.wo{W':WW}(L:ye M1 M2 H0 J z1 z2 m1 m2 W)(t:nZ W J W' J')(l1:∀x,fF M1 z1 m1 x->¬ J x=none)(l2:∀x,fF M2 z2 m2 x->¬ J x=none):ye M1 M2 H0 J' z1 z2 m1 m2 W' :=
 #[L.LB,λx a b=>(t.own x b).elim (L.Qi x a) (l1 x a),λx a b=>(t.own x b).elim (L.Qa x a) (l2 x a),lJ L.s t.off λx b=>L.fr x (.inr (.inr b)),λx b=>by
  rcases b with b|b|b
  .show L.fr x (.inl b)
  .show L.fr x (.inr (.inl b))
  .show(t.own x b).elim (λb=>L.fr x (.inr (.inr b))) (a8 L.s)]
theorem ye.one{m1':M1.St}(L:ye M1 M2 H0 J z1 z2 m1 m2 W)(t:ik M1 z1 m1 J m1' J')(l2:∀x,fF M2 z2 m2 x->¬ J x=none)(F:∀x,x∈wl W->¬ J x=none):ye M1 M2 H0 J' z1 z2 m1' m2 W :=
 #[apart L.LB (λ_=>t.ff) l2,apart L.Qi (λ_=>t.ff) F,L.Qa,lJ L.s t.Lp λx b=>L.fr x (.inl b),λx b=>by
  rcases b with b|b
  .show(t.ff b).elim (λb=>L.fr x (.inl b)) (a8 L.s)
  .show L.fr x (.inr b)]
theorem ye.two{m2':M2.St}(L:ye M1 M2 H0 J z1 z2 m1 m2 W)(t:ik M2 z2 m2 J m2' J')(l1:∀x,fF M1 z1 m1 x->¬ J x=none)(F:∀x,x∈wl W->¬ J x=none):ye M1 M2 H0 J' z1 z2 m1 m2' W :=
 #[λx a b=>apart (λx b a=>L.LB x a b) (λ_=>t.ff) l1 x b a,L.Qi,apart L.Qa (λ_=>t.ff) F,lJ L.s t.Lp λx b=>L.fr x (.inr (.inl b)),λx b=>by
  rcases b with b|b|b
  .show L.fr x (.inl b)
  .show(t.ff b).elim (λb=>L.fr x (.inr (.inl b))) (a8 L.s)
  .show L.fr x (.inr (.inr b))]
variable{S:SS}
theorem Wh.ff{c:qa4}(h:Wh H W S c)(o:Off B H H')(n:∀x,B x->¬ x∈wl W):Wh H' W S c:=Hs.off h o λx F b=>n x b (by rw[<-rN (S:=S) (c:=c)];show F)
theorem Wp.up{m:Nat}(h:Wp m W N S):Wp (m+1) W N S:=#[h.F,h.at_,h.nA,h.nL,h.nC,h.lL,h.lC,h.cnt,by have:=h.ln;omega,λx G=>by have:=h.kl x G;omega]
theorem Th{Pr:St->Hp->Prop}{A B R:TS}{D:Ends}(k:∀F:TS,(∀σ H,Pr σ H->F D σ H)->jA A (jA B F) D σ H)(r:∀σ H,Pr σ H->R D σ H):jA A (jA B R) D σ H:=k R r
variable{F:Hp}{t:zB0}{d:Dd}
theorem vS.jj(g:vS J t d F)(o:Off B F J2)(lv:∀x,B x->¬ J x=none):vS J t d J2:=λH'' n=>g H'' λx u a b=>n x u a (o x u b λz=>lv x z a)
def vS.at(g:vS J t d F):su F t d:=g F λ_ _ _ e=>e
theorem vS.nl{n a:Int}{cs:qAa}(g:vS J t (.write n a cs) F)(e:F t|||[.str "write_at",.int n,.int a,.ref l]):J l=none:=by
 let#[G,h1,h2]:=(g (λx=>if J x=none then F x else none) λx o a b=>(acW a).trans b:∃l,_/\_);dsimp only at h1 h2;split at h1
 .rw[e]at h1;cases h1;split at h2
  .assumption
  .cases h2
 .cases h1
theorem ET{p F:zB0}{d:Int}{q:V}{g:Bool}{cs:qAc}{bs:List (List Int)}(D:bI C H p F d q g cs bs)(h:vR p F cs x):¬ H x=none:=λe=>by
 rcases h with h|h|h
 .let#[dx,y]:=D.ob;rwa[<-h,e]at y
 .let y:=D.hb;rwa[<-h,e]at y
 .let g:∀{cs:qAc}{bs:List (List Int)},Rows H cs bs->¬ x∈cs:=λr=>by
   induction r with
   |nil=>show WX
   |cons a _ G =>
    intro m;rcases We.mp m with rfl|m
    .have:=a.1;rwa[e]at this
    .show G m
  show g D.hc h
abbrev Ry:Wo:=top 115
theorem xV:aA ["_law_script","_law_disk","_law_files","_law_other","_law_world","_law_k","_law_deed_here","_law_refused"] ["_law_script"] (ax Ry):=L2.bg
theorem NU{X:Er->zB0}{c:DA}{CN CP C1 C2 fD fP:zB0}{dD dP:DO}(F:b4 K "law" "law" Ry f fd)(L:gu K mg X)(O2:(tX c CN).Ok P w K mg base)(U:(j4 CP).Ok P w K mg base)
  (cr:↥Df 2 "_law_left" (K5 K)) (da:↥Df 3 "_law_deed" MU) (cx:↥Df 6 "_law_due" (kZ Q1)) (c7:↥Df 1 "_law_begun" MM)
  (aK:↥Df 13 "_law_tree_right" (xp (j4 CP) C2)) (cB:↥Df 13 "_law_tree_right" (xp (tX c CN) C1)) (c0:↥Df 14 "_law_tried" (DE (j4 CP) C2 X)) (dv:↥Df 14 "_law_tried" (DE (tX c CN) C1 X))
  (ci:↥Df 8 "format_disk" (NA c)) (dd:↥Df 9 "mount" (L8 c CN C1))
  (bF:Mk K c.C fD) (dr:↥aU 1 fD dD ["self","many"] (FX c.C)) (cD:mg "Disk" = some (.ref c.C)) (bm:Binds K dD ["self","many"] [])
  (ca:Mk K C2 fP) (bv:↥aU 3 fP dP ["self","blocks"] (M9 CP C2)) (bY:mg "PlainFiles" = some (.ref C2)) (bN:Binds K dP ["self","blocks"] []) :
  ↥aU 15 f fd ["_law_script"] (AE K):=by
 show F.dg xV ?_;intros;let#[sc,ns,rfl,aP,dA,k]:=h;show#[_,%[xV,hr,bk,cz,bF,dr,c2,cD,bm,bH,t,c,ci,e,Q,cz,ca,bv,c2,bY,bN,bH,aY,c,dd,e,O,4,c,c7,bH,f,cK,X,c,aK,ba,ah,co,aL,ei,ao,L.range,a,S,bz,B5,rfl,L.min,Mo,cA,a,S,aM,L.len,ds,q,av,5,O,6,c,da,a,c,cr,o,5,O,7,b6,b5,d,c,cx,d,4,a,6,a,br,dC,ao,L.str,uz,rfl,bb,bw,aF,c,c0,ba,a,6,7,s,bK,aF,c,dv,d,3,a,6,7,s,co,k,aX,bZ,bC,g,cg,5,aw,r,bE,cK,X,c,aK,ba,ah,co,b,cm,c,aK,ba,ah,cJ,c,cB,d,3,ah|9],?_]
 show λp dz f1 f2 ne=>?_;let s1:aO H (upd (upd H dz (.own p)) p (.ins c.C dz [])):=(au f2).trans (au (by rw[ay (zA3 ne)];show f1));show#[p,dz,(108),rfl,aE,ag,λbl cs H2 c5 cC D2 o2=>#[3]];let bd:aO H H2:=lJ s1 o2 λx z=>(by rw[z];show f1);let aT:H bl=none:=a8 s1 c5;let a5:∀x∈cs,H x=none:=λx G=>a8 s1 (cC x G);show#[0,p,bl,(0),cs,(60),rfl,D2,#[aE,aE],λH3 d3 ap c3 c6 D3 co z3 R3 cq o3=>?_];let dw:∀x,vR p bl cs x->H x=none:=λx G=>by
  rcases G with G|G|G
  .rw[G];show f1
  .rw[G];show aT
  .show a5 x G
 let ab:aO H H3:=lJ bd o3 dw;let a0:∀x,vR p bl ap x->H x=none:=λx G=>by
  rcases G with G|G|G
  .rw[G];show f1
  .rw[G];show aT
  .rcases cq x G with q|q
   .show a5 x q
   .show a8 bd q
 let dl:=λ{x}=>ET (x:=x) D3;show λpa dy f3 f4 bn=>?_;let s5:aO H3 (upd (upd H3 dy (.own pa)) pa (.ins C2 dy [])):=(au f4).trans (au (by rw[ay (zA3 bn)];show f3));show#[pa,dy,(60),51,aE,λH6 z1 m1 bR I bo dp cR o6=>#[3]];subst bR;let g1:∀{x:zB0},upd (upd H3 dy (.own z1.a)) z1.a (.ins C2 dy []) x=none->H3 x=none:=λe=>a8 s5 e;let aB:∀x,fF (j4 CP) z1 m1 x->H3 x=none:=λx G=>by
  rcases G with G|G|G|G
  .show g1 (bo x G)
  .rw[G];show g1 cR
  .rw[G];show f3
  .rw[G];show g1 dp
 let am:aO H3 H6:=lJ s5 o6 λx z=>(by rw[z];show f3);show#[0,p,bl,d3,ap,c3,(60),N0,c6,rfl,D3.same am,co,#[aE,aE],z3,R3,λn nd e=>(by let#[_,rfl]:=kM e;show(by decide:¬ (1:Int)=0)),λH7 z2 m2 Y bW cN b1 b2 o7=>?_];let a7:∀x,fF (tX c CN) z2 m2 x->vR p bl ap x\/H6 x=none:=λx G=>by
  rcases G with G|G|G|G
  .show bW x G
  .rw[G];show b2
  .rw[G];show cN
  .rw[G];show b1
 let a3:aO H H7:=lJ (ab.trans am) o7 a0;let LB:∀x,fF (j4 CP) z1 m1 x->¬ fF (tX c CN) z2 m2 x:=λx a b=>(a7 x b).elim (λe=>dl e (aB x a)) (I.lv U a);let I:=I.ff U o7 λx a b=>dl b (aB x a);show#[rfl,λH8 W s8 h8 p8 ar=>?_];let ck:=I;let I:=I.same U s8;let cJ:=Y;let Y:=Y.same O2 s8;let L0:ye (j4 CP) (tX c CN) H H8 z1 z2 m1 m2 W:=#[LB,λx a b=>ck.lv U a (ar x b),λx a b=>cJ.lv O2 a (ar x b),a3.trans s8,λx G=>by
  rcases G with G|G|G
  .show a8 ab (aB x G)
  .show(a7 x G).elim (a0 x) (a8 (ab.trans am))
  .show a8 a3 (ar x G)]
 let db:Je 60 N0:=KA aE;show#[0,0,z1,m1,(0),W,N0,0,I,#[h8,p8,db,aE],λH9 s9=>#[46]];let c4:0<=(if ((ns.map V.int).9:Nat)<(40:Int)then(((ns.map V.int).9:Nat):Int)else(40:Int))/\(if ((ns.map V.int).9:Nat)<(40:Int)then(((ns.map V.int).9:Nat):Int)else(40:Int))<=ns.9/\(if ((ns.map V.int).9:Nat)<(40:Int)then(((ns.map V.int).9:Nat):Int)else(40:Int))<=40:=by
  rw[dM];split<;>omega
 let L9:ye (j4 CP) (tX c CN) H H9 z1 z2 m1 m2 W:={ L0 with s:=L0.s.trans s9 };show#[0,sc,0,.inl (wL aP L9.s),_,0,0,av,av,?_];generalize (if ((ns.map V.int).9:Nat)<(40:Int)then(((ns.map V.int).9:Nat):Int)else(40:Int))=mm at c4 ⊢;show gQ (lo:=0) (n:=mm.5) (λi σ J=>∃(v5 v6 v7:Option V)(m1:(j4 CP).St)(m2:(tX c CN).St)(N:NS)(S:SS)(W:WW),σ=#v[.ref sc,.ref p,.ref z1.a,.ref z2.a,.ref W.a,v5,v6,v7]/\gw (j4 CP) C2 J z1 m1 60 N [] 0/\gw (tX c CN) C1 J z2 m2 60 N [] 0/\Wh J W S (cells N)/\Wp i W N S/\ye (j4 CP) (tX c CN) H J z1 z2 m1 m2 W) #[2,_,m1,m2,N0,_,W,rfl,I.same U s9,Y.same O2 s9,h8.sm s9,p8,L9] ?_ ?_
 .rintro i σ J hi ⟨v5,v6,v7,m1,m2,N,S,W,rfl,I,Y,hw,Z,L⟩;rw[show(0+(i:Int))=(i:Int)by omega];show gn ?_;show fj λ_ jt=>?_;show#[0,0,sc,ns,i,rfl,wL aP L.s,av,av,λJ1 l a1 fl bx=>#[l,rfl,bx,λt d J2 od dk Lb _ ds=>jt _ _ ?_]];clear jt;let ac:aO J J2:=Lb.sm a1 fl;let ds:vS J t d J2:=ds.pre λx G=>a8 a1 G;let D:Wd i J W N S:=#[hw,Z,U.ok I.A,av];let l1:=λx a=>I.lv U (x:=x) a;let l3:=λx (a:x∈wl W)=>hw.live a;show Th (Pr:=λσ J'=>∃(v7:Option V)(m1:(j4 CP).St)(m2:(tX c CN).St)(N:NS)(S:SS)(W:WW),σ=#v[.ref sc,.ref p,.ref z1.a,.ref z2.a,.ref W.a,.int (i:Int),.ref t,v7]/\gw (j4 CP) C2 J' z1 m1 60 N [] 0/\gw (tX c CN) C1 J' z2 m2 60 N [] 0/\Wh J' W S (cells N)/\Wp (i+1) W N S/\ye (j4 CP) (tX c CN) H J' z1 z2 m1 m2 W) (λR' jt=>?_) ?_
  .show#[0,0,i,W,N,S,d,#[t,rfl,ds.at,λn a cs l e1 e2 z=>l3 l z (vS.nl (e1▸ds) e2)],D.sm ac,od,dk,λe he J3 tx s3=>?_,λN' S' he J3 W' v h3 p3 w3 ea nv=>?_]
   .let ab:=ac.trans s3;let d3:vS J t d J3:=ds.mono s3;show#[2,_,true,rfl,.str tx,3];show#[0,0,z1,m1,(60),N,S,t,d,rfl,I.same U ab,Z.F,d3.at,od,λe' _ J4 s4=>?_,λN' S' aa=>(by rwa[he]at aa)];show#[0,rfl,46];let a4:=ab.trans s4;show#[0,0,z2,m2,(60),N,S,t,d,rfl,Y.same O2 a4,Z.F,(d3.mono s4).at,od,λe' _ J5 s5=>?_,λN' S' aa=>(by rwa[he]at aa)];let aj:=a4.trans s5;show#[0,rfl,0,bA (jt _ _ #[_,m1,m2,N,S,W,rfl,I.same U aj,Y.same O2 aj,hw.sm aj,Z.up,L.sm aj])]
   .obtain⟨tt,t1,t2⟩:∃tt,lY K J3 v tt/\kitOne K tt (.type "str")=some false:=by
     cases v with
     |bh=>show#[_,.bh,131]
     |int j=>show#[_,.int j,131]
     |_=>show nv.elim
    let bi:=I.same U ac;let a2:=Y.same O2 ac;let cP:=bi.ff U w3.off L.Qi;let be:=a2.ff O2 w3.off L.Qa;let L3:=(L.sm ac).wo w3 (λx a=>bi.lv U a) λx a=>a2.lv O2 a;let d3:=ds.jj w3.off l3;show#[2,_,false,rfl,t1,t2,?_];show#[0,0,z1,m1,(60),N,S,t,d,rfl,cP,Z.F,d3.at,od,λe' aa=>(by rwa[he]at aa),λN2 S2 ad J4 m1' a6 ak=>?_];rwa[he]at ad;let b0:=be.ff O2 ak.Lp λx a b=>L3.LB x b a;let h4:=h3.ff ak.Lp L3.Qi;let L4:=L3.one ak (λx a=>be.lv O2 a) λx a=>h3.live a;let d4:=d3.jj ak.Lp l1;show#[0,rfl,46];show#[0,0,z2,m2,(60),N,S,t,d,rfl,b0,Z.F,d4.at,od,λe' aa=>(by rwa[he]at aa),λN2 S2 ad J5 m2' bL as=>?_];rwa[he]at ad;show#[0,rfl,0,bA (jt _ _ #[_,m1',m2',N',S',W',by rw[ea];rfl,a6.ff U as.Lp L4.LB,bL,h4.ff as.Lp L4.Qa,p3,L4.two as (λx a=>a6.lv U a) λx a=>h4.live a])]
  .rintro σ J' ⟨v7,m1,m2,N,S,W,rfl,I,Y,hw,Z,L⟩;show#[0,6,Uu,9];show cQ (λ_=>?_) (λ_=>bA #[2,_,m1,m2,N,S,W,rfl,I,Y,hw,Z,L]);show#[0,0,z1,m1,i+1,W,N,S,rfl,I,#[hw,Z,U.ok I.A,av],λJ6 s6=>#[0,bA #[2,_,m1,m2,N,S,W,rfl,I.same U s6,Y.same O2 s6,hw.sm s6,Z,L.sm s6]]]
 .rintro σ J ⟨v5,v6,v7,m1,m2,N,S,W,rfl,I,Y,hw,Z,_⟩;let D:Wd mm.5 J W N S:=#[hw,Z,U.ok I.A,av];show#[0,0,z1,m1,_,W,N,S,rfl,I,D,λJ1 s1=>#[45]];show#[0,0,z2,m2,_,W,N,S,rfl,Y.same O2 s1,D.sm s1,λJ2 _=>k J2]
end Fs
end
namespace Fs
open PySem L2 Dk Tb Srt
def Al:Nat->(List Value->Prop)->Prop
 |0,p=>p []
 |n+1,p=>∀a,Al n λl=>p (a::l)
theorem al:∀{n:Nat}{p:List Value->Prop},Al n p->∀us:List Value,us.length=n->p us
 |0,_,h,us,e=>by cases Yc e;exact h
 |n+1,_,h,us,e=>by
  cases us with
  |nil=>cases e
  |cons a us=>exact al (h a) us (ab3 e)
inductive MI (K:Wa) (C:Addr) (m q:Str) (st:Wo) (ps:List Str):Prop
 |mk (f:Addr) (fd:DO) (_:b4 K m q st f fd) (_:Binds K fd ps []) (_:Meth K C m f):MI K C m q st ps
inductive DI (K:Wa) (x:Str) (st:Wo) (ps:List Str):Prop
 |mk (f:Addr) (fd:DO) (_:b4 K x x st f fd) (_:Binds K fd ps []) (_:nsIn K WB x=some (some (.ref f))):DI K x st ps
variable{K:Wa}{C f:Addr}{m q:Str}{st:Wo}{ps:List Str}{od an:Option Addr}{sl:Array (Option Value)}{oc kV dc pm cd ct:Value}
theorem MI.of (a:ZF K (.ref C) m=some (some (.ref f))) (i:isFn K (.ref f)=true) (l:K.lookup f=some ⟨oc,od,.func (fnOf m q (hZ st) (eW st) (ax st) .none kV dc pm an cd ct),sl⟩) (c:acC K cd q=true) (k:Xc K (.ref f)=true)
  (b:∀kV G pm an F ct,Al ps.length λus=>abQ (fnOf m q (hZ st) (eW st) (ax st) .none kV G pm an F ct) ⟨us,[]⟩=pure (ps.zip us)):MI K C m q st ps :=
 ⟨_,_,oj l c k,(oj l c k).binds λ_ _ _ _ _ _=>al (b _ _ _ _ _ _),a,i,k⟩
theorem DI.of (a:nsIn K WB m=some (some (.ref f))) (l:K.lookup f=some ⟨oc,od,.func (fnOf m m (hZ st) (eW st) (ax st) .none kV dc pm an cd ct),sl⟩) (c:acC K cd m=true) (k:Xc K (.ref f)=true)
  (b:∀kV G pm an F ct,Al ps.length λus=>abQ (fnOf m m (hZ st) (eW st) (ax st) .none kV G pm an F ct) ⟨us,[]⟩=pure (ps.zip us)):DI K m st ps :=
 ⟨_,_,oj l c k,(oj l c k).binds λ_ _ _ _ _ _=>al (b _ _ _ _ _ _),a⟩
inductive CI (K:Wa) (C:Addr) (x:Str):Prop
 |mk (_:nsIn K WB x=some (some (.ref C))) (_:qa K C) (_:makesIn K C=true) (_:Xc K (.ref C)=true):CI K C x
inductive BI (K:Wa) (C:Addr) (x q:Str) (st:Wo) (ps:List Str):Prop
 |mk (f:Addr) (fd:DO) (_:b4 K "__init__" q st f fd) (_:Binds K fd ps []) (_:nsIn K WB x=some (some (.ref C))) (_:PySem.W.FO K C f):BI K C x q st ps
variable{x:Str}
theorem BI.of(n:nsIn K WB x=some (some (.ref C))) (t:acb K (.ref C)=some (.type "type")) (r:PySem.W.readsIn K C (.type "type")=true) (a:PySem.W.findCls K (.ref C) (.type "type") "__init__" = some (.val (.ref f))) (l:K.lookup f=some ⟨oc,od,.func (fnOf "__init__" q (hZ st) (eW st) (ax st) .none kV dc pm an cd ct),sl⟩) (c:acC K cd q=true) (k:Xc K (.ref f)=true)
  (b:∀kV G pm an F ct,Al ps.length λus=>abQ (fnOf "__init__" q (hZ st) (eW st) (ax st) .none kV G pm an F ct) ⟨us,[]⟩=pure (ps.zip us)):BI K C x q st ps :=
 ⟨_,_,oj l c k,(oj l c k).binds λ_ _ _ _ _ _=>al (b _ _ _ _ _ _),n,⟨t,r,a,k⟩⟩
noncomputable def RC (e:Er):Nat:=match e with
 |.badName=>0
 |.noName=>1
 |.notDir=>2
 |.isDir=>3
 |.notEmpty=>4
 |.inside=>5
 |.noNode=>6
 |.noSpace=>7
 |.tooMany=>8
 |.tooBig=>9
 |.notHeld=>10
 |.notAllowed=>11
 |.taken=>12
noncomputable def Vx:List Str:=["BadName","NoName","NotDir","IsDir","NotEmpty","Inside","NoNode","NoSpace","TooMany","TooBig","NotAllowed","NotAllowed","Taken"]
noncomputable def KP (xs:List Addr) (e:Er):Addr:=xs.getD (RC e) 0
def XL (K:Wa) (k:Addr):List Addr->Prop
 | []=>True
 |a::r=>(abX K a pe "ValueError.__new__" = true/\exmOne K (.ref a) (.ref k)=some true)/\XL K k r
theorem yW {K:Wa}{k:Addr}:∀{r:List Addr},XL K k r->∀(j:Nat) (a:Addr),r[j]?=some a->abX K a pe "ValueError.__new__" = true/\exmOne K (.ref a) (.ref k)=some true
 | [],_,j,a,e=>by simp at e
 |b::r,h,0,a,e=>by cases e;exact h.1
 |b::r,h,j+1,a,e=>yW h.2 j a e
def YI (K:Wa):List Str->List Addr->Prop
 |n::ns,x::xs=>nsIn K WB n=some (some (.ref x))/\YI K ns xs
 |_,_=>True
theorem Gs {K:Wa}:∀{ns:List Str}{xs:List Addr},YI K ns xs->∀(j:Nat) (n:Str) (x:Addr),ns[j]?=some n->xs[j]?=some x->nsIn K WB n=some (some (.ref x))
 | [],_,_,j,n,x,e,_=>by simp at e
 |_::_,[],_,j,n,x,_,e=>by simp at e
 |m::ns,y::xs,h,0,n,x,F,G=>by cases F;cases G;exact h.1
 |m::ns,y::xs,h,j+1,n,x,F,G=>Gs h.2 j n x F G
variable{mg:Str->Option Value}
theorem Qf{F:Heap}{xs:List Addr}{k:Addr}(I:K.In F) (L:F.Ns WB mg) (y:YI K Vx xs) (v:XL K k xs) (G:xs.length=13) :
  (∀e,mg (Kb e)=some (.ref (KP xs e)))/\(∀e,abX K (KP xs e) pe "ValueError.__new__" = true)/\∀e,exmOne K (.ref (KP xs e)) (.ref k)=some true:=by
 have at_:∀e,xs[RC e]?=some (KP xs e):=λe=>by
  have h:RC e<xs.length:=(by rw[G];cases e<;>decide);unfold KP;rw[List.getD_eq_getElem?_getD,y0 h];rfl
 exact⟨λe=>Yj I L (Gs y _ _ _ (by cases e<;>rfl) (at_ e)),λe=>(yW v _ _ (at_ e)).1,λe=>(yW v _ _ (at_ e)).2⟩
variable{P:BY}{w:Oi}{base:Heap}{CX:p7}{n:Nat}{sp:Sp}
theorem MI.md(h:MI K C m q st ps) (k:∀{f fd},b4 K m q st f fd->aU P w K mg base CX n f fd ps sp):Md P w K mg base CX n C m sp:=by
 obtain⟨f,fd,F,b,M⟩:=h;exact Md.mk _ _ _ (k F) b M
theorem DI.df{H:Heap}(h:DI K x st ps) (X:K.In H) (G:H.Ns WB mg) (k:∀{f fd},b4 K x x st f fd->aU P w K mg base CX n f fd ps sp):Df P w K mg base CX n x sp:=by
 obtain⟨f,fd,F,b,a⟩:=h;exact Df.mk _ _ _ (k F) b (Yj X G a) F.kp
def NI (K:Wa):List Str->Prop
 | []=>True
 |x::l=>nsIn K WB x=some none/\NI K l
def AI (K:Wa) (C:Addr):List Str->Prop
 | []=>True
 |x::l=>ZF K (.ref C) x=some none/\AI K C l
def NJ (mg:Str->Option Value):List Str->Prop
 | []=>True
 |x::l=>mg x=none/\NJ mg l
theorem Kz {K:Wa}{G:Heap}{mg:Str->Option Value}(F:K.In G) (I:G.Ns WB mg):∀{l:List Str},NI K l->NJ mg l
 | [],_=>trivial
 |_::_,h=>⟨PySem.W.mg_none_of F I h.1,Kz F I h.2⟩
def QI (K:Wa):List (Str×Int)->Prop
 | []=>True
 |(x,v)::l=>(∃t,nsIn K WB x=some (some (.int v t)))/\QI K l
def QJ (mg:Str->Option Value):List (Str×Int)->Prop
 | []=>True
 |(x,v)::l=>(∃u,mg x=some u/\RelV (.int v) u)/\QJ mg l
theorem qi_mg {K:Wa}{G:Heap}{mg:Str->Option Value}(F:K.In G) (I:G.Ns WB mg):∀{l:List (Str×Int)},QI K l->QJ mg l
 | [],_=>trivial
 |(_,_)::_,⟨⟨_,h⟩,k⟩=>⟨⟨_,Yj F I h,⟨_,rfl⟩⟩,qi_mg F I k⟩
inductive FM (K:Wa) (C:Addr):Prop
 |mk (_:MI K C "refuse_no_node" "Files.refuse_no_node" UA ["self","node"]) (_:MI K C "refuse_dir" "Files.refuse_dir" Oa ["self","node"]) (_:MI K C "refuse_no_file" "Files.refuse_no_file" US ["self","node"]) (_:MI K C "refuse_no_space" "Files.refuse_no_space" SK ["self","node","size"]) (_:MI K C "put_name" "Files.put_name" Tv ["self","parent","slots","name","node"]) (_:MI K C "drop_name" "Files.drop_name" RK ["self","parent","name"]) (_:MI K C "put_whole" "Files.put_whole" Sf ["self","node","cells"]) (_:MI K C "end_left" "Files.end_left" SY ["self","node"]) (_:MI K C "make_node" "Files.make_node" RX ["self","path","kind"]) (_:MI K C "make" "Files.make" Sa ["self","path"]) (_:MI K C "make_dir" "Files.make_dir" TM ["self","path"]) (_:MI K C "stat" "Files.stat" Vl ["self","node"]) (_:MI K C "read_at" "Files.read_at" UK ["self","node","at","many"]) (_:MI K C "write_at" "Files.write_at" Vh ["self","node","at","cells"]) (_:MI K C "link" "Files.link" Up ["self","path","new"]) (_:MI K C "unlink" "Files.unlink" Vb ["self","path"]) (_:MI K C "remove_dir" "Files.remove_dir" Ut ["self","path"]) (_:MI K C "move" "Files.move" SN ["self","path","new"]):FM K C
variable{l:Zh}
theorem all_mk{h0:Heap}{fa cD cR cN c1 cP c2 cB a4 ap a3 a6 a5 as a7 ak a1 aT aj am a2 ca da el aK:Addr}{l2:Tok}{ep:Value}{dT:Option Addr}{fv:Array (Option Value)}{bi:Array Value}{nK:Nat}(U:K.In h0) (Y:h0.Ns WB mg) (g0:mg "law" = some (.ref fa)) :
  CI K cD "Disk" -> AI K cD ["blocks","done","until_fall","fallen"]->CI K cR "Draft" -> AI K cR ["disk","drafted"]->CI K cN "Nodes" -> AI K cN ["draft","total"]->CI K c1 "DiskFiles" -> AI K c1 ["nodes","holds"]->CI K cP "PlainNodes" -> AI K cP ["total","kinds","links","lists"]->CI K c2 "PlainFiles" -> AI K c2 ["nodes","holds"]->MI K cD "refuse_no_block" "Disk.refuse_no_block" Dk.rG ["self","n"]->MI K cD "refuse_fallen" "Disk.refuse_fallen" Dk.u7 ["self"]->MI K cD "read" "Disk.read" Dk.GX ["self","n"]->MI K cD "write" "Disk.write" Dk.zF ["self","n","numbers"]->MI K cD "image" "Disk.image" Dk.yB ["self"]->DI K "forget" Dk.uY ["disk"]->DI K "recover" Dk.qA ["disk"]->DI K "commit" Dk.uy ["disk","changes"]->MI K cR "__init__" "Draft.__init__" UQ ["self","disk"]->MI K cR "read" "Draft.read" SU ["self","n"]->MI K cR "write" "Draft.write" Sb ["self","n","numbers"]->MI K cR "finish" "Draft.finish" Vn ["self"]->MI K cN "block_of_row" "Nodes.block_of_row" R4 ["self","n"]->DI K "filled" TZ ["numbers","many"]->MI K cN "row_of" "Nodes.row_of" Uk ["self","n"]->MI K cN "put_row" "Nodes.put_row" Sw ["self","n","kind","links","size","blocks"]->MI K cN "kind_of" "Nodes.kind_of" Sl ["self","n"]->MI K cN "links_of" "Nodes.links_of" RW ["self","n"]->MI K cN "size_of" "Nodes.size_of" Tn ["self","n"]->MI K cN "end_node" "Nodes.end_node" Tu ["self","n"]->MI K cN "put_links" "Nodes.put_links" Uv ["self","n","links"]->DI K "blocks_for" U3 ["size"]->MI K cN "cell_blocks" "Nodes.cell_blocks" R7 ["self","blocks"]->MI K cN "blocks_of" "Nodes.blocks_of" UH ["self","n"]->MI K cN "cells_of" "Nodes.cells_of" RZ ["self","n"]->MI K cN "finish" "Nodes.finish" U4 ["self"]->MI K cN "unused_blocks" "Nodes.unused_blocks" UI ["self"]->MI K cN "put_cells" "Nodes.put_cells" SI ["self","n","cells"]->MI K cN "begin_node" "Nodes.begin_node" Se ["self","n","kind"]->MI K cP "kind_of" "PlainNodes.kind_of" To ["self","n"]->MI K cP "links_of" "PlainNodes.links_of" Ni ["self","n"]->MI K cP "size_of" "PlainNodes.size_of" M3 ["self","n"]->MI K cP "cells_of" "PlainNodes.cells_of" LC ["self","n"]->MI K cP "finish" "PlainNodes.finish" Ob ["self"]->MI K cP "put_links" "PlainNodes.put_links" NT ["self","n","links"]->MI K cP "put_cells" "PlainNodes.put_cells" NF ["self","n","cells"]->MI K cP "begin_node" "PlainNodes.begin_node" Mq ["self","n","kind"]->MI K cP "end_node" "PlainNodes.end_node" MV ["self","n"]->DI K "free_nodes" UB ["nodes"]->DI K "free_blocks" Rz ["nodes"]->DI K "node_named" R6 ["slots","name"]->DI K "slots_without" So ["slots","name"]->DI K "cells_of_slot" SF ["slot"]->DI K "slot_in" UJ ["cells"]->DI K "put_slots" Si ["nodes","n","slots"]->DI K "slots_of" Nv ["nodes","n"]->DI K "lengthened" Sz ["cells","size"]->DI K "is_name" RE ["text"]->DI K "names_of" RQ ["path"]->DI K "names_in" Nn ["slots"]->DI K "refuse_full" Ss ["slots"]->DI K "slots_with" MK ["slots","name","node"]->DI K "refuse_no_dir" TR ["nodes","n"]->DI K "way_along" SM ["nodes","names"]->DI K "way_to_new" Ul ["nodes","names"]->DI K "refuse_no_place" Vd ["at"]->DI K "steps_within" Nz ["nodes","step"]->DI K "walk" Ua ["nodes"]->DI K "tree_row" Sn ["files","path","node"]->DI K "tree" Sv ["files"]->BI K cB "Files" "Files.__init__" UE ["self","nodes"]->MI K cN "__init__" "Nodes.__init__" Uc ["self","disk"]->MI K cP "__init__" "PlainNodes.__init__" Mn ["self","total"]->MI K c1 "__init__" "DiskFiles.__init__" T6 ["self","disk"]->MI K c2 "__init__" "PlainFiles.__init__" Vo ["self","blocks"]->DI K "format_disk" UR ["disk"]->DI K "end_nameless" Vk ["nodes"]->DI K "mount" Su ["disk"]->DI K "_law_done" T4 ["_law_files","_law_deed_here"]->DI K "_law_tried" SX ["_law_files","_law_deed_here"]->DI K "_law_alike" Rx ["_law_found_here","_law_due_here"]->DI K "_law_mixed" Uq ["_law_cell","_law_k"]->DI K "_law_digit" Tf ["_law_left_here","_law_many"]->DI K "_law_left" RU ["_law_script","_law_k"]->DI K "_law_path" Uo ["_law_left_here"]->DI K "_law_node" UO ["_law_left_here"]->DI K "_law_deed" RV ["_law_left_here"]->DI K "_law_names" N8 ["_law_path_here"]->DI K "_law_blocks" Sj ["_law_many"]->DI K "_law_links" Vc ["_law_world","_law_node_here"]->DI K "_law_full" TQ ["_law_world","_law_text"]->DI K "_law_spare" U5 ["_law_world"]->DI K "_law_lacks" Ub ["_law_world","_law_text"]->DI K "_law_seek" TU ["_law_world","_law_pieces"]->DI K "_law_found" SQ ["_law_world","_law_path_here"]->DI K "_law_spot" Ve ["_law_world","_law_path_here"]->DI K "_law_put" UX ["_law_world","_law_text","_law_path_here","_law_node_here"]->DI K "_law_freed" MS ["_law_world","_law_text"]->DI K "_law_cleared" Oe ["_law_world","_law_node_here"]->DI K "_law_made" SO ["_law_world","_law_path_here","_law_kind"]->DI K "_law_unlinked" M7 ["_law_world","_law_path_here"]->DI K "_law_removed" Mm ["_law_world","_law_path_here"]->DI K "_law_linked" N7 ["_law_world","_law_path_here","_law_new"]->DI K "_law_resized" S9 ["_law_world","_law_node_here","_law_size"]->DI K "_law_written" SD ["_law_world","_law_node_here","_law_at","_law_some"]->DI K "_law_moved" Lk ["_law_world","_law_path_here","_law_new"]->DI K "_law_named_due" Mz ["_law_world","_law_deed_here"]->DI K "_law_due" Mt ["_law_world","_law_deed_here"]->DI K "_law_due_tree" Sk ["_law_world"]->DI K "_law_tree_right" M8 ["_law_files","_law_world"]->MI K cD "__init__" "Disk.__init__" DQ ["self","many"]->DI K "_law_begun" TB ["_law_room"]->DI K "law" Ry ["_law_script"]->FM K c1->FM K c2->QI K [("BLOCK_NUMBERS",16),("FIRST_LIST",2),("NODES",24),("FIRST_ROWS",28),("FIRST_CONTENTS",48),("ROW_NUMBERS",8),("ROW_BLOCKS",5),("NEAR_BLOCKS",4),("SLOT_CELLS",8),("NAME_LETTERS",6),("DIR_SLOTS",40),("NODE_CELLS",320),("ROOT",0)]->nsIn K WB "LETTERS" = some (some (.str vi l2))->NI K ["len","list","range","sorted","enumerate","all","isinstance","tuple","int","str","bool","zip","abs","min","max","sum"]->nsIn K WB "NoBlock" = some (some (.ref ca))->nsIn K WB "Fallen" = some (some (.ref da))->nsIn K WB "KernelError" = some (some (.ref el))->YI K Vx [a4,ap,a3,a6,a5,as,a7,ak,a1,aT,aj,am,a2]->XL K el [a4,ap,a3,a6,a5,as,a7,ak,a1,aT,aj,am,a2]->abX K ca pe "ValueError.__new__" = true->abX K da pe "ValueError.__new__" = true->nsIn K WB "KINDS" = some (some (.ref aK))->K.lookup aK=some ⟨ep,dT,.seq bi nK,fv⟩->ep=.type "tuple" -> dT=none->Vals [V.bh,V.str "file",V.str "dir"] bi.toList->bi.size<=3 ->
  ∃fd:DO,(∀(s:sh) (v:Value),abP s fd ⟨[v],[]⟩ [("_law_script",v)])/\∀base:Heap,K.In base->base.Ns WB mg->aU l.prog w K mg base ba 15 fa fd ["_law_script"] (AE K):=by
 intro hM ml f1 ny lq mt n8 hh fb io n7 pp nz hR hr eK g7 ma jr iQ on hT fV h4 hb hO pT hJ ha ob mb lm l8 kQ ga iN hl gP fr n4 oD fg pw f4 nk p5 la nh l3 k9 oJ mK pA lx eL f3 g5 gi p8 f5 hz nB pl go g8 pr hW op m8 lP gt e5 eJ i1 e4 mu nu hv mc o8 ku gE ev i4 ix ih kj li mm f7 hB oA lz nD mx mN m7 pi hq fz l4 kE j1 pk ln mn jp hx hA im oT ms ql hp n1 fh hX hQ eD hN gK q0 lr yX vX vB vF yK lK oK dK vK wK;obtain⟨eF,oR,pu,qn⟩:=hM;obtain⟨o6,ls,gd,eH,_⟩:=ml;obtain⟨hL,pC,ft,m3⟩:=f1;obtain⟨fq,i0,_⟩:=ny;obtain⟨cJ,hK,cr,c7⟩:=lq;obtain⟨oH,ij,_⟩:=mt;obtain⟨p3,e6,k8,fx⟩:=n8;obtain⟨l0,nt,_⟩:=hh;obtain⟨hP,o9,o0,nT⟩:=fb;obtain⟨i2,n0,eM,eS,_⟩:=io;obtain⟨iv,h5,oo,mF⟩:=n7;obtain⟨g3,o2,_⟩:=pp;obtain⟨ab,a0,be,ci,eC,dR,kF,pD,oe,ly,kk,f6,e7,lu,hH,eb,_⟩:=Kz U Y hN;obtain⟨b0,gB,hf,hS,m4,mo,pn,il,dF,d0,fu,gb,iF,_⟩:=qi_mg U Y hQ;obtain⟨fB,dB,FB,bB,aB,iB⟩:=eJ;obtain⟨rT,rg,hE,o5,ee⟩:=id ql;obtain⟨r6,q2,po,it,ek⟩:=id on;obtain⟨r0,rv,mR,dd,ac⟩:=id i1;obtain⟨rk,r1,nU,n3,ew⟩:=id mu;obtain⟨q5,q1,o3,g9,dy⟩:=id e4;obtain⟨rr,rc,eN,h6,dW⟩:=id nu;obtain⟨ry,sa,l7,dp,c0⟩:=id hr;obtain⟨r5,q4,m6,bW,cC⟩:=id eK;obtain⟨rx,q6,o1,ec,ei⟩:=id nz;obtain⟨q3,rt,f8,eu,eh⟩:=id hR;obtain⟨ra,q7,bF,ez,eg⟩:=id ma;obtain⟨r8,q9,bY,ey,et⟩:=id jr;obtain⟨q8,ri,dO,k0,h9⟩:=id iQ;obtain⟨r7,nv,er,rz,nN⟩:=id n1;have e:=g0.symm.trans (Yj U Y nN);cases e;refine⟨nv,λs v=>?_,λbase _ _=>?_⟩
 .obtain⟨oc,od,kV,r3,pm,an,ro,ct,r4,rfl,lk,r2⟩:=er.ex;exact .of_eq rfl
 have TC:Dk.Txt K mg cD:=⟨oR,o6,ls,gd,eH,ab,a0,be,b0⟩;have JT:Dk.Jt mg:=⟨b0,gB,ci,eC,ab,be⟩;have TD:Fl K mg ⟨cD,cR⟩:=⟨pC,fq,i0,a0,ab⟩;have KT:∀a,(∃u,mg "KINDS" = some u/\RelV (.ref a) u)->∃o,K.lookup a=some o/\o.cls=.type "tuple" /\ o.dict=none:=λa ⟨u,hu,r⟩=>by
  have e:=hu.symm.trans (Yj U Y yK);cases e;cases r;exact⟨_,lK,oK,dK⟩
 have I:mJ K mg cN:=⟨hK,oH,ij,b0,hf,hS,m4,mo,pn,il,⟨aK,⟨_,Yj U Y yK,rfl⟩,.inr ⟨_,bi,nK,lK,oK,rfl,WK wK aE,vK⟩⟩,KT,ab,be,eC⟩;have TP:Dh K mg cP:=⟨o9,i2,n0,eM,eS,ab,a0⟩;have TL:Rc K mg:=⟨⟨_,Yj U Y eD,⟨_,rfl⟩⟩,dF,d0⟩;obtain⟨x1,x2,x4⟩:=Qf U Y yX vX rfl;have Z:pP K mg (KP [a4,ap,a3,a6,a5,as,a7,ak,a1,aT,aj,am,a2]):=⟨x1,x2,⟨_,Yj U Y eD,⟨_,rfl⟩⟩,d0,dF,fu,gb,iF,ab,dR,a0,ci⟩;have L:gu K mg (KP [a4,ap,a3,a6,a5,as,a7,ak,a1,aT,aj,am,a2]):=⟨kF,a0,pD,oe,ly,kk,ab,dR,f6,e7,lu,hH,eb,ci,be⟩;have ed:ie K c1:=⟨e6,l0,nt⟩;have eo:ie K c2:=⟨h5,g3,o2⟩;have XT:Dk.Jg K mg "NoBlock" ca:=⟨Yj U Y gK,vB⟩;have XF:Dk.Jg K mg "Fallen" da:=⟨Yj U Y q0,vF⟩;have dD:∀{CX:p7}{n:Nat}{x:Str}{st:Wo}{ps:List Str}{sp:Sp},DI K x st ps->(∀{f fd},b4 K x x st f fd->aU l.prog w K mg base CX n f fd ps sp)->Df l.prog w K mg base CX n x sp:=λh k=>h.df U Y k;have G:∀{CX:p7}{n:Nat}{C:Addr}{m q:Str}{st:Wo}{ps:List Str}{sp:Sp},MI K C m q st ps->(∀{f fd},b4 K m q st f fd->aU l.prog w K mg base CX n f fd ps sp)->Md l.prog w K mg base CX n C m sp:=λh k=>h.md k;have gN:=Dk.yT (P:=l.prog) (w:=w) (base:=base) o1 TC XT;have gF:=Dk.BQ (P:=l.prog) (w:=w) (base:=base) f8 TC XF;have gR:=Dk.JZ l7 TC gN ec ei gF eu eh;have gW:=Dk.DN m6 TC gN ec ei gF eu eh;have eA:=Dk.BH bF JT TC gW bW cC;have gV:=Dk.zD bY JT TC gR dp c0 gW bW cC eA ⟨Yj U Y eg,bF.kp,ez⟩;have i7:=Dk.Co dO JT TC gR dp c0 gW bW cC gV ⟨Yj U Y et,bY.kp,ey⟩;have e9:=Df.mk _ _ _ eA ez (Yj U Y eg) bF.kp;have je:=Df.mk _ _ _ gV ey (Yj U Y et) bY.kp;have kv:=Df.mk _ _ _ i7 k0 (Yj U Y h9) dO.kp;have em:=Md.mk _ _ _ gR dp c0;have ld:=G g7 λF=>Dk.G4 F TC;have nH:=FD (P:=l.prog) (w:=w) (base:=base) po TD;have bn:=G hT λF=>G7 F TD TC em;have eq:=G fV λF=>Cz F TD;have nf:=G h4 λF=>yo F TD TC em kv;have d3:=G hb λF=>IG F I;have dA:=dD hO λF=>JG F I;have ad:=G pT λF=>FK F I TD d3 bn;have bo:=G hJ λF=>B6 F I TD d3 bn eq dA;have nP:=G ha λF=>BC F I ad;have d5:=G ob λF=>yq F I ad;have d2:=G mb λF=>CT F I ad;have bL:=G lm λF=>zb F I bo;have nS:=G l8 λF=>xq F I ad bo;have bl:=dD kQ λF=>ug F I;have ef:=G ga λF=>sq F I;have dv:=G iN λF=>vW F I TD ad bl bn;have qm:=G hl λF=>yH F I TD dv ef bn d2;have bR:=G gP λF=>yR F I TD nf;have eT:=G fr λF=>CJ F I dv;have ii:=G n4 λF=>xO F I TD dv eT bl ef eq dA ad bo;have ej:=G oD λF=>vg F I bo;have O1:=Lx I nP d5 d2 qm ej bL nS ii bR;have fW:=G fg λF=>Gk F TP;have py:=G pw λF=>C7 F TP;have f0:=G f4 λF=>GY F TP;have ov:=G nk λF=>CG F TP;have gl:=G p5 λF=>JC F TP;have fR:=G la λF=>EI F TP;have kw:=G nh λF=>Gi F TP;have hw:=G l3 λF=>BB F TP;have ji:=G k9 λF=>IQ F TP;have O2:=Mw TP fW py f0 ov hw ji fR kw gl;have l5:=dD pA λF=>uB F;have ea:=dD lx λF=>pJ F;have o7:=dD eL λF=>rD F I TL;have hg:=dD f3 λF=>C0 F I TL;have fc:=dD p8 λF=>sO F I;have nr:=dD f5 λF=>CH F Z;have ar:=dD hz λF=>zI F Z nr;have c4:=dD nB λF=>zk F Z;have b1:=dD pl λF=>sI F Z c4;have hc:=dD go λF=>vy F Z;have dL:=dD op λF=>ot F Z;have e0:=xy (P:=l.prog) (w:=w) (base:=base) (mg:=mg) FB ed;have hn:=xy (P:=l.prog) (w:=w) (base:=base) (mg:=mg) FB eo;have cx:=uu mR I TC ⟨ft,ek.at_,ek.fn,m3⟩ nH (Yj U Y hL) it ld;have kl:=ue (P:=l.prog) (w:=w) (base:=base) o3 TP Z;have hj:=uA nU ⟨_,Yj U Y aB,rfl⟩ iB e0 bB ⟨cr,ac.at_,ac.fn,c7⟩ cx (Yj U Y cJ) dd;have pa:=sf eN ⟨_,Yj U Y aB,rfl⟩ iB hn bB ⟨o0,dy.at_,dy.fn,nT⟩ kl (Yj U Y hP) g9;have hm:=dD hv λF=>BO F I Z e9 ⟨cr,ac.at_,ac.fn,c7⟩ cx (Yj U Y cJ) dd bL ej bR;have o4:=dD mc λF=>rY F I d5 bL bR;have kT:=dD o8 λF=>GJ F je o4 ⟨cr,ac.at_,ac.fn,c7⟩ cx (Yj U Y cJ) dd ⟨k8,ew.at_,ew.fn,fx⟩ hj (Yj U Y p3) n3;have GA:∀n,Df l.prog w K mg base ba n "_law_alike" (BL n):=λn=>by
  induction n with
  |zero=>exact dD ev λF=>Pa
  |succ n h=>exact dD ev λF=>Cw F L n h
 have p1:=dD i4 λF=>Fc F;have bv:=dD ix λF=>Dm F;have e1:=dD ih λF=>JO F L p1;have fm:=dD kj λF=>Jy F L bv;have nC:=dD li λF=>Iz F bv;have qk:=dD mm λF=>Hr F bv fm nC;have bd:=dD f7 λF=>Cp F L;have db:=dD hB λF=>Ca F L;have dz:=dD oA λF=>Gh F L;have c5:=dD lz λF=>Ii F L;have dw:=dD nD λF=>GL F L db;have c3:=dD mx λF=>Fm F L db dw;have dN:=dD mN λF=>HI F L;have bm:=dD m7 λF=>DF F L bd dN;have bN:=dD pi λF=>Ht F L bd dN;have bx:=dD hq λF=>LH F L;have cq:=dD fz λF=>G6 F L;have hC:=dD l4 λF=>zy F L dz;have lC:=dD kE λF=>Ju F L bN c5 c3 bx;have hk:=dD j1 λF=>xo F L bm cq hC;have he:=dD pk λF=>zt F L bm cq;have m9:=dD ln λF=>Cr F L bd bm bN c5 c3 bx;have kN:=dD mn λF=>y8 F L db dw;have lA:=dD jp λF=>zz F L kN;have p0:=dD hx λF=>He F L bd bm bN c5 c3 cq bx;have hY:=dD hA λF=>v9 F L lC m9 he p0 hk;have lc:=dD im λF=>Li F L hY lA;have e8:=dD oT λF=>yM F L dz;have AF:∀{M:cU}{C:Addr},M.Ok l.prog w K mg base->ie K C->FM K C->Df l.prog w K mg base ba 14 "_law_tried" (DE M C (KP [a4,ap,a3,a6,a5,as,a7,ak,a1,aT,aj,am,a2]))/\Df l.prog w K mg base ba 13 "_law_tree_right" (xp M C):=by
  intro M C O TF hF;obtain⟨lw,i6,e2,kS,nw,qc,h7,mW,ll,h3,nA,ng,gs,hD,p4,nc,mp,hy⟩:=hF;have nF:=dD oJ λF=>uS F I O;have lL:=dD mK λF=>sA F I (eb) O bl;have dr:=dD g5 λF=>vU F I O o7;have aa:=dD gi λF=>yg F I TL O hg;have c6:=dD g8 λF=>qz F Z O;have aP:=dD pr λF=>xD F Z O c6 l5 aa;have ck:=dD hW λF=>xK F Z O aP c6 c4 aa;have d4:=G lw λF=>pK F Z TF O;have b2:=G i6 λF=>uQ F Z TF O;have d6:=G e2 λF=>pI F Z TF O d4 b2;have en:=G kS λF=>ox F Z TF O bl lL;have co:=G nw λF=>zh F Z TF O hc en dr;have d1:=G qc λF=>xk F TF O ea aa dr;have jt:=G h7 λF=>wX F Z TF O en;have h8:=G mW λF=>yJ F TF O;have eB:=G ll λF=>wb F Z TF O ar ck aa b1 nF co;have gU:=G h3 λF=>Jq F TF eB;have ge:=G nA λF=>yL F TF eB;have qy:=G ng λF=>Iq F Z TF O d4;have oL:=G gs λF=>Ci F TF O d6 dL;have kz:=G hD λF=>yV F Z TF O d6 dL fc jt;have hI:=G p4 λF=>JX F TF O ar aP b2 ck aa b1 co;have m0:=G nc λF=>Cs F TF O ar aP b2 d1 h8;have ns:=G mp λF=>tY F Z TF O ar aP c6 c4 aa d1;have n2:=G hy λF=>Ig F Z TF O ar aP ck aa ea b1 co dr;have jl:=dD m8 λF=>rW F O aa;have ol:=dD lP λF=>HS F Z O jl;have gJ:=dD gt λF=>zj F TF O qy oL;have ht:=dD e5 λF=>IE F TF O ol gJ;have lp:=dD ku λF=>HK F Z TF O gU ge m0 ns hI n2 kz;have n5:=dD gE λF=>FY F (Yj U Y lr) x4 lp;exact⟨n5,dD ms λF=>ui F L O ht (GA 4) e8⟩
 obtain⟨l6,lf⟩:=AF O1 ed fh;obtain⟨j2,fy⟩:=AF O2 eo hX;have my:=E6 (P:=l.prog) (w:=w) (base:=base) hE TC;have nL:=dD hp λF=>DK F;exact NU er L O1 O2 e1 qk lc nL fy lf j2 l6 hm kT ⟨pu,ee.at_,ee.fn,qn⟩ my (Yj U Y eF) o5 ⟨oo,dW.at_,dW.fn,mF⟩ pa (Yj U Y iv) h6
theorem walk{q:BY}{loose:List Str}{XP:(Str->Option Value)->Heap->Prop}{I:Oi->Heap->Prop}{d:DefRec}{K:Params->Wa}(U:l.most=some 63) (aa:d.params.defaults=[])
  (Z:∀(w:Oi) (h:Heap),I w h->(K w.params).In h)
  (F:∀(w:Oi) (mg:Str->Option Value) (G:Addr) (h:Heap),(K w.params).In h->h.Ns WB mg->mg d.name=some (.ref G) ->
   ∃fd:DO,(∀(s:sh) (u:Value),abP s fd ⟨[u],[]⟩ [("_law_script",u)])/\∀base:Heap,(K w.params).In base->base.Ns WB mg->aU l.prog w (K w.params) mg base ba 15 G fd ["_law_script"] (AE (K w.params))) :
  acA q loose XP I l.row.toRowW d [] (λf vs=>acF f vs):=
 L2.IW (n:=63) (k:=15) (x := "_law_script") (CX:=λ_=>ba) (sp:=λw=>AE (K w.params)) U aE aa ⟨rfl,aE,aE⟩ Z F (λ_ _ a ns L _ Y=>⟨a,ns,rfl,Y,L,λ_=>rfl⟩) λ_ _ _ _ _ z=>z
end Fs
open PySem PySem.W PyProof.Rows
theorem PySem.Challenge.cw_ownroom_k48_trees_holds : PySem.Challenge.rw_ownroom_k48_trees.Holds := by
 refine Hd.top2 ?_
 k_fill
 refine Fs.walk (l:=PySem.Challenge.rw_ownroom_k48_trees) rfl rfl (λw h Y=>PySem.W.kIn_of Y) ?F
 case F =>
  intro w mg fa h KX G hmg;apply Fs.all_mk KX G hmg
  all_goals try apply Fs.FM.mk
  all_goals first
   |(apply Fs.MI.of<;>first|k_is|(first|exact λ_ _ _ _ _ _ _=>rfl|exact λ_ _ _ _ _ _ _ _=>rfl|exact λ_ _ _ _ _ _ _ _ _=>rfl|exact λ_ _ _ _ _ _ _ _ _ _=>rfl|exact λ_ _ _ _ _ _ _ _ _ _ _=>rfl|exact λ_ _ _ _ _ _ _ _ _ _ _ _=>rfl))
   |(apply Fs.DI.of<;>first|k_is|(first|exact λ_ _ _ _ _ _ _=>rfl|exact λ_ _ _ _ _ _ _ _=>rfl|exact λ_ _ _ _ _ _ _ _ _=>rfl|exact λ_ _ _ _ _ _ _ _ _ _=>rfl|exact λ_ _ _ _ _ _ _ _ _ _ _=>rfl|exact λ_ _ _ _ _ _ _ _ _ _ _ _=>rfl))
   |(apply Fs.CI.mk;k_is;(constructor<;>k_is);k_is;k_is)
   |(unfold Fs.NI;repeat' first|apply And.intro|exact trivial|k_is|unfold Fs.NI)
   |(unfold Fs.AI;repeat' first|apply And.intro|exact trivial|k_is|unfold Fs.AI)
   |(apply Fs.BI.of<;>first|k_is|(first|exact λ_ _ _ _ _ _ _=>rfl|exact λ_ _ _ _ _ _ _ _=>rfl))
   |k_is|rfl|k_exc|exact .cons rfl (.cons ⟨_,rfl⟩ (.cons ⟨_,rfl⟩ .nil))|exact le_refl 3
   |(repeat' first|exact trivial|refine And.intro ?_ ?_|refine Exists.intro _ ?_|k_exc|kts_exm|kit_is|k_is|(constructor<;>k_is))
